import PyProof.Rows.All
import Wide.All
import OpenK.AllK
import Wide.FinOn
import Lean
import PyProof.EqAt
import PyProof.EqKinds
import PyProof.TupleCall
import PyProof.P3Eq
import PyProof.NeKinds
import PyProof.StationsW
import PyProof.ExcClass3
import PyProof.NsDelKeeps
import PyProof.RulesAs
import PyProof.ListRange
import PyProof.ExcArgsOwn
import PyProof.IsiH_list
import PySem.Challenge.RW_sureroad_k15_whole_sure_is_sure
set_option Elab.async false
set_option linter.all false
set_option maxRecDepth 100000
set_option maxHeartbeats 4000000
def PySem.W.Fast.tw1501219511041526700:=0
def PySem.W.Fast.tw16595084371832807752:=0
def PySem.W.Fast.tw14257951341750292862:=0
def PySem.W.Fast.tw3024016527087749787:=0
def PySem.W.Fast.tw2512488545609353305:=0
def PySem.W.Fast.tw10750055477452633520:=0
def PySem.W.Fast.tw8423639434525495437:=0
def PySem.W.Fast.tw3558744226332467763:=0
def PySem.W.Fast.tw12288097209888748858:=0
def PySem.W.Fast.tw2209178555099541969:=0
def PySem.W.Fast.tw14382837603077054216:=0
def PySem.W.Fast.tw8479744520346268010:=0
def PySem.W.Fast.tw1117785472690616688:=0
def PySem.W.Fast.tw151704205541890214:=0
def PySem.W.Fast.tw12403098891603517312:=0
def PySem.W.Fast.tw3035727133022127941:=0
def PySem.W.Fast.tw16571672304741082444:=0
def PySem.W.Fast.tw13096934544596187129:=0
noncomputable section
namespace L2
open PySem PySem.Spec PyProof.Rows
abbrev Key:=Sum Int Str
def sy:Key->Value->Bool
 |.inl k,v=>Value.isInt k v
 |.inr x,v=>Value.isStrOf x v
def Ei(w:World):Key->Int
 |.inl k=>hashInt k
 |.inr x=>hashStr w x
theorem cS:∀{k:Key}{v:Value},sy k v=true->(∃i t,k=Sum.inl i/\v=Value.int i t)\/(∃x t,k=Sum.inr x/\v=Value.str x t)
 |.inl i,v,h=>by
  obtain⟨t,e⟩:=Value.isInt_shape (k:=i) (v:=v) h;exact .inl ⟨i,t,rfl,e⟩
 |.inr x,v,h=>by
  obtain⟨t,e⟩:=Value.isStrOf_shape (x:=x) (v:=v) h;exact .inr ⟨x,t,rfl,e⟩
theorem yy(i:Int)(t:Tok):sy (.inl i) (.int i t)=true:=by simp[sy,Value.isInt]
theorem yk(x:Str)(t:Tok):sy (.inr x) (.str x t)=true:=by simp[sy,Value.isStrOf]
theorem CK(a b:Int):decide ((Sum.inl a:Key)=Sum.inl b)=(a == b):=by
 by_cases e:a=b
 ·subst e;simp
 ·have h:¬(Sum.inl a:Key)=Sum.inl b:=fun q=>e (Sum.inl.inj q)
  rw[decide_eq_false h];exact(beq_eq_false_iff_ne.mpr e).symm
theorem Co(a b:Str):decide ((Sum.inr a:Key)=Sum.inr b)=decide (a=b):=by
 by_cases e:a=b
 ·subst e;simp
 ·have h:¬(Sum.inr a:Key)=Sum.inr b:=fun q=>e (Sum.inr.inj q)
  rw[decide_eq_false h,decide_eq_false e]
theorem Ca(a:Int)(b:Str):decide ((Sum.inl a:Key)=Sum.inr b)=false:=decide_eq_false (fun q=>nomatch q)
theorem Ce(a:Str)(b:Int):decide ((Sum.inr a:Key)=Sum.inl b)=false:=decide_eq_false (fun q=>nomatch q)
def cU(prog:Program)(w:World):PySem.KeyKind prog w Key where
 is:=sy
 hash:=Ei w
 inj:=fun v a b ha hb=>by
  rcases cS ha with ⟨i,t,rfl,rfl⟩|⟨x,t,rfl,rfl⟩
  ·rcases cS hb with ⟨j,u,rfl,e⟩|⟨y,u,rfl,e⟩
   ·injection e with e1 _;rw[e1]
   ·exact nomatch e
  ·rcases cS hb with ⟨j,u,rfl,e⟩|⟨y,u,rfl,e⟩
   ·exact nomatch e
   ·injection e with e1 _;rw[e1]
 byValue:=fun k v h=>by
  rcases cS h with ⟨i,t,rfl,rfl⟩|⟨x,t,rfl,rfl⟩<;>rfl
 pyHash:=fun hv h=>by
  rcases cS hv with ⟨i,t,rfl,rfl⟩|⟨x,t,rfl,rfl⟩
  ·exact wpAny_pyHash_int h
  ·exact wpAny_pyHash_str h
 eqBool:=fun hu hv h=>by
  rcases cS hu with ⟨i,t,rfl,rfl⟩|⟨x,t,rfl,rfl⟩
  ·rcases cS hv with ⟨j,u,rfl,rfl⟩|⟨y,u,rfl,rfl⟩
   ·rw[CK] at h;exact wpAny_eqBool_int h
   ·rw[Ca] at h;exact SeqAt.EqAt.int_str i t y u _ _ _ _ h
  ·rcases cS hv with ⟨j,u,rfl,rfl⟩|⟨y,u,rfl,rfl⟩
   ·rw[Ce] at h;exact SeqAt.EqAt.str_int x t j u _ _ _ _ h
   ·rw[Co] at h;exact wpAny_eqBool_str h
 «strs»:=fun k x t v h=>by
  rcases cS h with ⟨i,u,rfl,e⟩|⟨y,u,rfl,e⟩
  ·exact nomatch e
  ·injection e with e1 _
   subst e1;cases v<;>rfl
theorem uD(prog:Program)(w:World)(i:Int)(t:Tok):(cU prog w).is (.inl i) (.int i t)=true:=yy i t
theorem uP(prog:Program)(w:World)(x:Str)(t:Tok):(cU prog w).is (.inr x) (.str x t)=true:=yk x t
end L2
namespace L2
open PySem PySem.Spec PyProof.Rows
inductive V where
 |EJ|bl (b:Bool)|int (i:Int)|str (x:Str)|OT (b:Array UInt8)|OU (b:UInt64)|ref (a:Addr)|ty (n:String)
 deriving DecidableEq
def RelV:V->Value->Prop
 |.EJ,u=>u=Value.none
 |.bl b,u=>u=Value.bool b
 |.int i,u=>∃t,u=Value.int i t
 |.str x,u=>∃t,u=Value.str x t
 |.OT b,u=>∃t,u=Value.bytes b t
 |.OU b,u=>∃t,u=Value.float b t
 |.ref a,u=>u=Value.ref a
 |.ty n,u=>u=Value.type n
abbrev Vals:List V->List Value->Prop:=Paired RelV
theorem Vals.length{xs:List V}{us:List Value}(r:Vals xs us):xs.length=us.length:=Paired.length r
theorem Vals.get:∀{xs:List V}{us:List Value}{i:Nat}{x:V},Vals xs us->xs[i]?=some x->∃u,us[i]?=some u/\RelV x u
 |_,_,_,_,.nil,e=>by simp at e
 |_,_,0,_,.cons r _,e=>by simp at e;subst e;exact⟨_,rfl,r⟩
 |_,_,i+1,x,.cons _ t,e=>by
  obtain⟨u,h1,h2⟩:=Vals.get (i:=i) (x:=x) t (by simpa using e);exact⟨u,by simpa using h1,h2⟩
theorem Vals.set{x:V}{u:Value}(r:RelV x u):∀{xs:List V}{us:List Value}(i:Nat),Vals xs us->Vals (xs.set i x) (us.set i u)
 |_,_,_,.nil=>.nil
 |_,_,0,.cons _ t=>.cons r t
 |_,_,i+1,.cons q t=>.cons q (Vals.set r i t)
theorem Vals.append:∀{xs ys:List V}{us ws:List Value},Vals xs us->Vals ys ws->Vals (xs++ys) (us++ws)
 |_,_,_,_,.nil,s=>s
 |_,_,_,_,.cons r t,s=>.cons r (Vals.append t s)
theorem Vals.take:∀{xs:List V}{us:List Value}(n:Nat),Vals xs us->Vals (xs.take n) (us.take n)
 |_,_,0,_=>.nil
 |_,_,_+1,.nil=>.nil
 |_,_,n+1,.cons r t=>.cons r (Vals.take n t)
theorem Vals.drop:∀{xs:List V}{us:List Value}(n:Nat),Vals xs us->Vals (xs.drop n) (us.drop n)
 |_,_,0,r=>r
 |_,_,_+1,.nil=>.nil
 |_,_,n+1,.cons _ t=>Vals.drop n t
theorem Vals.none_of:∀{xs:List V}{us:List Value}{i:Nat},Vals xs us->xs[i]?=none->us[i]?=none:=fun {xs us i} r e=>by
 have h1:=r.length;have h2:xs.length<=i:=List.getElem?_eq_none_iff.mp e;exact List.getElem?_eq_none_iff.mpr (by omega)
def G9:Option V->Option Value->Prop
 |some v,some u=>RelV v u
 |none,none=>True
 |_,_=>False
def KV{κ:Type}:List (κ×V)->List (κ×Value)->Prop:=Paired fun(p:κ×V) (q:κ×Value)=>p.1=q.1/\RelV p.2 q.2
def kV:Key->V
 |.inl i=>.int i
 |.inr x=>.str x
inductive HO where
 |lst (xs:List V)
 |tup (xs:List V)
 |dK (kvs:List (Key×V))|dT (kvs:List (List Key×V))
 |set (S:Int->Bool) (n:Nat)
 |ins (C dx:Addr) (fs:List (Str×V))
 |own (x:Addr)
 |xd (fs:List (Str×V))
 |met (f x:Addr)
 |PJ (lo hi:Int)
 |Lr (o:Obj) (u:HO)
 |Ot (ps:Array Value)
 |ext (φ:Heap->Prop)
abbrev Hp:=Addr->Option HO
def upd(H:Hp)(a:Addr)(o:HO):Hp:=fun b=>if b=a then some o else H b
theorem bB{H:Hp}{a:Addr}{o:HO}:upd H a o a=some o:=by unfold upd;rw[if_pos rfl]
theorem bf{H:Hp}{a b:Addr}{o:HO}(h:b≠a):upd H a o b=H b:=by unfold upd;rw[if_neg h]
theorem Ds{H:Hp}{a b:Addr}{o u:HO}(h:H a=some o)(h':H b=some u)(d:o≠u):a≠b:=by
 intro e;subst e;rw[h] at h';exact d (Option.some.inj h')
theorem aY{H:Hp}{a b:Addr}{o:HO}(h:H a=some o)(h':H b=none):a≠b:=by
 intro e;subst e;rw[h] at h';cases h'
section
variable(P:Program)(w:World)
def Fq(H:Hp)(h:Heap)(a:Addr):HO->Prop
 |.lst xs=>xs.length<=sizeLine/\∃(u_:List Value) (n:Nat),Vals xs u_/\h.get? a=some { cls:=.type "list",data:=.seq u_.toArray n }
 |.tup xs=>xs.length<=sizeLine/\∃u_:List Value,Vals xs u_/\IsTup h a u_.toArray
 |.dK kvs=>kvs.length<=sizeLine/\(a == sysModules)=false/\∃vs,KV kvs vs/\h.DictOf (cU P w) a vs
 |.dT kvs=>kvs.length<=sizeLine/\(a == sysModules)=false/\∃xs:List (List Key×Addr×Value),
   Paired (fun(p:List Key×V) (q:List Key×Addr×Value)=>p.1=q.1/\H q.2.1=some (.tup (p.1.map kV))/\RelV p.2 q.2.2) kvs xs/\
   ∃o es ep,h.get? a=some o/\o.ExactDict/\o.data=.dict es ep/\es.toList=xs.map (entryOfKey (tupleKind (cU P w)))/\(xs.map (·.1)).Nodup
 |.set S n=>h.SetOf (intKind P w) a S n
 |.ins C dx fs=>H dx=some (.own a)/\fs.length<=1000/\dx≠a/\h.get? a=some (PySem.W.instObj C dx)/\
   ∃mA,h.Ns1 dx mA/\(∀f,G9 (fs.lookup f) (mA f))/\PySem.Within mA (fs.map (·.1))
 |.own _=>∃o,h.get? a=some o
 |.xd fs=>∃mA,h.Ns1 a mA/\∀f,G9 (fs.lookup f) (mA f)
 |.PJ lo hi=>∃t u v,h.get? a=some { cls:=.type "range",data:=.fields #[.int lo t,.int hi u,.int 1 v] }
 |.Lr o u=>h.get? a=some o/\Fq H h a u
 |.Ot ps=>h.get? a=some { cls:=.none,data:=.fields ps }
 |.met f x=>h.get? a=some (PySem.W.methodObj (.ref f) (.ref x))
 |.ext φ=>φ h/\(∃o,h.get? a=some o)/\∀h1 h2:Heap,φ h1->(∀o,h1.get? a=some o->h2.get? a=some o)->φ h2
def GH(H:Hp)(h:Heap):Prop:=∀a o,H a=some o->Fq P w H h a o
end
section
variable{P:Program}{w:World}{H H':Hp}{h h':Heap}{a:Addr}{o:HO}
theorem Fq.lt(x:Fq P w H h a o):a<h.objs.size:=by
 cases o with
 |lst xs=>obtain⟨_,_,_,_,e⟩:=x;exact Heap.lt_size e
 |tup xs=>obtain⟨_,_,_,p⟩:=x;exact p.lt
 |dK kvs=>obtain⟨_,_,_,_,o,_,_,e,_⟩:=x;exact Heap.lt_size e
 |dT kvs=>obtain⟨_,_,_,_,o,_,_,e,_⟩:=x;exact Heap.lt_size e
 |set S n=>obtain⟨o,_,_,_,e,_⟩:=x;exact Heap.lt_size e
 |ins C dx fs=>obtain⟨_,_,_,e,_⟩:=x;exact Heap.lt_size e
 |own y=>obtain⟨_,e⟩:=x;exact Heap.lt_size e
 |xd fs=>obtain⟨_,⟨_,_,_,e,_⟩,_⟩:=x;exact Heap.lt_size e
 |PJ lo hi=>obtain⟨_,_,_,e⟩:=x;exact Heap.lt_size e
 |Lr ob u=>obtain⟨e,_⟩:=x;exact Heap.lt_size e
 |Ot ps=>exact Heap.lt_size (show h.get? a=some _ from x)
 |met f y=>exact Heap.lt_size (show h.get? a=some _ from x)
 |ext φ=>obtain⟨_,⟨_,e⟩,_⟩:=x;exact Heap.lt_size e
theorem Paired.OV{α β:Type}{F G:α->β->Prop}:∀{Qc:List α}{Qd:List β},Paired F Qc Qd->(∀a b,F a b->G a b)->Paired G Qc Qd
 |_,_,.nil,_=>.nil
 |_,_,.cons r t,f=>.cons (f _ _ r) (Paired.OV t f)
theorem Fq.Iq(x:Fq P w H h a o)(k:∀b u,(b=a\/H b=some (.own a))->h.get? b=some u->h'.get? b=some u)
  (ho:∀b,H b=some (.own a)->H' b=some (.own a)) (ht:∀b xs,H b=some (.tup xs)->H' b=some (.tup xs)):Fq P w H' h' a o:=by
 induction o with
 |lst xs=>obtain⟨z,u_,n,r,e⟩:=x;exact⟨z,u_,n,r,k _ _ (.inl rfl) e⟩
 |tup xs=>obtain⟨z,u_,r,ob,e,c⟩:=x;exact⟨z,u_,r,ob,k _ _ (.inl rfl) e,c⟩
 |dK kvs=>obtain⟨z,y,vs,r,ob,es,ep,e,c⟩:=x;exact⟨z,y,vs,r,ob,es,ep,k _ _ (.inl rfl) e,c⟩
 |dT kvs=>
  obtain⟨z,y,xs,r,ob,es,ep,e,c⟩:=x;exact⟨z,y,xs,Paired.OV r fun p q z=>⟨z.1,ht _ _ z.2.1,z.2.2⟩,ob,es,ep,k _ _ (.inl rfl) e,c⟩
 |set S n=>obtain⟨ob,es,ep,t,e,c⟩:=x;exact⟨ob,es,ep,t,k _ _ (.inl rfl) e,c⟩
 |ins C dx fs=>
  obtain⟨d,z,ne,e,mA,⟨od,es,ep,e2,c⟩,r⟩:=x;exact⟨ho _ d,z,ne,k _ _ (.inl rfl) e,mA,⟨od,es,ep,k _ _ (.inr d) e2,c⟩,r⟩
 |own y=>obtain⟨ob,e⟩:=x;exact⟨ob,k _ _ (.inl rfl) e⟩
 |xd fs=>obtain⟨mA,⟨od,es,ep,e,c⟩,r⟩:=x;exact⟨mA,⟨od,es,ep,k _ _ (.inl rfl) e,c⟩,r⟩
 |PJ lo hi=>obtain⟨t,u,v,e⟩:=x;exact⟨t,u,v,k _ _ (.inl rfl) e⟩
 |Lr ob u ih=>obtain⟨e,q⟩:=x;exact⟨k _ _ (.inl rfl) e,ih q⟩
 |Ot ps=>
  have e:h.get? a=some { cls:=.none,data:=.fields ps }:=x;show h'.get? a=some { cls:=.none,data:=.fields ps };exact k a _ (.inl rfl) e
 |met f y=>
  have e:h.get? a=some (PySem.W.methodObj (.ref f) (.ref y)):=x;show h'.get? a=some (PySem.W.methodObj (.ref f) (.ref y));exact k a _ (.inl rfl) e
 |ext φ=>obtain⟨p,⟨o,e⟩,st⟩:=x;exact⟨st _ _ p fun o q=>k _ _ (.inl rfl) q,⟨o,k _ _ (.inl rfl) e⟩,st⟩
theorem GH.lt(x:GH P w H h)(e:H a=some o):a<h.objs.size:=(x a o e).lt
theorem GH.fresh(x:GH P w H h)(e:h.objs.size<=a):H a=none:=by
 cases q:H a with
 |none=>rfl
 |some u=>exact absurd (Nat.lt_of_lt_of_le (x.lt q) e) (Nat.lt_irrefl _)
theorem GH.kept(x:GH P w H h)(k:∀b u,h.get? b=some u->h'.get? b=some u):GH P w H h':=fun a o e=>
 (x a o e).Iq (fun b u _ q=>k b u q) (fun _ q=>q) fun _ _ q=>q
theorem GH.laid(x:GH P w H h)(k:∀b u,h.get? b=some u->h'.get? b=some u)(hp:h.objs.size<=a)(new:Fq P w (upd H a o) h' a o):GH P w (upd H a o) h':=fun b u e=>by
 have hn:=x.fresh hp;by_cases hb:b=a
 ·subst hb;rw[bB] at e;cases e;exact new
 ·rw[bf hb] at e;exact(x b u e).Iq (fun c v _ q=>k c v q) (fun c q=>by rw[bf (aY q hn)];exact q) fun c xs q=>by rw[bf (aY q hn)];exact q
end
def Rd(H:Hp)(a:Addr)(u:HO):Prop:=H a=some u\/∃o,H a=some (.Lr o u)
theorem Rd.of{H:Hp}{a:Addr}{u:HO}(h:H a=some u):Rd H a u:=.inl h
theorem Rd.ok{P:Program}{w:World}{H:Hp}{h:Heap}{a:Addr}{u:HO}(r:Rd H a u)(x:GH P w H h):Fq P w H h a u:=by
 rcases r with r|⟨o,r⟩
 ·exact x a u r
 ·obtain⟨_,q⟩:=x a _ r;exact q
def Qe:Option HO->Prop
 |some (.lst _)=>True
 |some (.dK _)=>True
 |some (.dT _)=>True
 |some (.set _ _)=>True
 |some (.ins _ _ _)=>True
 |some (.ext _)=>True
 |_=>False
section
variable{P:Program}{w:World}{H:Hp}{h h':Heap}{x e:Addr}{o':HO}
theorem GH.write(ok:GH P w H h)(mu:Qe (H x))(he:e=x\/H e=some (.own x))(k:∀b u,b≠e->h.get? b=some u->h'.get? b=some u)(PK:∃u,h'.get? e=some u)
  (new:Fq P w (upd H x o') h' x o'):GH P w (upd H x o') h':=fun b u q=>by
 have Qf:∀c y,H c=some (.own y)->c≠x:=fun c y r z=>by subst z;rw[r] at mu;exact mu
 have R4:∀c xs,H c=some (.tup xs)->c≠x:=fun c xs r z=>by subst z;rw[r] at mu;exact mu
 by_cases hb:b=x
 ·subst hb;rw[bB] at q;cases q;exact new
 ·rw[bf hb] at q;by_cases Jv:b=e
  ·have q':H b=some (.own x):=by
    rcases he with z|z
    ·exact absurd (Jv.trans z) hb
    ·rw[Jv];exact z
   rw[q] at q';cases q';obtain⟨v,hv⟩:=PK;exact⟨v,by rw[Jv];exact hv⟩
  ·refine(ok b u q).Iq (fun c v hc r=>k c v ?_ r) (fun c r=>by rw[bf (Qf c b r)];exact r) fun c xs r=>by rw[bf (R4 c xs r)];exact r
   rcases hc with rfl|hc
   ·exact Jv
   ·rintro rfl;rcases he with z|z
    ·exact Qf c b hc z
    ·rw[hc] at z;cases z;exact hb rfl
end
structure Un(fs ex:List Addr)(H H':Hp)(h h':Heap):Prop where
 keep:∀b o,h.get? b=some o->H b=none->b∉fs->b∉ex->h'.get? b=some o
 slot:∀b o,h.get? b=some o->H b=none->b∈fs->b∉ex->∃sl,h'.get? b=some { o with slots:=sl }
 free:∀b o,h.get? b=some o->H b=none->b∉ex->H' b=none
 there:∀b o,h.get? b=some o->b∉ex->∃o',h'.get? b=some o'
 HK:∀b xs,H b=some (.tup xs)->H' b=some (.tup xs)
 HC:∀b o u,H b=some (.Lr o u)->H' b=some (.Lr o u)
 HL:∀b ps,H b=some (.Ot ps)->∃more,H' b=some (.Ot (ps++more))
section
variable{fs R5 ex VH:List Addr}{H H1 H2:Hp}{h h1 h2 h':Heap}{a x e:Addr}{o:HO}
theorem Un.any(u:Un fs ex H H1 h h1){b:Addr}{ob:Obj}(q:h.get? b=some ob)(n:H b=none)(hx:b∉ex):∃sl,h1.get? b=some { ob with slots:=sl }:=by
 by_cases hb:b∈fs
 ·exact u.slot b ob q n hb hx
 ·exact⟨ob.slots,u.keep b ob q n hb hx⟩
theorem Un.trans(a:Un fs ex H H1 h h1)(b:Un fs ex H1 H2 h1 h2):Un fs ex H H2 h h2 where
 keep:=fun c ob q n hc hx=>b.keep c ob (a.keep c ob q n hc hx) (a.free c ob q n hx) hc hx
 slot:=fun c ob q n hc hx=>by
  obtain⟨sl,e1⟩:=a.slot c ob q n hc hx;obtain⟨R6,e2⟩:=b.slot c _ e1 (a.free c ob q n hx) hc hx;exact⟨R6,e2⟩
 free:=fun c ob q n hx=>by
  obtain⟨o',e1⟩:=a.there c ob q hx;exact b.free c o' e1 (a.free c ob q n hx) hx
 there:=fun c ob q hx=>by
  obtain⟨o',e1⟩:=a.there c ob q hx;exact b.there c o' e1 hx
 HK:=fun c xs q=>b.HK c xs (a.HK c xs q)
 HC:=fun c ob xs q=>b.HC c ob xs (a.HC c ob xs q)
 HL:=fun c ps q=>by
  obtain⟨m1,e1⟩:=a.HL c ps q;obtain⟨m2,e2⟩:=b.HL c _ e1;exact⟨m1++m2,by rw[e2,Array.append_assoc]⟩
theorem Un.kept(k:∀b u,h.get? b=some u->h'.get? b=some u):Un fs ex H H h h':=
 ⟨fun b ob q _ _ _=>k b ob q,fun b ob q _ _ _=>⟨ob.slots,k b ob q⟩,fun _ _ _ n _=>n,fun b ob q _=>⟨ob,k b ob q⟩,fun _ _ q=>q,fun _ _ _ q=>q,fun _ ps q=>⟨#[],by rw[q];simp⟩⟩
theorem Un.refl:Un fs ex H H h h:=Un.kept fun _ _ q=>q
theorem Un.laid(k:∀b u,h.get? b=some u->h'.get? b=some u)(hp:h.objs.size<=a)(hn:H a=none):Un fs ex H (upd H a o) h h' where
 keep:=fun b u q _ _ _=>k b u q
 slot:=fun b u q _ _ _=>⟨u.slots,k b u q⟩
 free:=fun b u q n _=>by rw[bf (Nat.ne_of_lt (Nat.lt_of_lt_of_le (Heap.lt_size q) hp))];exact n
 there:=fun b u q _=>⟨u,k b u q⟩
 HK:=fun b xs q=>by rw[bf (aY q hn)];exact q
 HC:=fun b u xs q=>by rw[bf (aY q hn)];exact q
 HL:=fun b ps q=>⟨#[],by rw[bf (aY q hn),q];simp⟩
theorem Un.write(mu:Qe (H x))(he:e=x\/H e=some (.own x))(k:∀b u,b≠e->h.get? b=some u->h'.get? b=some u)(PK:∃u,h'.get? e=some u):Un fs ex H (upd H x o) h h':=by
 have hx:∀b,H b=none->b≠x:=fun b n z=>by subst z;rw[n] at mu;exact mu
 have hb:∀b,H b=none->b≠e:=fun b n z=>by
  subst z;rcases he with r|r
  ·exact hx b n r
  ·rw[n] at r;cases r
 have hm:∀b u,H b=some u->¬Qe (some u)->b≠x:=fun b u q nm z=>by subst z;rw[q] at mu;exact nm mu
 refine⟨fun b u q n _ _=>k b u (hb b n) q,fun b u q n _ _=>⟨u.slots,k b u (hb b n) q⟩,fun b u q n _=>by rw[bf (hx b n)];exact n,fun b u q _=>?_,
  fun b xs q=>by rw[bf (hm b _ q fun z=>z)];exact q,fun b u xs q=>by rw[bf (hm b _ q fun z=>z)];exact q,fun b ps q=>⟨#[],by rw[bf (hm b _ q fun z=>z),q];simp⟩⟩
 by_cases Jv:b=e
 ·subst Jv;exact PK
 ·exact⟨u,k b u Jv q⟩
theorem Un.mono(u:Un fs ex H H1 h h1)(hs:∀b∈fs,b∈R5)(hx:∀b∈ex,b∈VH):Un R5 VH H H1 h h1:=
 ⟨fun b ob q n hb he=>u.keep b ob q n (fun z=>hb (hs b z)) fun z=>he (hx b z),fun _ _ q n _ he=>u.any q n fun z=>he (hx _ z),fun b ob q n he=>u.free b ob q n fun z=>he (hx b z),fun b ob q he=>u.there b ob q fun z=>he (hx b z),u.HK,u.HC,u.HL⟩
end
def Rg(h:Heap)(H:Hp):List Addr:=(List.range h.objs.size).filter fun a=>(H a).isSome
def sH(h:Heap)(H:Hp):Heap:=PySem.W.hideAll h (Rg h H)
theorem yc(h:Heap)(H:Hp):(sH h H).objs.size=h.objs.size:=PySem.W.hideAll_size _ _
theorem zg{h:Heap}{H:Hp}{b:Addr}{o:Obj}(e:h.get? b=some o)(n:H b=none):(sH h H).get? b=some o:=
 PySem.W.hideAll_get _ e fun hm=>by
  have q:(H b).isSome=true:=(List.mem_filter.mp hm).2;rw[n] at q;simp at q
theorem Ay{h:Heap}{H:Hp}{b:Addr}{o:Obj}(e:(sH h H).get? b=some o):h.get? b=some o/\H b=none:=by
 have e':h.get? b=some o:=PySem.W.of_hideAll (Rg h H) e;refine⟨e',?_⟩;cases q:H b with
 |none=>rfl
 |some x=>
  have hm:b∈Rg h H:=List.mem_filter.mpr ⟨List.mem_range.mpr (Heap.lt_size e'),by simp[q]⟩;have z:(sH h H).get? b=none:=PySem.W.hideAll_none (Rg h H) hm;rw[z] at e;cases e
def AM(g h:Heap)(L:Addr):List (Addr×Obj):=(List.range h.objs.size).filterMap fun a=>if a=L\/(g.get? a).isSome=true then none else (h.get? a).map fun o=>(a,o)
def rest(g h:Heap)(L d:Addr):List (Addr×Obj):=(AM g h L).filter fun p=>decide (p.1≠d)
end L2
namespace L2
open PySem PySem.Spec PyProof.Rows
structure Mod(K:PySem.W.Frag)(mg:Str->Option Value)(base:Heap):Prop where
 PL:K.In base
 glob:base.Ns mainGlobals mg
 blt:∃mb,base.Ns builtinsNs mb/\∀x:Str,x≠"__name__"->mb x=bootBuiltins x
 nolimit:base.NoLimit
structure Cx where
 prog:Program
 w:World
 K:PySem.W.Frag
 mg:Str->Option Value
 base:Heap
 A:Around
 N:List Str
 GC:Shared
 ME:Hp
 env:Env
 outer:List Env
 stack:List Env
 ex:List Addr
 fn:Str->Bool
 calm:Bool
 pn:List (Addr×Obj)
 xe:Value->Shared->Prop
def Ll(l:List Env):List Addr:=l.filterMap (·.frame)
abbrev Cx.fs(X:Cx):List Addr:=Ll X.outer
def R7(sc:Scope)(x:Str):Prop:=sc.names.lookup x=some .local\/sc.names.lookup x=some .cell\/sc.names.lookup x=some .free
def Loc(sc:Scope)(x:Str):Prop:=sc.names.lookup x=some .local\/sc.names.lookup x=some .cell
def Look(env:Env)(h:Heap)(m:Str->Option Value)(x:Str)(u:Value):Prop:=
 (env.kindOf x=some .local/\m x=some u)\/((env.kindOf x=some .cell\/env.kindOf x=some .free)/\∃c,env.cells.lookup x=some c/\h.IsCell c (some u))
structure Cx.Ok(X:Cx):Prop where
 mod:Mod X.K X.mg X.base
 kind:X.env.scope.kind=.function
 glob:X.env.globals=mainGlobals
 blt:X.env.builtins=builtinsNs
 above:X.GC.heap.objs.size<=X.env.locals
 inj:∀x y c,X.env.cells.lookup x=some c->X.env.cells.lookup y=some c->x=y
 has:∀x,(X.env.kindOf x=some .cell\/X.env.kindOf x=some .free)->∃c,X.env.cells.lookup x=some c
 PM:∀x c,X.fn x=true->X.env.cells.lookup x=some c->X.GC.heap.objs.size<=c
 hd:X.calm=true->X.A.handled=none
 frames:X.A.frames=some X.stack
 Qg:X.stack=X.outer\/(X.stack=X.env :: X.outer/\X.env.frame=some X.env.locals)
 R8:∀b∈X.ex,b≠X.env.locals/\∀x c,X.env.cells.lookup x=some c->c≠b
 bs:∀b o,X.base.get? b=some o->X.GC.heap.get? b=some o/\X.ME b=none
 Mu:X.base.objs.size<=X.GC.heap.objs.size
 Mc:∀b o,X.base.get? b=some o->b∉X.ex
 MF:∀b∈X.ex,b∉X.fs
 HY:X.GC.heap.FunFrames X.base X.outer
 ND:∀b∈X.fs,X.ME b=none
structure Inv(X:Cx)(pins:List (Addr×Obj))(σ:List (Option V))(H:Hp)(s:Shared):Prop where
 ok:X.Ok
 os:s.os=X.GC.os
 bare:AllBare s.gens
 base:Un X.fs X.ex X.ME H X.GC.heap s.heap
 loc:∃m,s.heap.Ns X.env.locals m/\∀(i:Nat) (x:Str) (v:V),X.N[i]?=some x->σ[i]?=some (some v)->R7 X.env.scope x->∃u,RelV v u/\Look X.env s.heap m x u
 cell:∀x c,X.env.cells.lookup x=some c->∃v,s.heap.IsCell c v
 free:H X.env.locals=none
 Hg:∀x c,X.env.cells.lookup x=some c->H c=none
 pin:∀p∈X.pn++pins,s.heap.get? p.1=some p.2/\H p.1=none/\p.1≠X.env.locals/\p.1∉X.fs/\∀v,p.2.data≠.cell v
 EW:GH X.prog X.w H s.heap
 len:σ.length=X.N.length
section
variable{X:Cx}{pins:List (Addr×Obj)}{σ:List (Option V)}{H H':Hp}{s:Shared}{h':Heap}
theorem Cx.Ok.R9(ok:X.Ok){b:Addr}{o:Obj}(e:X.base.get? b=some o):b∉X.fs:=fun hb=>by
 have:=(ok.HY.mem hb).1;rw[e] at this;cases this
theorem Inv.bs(I:Inv X pins σ H s):∀b o,X.base.get? b=some o->s.heap.get? b=some o/\H b=none:=fun b o e=>
 ⟨I.base.keep b o (I.ok.bs b o e).1 (I.ok.bs b o e).2 (I.ok.R9 e) (I.ok.Mc b o e),I.base.free b o (I.ok.bs b o e).1 (I.ok.bs b o e).2 (I.ok.Mc b o e)⟩
theorem Inv.bk(I:Inv X pins σ H s):∀b o,X.base.get? b=some o->s.heap.get? b=some o:=fun b o e=>(I.bs b o e).1
theorem Inv.mod(I:Inv X pins σ H s):Mod X.K X.mg X.base:=I.ok.mod
theorem Inv.IS(I:Inv X pins σ H s):X.K.In s.heap:=I.ok.mod.PL.keeps I.bk
theorem Inv.nolimit(I:Inv X pins σ H s):s.heap.NoLimit:=I.ok.mod.nolimit.keeps I.bk
theorem Inv.fr(I:Inv X pins σ H s):∃m,Fr X.base X.env.locals s.heap m:=
 let ⟨m,hn,_⟩:=I.loc
 ⟨m,hn,I.bk,Nat.le_trans I.ok.Mu I.ok.above⟩
theorem Inv.lt(I:Inv X pins σ H s):X.env.locals<s.heap.objs.size:=let ⟨_,hn,_⟩:=I.loc;hn.lt
theorem Inv.sz(I:Inv X pins σ H s):X.GC.heap.objs.size<=s.heap.objs.size:=Nat.le_trans I.ok.above (Nat.le_of_lt I.lt)
theorem Inv.R_(I:Inv X pins σ H s){a:Addr}(h:s.heap.objs.size<=a):a∉X.fs:=fun hb=>by
 obtain⟨_,o,ho,_⟩:=I.ok.HY.mem hb;exact absurd (Nat.lt_of_lt_of_le (Heap.lt_size ho) (Nat.le_trans I.sz h)) (Nat.lt_irrefl _)
theorem Inv.OW(I:Inv X pins σ H s):∀x c,X.env.cells.lookup x=some c->c≠X.env.locals:=fun x c e z=>by
 obtain⟨v,o,ho,hd⟩:=I.cell x c e;obtain⟨m,⟨o',es,ep,Ls,Jw,_⟩,_⟩:=I.loc;rw[z,Ls] at ho;cases ho;rw[Jw] at hd;cases hd
theorem Inv.HY(I:Inv X pins σ H s):s.heap.FunFrames X.base X.outer:=by
 have all:∀(l:List Env),(∀b∈Ll l,b∈X.fs)->X.GC.heap.FunFrames X.base l->s.heap.FunFrames X.base l:=by
  intro l
  induction l with
  |nil=>intro _ _;trivial
  |cons env r ih=>
   intro hs hl;obtain⟨hk,⟨L,o,hf,hn,ho,hd⟩,hr⟩:=hl;have hL:L∈X.fs:=hs L (by unfold Ll;rw[List.filterMap_cons,hf];exact List.mem_cons_self);obtain⟨sl,e⟩:=I.base.slot L o ho (I.ok.ND L hL) hL fun z=>I.ok.MF L z hL
   exact⟨hk,⟨L,_,hf,hn,e,hd⟩,ih (fun b hb=>hs b (by unfold Ll;rw[List.filterMap_cons,hf];exact List.mem_cons_of_mem _ hb)) hr⟩
 exact all X.outer (fun _ hb=>hb) I.ok.HY
theorem Inv.stack(I:Inv X pins σ H s):s.heap.FunFrames X.base X.stack:=by
 rcases I.ok.Qg with e|⟨e,hf⟩
 ·rw[e];exact I.HY
 ·rw[e];obtain⟨m,hn,_⟩:=I.loc;refine .cons (by rw[I.ok.kind];decide) hf hn ?_ I.HY;exact Heap.get?_none_of_le (Nat.le_trans I.ok.Mu I.ok.above)
theorem Inv.Kj(I:Inv X pins σ H s):∀b∈Ll X.stack,b∈X.env.locals :: X.fs:=fun b hb=>by
 rcases I.ok.Qg with e|⟨e,hf⟩
 ·rw[e] at hb;exact List.mem_cons_of_mem _ hb
 ·rw[e] at hb;unfold Ll at hb;rw[List.filterMap_cons,hf] at hb;exact hb
theorem Inv.Kk(I:Inv X pins σ H s):∀b∈Ll X.stack,H b=none:=fun b hb=>by
 rcases List.mem_cons.mp (I.Kj b hb) with e|hb
 ·rw[e];exact I.free
 ·obtain⟨_,o,ho,_⟩:=I.ok.HY.mem hb;exact I.base.free b o ho (I.ok.ND b hb) fun z=>I.ok.MF b z hb
theorem Inv.step{g':Array GenState}{t':Nat}{d':Drawn}{ch:List Addr}(I:Inv X pins σ H s)
  (Mv:∀b∈ch,(b∈X.ex\/X.GC.heap.objs.size<=b)/\b≠X.env.locals/\(∀x c,X.env.cells.lookup x=some c->c≠b)/\∀p∈X.pn++pins,p.1≠b)
  (keep:∀b o,b≠X.env.locals->b∉X.fs->b∉ch->s.heap.get? b=some o->H b=none->h'.get? b=some o)
  (slot:∀b o,b≠X.env.locals->b∈X.fs->b∉ch->s.heap.get? b=some o->H b=none->∃sl,h'.get? b=some { o with slots:=sl }) (free:∀b o,b∉ch->s.heap.get? b=some o->H b=none->H' b=none)
  (there:∀b o,b∉ch->s.heap.get? b=some o->∃o',h'.get? b=some o')
  (HK:∀b xs,H b=some (.tup xs)->H' b=some (.tup xs)) (HC:∀b o u,H b=some (.Lr o u)->H' b=some (.Lr o u)) (HL:∀b ps,H b=some (.Ot ps)->∃more,H' b=some (.Ot (ps++more)))
  (ns:∀m,s.heap.Ns X.env.locals m->h'.Ns X.env.locals m) (EW:GH X.prog X.w H' h') (hg:AllBare g') :
  Inv X pins σ H' { s with heap:=h',gens:=g',drawn:=d',toks:=t' }:=by
 have VI:∀b o,X.GC.heap.get? b=some o->b≠X.env.locals:=fun b o e=>Nat.ne_of_lt (Nat.lt_of_lt_of_le (Heap.lt_size e) I.ok.above)
 have Rh:∀b o,X.GC.heap.get? b=some o->b∉X.ex->b∉ch:=fun b o e hx hb=>by
  rcases (Mv b hb).1 with z|z
  ·exact hx z
  ·exact absurd (Nat.lt_of_lt_of_le (Heap.lt_size e) z) (Nat.lt_irrefl _)
 have cellK:∀x c,X.env.cells.lookup x=some c->∀v,s.heap.IsCell c v->h'.IsCell c v:=fun x c e v ⟨o,ho,hd⟩=>by
  have Qh:c∉ch:=fun z=>(Mv c z).2.2.1 x c e rfl
  by_cases hc:c∈X.fs
  ·obtain⟨sl,q⟩:=slot c o (I.OW x c e) hc Qh ho (I.Hg x c e);exact⟨_,q,hd⟩
  ·exact⟨o,keep c o (I.OW x c e) hc Qh ho (I.Hg x c e),hd⟩
 refine⟨I.ok,I.os,hg,⟨fun b o e n hb hx=>?_,fun b o e n hb hx=>?_,fun b o e n hx=>?_,fun b o e hx=>?_,fun b xs e=>HK b xs (I.base.HK b xs e),fun b o xs e=>HC b o xs (I.base.HC b o xs e),fun b ps e=>?_⟩,?_,fun x c e=>?_,?_,fun x c e=>?_,fun p hp=>?_,EW,I.len⟩
 ·exact keep b o (VI b o e) hb (Rh b o e hx) (I.base.keep b o e n hb hx) (I.base.free b o e n hx)
 ·obtain⟨sl,e1⟩:=I.base.slot b o e n hb hx;obtain⟨R6,e2⟩:=slot b _ (VI b o e) hb (Rh b o e hx) e1 (I.base.free b o e n hx);exact⟨R6,e2⟩
 ·obtain⟨o',e1⟩:=I.base.there b o e hx;exact free b o' (Rh b o e hx) e1 (I.base.free b o e n hx)
 ·obtain⟨o',e1⟩:=I.base.there b o e hx;exact there b o' (Rh b o e hx) e1
 ·obtain⟨m1,e1⟩:=I.base.HL b ps e;obtain⟨m2,e2⟩:=HL b _ e1;exact⟨m1++m2,by rw[e2,Array.append_assoc]⟩
 ·obtain⟨m,hn,hl⟩:=I.loc;refine⟨m,ns m hn,fun i x v e1 e2 e3=>?_⟩;obtain⟨u,r,l⟩:=hl i x v e1 e2 e3;refine⟨u,r,?_⟩;rcases l with l|⟨k,c,e,z⟩
  ·exact .inl l
  ·exact .inr ⟨k,c,e,cellK x c e _ z⟩
 ·obtain⟨v,z⟩:=I.cell x c e;exact⟨v,cellK x c e v z⟩
 ·obtain⟨m,⟨o,_,_,ho,_⟩,_⟩:=I.loc;exact free _ o (fun z=>(Mv _ z).2.1 rfl) ho I.free
 ·obtain⟨v,o,ho,hd⟩:=I.cell x c e;exact free c o (fun z=>(Mv c z).2.2.1 x c e rfl) ho (I.Hg x c e)
 ·obtain⟨e,n,ne,nf,d⟩:=I.pin p hp;have Qh:p.1∉ch:=fun z=>(Mv p.1 z).2.2.2 p hp rfl
  exact⟨keep p.1 p.2 ne nf Qh e n,free p.1 p.2 Qh e n,ne,nf,d⟩
theorem Inv.un{t':Nat}(I:Inv X pins σ H s)(u:Un X.fs [] H H' s.heap h')(EW:GH X.prog X.w H' h'):Inv X pins σ H' { s with heap:=h',toks:=t' }:=by
 obtain⟨m,⟨o,es,ep,ho,r⟩,_⟩:=id I.loc;obtain⟨sl,hL⟩:=u.any ho I.free (by simp);exact I.step (g':=s.gens) (d':=s.drawn) (ch:=[]) (fun _ z=>nomatch z) (fun b o _ hb _ e n=>u.keep b o e n hb (by simp)) (fun b o _ hb _ e n=>u.slot b o e n hb (by simp)) (fun b o _ e n=>u.free b o e n (by simp)) (fun b o _ e=>u.there b o e (by simp)) u.HK u.HC u.HL (fun m' hm=>by
  obtain⟨o',Sa,Sd,Ls,r'⟩:=hm;rw[ho] at Ls;cases Ls;exact⟨_,Sa,Sd,hL,r'⟩) EW I.bare
theorem Inv.call{g':Array GenState}{t':Nat}{d':Drawn}{ch:List Addr}(I:Inv X pins σ H s)(u:Un (Ll X.stack) ch H H' s.heap h')(EW:GH X.prog X.w H' h')(hg:AllBare g')
  (Mv:∀b∈ch,(b∈X.ex\/X.GC.heap.objs.size<=b)/\b≠X.env.locals/\(∀x c,X.env.cells.lookup x=some c->c≠b)/\∀p∈X.pn++pins,p.1≠b) :
  Inv X pins σ H' { s with heap:=h',gens:=g',drawn:=d',toks:=t' }:=by
 obtain⟨m,⟨o,es,ep,ho,r⟩,_⟩:=id I.loc;obtain⟨sl,hL⟩:=u.any ho I.free fun z=>(Mv _ z).2.1 rfl
 exact I.step (ch:=ch) Mv (fun b o hL hb hc e n=>u.keep b o e n (fun z=>(List.mem_cons.mp (I.Kj b z)).elim hL hb) hc) (fun b o _ _ hc e n=>u.any e n hc) (fun b o hc e n=>u.free b o e n hc) (fun b o hc e=>u.there b o e hc) u.HK u.HC u.HL (fun m' hm=>by
  obtain⟨o',Sa,Sd,Ls,r'⟩:=hm;rw[ho] at Ls;cases Ls;exact⟨_,Sa,Sd,hL,r'⟩) EW hg
theorem Inv.turned{t':Nat}{it:Addr}(I:Inv X pins σ H s)(k:∀b o,b≠it->s.heap.get? b=some o->h'.get? b=some o)(hn:H it=none)(hL:it≠X.env.locals)
  (h1:it∈X.ex\/X.GC.heap.objs.size<=it) (h2:∀x c,X.env.cells.lookup x=some c->c≠it) (h3:∀p∈X.pn++pins,p.1≠it):Inv X pins σ H { s with heap:=h',toks:=t' }:=by
 have VJ:∀b u,H b=some u->b≠it:=fun b u e z=>by rw[z,hn] at e;cases e
 refine I.step (g':=s.gens) (d':=s.drawn) (ch:=[it]) (fun b hb=>?_) (fun b o _ _ hc e _=>k b o (fun z=>hc (by simp[z])) e) (fun b o _ _ hc e _=>⟨o.slots,k b o (fun z=>hc (by simp[z])) e⟩) (fun _ _ _ _ n=>n)
  (fun b o hc e=>⟨o,k b o (fun z=>hc (by simp[z])) e⟩) (fun _ _ e=>e) (fun _ _ _ e=>e) (fun b ps e=>⟨#[],by rw[e];simp⟩) (fun m hm=>?_) (fun b u e=>?_) I.bare
 ·have e:b=it:=by simpa using hb
  subst e;exact⟨h1,hL,h2,h3⟩
 ·obtain⟨o,es,ep,ho,r⟩:=hm;exact⟨o,es,ep,k _ o (Ne.symm hL) ho,r⟩
 ·refine(I.EW b u e).Iq (fun c v hc q=>k c v ?_ q) (fun _ q=>q) fun _ _ q=>q
  rcases hc with z|z
  ·rw[z];exact VJ b u e
  ·exact VJ c _ z
theorem Inv.tok(I:Inv X pins σ H s)(t:Nat):Inv X pins σ H { s with toks:=t }:=I.un (h':=s.heap) (t':=t) Un.refl I.EW
theorem Inv.kept{t':Nat}(I:Inv X pins σ H s)(k:∀b u,s.heap.get? b=some u->h'.get? b=some u):Inv X pins σ H { s with heap:=h',toks:=t' }:=I.un (Un.kept k) (I.EW.kept k)
theorem Inv.laid{a:Addr}{o:HO}{t':Nat}(I:Inv X pins σ H s)(k:∀b u,s.heap.get? b=some u->h'.get? b=some u)(hp:s.heap.objs.size<=a)(new:Fq X.prog X.w (upd H a o) h' a o) :
  Inv X pins σ (upd H a o) { s with heap:=h',toks:=t' }:=I.un (Un.laid k hp (I.EW.fresh hp)) (I.EW.laid k hp new)
theorem Inv.write{x e:Addr}{o:HO}{t':Nat}(I:Inv X pins σ H s)(mu:Qe (H x))(he:e=x\/H e=some (.own x))(k:∀b u,b≠e->s.heap.get? b=some u->h'.get? b=some u)(PK:∃u,h'.get? e=some u)
  (new:Fq X.prog X.w (upd H x o) h' x o):Inv X pins σ (upd H x o) { s with heap:=h',toks:=t' }:=I.un (Un.write mu he k PK) (I.EW.write mu he k PK new)
theorem Inv.Kl{Ou:List (Addr×Obj)}(I:Inv X pins σ H s)(h:∀p∈Ou,s.heap.get? p.1=some p.2/\H p.1=none/\p.1≠X.env.locals/\p.1∉X.fs/\∀v,p.2.data≠.cell v):Inv X Ou σ H s:=
 ⟨I.ok,I.os,I.bare,I.base,I.loc,I.cell,I.free,I.Hg,fun p hp=>(List.mem_append.mp hp).elim (fun z=>I.pin p (List.mem_append_left _ z)) (h p),I.EW,I.len⟩
theorem vk{N:List Str}(hN:N.Nodup){i j:Nat}{x:Str}(a:N[i]?=some x)(b:N[j]?=some x):i=j:=by
 obtain⟨h1,e1⟩:=List.getElem?_eq_some_iff.mp a;obtain⟨h2,e2⟩:=List.getElem?_eq_some_iff.mp b;exact(List.getElem_inj hN).mp (e1.trans e2.symm)
theorem yr{M:Model}{A:Around}{E:Value->Shared->Prop}{i:Nat}{x:Str}{v:V}{u:Value}{Q:Unit->Shared->Prop}(I:Inv X pins σ H s)(hN:X.N.Nodup)(hi:X.N[i]?=some x)(hx:Loc X.env.scope x)(r:RelV v u)
  (h:∀s',Inv X pins (σ.set i (some v)) H s'->(∃a,Heap.SameBut a s.heap s'.heap/\(a=X.env.locals\/X.env.cells.lookup x=some a))->Q () s') (hf:X.fn x=true\/X.env.scope.names.lookup x=some .local:=by first|exact .inl rfl|exact .inr rfl|assumption):wpAny M A (storeName X.env x u) Q E s:=by
 obtain⟨m,hn,hl⟩:=id I.loc;have HZ:(X.env.scope.kind == .class || (X.env.scope.kind == .module && X.env.locals != X.env.globals))=false:=by rw[I.ok.kind];rfl
 have Qi:i<σ.length:=by rw[I.len];exact(List.getElem?_eq_some_iff.mp hi).1
 have OW:=I.OW;have tracked:∀{a:Addr}{h':Heap},(∃o,s.heap.get? a=some o/\H a=none)->Heap.SameBut a s.heap h'->GH X.prog X.w H h':=fun {a h'} ha hs b ob e=>by
  obtain⟨_,_,LU⟩:=ha;refine(I.EW b ob e).Iq (fun c w' hc q=>(hs.2 c ?_).trans q) (fun _ q=>q) fun _ _ q=>q
  rintro rfl;rcases hc with rfl|hc
  ·rw[LU] at e;cases e
  ·rw[LU] at hc;cases hc
 rcases hx with hk|hk
 ·refine wpAny_storeName_local hk hn (fun h' Ri hs=>?_) HZ;obtain⟨oL,_,_,Xq,_⟩:=id hn;refine h _ ⟨I.ok,I.os,I.bare,⟨fun b o e n hb hx=>?_,fun b o e n hb hx=>?_,I.base.free,fun b o e hx=>?_,I.base.HK,I.base.HC,I.base.HL⟩,⟨_,Ri,fun j y v' e1 e2 e3=>?_⟩,fun y c e=>?_,I.free,I.Hg,fun p hp=>?_,tracked ⟨oL,Xq,I.free⟩ hs,by simpa using I.len⟩ ⟨_,hs,.inl rfl⟩
  ·exact(hs.2 b (Nat.ne_of_lt (Nat.lt_of_lt_of_le (Heap.lt_size e) I.ok.above))).trans (I.base.keep b o e n hb hx)
  ·obtain⟨sl,e1⟩:=I.base.slot b o e n hb hx;exact⟨sl,(hs.2 b (Nat.ne_of_lt (Nat.lt_of_lt_of_le (Heap.lt_size e) I.ok.above))).trans e1⟩
  ·obtain⟨o',e1⟩:=I.base.there b o e hx;exact⟨o',(hs.2 b (Nat.ne_of_lt (Nat.lt_of_lt_of_le (Heap.lt_size e) I.ok.above))).trans e1⟩
  ·by_cases hj:j=i
   ·subst hj;rw[hi] at e1;cases e1;rw[List.getElem?_set_self Qi] at e2;cases e2;exact⟨u,r,.inl ⟨hk,by simp⟩⟩
   ·rw[List.getElem?_set_ne (Ne.symm hj)] at e2;obtain⟨u',r',q⟩:=hl j y v' e1 e2 e3;refine⟨u',r',?_⟩;rcases q with ⟨k,e⟩|⟨k,c,e,z⟩
    ·refine .inl ⟨k,?_⟩;have:y≠x:=fun e=>hj (vk hN e1 (e ▸ hi))
     simp[this,e]
    ·exact .inr ⟨k,c,e,z.sameBut hs (OW y c e)⟩
  ·obtain⟨w',z⟩:=I.cell y c e;exact⟨w',z.sameBut hs (OW y c e)⟩
  ·obtain⟨e,n,ne,nf,d⟩:=I.pin p hp;exact⟨(hs.2 p.1 ne).trans e,n,ne,nf,d⟩
 ·have Se:X.fn x=true:=by
   rcases hf with z|z
   ·exact z
   ·rw[z] at hk;cases hk
  obtain⟨c,hc⟩:=I.ok.has x (.inl hk);obtain⟨w',z⟩:=I.cell x c hc;refine wpAny_storeName_cell I.ok.kind hk hc z (fun h' Qj hs=>?_);obtain⟨oc,VL,Sf⟩:=id z;refine h { s with heap:=h' } ⟨I.ok,I.os,I.bare,⟨fun b o e n hb hx=>?_,fun b o e n hb hx=>?_,I.base.free,fun b o e hx=>?_,I.base.HK,I.base.HC,I.base.HL⟩,⟨m,hn.sameBut hs (Ne.symm (OW x c hc)),fun j y v' e1 e2 e3=>?_⟩,fun y c' e=>?_,I.free,I.Hg,fun p hp=>?_,tracked ⟨oc,VL,I.Hg x c hc⟩ hs,by simpa using I.len⟩ ⟨c,hs,.inr hc⟩
  ·exact(hs.2 b (Nat.ne_of_lt (Nat.lt_of_lt_of_le (Heap.lt_size e) (I.ok.PM x c Se hc)))).trans (I.base.keep b o e n hb hx)
  ·obtain⟨sl,e1⟩:=I.base.slot b o e n hb hx;exact⟨sl,(hs.2 b (Nat.ne_of_lt (Nat.lt_of_lt_of_le (Heap.lt_size e) (I.ok.PM x c Se hc)))).trans e1⟩
  ·obtain⟨o',e1⟩:=I.base.there b o e hx;exact⟨o',(hs.2 b (Nat.ne_of_lt (Nat.lt_of_lt_of_le (Heap.lt_size e) (I.ok.PM x c Se hc)))).trans e1⟩
  ·by_cases hj:j=i
   ·subst hj;rw[hi] at e1;cases e1;rw[List.getElem?_set_self Qi] at e2;cases e2;exact⟨u,r,.inr ⟨.inl hk,c,hc,Qj⟩⟩
   ·rw[List.getElem?_set_ne (Ne.symm hj)] at e2;obtain⟨u',r',q⟩:=hl j y v' e1 e2 e3;refine⟨u',r',?_⟩;rcases q with q|⟨k,c',e,z'⟩
    ·exact .inl q
    ·refine .inr ⟨k,c',e,z'.sameBut hs ?_⟩;rintro rfl;exact hj (vk hN e1 (I.ok.inj _ _ _ e hc ▸ hi))
  ·by_cases Qk:c'=c
   ·subst Qk;exact⟨_,Qj⟩
   ·obtain⟨w2,z2⟩:=I.cell y c' e;exact⟨w2,z2.sameBut hs Qk⟩
  ·obtain⟨e,n,ne,nf,d⟩:=I.pin p hp;refine⟨(hs.2 p.1 ?_).trans e,n,ne,nf,d⟩;intro q;rw[q,VL] at e;have q':oc=p.2:=Option.some.inj e;exact d w' (by rw[<-q'];exact Sf)
theorem ve{M:Model}{A:Around}{E:Value->Shared->Prop}{i:Nat}{x:Str}{v:V}{u:Value}{Q:Unit->Shared->Prop}(I:Inv X pins σ H s)(hN:X.N.Nodup)(hi:X.N[i]?=some x)(hx:Loc X.env.scope x)(r:RelV v u)
  (h:∀s',Inv X pins (σ.set i (some v)) H s'->Q () s') (hf:X.fn x=true\/X.env.scope.names.lookup x=some .local:=by first|exact .inl rfl|exact .inr rfl|assumption):wpAny M A (storeName X.env x u) Q E s:=
 yr I hN hi hx r (fun s' I' _=>h s' I') hf
theorem Inv.Ov{s':Shared}{ch:List Addr}(I:Inv X pins σ H s)(ho:s'.os=s.os)(u:Un (Ll X.stack) ch H H' s.heap s'.heap)(EW:GH X.prog X.w H' s'.heap)(hg:AllBare s'.gens)
  (Mv:∀b∈ch,(b∈X.ex\/X.GC.heap.objs.size<=b)/\b≠X.env.locals/\(∀x c,X.env.cells.lookup x=some c->c≠b)/\∀p∈X.pn++pins,p.1≠b):Inv X pins σ H' s':=by
 obtain⟨h',g',d',t',o'⟩:=s';have e:o'=s.os:=ho;subst e;exact I.call (g':=g') (t':=t') (d':=d') u EW hg Mv
end
abbrev XK:=Value->Option Addr->Hp->Prop
abbrev St:=List (Option V)
abbrev VK:=V->Hp->Prop
abbrev TE:=St->Hp->VK->Prop
abbrev TT:=St->Hp->(Bool->Hp->Prop)->Prop
structure Ends where
 nx:St->Hp->Prop
 rt:VK
 bk:St->Hp->Prop:=fun _ _=>False
 ct:St->Hp->Prop:=fun _ _=>False
abbrev TS:=Ends->St->Hp->Prop
def EP(X:Cx)(pins:List (Addr×Obj))(σ:St)(Q:VK)(u:Value)(s':Shared):Prop:=∃v H',Inv X pins σ H' s'/\RelV v u/\Q v H'
def TP(X:Cx)(pins:List (Addr×Obj))(σ:St)(Q:Bool->Hp->Prop)(b:Bool)(s':Shared):Prop:=∃H',Inv X pins σ H' s'/\Q b H'
def AP(X:Cx)(pins:List (Addr×Obj))(σ:St)(Q:List V->Hp->Prop)(us:List Value)(s':Shared):Prop:=∃vs H',Inv X pins σ H' s'/\Vals vs us/\Q vs H'
def SP(X:Cx)(pins:List (Addr×Obj))(D:Ends)(f:Flow)(s':Shared):Prop:=
 match f with
 |.next=>∃Fd H',Inv X pins Fd H' s'/\D.nx Fd H'
 |.brk=>∃Fd H',Inv X pins Fd H' s'/\D.bk Fd H'
 |.cont=>∃Fd H',Inv X pins Fd H' s'/\D.ct Fd H'
 |.ret u=>∃v Fd H',Inv X pins Fd H' s'/\RelV v u/\D.rt v H'
def PE(X:Cx)(e:Expr)(t:TE):Prop:=
 ∀(pins:List (Addr×Obj)) (s:Shared) (σ:St) (H:Hp) (Q:VK),Inv X pins σ H s->t σ H Q->wpAny (model X.prog X.w) X.A (eval e X.env) (EP X pins σ Q) X.xe s
def PT(X:Cx)(e:Expr)(t:TT):Prop:=
 ∀(pins:List (Addr×Obj)) (s:Shared) (σ:St) (H:Hp) (Q:Bool->Hp->Prop),Inv X pins σ H s->t σ H Q->wpAny (model X.prog X.w) X.A (isTrue e X.env (eval e X.env)) (TP X pins σ Q) X.xe s
def PW(X:Cx)(e:Expr)(t:TT):Prop:=
 ∀(whole:Sem Value) (pins:List (Addr×Obj)) (s:Shared) (σ:St) (H:Hp) (Q:Bool->Hp->Prop),Inv X pins σ H s->t σ H Q->wpAny (model X.prog X.w) X.A (isTrue e X.env whole) (TP X pins σ Q) X.xe s
theorem PW.pt{X:Cx}{e:Expr}{t:TT}(h:PW X e t):PT X e t:=h _
def Ql(X:Cx)(st:List Stmt)(t:TS):Prop:=
 ∀(pins:List (Addr×Obj)) (s:Shared) (σ:St) (H:Hp) (D:Ends),Inv X pins σ H s->t D σ H->wpAny (model X.prog X.w) X.A (execs st X.env) (SP X pins D) X.xe s
theorem Ow{α:Type}{t:Sem α}{Q Q':α->Shared->Prop}{M:Model}{A:Around}{E:Value->Shared->Prop}{s:Shared}(h:wpAny M A t Q E s)(hQ:∀a s,Q a s->Q' a s):wpAny M A t Q' E s:=wpAny_mono h hQ fun _ _ x=>x
end L2
namespace L2
open PySem PySem.Spec PyProof.Rows
section
variable{X:Cx}
def Em(i:Nat):TE:=fun σ H Q=>∃v,σ[i]?=some (some v)/\Q v H
theorem CZ{i:Nat}{x:Str}{pos:Pos}(hN:X.N[i]?=some x)(hv:R7 X.env.scope x)(hd:(x == ("__debug__":Str))=false:=by decide)(Lm:(x == ("__classdict__":Str))=false:=by decide):PE X (.Name x pos) (Em i):=by
 intro pins s σ H Q I h;obtain⟨v,e,h⟩:=h;obtain⟨m,hn,hl⟩:=I.loc;obtain⟨u,r,l⟩:=hl i x v hN e hv;have fin:EP X pins σ Q u s:=⟨v,H,I,r,h⟩;rcases l with ⟨hk,hm⟩|⟨hk,c,hc,Fo⟩
 ·exact wpAny_Name (wpAny_loadName_local I.ok.kind hk hn hm fin) hd
 ·rcases hk with hk|hk
  ·exact wpAny_Name (wpAny_loadName_cell I.ok.kind hk hc Fo fin) hd
  ·exact wpAny_Name (wpAny_loadName_free I.ok.kind hk hc Fo fin Lm) hd
def Gl(X:Cx)(x:Str):Prop:=X.env.kindOf x=some .globalImplicit
theorem kT{E:Value->Shared->Prop}{pins:List (Addr×Obj)}{s:Shared}{σ:St}{H:Hp}{x:Str}{u:Value}{pos:Pos}{Q:Value->Shared->Prop}(I:Inv X pins σ H s)(hg:Gl X x)(hm:X.mg x=some u)(h:Q u s)
  (hd:(x == ("__debug__":Str))=false:=by decide):wpAny (model X.prog X.w) X.A (eval (.Name x pos) X.env) Q E s:=
 Calls.Name_function_global I.ok.kind hg (Calls.loadGlobal_global (by rw[I.ok.glob];exact I.mod.glob.keeps I.bk) hm h) hd
theorem kK{E:Value->Shared->Prop}{pins:List (Addr×Obj)}{s:Shared}{σ:St}{H:Hp}{x:Str}{u:Value}{pos:Pos}{Q:Value->Shared->Prop}(I:Inv X pins σ H s)(hg:Gl X x)(hm:X.mg x=none)(hv:bootBuiltins x=some u)(h:Q u s)
  (hn:x≠"__name__":=by decide) (hd:(x == ("__debug__":Str))=false:=by decide):wpAny (model X.prog X.w) X.A (eval (.Name x pos) X.env) Q E s:=by
 obtain⟨mb,h1,h2⟩:=I.mod.blt;exact Calls.Name_function_global I.ok.kind hg (Calls.loadGlobal_builtin (by rw[I.ok.glob];exact I.mod.glob.keeps I.bk) hm (by rw[I.ok.blt];exact h1.keeps I.bk) ((h2 x hn).trans hv) h) hd
variable{a b:Expr}{ta tb:TE}{pos:Pos}
theorem RelV.MG{x:V}{v:Value}(r:RelV x v):(v == Value.none)=decide (x=.EJ):=by
 cases x with
 |EJ=>cases r;rfl
 |bl _=>cases r;rfl
 |int _=>obtain⟨t,rfl⟩:=r;rfl
 |str _=>obtain⟨t,rfl⟩:=r;rfl
 |OT _=>obtain⟨t,rfl⟩:=r;rfl
 |OU _=>obtain⟨t,rfl⟩:=r;rfl
 |ref _=>cases r;rfl
 |ty _=>cases r;rfl
variable{tA Qm:TT}{rest:List Expr}
end
end L2
namespace L2
open PySem PySem.Spec PyProof.Rows
def GP(K:PySem.W.Frag)(H:Hp)(a:Addr)(xs:List V):Prop:=
 Rd H a (.lst xs)\/
  ∃(o:Obj) (u_:Array Value) (n:Nat),K.lookup a=some o/\o.cls=.type "list"/\o.dict=none/\o.data=.seq u_ n/\u_.size<=sizeLine/\Vals xs u_.toList
def Hi(K:PySem.W.Frag)(H:Hp)(a:Addr)(xs:List V):Prop:=
 Rd H a (.tup xs)\/
  ∃(o:Obj) (u_:Array Value) (n:Nat),K.lookup a=some o/\o.cls=.type "tuple"/\o.data=.seq u_ n/\u_.size<=sizeLine/\Vals xs u_.toList
def Eh:Value->Option V
 |.none=>some .EJ
 |.bool b=>some (.bl b)
 |.int i _=>some (.int i)
 |.str x _=>some (.str x)
 |.bytes b _=>some (.OT b)
 |.float b _=>some (.OU b)
 |.ref a=>some (.ref a)
 |.type n=>some (.ty n)
 |_=>none
theorem RelV.abs{x:V}{u:Value}(r:RelV x u):Eh u=some x:=by
 cases x with
 |EJ=>cases r;rfl
 |bl _=>cases r;rfl
 |int _=>obtain⟨t,rfl⟩:=r;rfl
 |str _=>obtain⟨t,rfl⟩:=r;rfl
 |OT _=>obtain⟨t,rfl⟩:=r;rfl
 |OU _=>obtain⟨t,rfl⟩:=r;rfl
 |ref _=>cases r;rfl
 |ty _=>cases r;rfl
theorem RelV.inj{x y:V}{u:Value}(r:RelV x u)(q:RelV y u):x=y:=Option.some.inj (r.abs.symm.trans q.abs)
theorem Vals.inj:∀{xs ys:List V}{us:List Value},Vals xs us->Vals ys us->xs=ys
 |_,_,_,.nil,.nil=>rfl
 |_,_,_,.cons r t,.cons r' t'=>by rw[r.inj r',Vals.inj t t']
section
variable{X:Cx}{pins:List (Addr×Obj)}{σ:St}{H:Hp}{s:Shared}{a:Addr}{xs ys:List V}
theorem GP.of{K:PySem.W.Frag}(h:H a=some (.lst xs)):GP K H a xs:=.inl (.inl h)
theorem Hi.of{K:PySem.W.Frag}(h:H a=some (.tup xs)):Hi K H a xs:=.inl (.inl h)
theorem Inv.list(I:Inv X pins σ H s)(h:GP X.K H a xs):∃u_:List Value,Vals xs u_/\PlainL s.heap a u_.toArray/\xs.length<=sizeLine:=by
 rcases h with h|⟨o,u_,n,hk,hc,hd,hs,hz,r⟩
 ·obtain⟨z,u_,n,r,e⟩:=h.ok I.EW;exact⟨u_,r,⟨_,n,e,rfl,rfl,rfl⟩,z⟩
 ·refine⟨u_.toList,r,⟨o,n,I.IS a o hk,hc,hd,by simpa using hs⟩,?_⟩;have e:=r.length;simp only[Array.length_toList] at e;omega
theorem Inv.tuple(I:Inv X pins σ H s)(h:Hi X.K H a xs):∃u_:List Value,Vals xs u_/\IsTup s.heap a u_.toArray/\xs.length<=sizeLine:=by
 rcases h with h|⟨o,u_,n,hk,hc,hs,hz,r⟩
 ·obtain⟨z,u_,r,p⟩:=h.ok I.EW;exact⟨u_,r,p,z⟩
 ·refine⟨u_.toList,r,⟨o,I.IS a o hk,hc,n,by simpa using hs⟩,?_⟩;have e:=r.length;simp only[Array.length_toList] at e;omega
theorem Inv.K0(I:Inv X pins σ H s)(h:GP X.K H a xs)(h':GP X.K H a ys):xs=ys:=by
 obtain⟨u_,r,⟨o,n,e,_,_,d⟩,_⟩:=I.list h;obtain⟨its',r',⟨o',n',e',_,_,d'⟩,_⟩:=I.list h';rw[e] at e';cases e';rw[d] at d'
 injection d' with d1 _
 have:u_=its':=by simpa using congrArg Array.toList d1
 subst this;exact r.inj r'
theorem Inv.Kd(I:Inv X pins σ H s)(h:Hi X.K H a xs)(h':Hi X.K H a ys):xs=ys:=by
 obtain⟨u_,r,⟨o,e,_,n,d⟩,_⟩:=I.tuple h;obtain⟨its',r',⟨o',e',_,n',d'⟩,_⟩:=I.tuple h';rw[e] at e';cases e';rw[d] at d'
 injection d' with d1 _
 have:u_=its':=by simpa using congrArg Array.toList d1
 subst this;exact r.inj r'
end
abbrev Cx.E8(X:Cx)(E:Value->Shared->Prop):Cx:={ X with xe:=E }
abbrev Cx.Ox(X:Cx):Cx:=X.E8 fun _ _=>False
theorem Cx.Ok.E8{X:Cx}(ok:X.Ok)(E:Value->Shared->Prop):(X.E8 E).Ok:=
 ⟨ok.mod,ok.kind,ok.glob,ok.blt,ok.above,ok.inj,ok.has,ok.PM,ok.hd,ok.frames,ok.Qg,ok.R8,ok.bs,ok.Mu,ok.Mc,ok.MF,ok.HY,ok.ND⟩
theorem Cx.Ok.E5{X:Cx}{E:Value->Shared->Prop}(ok:(X.E8 E).Ok):X.Ok:=
 ⟨ok.mod,ok.kind,ok.glob,ok.blt,ok.above,ok.inj,ok.has,ok.PM,ok.hd,ok.frames,ok.Qg,ok.R8,ok.bs,ok.Mu,ok.Mc,ok.MF,ok.HY,ok.ND⟩
section
variable{X:Cx}{pins:List (Addr×Obj)}{σ:St}{H:Hp}{s:Shared}{E:Value->Shared->Prop}
theorem Inv.E8(I:Inv X pins σ H s)(E:Value->Shared->Prop):Inv (X.E8 E) pins σ H s:=⟨I.ok.E8 E,I.os,I.bare,I.base,I.loc,I.cell,I.free,I.Hg,I.pin,I.EW,I.len⟩
theorem Inv.E5(I:Inv (X.E8 E) pins σ H s):Inv X pins σ H s:=⟨I.ok.E5,I.os,I.bare,I.base,I.loc,I.cell,I.free,I.Hg,I.pin,I.EW,I.len⟩
theorem SP.E5{D:Ends}{f:Flow}{s':Shared}(h:SP (X.E8 E) pins D f s'):SP X pins D f s':=by
 cases f with
 |next=>obtain⟨Fd,H',I,q⟩:=h;exact⟨Fd,H',I.E5,q⟩
 |brk=>obtain⟨Fd,H',I,q⟩:=h;exact⟨Fd,H',I.E5,q⟩
 |cont=>obtain⟨Fd,H',I,q⟩:=h;exact⟨Fd,H',I.E5,q⟩
 |ret u=>obtain⟨v,Fd,H',I,r,q⟩:=h;exact⟨v,Fd,H',I.E5,r,q⟩
theorem PE.Ox{e:Expr}{t:TE}(h:PE X.Ox e t):PE X e t:=fun pins s σ H Q I hw=>
 wpAny_mono (h pins s σ H Q (I.E8 _) hw) (fun _ _ ⟨v,H',I',r,q⟩=>⟨v,H',I'.E5,r,q⟩) fun _ _ z=>False.elim z
theorem PT.Ox{e:Expr}{t:TT}(h:PT X.Ox e t):PT X e t:=fun pins s σ H Q I hw=>
 wpAny_mono (h pins s σ H Q (I.E8 _) hw) (fun _ _ ⟨H',I',q⟩=>⟨H',I'.E5,q⟩) fun _ _ z=>False.elim z
theorem Ql.Ox{st:List Stmt}{t:TS}(h:Ql X.Ox st t):Ql X st t:=fun pins s σ H D I hw=>
 wpAny_mono (h pins s σ H D (I.E8 _) hw) (fun _ _ q=>q.E5) fun _ _ z=>False.elim z
end
section
variable{X:Cx}{st:Stmt}{rest:List Stmt}{t u:TS}{e:Expr}{te:TE}{pos:Pos}
theorem Inv.quiet{pins:List (Addr×Obj)}{σ:St}{H:Hp}{s:Shared}(I:Inv X pins σ H s):interactive X.env=false:=by simp[interactive,I.ok.kind]
end
abbrev TG:=V->St->Hp->(St->Hp->Prop)->Prop
def PG(X:Cx)(target:Expr)(t:TG):Prop:=
 ∀(pins:List (Addr×Obj)) (s:Shared) (σ:St) (H:Hp) (v:V) (u:Value) (Q:St->Hp->Prop),Inv X pins σ H s->RelV v u->t v σ H Q->
  wpAny (model X.prog X.w) X.A (assign target X.env u) (fun _ s'=>∃Fd H',Inv X pins Fd H' s'/\Q Fd H') X.xe s
abbrev Ed:=V->V->V->Hp->(Hp->Prop)->Prop
def Ez(X:Cx)(t:Ed):Prop:=
 ∀(pins:List (Addr×Obj)) (s:Shared) (σ:St) (H:Hp) (o i v:V) (ov iv u:Value) (Q:Hp->Prop),Inv X pins σ H s->RelV o ov->RelV i iv->RelV v u->t o i v H Q->
  wpAny (model X.prog X.w) X.A (setItem ov iv u) (fun _ s'=>∃H',Inv X pins σ H' s'/\Q H') X.xe s
section
variable{X:Cx}{pos:Pos}
def Dq(i:Nat):TG:=fun v σ H Q=>Q (σ.set i (some v)) H
theorem Bw{i:Nat}{x:Str}(hN:X.N.Nodup)(hi:X.N[i]?=some x)(hx:Loc X.env.scope x)(hf:X.fn x=true\/X.env.scope.names.lookup x=some .local:=by first|exact .inl rfl|exact .inr rfl|assumption):PG X (.Name x pos) (Dq i):=by
 intro pins s σ H v u Q I r h;exact wpAny_assign_Name (ve I hN hi hx r (fun s' I'=>⟨_,H,I',h⟩) hf)
end
section
variable{X:Cx}{pos:Pos}
end
structure It where
 go:Nat->Hp->Prop
 VM:Nat->Hp->V->Hp->Prop
 stop:Nat->Hp->Prop
def IE(X:Cx)(pins:List (Addr×Obj))(H:Hp)(b:Addr):Prop:=
 H b=none/\b≠X.env.locals/\b∉X.fs/\(b∈X.ex\/X.GC.heap.objs.size<=b)/\(∀x c,X.env.cells.lookup x=some c->c≠b)/\∀p∈X.pn++pins,p.1≠b
theorem Inv.Md{X:Cx}{pins:List (Addr×Obj)}{σ:St}{H H':Hp}{s:Shared}{b:Addr}(I:Inv X pins σ H s)(hb:s.heap.objs.size<=b)(hn:H' b=none):IE X pins H' b:=by
 refine⟨hn,Nat.ne_of_gt (Nat.lt_of_lt_of_le I.lt hb),I.R_ hb,.inr (Nat.le_trans I.sz hb),fun x c e z=>?_,fun p hp z=>?_⟩
 ·obtain⟨v,q⟩:=I.cell x c e;exact absurd (Nat.lt_of_lt_of_le q.lt (by rw[z];exact hb)) (Nat.lt_irrefl _)
 ·exact absurd (Nat.lt_of_lt_of_le (Heap.lt_size (I.pin p hp).1) (by rw[z];exact hb)) (Nat.lt_irrefl _)
structure Turn(P:Program)(w:World)(K:PySem.W.Frag)(tg:Expr)(J:It)(fp:List Addr)(it:Addr)(tn:Nat->Heap->Prop):Prop where
 mem:it∈fp
 obj:∀i h,tn i h->∀b∈fp,∃o,h.get? b=some o/\∀v,o.data≠.cell v
 keep:∀i h h',tn i h->(∀b∈fp,∀o,h.get? b=some o->h'.get? b=some o)->tn i h'
 item:∀(X:Cx),X.prog=P->X.w=w->X.K=K->X.calm=true->∀(i:Nat) (pins:List (Addr×Obj)) (s:Shared) (σ:St) (H:Hp) (E:Value->Shared->Prop),Inv X pins σ H s->(∀b∈fp,IE X pins H b)->tn i s.heap->J.go i H->
  wpAny (model P w) X.A (pyNext (.ref it)) (fun r s1=>∃u,r=some u/\
   wpAny (model P w) X.A (letOwnedTupleGo tg (.ref it) u) (fun _ s2=>∃x H',Inv X pins σ H' s2/\RelV x u/\J.VM i H x H'/\tn (i+1) s2.heap/\∀b∈fp,H' b=none) E s1) E s
 done:∀(X:Cx),X.prog=P->X.w=w->X.K=K->X.calm=true->∀(i:Nat) (pins:List (Addr×Obj)) (s:Shared) (σ:St) (H:Hp) (E:Value->Shared->Prop),Inv X pins σ H s->(∀b∈fp,IE X pins H b)->tn i s.heap->J.stop i H->
  wpAny (model P w) X.A (pyNext (.ref it)) (fun r s1=>r=none/\Inv X pins σ H s1) E s
 self:∀(A:Around) (i:Nat) (s:Shared) (Q:Value->Shared->Prop) (E:Value->Shared->Prop),tn i s.heap->Q (.ref it) s->wpAny (model P w) A (pyIter (.ref it)) Q E s
def Sg(X:Cx)(pins:List (Addr×Obj))(σ:St)(tg:Expr)(R:It->Hp->Prop)(Me:Value)(s2:Shared):Prop:=
 ∃(it:Addr) (fp:List Addr) (tn:Nat->Heap->Prop) (J:It) (H':Hp),Me=.ref it/\Inv X pins σ H' s2/\Turn X.prog X.w X.K tg J fp it tn/\tn 0 s2.heap/\(∀b∈fp,IE X pins H' b)/\R J H'
theorem yO{M:Model}{A:Around}{E:Value->Shared->Prop}{s:Shared}{tg:Expr}{it:Addr}{u:Value}{o:Obj}{n:String}{vs:Array Value}{Q:Unit->Shared->Prop}(ho:s.heap.get? it=some o)(hc:o.cls=.type n)(hd:o.data=.fields vs)
  (hn:["enumerate","zip","dict_itemiterator","dict_reverseitemiterator","odict_iterator","itertools.zip_longest","itertools.pairwise"].contains n=false) (hQ:Q () s):wpAny M A (letOwnedTupleGo tg (.ref it) u) Q E s:=by
 unfold letOwnedTupleGo;cases tg<;>first
  |exact wpAny_pure hQ
  |(cases u<;>first
    |exact wpAny_pure hQ
    |(refine wpAny_bind (wpAny_load ho ?_)
      rw[hc,hd];show wpAny M A (if (["enumerate","zip","dict_itemiterator","dict_reverseitemiterator","odict_iterator","itertools.zip_longest","itertools.pairwise"].contains n && vs[0]? == some (rawInt _))=true then _ else _) Q E s;rw[if_neg (by intro h;rw[hn,Bool.false_and] at h;cases h)];exact wpAny_pure hQ))
def Sh(K:PySem.W.Frag)(a:Addr):It:=
 ⟨fun i H=>∃xs x,GP K H a xs/\xs[i]?=some x,fun i H x H'=>H'=H/\∀xs,GP K H a xs->xs[i]?=some x,fun i H=>∃xs,GP K H a xs/\xs.length<=i⟩
def VN(K:PySem.W.Frag)(a:Addr):It:=
 ⟨fun i H=>∃xs x,Hi K H a xs/\xs[i]?=some x,fun i H x H'=>H'=H/\∀xs,Hi K H a xs->xs[i]?=some x,fun i H=>∃xs,Hi K H a xs/\xs.length<=i⟩
theorem rY{P:Program}{w:World}{K:PySem.W.Frag}{tg:Expr}(a it:Addr):Turn P w K tg (Sh K a) [it] it (fun i h=>h.IsListIter it a i) where
 mem:=by simp
 obj:=fun i h st b hb=>by
  have e:b=it:=by simpa using hb
  subst e;obtain⟨o,e,c,d⟩:=st;exact⟨o,e,fun v z=>by rw[d] at z;cases z⟩
 keep:=fun i h h' st k=>st.at fun o e=>k it (by simp) o e
 item:=by
  intro X hP hw hK hc i pins s σ H E I hf st hg;subst hP hw hK;obtain⟨xs,x,hq,hx⟩:=hg;obtain⟨u_,rv,p,hz⟩:=I.list hq;obtain⟨u,hu,ru⟩:=rv.get hx;obtain⟨f0,f1,f2,f3,f4,f5⟩:=hf it (by simp);refine wpAny_pyNext_list_item st p.isList (x:=u) (by simpa using hu) fun h' Oy sb=>?_
  have I1:Inv X pins σ H { s with heap:=h' }:=I.turned (t':=s.toks) (fun b o hb e=>(sb.2 b hb).trans e) f0 f1 f3 f4 f5;obtain⟨o,e,c,d⟩:=id Oy;exact⟨u,rfl,yO (s:={ s with heap:=h' }) e c d (by decide) ⟨x,H,I1,ru,⟨rfl,fun ys hy=>by rw[I.K0 hy hq];exact hx⟩,Oy,fun b hb=>(hf b hb).1⟩⟩
 done:=by
  intro X hP hw hK hc i pins s σ H E I hf st hg;subst hP hw hK;obtain⟨xs,hq,hx⟩:=hg;obtain⟨u_,rv,p,hz⟩:=I.list hq;obtain⟨f0,f1,f2,f3,f4,f5⟩:=hf it (by simp);have hl:=rv.length;exact wpAny_pyNext_list_end (I.ok.hd hc) st p.isList (by simp;omega) fun h' eb=>⟨rfl,I.turned (t':=s.toks) (fun b o hb e=>eb b o hb e) f0 f1 f3 f4 f5⟩
 self:=fun _ _ _ _ _ st h=>wpAny_pyIter_listiter st h
theorem vH{P:Program}{w:World}{K:PySem.W.Frag}{tg:Expr}(a it:Addr):Turn P w K tg (VN K a) [it] it (fun i h=>h.IsTupleIter it a i) where
 mem:=by simp
 obj:=fun i h st b hb=>by
  have e:b=it:=by simpa using hb
  subst e;obtain⟨o,e,c,d⟩:=st;exact⟨o,e,fun v z=>by rw[d] at z;cases z⟩
 keep:=fun i h h' st k=>st.at fun o e=>k it (by simp) o e
 item:=by
  intro X hP hw hK hc i pins s σ H E I hf st hg;subst hP hw hK;obtain⟨xs,x,hq,hx⟩:=hg;obtain⟨u_,rv,p,hz⟩:=I.tuple hq;obtain⟨u,hu,ru⟩:=rv.get hx;obtain⟨f0,f1,f2,f3,f4,f5⟩:=hf it (by simp);refine wpAny_pyNext_tuple_item st (show s.heap.IsTuple a u_.toArray from p) (x:=u) (by simpa using hu) fun h' Oy sb=>?_
  have I1:Inv X pins σ H { s with heap:=h' }:=I.turned (t':=s.toks) (fun b o hb e=>(sb.2 b hb).trans e) f0 f1 f3 f4 f5;obtain⟨o,e,c,d⟩:=id Oy;exact⟨u,rfl,yO (s:={ s with heap:=h' }) e c d (by decide) ⟨x,H,I1,ru,⟨rfl,fun ys hy=>by rw[I.Kd hy hq];exact hx⟩,Oy,fun b hb=>(hf b hb).1⟩⟩
 done:=by
  intro X hP hw hK hc i pins s σ H E I hf st hg;subst hP hw hK;obtain⟨xs,hq,hx⟩:=hg;obtain⟨u_,rv,p,hz⟩:=I.tuple hq;obtain⟨f0,f1,f2,f3,f4,f5⟩:=hf it (by simp);have hl:=rv.length;exact wpAny_pyNext_tuple_end (I.ok.hd hc) st (show s.heap.IsTuple a u_.toArray from p) (by simp;omega) fun h' eb=>⟨rfl,I.turned (t':=s.toks) (fun b o hb e=>eb b o hb e) f0 f1 f3 f4 f5⟩
 self:=fun _ _ _ _ _ st h=>wpAny_pyIter_tupleiter st h
end L2
namespace L2
open PySem PySem.Spec PyProof.Rows
section
variable{X:Cx}{tg:Expr}
def nJ(fp:List Addr)(h:Heap):List (Addr×Obj):=fp.filterMap fun b=>(h.get? b).map fun o=>(b,o)
theorem j0{fp:List Addr}{h:Heap}{b:Addr}{o:Obj}(hb:b∈fp)(e:h.get? b=some o):(b,o)∈nJ fp h:=List.mem_filterMap.mpr ⟨b,hb,by rw[e];rfl⟩
theorem xV{fp:List Addr}{h:Heap}{p:Addr×Obj}(hp:p∈nJ fp h):p.1∈fp/\h.get? p.1=some p.2:=by
 obtain⟨b,hb,e⟩:=List.mem_filterMap.mp hp;cases q:h.get? b with
 |none=>rw[q] at e;cases e
 |some o=>
  rw[q] at e;have e':(b,o)=p:=Option.some.inj e;subst e';exact⟨hb,q⟩
theorem Inv.pinned{pins:List (Addr×Obj)}{σ:St}{H:Hp}{s:Shared}{fp:List Addr}(I:Inv X pins σ H s)(hf:∀b∈fp,IE X pins H b)(ho:∀b∈fp,∃o,s.heap.get? b=some o/\∀v,o.data≠.cell v):Inv X (pins++nJ fp s.heap) σ H s:=
 I.Kl fun p hp=>(List.mem_append.mp hp).elim (fun z=>I.pin p (List.mem_append_right _ z)) fun z=>by
  obtain⟨hb,e⟩:=xV z;obtain⟨f0,f1,f2,_⟩:=hf p.1 hb;obtain⟨o,e',d⟩:=ho p.1 hb;rw[e] at e';cases e';exact⟨e,f0,f1,f2,d⟩
theorem Inv.H_{pins pl:List (Addr×Obj)}{σ:St}{H:Hp}{s:Shared}(I:Inv X (pins++pl) σ H s):Inv X pins σ H s:=I.Kl fun p hp=>I.pin p (List.mem_append_right _ (List.mem_append_left _ hp))
end
end L2
namespace L2
open PySem PySem.Spec PyProof.Rows
abbrev R2:=V->V->Hp->VK->Prop
def Km(X:Cx)(f:Value->Value->Sem Value)(r:R2):Prop:=
 ∀(pins:List (Addr×Obj)) (s:Shared) (σ:St) (H:Hp) (x y:V) (v u:Value) (Q:VK),Inv X pins σ H s->RelV x v->RelV y u->r x y H Q->
  wpAny (model X.prog X.w) X.A (f v u) (EP X pins σ Q) X.xe s
def Si(X:Cx)(f:Value->Sem Value)(r:V->Hp->VK->Prop):Prop:=
 ∀(pins:List (Addr×Obj)) (s:Shared) (σ:St) (H:Hp) (x:V) (v:Value) (Q:VK),Inv X pins σ H s->RelV x v->r x H Q->
  wpAny (model X.prog X.w) X.A (f v) (EP X pins σ Q) X.xe s
def HH(X:Cx)(f:Value)(r:List V->Hp->VK->Prop):Prop:=
 ∀(pins:List (Addr×Obj)) (s:Shared) (σ:St) (H:Hp) (xs:List V) (us:List Value) (Q:VK),Inv X pins σ H s->Vals xs us->r xs H Q->
  wpAny (model X.prog X.w) X.A (call f us) (EP X pins σ Q) X.xe s
def Ek(X:Cx)(r:V->Hp->(Bool->Hp->Prop)->Prop):Prop:=
 ∀(pins:List (Addr×Obj)) (s:Shared) (σ:St) (H:Hp) (x:V) (v:Value) (Q:Bool->Hp->Prop),Inv X pins σ H s->RelV x v->r x H Q->
  wpAny (model X.prog X.w) X.A (truthy v) (TP X pins σ Q) X.xe s
def rI(C:Int->Int->Prop)(g:Int->Int->V):R2:=fun x y H Q=>∃i j,x=.int i/\y=.int j/\C i j/\Q (g i j) H
def PN(g:Int->Int->V):R2:=fun x y H Q=>∃i j,x=.int i/\y=.int j/\Q (g i j) H
def rU(g:Int->V):V->Hp->VK->Prop:=fun x H Q=>∃i,x=.int i/\Q (g i) H
section
variable{X:Cx}{a b c:Expr}{ta tb tc:TE}{pos:Pos}
theorem Rj{f:Value->Value->Sem Value}{C:Int->Int->Prop}{g:Int->Int->Int}
  (rule:∀(i j:Int) (t u:Tok) (s:Shared) (Q:Value->Shared->Prop) (E:Value->Shared->Prop),C i j->Q (.int (g i j) s.toks) { s with toks:=s.toks+1 }->wpAny (model X.prog X.w) X.A (f (.int i t) (.int j u)) Q E s) :
  Km X f (rI C fun i j=>.int (g i j)):=by
 intro pins s σ H x y v u Q I rx ry h;obtain⟨i,j,rfl,rfl,hc,q⟩:=h;obtain⟨t,rfl⟩:=rx;obtain⟨t',rfl⟩:=ry;exact rule i j t t' s _ _ hc ⟨.int (g i j),H,I.tok _,⟨_,rfl⟩,q⟩
theorem BO{f:Value->Value->Sem Value}{g:Int->Int->Bool}
  (rule:∀(i j:Int) (t u:Tok) (s:Shared) (Q:Value->Shared->Prop) (E:Value->Shared->Prop),Q (.bool (g i j)) s->wpAny (model X.prog X.w) X.A (f (.int i t) (.int j u)) Q E s) :
  Km X f (PN fun i j=>.bl (g i j)):=by
 intro pins s σ H x y v u Q I rx ry h;obtain⟨i,j,rfl,rfl,q⟩:=h;obtain⟨t,rfl⟩:=rx;obtain⟨t',rfl⟩:=ry;exact rule i j t t' s _ _ ⟨.bl (g i j),H,I,rfl,q⟩
def CT(i j:Int):Prop:=0<j/\j<1073741824
def Mf(i j:Int):Prop:=(-(2 ^ 64)<i/\i<2 ^ 64)\/(-(2 ^ 64)<j/\j<2 ^ 64)
theorem Mf.ok{i j:Int}(h:Mf i j):IntMulOk i j:=by
 rcases h with ⟨h1,h2⟩|⟨h1,h2⟩
 ·exact .of_left (intBits_le_64 h1 h2)
 ·exact .of_right (intBits_le_64 h1 h2)
theorem OX:Km X (binaryOp .Mult) (rI Mf fun i j=>.int (i * j)):=Rj fun _ _ _ _ _ _ _ hc q=>mul_int q hc.ok
theorem AE:Km X (binaryOp .FloorDiv) (rI CT fun i j=>.int (i / j)):=Rj fun i j _ _ _ _ _ hc q=>by
 have h1:(0:Int)<j:=hc.1;have h2:j<1073741824:=hc.2;exact floordiv_int (by omega) (by rw[Int.fdiv_eq_ediv_of_nonneg i (by omega)];exact q) (.inl (PyProof.noPylong_small (by omega)))
theorem Cj:Km X (binaryOp .Mod) (rI (fun _ j=>0<j) fun i j=>.int (i % j)):=Rj fun i j _ _ _ _ _ hc q=>by
 have h1:(0:Int)<j:=hc;exact mod_int' (by omega) (by rw[Int.fmod_eq_emod_of_nonneg i (by omega)];exact q)
theorem Xr{f:Value->Sem Value}{g:Int->Int}
  (rule:∀(i:Int) (t:Tok) (s:Shared) (Q:Value->Shared->Prop) (E:Value->Shared->Prop),Q (.int (g i) s.toks) { s with toks:=s.toks+1 }->wpAny (model X.prog X.w) X.A (f (.int i t)) Q E s) :
  Si X f (rU fun i=>.int (g i)):=by
 intro pins s σ H x v Q I rx h;obtain⟨i,rfl,q⟩:=h;obtain⟨t,rfl⟩:=rx;exact rule i t s _ _ ⟨.int (g i),H,I.tok _,⟨_,rfl⟩,q⟩
theorem CY:Si X (unaryOp .USub) (rU fun i=>.int (-i)):=Xr fun _ _ _ _ _ q=>neg_int q
end
section
variable{X:Cx}{a b c:Expr}{ta tb tc:TE}{pos:Pos}
theorem DI:Km X (compareOp .Lt) (PN fun i j=>.bl (decide (i<j))):=BO fun _ _ _ _ _ _ _ q=>lt_int q
theorem DF:Km X (compareOp .LtE) (PN fun i j=>.bl (decide (i<=j))):=BO fun _ _ _ _ _ _ _ q=>le_int q
theorem Dt:Km X (compareOp .Gt) (PN fun i j=>.bl (decide (j<i))):=BO fun _ _ _ _ _ _ _ q=>gt_int q
theorem DN:Km X (compareOp .GtE) (PN fun i j=>.bl (decide (j<=i))):=BO fun _ _ _ _ _ _ _ q=>ge_int q
theorem Km.or{f:Value->Value->Sem Value}{r r':R2}(h:Km X f r)(h':Km X f r'):Km X f (fun x y H Q=>r x y H Q\/r' x y H Q):=by
 intro pins s σ H x y v u Q I rx ry q;rcases q with q|q
 ·exact h pins s σ H x y v u Q I rx ry q
 ·exact h' pins s σ H x y v u Q I rx ry q
theorem aK(b:Expr){op:CmpOp}(h:op≠.In:=by decide)(h2:op≠.NotIn:=by decide):behindInMarks op b=false:=by
 have e1:(op == CmpOp.In)=false:=by cases op<;>first|rfl|exact absurd rfl h
 have e2:(op == CmpOp.NotIn)=false:=by cases op<;>first|rfl|exact absurd rfl h2
 cases b<;>simp[behindInMarks,e1,e2]
def Dv(K:PySem.W.Frag)(x:V)(H:Hp)(k:Bool):Prop:=
 match x with
 |.EJ=>k=false
 |.bl b=>k=b
 |.int i=>k=(i != 0)
 |.str y=>y.length<=sizeLine/\k=((y.length:Int) != 0)
 |.OT y=>y.size<=sizeLine/\k=((y.size:Int) != 0)
 |.ref p=>(∃xs,GP K H p xs/\k = !xs.isEmpty)\/(∃xs,Hi K H p xs/\k = !xs.isEmpty)\/∃kvs,H p=some (.dK kvs)/\k = !kvs.isEmpty
 |_=>False
theorem vA{κ:Type}{kvs:List (κ×V)}{vs:List (κ×Value)}(r:KV kvs vs):(!vs.isEmpty) = !kvs.isEmpty:=by
 cases r<;>rfl
theorem pV{xs:List V}{u_:List Value}(r:Vals xs u_):(!u_.toArray.isEmpty) = !xs.isEmpty:=by
 cases r<;>simp
theorem lR:(sizeLine:Nat)<2 ^ 63:=by rw[sizeLine_eq];decide
theorem Cq:Ek X (fun x H Q=>∃k,Dv X.K x H k/\Q k H):=by
 intro pins s σ H x v Q I rx h;obtain⟨k,e,q⟩:=h;have hl:=lR;have hs:sizeLine=16777216:=sizeLine_eq;cases x with
 |EJ=>
  cases rx;have e':k=false:=e;subst e';exact truthy_none ⟨H,I,q⟩
 |bl b=>
  cases rx;have e':k=b:=e;subst e';exact wpAny_truthy_bool ⟨H,I,q⟩
 |int i=>
  obtain⟨t,rfl⟩:=rx;have e':k=(i != 0):=e;subst e';exact PySem.P.truthy_int ⟨H,I,q⟩
 |str y=>
  obtain⟨t,rfl⟩:=rx;obtain⟨hy,e'⟩:y.length<=sizeLine/\k=((y.length:Int) != 0):=e;subst e';exact PySem.P.truthy_str (by omega) ⟨H,I.tok _,q⟩
 |OT y=>
  obtain⟨t,rfl⟩:=rx;obtain⟨hy,e'⟩:y.size<=sizeLine/\k=((y.size:Int) != 0):=e;subst e';exact PySem.W.truthy_bytes (by omega) ⟨H,I.tok _,q⟩
 |ref p=>
  cases rx;have e':(∃xs,GP X.K H p xs/\k = !xs.isEmpty)\/(∃xs,Hi X.K H p xs/\k = !xs.isEmpty)\/∃kvs,H p=some (.dK kvs)/\k = !kvs.isEmpty:=e;rcases e' with ⟨xs,hx,e'⟩|⟨xs,hx,e'⟩|⟨kvs,hx,e'⟩
  ·subst e';obtain⟨u_,r,pl,hz⟩:=I.list hx;have hlen:=r.length;exact wpAny_truthy_list pl.isList (by simp only[List.size_toArray];omega) ⟨H,I.tok _,by rw[pV r];exact q⟩
  ·subst e';obtain⟨u_,r,pl,hz⟩:=I.tuple hx;have hlen:=r.length;exact truthy_tuple pl (by simp only[List.size_toArray];omega) ⟨H,I.tok _,by rw[pV r];exact q⟩
  ·subst e';obtain⟨hz,hS,vs,r,m⟩:kvs.length<=sizeLine/\(p == sysModules)=false/\∃vs,KV kvs vs/\s.heap.DictOf (cU X.prog X.w) p vs:=I.EW p _ hx;have hlen:kvs.length=vs.length:=Paired.length r;exact wpAny_truthy_dict hS m (by omega) ⟨H,I.tok _,by rw[vA r];exact q⟩
 |_=>exact(show False from e).elim
theorem zt{x:V}{us:List Value}(r:Vals [x] us):∃u,us=[u]/\RelV x u:=by
 cases r with
 |cons r1 r2=>cases r2;exact⟨_,rfl,r1⟩
theorem B0{x y:V}{us:List Value}(r:Vals [x,y] us):∃u w',us=[u,w']/\RelV x u/\RelV y w':=by
 cases r with
 |cons r1 r2=>
  cases r2 with
  |cons r3 r4=>cases r4;exact⟨_,_,rfl,r1,r3⟩
theorem xN(hc:X.calm=true):HH X (.builtin "max") (fun xs H Q=>∃i j,xs=[.int i,.int j]/\Q (.int (if j > i then j else i)) H):=by
 intro pins s σ H xs us Q I r h;obtain⟨i,j,rfl,q⟩:=h;obtain⟨u,w',rfl,⟨t,rfl⟩,⟨t',rfl⟩⟩:=B0 r;refine max_two_ints (I.ok.hd hc) fun h' tk k=>⟨_,H,I.kept k,?_,q⟩
 by_cases hj:j > i
 ·rw[if_pos hj,if_pos hj];exact⟨_,rfl⟩
 ·rw[if_neg hj,if_neg hj];exact⟨_,rfl⟩
theorem yd(hc:X.calm=true):HH X (.builtin "min") (fun xs H Q=>∃i j,xs=[.int i,.int j]/\Q (.int (if j<i then j else i)) H):=by
 intro pins s σ H xs us Q I r h;obtain⟨i,j,rfl,q⟩:=h;obtain⟨u,w',rfl,⟨t,rfl⟩,⟨t',rfl⟩⟩:=B0 r;refine min_two_ints (I.ok.hd hc) fun h' tk k=>⟨_,H,I.kept k,?_,q⟩
 by_cases hj:j<i
 ·rw[if_pos hj,if_pos hj];exact⟨_,rfl⟩
 ·rw[if_neg hj,if_neg hj];exact⟨_,rfl⟩
end
end L2
namespace L2
open PySem PySem.Spec PyProof.Rows
structure Lu(h:Heap)(x dx C:Addr)(mA:Str->Option Value):Prop where
 obj:h.get? x=some (PySem.W.instObj C dx)
 ns:h.Ns1 dx mA
 ne:dx≠x
theorem yz{h:Heap}{dx:Addr}{mA:Str->Option Value}(n:h.Ns1 dx mA):∃od,h.get? dx=some od/\∀name,PySem.W.lookIn name od=some (mA name):=by
 obtain⟨o,es,ep,ho,hd,hk,_,hm⟩:=n;refine⟨o,ho,fun name=>?_⟩;have e:=hm name;unfold nsFind findBy at e;rw[<-Array.find?_toList] at e;unfold PySem.W.lookIn;rw[hd];dsimp only;split
 ·rename_i y q;rw[q] at e;exact congrArg some e
 ·rename_i q;rw[q] at e;have a:es.toList.any (·.refKey)=false:=by
   rw[List.any_eq_false];intro y hy;obtain⟨z,t,Sj⟩:=hk y (Array.mem_toList_iff.mp hy);simp[DictEntry.refKey,Sj]
  have a':¬es.toList.any (·.refKey)=true:=by rw[a];exact Bool.false_ne_true
  rw[if_neg a'];exact congrArg some e
theorem Lu.look{h:Heap}{x dx C:Addr}{mA:Str->Option Value}(I:Lu h x dx C mA):∃od,PySem.W.InstAt h x (PySem.W.instObj C dx) C (some od)/\∀name,PySem.W.lookIn name od=some (mA name):=
 let ⟨od,ho,hl⟩:=yz I.ns
 ⟨od,⟨I.obj,rfl,rfl,ho⟩,hl⟩
section
variable{prog:Program}{w:World}{A:Around}{E:Value->Shared->Prop}{s:Shared}{K:PySem.W.Frag}{x dx C f:Addr}{mA:Str->Option Value}{name:Str}{v:Value}
theorem Au{expr:Bool}{Q:Value->Shared->Prop}(X:K.In s.heap)(I:Lu s.heap x dx C mA)(hg:PySem.W.plainGet K C name=true)(hh:PySem.W.hasDictIn K C=true)
  (ha:PySem.W.findIn K (.ref C) name=some none) (hv:mA name=some v) (Xs:PySem.W.handedIn v=true) (h:Q v { s with toks:=s.toks+1 }) :
  wpAny (model prog w) A (getAttr (.ref x) name expr) Q E s:=by
 obtain⟨od,J,hl⟩:=I.look;exact PySem.W.get_value X J (PySem.W.plainGet_of hg).1 (PySem.W.findObj_own hh ha rfl (by rw[hl,hv])) Xs h
theorem zU{pl:Sem Bool}{Q:Value×List Value->Shared->Prop}(X:K.In s.heap)(I:Lu s.heap x dx C mA)(hg:PySem.W.plainGet K C name=true)
  (hf:PySem.W.findIn K (.ref C) name=some (some (.ref f))) (ht:PySem.W.isFn K (.ref f)=true) (hv:mA name=none) (h:Q (.ref f,[.ref x]) s) :
  wpAny (model prog w) A (getMethod (.ref x) name pl) Q E s:=by
 obtain⟨od,J,hl⟩:=I.look;exact PySem.W.method_fn X J (PySem.W.plainGet_of hg).1 (PySem.W.plainGet_of hg).2 hf (beq_iff_eq.mp ht) (by show(PySem.W.lookIn name od).map (·.isSome)=some false;rw[hl,hv];rfl) h
theorem Bp{ns:List Str}{Q:Unit->Shared->Prop}(X:K.In s.heap)(I:Lu s.heap x dx C mA)
  (hs:PySem.W.findIn K (.ref C) "__setattr__"=some (some (.builtin "object.__setattr__"))) (hp:PySem.W.plainOver K C=true) (ht:PySem.W.takerIn K C name=some none) (hh:PySem.W.hasDictIn K C=true)
  (hw:PySem.Within mA ns) (hsz:ns.length<=sizeLine)
  (h:∀h',Lu h' x dx C (fun y=>if y=name then some v else mA y)->Heap.SameBut dx s.heap h'->Q () { s with heap:=h',toks:=s.toks+2 }) :
  wpAny (model prog w) A (setAttr (.ref x) name v) Q E s:=by
 obtain⟨od,J,hl⟩:=I.look;refine PySem.W.set_plain X J hs (PySem.W.osa_open (s:={ s with toks:=s.toks+1 }) (r:=none) X J hp ht fun b=>?_);obtain⟨cd,hc,Jw⟩:=PySem.W.any_some hh;have hx:s.heap.get? x=some ⟨.ref C,some dx,.plain,#[]⟩:=I.obj;refine wpAny_bind (wpAny_pure (wpAny_bind (wpAny_bind (wpAny_loadPart hx (wpAny_bind (PySem.W.Looks.here (s:={ s with toks:=s.toks+1 }) (PySem.W.looks_clsIn X hc) ?_))))));rw[Jw];refine wpAny_pure (a:=some dx) (wpAny_bind (wpAny_pure (wpAny_bind ?_)));refine wpAny_nsSet1 (s:={ s with toks:=s.toks+1 }) I.ns fun h' PO Ke=>?_
 obtain⟨oD,esD,epD,Xt,Xu,Xv⟩:=PO.count (PySem.Within.cons name v hw);refine wpAny_bind (wpAny_lookBehind Xt (by rw[Xu];exact pastItsLine_dict (Nat.le_trans Xv (by rw[List.length_cons];omega))) ?_);exact wpAny_pure (h _ ⟨(Ke.2 _ (Ne.symm I.ne)).trans I.obj,PO,I.ne⟩ Ke)
theorem ze{R:Result->Shared->Prop}{vs:List Value}{kw:List (Str×Value)}(X:K.In s.heap)(hm:PySem.W.makesIn K C=true)
  (hi:PySem.W.findIn K (.ref C) "__init__"=some (some (.ref f))) (hf:PySem.W.typeIn K (.ref f)=some (.type "function"))
  (h:codeAny (model prog w) (A.under (.builtin "type.__call__" ⟨.ref C :: vs,kw⟩)) (.call (.ref f) ⟨.ref (s.heap.objs.size+1) :: vs,kw⟩) (PySem.W.InitBack (s.heap.objs.size+1) R)
   { s with heap:=(s.heap.push PySem.W.emptyDict).push (PySem.W.instObj C s.heap.objs.size) }) :
  codeAny (model prog w) A (.call (.ref C) ⟨vs,kw⟩) R s:=by
 obtain⟨hh,g,d,t,os⟩:=s;exact PySem.W.make_core (PySem.W.makes_of X hm) (PySem.W.looks_findIn X hi) (fun self=>PySem.W.bind_fn X self hf) (.inl rfl) h
end
def gy(f:Str)(v:V):List (Str×V)->List (Str×V)
 |[]=>[(f,v)]
 |(g,x) :: r=>if g=f then (g,v) :: r else (g,x) :: gy f v r
theorem ox(f g:Str)(v:V):∀fs:List (Str×V),(gy f v fs).lookup g=if g=f then some v else fs.lookup g
 |[]=>by
  show List.lookup g [(f,v)]=_;by_cases h:g=f
  ·have hb:(g == f)=true:=beq_iff_eq.mpr h;simp only[List.lookup,hb,if_pos h]
  ·have hb:(g == f)=false:=beq_eq_false_iff_ne.mpr h;simp only[List.lookup,hb,if_neg h]
 |(k,x) :: r=>by
  have ih:=ox f g v r;rw[show gy f v ((k,x) :: r)=(if k=f then (k,v) :: r else (k,x) :: gy f v r) from rfl];by_cases hk:k=f
  ·rw[if_pos hk];by_cases h:g=k
   ·have hb:(g == k)=true:=beq_iff_eq.mpr h;simp only[List.lookup,hb,if_pos (h.trans hk)]
   ·have hb:(g == k)=false:=beq_eq_false_iff_ne.mpr h;simp only[List.lookup,hb,if_neg (fun e:g=f=>h (e.trans hk.symm))]
  ·rw[if_neg hk];by_cases h:g=k
   ·have hb:(g == k)=true:=beq_iff_eq.mpr h;simp only[List.lookup,hb,if_neg (fun e:g=f=>hk (h.symm.trans e))]
   ·have hb:(g == k)=false:=beq_eq_false_iff_ne.mpr h;simp only[List.lookup,hb];exact ih
theorem nG(f:Str)(v:V):∀fs:List (Str×V),f∈(gy f v fs).map (·.1)/\∀g,g∈fs.map (·.1)->g∈(gy f v fs).map (·.1)
 |[]=>⟨by simp[gy],fun g h=>by simp at h⟩
 |(k,x) :: r=>by
  obtain⟨i1,i2⟩:=nG f v r;rw[show gy f v ((k,x) :: r)=(if k=f then (k,v) :: r else (k,x) :: gy f v r) from rfl];by_cases hk:k=f
  ·rw[if_pos hk];subst hk;exact⟨by simp,fun g h=>by simpa using h⟩
  ·rw[if_neg hk];refine⟨?_,fun g h=>?_⟩
   ·rw[List.map_cons];exact List.mem_cons_of_mem _ i1
   ·rw[List.map_cons] at h ⊢;rcases List.mem_cons.mp h with e|e
    ·exact List.mem_cons.mpr (.inl e)
    ·exact List.mem_cons_of_mem _ (i2 g e)
theorem oo(f:Str)(v:V):∀fs:List (Str×V),(gy f v fs).length<=fs.length+1
 |[]=>by simp[gy]
 |(k,x) :: r=>by
  have ih:=oo f v r;rw[show gy f v ((k,x) :: r)=(if k=f then (k,v) :: r else (k,x) :: gy f v r) from rfl];by_cases hk:k=f
  ·rw[if_pos hk,List.length_cons,List.length_cons];omega
  ·rw[if_neg hk,List.length_cons,List.length_cons];omega
theorem G9.some_of{v:V}{o:Option Value}(r:G9 (some v) o):∃u,o=some u/\RelV v u:=by
 cases o with
 |none=>exact(show False from r).elim
 |some u=>exact⟨u,rfl,r⟩
theorem G9.none_of{o:Option Value}(r:G9 none o):o=none:=by
 cases o with
 |none=>rfl
 |some u=>exact(show False from r).elim
theorem yl{v:V}{u:Value}(r:RelV v u):PySem.W.handedIn u=true:=by
 cases v with
 |EJ=>cases(show u=Value.none from r);rfl
 |bl b=>cases(show u=Value.bool b from r);rfl
 |int i=>obtain⟨t,e⟩:=(show ∃t,u=Value.int i t from r);cases e;rfl
 |str x=>obtain⟨t,e⟩:=(show ∃t,u=Value.str x t from r);cases e;rfl
 |OT b=>obtain⟨t,e⟩:=(show ∃t,u=Value.bytes b t from r);cases e;rfl
 |OU b=>obtain⟨t,e⟩:=(show ∃t,u=Value.float b t from r);cases e;rfl
 |ref a=>cases(show u=Value.ref a from r);rfl
 |ty n=>cases(show u=Value.type n from r);rfl
section
variable{P:Program}{w:World}{H H':Hp}{h h':Heap}{a C dx:Addr}{fs R5:List (Str×V)}
theorem sM(EW:GH P w H h)(e:H a=some (.ins C dx fs)):∃mA,Lu h a dx C mA/\(∀f,G9 (fs.lookup f) (mA f))/\PySem.Within mA (fs.map (·.1))/\fs.length<=1000/\H dx=some (.own a):=by
 obtain⟨d,z,ne,ob,mA,n,r,q⟩:=(show Fq P w H h a (.ins C dx fs) from EW a _ e);exact⟨mA,⟨ob,n,ne⟩,r,q,z,d⟩
end
structure K2(K:PySem.W.Frag)(C:Addr):Prop where
 pg:PySem.W.plainGet K C Str.empty=true
 hd:PySem.W.hasDictIn K C=true
 po:PySem.W.plainOver K C=true
 sa:PySem.W.findIn K (.ref C) "__setattr__"=some (some (.builtin "object.__setattr__"))
theorem K2.get{K:PySem.W.Frag}{C:Addr}(c:K2 K C)(f:Str):PySem.W.plainGet K C f=true:=c.pg
def E6(K:PySem.W.Frag)(C:Addr)(f:Str):Prop:=PySem.W.findIn K (.ref C) f=some none
theorem E6.Qn{K:PySem.W.Frag}{C:Addr}{f:Str}(n:E6 K C f):PySem.W.takerIn K C f=some none:=by
 unfold PySem.W.takerIn;rw[show PySem.W.findIn K (.ref C) f=some none from n];rfl
structure Con(K:PySem.W.Frag)(C:Addr)(f:Str)(v:V)(u:Value):Prop where
 at_:PySem.W.findIn K (.ref C) f=some (some u)
 rel:RelV v u
 get:PySem.W.specialIn K u "__get__"=some none
 cp:PySem.W.copiedNames.contains f=false
structure Meth(K:PySem.W.Frag)(C:Addr)(m:Str)(f:Addr):Prop where
 at_:PySem.W.findIn K (.ref C) m=some (some (.ref f))
 fn:PySem.W.isFn K (.ref f)=true
 kp:PySem.W.keepIn K (.ref f)=true
section
variable{X:Cx}{pins:List (Addr×Obj)}{σ:St}{H:Hp}{s:Shared}{a C dx:Addr}{fs:List (Str×V)}{f:Str}{v:V}{A:Around}{E:Value->Shared->Prop}
theorem pC{b:Bool}{Q:Value->Shared->Prop}(I:Inv X pins σ H s)(e:H a=some (.ins C dx fs))(c:K2 X.K C)(n:E6 X.K C f)(l:fs.lookup f=some v)
  (h:∀u s',Inv X pins σ H s'->RelV v u->Q u s'):wpAny (model X.prog X.w) A (getAttr (.ref a) f b) Q E s:=by
 obtain⟨mA,O,r,_,_,_⟩:=sM I.EW e;obtain⟨u,hu,ru⟩:=G9.some_of (v:=v) (o:=mA f) (by rw[<-l];exact r f);exact Au I.IS O (c.get f) c.hd n hu (yl ru) (h u _ (I.tok _) ru)
theorem p5{m:Str}{g:Addr}{pl:Sem Bool}{Q:Value×List Value->Shared->Prop}(I:Inv X pins σ H s)(e:H a=some (.ins C dx fs))(c:K2 X.K C)(k:Meth X.K C m g)(l:fs.lookup m=none)
  (h:Q (.ref g,[.ref a]) s):wpAny (model X.prog X.w) A (getMethod (.ref a) m pl) Q E s:=by
 obtain⟨mA,O,r,_,_,_⟩:=sM I.EW e;have hn:mA m=none:=G9.none_of (by rw[<-l];exact r m);exact zU I.IS O (c.get m) k.at_ k.fn hn h
theorem qm{y:V}{u:Value}{Q:Unit->Shared->Prop}(I:Inv X pins σ H s)(e:H a=some (.ins C dx fs))(c:K2 X.K C)(n:E6 X.K C f)(hl:fs.length<1000)(ry:RelV y u)
  (h:∀s',Inv X pins σ (upd H a (.ins C dx (gy f y fs))) s'->Q () s'):wpAny (model X.prog X.w) A (setAttr (.ref a) f u) Q E s:=by
 obtain⟨mA,O,r,wi,_,ho⟩:=sM I.EW e;have hz:(fs.map (·.1)).length<=sizeLine:=by rw[List.length_map,sizeLine_eq];omega
 refine Bp I.IS O c.sa c.po n.Qn c.hd wi hz fun h' O' sb=>h _ ?_
 have hd:∃o,h'.get? dx=some o:=let ⟨o,_,_,e',_⟩:=O'.ns;⟨o,e'⟩
 refine I.write (x:=a) (e:=dx) (by rw[e];exact True.intro) (.inr ho) (fun b q hb z=>(sb.2 b hb).trans z) hd ?_;refine⟨by rw[bf O.ne];exact ho,?_,O.ne,O'.obj,_,O'.ns,fun g=>?_,fun g hg=>?_⟩
 ·have:=oo f y fs;omega
 ·show G9 ((gy f y fs).lookup g) (if g=f then some u else mA g);rw[ox];by_cases q:g=f
  ·rw[if_pos q,if_pos q];exact ry
  ·rw[if_neg q,if_neg q];exact r g
 ·by_cases q:g=f
  ·rw[q];exact(nG f y fs).1
  ·refine(nG f y fs).2 g (wi g fun z=>hg ?_);show(if g=f then some u else mA g)=none;rw[if_neg q];exact z
theorem Inv.made(I:Inv X pins σ H s):Inv X pins σ (upd (upd H s.heap.objs.size (.own (s.heap.objs.size+1))) (s.heap.objs.size+1) (.ins C s.heap.objs.size []))
  { s with heap:=(s.heap.push PySem.W.emptyDict).push (PySem.W.instObj C s.heap.objs.size) }:=by
 have e1:(s.heap.push PySem.W.emptyDict).get? s.heap.objs.size=some PySem.W.emptyDict:=Heap.get?_push_size s.heap rfl;have e2:((s.heap.push PySem.W.emptyDict).push (PySem.W.instObj C s.heap.objs.size)).get? (s.heap.objs.size+1)=some (PySem.W.instObj C s.heap.objs.size):=by
  have:=Heap.get?_push_size (s.heap.push PySem.W.emptyDict) (o:=PySem.W.instObj C s.heap.objs.size) rfl;rwa[Heap.size_push] at this
 have e3:(s.heap.push PySem.W.emptyDict).Ns s.heap.objs.size (fun _=>none):=⟨PySem.W.emptyDict,#[],_,e1,rfl,(fun e he=>absurd he (by simp)),fun _=>rfl⟩;have I1:=I.laid (a:=s.heap.objs.size) (o:=.own (s.heap.objs.size+1)) (h':=s.heap.push PySem.W.emptyDict) (t':=s.toks) (fun b u q=>Heap.get?_push_of_some _ q) (Nat.le_refl _) ⟨_,e1⟩;refine I1.laid (a:=s.heap.objs.size+1) (o:=.ins C s.heap.objs.size []) (t':=s.toks) (fun b u q=>Heap.get?_push_of_some _ q) (Nat.le_of_eq (Heap.size_push _ _)) ?_;have ne:s.heap.objs.size≠s.heap.objs.size+1:=Nat.ne_of_lt (Nat.lt_succ_self _);refine⟨by rw[bf ne,bB],Nat.zero_le _,ne,e2,fun _=>none,(Heap.Ns1.of_empty e3).at fun o q=>Heap.get?_push_of_some _ q,fun _=>True.intro,fun y hy=>absurd rfl hy⟩
theorem AT{prog:Program}{w:World}{env:Env}{e:Expr}{f:Str}{pos:Pos}{s:Shared}{Q:Value->Shared->Prop}(hb:attributeBase e f env (eval e env)=eval e env)
  (h:wpAny (model prog w) A (eval e env) (fun o E9=>wpAny (model prog w) A (getAttr o f true) Q E E9) E s):wpAny (model prog w) A (eval (.Attribute e f pos) env) Q E s:=
 Attribute_any_ h (by rw[arm_eval_Attribute,hb])
end
def jV(K:PySem.W.Frag)(ta tv:TE)(f:Str):TS:=fun D σ H=>tv σ H fun y H1=>ta σ H1 fun x H2=>∃a C dx fs,x=.ref a/\H2 a=some (.ins C dx fs)/\K2 K C/\E6 K C f/\fs.length<1000/\
 D.nx σ (upd H2 a (.ins C dx (gy f y fs)))
section
variable{X:Cx}{o e value:Expr}{f:Str}{pos pos' IW:Pos}{ta tv:TE}
end
section
variable{X:Cx}{pins:List (Addr×Obj)}{σ:St}{H:Hp}{s:Shared}{A:Around}{E:Value->Shared->Prop}{Q:Value->Shared->Prop}{c:Value}{b:Bool}
inductive IX(K:PySem.W.Frag)(H:Hp):V->Value->Prop where
 |EJ:IX K H .EJ (.type "NoneType")
 |bl (x:Bool):IX K H (.bl x) (.type "bool")
 |int (i:Int):IX K H (.int i) (.type "int")
 |str (x:Str):IX K H (.str x) (.type "str")
 |OU (x:UInt64):IX K H (.OU x) (.type "float")
 |lst {a:Addr}{xs:List V}(e:H a=some (.lst xs)):IX K H (.ref a) (.type "list")
 |Lr {a:Addr}{o:Obj}{xs:List V}(e:H a=some (.Lr o (.lst xs))):IX K H (.ref a) (.type "list")
 |tup {a:Addr}{xs:List V}(e:H a=some (.tup xs)):IX K H (.ref a) (.type "tuple")
 |dK {a:Addr}{kvs:List (Key×V)}(e:H a=some (.dK kvs)):IX K H (.ref a) (.type "dict")
 |dT {a:Addr}{kvs:List (List Key×V)}(e:H a=some (.dT kvs)):IX K H (.ref a) (.type "dict")
 |ins {a C dx:Addr}{fs:List (Str×V)}(e:H a=some (.ins C dx fs)) (cl:K2 K C) (ha:PySem.W.findIn K (.ref C) "__class__"=some (some (.builtin "object.__class__")))
   (hn:PySem.W.specialIn K (.builtin "object.__class__") "__get__"=some (some (.builtin "getset_descriptor.__get__"))) (VO:PySem.W.takesIn K (.builtin "object.__class__")=some true)
   (hm:PySem.W.mroIn K C (.type "object")=some true):IX K H (.ref a) (.ref C)
end
end L2
namespace L2
open PySem PySem.Spec PyProof.Rows
structure FX(k:Nat)(A:Around):Prop where
 hd:A.handled=none
 dp:A.depth+3 * k+5<recursionLimit
 un:A.units+16 * k+200<cLine
theorem FX.mono{j k:Nat}{A:Around}(r:FX k A)(h:j<=k):FX j A:=⟨r.hd,by have:=r.dp;omega,by have:=r.un;omega⟩
theorem FX.deeper{k:Nat}{A:Around}(r:FX (k+1) A)(env:Env):FX k (A.deeper env):=
 ⟨r.hd,by have:=r.dp;show A.depth+1+3 * k+5<_;omega,by have:=r.un;show A.units+3+16 * k+200<_;omega⟩
theorem FX.in1{k:Nat}{A:Around}(r:FX (k+1) A):FX k A.in1:=
 ⟨r.hd,by have:=r.dp;show A.depth+3 * k+5<_;omega,by have:=r.un;show A.units+1+16 * k+200<_;omega⟩
theorem vB{A:Around}{C:Addr}{us:List Value}{kw:List (Str×Value)}:(A.under (.builtin "type.__call__" ⟨.ref C :: us,kw⟩)).depth=A.depth+1:=by
 first|rfl|simp[Around.under,Code.weight,Code.isCreation,Code.isGuard,Code.isCaller,Code.frames,Code.isFrame,guardIds]
theorem vC{A:Around}{C:Addr}{us:List Value}{kw:List (Str×Value)}:(A.under (.builtin "type.__call__" ⟨.ref C :: us,kw⟩)).units=A.units+1:=by
 first|rfl|simp[Around.under,Code.cUnits,Code.frames,Code.isFrame]
theorem FX.make{k:Nat}{A:Around}(r:FX (k+1) A)(C:Addr)(us:List Value)(kw:List (Str×Value)):FX k (A.under (.builtin "type.__call__" ⟨.ref C :: us,kw⟩)):=
 ⟨r.hd,by have:=r.dp;rw[vB];omega,by have:=r.un;rw[vC];omega⟩
theorem FX.depth{k:Nat}{A:Around}(r:FX k A):A.depth<recursionLimit:=by have:=r.dp;omega
theorem FX.units{k:Nat}{A:Around}(r:FX k A):A.units+64<cLine:=by have:=r.un;omega
section
variable{X:Cx}{e:Expr}{es:List Expr}{te:TE}{t:TA}{pos:Pos}
end
abbrev Sp:=List V->Hp->VK->XK->Prop
abbrev Ir:=List Env->Hp->Shared->XK->Value->Shared->Prop
structure Jx(P:Program)(w:World)(K:PySem.W.Frag)(mg:Str->Option Value)(base:Heap)(A:Around)(outer:List Env)(s:Shared)(H:Hp):Prop where
 frames:A.frames=some outer
 mod:Mod K mg base
 bs:∀b o,base.get? b=some o->s.heap.get? b=some o/\H b=none
 Mu:base.objs.size<=s.heap.objs.size
 HY:s.heap.FunFrames base outer
 ND:∀b∈Ll outer,H b=none
 EW:GH P w H s.heap
 bare:AllBare s.gens
def CE(outer:List Env)(P:Program)(w:World)(H:Hp)(s:Shared)(Q:VK)(u:Value)(s':Shared):Prop:=
 ∃v H',s'.os=s.os/\AllBare s'.gens/\Un (Ll outer) [] H H' s.heap s'.heap/\GH P w H' s'.heap/\RelV v u/\Q v H'
def CR(CX:Ir)(outer:List Env)(P:Program)(w:World)(H:Hp)(s:Shared)(Q:VK)(E:XK)(r:Result)(s':Shared):Prop:=
 match r with
 |.ok (.ret u)=>CE outer P w H s Q u s'
 |.ok _=>False
 |.error e=>CX outer H s E e s'
structure Ia(P:Program)(w:World)(K:PySem.W.Frag)(mg:Str->Option Value)(base:Heap)(CX:Ir)(k:Nat)(f:Addr)(fd:FuncData)(ps:List Str)(sp:Sp):Prop where
 len:∀vs H Q E,sp vs H Q E->vs.length=ps.length
 run:∀(A:Around) (outer:List Env) (s:Shared) (H:Hp) (args:Args) (us:List Value) (vs:List V) (Q:VK) (E:XK),FX k A->Jx P w K mg base A outer s H->BindsTo s fd args (ps.zip us)->Vals vs us->sp vs H Q E->
  codeAny (model P w) A (.call (.ref f) args) (CR CX outer P w H s Q E) s
theorem Ia.mono{P:Program}{w:World}{K:PySem.W.Frag}{mg:Str->Option Value}{base:Heap}{CX:Ir}{j k:Nat}{f:Addr}{fd:FuncData}{ps:List Str}{sp:Sp}(F:Ia P w K mg base CX j f fd ps sp)(h:j<=k) :
  Ia P w K mg base CX k f fd ps sp:=⟨F.len,fun A outer s H args us vs Q E hr=>F.run A outer s H args us vs Q E (hr.mono h)⟩
theorem Ia.imp{P:Program}{w:World}{K:PySem.W.Frag}{mg:Str->Option Value}{base:Heap}{CX:Ir}{k:Nat}{f:Addr}{fd:FuncData}{ps:List Str}{sp VP:Sp}(F:Ia P w K mg base CX k f fd ps sp)
  (h:∀vs H Q E,VP vs H Q E->sp vs H Q E):Ia P w K mg base CX k f fd ps VP:=
 ⟨fun vs H Q E q=>F.len vs H Q E (h _ _ _ _ q),fun A outer s H args us vs Q E hr he hb hv hs=>F.run A outer s H args us vs Q E hr he hb hv (h _ _ _ _ hs)⟩
theorem Jx.make{P:Program}{w:World}{K:PySem.W.Frag}{mg:Str->Option Value}{base:Heap}{A:Around}{outer:List Env}{s:Shared}{H:Hp}(e:Jx P w K mg base A outer s H)(C:Addr)(us:List Value)(kw:List (Str×Value)) :
  Jx P w K mg base (A.under (.builtin "type.__call__" ⟨.ref C :: us,kw⟩)) outer s H:=⟨by first|exact e.frames|(simpa[Around.under,Code.envs,Code.isFrame,pushEnvs] using e.frames),e.mod,e.bs,e.Mu,e.HY,e.ND,e.EW,e.bare⟩
theorem Jx.in1{P:Program}{w:World}{K:PySem.W.Frag}{mg:Str->Option Value}{base:Heap}{A:Around}{outer:List Env}{s:Shared}{H:Hp}(e:Jx P w K mg base A outer s H) :
  Jx P w K mg base A.in1 outer s H:=⟨e.frames,e.mod,e.bs,e.Mu,e.HY,e.ND,e.EW,e.bare⟩
section
variable{X:Cx}{pins:List (Addr×Obj)}{σ:St}{H:Hp}{s s':Shared}
theorem Inv.Qo(I:Inv X pins σ H s):Jx X.prog X.w X.K X.mg X.base X.A X.stack s H:=
 ⟨I.ok.frames,I.ok.mod,I.bs,Nat.le_trans I.ok.Mu I.sz,I.stack,I.Kk,I.EW,I.bare⟩
theorem Inv.after{Q:VK}{u:Value}(I:Inv X pins σ H s)(h:CE X.stack X.prog X.w H s Q u s'):EP X pins σ Q u s':=by
 obtain⟨v,H',os,bare,un,EW,r,q⟩:=h;obtain⟨hh,g,d,t,Sk⟩:=s';obtain rfl:Sk=s.os:=os;exact⟨v,H',I.call (h':=hh) (g':=g) (d':=d) (t':=t) (ch:=[]) un EW bare (fun b z=>absurd z (by simp)),r,q⟩
end
def Binds(K:PySem.W.Frag)(fd:FuncData)(ps:List Str)(ds:List Value):Prop:=
 ∀(s:Shared) (us:List Value),K.In s.heap->(us++ds).length=ps.length->BindsTo s fd ⟨us,[]⟩ (ps.zip (us++ds))
theorem Binds.all{K:PySem.W.Frag}{fd:FuncData}{ps:List Str}(h:∀us:List Value,us.length=ps.length->bindArgs fd ⟨us,[]⟩=pure (ps.zip us)):Binds K fd ps []:=fun s us _ hl=>by
 rw[List.append_nil] at hl ⊢;exact .of_eq (h us hl)
section
variable{X:Cx}{CX:Ir}{k:Nat}{f C:Addr}{fd:FuncData}{ps:List Str}{sp:Sp}{dvs:List V}{ds:List Value}{E:XK}{x m:Str}{p pos apos:Pos}{e o:Expr}{es:List Expr}{ta:TE}{t:TA}
structure Mk(K:PySem.W.Frag)(C f:Addr):Prop where
 makes:PySem.W.makesIn K C=true
 init:PySem.W.findIn K (.ref C) "__init__"=some (some (.ref f))
 fn:PySem.W.isFn K (.ref f)=true
 kp:PySem.W.keepIn K (.ref C)=true
end
section
variable{X:Cx}{CX:Ir}{k:Nat}{f C:Addr}{fd:FuncData}{ps ks:List Str}{sp:Sp}{E:XK}{x m:Str}{p pos apos Xw:Pos}{e o:Expr}{es:List Expr}{kws:List Keyword}{te ta:TE}{t tk:TA}{nm:Option Str}
structure Sl(K:PySem.W.Frag)(fd:FuncData)(ps ks:List Str)(g:List Value->List Value->List Value)(gV:List V->List V->List V):Prop where
 to:∀(s:Shared) (us ws:List Value),K.In s.heap->(g us ws).length=ps.length->BindsTo s fd ⟨us,ks.zip ws⟩ (ps.zip (g us ws))
 rel:∀{vs:List V}{us:List Value}{zs:List V}{ws:List Value},Vals vs us->Vals zs ws->Vals (gV vs zs) (g us ws)
variable{g:List Value->List Value->List Value}{gV:List V->List V->List V}
end
structure m_(N P:List Str)(sc:Scope):Prop where
 kind:sc.kind=.function
 co:sc.isCoroutine=false
 gen:sc.isGenerator=false
 nd:N.Nodup
 pre:N.take P.length=P
 par:∀x∈P,sc.names.lookup x=some .local\/sc.names.lookup x=some .cell
 OY:∀y∈sc.names,y.2≠.free
theorem rG{kindOf:Str->Option NameKind}{x:Str}:∀{binds:List (Str×Value)}{m:Str->Option Value},(∀v,(x,v)∉binds)->bindL kindOf binds m x=m x
 |[],_,_=>rfl
 |(n,v) :: r,m,h=>by
  unfold bindL;rw[rG fun w hw=>h w (List.mem_cons_of_mem _ hw)];split
  ·have:x≠n:=by rintro rfl;exact h v List.mem_cons_self
   simp[this]
  ·rfl
theorem rV{kindOf:Str->Option NameKind}{x:Str}:∀{binds:List (Str×Value)}{m:Str->Option Value},(∀v,(x,v)∉binds)->bindC kindOf binds m x=m x
 |[],_,_=>rfl
 |(n,v) :: r,m,h=>by
  unfold bindC;rw[rV fun w hw=>h w (List.mem_cons_of_mem _ hw)];split
  ·rfl
  ·have:x≠n:=by rintro rfl;exact h v List.mem_cons_self
   simp[this]
theorem rK{kindOf:Str->Option NameKind}{x:Str}{v:Value}:∀{P:List Str}{vs:List Value}{i:Nat}{m:Str->Option Value},P.Nodup->P[i]?=some x->vs[i]?=some v->kindOf x=some .local->
  bindL kindOf (P.zip vs) m x=some v
 |[],_,_,_,_,h,_,_=>by simp at h
 |_ :: _,[],_,_,_,_,h,_=>by simp at h
 |p :: P,w :: vs,0,m,nd,h1,h2,hk=>by
  simp at h1 h2;subst h1;subst h2;show bindL kindOf ((p,w) :: P.zip vs) m p=_;unfold bindL;rw[rG fun v hv=>(List.nodup_cons.mp nd).1 (List.of_mem_zip hv).1,if_pos hk];simp
 |p :: P,w :: vs,i+1,m,nd,h1,h2,hk=>by
  show bindL kindOf ((p,w) :: P.zip vs) m x=_;unfold bindL;exact rK (i:=i) (List.nodup_cons.mp nd).2 (by simpa using h1) (by simpa using h2) hk
theorem sv{kindOf:Str->Option NameKind}{x:Str}{v:Value}:∀{P:List Str}{vs:List Value}{i:Nat}{m:Str->Option Value},P.Nodup->P[i]?=some x->vs[i]?=some v->kindOf x≠some .local->
  bindC kindOf (P.zip vs) m x=some v
 |[],_,_,_,_,h,_,_=>by simp at h
 |_ :: _,[],_,_,_,_,h,_=>by simp at h
 |p :: P,w :: vs,0,m,nd,h1,h2,hk=>by
  simp at h1 h2;subst h1;subst h2;show bindC kindOf ((p,w) :: P.zip vs) m p=_;unfold bindC;rw[rV fun v hv=>(List.nodup_cons.mp nd).1 (List.of_mem_zip hv).1,if_neg hk];simp
 |p :: P,w :: vs,i+1,m,nd,h1,h2,hk=>by
  show bindC kindOf ((p,w) :: P.zip vs) m x=_;unfold bindC;exact sv (i:=i) (List.nodup_cons.mp nd).2 (by simpa using h1) (by simpa using h2) hk
def start(N:List Str)(vs:List V):St:=vs.map some++List.replicate (N.length-vs.length) none
def oH(CX:Ir)(P:Program)(w:World)(K:PySem.W.Frag)(mg:Str->Option Value)(base:Heap)(N:List Str)(qual:Str)(scope:Scope)(f:Addr)(cd:Value)(A:Around)(outer:List Env)(s:Shared)(H:Hp)(E:XK):Cx where
 prog:=P
 w:=w
 K:=K
 mg:=mg
 base:=base
 A:=A.deeper (envOfC qual scope s.heap.objs.size f cd)
 N:=N
 GC:=s
 ME:=H
 env:=envOfC qual scope s.heap.objs.size f cd
 outer:=outer
 stack:=envOfC qual scope s.heap.objs.size f cd :: outer
 ex:=[]
 calm:=true
 fn:=fun _=>true
 pn:=[]
 xe:=fun e s'=>wpAny (model P w) (A.deeper (envOfC qual scope s.heap.objs.size f cd)) (leaving (envOfC qual scope s.heap.objs.size f cd) e) (fun _ NG=>CX outer H s E e NG) (fun e' NG=>CX outer H s E e' NG) s'
theorem uq{sc:Scope}{n:Nat}{x:Str}(h:sc.names.lookup x=some .cell):∃c,(cellsFrom n sc.names []).lookup x=some c:=by
 have q:=PySem.W.cellsFrom_some sc.names n [] (.inl h);exact Option.isSome_iff_exists.mp q
theorem xT{CX:Ir}{P:Program}{w:World}{K:PySem.W.Frag}{mg:Str->Option Value}{base:Heap}{N ps:List Str}{qual:Str}{scope:Scope}{f:Addr}{cd:Value}{A:Around}{outer:List Env}{s s1:Shared}{H:Hp}{E:XK}{us:List Value}{vs:List V}
  (S:m_ N ps scope) (hd:A.handled=none) (e0:Jx P w K mg base A outer s H) (hl:vs.length=ps.length) (r:Vals vs us)
  (x:InCallC s s.heap.objs.size (bindL (envOfC qual scope s.heap.objs.size f cd).kindOf (ps.zip us) fun _=>none) (cellsFrom (s.heap.objs.size+1) scope.names []) (bindC (envOfC qual scope s.heap.objs.size f cd).kindOf (ps.zip us) fun _=>none) s1) :
  Inv (oH CX P w K mg base N qual scope f cd A outer s H E) [] (start N vs) H s1:=by
 have K3:ps.length<=N.length:=by have:=congrArg List.length S.pre;rw[List.length_take] at this;omega
 obtain⟨h1,tk,rfl,hk⟩:=x.done;have Qp:∀b:Addr,b∉(oH CX P w K mg base N qual scope f cd A outer s H E).ex:=fun b z=>absurd (show b∈([]:List Addr) from z) (by simp)
 refine⟨⟨e0.mod,S.kind,rfl,rfl,Nat.le_refl _,fun y z c h1 h2=>?_,fun y hy=>?_,fun y c _ h=>?_,fun _=>hd,Around.frames_deeper e0.frames,.inr ⟨rfl,rfl⟩,fun b z=>absurd z (Qp b),e0.bs,e0.Mu,fun b _ _=>Qp b,fun b z=>absurd z (Qp b),e0.HY,e0.ND⟩,
  rfl,e0.bare,Un.kept hk,⟨_,x.toInCall.ns,fun i y v h1 h2 h3=>?_⟩,fun y c h=>⟨_,x.cell y c h⟩,e0.EW.fresh (Nat.le_refl _),fun y c h=>?_,fun p hp=>absurd (show p∈([]:List (Addr×Obj)) from hp) (by simp),e0.EW.kept hk,?_⟩
 ·exact name_of_addr x.apart (PySem.mem_of_lookup h1) (PySem.mem_of_lookup h2)
 ·have hy:scope.names.lookup y=some .cell\/scope.names.lookup y=some .free:=hy;rcases hy with hy|hy
  ·exact uq hy
  ·exact absurd rfl (S.OY _ (PySem.mem_of_lookup hy))
 ·exact Nat.le_of_lt (x.above y c (PySem.mem_of_lookup h))
 ·have hi:i<vs.length:=by
   unfold start at h2;by_cases hi:i<vs.length
   ·exact hi
   ·rw[List.getElem?_append_right (by simpa using hi)] at h2;rw[List.getElem?_replicate] at h2;split at h2<;>cases h2
  have ha:vs[i]?=some v:=by
   unfold start at h2;rw[List.getElem?_append_left (by simpa using hi),List.getElem?_map] at h2;cases e:vs[i]? with
   |none=>rw[e] at h2;cases h2
   |some a=>rw[e] at h2;cases h2;rfl
  obtain⟨u,hu,rv⟩:=r.get ha;have hp:ps[i]?=some y:=by
   rw[<-S.pre,List.getElem?_take_of_lt (by omega)];exact h1
  have VQ:ps.Nodup:=by rw[<-S.pre];exact S.nd.sublist (List.take_sublist _ _)
  refine⟨u,rv,?_⟩;rcases S.par y (List.mem_of_getElem? hp) with k|k
  ·exact .inl ⟨k,rK VQ hp hu k⟩
  ·obtain⟨c,e⟩:=uq (n:=s.heap.objs.size+1) k;refine .inr ⟨.inl k,c,e,?_⟩;have q:=x.cell y c e;rw[sv VQ hp hu (by show scope.names.lookup y≠_;rw[k];decide)] at q;exact q
 ·exact e0.EW.fresh (Nat.le_of_lt (x.above y c (PySem.mem_of_lookup h)))
 ·unfold start;show _=N.length;rw[List.length_append,List.length_map,List.length_replicate];omega
theorem B2{CX:Ir}{P:Program}{w:World}{K:PySem.W.Frag}{mg:Str->Option Value}{base:Heap}{k:Nat}{f:Addr}{name qual:Str}{params:Arguments}{body:List Stmt}{scope:Scope}{dV kV doc pm EU ct oc:Value}{an od:Option Addr}
  {Mw:Array (Option Value)}{N ps:List Str}{sp:Sp}(lk:K.lookup f=some ⟨oc,od,.func (PySem.W.fnOf name qual params body scope dV kV doc pm an EU ct),Mw⟩) (Lm:PySem.W.codeIn K EU qual=true) (S:m_ N ps scope)
  (len:∀vs H Q E,sp vs H Q E->vs.length=ps.length)
  (K4:∀(A:Around) (outer:List Env) (s:Shared) (H:Hp) (vs:List V) (Q:VK) (E:XK),FX k (A.deeper (envOfC qual scope s.heap.objs.size f EU))->sp vs H Q E->
   ∃t,Ql (oH CX P w K mg base N qual scope f EU A outer s H E) body t/\t { nx:=fun _ H'=>Q .EJ H',rt:=Q } (start N vs) H) :
  Ia P w K mg base CX (k+1) f (PySem.W.fnOf name qual params body scope dV kV doc pm an EU ct) ps sp:=by
 refine⟨len,fun A outer s H args us vs Q E hr e0 hb r Np=>?_⟩;have hl:=len _ _ _ _ Np;have KX:K.In s.heap:=e0.mod.PL.keeps fun b o e=>(e0.bs b o e).1
 have lim:s.heap.NoLimit:=e0.mod.nolimit.keeps fun b o e=>(e0.bs b o e).1
 have Qq:∀y∈ps.zip us,scope.names.lookup y.1=some .local\/(scope.names.lookup y.1=some .cell/\((cellsFrom (s.heap.objs.size+1) scope.names []).lookup y.1).isSome=true):=fun ⟨n,v⟩ hy=>by
  rcases S.par n (List.of_mem_zip hy).1 with q|q
  ·exact .inl q
  ·exact .inr ⟨q,PySem.W.cellsFrom_some _ _ _ (.inl q)⟩
 refine codeAny_call_function hr.depth (KX _ _ lk) rfl S.co S.gen rfl (PySem.W.codeRec_of KX Lm) (hb _ _ _ _ ?_);refine wpAny_newFunctionEnv_cells S.kind Qq fun env he s1 x=>?_
 subst he;refine⟨lim.keeps x.toInCall.keep,codeAny_func ?_⟩;obtain⟨t,ht,hq⟩:=K4 A outer s H vs Q E (hr.deeper _) Np;have I:Inv (oH CX P w K mg base N qual scope f EU A outer s H E) [] (start N vs) H s1:=xT S hr.hd e0 hl r x;refine wpAny_mono (ht [] s1 (start N vs) H _ I hq) (fun fl s' hs=>?_) fun e s' hs=>hs
 have fin:∀{Fd:St}{H':Hp}{v:V}{u:Value},Inv (oH CX P w K mg base N qual scope f EU A outer s H E) [] Fd H' s'->RelV v u->Q v H'->CE outer P w H s Q u s':=
  fun {Fd H' v u} J rv q=>⟨v,H',J.os,J.bare,J.base,J.EW,rv,q⟩
 cases fl with
 |ret u=>
  obtain⟨v,Fd,H',J,rv,q⟩:=hs;exact fin J rv q
 |next=>
  obtain⟨Fd,H',J,q⟩:=hs;exact fin (v:=V.EJ) (u:=Value.none) J rfl q
 |brk=>
  obtain⟨_,_,_,q⟩:=hs;exact False.elim q
 |cont=>
  obtain⟨_,_,_,q⟩:=hs;exact False.elim q
end L2
namespace L2
open PySem PySem.Spec PyProof.Rows
section
variable{X:Cx}{x:Str}{p pos:Pos}{e:Expr}{es:List Expr}{t:TA}{id T:String}{r:List V->Hp->VK->Prop}
end
end L2
namespace HT
open PySem PyProof.Rows
section
open PySem.SeqAt
open PySem.AutoSeq1 (wpAny_loadPart')
open PySem.MeetsSeq PySem.MeetsSeq2 PySem.MeetsSeq3
end
section
variable{prog:Program}{w:World}{A:Around}{E:Value->Shared->Prop}{s:Shared}
theorem NH{t b:Addr}{vs ws:List Value}{Q:Value->Shared->Prop}(ht:IsTup s.heap t vs.toArray)(hb:IsTup s.heap b ws.toArray)(hv:vs≠[])
  (h1:ws=[]->Q (.ref t) s) (h2:ws≠[]->Q (.ref s.heap.objs.size) { s with heap:=s.heap.push { cls:=.type "tuple",data:=.seq (vs++ws).toArray } })
  (hsz:vs.length+ws.length<=sizeLine):wpAny (model prog w) A (binaryOp .Add (.ref t) (.ref b)) Q E s:=by
 obtain⟨⟨cls,dd,data,sl⟩,ho,hc,n,hd⟩:=id ht;obtain⟨⟨Qr,PQ,data2,PR⟩,Mg,Oz,n2,hd2⟩:=id hb;simp only at hc hd Oz hd2;subst hc hd Oz hd2;have e:vs.toArray++ws.toArray=(vs++ws).toArray:=by simp
 by_cases hw:ws=[]
 ·exact concat_meets ⟨_,ho,rfl⟩ ⟨_,Mg,rfl⟩ noFill_tuple_add seq_tuple_add PySem.F.slot_tuple_add PySem.F.entry_tuple_add (PySem.F.args_tuple_add_2 _ _)
   (tuple_addW1 t b vs.toArray ws.toArray n n2 dd PQ sl PR (by simpa using hv) (by simp[hw])) ⟨ho,Mg,h1 hw⟩
 ·refine concat_meets ⟨_,ho,rfl⟩ ⟨_,Mg,rfl⟩ noFill_tuple_add seq_tuple_add PySem.F.slot_tuple_add PySem.F.entry_tuple_add (PySem.F.args_tuple_add_2 _ _)
   (tuple_addW2 t b vs.toArray ws.toArray n n2 dd PQ sl PR (by simpa using hv) (by simpa using hw) (by rw[List.size_toArray,List.size_toArray];exact hsz)) ⟨ho,Mg,?_⟩
  rw[e];exact h2 hw
def FR(n d:Nat):Option Int->Nat
 |none=>d
 |some v=>if v<0 then (v+(n:Int)).toNat else min v.toNat n
theorem Ib(n d:Nat):FR n d none=d:=rfl
theorem G_(n d k:Nat):FR n d (some (k:Int))=min k n:=by
 show(if (k:Int)<0 then ((k:Int)+(n:Int)).toNat else min (k:Int).toNat n)=min k n;rw[if_neg (by omega),Int.toNat_natCast]
theorem CA(n d:Nat)(hd:d<=n)(o:Option Int):FR n d o<=n:=by
 cases o with
 |none=>exact hd
 |some v=>
  show(if v<0 then (v+(n:Int)).toNat else min v.toNat n)<=n;by_cases hv:v<0
  ·rw[if_pos hv];omega
  ·rw[if_neg hv];exact Nat.min_le_right _ _
theorem xj(v:Int)(n d:Nat):(if v<0 then max (v+(n:Int)) 0 else min v (n:Int))=((FR n d (some v):Nat):Int):=by
 show(if v<0 then max (v+(n:Int)) 0 else min v (n:Int))=(((if v<0 then (v+(n:Int)).toNat else min v.toNat n):Nat):Int);by_cases hv:v<0
 ·simp only[if_pos hv];omega
 ·simp only[if_neg hv];omega
theorem vI(lo hi:Option Int)(n:Nat):Builtin.Slice.sliceAdjust lo hi 1 (n:Int)=(((FR n 0 lo:Nat):Int),((FR n n hi:Nat):Int)):=by
 have h1:¬((1:Int)<0):=by omega
 unfold Builtin.Slice.sliceAdjust;simp only[h1,if_false];refine Prod.ext ?_ ?_
 ·cases lo with
  |none=>rfl
  |some v=>exact xj v n 0
 ·cases hi with
  |none=>rfl
  |some v=>exact xj v n n
theorem wC(i j:Nat):Builtin.Slice.slicePlaces (i:Int) (j:Int) 1=j-i:=by
 unfold Builtin.Slice.slicePlaces;have h1:(1:Int) > 0:=by omega
 simp only[h1,if_true,Int.ediv_one];split<;>omega
theorem pb{v:Value}{o:Option Int}{Q:Option Int->Shared->Prop}(p:IsPart v o)(h:Q o s):wpAny (model prog w) A (Builtin.Slice.slicePartIndex v) Q E s:=by
 cases p with
 |none=>exact slicePart_none h
 |int i t=>exact slicePart_int h
theorem G1{sl:Addr}{vl vu:Value}{lo hi:Option Int}{n:Nat}{Q:Int×Int×Nat->Shared->Prop}(hs:s.heap.IsSliceOf sl vl vu .none)(pl:IsPart vl lo)(pu:IsPart vu hi)
  (h:Q (((FR n 0 lo:Nat):Int),1,FR n n hi-FR n 0 lo) s):wpAny (model prog w) A (Builtin.Slice.sliceApplied (.ref sl) (pure (n:Int))) Q E s:=by
 obtain⟨os,OZ,Ln,O0⟩:=id hs;unfold Builtin.Slice.sliceApplied Builtin.Slice.sliceFields;refine wpAny_bind (wpAny_bind (wpAny_field OZ O0 (x:=vl) rfl (wpAny_bind (wpAny_field OZ O0 (x:=vu) rfl (wpAny_bind (wpAny_field OZ O0 (x:=.none) rfl (wpAny_pure ?_)))))));refine wpAny_bind (slicePart_none ?_);show wpAny _ _ (if ((1:Int) == 0)=true then _ else _) _ _ s;rw[if_neg (by decide)];refine wpAny_bind (pb pl (wpAny_bind (pb pu (wpAny_bind (wpAny_pure ?_)))));show wpAny _ _ (match Builtin.Slice.sliceAdjust lo hi 1 (n:Int) with|(lo,hi)=>pure (lo,(1:Int),Builtin.Slice.slicePlaces lo hi 1)) _ _ s;rw[vI lo hi n];show wpAny _ _ (pure (((FR n 0 lo:Nat):Int),(1:Int),Builtin.Slice.slicePlaces ((FR n 0 lo:Nat):Int) ((FR n n hi:Nat):Int) 1)) _ _ s;rw[wC];exact wpAny_pure h
theorem y9(xs:Array Value)(i k:Nat):((List.range k).filterMap fun(m:Nat)=>xs[((i:Int)+(m:Int) * 1).toNat]?).toArray=((xs.toList.drop i).take k).toArray:=by
 have e:(fun(m:Nat)=>xs[((i:Int)+(m:Int) * 1).toNat]?)=fun m=>xs[i+m]?:=by
  funext m;have:((i:Int)+(m:Int) * 1).toNat=i+m:=by omega
  rw[this]
 rw[e];have:=pick_run xs i k;rw[List.filterMap_map] at this;have e2:((fun x=>xs[x]?) ∘ fun x=>i+x)=fun m=>xs[i+m]?:=rfl
 rw[e2] at this;rw[this]
theorem Ic{t sl:Addr}{items:Array Value}{vl vu:Value}{lo hi:Option Int}{Q:Value->Shared->Prop}(ht:IsTup s.heap t items)(hs:s.heap.IsSliceOf sl vl vu .none)(pl:IsPart vl lo)(pu:IsPart vu hi)
  (hw:¬(FR items.size 0 lo=0/\FR items.size items.size hi=items.size))
  (h:Q (.ref s.heap.objs.size) { s with heap:=s.heap.push { cls:=.type "tuple",data:=.seq ((items.toList.drop (FR items.size 0 lo)).take (FR items.size items.size hi-FR items.size 0 lo)).toArray } })
  (hsz:items.size<=sizeLine):wpAny (model prog w) A (getItem (.ref t) (.ref sl)) Q E s:=by
 have LV:sizeOk (.seq ((items.toList.drop (FR items.size 0 lo)).take (FR items.size items.size hi-FR items.size 0 lo)).toArray):=by
  show((items.toList.drop (FR items.size 0 lo)).take (FR items.size items.size hi-FR items.size 0 lo)).toArray.size<=sizeLine;rw[List.size_toArray,List.length_take,List.length_drop,Array.length_toList];omega
 have hj:FR items.size items.size hi<=items.size:=CA _ _ (Nat.le_refl _) hi;obtain⟨os,OZ,Ln,O0⟩:=id hs;have Sm:s.TypeIs (.ref sl) "slice":=⟨os,OZ,Ln⟩;unfold getItem
 try with_reducible refine wpAny_holding ?_
 first|refine wpAny_bind (wpAny_pure ?_)|skip
 refine wpAny_bind (wpAny_sequenceKey ht.typeIs (by decide) ?_);refine wpAny_bind (wpAny_callSpecial?_slot (name:=Str.ofString "__getitem__") ht.typeIs PyProof.Rows.slot_tuple_getitem
  (wpAny_call_entry PyProof.Rows.slot_tuple_getitem ht.typeIs entry_tuple_getitem ?_ (args_tuple_getitem _ _)))
 show wpAny _ _ (Builtin.Tuple.tupleItemsOf (.ref t) >>= _) _ _ s;refine wpAny_bind (tupleItemsOf_ ht ?_);refine wpAny_bind (wpAny_typeOf Sm ?_);rw[if_pos (by decide)];refine wpAny_bind (G1 hs pl pu ?_);have LW:¬((((FR items.size 0 lo:Nat):Int) == 0 && (1:Int) == 1 && (FR items.size items.size hi-FR items.size 0 lo) == items.size)=true):=by
  intro q;rw[Bool.and_eq_true,Bool.and_eq_true] at q;have q1:((FR items.size 0 lo:Nat):Int)=0:=eq_of_beq q.1.1;have q2:FR items.size items.size hi-FR items.size 0 lo=items.size:=eq_of_beq q.2;exact hw ⟨by omega,by omega⟩
 show wpAny _ _ (if (((FR items.size 0 lo:Nat):Int) == 0 && (1:Int) == 1 && (FR items.size items.size hi-FR items.size 0 lo) == items.size)=true then _ else _) _ _ s;rw[if_neg LW,y9]
 first
  |exact wpAny_bind (m:=Builtin.Tuple.tupleExact _) (wpAny_newObj_type (wpAny_pure ⟨_,rfl,wpAny_pure h⟩) LV)
  |exact wpAny_bind (m:=Builtin.Tuple.tupleExact _) (wpAny_newObj_type (wpAny_bind (wpAny_pure (wpAny_pure ⟨_,rfl,wpAny_pure h⟩))) LV)
  |exact wpAny_bind (wpAny_bind (m:=Builtin.Tuple.tupleExact _) (wpAny_newObj_type (wpAny_pure (wpAny_pure ⟨_,rfl,wpAny_pure h⟩)) LV))
  |exact wpAny_bind (wpAny_bind (m:=Builtin.Tuple.tupleExact _) (wpAny_newObj_type (wpAny_pure ⟨_,rfl,wpAny_pure h⟩) LV))
end
end HT
namespace L2
open PySem PySem.Spec PyProof.Rows
abbrev TO:=St->Hp->(Option Int->Hp->Prop)->Prop
theorem vV{ns:List Int}:∀{us:List Value},Vals (ns.map V.int) us->IntsAre us ns:=by
 induction ns with
 |nil=>intro us r;rw[List.map_nil] at r;cases r;exact .nil
 |cons n ns ih=>
  intro us r;rw[List.map_cons] at r;cases r with
  |cons r1 r2=>
   obtain⟨t,e⟩:=r1;subst e;exact .cons n t (ih r2)
section
variable{X:Cx}{e:Expr}{te:TE}{lo hi:Option Expr}{tl th:TO}{pos p2:Pos}
def Qs(X:Cx)(r:V->Option Int->Option Int->Hp->VK->Prop):Prop:=
 ∀(pins:List (Addr×Obj)) (s:Shared) (σ:St) (H:Hp) (x:V) (v vl vu:Value) (lo hi:Option Int) (sl:Addr) (Q:VK),Inv X pins σ H s->RelV x v->s.heap.IsSliceOf sl vl vu .none->IsPart vl lo->IsPart vu hi->r x lo hi H Q->
  ∃T id,typeLookup (.type T) "__getitem__"=pure (some (.builtin id))/\s.TypeIs v T/\wpAny (model X.prog X.w) X.A (getItem v (.ref sl)) (EP X pins σ Q) X.xe s
theorem Qs.or{r r':V->Option Int->Option Int->Hp->VK->Prop}(h:Qs X r)(h':Qs X r'):Qs X (fun x lo hi H Q=>r x lo hi H Q\/r' x lo hi H Q):=by
 intro pins s σ H x v vl vu lo hi sl Q I rx hs pl pu q;rcases q with q|q
 ·exact h pins s σ H x v vl vu lo hi sl Q I rx hs pl pu q
 ·exact h' pins s σ H x v vl vu lo hi sl Q I rx hs pl pu q
def vO(xs:List V)(lo hi:Option Int):List V:=(xs.drop (HT.FR xs.length 0 lo)).take (HT.FR xs.length xs.length hi-HT.FR xs.length 0 lo)
theorem n8(xs:List V)(lo hi:Option Int):(vO xs lo hi).length<=xs.length:=by
 unfold vO;rw[List.length_take,List.length_drop];omega
theorem Vals.Ie{xs:List V}{us:List Value}(r:Vals xs us):us=[]↔xs=[]:=by
 cases r with
 |nil=>simp
 |cons _ _=>simp
end
end L2
namespace L2
open PySem PySem.Spec PyProof.Rows
def LX(n:Nat)(i:Int):Option Nat:=if 0<=i then (if i<n then some i.toNat else none) else if -(n:Int)<=i then some (i+n).toNat else none
def KS{α:Type}(xs:List α)(i:Int):Option α:=(LX xs.length i).bind fun j=>xs[j]?
theorem wH{n:Nat}{i:Int}{j:Nat}(h:LX n i=some j):seqIndex? i n=some j/\j<n/\-(n:Int)<=i/\i<n:=by
 unfold LX at h;by_cases h0:0<=i
 ·rw[if_pos h0] at h;by_cases h1:i<n
  ·rw[if_pos h1] at h;have e:i.toNat=j:=Option.some.inj h;exact⟨by rw[seqIndex_of h0 h1,e],by omega,by omega,h1⟩
  ·rw[if_neg h1] at h;cases h
 ·rw[if_neg h0] at h;by_cases h1:-(n:Int)<=i
  ·rw[if_pos h1] at h;have e:(i+n).toNat=j:=Option.some.inj h;exact⟨by rw[seqIndex_neg (by omega) h1,e],by omega,h1,by omega⟩
  ·rw[if_neg h1] at h;cases h
theorem xg{α:Type}{xs:List α}{i:Int}{v:α}(h:KS xs i=some v):∃j,seqIndex? i xs.length=some j/\xs[j]?=some v/\j<xs.length/\-(xs.length:Int)<=i/\i<xs.length:=by
 unfold KS at h;cases e:LX xs.length i with
 |none=>rw[e] at h;cases h
 |some j=>
  rw[e] at h;obtain⟨h1,h2,h3,h4⟩:=wH e;exact⟨j,h1,h,h2,h3,h4⟩
theorem tE{α:Type}{xs:List α}{j:Nat}{v:α}(h:xs[j]?=some v):KS xs (j:Int)=some v:=by
 have hj:j<xs.length:=(List.getElem?_eq_some_iff.mp h).1;have e:LX xs.length (j:Int)=some j:=by
  unfold LX;rw[if_pos (by omega),if_pos (by omega)];simp
 unfold KS;rw[e];exact h
def Bs(b:Expr):Prop:=∀o i,subscripted b false o i=operate [o,i] (getItem o i)
def O1(X:Cx)(r:R2):Prop:=
 ∀(value slice:Expr) (pins:List (Addr×Obj)) (s:Shared) (σ:St) (H:Hp) (x y:V) (v u:Value) (Q:VK),Inv X pins σ H s->RelV x v->RelV y u->r x y H Q->
  subscripted slice false v u=operate [v,u] (getItem v u)->wpAny (model X.prog X.w) X.A (subscriptTail value slice v u) (EP X pins σ Q) X.xe s
def Rk(X:Cx)(id:String)(r:V->List V->Hp->VK->Prop):Prop:=
 ∀(pins:List (Addr×Obj)) (s:Shared) (σ:St) (H:Hp) (x:V) (xs:List V) (v:Value) (us:List Value) (Q:VK),Inv X pins σ H s->RelV x v->Vals xs us->r x xs H Q->
  wpAny (model X.prog X.w) X.A (call (.builtin id) (v :: us)) (EP X pins σ Q) X.xe s
section
variable{X:Cx}{a b:Expr}{ta tb:TE}{pos:Pos}
theorem O1.or{r r':R2}(h:O1 X r)(h':O1 X r'):O1 X (fun x y H Q=>r x y H Q\/r' x y H Q):=by
 intro value slice pins s σ H x y v u Q I rx ry q hs;rcases q with q|q
 ·exact h value slice pins s σ H x y v u Q I rx ry q hs
 ·exact h' value slice pins s σ H x y v u Q I rx ry q hs
theorem Rk.or{id:String}{r r':V->List V->Hp->VK->Prop}(h:Rk X id r)(h':Rk X id r'):Rk X id (fun x xs H Q=>r x xs H Q\/r' x xs H Q):=by
 intro pins s σ H x xs v us Q I rx rs q;rcases q with q|q
 ·exact h pins s σ H x xs v us Q I rx rs q
 ·exact h' pins s σ H x xs v us Q I rx rs q
def Dr(K:PySem.W.Frag):R2:=fun x y H Q=>∃p xs i v,x=.ref p/\y=.int i/\GP K H p xs/\KS xs i=some v/\Q v H
def Di(K:PySem.W.Frag):R2:=fun x y H Q=>∃p xs i v,x=.ref p/\y=.int i/\Hi K H p xs/\KS xs i=some v/\Q v H
theorem Bu:O1 X (Dr X.K):=by
 intro value slice pins s σ H x y v u Q I rx ry h hs;obtain⟨p,xs,i,z,rfl,rfl,hq,he,q⟩:=h;cases rx;obtain⟨t,rfl⟩:=ry;obtain⟨u_,r,pl,hz⟩:=I.list hq;obtain⟨j,h1,h2,h3,h4,h5⟩:=xg he;obtain⟨w,ew,HW⟩:=r.get h2;have hl:=r.length;have hn:=lR;have fin:EP X pins σ Q w s:=⟨z,H,I,HW,q⟩;by_cases h0:0<=i
 ·have hj:i.toNat=j:=by
   rw[seqIndex_of h0 h5] at h1;exact Option.some.inj h1
  exact item_listR pl.isList h0 (by omega) (by rw[hj];simpa using ew) fin hs
 ·have hj:(i+(u_.toArray.size:Int)).toNat=j:=by
   rw[seqIndex_neg (by omega) h4] at h1;rw[List.size_toArray,<-hl];exact Option.some.inj h1
  exact subscriptTail_builtinR (x:=w) pl.isList.typeIs slot_list_getitem.lookup
   (wpAny_getItem_list_neg (Q:=fun r s'=>r=w/\EP X pins σ Q r s') pl.isList (by omega) (by rw[List.size_toArray]<;>omega) (by omega) (by rw[hj];simpa using ew) ⟨rfl,fin⟩) hs
theorem Db:O1 X (Di X.K):=by
 intro value slice pins s σ H x y v u Q I rx ry h hs;obtain⟨p,xs,i,z,rfl,rfl,hq,he,q⟩:=h;cases rx;obtain⟨t,rfl⟩:=ry;obtain⟨u_,r,pl,hz⟩:=I.tuple hq;obtain⟨j,h1,h2,h3,h4,h5⟩:=xg he;obtain⟨w,ew,HW⟩:=r.get h2;have hl:=r.length;have hn:=lR;have fin:EP X pins σ Q w s:=⟨z,H,I,HW,q⟩;exact subscriptTail_builtinR (x:=w) pl.typeIs slot_tuple_getitem.lookup
  (getItem_tuple (j:=j) (Q:=fun r s'=>r=w/\EP X pins σ Q r s') pl (by omega) (by omega) (by rw[List.size_toArray,<-hl];exact h1) (by simpa using ew) ⟨rfl,fin⟩) hs
theorem vQ(u_:List Value)(n j:Nat)(u:Value):Obj.mapSeq (·.setIfInBounds j u) { cls:=.type "list",data:=.seq u_.toArray n } = { cls:=.type "list",data:=.seq (u_.set j u).toArray n }:=by
 simp[Obj.mapSeq]
theorem Inv.lst{pins:List (Addr×Obj)}{σ:St}{H:Hp}{s:Shared}{p:Addr}{xs:List V}(I:Inv X pins σ H s)(h:H p=some (.lst xs)) :
  ∃(u_:List Value) (n:Nat),Vals xs u_/\s.heap.get? p=some { cls:=.type "list",data:=.seq u_.toArray n }/\xs.length<=sizeLine:=by
 obtain⟨z,u_,n,r,e⟩:=I.EW p _ h;exact⟨u_,n,r,e,z⟩
theorem Inv.O2{pins:List (Addr×Obj)}{σ:St}{H:Hp}{s:Shared}{p:Addr}{xs ys:List V}{u_ its':List Value}{n n':Nat}{f:Obj->Obj}(I:Inv X pins σ H s)(h:H p=some (.lst xs))
  (ho:s.heap.get? p=some { cls:=.type "list",data:=.seq u_.toArray n }) (hf:f { cls:=.type "list",data:=.seq u_.toArray n } = { cls:=.type "list",data:=.seq its'.toArray n' }) (r:Vals ys its') (hz:ys.length<=sizeLine) (t:Nat) :
  Inv X pins σ (upd H p (.lst ys)) { s with heap:=s.heap.update p f,toks:=t }:=by
 have e:(s.heap.update p f).get? p=some { cls:=.type "list",data:=.seq its'.toArray n' }:=by
  rw[Heap.get?_update_self f ho (by rw[hf]<;>rfl),hf]
 refine I.write (x:=p) (e:=p) (by rw[h];trivial) (.inl rfl) (fun b u hb q=>(Heap.get?_update_other _ _ (Ne.symm hb)).trans q) ⟨_,e⟩ ?_;exact⟨hz,its',n',r,e⟩
def DD:V->V->V->Hp->(Hp->Prop)->Prop:=fun o i v H Q=>∃p xs k j,o=.ref p/\i=.int k/\H p=some (.lst xs)/\LX xs.length k=some j/\Q (upd H p (.lst (xs.set j v)))
theorem zT:Ez X DD:=by
 intro pins s σ H o i v ov iv u Q I ro ri rv h;obtain⟨p,xs,k,j,rfl,rfl,hp,hj,q⟩:=h;cases ro;obtain⟨t,rfl⟩:=ri;obtain⟨u_,n,r,ho,hz⟩:=I.lst hp;obtain⟨h1,h2,h3,h4⟩:=wH hj;have hl:=r.length;have hn:=lR;have I':Inv X pins σ (upd H p (.lst (xs.set j v))) { s with heap:=s.heap.update p (Obj.mapSeq (·.setIfInBounds j u)) }:=
  I.O2 hp ho (vQ u_ n j u) (r.set rv j) (by rw[List.length_set];exact hz) s.toks
 by_cases h0:0<=k
 ·have hk:k.toNat=j:=by
   rw[seqIndex_of h0 h4] at h1;exact Option.some.inj h1
  exact PySem.W.ki_setAt ho h0 (by omega) (by rw[List.size_toArray,<-hl];exact h4) (by rw[hk];exact⟨_,I',q⟩)
 ·have hk:(k+(u_.toArray.size:Int)).toNat=j:=by
   rw[seqIndex_neg (by omega) h3] at h1;rw[List.size_toArray,<-hl];exact Option.some.inj h1
  exact PySem.W.ki_setBack ho (by omega) (by rw[List.size_toArray,<-hl];exact h3) (by omega) (by rw[hk];exact⟨_,I',q⟩)
theorem tQ(lo hi:Option Int)(n:Nat):(sliceBounds lo hi none n).1=((HT.FR n 0 lo:Nat):Int)/\(sliceBounds lo hi none n).2.1=((HT.FR n n hi:Nat):Int)/\(sliceBounds lo hi none n).2.2=1:=by
 refine⟨?_,?_,rfl⟩
 ·cases lo with
  |none=>simp[sliceBounds,HT.FR]
  |some i=>
   simp only[sliceBounds,HT.FR,Option.getD_none,show(1:Int) > 0 by decide,if_true];by_cases h:i<0
   ·simp only[h,if_true]<;>omega
   ·simp only[h,if_false]<;>omega
 ·cases hi with
  |none=>simp[sliceBounds,HT.FR]
  |some i=>
   simp only[sliceBounds,HT.FR,Option.getD_none,show(1:Int) > 0 by decide,if_true];by_cases h:i<0
   ·simp only[h,if_true]<;>omega
   ·simp only[h,if_false]<;>omega
theorem qT(u_:List Value)(lo hi:Option Int):slicePick u_.toArray lo hi none=((u_.drop (HT.FR u_.length 0 lo)).take (HT.FR u_.length u_.length hi-HT.FR u_.length 0 lo)).toArray:=by
 obtain⟨h1,h2,h3⟩:=tQ lo hi u_.toArray.size;unfold slicePick;rw[h1,h2,h3];simp only[sliceRange_one,pick_run,List.size_toArray]<;>rfl
def Er(K:PySem.W.Frag):V->Option Int->Option Int->Hp->VK->Prop:=fun x lo hi H Q=>∃a xs,x=.ref a/\GP K H a xs/\∀p,H p=none->Q (.ref p) (upd H p (.lst (vO xs lo hi)))
theorem w6:Qs X (Er X.K):=by
 intro pins s σ H x v vl vu lo hi sl Q I rx hs pl pu h;obtain⟨a,xs,rfl,hx,q⟩:=h;cases rx;obtain⟨u_,r,ht,hz⟩:=I.list hx;have hlen:=r.length;refine⟨"list",_,slot_list_getitem.lookup,ht.isList.typeIs,?_⟩;refine wpAny_getItem_list_slice ht.isList hs pl pu .none (by simp) ?_ (by rw[List.size_toArray]<;>omega);rw[qT,<-hlen];refine⟨.ref s.heap.objs.size,_,I.laid (t':=s.toks) (o:=.lst (vO xs lo hi)) (fun b ob q=>Heap.get?_push_of_some _ q) (Nat.le_refl _) ?_,rfl,q _ (I.EW.fresh (Nat.le_refl _))⟩;exact⟨Nat.le_trans (n8 xs lo hi) hz,_,0,(r.drop (HT.FR xs.length 0 lo)).take (HT.FR xs.length xs.length hi-HT.FR xs.length 0 lo),Heap.get?_push_size _ rfl⟩
def jG:V->Bool
 |.EJ=>true
 |.bl _=>true
 |.int _=>true
 |.str _=>true
 |_=>false
def Mx:V->V->Bool
 |.EJ,.EJ=>true
 |.bl a,.bl b=>a == b
 |.bl a,.int b=>(if a then 1 else 0) == b
 |.int a,.bl b=>a == (if b then 1 else 0)
 |.int a,.int b=>a == b
 |.str a,.str b=>a == b
 |_,_=>false
theorem CN{A:Around}{s:Shared}{y x:V}{u v:Value}(ry:RelV y u)(rx:RelV x v)(fy:jG y=true)(fx:jG x=true):SeqAt.EqAt A s u v (Mx y x):=by
 cases y with
 |EJ=>
  cases ry;cases x with
  |EJ=>cases rx;exact SeqAt.EqAt.same _
  |bl b=>cases rx;exact SeqAt.EqAt.none_bool b
  |int b=>obtain⟨t,rfl⟩:=rx;exact SeqAt.EqAt.none_int b t
  |str b=>obtain⟨t,rfl⟩:=rx;exact SeqAt.EqAt.none_str b t
  |_=>exact absurd (show false=true from fx) Bool.false_ne_true
 |bl a=>
  cases ry;cases x with
  |EJ=>cases rx;exact SeqAt.EqAt.bool_none a
  |bl b=>cases rx;exact SeqAt.EqAt.bool_bool a b
  |int b=>obtain⟨t,rfl⟩:=rx;exact SeqAt.EqAt.bool_int a b t
  |str b=>obtain⟨t,rfl⟩:=rx;exact SeqAt.EqAt.bool_str a b t
  |_=>exact absurd (show false=true from fx) Bool.false_ne_true
 |int a=>
  obtain⟨t',rfl⟩:=ry;cases x with
  |EJ=>cases rx;exact SeqAt.EqAt.int_none a t'
  |bl b=>cases rx;exact SeqAt.EqAt.int_bool a t' b
  |int b=>obtain⟨t,rfl⟩:=rx;exact SeqAt.EqAt.int_int a t' b t
  |str b=>obtain⟨t,rfl⟩:=rx;exact SeqAt.EqAt.int_str a t' b t
  |_=>exact absurd (show false=true from fx) Bool.false_ne_true
 |str a=>
  obtain⟨t',rfl⟩:=ry;cases x with
  |EJ=>cases rx;exact SeqAt.EqAt.str_none a t'
  |bl b=>cases rx;exact SeqAt.EqAt.str_bool a t' b
  |int b=>obtain⟨t,rfl⟩:=rx;exact SeqAt.EqAt.str_int a t' b t
  |str b=>obtain⟨t,rfl⟩:=rx;exact SeqAt.EqAt.str_str a t' b t
  |_=>exact absurd (show false=true from fx) Bool.false_ne_true
 |_=>exact absurd (show false=true from fy) Bool.false_ne_true
def My(x:V)(u:Value):Bool:=match u with
 |.none=>Mx .EJ x
 |.bool b=>Mx (.bl b) x
 |.int i _=>Mx (.int i) x
 |.str z _=>Mx (.str z) x
 |_=>false
theorem wt{x y:V}{u:Value}(r:RelV y u)(f:jG y=true):My x u=Mx y x:=by
 cases y with
 |EJ=>cases r;rfl
 |bl b=>cases r;rfl
 |int i=>obtain⟨t,rfl⟩:=r;rfl
 |str z=>obtain⟨t,rfl⟩:=r;rfl
 |_=>exact absurd (show false=true from f) Bool.false_ne_true
theorem sY{x:V}:∀{xs:List V}{us:List Value},Vals xs us->xs.all jG=true->us.any (My x)=xs.any fun y=>Mx y x
 |_,_,.nil,_=>rfl
 |y :: xs,u :: us,.cons r t,f=>by
  rw[List.all_cons,Bool.and_eq_true] at f;rw[List.any_cons,List.any_cons,wt r f.1,sY t f.2]
theorem mO{A:Around}{s:Shared}{x:V}{v:Value}(rx:RelV x v)(fx:jG x=true):∀{xs:List V}{us:List Value},Vals xs us->xs.all jG=true->∀u∈us,SeqAt.EqAt A s u v (My x u)
 |_,_,.nil,_=>fun u hu=>by cases hu
 |y :: xs,u :: us,.cons r t,f=>fun u' hu=>by
  rw[List.all_cons,Bool.and_eq_true] at f;rcases List.mem_cons.mp hu with rfl|hu
  ·rw[wt r f.1];exact CN r rx f.1 fx
  ·exact mO rx fx t f.2 u' hu
def LY(x:V)(xs:List V):Bool:=xs.any fun y=>Mx y x
def Xx(K:PySem.W.Frag)(neg:Bool):R2:=fun x y H Q=>∃p xs,y=.ref p/\(GP K H p xs\/Hi K H p xs)/\jG x=true/\xs.all jG=true/\Q (.bl (if neg then !LY x xs else LY x xs)) H
theorem xP:Km X (compareOp .In) (Xx X.K false):=by
 intro pins s σ H x y v u Q I rx ry h;obtain⟨p,xs,rfl,hq,fx,fs,q⟩:=h;cases ry;rcases hq with hq|hq
 ·obtain⟨u_,r,pl,hz⟩:=I.list hq;refine SeqAt.in_listAt (My x) pl.isList (fun w hw=>mO rx fx r fs w (by simpa using hw)) ⟨.bl _,H,I,rfl,?_⟩;rw[show u_.toArray.any (My x)=u_.any (My x) by simp,sY r fs];exact q
 ·obtain⟨u_,r,pl,hz⟩:=I.tuple hq;refine SeqAt.in_tupleAt (My x) pl (fun w hw=>mO rx fx r fs w (by simpa using hw)) ⟨.bl _,H,I,rfl,?_⟩;rw[show u_.toArray.any (My x)=u_.any (My x) by simp,sY r fs];exact q
theorem sO:HH X (.builtin "len") (fun xs H Q=>∃p ys,xs=[.ref p]/\(GP X.K H p ys\/Hi X.K H p ys)/\Q (.int ys.length) H):=by
 intro pins s σ H xs us Q I r h;obtain⟨p,ys,rfl,hq,q⟩:=h;obtain⟨u,rfl,rx⟩:=zt r;cases rx;have hn:=lR;rcases hq with hq|hq
 ·obtain⟨u_,r',pl,hz⟩:=I.list hq;have hlen:=r'.length;exact Calls.call_len_list pl.isList (by simp only[List.size_toArray]<;>omega) ⟨.int ys.length,H,I.tok _,⟨s.toks+1,by rw[List.size_toArray,hlen]⟩,q⟩
 ·obtain⟨u_,r',pl,hz⟩:=I.tuple hq;have hlen:=r'.length;exact len_tuple pl (by simp only[List.size_toArray]<;>omega) ⟨.int ys.length,H,I.tok _,⟨s.toks+1,by rw[List.size_toArray,hlen]⟩,q⟩
theorem HH.or{f:Value}{r r':List V->Hp->VK->Prop}(h:HH X f r)(h':HH X f r'):HH X f (fun xs H Q=>r xs H Q\/r' xs H Q):=by
 intro pins s σ H xs us Q I rs q;rcases q with q|q
 ·exact h pins s σ H xs us Q I rs q
 ·exact h' pins s σ H xs us Q I rs q
theorem sR:HH X (.type "list") (fun xs H Q=>∃p ys,xs=[.ref p]/\(GP X.K H p ys\/Hi X.K H p ys)/\∀l,H l=none->Q (.ref l) (upd H l (.lst ys))):=by
 intro pins s σ H xs us Q I r h;obtain⟨p,ys,rfl,hq,q⟩:=h;obtain⟨u,rfl,rx⟩:=zt r;cases rx;have fin:∀(u_:List Value),Vals ys u_->ys.length<=sizeLine->∀(h':Heap) (c':Nat),(∀b o',s.heap.get? b=some o'->h'.get? b=some o')->
   h'.get? s.heap.objs.size=some { cls:=.type "list",dict:=none,data:=.seq u_.toArray c',slots:=#[] }->EP X pins σ Q (.ref s.heap.objs.size) { s with heap:=h' }:=fun u_ r' hz h' c' kp e=>
  ⟨.ref s.heap.objs.size,_,I.laid (t':=s.toks) kp (Nat.le_refl _) (show Fq X.prog X.w _ h' _ (.lst ys) from ⟨hz,u_,c',r',e⟩),rfl,q _ (I.EW.fresh (Nat.le_refl _))⟩
 rcases hq with hq|hq
 ·obtain⟨u_,r',pl,hz⟩:=I.list hq;have hlen:=r'.length;obtain⟨o,ho,hc,n,hd⟩:=pl.isList;exact call_list_seq p (.inl rfl) ho hc hd (fun h' c' kp e=>fin u_ r' hz h' c' kp e) (by simp only[List.size_toArray]<;>omega)
 ·obtain⟨u_,r',pl,hz⟩:=I.tuple hq;have hlen:=r'.length;obtain⟨o,ho,hc,n,hd⟩:=pl;exact call_list_seq p (.inr rfl) ho hc hd (fun h' c' kp e=>fin u_ r' hz h' c' kp e) (by simp only[List.size_toArray]<;>omega)
theorem rf:HH X (.type "tuple") (fun xs H Q=>∃p ys,xs=[.ref p]/\((GP X.K H p ys/\∀l,H l=none->Q (.ref l) (upd H l (.tup ys)))\/(Hi X.K H p ys/\Q (.ref p) H))):=by
 intro pins s σ H xs us Q I r h;obtain⟨p,ys,rfl,h⟩:=h;obtain⟨u,rfl,rx⟩:=zt r;cases rx;rcases h with ⟨hq,q⟩|⟨hq,q⟩
 ·obtain⟨u_,r',pl,hz⟩:=I.list hq;have hlen:=r'.length;refine call_tuple_list pl.isList (fun h' kp=>?_) (by simp only[List.size_toArray]<;>omega);have I1:Inv X pins σ H { s with heap:=h' }:=I.kept (t':=s.toks) kp;have I2:Inv X pins σ (upd H h'.objs.size (.tup ys)) { s with heap:=h'.push { cls:=.type "tuple",data:=.seq u_.toArray } }:=
   I1.laid (t':=s.toks) (fun b o e=>Heap.get?_push_of_some _ e) (Nat.le_refl _) (show Fq X.prog X.w _ _ _ (.tup ys) from ⟨hz,u_,r',IsTup.new _ _⟩)
  exact⟨.ref h'.objs.size,_,I2,rfl,q _ (I1.EW.fresh (Nat.le_refl _))⟩
 ·obtain⟨u_,r',pl,hz⟩:=I.tuple hq;exact call_tuple_same pl ⟨.ref p,H,I,rfl,q⟩
def Xy(K:PySem.W.Frag)(T:String)(x:V)(H:Hp):Prop:=match x with
 |.str _=>T = "str"
 |.int _=>T = "int"
 |.ref p=>(T = "list"/\∃xs,GP K H p xs)\/(T = "tuple"/\∃o,K.lookup p=some o/\o.cls=.type "tuple"/\o.dict=none)\/
   (T = "dict"/\((∃kvs,H p=some (.dK kvs))\/∃kvs,H p=some (.dT kvs)))\/(T = "set"/\∃S n,H p=some (.set S n))
 |_=>False
theorem Cy{pins:List (Addr×Obj)}{σ:St}{H:Hp}{s:Shared}{T:String}{x:V}{v:Value}(I:Inv X pins σ H s)(r:RelV x v)(ty:Xy X.K T x H) :
  s.TypeIs v T/\∀a,v=.ref a->∃ob,s.heap.get? a=some ob/\ob.dict=none:=by
 cases x with
 |str z=>
  obtain⟨t,rfl⟩:=r;cases(show T = "str" from ty);exact⟨typeIs_str s z t,fun _ e=>nomatch e⟩
 |int i=>
  obtain⟨t,rfl⟩:=r;cases(show T = "int" from ty);exact⟨typeIs_int s i t,fun _ e=>nomatch e⟩
 |ref p=>
  cases r;rcases ty with ⟨rfl,xs,hq⟩|⟨rfl,o,hk,hc,hd⟩|⟨rfl,hk⟩|⟨rfl,S,n,hk⟩
  ·obtain⟨u_,_,pl,_⟩:=I.list hq;refine⟨pl.isList.typeIs,fun a e=>?_⟩;cases e;obtain⟨o,n,e,c,hd,_⟩:=pl;exact⟨o,e,hd⟩
  ·refine⟨⟨o,I.IS p o hk,hc⟩,fun a e=>?_⟩;cases e;exact⟨o,I.IS _ o hk,hd⟩
  ·have z:∃o,s.heap.get? p=some o/\o.ExactDict:=by
    rcases hk with ⟨kvs,hk⟩|⟨kvs,hk⟩
    ·obtain⟨_,_,_,_,o,_,_,e,ex,_⟩:=I.EW p _ hk;exact⟨o,e,ex⟩
    ·obtain⟨_,_,_,_,o,_,_,e,ex,_⟩:=I.EW p _ hk;exact⟨o,e,ex⟩
   obtain⟨o,e,ex⟩:=z;refine⟨⟨o,e,ex.1⟩,fun a e2=>?_⟩;cases e2;exact⟨o,e,ex.2.1⟩
  ·obtain⟨o,_,_,_,e,ex,_⟩:=I.EW p _ hk;refine⟨⟨o,e,ex.1⟩,fun a e2=>?_⟩;cases e2;exact⟨o,e,ex.2.1⟩
 |_=>exact False.elim ty
variable{o e:Expr}{es:List Expr}{to:TE}{t:TA}{name:Str}{apos Fy:Pos}{T id:String}{r:V->List V->Hp->VK->Prop}
end
end L2
namespace L2
open PySem PySem.Spec PyProof.Rows
def VR(X:Cx)(id:String)(r:V->List V->Hp->VK->Prop):Prop:=
 ∀(pins:List (Addr×Obj)) (s:Shared) (σ:St) (H:Hp) (x:V) (xs:List V) (v:Value) (us:List Value) (Q:VK),Inv X pins σ H s->RelV x v->Vals xs us->r x xs H Q->
  wpAny (model X.prog X.w) X.A (call (.builtin id) (v :: us)) (EP X pins σ Q) X.xe s
theorem Vals.one:∀{x:V}{us:List Value},Vals [x] us->∃u,us=[u]/\RelV x u
 |_,_,.cons r .nil=>⟨_,rfl,r⟩
theorem Vals.two:∀{x y:V}{us:List Value},Vals [x,y] us->∃u v,us=[u,v]/\RelV x u/\RelV y v
 |_,_,_,.cons r (.cons q .nil)=>⟨_,_,rfl,r,q⟩
theorem Vals.zero:∀{us:List Value},Vals [] us->us=[]
 |_,.nil=>rfl
theorem Vals.eraseIdx:∀{xs:List V}{us:List Value}(i:Nat),Vals xs us->Vals (xs.eraseIdx i) (us.eraseIdx i)
 |_,_,_,.nil=>.nil
 |_,_,0,.cons _ t=>t
 |_,_,i+1,.cons r t=>.cons r (Vals.eraseIdx i t)
theorem Vals.rep{xs:List V}{us:List Value}(h:Vals xs us):∀k:Nat,Vals (List.replicate k xs).flatten (List.replicate k us).flatten
 |0=>.nil
 |k+1=>by
  rw[List.replicate_succ,List.replicate_succ,List.flatten_cons,List.flatten_cons];exact Vals.append h (Vals.rep h k)
theorem rX{α:Type}:∀(l:List α) (i:Nat),(l.eraseIdx i).length<=l.length
 |[],_=>Nat.le_refl _
 |_ :: _,0=>Nat.le_succ _
 |_ :: r,i+1=>Nat.succ_le_succ (rX r i)
theorem sd(u_:List Value):∀(k:Nat) (acc:List Value),
  List.foldl (fun x1 x2=>x1++x2) acc.toArray (List.replicate k u_.toArray)=(acc++(List.replicate k u_).flatten).toArray
 |0,acc=>by simp
 |k+1,acc=>by
  have e:acc.toArray++u_.toArray=(acc++u_).toArray:=by simp
  have e2:(acc++u_)++(List.replicate k u_).flatten=acc++(List.replicate (k+1) u_).flatten:=by
   rw[List.replicate_succ,List.flatten_cons,List.append_assoc]
  rw[<-e2,<-sd u_ k (acc++u_),<-e,List.replicate_succ,List.foldl_cons]
section
variable{X:Cx}{pins:List (Addr×Obj)}{σ:St}{H:Hp}{s:Shared}{l b:Addr}{xs ys zs:List V}
theorem Inv.NI{u_ its':List Value}{n:Nat}{f:Array Value->Array Value}{t':Nat}(I:Inv X pins σ H s)(hH:H l=some (.lst xs))
  (e:s.heap.get? l=some { cls:=.type "list",data:=.seq u_.toArray n }) (hf:f u_.toArray=its'.toArray) (hv:Vals ys its') (hz:ys.length<=sizeLine) :
  Inv X pins σ (upd H l (.lst ys)) { s with heap:=s.heap.update l (Obj.mapSeq f),toks:=t' }:=by
 have q:=PySem.IsL.update e f;rw[hf] at q;refine I.write (x:=l) (e:=l) (by rw[hH];exact trivial) (.inl rfl) (fun b' u hb hu=>(Heap.get?_update_other s.heap (Obj.mapSeq f) (Ne.symm hb)).trans hu) ⟨_,q⟩ ?_;exact⟨hz,its',_,hv,q⟩
theorem Inv.Qt{u_:List Value}{t':Nat}(I:Inv X pins σ H s)(hv:Vals ys u_)(hz:ys.length<=sizeLine) :
  Inv X pins σ (upd H s.heap.objs.size (.lst ys)) { s with heap:=s.heap.push { cls:=.type "list",data:=.seq u_.toArray },toks:=t' }:=
 I.laid (fun _ _ q=>Heap.get?_push_of_some _ q) (Nat.le_refl _) ⟨hz,u_,0,hv,Heap.get?_push_size _ rfl⟩
theorem Inv.fresh(I:Inv X pins σ H s):H s.heap.objs.size=none:=I.EW.fresh (Nat.le_refl _)
theorem Inv.K5(I:Inv X pins σ H s)(hH:H l=some (.lst xs)):xs.length<=sizeLine/\∃(u_:List Value) (n:Nat),Vals xs u_/\xs.length=u_.length/\s.heap.get? l=some { cls:=.type "list",data:=.seq u_.toArray n }:=by
 obtain⟨z,u_,n,r,e⟩:=I.EW l _ hH;exact⟨z,u_,n,r,r.length,e⟩
theorem tY{n:Nat}(h:n<=sizeLine):Builtin.List.listTooLong n=false:=by
 unfold Builtin.List.listTooLong;exact decide_eq_false (by omega)
end
section
variable{X:Cx}
def Bx:V->List V->Hp->VK->Prop:=fun x vs H Q=>∃l xs y,x=.ref l/\vs=[y]/\H l=some (.lst xs)/\xs.length<sizeLine/\Q .EJ (upd H l (.lst (xs++[y])))
theorem rF:VR X "list.append" Bx:=by
 intro pins s σ H x vs v us Q I rx rv h;obtain⟨l,xs,y,rfl,rfl,hH,hz,q⟩:=h;cases rx;obtain⟨u,rfl,ru⟩:=rv.one;obtain⟨z,u_,n,r,hl,e⟩:=I.K5 hH;refine call_meets F.slot_list_append ⟨_,e,rfl⟩ F.entry_list_append (F.args_list_append_2 _ _) (PySem.list_append l u_.toArray n u (by rw[List.size_toArray];omega)) ⟨e,?_⟩;refine⟨.EJ,_,I.NI (its':=u_++[u]) hH e (by simp) (r.append (.cons ru .nil)) ?_,rfl,q⟩;rw[List.length_append,List.length_singleton];omega
def CQ:V->List V->Hp->VK->Prop:=fun x vs H Q=>∃l xs i k y,x=.ref l/\vs=[.int i]/\H l=some (.lst xs)/\-(2 ^ 63)<=i/\i<2 ^ 63/\seqIndex? i xs.length=some k/\xs[k]?=some y/\Q y (upd H l (.lst (xs.eraseIdx k)))
theorem yJ:VR X "list.pop" CQ:=by
 intro pins s σ H x vs v us Q I rx rv h;obtain⟨l,xs,i,k,y,rfl,rfl,hH,h1,h2,hk,hy,q⟩:=h;cases rx;obtain⟨u,rfl,ru⟩:=rv.one;obtain⟨t,rfl⟩:=ru;obtain⟨z,u_,n,r,hl,e⟩:=I.K5 hH;obtain⟨w,hw,HW⟩:=r.get hy;refine call_meets F.slot_list_pop ⟨_,e,rfl⟩ F.entry_list_pop (F.args_list_pop_2 _ _)
  (MeetsSeq.list_pop_at l u_.toArray n i t k w (fitsIndex_both h1 h2) (by rw[List.size_toArray,<-hl];exact hk) (by rw[<-Array.getElem?_toList];exact hw) (by rw[List.size_toArray];omega)) ⟨e,?_⟩
 refine⟨y,_,I.NI (its':=u_.eraseIdx k) hH e ?_ (r.eraseIdx k) ?_,HW,q⟩
 ·show u_.toArray.eraseIdxIfInBounds k=(u_.eraseIdx k).toArray;rw[List.eraseIdxIfInBounds_toArray]
 ·have:=rX xs k;omega
def Ea:R2:=fun x y H Q=>∃l b xs zs,x=.ref l/\y=.ref b/\H l=some (.lst xs)/\H b=some (.lst zs)/\xs.length+zs.length<=sizeLine/\∀p,H p=none->Q (.ref p) (upd H p (.lst (xs++zs)))
theorem Cd:Km X (binaryOp .Add) Ea:=by
 intro pins s σ H x y v u Q I rx ry h;obtain⟨l,b,xs,zs,rfl,rfl,hH,hB,hz,q⟩:=h;cases rx;cases ry;obtain⟨z,u_,n,r,hl,e⟩:=I.K5 hH;obtain⟨z2,K6,n2,r2,Nq,e2⟩:=I.K5 hB;refine PySem.P.add_list e e2 ?_ (by rw[List.size_toArray,List.size_toArray];omega);have ea:u_.toArray++K6.toArray=(u_++K6).toArray:=by simp
 rw[ea];exact⟨.ref _,_,I.Qt (t':=s.toks) (r.append r2) (by rw[List.length_append];omega),rfl,q _ I.fresh⟩
def D4:R2:=fun x y H Q=>∃l k xs,x=.ref l/\y=.int k/\H l=some (.lst xs)/\-(2 ^ 63)<=k/\k<2 ^ 63/\xs.length * k.toNat<=sizeLine/\
 ∀p,H p=none->Q (.ref p) (upd H p (.lst (List.replicate k.toNat xs).flatten))
theorem Br{α:Type}(xs:List α)(k:Nat):(List.replicate k xs).flatten.length=k * xs.length:=by
 induction k with
 |zero=>simp
 |succ k ih=>rw[List.replicate_succ,List.flatten_cons,List.length_append,ih,Nat.succ_mul,Nat.add_comm]
theorem B3:Km X (binaryOp .Mult) D4:=by
 intro pins s σ H x y v u Q I rx ry h;obtain⟨l,k,xs,rfl,rfl,hH,h1,h2,hz,q⟩:=h;cases rx;obtain⟨t,rfl⟩:=ry;obtain⟨z,u_,n,r,hl,e⟩:=I.K5 hH;have hlen:u_.toArray.size * k.toNat<=sizeLine:=by rw[List.size_toArray,<-hl];exact hz
 have Sn:¬u_.toArray.size * k.toNat > (2 ^ 63-1) / 8:=by
  have:(sizeLine:Nat)<=(2 ^ 63-1) / 8:=by decide
  omega
 have MH:¬(!Builtin.List.listFitsIndex k)=true:=by
  rw[fitsIndex_both h1 h2];exact Bool.false_ne_true
 have MI:¬Builtin.List.listTooLong (u_.toArray.size * k.toNat)=true:=by
  rw[tY hlen];exact Bool.false_ne_true
 have Gf:List.foldl (fun x1 x2=>x1++x2) #[] (List.replicate (if u_.toArray.isEmpty=true then 0 else k.toNat) u_.toArray)=(List.replicate k.toNat u_).flatten.toArray:=by
  have f0:∀m:Nat,List.foldl (fun x1 x2=>x1++x2) #[] (List.replicate m u_.toArray)=(List.replicate m u_).flatten.toArray:=fun m=>by
   have:=sd u_ m [];rw[List.nil_append] at this;exact this
  rw[f0];cases u_ with
  |nil=>simp
  |cons a r'=>rw[if_neg (by simp)]
 refine wpAny_binaryOp_repeat_ref (T:="list") (U:="int") (by decide) ⟨_,e,rfl⟩ (fun s'=>typeIs_int s' k t) noFill_list_mul F.fills_int_mul F.slot_int_rmul repeat_list F.slot_int_index.lookup
  (call_meets F.slot_int_rmul (typeIs_int s k t) F.entry_int_rmul (F.args_int_rmul_2 _ _) (int___rmul___int_list k t l u_.toArray n)
   ⟨e,rfl,⟨_,e,rfl⟩,call_meets F.slot_list_mul ⟨_,e,rfl⟩ F.entry_list_mul (F.args_list_mul_2 _ _) (AutoListH.list___mul___list_int_3 l u_.toArray n k t MH Sn MI) ⟨e,?_⟩⟩)
 rw[Gf];exact⟨.ref _,_,I.Qt (t':=s.toks) (r.rep k.toNat) (by rw[Br,Nat.mul_comm];exact hz),rfl,q _ I.fresh⟩
end
section
variable{prog:Program}{w:World}{A:Around}{E:Value->Shared->Prop}{s:Shared}
end
section
variable{X:Cx}
end
end L2
namespace VS
open PySem PySem.W PySem.Calls PyProof.Rows
theorem oR{P:Params}{h:Heap}:∀(ns:List Int) (vs:List Value),WellAll P h vs (ns.map WData.int)->IntsAre vs ns:=by
 intro ns
 induction ns with
 |nil=>
  intro vs w;rw[List.map_nil] at w;cases w;exact .nil
 |cons n ns ih=>
  intro vs w;rw[List.map_cons] at w;cases w with
  |cons a b=>
   cases a;exact .cons _ _ (ih _ b)
theorem xM{l:OpenLaw}{n:Nat}(hn:l.most=some n){P:Params}{h:Heap}{args:List WData}{vals:List Value}
  (NJ:l.row.toRowW.claim.pre args=true) (Rl:WellAll P h vals args) :
  ∃a vs ns,vals=[Value.ref a]/\args=[WData.list (ns.map WData.int)]/\h.get? a=some { cls:=.type "list",data:=.seq vs.toArray }/\IntsAre vs ns/\ns.length<=n:=by
 have Xz:WShape.hasAll [] args [.list .int]=true:=(pre_splitW NJ).1;have hc:l.pre.holds [] { args:=args }=true:=(pre_splitW NJ).2;obtain⟨d,r,rfl,h1,h2⟩:=hasAllW_cons Xz;obtain rfl:=hasAllW_nil h2;obtain⟨xs,rfl,h3⟩:=hasW_list h1;obtain⟨ns,rfl⟩:=items_int h3;have hlen:ns.length<=n:=by
  unfold OpenLaw.pre at hc;have h4:(WTm.not (.lt (.lit (.int (n:Int))) (.len (.arg 0)))).holds [] { args:=[.list (ns.map .int)] }=true:=by
   have h4:=(holds_andW hc).1;rw[hn] at h4;exact h4
  have h5:=condW_of h4 (w_not (w_lt w_lit (w_len_list (w_arg rfl))));rw[List.length_map] at h5;refine Nat.le_of_not_lt fun q=>?_
  have q':(n:Int)<((ns.length:Nat):Int):=by omega
  first
   |(rw[decide_eq_true q'] at h5;exact absurd h5 (by decide))
   |(simp at h5;omega)
 cases Rl with
 |cons w1 w2=>
  cases w2;cases w1 with
  |list ho O3=>exact⟨_,_,ns,rfl,rfl,ho,oR ns _ O3,hlen⟩
theorem ye(l:OpenLaw)(args:List WData):l.row.toRowW.claim.post args (.bool true) args=true:=
 postW_of (r:=l.row.toRowW) (X:=(true == true))
  (show WShape.has [] (.bool true) .bool=true by first|rfl|decide|simp[WShape.has,WShape.arms,WShape.armsAll])
  (show(WTm.eq .res (.lit (.bool true))).value [] { args:=args,res:=some (.bool true),after:=args }=some (.bool (true == true)) from w_eq_bool (w_res rfl) w_lit) rfl
theorem K7{l:OpenLaw}{n:Nat}{q:Program}{loose:List Str}{XP:(Str->Option Value)->Heap->Prop}{YP:World->Heap->Prop}{d:DefRec}
  (hn:l.most=some n) (Qu:d.params.defaults=[])
  (call:∀(w:World) (GC E9:Shared) (mg mb:Str->Option Value) (fa:Addr) (o:Obj) (pm cd doc:Value) (a:Addr) (vs:List Value) (ns:List Int),
   Ground q loose [] XP w GC mg mb E9.heap->YP w E9.heap->
   E9.heap.get? fa=some o->o.data=.func (docDef d.name d.params d.body d.scope pm cd doc)->E9.heap.CodeRec cd d.name->mg d.name=some (.ref fa)->
   E9.heap.get? a=some { cls:=.type "list",data:=.seq vs.toArray }->IntsAre vs ns->ns.length<=n->E9.gens = #[]->
   codeAny (model l.prog w) callerA (.call (.ref fa) ⟨[.ref a],[]⟩) (fun r s'=>r=.ok (.ret (.bool true))/\OldK E9.heap s'.heap/\s'.os=E9.os/\AllBare s'.gens) E9) :
  WalkO q loose XP YP l.row.toRowW d [] (fun f vs=>PySem.call f vs):=by
 intro w GC E9 mg mb G Y fa o pm cd doc dV kV ho hd Lm hD hmg hg args vals as NJ XA O4 Rl Rm;obtain rfl:dV=.none:=Dflts.none hD Qu;obtain rfl:kV=.none:=Dflts.noKw hD;obtain⟨a,vs,ns,rfl,rfl,O5,hints,hlen⟩:=xM hn NJ Rl;refine enter_call (codeAny_mono (call w GC E9 mg mb fa o pm cd doc a vs ns G Y ho (fd_plain hd) Lm hmg O5 hints hlen hg) fun r s' hq=>?_);obtain⟨rfl,h2,h3,h4⟩:=hq;exact⟨.inl ⟨.bool true,.bool true,[],rfl,fun _=>rfl,.bool true,ye l _,fun _=>⟨List.Pairwise.nil,fun _ hm=>(nomatch hm)⟩⟩,h2,h3,h4⟩
section
variable{prog:Program}{w:World}{A:Around}{E:Value->Shared->Prop}{s:Shared}{K:Frag}
end
end VS
namespace L2
open PySem PySem.Spec PyProof.Rows
theorem kZ:∀{vs:List Value}{ns:List Int},IntsAre vs ns->Vals (ns.map V.int) vs
 |_,_,.nil=>.nil
 |_,_,.cons n t h=>.cons ⟨t,rfl⟩ (kZ h)
def AW(H:Hp):Prop:=∀b,H b=none\/∃o xs,H b=some (.Lr o (.lst xs))
theorem yQ{P:Program}{w:World}{K:PySem.W.Frag}{mg mb:Str->Option Value}{CX:Ir}{k:Nat}{fa a:Addr}{fd:FuncData}{x:Str}{sp:Sp}{E9:Shared}{vs:List Value}{ns:List Int}
  (KX:K.In E9.heap) (Ig:E9.heap.Ns mainGlobals mg) (hb:E9.heap.Ns builtinsNs mb) (XB:∀x:Str,x≠"__name__"->mb x=bootBuiltins x) (So:E9.heap.NoLimit) (hg:E9.gens = #[])
  (ha:E9.heap.get? a=some { cls:=.type "list",data:=.seq vs.toArray }) (hi:IntsAre vs ns) (hl:ns.length<=sizeLine) (hr:FX k callerA)
  (F:∀base:Heap,K.In base->base.Ns mainGlobals mg->Ia P w K mg base CX k fa fd [x] sp) (Qv:∀(s:Shared) (u:Value),BindsTo s fd ⟨[u],[]⟩ [(x,u)])
  (Np:∀H:Hp,AW H->GP K H a (ns.map V.int)->sp [.ref a] H (fun v _=>v=.bl true) fun _ _ _=>False)
  (Sq:∀H e s',CX [] H E9 (fun _ _ _=>False) e s'->False) :
  codeAny (model P w) callerA (.call (.ref fa) ⟨[.ref a],[]⟩) (fun r s'=>r=.ok (.ret (.bool true))/\OldK E9.heap s'.heap/\s'.os=E9.os/\AllBare s'.gens) E9:=by
 have rv:=kZ hi;have Ss:=hi.length;have core:∀H:Hp,AW H->GP K H a (ns.map V.int)->GH P w H E9.heap->(∀b,H b≠none->b=a)->(H a≠none->K.lookup a=none)->
   codeAny (model P w) callerA (.call (.ref fa) ⟨[.ref a],[]⟩) (fun r s'=>r=.ok (.ret (.bool true))/\OldK E9.heap s'.heap/\s'.os=E9.os/\AllBare s'.gens) E9:=by
  intro H hO hS EW hA hK;have LZ:∀{b:Addr}{o:Obj},E9.heap.get? b=some o->H b=none->(sH E9.heap H).get? b=some o:=fun e n=>zg e n
  have Qp:∀{b:Addr}{o:Obj}{es:Array DictEntry}{ep:Nat},E9.heap.get? b=some o->o.data=.dict es ep->H b=none:=fun {b o es ep} e d=>by
   cases q:H b with
   |none=>rfl
   |some u=>
    have e':b=a:=hA b (by rw[q];simp);subst e';rw[ha] at e;cases e;have d':Data.seq vs.toArray _=Data.dict es ep:=d;cases d'
  have Rn:∀{b:Addr}{m:Str->Option Value},E9.heap.Ns b m->(sH E9.heap H).Ns b m:=fun {b m} ⟨o,es,ep,e,d,r⟩=>⟨o,es,ep,LZ e (Qp e d),d,r⟩
  have VT:K.In (sH E9.heap H):=fun b o e=>LZ (KX b o e) (by
   cases q:H b with
   |none=>rfl
   |some u=>
    have e':b=a:=hA b (by rw[q];simp);subst e';rw[hK (by rw[q];simp)] at e;cases e)
  have hM:Mod K mg (sH E9.heap H):=⟨VT,Rn Ig,⟨mb,Rn hb,XB⟩,let ⟨mc,h1,h2⟩:=So;⟨mc,Rn h1,h2⟩⟩;have e0:Jx P w K mg (sH E9.heap H) callerA [] E9 H:=⟨rfl,hM,fun b o e=>Ay e,Nat.le_of_eq (yc _ _),trivial,fun b hb=>absurd (show b∈([]:List Addr) from hb) (by simp),EW,.of_eq hg⟩;refine codeAny_mono ((F _ VT (Rn Ig)).run callerA [] E9 H ⟨[.ref a],[]⟩ [.ref a] [.ref a] _ _ hr e0 (Qv E9 (.ref a)) (.cons rfl .nil) (Np H hO hS)) fun r s' h=>?_
  cases r with
  |error e=>exact(Sq H e s' h).elim
  |ok fl=>
   cases fl with
   |next=>exact False.elim h
   |brk=>exact False.elim h
   |cont=>exact False.elim h
   |ret u=>
    obtain⟨v,H',os,bare,un,Su,r',q⟩:=h;have q':v=.bl true:=q;subst q';obtain rfl:u=Value.bool true:=r';refine⟨rfl,OldK.of_keep fun b o e=>?_,os,bare⟩;cases q:H b with
    |none=>exact un.keep b o e q (by intro z;exact absurd (show b∈([]:List Addr) from z) (by simp)) (by simp)
    |some u=>
     rcases hO b with z|⟨ob,xs,z⟩
     ·rw[q] at z;cases z
     ·have z2:=un.HC b ob _ z;obtain⟨e1,_⟩:=EW b _ z;obtain⟨e2,_⟩:=Su b _ z2;rw[e] at e1;cases e1;exact e2
 cases hk:K.lookup a with
 |some o=>
  have e:=KX a o hk;rw[ha] at e;cases e;refine core (fun _=>none) (fun _=>.inl rfl) (.inr ⟨_,vs.toArray,_,hk,rfl,rfl,rfl,by rw[List.size_toArray,Ss];exact hl,by simpa using rv⟩) (fun b u z=>by have z':(none:Option HO)=some u:=z;cases z') (fun b z=>absurd rfl z) fun z=>absurd rfl z
 |none=>
  refine core (fun b=>if b=a then some (.Lr { cls:=.type "list",data:=.seq vs.toArray } (.lst (ns.map V.int))) else none) (fun b=>?_) (.inl (.inr ⟨{ cls:=.type "list",data:=.seq vs.toArray },if_pos rfl⟩)) (fun b u z=>?_) (fun b z=>?_) fun _=>hk
  ·by_cases hb:b=a
   ·exact .inr ⟨_,_,if_pos hb⟩
   ·exact .inl (if_neg hb)
  ·by_cases hb:b=a
   ·have z':=(if_pos hb).symm.trans z;cases z';subst hb;exact⟨ha,by rw[List.length_map];exact hl,vs,_,rv,ha⟩
   ·have z':=(if_neg hb).symm.trans z;cases z'
  ·by_cases hb:b=a
   ·exact hb
   ·exact absurd (if_neg hb) z
end L2
namespace L2
open PySem PySem.Spec PyProof.Rows
theorem NK{l:PySem.W.OpenLaw}{n k:Nat}{q:Program}{loose:List Str}{XP:(Str->Option Value)->Heap->Prop}{YP:World->Heap->Prop}{d:DefRec}{K:Params->PySem.W.Frag}{CX:World->Ir}{sp:World->Sp}{x:Str}
  (hn:l.most=some n) (PO:n<=sizeLine) (Qu:d.params.defaults=[]) (hr:FX k callerA)
  (hY:∀(w:World) (h:Heap),YP w h->(K w.params).In h)
  (F:∀(w:World) (mg:Str->Option Value) (fa:Addr) (h:Heap),(K w.params).In h->h.Ns mainGlobals mg->mg d.name=some (.ref fa)->
   ∃fd:FuncData,(∀(s:Shared) (u:Value),BindsTo s fd ⟨[u],[]⟩ [(x,u)])/\
    ∀base:Heap,(K w.params).In base->base.Ns mainGlobals mg->Ia l.prog w (K w.params) mg base (CX w) k fa fd [x] (sp w))
  (Np:∀(w:World) (H:Hp) (a:Addr) (ns:List Int),ns.length<=n->AW H->GP (K w.params) H a (ns.map V.int)->sp w [.ref a] H (fun v _=>v=.bl true) fun _ _ _=>False)
  (Sq:∀(w:World) (H:Hp) (s:Shared) (e:Value) (s':Shared),CX w [] H s (fun _ _ _=>False) e s'->False) :
  PySem.W.WalkO q loose XP YP l.row.toRowW d [] (fun f vs=>PySem.call f vs):=by
 refine VS.K7 hn Qu fun w GC E9 mg mb fa o pm cd doc a vs ns G Y ho hd Lm hmg O5 hints hlen hg=>?_
 have KX:=hY w _ Y;obtain⟨fd,hb,hF⟩:=F w mg fa _ KX G.T.g hmg;exact yQ KX G.T.g G.T.b G.T.builtins G.T.nolimit hg O5 hints (Nat.le_trans hlen PO) hr hF hb (fun H hO hS=>Np w H a ns hlen hO hS) fun H e s'=>Sq w H E9 e s'
end L2
namespace L2
open PySem PySem.Spec PyProof.Rows
def bi(s:Stmt)(j:Nat):Stmt:=match s with
 |.ClassDef _ _ _ body _ _ _ _ _ _ _=>body.getD j (.Pass ⟨0,0,0,0⟩)
 |_=>.Pass ⟨0,0,0,0⟩
def FU(s:Stmt):Arguments:=match s with
 |.FunctionDef _ a _ _ _ _ _ _ _ _=>a
 |_=>{ posonlyargs:=[],args:=[],vararg:=none,kwonlyargs:=[],kw_defaults:=[],kwarg:=none,defaults:=[] }
def Fx(s:Stmt):List Stmt:=match s with
 |.FunctionDef _ _ b _ _ _ _ _ _ _=>b
 |_=>[]
def h_(s:Stmt):Scope:=match s with
 |.FunctionDef _ _ _ _ _ _ sc _ _ _=>sc
 |_=>{ kind:=.function,names:=[],isGenerator:=false,isCoroutine:=false }
abbrev VU:Ir:=fun _ _ _ _ _ _=>False
abbrev E0:XK:=fun _ _ _=>False
structure Fz(K:PySem.W.Frag)(x qual:Str)(st:Stmt)(f:Addr)(fd:FuncData):Prop where
 ex:∃(oc:Value) (od:Option Addr) (kV doc pm:Value) (an:Option Addr) (EU ct:Value) (Mw:Array (Option Value)),
  fd=PySem.W.fnOf x qual (FU st) (Fx st) (h_ st) .none kV doc pm an EU ct/\K.lookup f=some ⟨oc,od,.func fd,Mw⟩/\PySem.W.codeIn K EU qual=true
 kp:PySem.W.keepIn K (.ref f)=true
section
variable{P:Program}{w:World}{K:PySem.W.Frag}{mg:Str->Option Value}{base:Heap}
theorem Fz.ok{x qual:Str}{st:Stmt}{f:Addr}{fd:FuncData}{N ps:List Str}{k:Nat}{sp:Sp}(F:Fz K x qual st f fd)(S:m_ N ps (h_ st))(len:∀vs H Q E,sp vs H Q E->vs.length=ps.length)
  (K4:∀(EU:Value) (A:Around) (outer:List Env) (s:Shared) (H:Hp) (vs:List V) (Q:VK) (E:XK),FX k (A.deeper (envOfC qual (h_ st) s.heap.objs.size f EU))->sp vs H Q E->
   ∃t,Ql (oH VU P w K mg base N qual (h_ st) f EU A outer s H E).Ox (Fx st) t/\t { nx:=fun _ H'=>Q .EJ H',rt:=Q } (start N vs) H):Ia P w K mg base VU (k+1) f fd ps sp:=by
 obtain⟨oc,od,kV,doc,pm,an,EU,ct,Mw,rfl,lk,Lm⟩:=F.ex;refine B2 lk Lm S len fun A outer s H vs Q E hr Np=>?_
 obtain⟨t,h,q⟩:=K4 EU A outer s H vs Q E hr Np;exact⟨t,h.Ox,q⟩
theorem Fz.binds{x qual:Str}{st:Stmt}{f:Addr}{fd:FuncData}{ps:List Str}(F:Fz K x qual st f fd)
  (h:∀(kV doc pm:Value) (an:Option Addr) (EU ct:Value) (us:List Value),us.length=ps.length->bindArgs (PySem.W.fnOf x qual (FU st) (Fx st) (h_ st) .none kV doc pm an EU ct) ⟨us,[]⟩=pure (ps.zip us)):Binds K fd ps []:=by
 obtain⟨oc,od,kV,doc,pm,an,EU,ct,Mw,rfl,lk,Lm⟩:=F.ex;exact .all (h kV doc pm an EU ct)
theorem CO{x qual:Str}{st:Stmt}{f:Addr}{oc:Value}{od an:Option Addr}{Mw:Array (Option Value)}{kV doc pm EU ct:Value}(l:K.lookup f=some ⟨oc,od,.func (PySem.W.fnOf x qual (FU st) (Fx st) (h_ st) .none kV doc pm an EU ct),Mw⟩)
  (c:PySem.W.codeIn K EU qual=true) (k:PySem.W.keepIn K (.ref f)=true):Fz K x qual st f (PySem.W.fnOf x qual (FU st) (Fx st) (h_ st) .none kV doc pm an EU ct):=⟨⟨oc,od,kV,doc,pm,an,EU,ct,Mw,rfl,l,c⟩,k⟩
end
section
variable{X:Cx}
end
def Jy(H H':Hp):Prop:=∀b o,H b=some o->H' b=some o
theorem Jy.refl(H:Hp):Jy H H:=fun _ _ h=>h
theorem Jy.trans{H H1 H2:Hp}(a:Jy H H1)(b:Jy H1 H2):Jy H H2:=fun c o h=>b c o (a c o h)
theorem Jy.free{H H':Hp}(e:Jy H H'){l:Addr}(h:H' l=Option.none):H l=Option.none:=by
 cases q:H l with
 |none=>rfl
 |some o=>
  rw[e l o q] at h;cases h
theorem Jy.seq{K:PySem.W.Frag}{H H':Hp}{a:Addr}{xs:List V}(e:Jy H H')(h:GP K H a xs):GP K H' a xs:=by
 rcases h with (h|⟨o,h⟩)|h
 ·exact .inl (.inl (e _ _ h))
 ·exact .inl (.inr ⟨o,e _ _ h⟩)
 ·exact .inr h
end L2
namespace DL
open PySem PySem.Spec PyProof.Rows L2
inductive D where
 |EJ|bl (b:Bool)|int (i:Int)|str (x:Str)|tup (xs:List D)|FP (xs:List D)|ob (n:Nat)|xn (c:Addr)
inductive Cell where
 |lst (xs:List D)|Gu (kvs:List (Key×D))|ins (C:Addr) (ns:List Str) (ds:List D)
inductive R(α:Type) where
 |ok (a:α) (S:List Cell)|exc (c:Addr) (S:List Cell)|bad
abbrev M(α:Type):=List Cell->R α
abbrev tB:=List (Option D)
def M.bind{α β:Type}(m:M α)(k:α->M β):M β:=fun S=>match m S with
 |.ok a S'=>k a S'
 |.exc c S'=>.exc c S'
 |.bad=>.bad
def M.ret{α:Type}(a:α):M α:=fun S=>.ok a S
def M.bad{α:Type}:M α:=fun _=>.bad
def Ha{α:Type}(P:Prop)(a b:α):α:=@ite α P (Classical.propDecidable P) a b
theorem ci{α:Type}{P:Prop}{a b:α}(h:P):Ha P a b=a:=by unfold Ha;exact if_pos h
theorem wG{α:Type}{P:Prop}{a b:α}(h:¬P):Ha P a b=b:=by unfold Ha;exact if_neg h
def Nr(K:PySem.W.Frag)(H:Hp)(a:Addr)(xs:List V):Prop:=
 (∃o,H a=some (.Lr o (.lst xs)))\/
  ∃(o:Obj) (u_:Array Value) (n:Nat),K.lookup a=some o/\o.cls=.type "list"/\o.dict=none/\o.data=.seq u_ n/\u_.size<=sizeLine/\Vals xs u_.toList
theorem Nr.sq{K:PySem.W.Frag}{H:Hp}{a:Addr}{xs:List V}(h:Nr K H a xs):GP K H a xs:=by
 rcases h with ⟨o,h⟩|h
 ·exact .inl (.inr ⟨o,h⟩)
 ·exact .inr h
def XO(a c:Addr):HO:=.ext fun h=>∃o,h.get? a=some o/\o.cls=.ref c
mutual
def r_(K:PySem.W.Frag)(H:Hp)(J:List Addr):D->V->Prop
 |.EJ,v=>v=.EJ
 |.bl b,v=>v=.bl b
 |.int i,v=>v=.int i
 |.str x,v=>v=.str x
 |.tup xs,v=>∃a vs,v=.ref a/\Hi K H a vs/\k_ K H J xs vs
 |.FP xs,v=>∃a vs,v=.ref a/\Nr K H a vs/\k_ K H J xs vs
 |.ob n,v=>∃a,v=.ref a/\J[n]?=some a
 |.xn c,v=>∃a,v=.ref a/\H a=some (XO a c)
def k_(K:PySem.W.Frag)(H:Hp)(J:List Addr):List D->List V->Prop
 |[],vs=>vs=[]
 |x :: xs,vs=>∃v r,vs=v :: r/\r_ K H J x v/\k_ K H J xs r
end
def Ro:HO->Bool
 |.tup _=>true
 |.Lr _ _=>true
 |.ext _=>true
 |_=>false
structure Ext(H:Hp)(J:List Addr)(H':Hp)(J':List Addr):Prop where
 st:∀b o,H b=some o->Ro o=true->H' b=some o
 pre:∃more,J'=J++more
theorem Ext.refl(H:Hp)(J:List Addr):Ext H J H J:=⟨fun _ _ e _=>e,[],by simp⟩
theorem Ext.trans{H H1 H2:Hp}{J J1 J2:List Addr}(a:Ext H J H1 J1)(b:Ext H1 J1 H2 J2):Ext H J H2 J2:=by
 obtain⟨m1,e1⟩:=a.pre;obtain⟨m2,e2⟩:=b.pre;exact⟨fun c o e st=>b.st c o (a.st c o e st) st,m1++m2,by rw[e2,e1,List.append_assoc]⟩
theorem Ext.new{H:Hp}{J:List Addr}{p:Addr}{o:HO}(h:H p=none):Ext H J (upd H p o) J:=
 ⟨fun b u e _=>by rw[bf (aY e h)];exact e,[],by simp⟩
theorem Ext.snoc{H H':Hp}{J J':List Addr}(a:Ext H J H' J')(m:List Addr):Ext H J H' (J'++m):=by
 obtain⟨m1,e1⟩:=a.pre;exact⟨a.st,m1++m,by rw[e1,List.append_assoc]⟩
theorem Ext.write{H:Hp}{J:List Addr}{p:Addr}{o u:HO}(h:H p=some u)(hs:Ro u=false):Ext H J (upd H p o) J:=
 ⟨fun b w e st=>by
  have:b≠p:=by
   rintro rfl;rw[h] at e;cases e;rw[hs] at st;cases st
  rw[bf this];exact e,[],by simp⟩
section
variable{K:PySem.W.Frag}{H H':Hp}{J J':List Addr}
theorem Hi.ext{a:Addr}{vs:List V}(e:Ext H J H' J')(h:Hi K H a vs):Hi K H' a vs:=by
 rcases h with (h|⟨o,h⟩)|h
 ·exact .inl (.inl (e.st _ _ h rfl))
 ·exact .inl (.inr ⟨o,e.st _ _ h rfl⟩)
 ·exact .inr h
theorem Nr.ext{a:Addr}{vs:List V}(e:Ext H J H' J')(h:Nr K H a vs):Nr K H' a vs:=by
 rcases h with ⟨o,h⟩|h
 ·exact .inl ⟨o,e.st _ _ h rfl⟩
 ·exact .inr h
mutual
theorem r_.ext(e:Ext H J H' J'):∀{d:D}{v:V},r_ K H J d v->r_ K H' J' d v
 |.EJ,_,h=>by unfold r_ at h ⊢;exact h
 |.bl _,_,h=>by unfold r_ at h ⊢;exact h
 |.int _,_,h=>by unfold r_ at h ⊢;exact h
 |.str _,_,h=>by unfold r_ at h ⊢;exact h
 |.tup xs,v,h=>by
  unfold r_ at h ⊢;obtain⟨a,vs,h1,h2,h3⟩:=h;exact⟨a,vs,h1,Hi.ext e h2,k_.ext e h3⟩
 |.FP xs,v,h=>by
  unfold r_ at h ⊢;obtain⟨a,vs,h1,h2,h3⟩:=h;exact⟨a,vs,h1,Nr.ext e h2,k_.ext e h3⟩
 |.ob n,v,h=>by
  unfold r_ at h ⊢;obtain⟨a,h1,h2⟩:=h;obtain⟨m,em⟩:=e.pre;refine⟨a,h1,?_⟩;rw[em,List.getElem?_append_left (List.getElem?_eq_some_iff.mp h2).1];exact h2
 |.xn c,v,h=>by
  unfold r_ at h ⊢;obtain⟨a,h1,h2⟩:=h;exact⟨a,h1,e.st _ _ h2 rfl⟩
theorem k_.ext(e:Ext H J H' J'):∀{xs:List D}{vs:List V},k_ K H J xs vs->k_ K H' J' xs vs
 |[],_,h=>by unfold k_ at h ⊢;exact h
 |x :: xs,vs,h=>by
  unfold k_ at h ⊢;obtain⟨v,r,h1,h2,h3⟩:=h;exact⟨v,r,h1,r_.ext e h2,k_.ext e h3⟩
end
theorem k_.length:∀{xs:List D}{vs:List V},k_ K H J xs vs->vs.length=xs.length
 |[],_,h=>by unfold k_ at h;rw[h];rfl
 |x :: xs,vs,h=>by
  unfold k_ at h;obtain⟨v,r,h1,_,h3⟩:=h;rw[h1,List.length_cons,List.length_cons,k_.length h3]
theorem k_.get:∀{xs:List D}{vs:List V}{i:Nat}{x:D},k_ K H J xs vs->xs[i]?=some x->∃v,vs[i]?=some v/\r_ K H J x v
 |[],_,_,_,_,e=>by simp at e
 |y :: xs,vs,0,x,h,e=>by
  unfold k_ at h;obtain⟨v,r,h1,h2,_⟩:=h;simp at e;subst e h1;exact⟨v,rfl,h2⟩
 |y :: xs,vs,i+1,x,h,e=>by
  unfold k_ at h;obtain⟨v,r,h1,_,h3⟩:=h;subst h1;exact k_.get (i:=i) h3 (by simpa using e)
theorem k_.append:∀{xs ys:List D}{vs ws:List V},k_ K H J xs vs->k_ K H J ys ws->k_ K H J (xs++ys) (vs++ws)
 |[],_,_,_,h,g=>by unfold k_ at h;rw[h];exact g
 |x :: xs,ys,vs,ws,h,g=>by
  unfold k_ at h;obtain⟨v,r,h1,h2,h3⟩:=h;subst h1;rw[List.cons_append,List.cons_append];unfold k_;exact⟨v,_,rfl,h2,k_.append h3 g⟩
theorem k_.nil:k_ K H J [] []:=by unfold k_;rfl
theorem k_.cons{x:D}{xs:List D}{v:V}{vs:List V}(h:r_ K H J x v)(t:k_ K H J xs vs):k_ K H J (x :: xs) (v :: vs):=by
 unfold k_;exact⟨v,vs,rfl,h,t⟩
theorem k_.one{x:D}{v:V}(h:r_ K H J x v):k_ K H J [x] [v]:=.cons h .nil
theorem k_.take:∀{xs:List D}{vs:List V}(n:Nat),k_ K H J xs vs->k_ K H J (xs.take n) (vs.take n)
 |_,_,0,_=>by simp;exact .nil
 |[],_,n+1,h=>by unfold k_ at h;subst h;simp;exact .nil
 |x :: xs,vs,n+1,h=>by
  unfold k_ at h;obtain⟨v,r,h1,h2,h3⟩:=h;subst h1;exact .cons h2 (k_.take n h3)
theorem k_.drop:∀{xs:List D}{vs:List V}(n:Nat),k_ K H J xs vs->k_ K H J (xs.drop n) (vs.drop n)
 |_,_,0,h=>by simpa using h
 |[],_,n+1,h=>by unfold k_ at h;subst h;simp;exact .nil
 |x :: xs,vs,n+1,h=>by
  unfold k_ at h;obtain⟨v,r,h1,h2,h3⟩:=h;subst h1;exact k_.drop n h3
theorem k_.set{d:D}{w:V}(hd:r_ K H J d w):∀{xs:List D}{vs:List V}(n:Nat),k_ K H J xs vs->k_ K H J (xs.set n d) (vs.set n w)
 |[],_,n,h=>by unfold k_ at h;subst h;simp;exact .nil
 |x :: xs,vs,0,h=>by
  unfold k_ at h;obtain⟨v,r,h1,h2,h3⟩:=h;subst h1;exact .cons hd h3
 |x :: xs,vs,n+1,h=>by
  unfold k_ at h;obtain⟨v,r,h1,h2,h3⟩:=h;subst h1;exact .cons h2 (k_.set hd n h3)
theorem k_.Ie{xs:List D}{vs:List V}(h:k_ K H J xs vs):vs=[]↔xs=[]:=by
 have:=h.length;constructor
 ·intro e;subst e;exact List.length_eq_zero_iff.mp (by simpa using this.symm)
 ·intro e;subst e;exact List.length_eq_zero_iff.mp (by simpa using this)
theorem k_.ints(ns:List Int):k_ K H J (ns.map D.int) (ns.map V.int):=by
 induction ns with
 |nil=>exact .nil
 |cons n r ih=>exact .cons (by unfold r_;rfl) ih
end
def EG{κ:Type}(K:PySem.W.Frag)(H:Hp)(J:List Addr):List (κ×D)->List (κ×V)->Prop
 |[],ws=>ws=[]
 |(k,d) :: r,ws=>∃v t,ws=(k,v) :: t/\r_ K H J d v/\EG K H J r t
section
variable{κ:Type}{K:PySem.W.Frag}{H H':Hp}{J J':List Addr}
theorem EG.ext(e:Ext H J H' J'):∀{xs:List (κ×D)}{ws:List (κ×V)},EG K H J xs ws->EG K H' J' xs ws
 |[],_,h=>h
 |(k,d) :: r,ws,h=>by
  obtain⟨v,t,h1,h2,h3⟩:=h;exact⟨v,t,h1,h2.ext e,EG.ext e h3⟩
theorem EG.length:∀{xs:List (κ×D)}{ws:List (κ×V)},EG K H J xs ws->ws.length=xs.length
 |[],_,h=>by
  have h':_=[]:=h;rw[h'];rfl
 |(k,d) :: r,ws,h=>by
  obtain⟨v,t,h1,h2,h3⟩:=h;rw[h1,List.length_cons,List.length_cons,EG.length h3]
end
def HM(K:PySem.W.Frag)(H:Hp)(J:List Addr):Cell->Addr->Prop
 |.lst xs,a=>∃vs,H a=some (.lst vs)/\k_ K H J xs vs
 |.Gu kvs,a=>∃ws,H a=some (.dK ws)/\EG K H J kvs ws
 |.ins C ns ds,a=>∃dx ws,H a=some (.ins C dx ws)/\ws.map (·.1)=ns/\k_ K H J ds (ws.map (·.2))
structure EM(K:PySem.W.Frag)(H:Hp)(J:List Addr)(S:List Cell):Prop where
 len:J.length=S.length
 nd:J.Nodup
 at_:∀(n:Nat) c a,S[n]?=some c->J[n]?=some a->HM K H J c a
section
variable{K:PySem.W.Frag}{H H':Hp}{J J':List Addr}{S:List Cell}{a p:Addr}{c c':Cell}{n:Nat}{o o':HO}
theorem HM.L0(h:HM K H J c a):∃o,H a=some o/\Ro o=false:=by
 cases c with
 |lst xs=>obtain⟨vs,h,_⟩:=h;exact⟨_,h,rfl⟩
 |Gu xs=>obtain⟨vs,h,_⟩:=h;exact⟨_,h,rfl⟩
 |ins C ns ds=>obtain⟨dx,vs,h,_⟩:=h;exact⟨_,h,rfl⟩
theorem HM.keep(h:HM K H J c a)(e:Ext H J H' J')(he:H' a=H a):HM K H' J' c a:=by
 cases c with
 |lst xs=>obtain⟨vs,h,r⟩:=h;exact⟨vs,he.trans h,r.ext e⟩
 |Gu xs=>obtain⟨vs,h,r⟩:=h;exact⟨vs,he.trans h,r.ext e⟩
 |ins C ns ds=>obtain⟨dx,vs,h,q,r⟩:=h;exact⟨dx,vs,he.trans h,q,r.ext e⟩
theorem EM.cell(h:EM K H J S)(hn:S[n]?=some c):∃a,J[n]?=some a/\HM K H J c a:=by
 have hi:=(List.getElem?_eq_some_iff.mp hn).1;have hl:=h.len;exact⟨J[n]'(by omega),by simp,h.at_ n c _ hn (by simp)⟩
theorem EM.IY(h:EM K H J S)(hn:J[n]?=some a):∃c,S[n]?=some c/\HM K H J c a:=by
 have hi:=(List.getElem?_eq_some_iff.mp hn).1;have hl:=h.len;exact⟨S[n]'(by omega),by simp,h.at_ n _ _ (by simp) hn⟩
theorem EM.held(h:EM K H J S)(ha:a∈J):∃o,H a=some o/\Ro o=false:=by
 obtain⟨n,hn⟩:=List.mem_iff_getElem?.mp ha;obtain⟨c,_,hc⟩:=h.IY hn;exact hc.L0
theorem EM.new(h:EM K H J S)(hp:H p=none):EM K (upd H p o) J S where
 len:=h.len
 nd:=h.nd
 at_:=fun n c a hc ha=>by
  have r:=h.at_ n c a hc ha;obtain⟨u,hu,_⟩:=r.L0;exact r.keep (Ext.new hp) (bf (aY hu hp))
theorem EM.push(h:EM K H J S)(hp:H p=none)(hc:HM K (upd H p o) (J++[p]) c p):EM K (upd H p o) (J++[p]) (S++[c]) where
 len:=by simp[h.len]
 nd:=by
  rw[List.nodup_append];refine⟨h.nd,by simp,?_⟩;intro a ha b hb;simp at hb;subst hb;obtain⟨u,hu,_⟩:=h.held ha;exact aY hu hp
 at_:=fun n c1 a h1 ha=>by
  have hl:=h.len;by_cases hn:n<S.length
  ·rw[List.getElem?_append_left hn] at h1;rw[List.getElem?_append_left (by omega)] at ha;have r:=h.at_ n c1 a h1 ha;obtain⟨u,hu,_⟩:=r.L0;exact r.keep ((Ext.new hp).snoc _) (bf (aY hu hp))
  ·have Ri:=(List.getElem?_eq_some_iff.mp h1).1;have e:n=S.length:=by rw[List.length_append] at Ri;simp at Ri;omega
   subst e;rw[List.getElem?_append_right (Nat.le_refl _)] at h1;rw[List.getElem?_append_right (by omega)] at ha;simp at h1;rw[<-hl] at ha;simp at ha;subst h1 ha;exact hc
theorem EM.write(h:EM K H J S)(hn:J[n]?=some a)(hc:HM K (upd H a o) J c' a):EM K (upd H a o) J (S.set n c') where
 len:=by rw[List.length_set];exact h.len
 nd:=h.nd
 at_:=fun m c1 b h1 hb=>by
  obtain⟨c0,_,r0⟩:=h.IY hn;obtain⟨u0,XC,VW⟩:=r0.L0;by_cases e:m=n
  ·subst e;rw[hn] at hb;cases hb;rw[List.getElem?_set] at h1;simp at h1;obtain⟨_,h1⟩:=h1;subst h1;exact hc
  ·rw[List.getElem?_set_ne (Ne.symm e)] at h1;have r:=h.at_ m c1 b h1 hb;have XD:b≠a:=by
    rintro rfl;exact e ((List.getElem?_inj (List.getElem?_eq_some_iff.mp hb).1 h.nd).mp (hb.trans hn.symm))
   exact r.keep (Ext.write XC VW) (bf XD)
end
structure Hj(K:PySem.W.Frag)(H:Hp)(J:List Addr)(r:tB)(σ:L2.St):Prop where
 len:r.length=σ.length
 at_:∀(i:Nat) d,r[i]?=some (some d)->∃v,σ[i]?=some (some v)/\r_ K H J d v
section
variable{K:PySem.W.Frag}{H H':Hp}{J J':List Addr}{r:tB}{σ:L2.St}
theorem Hj.ext(h:Hj K H J r σ)(e:Ext H J H' J'):Hj K H' J' r σ:=⟨h.len,fun i d q=>let ⟨v,a,b⟩:=h.at_ i d q;⟨v,a,b.ext e⟩⟩
theorem Hj.set(h:Hj K H J r σ){i:Nat}{d:D}{v:V}(hd:r_ K H J d v):Hj K H J (r.set i (some d)) (σ.set i (some v)) where
 len:=by simp[h.len]
 at_:=fun j d' q=>by
  by_cases e:j=i
  ·subst e;rw[List.getElem?_set] at q;simp at q;obtain⟨hj,q⟩:=q;subst q;refine⟨v,?_,hd⟩;rw[List.getElem?_set];simp[<-h.len,hj]
  ·rw[List.getElem?_set_ne (Ne.symm e)] at q ⊢;exact h.at_ j d' q
end
theorem Hj.start{K:PySem.W.Frag}{H:Hp}{J:List Addr}{N:List Str}{xs:List D}{vs:List V}(h:k_ K H J xs vs) :
  Hj K H J (xs.map some++List.replicate (N.length-xs.length) none) (L2.start N vs) where
 len:=by unfold L2.start;simp[h.length]
 at_:=fun i d q=>by
  have hl:=h.length;unfold L2.start;by_cases hi:i<xs.length
  ·rw[List.getElem?_append_left (by simpa using hi)] at q;rw[List.getElem?_append_left (by simp;omega)];rw[List.getElem?_map] at q ⊢;cases e:xs[i]? with
   |none=>rw[e] at q;simp at q
   |some x=>
    rw[e] at q;simp at q;subst q;obtain⟨v,h1,h2⟩:=h.get e;exact⟨v,by rw[h1];rfl,h2⟩
  ·rw[List.getElem?_append_right (by simpa using hi)] at q;rw[List.getElem?_replicate] at q;split at q<;>simp at q
end DL
namespace DL
open PySem PySem.Spec PyProof.Rows L2
abbrev EK:=List (Addr×Obj)
def TO(T:Addr):HO:=.ext fun h=>∃o,h.get? T=some o
def DH(h:Heap)(a c:Addr):Prop:=∃oe vs a0,h.get? a=some oe/\oe.cls=.ref c/\oe.data=.fields vs/\vs[0]?=some a0/\vs[1]?=some .none
def Tr(h:Heap)(a c T:Addr):Prop:=∃oe vs oT ts a0,h.get? a=some oe/\oe.cls=.ref c/\oe.data=.fields vs/\vs[0]?=some a0/\vs[1]?=some (.ref T)/\T≠a/\h.get? T=some oT/\oT.data=.fields ts/\ts[3]?=some .none
def XF(X:Cx)(H:Hp)(e:Value)(c:Addr)(h:Heap):Prop:=∃a,e=.ref a/\H a=some (XO a c)/\(DH h a c\/∃T,H T=some (TO T)/\Tr h a c T)
structure NL(X:Cx)(pins:EK)(σ:L2.St)(H:Hp)(s:Shared)(e:Value)(c:Addr):Prop where
 inv:Inv X pins σ H s
 XE:XF X H e c s.heap
def Got(K:PySem.W.Frag)(H:Hp)(J:List Addr)(d:D)(S:List Cell):VK:=fun v H'=>∃J',Ext H J H' J'/\EM K H' J' S/\r_ K H' J' d v
def NM(K:PySem.W.Frag)(H:Hp)(J:List Addr)(ds:List D)(S:List Cell)(vs:List V)(H':Hp):Prop:=∃J',Ext H J H' J'/\EM K H' J' S/\k_ K H' J' ds vs
def HN(K:PySem.W.Frag)(H:Hp)(J:List Addr)(S:List Cell)(H':Hp):Prop:=∃J',Ext H J H' J'/\EM K H' J' S
def XP(X:Cx)(pins:EK)(σ:L2.St)(c:Addr)(G:Hp->Prop)(e:Value)(s':Shared):Prop:=∃H',NL X pins σ H' s' e c/\G H'
def Mt(X:Cx)(pins:EK)(σ:L2.St)(H:Hp)(J:List Addr)(r:R D)(Q:Value->Shared->Prop)(E:Value->Shared->Prop):Prop:=match r with
 |.ok d S'=>∀u s',EP X pins σ (Got X.K H J d S') u s'->Q u s'
 |.exc c S'=>∀e s',XP X pins σ c (HN X.K H J S') e s'->E e s'
 |.bad=>False
def Lo(X:Cx)(pins:EK)(σ:L2.St)(H:Hp)(J:List Addr)(r:R Bool)(Q:Bool->Shared->Prop)(E:Value->Shared->Prop):Prop:=match r with
 |.ok b S'=>∀s',TP X pins σ (fun _=>HN X.K H J S') b s'->Q b s'
 |.exc c S'=>∀e s',XP X pins σ c (HN X.K H J S') e s'->E e s'
 |.bad=>False
def Qw(X:Cx)(pins:EK)(σ:L2.St)(H:Hp)(J:List Addr)(r:R (List D))(Q:List Value->Shared->Prop)(E:Value->Shared->Prop):Prop:=match r with
 |.ok ds S'=>∀us s',AP X pins σ (NM X.K H J ds S') us s'->Q us s'
 |.exc c S'=>∀e s',XP X pins σ c (HN X.K H J S') e s'->E e s'
 |.bad=>False
section
variable{X:Cx}{pins:EK}{σ:L2.St}{H H1:Hp}{J J1:List Addr}
theorem Got.ext{K:PySem.W.Frag}{d:D}{S:List Cell}{v:V}{H':Hp}(e:Ext H J H1 J1)(h:Got K H1 J1 d S v H'):Got K H J d S v H':=let ⟨J',a,b,c⟩:=h;⟨J',e.trans a,b,c⟩
theorem NM.ext{K:PySem.W.Frag}{d:List D}{S:List Cell}{v:List V}{H':Hp}(e:Ext H J H1 J1)(h:NM K H1 J1 d S v H'):NM K H J d S v H':=let ⟨J',a,b,c⟩:=h;⟨J',e.trans a,b,c⟩
theorem HN.ext{K:PySem.W.Frag}{S:List Cell}{H':Hp}(e:Ext H J H1 J1)(h:HN K H1 J1 S H'):HN K H J S H':=let ⟨J',a,b⟩:=h;⟨J',e.trans a,b⟩
theorem XP.ext{c:Addr}{S:List Cell}{u:Value}{s':Shared}(e:Ext H J H1 J1)(h:XP X pins σ c (HN X.K H1 J1 S) u s'):XP X pins σ c (HN X.K H J S) u s':=let ⟨H',a,b⟩:=h;⟨H',a,b.ext e⟩
theorem Mt.ext{r:R D}{Q E:Value->Shared->Prop}(e:Ext H J H1 J1)(h:Mt X pins σ H J r Q E):Mt X pins σ H1 J1 r Q E:=by
 cases r with
 |ok d S=>exact fun u s' ⟨v,H',I,rv,g⟩=>h u s' ⟨v,H',I,rv,g.ext e⟩
 |exc c S=>exact fun u s' x=>h u s' (x.ext e)
 |bad=>exact h
theorem Lo.ext{r:R Bool}{Q:Bool->Shared->Prop}{E:Value->Shared->Prop}(e:Ext H J H1 J1)(h:Lo X pins σ H J r Q E):Lo X pins σ H1 J1 r Q E:=by
 cases r with
 |ok d S=>exact fun s' ⟨H',I,g⟩=>h s' ⟨H',I,g.ext e⟩
 |exc c S=>exact fun u s' x=>h u s' (x.ext e)
 |bad=>exact h
theorem Qw.ext{r:R (List D)}{Q:List Value->Shared->Prop}{E:Value->Shared->Prop}(e:Ext H J H1 J1)(h:Qw X pins σ H J r Q E):Qw X pins σ H1 J1 r Q E:=by
 cases r with
 |ok d S=>exact fun u s' ⟨v,H',I,rv,g⟩=>h u s' ⟨v,H',I,rv,g.ext e⟩
 |exc c S=>exact fun u s' x=>h u s' (x.ext e)
 |bad=>exact h
end
structure At(X:Cx)(pins:EK)(σ:L2.St)(H:Hp)(J:List Addr)(r:tB)(S:List Cell)(s:Shared):Prop where
 inv:Inv X pins σ H s
 loc:Hj X.K H J r σ
 st:EM X.K H J S
def Fn(X:Cx)(e:Expr)(f:tB->M D):Prop:=∀(pins:EK) (s:Shared) (σ:L2.St) (H:Hp) (J:List Addr) (r:tB) (S:List Cell) (Q E:Value->Shared->Prop),
 At X pins σ H J r S s->Mt X pins σ H J (f r S) Q E->wpAny (model X.prog X.w) X.A (eval e X.env) Q E s
def L1(X:Cx)(e:Expr)(f:tB->M Bool):Prop:=∀(pins:EK) (s:Shared) (σ:L2.St) (H:Hp) (J:List Addr) (r:tB) (S:List Cell) (Q:Bool->Shared->Prop) (E:Value->Shared->Prop),
 At X pins σ H J r S s->Lo X pins σ H J (f r S) Q E->wpAny (model X.prog X.w) X.A (isTrue e X.env (eval e X.env)) Q E s
def IF(X:Cx)(e:Expr)(f:tB->M Bool):Prop:=∀(whole:Sem Value) (pins:EK) (s:Shared) (σ:L2.St) (H:Hp) (J:List Addr) (r:tB) (S:List Cell) (Q:Bool->Shared->Prop) (E:Value->Shared->Prop),
 At X pins σ H J r S s->Lo X pins σ H J (f r S) Q E->wpAny (model X.prog X.w) X.A (isTrue e X.env whole) Q E s
theorem IF.pt{X:Cx}{e:Expr}{f:tB->M Bool}(h:IF X e f):L1 X e f:=h _
def KU(X:Cx)(es:List Expr)(f:tB->M (List D)):Prop:=∀(pos:Pos) (pins:EK) (s:Shared) (σ:L2.St) (H:Hp) (J:List Addr) (r:tB) (S:List Cell) (Q:List Value->Shared->Prop) (E:Value->Shared->Prop),
 At X pins σ H J r S s->Qw X pins σ H J (f r S) Q E->wpAny (model X.prog X.w) X.A (spliced (backTo pos (starEach es X.env))) Q E s
def Io(X:Cx)(f:Value->Value->Sem Value)(g:D->D->M D):Prop:=∀(pins:EK) (s:Shared) (σ:L2.St) (H:Hp) (J:List Addr) (S:List Cell) (x y:D) (vx vy:V) (v u:Value) (Q E:Value->Shared->Prop),
 Inv X pins σ H s->EM X.K H J S->r_ X.K H J x vx->r_ X.K H J y vy->RelV vx v->RelV vy u->Mt X pins σ H J (g x y S) Q E->wpAny (model X.prog X.w) X.A (f v u) Q E s
def Qx(X:Cx)(f:Value->Sem Value)(g:D->M D):Prop:=∀(pins:EK) (s:Shared) (σ:L2.St) (H:Hp) (J:List Addr) (S:List Cell) (x:D) (vx:V) (v:Value) (Q E:Value->Shared->Prop),
 Inv X pins σ H s->EM X.K H J S->r_ X.K H J x vx->RelV vx v->Mt X pins σ H J (g x S) Q E->wpAny (model X.prog X.w) X.A (f v) Q E s
def Gy(X:Cx)(f:Value)(g:List D->M D):Prop:=∀(pins:EK) (s:Shared) (σ:L2.St) (H:Hp) (J:List Addr) (S:List Cell) (xs:List D) (vs:List V) (us:List Value) (Q E:Value->Shared->Prop),
 Inv X pins σ H s->EM X.K H J S->k_ X.K H J xs vs->Vals vs us->Mt X pins σ H J (g xs S) Q E->wpAny (model X.prog X.w) X.A (call f us) Q E s
section
variable{X:Cx}{a b c:Expr}{fa fb fc:tB->M D}{pos:Pos}
theorem EP.E5{pins:EK}{σ:L2.St}{E:Value->Shared->Prop}{Q:VK}{u:Value}{s':Shared}(h:EP (X.E8 E) pins σ Q u s'):EP X pins σ Q u s':=let ⟨v,H',I,r,q⟩:=h;⟨v,H',I.E5,r,q⟩
theorem Io.of{f:Value->Value->Sem Value}{r:R2}{g:D->D->M D}(h:∀E,Km (X.E8 E) f r)
  (hg:∀(H:Hp) (J:List Addr) (S:List Cell) (x y:D) (vx vy:V) (d:D) (S':List Cell),EM X.K H J S->r_ X.K H J x vx->r_ X.K H J y vy->g x y S=.ok d S'->r vx vy H (Got X.K H J d S'))
  (hn:∀x y S c S',g x y S≠.exc c S'):Io X f g:=by
 intro pins s σ H J S x y vx vy v u Q E I rs rx ry rv ru m;cases e:g x y S with
 |ok d S'=>
  rw[e] at m;exact wpAny_mono (h E pins s σ H vx vy v u _ (I.E8 E) rv ru (hg H J S x y vx vy d S' rs rx ry e)) (fun u s' q=>m u s' (EP.E5 q)) fun _ _ z=>z
 |exc c S'=>exact absurd e (hn _ _ _ _ _)
 |bad=>rw[e] at m;exact m.elim
theorem Qx.of{f:Value->Sem Value}{r:V->Hp->VK->Prop}{g:D->M D}(h:∀E,Si (X.E8 E) f r)
  (hg:∀(H:Hp) (J:List Addr) (S:List Cell) (x:D) (vx:V) (d:D) (S':List Cell),EM X.K H J S->r_ X.K H J x vx->g x S=.ok d S'->r vx H (Got X.K H J d S'))
  (hn:∀x S c S',g x S≠.exc c S'):Qx X f g:=by
 intro pins s σ H J S x vx v Q E I rs rx rv m;cases e:g x S with
 |ok d S'=>
  rw[e] at m;exact wpAny_mono (h E pins s σ H vx v _ (I.E8 E) rv (hg H J S x vx d S' rs rx e)) (fun u s' q=>m u s' (EP.E5 q)) fun _ _ z=>z
 |exc c S'=>exact absurd e (hn _ _ _ _)
 |bad=>rw[e] at m;exact m.elim
theorem Gy.of{f:Value}{r:List V->Hp->VK->Prop}{g:List D->M D}(h:∀E,HH (X.E8 E) f r)
  (hg:∀(H:Hp) (J:List Addr) (S:List Cell) (xs:List D) (vs:List V) (d:D) (S':List Cell),EM X.K H J S->k_ X.K H J xs vs->g xs S=.ok d S'->r vs H (Got X.K H J d S'))
  (hn:∀xs S c S',g xs S≠.exc c S'):Gy X f g:=by
 intro pins s σ H J S xs vs us Q E I rs rx rv m;cases e:g xs S with
 |ok d S'=>
  rw[e] at m;exact wpAny_mono (h E pins s σ H vs us _ (I.E8 E) rv (hg H J S xs vs d S' rs rx e)) (fun u s' q=>m u s' (EP.E5 q)) fun _ _ z=>z
 |exc c S'=>exact absurd e (hn _ _ _ _)
 |bad=>rw[e] at m;exact m.elim
theorem go2(ha:Fn X a fa)(hb:Fn X b fb){f:Value->Value->Sem Value}{g:D->D->M D}(ho:Io X f g){Q E:Value->Shared->Prop}{pins:EK}{s:Shared}{σ:L2.St}{H:Hp}{J:List Addr}{r:tB}{S:List Cell}
  (I:At X pins σ H J r S s) (m:Mt X pins σ H J ((fa r).bind (fun x=>(fb r).bind fun y=>g x y) S) Q E) :
  wpAny (model X.prog X.w) X.A (eval a X.env) (fun v E9=>wpAny (model X.prog X.w) X.A (eval b X.env) (fun u MJ=>wpAny (model X.prog X.w) X.A (f v u) Q E MJ) E E9) E s:=by
 refine ha pins s σ H J r S _ E I ?_;unfold M.bind at m;cases e:fa r S with
 |bad=>rw[e] at m;exact m
 |exc c S1=>rw[e] at m;exact m
 |ok x S1=>
  rw[e] at m;intro u s' ⟨vx,H1,I1,r1,J1,ex,rs,rv⟩;refine hb pins s' σ H1 J1 r S1 _ E ⟨I1,I.loc.ext ex,rs⟩ ?_;dsimp only at m;cases e2:fb r S1 with
  |bad=>rw[e2] at m;exact m
  |exc c S2=>rw[e2] at m;exact Mt.ext (r:=.exc c S2) (Q:=fun _ _=>True) ex m
  |ok y S2=>
   rw[e2] at m;intro u2 s2 ⟨vy,H2,I2,r2,J2,Jt,Ih,Kn⟩;exact ho pins s2 σ H2 J2 S2 x y vx vy u u2 Q E I2 Ih (rv.ext Jt) Kn r1 r2 (Mt.ext (ex.trans Jt) m)
def g_(g:D->D->M D)(fa fb:tB->M D):tB->M D:=fun r=>(fa r).bind fun x=>(fb r).bind fun y=>g x y
theorem bJ{op:Operator}{g:D->D->M D}(ho:Io X (binaryOp op) g)(ha:Fn X a fa)(hb:Fn X b fb):Fn X (.BinOp a op b pos) (g_ g fa fb):=
 fun pins s σ H J r S Q E I m=>wpAny_BinOp (go2 ha hb ho I m)
theorem pc{op:CmpOp}{g:D->D->M D}(ho:Io X (compareOp op) g)(ha:Fn X a fa)(hb:Fn X b fb)(hm:behindInMarks op b=false):Fn X (.Compare a [op] [b] pos) (g_ g fa fb):=
 fun pins s σ H J r S Q E I m=>wpAny_Compare1 (go2 ha hb ho I m) hm
def aa(i:Nat):tB->M D:=fun r S=>match r[i]? with
 |some (some d)=>.ok d S
 |_=>.bad
def dC(d:D):tB->M D:=fun _ S=>.ok d S
theorem Mt.Hl{pins:EK}{s:Shared}{σ:L2.St}{H:Hp}{J:List Addr}{S:List Cell}{d:D}{v:V}{u:Value}{Q E:Value->Shared->Prop}(m:Mt X pins σ H J (.ok d S) Q E)(I:Inv X pins σ H s)(rs:EM X.K H J S)(rv:r_ X.K H J d v)(r:RelV v u):Q u s:=
 m u s ⟨v,H,I,r,J,Ext.refl _ _,rs,rv⟩
theorem ae(i:Nat){x:Str}(hN:X.N[i]?=some x:=by rfl)(hv:R7 X.env.scope x:=by first|exact Or.inl rfl|exact Or.inr (Or.inl rfl)|exact Or.inr (Or.inr rfl))(hd:(x == ("__debug__":Str))=false:=by decide)
  (Lm:(x == ("__classdict__":Str))=false:=by decide):Fn X (.Name x pos) (aa i):=by
 intro pins s σ H J r S Q E I m;unfold aa at m;cases e:r[i]? with
 |none=>rw[e] at m;exact m.elim
 |some o=>
  cases o with
  |none=>rw[e] at m;exact m.elim
  |some d=>
   rw[e] at m;obtain⟨v,h1,h2⟩:=I.loc.at_ i d e;exact wpAny_mono (CZ (X:=X.E8 E) hN hv hd Lm pins s σ H (Got X.K H J d S) (I.inv.E8 E) ⟨v,h1,J,Ext.refl _ _,I.st,h2⟩) (fun u s' q=>m u s' (EP.E5 q)) fun _ _ z=>z
theorem aq{i j pos}:Fn X (.Constant (.int i) j pos) (dC (.int i)):=fun pins s σ H J r S Q E I m=>
 wpAny_Constant_int (m.Hl (I.inv.tok _) I.st (v:=.int i) (by unfold r_;rfl) ⟨_,rfl⟩)
theorem lG{i j pos}:Fn X (.Constant (.bool i) j pos) (dC (.bl i)):=fun pins s σ H J r S Q E I m=>
 Constant_bool (m.Hl I.inv I.st (v:=.bl i) (by unfold r_;rfl) rfl)
theorem wA{j pos}:Fn X (.Constant .none j pos) (dC .EJ):=fun pins s σ H J r S Q E I m=>
 Constant_none (m.Hl I.inv I.st (v:=.EJ) (by unfold r_;rfl) rfl)
theorem aM{i j pos}:Fn X (.Constant (.str i) j pos) (dC (.str i)):=fun pins s σ H J r S Q E I m=>
 Calls.Constant_str (m.Hl (I.inv.tok _) I.st (v:=.str i) (by unfold r_;rfl) ⟨_,rfl⟩)
def IG(K:PySem.W.Frag)(d:D)(u:Value):Prop:=∀H J,∃v,RelV v u/\r_ K H J d v
theorem AY{x:Str}{d:D}{u:Value}{pos:Pos}(hg:Gl X x)(hm:X.mg x=some u)(kr:IG X.K d u)(hd:(x == ("__debug__":Str))=false:=by decide):Fn X (.Name x pos) (dC d):=by
 intro pins s σ H J r S Q E I m;obtain⟨v,h1,h2⟩:=kr H J;exact kT I.inv hg hm (m.Hl I.inv I.st h2 h1) hd
def O6:D->M Bool
 |.bl b=>fun S=>.ok b S
 |_=>fun _=>.bad
def ao(f:tB->M D):tB->M Bool:=fun r=>(f r).bind O6
theorem r_.Nt{K:PySem.W.Frag}{H:Hp}{J:List Addr}{b:Bool}{v:V}(h:r_ K H J (.bl b) v):v=.bl b:=by unfold r_ at h;exact h
theorem r_.FY{K:PySem.W.Frag}{H:Hp}{J:List Addr}{b:Int}{v:V}(h:r_ K H J (.int b) v):v=.int b:=by unfold r_ at h;exact h
theorem r_.MK{K:PySem.W.Frag}{H:Hp}{J:List Addr}{b:Str}{v:V}(h:r_ K H J (.str b) v):v=.str b:=by unfold r_ at h;exact h
theorem r_.Lv{K:PySem.W.Frag}{H:Hp}{J:List Addr}{v:V}(h:r_ K H J .EJ v):v=.EJ:=by unfold r_ at h;exact h
theorem r_.HP{K:PySem.W.Frag}{H:Hp}{J:List Addr}{xs:List D}{v:V}(h:r_ K H J (.tup xs) v):∃a vs,v=.ref a/\Hi K H a vs/\k_ K H J xs vs:=by unfold r_ at h;exact h
theorem r_.Ko{K:PySem.W.Frag}{H:Hp}{J:List Addr}{xs:List D}{v:V}(h:r_ K H J (.FP xs) v):∃a vs,v=.ref a/\Nr K H a vs/\k_ K H J xs vs:=by unfold r_ at h;exact h
theorem r_.HQ{K:PySem.W.Frag}{H:Hp}{J:List Addr}{n:Nat}{v:V}(h:r_ K H J (.ob n) v):∃a,v=.ref a/\J[n]?=some a:=by unfold r_ at h;exact h
theorem r_.XG{K:PySem.W.Frag}{H:Hp}{J:List Addr}{n:Nat}{v:V}(h:r_ K H J (.xn n) v):∃a,v=.ref a/\H a=some (XO a n):=by unfold r_ at h;exact h
theorem r_.int(K:PySem.W.Frag)(H:Hp)(J:List Addr)(b:Int):r_ K H J (.int b) (.int b):=by unfold r_;rfl
theorem r_.bl(K:PySem.W.Frag)(H:Hp)(J:List Addr)(b:Bool):r_ K H J (.bl b) (.bl b):=by unfold r_;rfl
theorem r_.str(K:PySem.W.Frag)(H:Hp)(J:List Addr)(b:Str):r_ K H J (.str b) (.str b):=by unfold r_;rfl
theorem r_.EJ(K:PySem.W.Frag)(H:Hp)(J:List Addr):r_ K H J .EJ .EJ:=by unfold r_;rfl
theorem r_.tup{K:PySem.W.Frag}{H:Hp}{J:List Addr}{xs:List D}{a:Addr}{vs:List V}(h:Hi K H a vs)(g:k_ K H J xs vs):r_ K H J (.tup xs) (.ref a):=by unfold r_;exact⟨a,vs,rfl,h,g⟩
theorem r_.ob{K:PySem.W.Frag}{H:Hp}{J:List Addr}{n:Nat}{a:Addr}(h:J[n]?=some a):r_ K H J (.ob n) (.ref a):=by unfold r_;exact⟨a,rfl,h⟩
theorem Lo.NN{pins:EK}{σ:L2.St}{H:Hp}{J:List Addr}{rd:R D}{S:List Cell}{f:tB->M D}{r:tB}{Q:Bool->Shared->Prop}{E:Value->Shared->Prop}(m:Lo X pins σ H J (ao f r S) Q E) :
  Mt X pins σ H J (f r S) (fun v s'=>wpAny (model X.prog X.w) X.A (truthy v) Q E s') E:=by
 unfold ao M.bind at m;cases e:f r S with
 |bad=>rw[e] at m;exact m
 |exc c S1=>rw[e] at m;exact m
 |ok x S1=>
  rw[e] at m;intro u s' ⟨vx,H1,I1,r1,J1,ex,rs,rv⟩;cases x with
  |bl b=>
   cases rv.Nt;cases r1;exact wpAny_truthy_bool (m s' ⟨H1,I1,J1,ex,rs⟩)
  |_=>exact m.elim
theorem aD{op:CmpOp}{g:D->D->M D}(ho:Io X (compareOp op) g)(ha:Fn X a fa)(hb:Fn X b fb)(hm:behindInMarks op b=false):L1 X (.Compare a [op] [b] pos) (ao (g_ g fa fb)):=by
 intro pins s σ H J r S Q E I m;refine wpAny_isTrue_Compare1 ?_ hm;have m':=Lo.NN (rd:=.bad) m;have:=go2 ha hb ho I m';exact this
def de(t u:tB->M Bool):tB->M Bool:=fun r=>(t r).bind fun c=>if c=true then u r else M.ret false
def G7(t u:tB->M Bool):tB->M Bool:=fun r=>(t r).bind fun c=>if c=true then M.ret true else u r
def cV(t:tB->M Bool):tB->M Bool:=fun r=>(t r).bind fun c=>M.ret (!c)
variable{tA Qm:tB->M Bool}{rest:List Expr}
theorem Sv{t:Sem Bool}{f:M Bool}{k:Bool->M Bool}{pins:EK}{s:Shared}{σ:L2.St}{H:Hp}{J:List Addr}{r:tB}{S:List Cell}{Q:Bool->Shared->Prop}{Q':Bool->Shared->Prop}{E:Value->Shared->Prop}(I:At X pins σ H J r S s)
  (ha:∀Q1,Lo X pins σ H J (f S) Q1 E->wpAny (model X.prog X.w) X.A t Q1 E s) (m:Lo X pins σ H J (f.bind k S) Q E)
  (hk:∀c S1 s1 H1 J1,At X pins σ H1 J1 r S1 s1->Lo X pins σ H1 J1 (k c S1) Q E->Q' c s1):wpAny (model X.prog X.w) X.A t Q' E s:=by
 refine ha _ ?_;unfold M.bind at m;cases e:f S with
 |bad=>rw[e] at m;exact m
 |exc c S1=>rw[e] at m;exact m
 |ok x S1=>
  rw[e] at m;intro s' ⟨H1,I1,J1,ex,rs⟩;exact hk x S1 s' H1 J1 ⟨I1,I.loc.ext ex,rs⟩ (Lo.ext ex m)
theorem dr(ha:L1 X a tA):IF X (.BoolOp .And [a] pos) tA:=by
 intro wh pins s σ H J r S Q E I m;refine isTrue_and (ha pins s σ H J r S _ E I ?_);cases e:tA r S with
 |bad=>rw[e] at m;exact m
 |exc c S1=>rw[e] at m;exact m
 |ok x S1=>
  rw[e] at m;intro s' h;cases x with
  |true=>exact isTrue_and_nil (m s' h)
  |false=>exact m s' h
theorem mV(ha:L1 X a tA):IF X (.BoolOp .Or [a] pos) tA:=by
 intro wh pins s σ H J r S Q E I m;refine isTrue_or (ha pins s σ H J r S _ E I ?_);cases e:tA r S with
 |bad=>rw[e] at m;exact m
 |exc c S1=>rw[e] at m;exact m
 |ok x S1=>
  rw[e] at m;intro s' h;cases x with
  |false=>exact isTrue_or_nil (m s' h)
  |true=>exact m s' h
theorem Lo.Hl{pins:EK}{s:Shared}{σ:L2.St}{H:Hp}{J:List Addr}{r:tB}{S:List Cell}{b:Bool}{Q:Bool->Shared->Prop}{E:Value->Shared->Prop}(m:Lo X pins σ H J (.ok b S) Q E)(I:At X pins σ H J r S s):Q b s:=
 m s ⟨H,I.inv,J,Ext.refl _ _,I.st⟩
theorem dX(ha:L1 X a tA)(hb:IF X (.BoolOp .And (b :: rest) pos) Qm):IF X (.BoolOp .And (a :: b :: rest) pos) (de tA Qm):=by
 intro wh pins s σ H J r S Q E I m;refine isTrue_and (Sv (r:=r) I (fun Q1=>ha pins s σ H J r S Q1 E I) m fun c S1 s1 H1 J1 I1 m1=>?_);cases c with
 |true=>exact hb wh pins s1 σ H1 J1 r S1 Q E I1 m1
 |false=>exact m1.Hl I1
theorem kI(ha:L1 X a tA)(hb:IF X (.BoolOp .Or (b :: rest) pos) Qm):IF X (.BoolOp .Or (a :: b :: rest) pos) (G7 tA Qm):=by
 intro wh pins s σ H J r S Q E I m;refine isTrue_or (Sv (r:=r) I (fun Q1=>ha pins s σ H J r S Q1 E I) m fun c S1 s1 H1 J1 I1 m1=>?_);cases c with
 |false=>exact hb wh pins s1 σ H1 J1 r S1 Q E I1 m1
 |true=>exact m1.Hl I1
theorem fY(ha:L1 X a tA):L1 X (.UnaryOp .Not a pos) (cV tA):=by
 intro pins s σ H J r S Q E I m;exact isTrue_not (Sv (r:=r) I (fun Q1=>ha pins s σ H J r S Q1 E I) m fun c S1 s1 H1 J1 I1 m1=>m1.Hl I1)
def jK(fa fb:tB->M D):tB->M D:=fun r=>(ao fa r).bind fun c=>if c=true then fb r else M.ret (.bl false)
def Ee(fa fb:tB->M D):tB->M D:=fun r=>(ao fa r).bind fun c=>if c=true then M.ret (.bl true) else fb r
def xb(fa:tB->M D):tB->M D:=fun r=>(ao fa r).bind fun c=>M.ret (.bl (!c))
theorem VX(ha:Fn X a fa){k:Bool->M D}{pins:EK}{s:Shared}{σ:L2.St}{H:Hp}{J:List Addr}{r:tB}{S:List Cell}{Q Q':Value->Shared->Prop}{E:Value->Shared->Prop}(I:At X pins σ H J r S s)
  (m:Mt X pins σ H J ((ao fa r).bind k S) Q E) (hk:∀c S1 s1 H1 J1,At X pins σ H1 J1 r S1 s1->Mt X pins σ H1 J1 (k c S1) Q E->Q' (.bool c) s1):wpAny (model X.prog X.w) X.A (eval a X.env) Q' E s:=by
 refine ha pins s σ H J r S _ E I ?_;unfold ao M.bind at m;cases e:fa r S with
 |bad=>rw[e] at m;exact m
 |exc c S1=>rw[e] at m;exact m
 |ok x S1=>
  rw[e] at m;intro u s' ⟨vx,H1,I1,r1,J1,ex,rs,rv⟩;cases x with
  |bl b=>
   cases rv.Nt;cases r1;exact hk b S1 s' H1 J1 ⟨I1,I.loc.ext ex,rs⟩ (Mt.ext ex m)
  |_=>exact m.elim
theorem nW{op}(h:Fn X a fa):Fn X (.BoolOp op [a] pos) fa:=fun pins s σ H J r S Q E I m=>BoolOp_one (h pins s σ H J r S Q E I m)
theorem kP(ha:Fn X a fa)(hb:Fn X (.BoolOp .And (b :: rest) pos) fb):Fn X (.BoolOp .And (a :: b :: rest) pos) (jK fa fb):=by
 intro pins s σ H J r S Q E I m;refine BoolOp_and (VX ha I m fun c S1 s1 H1 J1 I1 m1=>wpAny_truthy_bool ?_);cases c with
 |true=>exact hb pins s1 σ H1 J1 r S1 Q E I1 m1
 |false=>exact m1.Hl I1.inv I1.st (r_.bl _ _ _ false) rfl
theorem zG(ha:Fn X a fa):Fn X (.UnaryOp .Not a pos) (xb fa):=by
 intro pins s σ H J r S Q E I m;exact UnaryOp_ (VX ha I m fun c S1 s1 H1 J1 I1 m1=>not_of (wpAny_truthy_bool (m1.Hl I1.inv I1.st (r_.bl _ _ _ (!c)) rfl)))
def Qy(t:tB->M Bool)(fa fb:tB->M D):tB->M D:=fun r=>(t r).bind fun c=>if c=true then fa r else fb r
theorem Eg{t:Sem Bool}{f:M Bool}{k:Bool->M D}{pins:EK}{s:Shared}{σ:L2.St}{H:Hp}{J:List Addr}{r:tB}{S:List Cell}{Q:Value->Shared->Prop}{Q':Bool->Shared->Prop}{E:Value->Shared->Prop}(I:At X pins σ H J r S s)
  (ha:∀Q1,Lo X pins σ H J (f S) Q1 E->wpAny (model X.prog X.w) X.A t Q1 E s) (m:Mt X pins σ H J (f.bind k S) Q E)
  (hk:∀c S1 s1 H1 J1,At X pins σ H1 J1 r S1 s1->Mt X pins σ H1 J1 (k c S1) Q E->Q' c s1):wpAny (model X.prog X.w) X.A t Q' E s:=by
 refine ha _ ?_;unfold M.bind at m;cases e:f S with
 |bad=>rw[e] at m;exact m
 |exc c S1=>rw[e] at m;exact m
 |ok x S1=>
  rw[e] at m;intro s' ⟨H1,I1,J1,ex,rs⟩;exact hk x S1 s' H1 J1 ⟨I1,I.loc.ext ex,rs⟩ (Mt.ext ex m)
theorem zz{c:Expr}(hc:L1 X c tA)(ha:Fn X a fa)(hb:Fn X b fb):Fn X (.IfExp c a b pos) (Qy tA fa fb):=by
 intro pins s σ H J r S Q E I m;refine wpAny_IfExp (Eg (r:=r) I (fun Q1=>hc pins s σ H J r S Q1 E I) m fun d S1 s1 H1 J1 I1 m1=>?_);cases d with
 |true=>exact ha pins s1 σ H1 J1 r S1 Q E I1 m1
 |false=>exact hb pins s1 σ H1 J1 r S1 Q E I1 m1
def nO(g g':D->D->M D)(fa fb fc:tB->M D):tB->M D:=fun r=>(fa r).bind fun x=>(fb r).bind fun y=>((g x y).bind O6).bind fun k=>if k=true then (fc r).bind fun z=>g' y z else M.ret (.bl false)
end
end DL
namespace DL
open PySem PySem.Spec PyProof.Rows L2
section
variable{X:Cx}{a b c:Expr}{fa fb fc:tB->M D}{pos:Pos}
theorem qB{op KW:CmpOp}{g g':D->D->M D}(ho:Io X (compareOp op) g)(Ls:Io X (compareOp KW) g')(ha:Fn X a fa)(hb:Fn X b fb)(hc:Fn X c fc)
  (hm:lastMarks [op,KW] [b,c]=false:=by with_unfolding_all rfl):Fn X (.Compare a [op,KW] [b,c] pos) (nO g g' fa fb fc):=by
 intro pins s σ H J r S Q E I m;refine Compare_chain (ha pins s σ H J r S _ E I ?_) hm;unfold nO M.bind at m;cases e1:fa r S with
 |bad=>rw[e1] at m;exact m
 |exc c S1=>rw[e1] at m;exact m
 |ok x S1=>
  rw[e1] at m;intro v s1 ⟨vx,H1,I1,r1,J1,Hk,Hz,GY⟩;refine chain_link (hb pins s1 σ H1 J1 r S1 _ E ⟨I1,I.loc.ext Hk,Hz⟩ ?_);have m:=Mt.ext Hk m;dsimp only at m;cases e2:fb r S1 with
  |bad=>rw[e2] at m;exact m
  |exc c S2=>rw[e2] at m;exact m
  |ok y S2=>
   rw[e2] at m;intro u s2 ⟨vy,H2,I2,r2,J2,Jt,Ih,Kn⟩;have m:=Mt.ext Jt m;dsimp only at m;refine ho pins s2 σ H2 J2 S2 x y vx vy v u _ E I2 Ih (GY.ext Jt) Kn r1 r2 ?_;cases e3:g x y S2 with
   |bad=>rw[e3] at m;exact m
   |exc c S3=>rw[e3] at m;exact m
   |ok z S3=>
    rw[e3] at m;intro w s3 ⟨vz,H3,I3,r3,J3,PS,OA,Qz⟩;have m:=Mt.ext PS m;dsimp only at m;cases z with
    |bl k=>
     cases Qz.Nt;cases r3;refine wpAny_truthy_bool ?_;cases k with
     |false=>exact ite_ff (m.Hl I3 OA (r_.bl _ _ _ false) rfl)
     |true=>
      refine ite_tt (chain_last (hc pins s3 σ H3 J3 r S3 _ E ⟨I3,((I.loc.ext Hk).ext Jt).ext PS,OA⟩ ?_));simp only[O6,if_true,M.bind] at m;cases e4:fc r S3 with
      |bad=>rw[e4] at m;exact m
      |exc c S4=>rw[e4] at m;exact m
      |ok z S4=>
       rw[e4] at m;intro w s4 ⟨vz,H4,I4,r4,J4,VY,XH,Sw⟩;exact Ls pins s4 σ H4 J4 S4 y z vy vz u w _ E I4 XH ((Kn.ext PS).ext VY) Sw r2 r4 (Mt.ext VY m)
    |_=>exact m.elim
def ai:tB->M (List D):=fun _=>M.ret []
def ac(f:tB->M D)(g:tB->M (List D)):tB->M (List D):=fun r=>(f r).bind fun x=>(g r).bind fun xs=>M.ret (x :: xs)
variable{e:Expr}{es:List Expr}{fe:tB->M D}{ft:tB->M (List D)}
theorem ah:KU X [] ai:=fun _ pins s σ H J r S Q E I m=>Calls.spliced_nil (m [] s ⟨[],H,I.inv,.nil,J,Ext.refl _ _,I.st,.nil⟩)
theorem af(ha:Fn X e fe)(hr:KU X es ft)(hs:starEach (e :: es) X.env=(false,eval e X.env) :: starEach es X.env:=by rfl):KU X (e :: es) (ac fe ft):=by
 intro pos pins s σ H J r S Q E I m;rw[hs];show wpAny _ _ (spliced ((false,eval e X.env) :: backTo pos (starEach es X.env))) _ _ s;refine Calls.spliced_cons (ha pins s σ H J r S _ E I ?_);unfold ac M.bind at m;cases e1:fe r S with
 |bad=>rw[e1] at m;exact m
 |exc c S1=>rw[e1] at m;exact m
 |ok x S1=>
  rw[e1] at m;intro v s1 ⟨vx,H1,I1,r1,J1,Hk,Hz,GY⟩;refine hr pos pins s1 σ H1 J1 r S1 _ E ⟨I1,I.loc.ext Hk,Hz⟩ ?_;have m:=Qw.ext Hk m;dsimp only at m;cases e2:ft r S1 with
  |bad=>rw[e2] at m;exact m
  |exc c S2=>rw[e2] at m;exact m
  |ok xs S2=>
   rw[e2] at m;intro us s2 ⟨vs,H2,I2,r2,J2,Jt,Ih,Kn⟩;exact m (v :: us) s2 ⟨vx :: vs,H2,I2,.cons r1 r2,J2,Jt,Ih,.cons (GY.ext Jt) Kn⟩
theorem Rp(h:KU X es ft){k:List D->M D}{pins:EK}{s:Shared}{σ:L2.St}{H:Hp}{J:List Addr}{r:tB}{S:List Cell}{Q E:Value->Shared->Prop}{Q':List Value->Shared->Prop}(I:At X pins σ H J r S s)
  (m:Mt X pins σ H J ((ft r).bind k S) Q E) (hk:∀xs S1 s1 H1 J1 vs us,At X pins σ H1 J1 r S1 s1->k_ X.K H1 J1 xs vs->Vals vs us->Mt X pins σ H1 J1 (k xs S1) Q E->Q' us s1) (pos:Pos) :
  wpAny (model X.prog X.w) X.A (spliced (backTo pos (starEach es X.env))) Q' E s:=by
 refine h pos pins s σ H J r S _ E I ?_;unfold M.bind at m;cases e1:ft r S with
 |bad=>rw[e1] at m;exact m
 |exc c S1=>rw[e1] at m;exact m
 |ok x S1=>
  rw[e1] at m;intro us s1 ⟨vs,H1,I1,r1,J1,Hk,Hz,GY⟩;exact hk x S1 s1 H1 J1 vs us ⟨I1,I.loc.ext Hk,Hz⟩ GY r1 (Mt.ext Hk m)
def nr(xs:List D):M D:=fun S=>Ha (xs.length<=sizeLine) (.ok (.tup xs) S) .bad
def nZ(xs:List D):M D:=fun S=>Ha (xs.length<=sizeLine) (.ok (.ob S.length) (S++[.lst xs])) .bad
theorem Got.tup{K:PySem.W.Frag}{H:Hp}{J:List Addr}{S:List Cell}{xs:List D}{vs:List V}{p:Addr}(rs:EM K H J S)(rv:k_ K H J xs vs)(hp:H p=none):Got K H J (.tup xs) S (.ref p) (upd H p (.tup vs)):=
 ⟨J,Ext.new hp,rs.new hp,.tup (Hi.of bB) (rv.ext (Ext.new hp))⟩
theorem Got.lst{K:PySem.W.Frag}{H:Hp}{J:List Addr}{S:List Cell}{xs:List D}{vs:List V}{p:Addr}(rs:EM K H J S)(rv:k_ K H J xs vs)(hp:H p=none):Got K H J (.ob S.length) (S++[.lst xs]) (.ref p) (upd H p (.lst vs)):=
 ⟨J++[p],(Ext.new hp).snoc _,rs.push hp ⟨vs,bB,rv.ext ((Ext.new hp).snoc _)⟩,.ob (by rw[<-rs.len];simp)⟩
theorem Mt.val{pins:EK}{s:Shared}{σ:L2.St}{H H':Hp}{J:List Addr}{S:List Cell}{d:D}{v:V}{u:Value}{Q E:Value->Shared->Prop}(m:Mt X pins σ H J (.ok d S) Q E)(I:Inv X pins σ H' s)(r:RelV v u)(g:Got X.K H J d S v H'):Q u s:=
 m u s ⟨v,H',I,r,g⟩
def cj(ft:tB->M (List D)):tB->M D:=fun r=>(ft r).bind nr
def bT(ft:tB->M (List D)):tB->M D:=fun r=>(ft r).bind nZ
theorem b9{x1}(h:KU X es ft):Fn X (.Tuple es x1 pos) (cj ft):=by
 intro pins s σ H J r S Q E I m;refine wpAny_Tuple_spliced (Rp h I m (fun xs S1 s1 H1 J1 vs us I1 rv r1 m1=>?_) pos);unfold nr Ha at m1;split at m1
 ·rename_i z;have z':vs.length<=sizeLine:=by rw[rv.length];exact z
  refine⟨by rw[<-r1.length];exact z',?_⟩;have hf:H1 s1.heap.objs.size=none:=I1.inv.EW.fresh (Nat.le_refl _);refine m1.val (H':=upd H1 s1.heap.objs.size (.tup vs)) (v:=.ref s1.heap.objs.size) (I1.inv.laid (t':=s1.toks) (fun b u e=>Heap.get?_push_of_some _ e) (Nat.le_refl _) ?_) rfl (Got.tup I1.st rv hf);exact⟨z',us,r1,⟨_,Heap.get?_push_size _ rfl,rfl,_,rfl⟩⟩
 ·exact m1.elim
theorem b8(h:KU X es ft):Fn X (.List es pos) (bT ft):=by
 intro pins s σ H J r S Q E I m;refine wpAny_List_spliced (Rp h I m (fun xs S1 s1 H1 J1 vs us I1 rv r1 m1=>?_) pos);unfold nZ Ha at m1;split at m1
 ·rename_i z;have z':vs.length<=sizeLine:=by rw[rv.length];exact z
  refine⟨by rw[<-r1.length];exact z',?_⟩;have hf:H1 s1.heap.objs.size=none:=I1.inv.EW.fresh (Nat.le_refl _);refine m1.val (H':=upd H1 s1.heap.objs.size (.lst vs)) (v:=.ref s1.heap.objs.size) (I1.inv.laid (t':=s1.toks) (fun b u e=>Heap.get?_push_of_some _ e) (Nat.le_refl _) ?_) rfl (Got.lst I1.st rv hf);exact⟨z',us,0,r1,Heap.get?_push_size _ rfl⟩
 ·exact m1.elim
def PU(X:Cx)(g:D->D->M D):Prop:=∀(value slice:Expr) (pins:EK) (s:Shared) (σ:L2.St) (H:Hp) (J:List Addr) (S:List Cell) (x y:D) (vx vy:V) (v u:Value) (Q E:Value->Shared->Prop),
 Inv X pins σ H s->EM X.K H J S->r_ X.K H J x vx->r_ X.K H J y vy->RelV vx v->RelV vy u->subscripted slice false v u=operate [v,u] (getItem v u)->Mt X pins σ H J (g x y S) Q E->wpAny (model X.prog X.w) X.A (subscriptTail value slice v u) Q E s
theorem PU.of{r:R2}{g:D->D->M D}(h:∀E,O1 (X.E8 E) r)
  (hg:∀(H:Hp) (J:List Addr) (S:List Cell) (x y:D) (vx vy:V) (d:D) (S':List Cell),EM X.K H J S->r_ X.K H J x vx->r_ X.K H J y vy->g x y S=.ok d S'->r vx vy H (Got X.K H J d S'))
  (hn:∀x y S c S',g x y S≠.exc c S'):PU X g:=by
 intro value slice pins s σ H J S x y vx vy v u Q E I rs rx ry rv ru hs m;cases e:g x y S with
 |ok d S'=>
  rw[e] at m;exact wpAny_mono (h E value slice pins s σ H vx vy v u _ (I.E8 E) rv ru (hg H J S x y vx vy d S' rs rx ry e) hs) (fun u s' q=>m u s' (EP.E5 q)) fun _ _ z=>z
 |exc c S'=>exact absurd e (hn _ _ _ _ _)
 |bad=>rw[e] at m;exact m.elim
theorem aL{g:D->D->M D}(hr:PU X g)(ha:Fn X a fa)(hb:Fn X b fb)(hs:Bs b):Fn X (.Subscript a b pos) (g_ g fa fb):=by
 intro pins s σ H J r S Q E I m;refine Subscript_ (ha pins s σ H J r S _ E I ?_);unfold g_ M.bind at m;cases e:fa r S with
 |bad=>rw[e] at m;exact m
 |exc c S1=>rw[e] at m;exact m
 |ok x S1=>
  rw[e] at m;intro u s' ⟨vx,H1,I1,r1,J1,ex,rs,rv⟩;refine hb pins s' σ H1 J1 r S1 _ E ⟨I1,I.loc.ext ex,rs⟩ ?_;dsimp only at m;have m:=Mt.ext ex m;cases e2:fb r S1 with
  |bad=>rw[e2] at m;exact m
  |exc c S2=>rw[e2] at m;exact m
  |ok y S2=>
   rw[e2] at m;intro u2 s2 ⟨vy,H2,I2,r2,J2,Jt,Ih,Kn⟩;exact hr a b pins s2 σ H2 J2 S2 x y vx vy u u2 Q E I2 Ih (rv.ext Jt) Kn r1 r2 (hs _ _) (Mt.ext Jt m)
def XJ(X:Cx)(pins:EK)(σ:L2.St)(H:Hp)(J:List Addr)(r:R (Option Int))(Q:Value->Shared->Prop)(E:Value->Shared->Prop):Prop:=match r with
 |.ok o S'=>∀u s' H',Inv X pins σ H' s'->HN X.K H J S' H'->IsPart u o->Q u s'
 |.exc c S'=>∀e s',XP X pins σ c (HN X.K H J S') e s'->E e s'
 |.bad=>False
def Rq(X:Cx)(e:Option Expr)(f:tB->M (Option Int)):Prop:=∀(pins:EK) (s:Shared) (σ:L2.St) (H:Hp) (J:List Addr) (r:tB) (S:List Cell) (Q E:Value->Shared->Prop),
 At X pins σ H J r S s->XJ X pins σ H J (f r S) Q E->wpAny (model X.prog X.w) X.A (evalPart e X.env) Q E s
def bE:tB->M (Option Int):=fun _=>M.ret none
def zI:D->M (Option Int)
 |.int i=>M.ret (some i)
 |_=>M.bad
def bF(f:tB->M D):tB->M (Option Int):=fun r=>(f r).bind zI
theorem gm:Rq X none bE:=by
 intro pins s σ H J r S Q E I m;rw[evalPart_none];exact wpAny_pure (m .none s H I.inv ⟨J,Ext.refl _ _,I.st⟩ .none)
theorem du(h:Fn X e fe):Rq X (some e) (bF fe):=by
 intro pins s σ H J r S Q E I m;rw[evalPart_some];refine h pins s σ H J r S _ E I ?_;unfold bF M.bind at m;cases e1:fe r S with
 |bad=>rw[e1] at m;exact m
 |exc c S1=>rw[e1] at m;exact m
 |ok x S1=>
  rw[e1] at m;intro u s' ⟨vx,H1,I1,r1,J1,ex,rs,rv⟩;cases x with
  |int i=>
   cases rv.FY;obtain⟨t,rfl⟩:=r1;exact m _ s' H1 I1 ⟨J1,ex,rs⟩ (.int i t)
  |_=>exact m.elim
def VZ(X:Cx)(g:D->Option Int->Option Int->M D):Prop:=∀(pins:EK) (s:Shared) (σ:L2.St) (H:Hp) (J:List Addr) (S:List Cell) (x:D) (vx:V) (v vl vu:Value) (lo hi:Option Int) (sl:Addr) (Q E:Value->Shared->Prop),
 Inv X pins σ H s->EM X.K H J S->r_ X.K H J x vx->RelV vx v->s.heap.IsSliceOf sl vl vu .none->IsPart vl lo->IsPart vu hi->Mt X pins σ H J (g x lo hi S) Q E->
  ∃T id,typeLookup (.type T) "__getitem__"=pure (some (.builtin id))/\s.TypeIs v T/\wpAny (model X.prog X.w) X.A (getItem v (.ref sl)) Q E s
def Hb(g:D->Option Int->Option Int->M D)(fe:tB->M D)(fl fh:tB->M (Option Int)):tB->M D:=fun r=>(fe r).bind fun x=>(fl r).bind fun l=>(fh r).bind fun h=>g x l h
theorem el{g:D->Option Int->Option Int->M D}{lo hi:Option Expr}{fl fh:tB->M (Option Int)}{p2:Pos}(hr:VZ X g)(he:Fn X e fe)(hl:Rq X lo fl)(hu:Rq X hi fh):Fn X (.Subscript e (.Slice lo hi none p2) pos) (Hb g fe fl fh):=by
 intro pins s σ H J r S Q E I m;refine Subscript_ (he pins s σ H J r S _ E I ?_);unfold Hb M.bind at m;cases e1:fe r S with
 |bad=>rw[e1] at m;exact m
 |exc c S1=>rw[e1] at m;exact m
 |ok x S1=>
  rw[e1] at m;intro v s1 ⟨vx,H1,I1,r1,J1,Hk,Hz,GY⟩;refine wpAny_Slice (hl pins s1 σ H1 J1 r S1 _ E ⟨I1,I.loc.ext Hk,Hz⟩ ?_);have m:=Mt.ext Hk m;dsimp only at m;cases e2:fl r S1 with
  |bad=>rw[e2] at m;exact m
  |exc c S2=>rw[e2] at m;exact m
  |ok l S2=>
   rw[e2] at m;intro vl s2 H2 I2 ⟨J2,Jt,Ih⟩ pl;have m:=Mt.ext Jt m;dsimp only at m;refine hu pins s2 σ H2 J2 r S2 _ E ⟨I2,(I.loc.ext Hk).ext Jt,Ih⟩ ?_;cases e3:fh r S2 with
   |bad=>rw[e3] at m;exact m
   |exc c S3=>rw[e3] at m;exact m
   |ok u S3=>
    rw[e3] at m;intro vu s3 H3 I3 ⟨J3,PS,OA⟩ pu;have m:=Mt.ext PS m;rw[evalPart_none];refine wpAny_pure ?_;have I4:Inv X pins σ H3 { s3 with heap:=s3.heap.push { cls:=.type "slice",data:=.fields #[vl,vu,.none] } }:=I3.kept (t':=s3.toks) fun b ob q=>Heap.get?_push_of_some _ q
    obtain⟨T,id,hT,ht,hg⟩:=hr pins { s3 with heap:=s3.heap.push { cls:=.type "slice",data:=.fields #[vl,vu,.none] } } σ H3 J3 S3 x vx v vl vu l u s3.heap.objs.size Q E I4 OA ((GY.ext Jt).ext PS) r1 (Heap.IsSliceOf.new ..) pl pu m;show wpAny (model X.prog X.w) X.A (subscriptTail e (.Slice lo hi none p2) v (.ref s3.heap.objs.size)) Q E { s3 with heap:=s3.heap.push { cls:=.type "slice",data:=.fields #[vl,vu,.none] } };exact tail_any (ops:=[.ref s3.heap.objs.size,v]) ht hT hg (by with_unfolding_all rfl)
def al(g:List D->M D)(ft:tB->M (List D)):tB->M D:=fun r=>(ft r).bind g
theorem bA{x:Str}{p:Pos}{id:String}{g:List D->M D}(hc:Gy X (.builtin id) g)(hg:Gl X x)(hm:X.mg x=none)(hv:bootBuiltins x=some (.builtin id))(ha:KU X (e :: es) ft)(hn:x≠"__name__":=by decide)(Mh:(x == ("__debug__":Str))=false:=by decide)
  (he:starEach (e :: es) X.env=(false,eval e X.env) :: starEach es X.env:=by rfl) (K3:(backTo pos (starEach es X.env)).any (·.1)=false:=by rfl):Fn X (.Call (.Name x p) (e :: es) [] pos) (al g ft):=by
 intro pins s σ H J r S Q E I m;refine wpAny_Call_Name_kw (kK I.inv hg hm hv ?_ hn Mh);exact PyProof.Rows.callWith_builtin1 (Rp ha I m (fun xs S1 s1 H1 J1 vs us I1 rv r1 m1=>hc pins s1 σ H1 J1 S1 xs vs us Q E I1.inv I1.st rv r1 m1) pos) he K3
theorem fL{x:Str}{p:Pos}{T:String}{g:List D->M D}(hc:Gy X (.type T) g)(hg:Gl X x)(hm:X.mg x=none)(hv:bootBuiltins x=some (.type T))(ha:KU X (e :: es) ft)(hn:x≠"__name__":=by decide)(Mh:(x == ("__debug__":Str))=false:=by decide)
  (he:starEach (e :: es) X.env=(false,eval e X.env) :: starEach es X.env:=by rfl) (K3:(backTo pos (starEach es X.env)).any (·.1)=false:=by rfl):Fn X (.Call (.Name x p) (e :: es) [] pos) (al g ft):=by
 intro pins s σ H J r S Q E I m;refine wpAny_Call_Name_kw (kK I.inv hg hm hv ?_ hn Mh);exact PyProof.Rows.callWith_type1 (Rp ha I m (fun xs S1 s1 H1 J1 vs us I1 rv r1 m1=>hc pins s1 σ H1 J1 S1 xs vs us Q E I1.inv I1.st rv r1 m1) pos) he K3
def V0(K:PySem.W.Frag)(n:Nat)(F:List D->M D):Sp:=fun vs H Q E=>vs.length=n/\∃J xs S,k_ K H J xs vs/\EM K H J S/\match F xs S with
 |.ok d S'=>∀v H',Got K H J d S' v H'->Q v H'
 |.exc c S'=>∀H',HN K H J S' H'->E (.ref c) none H'
 |.bad=>False
def oy(CX:Ir)(X:Cx):Prop:=∀(E0:XK) (pins:EK) (σ:L2.St) (H:Hp) (s:Shared) (e:Value) (s':Shared),Inv X pins σ H s->CX X.stack H s E0 e s'->∃c H',NL X pins σ H' s' e c/\E0 (.ref c) none H'
abbrev FK(P:Program)(w:World)(K:PySem.W.Frag)(mg:Str->Option Value)(base:Heap)(CX:Ir)(k:Nat)(f:Addr)(fd:FuncData)(ps:List Str)(F:List D->M D):Prop:=Ia P w K mg base CX k f fd ps (V0 K ps.length F)
theorem tm{CX:Ir}{k:Nat}{f:Addr}{fd:FuncData}{ps:List Str}{F:List D->M D}{pins:EK}{σ:L2.St}{H:Hp}{J:List Addr}{S:List Cell}{s:Shared}{Q E:Value->Shared->Prop}{xs:List D}{vs:List V}{us:List Value}
  (hF:FK X.prog X.w X.K X.mg X.base CX k f fd ps F) (hr:FX k X.A) (hb:Binds X.K fd ps []) (hx:oy CX X) (I:Inv X pins σ H s) (rs:EM X.K H J S) (rx:k_ X.K H J xs vs) (rv:Vals vs us) (hl:xs.length=ps.length)
  (m:Mt X pins σ H J (F xs S) Q E):wpAny (model X.prog X.w) X.A (call (.ref f) us) Q E s:=by
 have hlen:(us++[]).length=ps.length:=by rw[List.append_nil,<-rv.length,rx.length];exact hl
 have NO:=hb s us I.IS hlen;rw[List.append_nil] at NO;refine wpAny_call (codeAny_mono (hF.run X.A X.stack s H ⟨us,[]⟩ us vs (fun v H'=>∃d S',F xs S=.ok d S'/\Got X.K H J d S' v H') (fun cl _ H'=>∃c S',F xs S=.exc c S'/\cl=.ref c/\HN X.K H J S' H') hr I.Qo NO rv ?_) fun rr s' hq=>?_)
 ·refine⟨by rw[rx.length];exact hl,J,xs,S,rx,rs,?_⟩;cases e:F xs S with
  |ok d S'=>exact fun v H' g=>⟨d,S',rfl,g⟩
  |exc c S'=>exact fun H' g=>⟨c,S',rfl,rfl,g⟩
  |bad=>rw[e] at m;exact m
 ·cases rr with
  |error e=>
   obtain⟨c,H',XI,c',S',e1,e2,g⟩:=hx _ pins σ H s e s' I hq;cases e2;rw[e1] at m;exact m e s' ⟨H',XI,g⟩
  |ok fl=>
   cases fl with
   |ret u=>
    obtain⟨v,H',I',r',d,S',e1,g⟩:=I.after hq;rw[e1] at m;exact m u s' ⟨v,H',I',r',g⟩
   |next=>exact False.elim hq
   |brk=>exact False.elim hq
   |cont=>exact False.elim hq
theorem AR{CX:Ir}{k:Nat}{f:Addr}{fd:FuncData}{ps:List Str}{F:List D->M D}{x:Str}{p:Pos}(hF:FK X.prog X.w X.K X.mg X.base CX k f fd ps F)(hr:FX k X.A)(hg:Gl X x)(hm:X.mg x=some (.ref f))(hk:PySem.W.keepIn X.K (.ref f)=true)
  (hb:Binds X.K fd ps []) (hx:oy CX X) (ha:KU X (e :: es) ft) (hl:∀r S xs S',ft r S=.ok xs S'->xs.length=ps.length)
  (Mh:(x == ("__debug__":Str))=false:=by decide) (he:starEach (e :: es) X.env=(false,eval e X.env) :: starEach es X.env:=by rfl) (K3:(backTo pos (starEach es X.env)).any (·.1)=false:=by rfl) :
  Fn X (.Call (.Name x p) (e :: es) [] pos) (al F ft):=by
 intro pins s σ H J r S Q E I m;refine wpAny_Call_Name_kw (kT I.inv hg hm ?_ Mh);refine PySem.W.callWith_K (h₀:=X.base) I.inv.ok.mod.PL hk ?_ he K3;refine ha pos pins s σ H J r S _ E I ?_;unfold al M.bind at m;cases e1:ft r S with
 |bad=>rw[e1] at m;exact m
 |exc c S1=>rw[e1] at m;exact m
 |ok xs S1=>
  rw[e1] at m;intro us s1 ⟨vs,H1,I1,r1,J1,Hk,Hz,GY⟩;exact⟨I1.IS,tm hF hr hb hx I1 Hz GY r1 (hl r S xs S1 e1) (Mt.ext Hk m)⟩
end
end DL
namespace DL
open PySem PySem.Spec PyProof.Rows L2
inductive Fl where
 |nx (r:tB)|rt (d:D)|bk (r:tB)|ct (r:tB)|xc (c:Addr) (r:tB)
abbrev Lp:=Option (Fl×List Cell)
abbrev E4:=tB->List Cell->Lp
def Jz(X:Cx)(pins:EK)(H:Hp)(J:List Addr)(x:Lp)(Q:Flow->Shared->Prop)(E:Value->Shared->Prop):Prop:=match x with
 |none=>False
 |some (.nx r',S')=>∀s' Fd H' J',At X pins Fd H' J' r' S' s'->Ext H J H' J'->Q .next s'
 |some (.bk r',S')=>∀s' Fd H' J',At X pins Fd H' J' r' S' s'->Ext H J H' J'->Q .brk s'
 |some (.ct r',S')=>∀s' Fd H' J',At X pins Fd H' J' r' S' s'->Ext H J H' J'->Q .cont s'
 |some (.rt d,S')=>∀u s' Fd,EP X pins Fd (Got X.K H J d S') u s'->Q (.ret u) s'
 |some (.xc c r',S')=>∀e s' Fd H' J',NL X pins Fd H' s' e c->Hj X.K H' J' r' Fd->EM X.K H' J' S'->Ext H J H' J'->E e s'
theorem Jz.ext{X:Cx}{pins:EK}{H H1:Hp}{J J1:List Addr}{x:Lp}{Q:Flow->Shared->Prop}{E:Value->Shared->Prop}(e:Ext H J H1 J1)(h:Jz X pins H J x Q E):Jz X pins H1 J1 x Q E:=by
 match x,h with
 |none,h=>exact h
 |some (.nx r',S'),h=>exact fun s' Fd H' J' a x=>h s' Fd H' J' a (e.trans x)
 |some (.bk r',S'),h=>exact fun s' Fd H' J' a x=>h s' Fd H' J' a (e.trans x)
 |some (.ct r',S'),h=>exact fun s' Fd H' J' a x=>h s' Fd H' J' a (e.trans x)
 |some (.rt d,S'),h=>exact fun u s' Fd ⟨v,H',I,rv,g⟩=>h u s' Fd ⟨v,H',I,rv,g.ext e⟩
 |some (.xc c r',S'),h=>exact fun u s' Fd H' J' a b c x=>h u s' Fd H' J' a b c (e.trans x)
def Lx(X:Cx)(st:Stmt)(t:E4):Prop:=∀(pins:EK) (s:Shared) (σ:L2.St) (H:Hp) (J:List Addr) (r:tB) (S:List Cell) (Q:Flow->Shared->Prop) (E:Value->Shared->Prop),
 At X pins σ H J r S s->Jz X pins H J (t r S) Q E->wpAny (model X.prog X.w) X.A (exec st X.env) Q E s
def n5(X:Cx)(st:List Stmt)(t:E4):Prop:=∀(pins:EK) (s:Shared) (σ:L2.St) (H:Hp) (J:List Addr) (r:tB) (S:List Cell) (Q:Flow->Shared->Prop) (E:Value->Shared->Prop),
 At X pins σ H J r S s->Jz X pins H J (t r S) Q E->wpAny (model X.prog X.w) X.A (execs st X.env) Q E s
def cu{α:Type}(m:M α)(r:tB)(k:α->List Cell->Lp):List Cell->Lp:=fun S=>match m S with
 |.ok a S'=>k a S'
 |.exc c S'=>some (.xc c r,S')
 |.bad=>none
def bC:E4:=fun r S=>some (.nx r,S)
def aI(t u:E4):E4:=fun r S=>match t r S with
 |some (.nx r',S')=>u r' S'
 |o=>o
section
variable{X:Cx}{st:Stmt}{rest:List Stmt}{t u:E4}{e:Expr}{fe:tB->M D}{pos:Pos}
theorem aW:n5 X [] bC:=fun pins s σ H J r S Q E I m=>wpAny_execs_nil (m s σ H J I (Ext.refl _ _))
theorem ar(h1:Lx X st t)(h2:n5 X rest u):n5 X (st :: rest) (aI t u):=by
 intro pins s σ H J r S Q E I m;refine wpAny_execs_cons (h1 pins s σ H J r S _ E I ?_);unfold aI at m
 match e:t r S with
 |none=>rw[e] at m;exact m
 |some (.nx r',S')=>
  rw[e] at m;exact fun s' Fd H' J' a x=>h2 pins s' Fd H' J' r' S' Q E a (Jz.ext x m)
 |some (.bk r',S')=>rw[e] at m;exact m
 |some (.ct r',S')=>rw[e] at m;exact m
 |some (.rt d,S')=>rw[e] at m;exact m
 |some (.xc c r',S')=>rw[e] at m;exact m
theorem am(h1:Lx X st t):n5 X [st] t:=by
 intro pins s σ H J r S Q E I m;refine wpAny_execs_cons (h1 pins s σ H J r S _ E I ?_)
 match e:t r S with
 |none=>rw[e] at m;exact m
 |some (.nx r',S')=>rw[e] at m;exact fun s' Fd H' J' a x=>wpAny_execs_nil (m s' Fd H' J' a x)
 |some (.bk r',S')=>rw[e] at m;exact m
 |some (.ct r',S')=>rw[e] at m;exact m
 |some (.rt d,S')=>rw[e] at m;exact m
 |some (.xc c r',S')=>rw[e] at m;exact m
theorem QA(he:Fn X e fe){k:D->List Cell->Lp}{pins:EK}{s:Shared}{σ:L2.St}{H:Hp}{J:List Addr}{r:tB}{S:List Cell}{Q:Flow->Shared->Prop}{E:Value->Shared->Prop}{Q':Value->Shared->Prop}(I:At X pins σ H J r S s)
  (m:Jz X pins H J (cu (fe r) r k S) Q E) (hk:∀x S1 v s1 vx H1 J1,At X pins σ H1 J1 r S1 s1->r_ X.K H1 J1 x vx->RelV vx v->Jz X pins H1 J1 (k x S1) Q E->Q' v s1) :
  wpAny (model X.prog X.w) X.A (eval e X.env) Q' E s:=by
 refine he pins s σ H J r S _ E I ?_;unfold cu at m;cases e1:fe r S with
 |bad=>rw[e1] at m;exact m
 |exc c S1=>
  rw[e1] at m;exact fun x s' ⟨H',XI,J',ex,rs⟩=>m x s' σ H' J' XI (I.loc.ext ex) rs ex
 |ok x S1=>
  rw[e1] at m;exact fun v s1 ⟨vx,H1,I1,r1,J1,ex,rs,rv⟩=>hk x S1 v s1 vx H1 J1 ⟨I1,I.loc.ext ex,rs⟩ rv r1 (Jz.ext ex m)
theorem Ef{te:tB->M Bool}(he:L1 X e te){k:Bool->List Cell->Lp}{pins:EK}{s:Shared}{σ:L2.St}{H:Hp}{J:List Addr}{r:tB}{S:List Cell}{Q:Flow->Shared->Prop}{E:Value->Shared->Prop}{Q':Bool->Shared->Prop}(I:At X pins σ H J r S s)
  (m:Jz X pins H J (cu (te r) r k S) Q E) (hk:∀b S1 s1 H1 J1,At X pins σ H1 J1 r S1 s1->Jz X pins H1 J1 (k b S1) Q E->Q' b s1) :
  wpAny (model X.prog X.w) X.A (isTrue e X.env (eval e X.env)) Q' E s:=by
 refine he pins s σ H J r S _ E I ?_;unfold cu at m;cases e1:te r S with
 |bad=>rw[e1] at m;exact m
 |exc c S1=>
  rw[e1] at m;exact fun x s' ⟨H',XI,J',ex,rs⟩=>m x s' σ H' J' XI (I.loc.ext ex) rs ex
 |ok x S1=>
  rw[e1] at m;exact fun s1 ⟨H1,I1,J1,ex,rs⟩=>hk x S1 s1 H1 J1 ⟨I1,I.loc.ext ex,rs⟩ (Jz.ext ex m)
def bz(fe:tB->M D):E4:=fun r=>cu (fe r) r fun _ S=>some (.nx r,S)
theorem aX(he:Fn X e fe)(hs:swapsWith e none pos.line X.env=pure false:=by rfl):Lx X (.Expr e pos) (bz fe):=by
 intro pins s σ H J r S Q E I m;exact wpAny_Expr_any (QA he I m fun x S1 v s1 vx H1 J1 I1 rv r1 m1=>m1 s1 σ H1 J1 I1 (Ext.refl _ _)) I.inv.quiet hs
def bK(fe:tB->M D):E4:=fun r=>cu (fe r) r fun d S=>some (.rt d,S)
theorem aV(he:Fn X e fe):Lx X (.Return (some e) pos) (bK fe):=by
 intro pins s σ H J r S Q E I m;exact wpAny_Return_some (QA he I m fun x S1 v s1 vx H1 J1 I1 rv r1 m1=>m1 v s1 σ ⟨vx,H1,I1.inv,r1,J1,Ext.refl _ _,I1.st,rv⟩)
def FF(c:tB->M Bool)(t u:E4):E4:=fun r=>cu (c r) r fun b S=>if b=true then t r S else u r S
theorem bu{c:Expr}{a b:List Stmt}{tc:tB->M Bool}(hc:L1 X c tc)(ha:n5 X a t)(hb:n5 X b u):Lx X (.If c a b pos) (FF tc t u):=by
 intro pins s σ H J r S Q E I m;refine wpAny_If (Ef hc I m fun d S1 s1 H1 J1 I1 m1=>?_);cases d with
 |true=>exact ha pins s1 σ H1 J1 r S1 Q E I1 m1
 |false=>exact hb pins s1 σ H1 J1 r S1 Q E I1 m1
abbrev Kp:=D->tB->Option tB
def OB(X:Cx)(tg:Expr)(t:Kp):Prop:=∀(pins:EK) (s:Shared) (σ:L2.St) (H:Hp) (J:List Addr) (r:tB) (S:List Cell) (d:D) (v:V) (u:Value) (Q:Unit->Shared->Prop) (E:Value->Shared->Prop) (r':tB),
 At X pins σ H J r S s->r_ X.K H J d v->RelV v u->t d r=some r'->(∀s' Fd H' J',At X pins Fd H' J' r' S s'->Ext H J H' J'->Q () s')->wpAny (model X.prog X.w) X.A (assign tg X.env u) Q E s
def gN(i:Nat):Kp:=fun d r=>some (r.set i (some d))
theorem cr{i:Nat}{x:Str}(hN:X.N.Nodup)(hi:X.N[i]?=some x:=by rfl)(hx:Loc X.env.scope x:=by first|exact Or.inl rfl|exact Or.inr rfl)(hf:X.fn x=true\/X.env.scope.names.lookup x=some .local:=by first|exact .inl rfl|exact .inr rfl|assumption):OB X (.Name x pos) (gN i):=by
 intro pins s σ H J r S d v u Q E r' I rv ru e k;cases e;refine wpAny_mono (Bw (X:=X.E8 E) hN hi hx hf pins s σ H v u (fun Fd H'=>Fd=σ.set i (some v)/\H'=H) (I.inv.E8 E) ru ⟨rfl,rfl⟩) (fun _ s' q=>?_) fun _ _ z=>z
 obtain⟨Fd,H',I',rfl,rfl⟩:=q;exact k s' _ _ J ⟨I'.E5,I.loc.set rv,I.st⟩ (Ext.refl _ _)
def OC:List Nat->List D->tB->Option tB
 |[],[],r=>some r
 |i :: is,d :: ds,r=>OC is ds (r.set i (some d))
 |_,_,_=>none
def gT(is:List Nat):Kp:=fun d r=>match d with
 |.tup ds=>OC is ds r
 |_=>none
def Ar(X:Cx)(ts:List Expr)(is:List Nat):Prop:=∀(pins:EK) (s:Shared) (σ:L2.St) (H:Hp) (J:List Addr) (r:tB) (S:List Cell) (ds:List D) (vs:List V) (us:List Value) (Q:Unit->Shared->Prop) (E:Value->Shared->Prop) (r':tB),
 At X pins σ H J r S s->k_ X.K H J ds vs->Vals vs us->OC is ds r=some r'->(∀s' Fd H' J',At X pins Fd H' J' r' S s'->Ext H J H' J'->Q () s')->wpAny (model X.prog X.w) X.A (assignInOrder ((assignEach ts X.env).map (·.2)) us) Q E s
theorem pa:Ar X [] []:=by
 intro pins s σ H J r S ds vs us Q E r' I rv ru e k;cases ds with
 |nil=>
  cases e;unfold k_ at rv;subst rv;cases ru;rw[show(assignEach [] X.env).map (·.2)=[] from rfl];exact assignInOrder_nil (k s σ H J I (Ext.refl _ _))
 |cons d ds=>cases e
theorem gj{ex:Expr}{es:List Expr}{i:Nat}{is:List Nat}(h1:OB X ex (gN i))(h2:Ar X es is)
  (hs:(assignEach (ex :: es) X.env).map (·.2)=assign ex X.env :: (assignEach es X.env).map (·.2):=by rfl):Ar X (ex :: es) (i :: is):=by
 intro pins s σ H J r S ds vs us Q E r' I rv ru e k;cases ds with
 |nil=>cases e
 |cons d ds=>
  unfold k_ at rv;obtain⟨v,vr,rfl,GY,Kn⟩:=rv;cases ru with
  |cons q1 q2=>
   rw[hs];refine assignInOrder_cons (h1 pins s σ H J r S d v _ _ E _ I GY q1 rfl fun s1 PV H1 J1 I1 x1=>?_);exact h2 pins s1 PV H1 J1 _ S ds vr _ Q E r' I1 (Kn.ext x1) q2 e fun s' Fd H' J' a x=>k s' Fd H' J' a (x1.trans x)
theorem wO:∀{is:List Nat}{ds:List D}{r r':tB},OC is ds r=some r'->ds.length=is.length
 |[],[],_,_,_=>rfl
 |i :: is,d :: ds,r,r',h=>by
  rw[List.length_cons,List.length_cons,wO (show OC is ds (r.set i (some d))=some r' from h)]
 |[],d :: ds,r,r',h=>by cases h
 |i :: is,[],r,r',h=>by cases h
end
end DL
namespace DL
open PySem PySem.Spec PyProof.Rows L2
section
variable{X:Cx}{st:Stmt}{rest:List Stmt}{t u:E4}{e:Expr}{fe:tB->M D}{pos:Pos}
theorem sK{es:List Expr}{k:Nat}{is:List Nat}(hc:X.calm=true)(h:Ar X es is)(hn:(assignEach es X.env).length=is.length:=by rfl)(Gz:(assignEach es X.env).findIdx? (·.1)=none:=by rfl):OB X (.Tuple es k pos) (gT is):=by
 intro pins s σ H J r S d v u Q E r' I rv ru e k;cases d with
 |tup ds=>
  obtain⟨a,vs,rfl,hq,Fg⟩:=rv.HP;cases ru;obtain⟨u_,rel,ht,hz⟩:=I.inv.tuple hq;have e':OC is ds r=some r':=e;have hl:=wO e';refine assign_Tuple_tuple (I.inv.ok.hd hc) ht (by simp[hn,<-hl,<-Fg.length,rel.length]) Gz fun h' hx=>?_
  have I1:Inv X pins σ H { s with heap:=h' }:=I.inv.kept (t':=s.toks) fun b o e=>hx b o (Nat.ne_of_lt (Heap.lt_size e)) e
  exact h pins _ σ H J r S ds vs _ Q E r' ⟨I1,I.loc,I.st⟩ Fg (by simpa using rel) e' k
 |_=>cases e
def cn(fe:tB->M D)(g:Kp):E4:=fun r=>cu (fe r) r fun d S=>match g d r with
 |some r'=>some (.nx r',S)
 |none=>none
theorem bD{i:Nat}{x:Str}{pos':Pos}(hN:X.N.Nodup)(he:Fn X e fe)(hi:X.N[i]?=some x:=by rfl)(hx:Loc X.env.scope x:=by first|exact Or.inl rfl|exact Or.inr rfl)(hs:swapsWith e (some (.Name x pos')) pos.line X.env=pure false:=by rfl)
  (hf:X.fn x=true\/X.env.scope.names.lookup x=some .local:=by first|exact .inl rfl|exact .inr rfl|assumption):Lx X (.Assign [.Name x pos'] e pos) (cn fe (gN i)):=by
 intro pins s σ H J r S Q E I m;refine wpAny_Assign_Name (QA he I m fun d S1 v s1 vx H1 J1 I1 rv r1 m1=>?_) hs;exact ve I1.inv hN hi hx r1 (fun s2 I2=>m1 s2 _ H1 J1 ⟨I2,I1.loc.set rv,I1.st⟩ (Ext.refl _ _)) hf
theorem CG{tg:Expr}{g:Kp}(he:Fn X e fe)(hg:OB X tg g)(hs:swapsWithSole [tg] e pos.line X.env=pure false:=by rfl)(hw:swappedStores [tg] e X.env=pure none:=by rfl)
  (h1:(assignEach [tg] X.env).map (·.2)=[assign tg X.env]:=by rfl):Lx X (.Assign [tg] e pos) (cn fe g):=by
 intro pins s σ H J r S Q E I m;refine wpAny_Assign_stores (QA he I m fun d S1 v s1 vx H1 J1 I1 rv r1 m1=>?_) hs hw;rw[h1];cases eg:g d r with
 |none=>rw[eg] at m1;exact m1.elim
 |some r'=>
  rw[eg] at m1;exact hg pins s1 σ H1 J1 r S1 d vx v _ E r' I1 rv r1 eg fun s' Fd H' J' a x=>m1 s' Fd H' J' a x
def fO(c:tB->M Bool)(b:E4):Nat->E4
 |0=>fun _ _=>none
 |n+1=>fun r S=>match c r S with
  |.ok true S1=>(match b r S1 with
   |some (.nx r',S')=>fO c b n r' S'
   |some (.ct r',S')=>fO c b n r' S'
   |some (.bk r',S')=>some (.nx r',S')
   |some (.rt d,S')=>some (.rt d,S')
   |_=>none)
  |.ok false S1=>some (.nx r,S1)
  |_=>none
theorem vc{c:Expr}{body:List Stmt}{tc:tB->M Bool}{tb:E4}(n:Nat)(hc:L1 X c tc)(hb:n5 X body tb):Lx X (.While c body [] pos) (fO tc tb n):=by
 intro pins s σ H J r S Q E I m;refine wpAny_While (codeAny_whileLoop (fun k s'=>∃Fd H' J' r' S',At X pins Fd H' J' r' S' s'/\Ext H J H' J'/\Jz X pins H J (fO tc tb k r' S') Q E) ?_ n ⟨σ,H,J,r,S,I,Ext.refl _ _,m⟩);rintro k s1 ⟨PV,H1,J1,r1,S1,I1,x1,m1⟩;cases k with
 |zero=>exact m1.elim
 |succ k=>
  refine hc pins s1 PV H1 J1 r1 S1 _ _ I1 ?_;unfold fO at m1;cases ec:tc r1 S1 with
  |bad=>rw[ec] at m1;exact m1.elim
  |exc c S2=>rw[ec] at m1;exact m1.elim
  |ok k2 S2=>
   rw[ec] at m1;rintro s2 ⟨H2,I2,J2,x2,Ih⟩;cases k2 with
   |false=>
    rw[if_neg Bool.false_ne_true];exact wpAny_execs_nil (m1 s2 PV H2 J2 ⟨I2,I1.loc.ext x2,Ih⟩ (x1.trans x2))
   |true=>
    rw[if_pos rfl];refine hb pins s2 PV H2 J2 r1 S2 _ _ ⟨I2,I1.loc.ext x2,Ih⟩ ?_;dsimp only at m1
    match eb:tb r1 S2 with
    |none=>rw[eb] at m1;exact m1.elim
    |some (.nx r',S')=>
     rw[eb] at m1;exact fun s' Fd H' J' a x=>⟨k,Nat.lt_succ_self _,Fd,H',J',r',S',a,(x1.trans x2).trans x,m1⟩
    |some (.ct r',S')=>
     rw[eb] at m1;exact fun s' Fd H' J' a x=>⟨k,Nat.lt_succ_self _,Fd,H',J',r',S',a,(x1.trans x2).trans x,m1⟩
    |some (.bk r',S')=>
     rw[eb] at m1;exact fun s' Fd H' J' a x=>m1 s' Fd H' J' a ((x1.trans x2).trans x)
    |some (.rt d,S')=>
     rw[eb] at m1;exact fun u s' Fd ⟨v,H',I',rv,g⟩=>m1 u s' Fd ⟨v,H',I',rv,g.ext (x1.trans x2)⟩
    |some (.xc c r',S')=>rw[eb] at m1;exact m1.elim
structure Wk where
 items:List D
 guard:Option (Nat×List D):=none
def IH:Option (Nat×List D)->List Cell->Prop
 |none,_=>True
 |some (n,xs),S=>S[n]?=some (.lst xs)
def GQ(K:PySem.W.Frag)(it:It)(w:Wk)(H0:Hp)(J0:List Addr):Prop:=∀(H:Hp) (J:List Addr) (S:List Cell),Ext H0 J0 H J->EM K H J S->IH w.guard S->
 (∀i,i<w.items.length->it.go i H)/\it.stop w.items.length H/\
 ∀i x H',it.VM i H x H'->∀d,w.items[i]?=some d->∃J',Ext H J H' J'/\EM K H' J' S/\r_ K H' J' d x
def L3(X:Cx)(pins:EK)(σ:L2.St)(H:Hp)(J:List Addr)(tg:Expr)(x:R Wk)(Q:Value->Shared->Prop)(E:Value->Shared->Prop):Prop:=match x with
 |.ok w S'=>∀Me s2,Sg X pins σ tg (fun it H1=>∃J1,Ext H J H1 J1/\EM X.K H1 J1 S'/\IH w.guard S'/\GQ X.K it w H1 J1) Me s2->Q Me s2
 |.exc c S'=>∀e s',XP X pins σ c (HN X.K H J S') e s'->E e s'
 |.bad=>False
def PId(X:Cx)(tg iter:Expr)(f:tB->M Wk):Prop:=∀(pins:EK) (s:Shared) (σ:L2.St) (H:Hp) (J:List Addr) (r:tB) (S:List Cell) (Q E:Value->Shared->Prop),
 At X pins σ H J r S s->L3 X pins σ H J tg (f r S) Q E->wpAny (model X.prog X.w) X.A (eval iter X.env) (fun v s1=>wpAny (model X.prog X.w) X.A (pyIter v) Q E s1) E s
open Classical in
def ig(g:Option (Nat×List D))(tg:Kp)(b:E4):List D->E4
 |[],r,S=>some (.nx r,S)
 |x :: xs,r,S=>match tg x r with
  |none=>none
  |some r1=>match b r1 S with
   |some (.nx r',S')=>if IH g S' then ig g tg b xs r' S' else none
   |some (.ct r',S')=>if IH g S' then ig g tg b xs r' S' else none
   |some (.bk r',S')=>some (.nx r',S')
   |some (.rt d,S')=>some (.rt d,S')
   |_=>none
def pU(f:tB->M Wk)(tg:Kp)(b:E4):E4:=fun r=>cu (f r) r fun w S=>ig w.guard tg b w.items r S
theorem lZ{tg iter:Expr}{body:List Stmt}{f:tB->M Wk}{g:Kp}{tb:E4}(hc:X.calm=true)(hi:PId X tg iter f)(hg:OB X tg g)(hb:n5 X body tb)
  (hs:∀x,foldedSetIterable iter X.env x=pure x:=by intro _;rfl):Lx X (.For tg iter body [] pos) (pU f g tb):=by
 intro pins s σ H J r S Q E I m;refine wpAny_For (hi pins s σ H J r S _ E I ?_) hs;unfold pU cu at m;cases ef:f r S with
 |bad=>rw[ef] at m;exact m
 |exc c S1=>
  rw[ef] at m;exact fun x s' ⟨H',XI,J',ex,rs⟩=>m x s' σ H' J' XI (I.loc.ext ex) rs ex
 |ok w S1=>
  rw[ef] at m;dsimp only at m;rintro Me s2 ⟨it,fp,tn,it0,H2,rfl,I2,T,Sx,f2,J2,x2,Ih,gk,ok⟩;have Ly:∀{H':Hp},(∀b∈fp,H' b=none)->∀b∈fp,IE X pins H' b:=fun hn b hb=>⟨hn b hb,(f2 b hb).2⟩
  refine codeAny_forLoop_any (fun n s'=>∃i Fd H' J' r' S',At X pins Fd H' J' r' S' s'/\Ext H2 J2 H' J'/\tn i s'.heap/\(∀b∈fp,H' b=none)/\IH w.guard S'/\n=w.items.length-i/\i<=w.items.length/\
   Jz X pins H J (ig w.guard g tb (w.items.drop i) r' S') Q E) ?_ w.items.length ⟨0,σ,H2,J2,r,S1,⟨I2,I.loc.ext x2,Ih⟩,Ext.refl _ _,Sx,fun b hb=>(f2 b hb).1,gk,by simp,Nat.zero_le _,by simpa using m⟩
  rintro n s3 ⟨i,K8,H3,J3,r3,S3,I3,x3,QB,QC,Sy,rfl,OD,m3⟩;obtain⟨Sz,ML,O7⟩:=ok H3 J3 S3 x3 I3.st Sy;by_cases K9:i<w.items.length
  ·obtain⟨d,hd⟩:∃d,w.items[i]?=some d:=⟨w.items[i],by simp[K9]⟩;rw[List.drop_eq_getElem_cons K9] at m3;have Jw:w.items[i]=d:=by
    rw[List.getElem?_eq_getElem K9] at hd;exact Option.some.inj hd
   rw[Jw] at m3;unfold ig at m3;cases eg:g d r3 with
   |none=>rw[eg] at m3;exact m3.elim
   |some r4=>
    rw[eg] at m3;dsimp only at m3;refine Ow (T.item X rfl rfl rfl hc i pins s3 K8 H3 _ I3.inv (Ly QC) QB (Sz i K9)) fun rr s4 ⟨u,hr,h4⟩=>?_
    subst hr;refine Ow h4 fun _ s5 ⟨x,H5,I5,r5,y5,O8,SA⟩=>?_
    obtain⟨J5,x5,SD,SE⟩:=O7 i x H5 y5 d hd;have SF:=I5.pinned (Ly SA) (T.obj _ _ O8);refine hg _ s5 K8 H5 J5 r3 S3 d x u _ _ r4 ⟨SF,I3.loc.ext x5,SD⟩ SE r5 eg fun s6 PX H6 J6 I6 x6=>?_
    refine hb _ s6 PX H6 J6 r4 S3 _ _ I6 ?_;have again:∀{r7:tB}{S7:List Cell}{O9:L2.St}{H7:Hp}{J7:List Addr}{s7:Shared},At X (pins++nJ fp s5.heap) O9 H7 J7 r7 S7 s7->Ext H6 J6 H7 J7->IH w.guard S7->Jz X pins H J (ig w.guard g tb (w.items.drop (i+1)) r7 S7) Q E->
      ∃m,m<w.items.length-i/\∃i Fd H' J' r' S',At X pins Fd H' J' r' S' s7/\Ext H2 J2 H' J'/\tn i s7.heap/\(∀b∈fp,H' b=none)/\IH w.guard S'/\m=w.items.length-i/\i<=w.items.length/\Jz X pins H J (ig w.guard g tb (w.items.drop i) r' S') Q E:=by
     intro r7 S7 O9 H7 J7 s7 I7 x7 SG m7;refine⟨w.items.length-(i+1),by omega,i+1,O9,H7,J7,r7,S7,⟨I7.inv.H_,I7.loc,I7.st⟩,((x3.trans x5).trans x6).trans x7,T.keep _ _ _ O8 fun b hb o e=>(I7.inv.pin (b,o) (List.mem_append_right _ (List.mem_append_right _ (j0 hb e)))).1,fun b hb=>?_,SG,rfl,K9,m7⟩;obtain⟨o,e,d⟩:=T.obj _ _ O8 b hb;exact(I7.inv.pin (b,o) (List.mem_append_right _ (List.mem_append_right _ (j0 hb e)))).2.1
    match eb:tb r4 S3 with
    |none=>rw[eb] at m3;exact m3.elim
    |some (.nx r',S')=>
     rw[eb] at m3;dsimp only at m3;by_cases O_:IH w.guard S'
     ·rw[if_pos O_] at m3;exact fun s' Fd H' J' a x=>again a x O_ m3
     ·rw[if_neg O_] at m3;exact m3.elim
    |some (.ct r',S')=>
     rw[eb] at m3;dsimp only at m3;by_cases O_:IH w.guard S'
     ·rw[if_pos O_] at m3;exact fun s' Fd H' J' a x=>again a x O_ m3
     ·rw[if_neg O_] at m3;exact m3.elim
    |some (.bk r',S')=>
     rw[eb] at m3;exact fun s' Fd H' J' a x=>m3 s' Fd H' J' ⟨a.inv.H_,a.loc,a.st⟩ ((((x2.trans x3).trans x5).trans x6).trans x)
    |some (.rt d',S')=>
     rw[eb] at m3;exact fun u s' Fd ⟨v,H',I',rv,g'⟩=>m3 u s' Fd ⟨v,H',I'.H_,rv,g'.ext (((x2.trans x3).trans x5).trans x6)⟩
    |some (.xc c r',S')=>rw[eb] at m3;exact m3.elim
  ·have e:i=w.items.length:=by omega
   subst e;rw[List.drop_length] at m3;refine Ow (T.done X rfl rfl rfl hc _ pins s3 K8 H3 _ I3.inv (Ly QC) QB ML) fun rr s4 ⟨hr,I4⟩=>?_
   subst hr;exact wpAny_execs_nil (m3 s4 K8 H3 J3 ⟨I4,I3.loc,I3.st⟩ (x2.trans x3))
end
end DL
namespace DL
open PySem PySem.Spec PyProof.Rows L2
section
variable{X:Cx}{tg:Expr}{e:Expr}{fe:tB->M D}{pos:Pos}
def lL:D->M Wk
 |.tup xs=>M.ret ⟨xs,none⟩
 |.FP xs=>M.ret ⟨xs,none⟩
 |.ob n=>fun S=>match S[n]? with
  |some (.lst xs)=>.ok ⟨xs,some (n,xs)⟩ S
  |_=>.bad
 |_=>M.bad
def Ip(f:tB->M D):tB->M Wk:=fun r=>(f r).bind lL
theorem GQ.tup{K:PySem.W.Frag}{H:Hp}{J:List Addr}{a:Addr}{vs:List V}{xs:List D}{X:Cx}{pins:EK}{σ:L2.St}{s:Shared}(I:Inv X pins σ H s)(hK:X.K=K)(hq:Hi K H a vs)(rv:k_ K H J xs vs):GQ K (VN K a) ⟨xs,none⟩ H J:=by
 intro H1 J1 S x rs _;have Mi:=Hi.ext x hq;have GY:=rv.ext x;have hl:=GY.length;refine⟨fun i hi=>⟨vs,vs[i]'(by rw[hl];exact hi),Mi,by simp⟩,⟨vs,Mi,by rw[hl];exact Nat.le_refl _⟩,?_⟩;rintro i y H' ⟨rfl,hy⟩ d hd;obtain⟨v,h1,h2⟩:=GY.get hd;have:=hy vs Mi;rw[h1] at this;cases this;exact⟨J1,Ext.refl _ _,rs,h2⟩
theorem GQ.FP{K:PySem.W.Frag}{H:Hp}{J:List Addr}{a:Addr}{vs:List V}{xs:List D}(hq:Nr K H a vs)(rv:k_ K H J xs vs):GQ K (Sh K a) ⟨xs,none⟩ H J:=by
 intro H1 J1 S x rs _;have Mi:=(Nr.ext x hq).sq;have GY:=rv.ext x;have hl:=GY.length;refine⟨fun i hi=>⟨vs,vs[i]'(by rw[hl];exact hi),Mi,by simp⟩,⟨vs,Mi,by rw[hl];exact Nat.le_refl _⟩,?_⟩;rintro i y H' ⟨rfl,hy⟩ d hd;obtain⟨v,h1,h2⟩:=GY.get hd;have:=hy vs Mi;rw[h1] at this;cases this;exact⟨J1,Ext.refl _ _,rs,h2⟩
theorem GQ.lst{K:PySem.W.Frag}{H:Hp}{J:List Addr}{a:Addr}{n:Nat}{xs:List D}(hn:J[n]?=some a):GQ K (Sh K a) ⟨xs,some (n,xs)⟩ H J:=by
 intro H1 J1 S x rs gk;have XM:J1[n]?=some a:=by
  obtain⟨m,em⟩:=x.pre;rw[em,List.getElem?_append_left (List.getElem?_eq_some_iff.mp hn).1];exact hn
 obtain⟨vs,h1,GY⟩:=rs.at_ n _ a gk XM;have Mi:GP K H1 a vs:=GP.of h1;have hl:=GY.length;refine⟨fun i hi=>⟨vs,vs[i]'(by rw[hl];exact hi),Mi,by simp⟩,⟨vs,Mi,by rw[hl];exact Nat.le_refl _⟩,?_⟩;rintro i y H' ⟨rfl,hy⟩ d hd;obtain⟨v,h1,h2⟩:=GY.get hd;have:=hy vs Mi;rw[h1] at this;cases this;exact⟨J1,Ext.refl _ _,rs,h2⟩
theorem fV(he:Fn X e fe):PId X tg e (Ip fe):=by
 intro pins s σ H J r S Q E I m;refine he pins s σ H J r S _ E I ?_;unfold Ip M.bind at m;cases e1:fe r S with
 |bad=>rw[e1] at m;exact m
 |exc c S1=>rw[e1] at m;exact m
 |ok x S1=>
  rw[e1] at m;dsimp only at m;rintro v s1 ⟨vx,H1,I1,r1,J1,ex,rs,rv⟩;cases x with
  |tup xs=>
   obtain⟨a,vs,rfl,hq,Fg⟩:=rv.HP;cases r1;obtain⟨u_,rl,p,hz⟩:=I1.tuple hq;refine wpAny_pyIter_tuple (show s1.heap.IsTuple a u_.toArray from p) (m _ _ ?_);refine⟨s1.heap.objs.size,[s1.heap.objs.size],_,_,H1,rfl,I1.kept (t':=s1.toks) fun b o e=>Heap.get?_push_of_some _ e,vH a _,⟨_,Heap.get?_push_size _ rfl,rfl,rfl⟩,fun b hb=>?_,J1,ex,rs,trivial,GQ.tup I1 rfl hq Fg⟩;have e:b=s1.heap.objs.size:=by simpa using hb
   subst e;exact I1.Md (Nat.le_refl _) (I1.EW.fresh (Nat.le_refl _))
  |FP xs=>
   obtain⟨a,vs,rfl,hq,Fg⟩:=rv.Ko;cases r1;obtain⟨u_,rl,p,hz⟩:=I1.list hq.sq;refine wpAny_pyIter_list p.isList (m _ _ ?_);refine⟨s1.heap.objs.size,[s1.heap.objs.size],_,_,H1,rfl,I1.kept (t':=s1.toks) fun b o e=>Heap.get?_push_of_some _ e,rY a _,⟨_,Heap.get?_push_size _ rfl,rfl,rfl⟩,fun b hb=>?_,J1,ex,rs,trivial,GQ.FP hq Fg⟩;have e:b=s1.heap.objs.size:=by simpa using hb
   subst e;exact I1.Md (Nat.le_refl _) (I1.EW.fresh (Nat.le_refl _))
  |ob n=>
   obtain⟨a,rfl,hn⟩:=rv.HQ;cases r1;obtain⟨c,hc,rc⟩:=rs.IY hn;simp only[lL] at m;rw[hc] at m;cases c with
   |lst xs=>
    obtain⟨vs,h1,Fg⟩:=rc;obtain⟨u_,rl,p,hz⟩:=I1.list (GP.of h1);refine wpAny_pyIter_list p.isList (m _ _ ?_);refine⟨s1.heap.objs.size,[s1.heap.objs.size],_,_,H1,rfl,I1.kept (t':=s1.toks) fun b o e=>Heap.get?_push_of_some _ e,rY a _,⟨_,Heap.get?_push_size _ rfl,rfl,rfl⟩,fun b hb=>?_,J1,ex,rs,hc,GQ.lst hn⟩;have e:b=s1.heap.objs.size:=by simpa using hb
    subst e;exact I1.Md (Nat.le_refl _) (I1.EW.fresh (Nat.le_refl _))
   |_=>exact m.elim
  |_=>exact m.elim
def gP(lo c:Int)(n:Nat):List D:=(List.range n).map fun(i:Nat)=>D.int (lo+(i:Int) * c)
def Aq(lo c:Int)(n:Nat):It:=⟨fun i _=>i<n,fun i H x H'=>H'=H/\x=.int (lo+(i:Int) * c),fun i _=>n<=i⟩
theorem yX{lo c:Int}{n i:Nat}{d:D}(h:(gP lo c n)[i]?=some d):d=.int (lo+(i:Int) * c):=by
 unfold gP at h;rw[List.getElem?_map] at h;cases e:(List.range n)[i]? with
 |none=>rw[e] at h;cases h
 |some k=>
  rw[e] at h;obtain⟨h2,h3⟩:=List.getElem?_eq_some_iff.mp e;rw[List.getElem_range] at h3;subst h3;cases h;rfl
theorem GQ.PJ{K:PySem.W.Frag}{H:Hp}{J:List Addr}(lo c:Int)(n:Nat):GQ K (Aq lo c n) ⟨gP lo c n,none⟩ H J:=by
 intro H1 J1 S x rs _;have hl:(gP lo c n).length=n:=by simp[gP]
 refine⟨fun i hi=>by rw[hl] at hi;exact hi,by show n<=_;rw[hl];exact Nat.le_refl _,?_⟩;rintro i y H' ⟨rfl,rfl⟩ d hd;refine⟨J1,Ext.refl _ _,rs,?_⟩;rw[yX hd];exact r_.int _ _ _ _
theorem yE{P:Program}{w:World}{K:PySem.W.Frag}{tg:Expr}(it:Addr)(lo c:Int)(n:Nat):Turn P w K tg (Aq lo c n) [it] it (fun i h=>IsRangeIter h it (lo+(i:Nat) * c) ((n:Int)-(i:Nat)) c) where
 mem:=by simp
 obj:=fun i h st b hb=>by
  have e:b=it:=by simpa using hb
  subst e;exact⟨_,st,fun v z=>by
   have z':Data.fields _=Data.cell v:=z;cases z'⟩
 keep:=fun i h h' st k=>k it (by simp) _ st
 item:=by
  intro X hP hw hK hc i pins s σ H E I hf st hg;subst hP hw hK;obtain⟨f0,f1,f2,f3,f4,f5⟩:=hf it (by simp);have W:=Walks.range (prog:=X.prog) (w:=X.w) (I.ok.hd hc) it lo c n;refine W.item i s _ _ hg st fun v h' tk hv Oy kk=>?_
  obtain⟨t,rfl⟩:=hv;have I1:Inv X pins σ H { s with heap:=h',toks:=tk }:=I.turned (fun b o hb e=>kk b o (by simpa using hb) e) f0 f1 f3 f4 f5;exact⟨_,rfl,yO (s:={ s with heap:=h',toks:=tk }) (n:="range_iterator") Oy rfl rfl (by decide) ⟨.int (lo+i * c),H,I1,⟨t,rfl⟩,⟨rfl,rfl⟩,Oy,fun b hb=>(hf b hb).1⟩⟩
 done:=by
  intro X hP hw hK hc i pins s σ H E I hf st hg;subst hP hw hK;obtain⟨f0,f1,f2,f3,f4,f5⟩:=hf it (by simp);exact wpAny_pyNext_range_end (I.ok.hd hc) st (by have:n<=i:=hg;omega) fun h' eb=>⟨rfl,I.turned (t':=s.toks) (fun b o hb e=>eb b o hb e) f0 f1 f3 f4 f5⟩
 self:=fun _ _ _ _ _ st h=>wpAny_pyIter_rangeiter st h
theorem zw{pins:EK}{σ:L2.St}{H:Hp}{s:Shared}{Rr:It->Hp->Prop}{E:Value->Shared->Prop}{lo hi c:Int}{t u v:Tok}{tk:Nat}(I:Inv X pins σ H s)(hc:0<c)(QD:Builtin.Range.small lo hi c=true)
  (q:Rr (Aq lo c (Builtin.Range.rangeSize lo hi c).toNat) H):wpAny (model X.prog X.w) X.A (pyIter (.ref s.heap.objs.size)) (Sg X pins σ tg Rr) E { s with heap:=s.heap.push { cls:=.type "range",data:=.fields #[.int lo t,.int hi u,.int c v] },toks:=tk }:=by
 refine wpAny_pyIter_range (IsRange.new ..) QD ?_;have I1:Inv X pins σ H { s with heap:=s.heap.push { cls:=.type "range",data:=.fields #[.int lo t,.int hi u,.int c v] },toks:=tk }:=I.kept fun b o e=>Heap.get?_push_of_some _ e
 refine⟨(s.heap.push { cls:=.type "range",data:=.fields #[.int lo t,.int hi u,.int c v] }).objs.size,[(s.heap.push { cls:=.type "range",data:=.fields #[.int lo t,.int hi u,.int c v] }).objs.size],_,_,H,rfl,
  I1.kept (t':=tk) fun b o e=>Heap.get?_push_of_some _ e,yE _ lo c (Builtin.Range.rangeSize lo hi c).toNat,?_,fun b hb=>?_,q⟩
 ·have e1:lo+((0:Nat):Int) * c=lo:=by simp
  have e2:(((Builtin.Range.rangeSize lo hi c).toNat:Nat):Int)-((0:Nat):Int)=Builtin.Range.rangeSize lo hi c:=by
   have:0<=Builtin.Range.rangeSize lo hi c:=by
    unfold Builtin.Range.rangeSize;rw[if_pos hc];split
    ·have:=Int.ediv_nonneg (a:=hi-lo-1) (b:=c) (by omega) (by omega);omega
    ·omega
   omega
  show IsRangeIter _ _ (lo+((0:Nat):Int) * c) ((((Builtin.Range.rangeSize lo hi c).toNat:Nat):Int)-((0:Nat):Int)) c;rw[e1,e2];exact Heap.get?_push_size _ rfl
 ·have e:b=(s.heap.push { cls:=.type "range",data:=.fields #[.int lo t,.int hi u,.int c v] }).objs.size:=by simpa using hb
  subst e;exact I1.Md (Nat.le_refl _) (I1.EW.fresh (Nat.le_refl _))
def uO(lo hi c:Int):M Wk:=fun S=>Ha ((0<c/\c<1073741824)/\Builtin.Range.small lo hi c=true) (.ok ⟨gP lo c (Builtin.Range.rangeSize lo hi c).toNat,none⟩ S) .bad
def wW:D->M Wk
 |.int j=>uO 0 j 1
 |_=>M.bad
def uI:D->D->M Wk
 |.int i,.int j=>uO i j 1
 |_,_=>M.bad
def sC(fa:tB->M D):tB->M Wk:=fun r=>(fa r).bind wW
def wK(fa fb:tB->M D):tB->M Wk:=fun r=>(fa r).bind fun x=>(fb r).bind fun y=>uI x y
theorem L3.ext{pins:EK}{σ:L2.St}{H H1:Hp}{J J1:List Addr}{x:R Wk}{Q:Value->Shared->Prop}{E:Value->Shared->Prop}(e:Ext H J H1 J1)(h:L3 X pins σ H J tg x Q E):L3 X pins σ H1 J1 tg x Q E:=by
 cases x with
 |ok w S=>exact fun Me s2 ⟨it,fp,tn,it0,H2,a,b,c,d,f,J2,x2,g⟩=>h Me s2 ⟨it,fp,tn,it0,H2,a,b,c,d,f,J2,e.trans x2,g⟩
 |exc c S=>exact fun u s' x=>h u s' (x.ext e)
 |bad=>exact h
theorem Rt{es:List Expr}{ft:tB->M (List D)}(ha:KU X es ft){k:List D->M Wk}{pins:EK}{s:Shared}{σ:L2.St}{H:Hp}{J:List Addr}{r:tB}{S:List Cell}{Q E:Value->Shared->Prop}{Q':List Value->Shared->Prop}(I:At X pins σ H J r S s)
  (m:L3 X pins σ H J tg ((ft r).bind k S) Q E) (hk:∀xs S1 s1 H1 J1 vs us,At X pins σ H1 J1 r S1 s1->k_ X.K H1 J1 xs vs->Vals vs us->L3 X pins σ H1 J1 tg (k xs S1) Q E->Q' us s1) (pos:Pos) :
  wpAny (model X.prog X.w) X.A (spliced (backTo pos (starEach es X.env))) Q' E s:=by
 refine ha pos pins s σ H J r S _ E I ?_;unfold M.bind at m;cases e1:ft r S with
 |bad=>rw[e1] at m;exact m
 |exc c S1=>rw[e1] at m;exact m
 |ok x S1=>
  rw[e1] at m;intro us s1 ⟨vs,H1,I1,r1,J1,Hk,Hz,GY⟩;exact hk x S1 s1 H1 J1 vs us ⟨I1,I.loc.ext Hk,Hz⟩ GY r1 (L3.ext Hk m)
def sN{α:Type}(f:D->M α):List D->M α
 |[x]=>f x
 |_=>M.bad
def By{α:Type}(f:D->D->M α):List D->M α
 |[x,y]=>f x y
 |_=>M.bad
theorem k_.Ii{K:PySem.W.Frag}{H:Hp}{J:List Addr}{x:D}{vs:List V}(h:k_ K H J [x] vs):∃v,vs=[v]/\r_ K H J x v:=by
 unfold k_ at h;obtain⟨v,t,rfl,h1,h2⟩:=h;unfold k_ at h2;subst h2;exact⟨v,rfl,h1⟩
theorem k_.NP{K:PySem.W.Frag}{H:Hp}{J:List Addr}{x y:D}{vs:List V}(h:k_ K H J [x,y] vs):∃v w,vs=[v,w]/\r_ K H J x v/\r_ K H J y w:=by
 unfold k_ at h;obtain⟨v,t,rfl,h1,h2⟩:=h;obtain⟨w,rfl,h3⟩:=k_.Ii h2;exact⟨v,w,rfl,h1,h3⟩
theorem xh{pins:EK}{σ:L2.St}{H:Hp}{J:List Addr}{S:List Cell}{lo hi c:Int}{Q E:Value->Shared->Prop}(m:L3 X pins σ H J tg (uO lo hi c S) Q E)(rs:EM X.K H J S) :
  (0<c/\c<1073741824)/\Builtin.Range.small lo hi c=true/\∀Me s2,Sg X pins σ tg (fun it H1=>it=Aq lo c (Builtin.Range.rangeSize lo hi c).toNat/\H1=H) Me s2->Q Me s2:=by
 unfold uO Ha at m;split at m
 ·rename_i h;refine⟨h.1,h.2,fun Me s2 ⟨it,fp,tn,it0,H2,a,b,c,d,f,e1,e2⟩=>?_⟩;subst e1 e2;exact m Me s2 ⟨it,fp,tn,_,_,a,b,c,d,f,J,Ext.refl _ _,rs,trivial,GQ.PJ _ _ _⟩
 ·exact m.elim
theorem pR{a:Expr}{p:Pos}{fa:tB->M D}(hg:Gl X "range")(hm:X.mg "range"=none)(ha:Fn X a fa)(hs:starEach [a] X.env=[(false,eval a X.env)]:=by rfl):PId X tg (.Call (.Name "range" p) [a] [] pos) (sC fa):=by
 intro pins s σ H J r S Q E I m;have m':L3 X pins σ H J tg ((ac fa ai r).bind (sN wW) S) Q E:=by
  unfold sC M.bind at m;unfold ac ai M.bind M.ret;cases e1:fa r S<;>(rw[e1] at m;exact m)
 refine Call_ (kK I.inv hg hm boot_range (PyProof.Rows.callWith_type1 (Rt (af ha ah (by rw[hs];rfl)) I m' (fun xs S1 s1 H1 J1 vs us I1 rv r1 m1=>?_) pos) hs rfl))
 match xs,m1,rv with
 |[.int j],m1,rv=>
  obtain⟨v,rfl,h1⟩:=rv.Ii;cases h1.FY;cases r1 with
  |cons q qq=>
   cases qq;obtain⟨t,rfl⟩:=q;obtain⟨hc,QD,k⟩:=xh m1 I1.st;exact call_range_1 (Ow (zw I1.inv hc.1 QD ⟨rfl,rfl⟩) k)
 |[],m1,rv=>exact m1.elim
 |[.EJ],m1,rv=>exact m1.elim
 |[.bl _],m1,rv=>exact m1.elim
 |[.str _],m1,rv=>exact m1.elim
 |[.tup _],m1,rv=>exact m1.elim
 |[.FP _],m1,rv=>exact m1.elim
 |[.ob _],m1,rv=>exact m1.elim
 |[.xn _],m1,rv=>exact m1.elim
 |_ :: _ :: _,m1,rv=>exact m1.elim
theorem vX{a b:Expr}{p:Pos}{fa fb:tB->M D}(hg:Gl X "range")(hm:X.mg "range"=none)(ha:Fn X a fa)(hb:Fn X b fb)(hs:starEach [a,b] X.env=[(false,eval a X.env),(false,eval b X.env)]:=by rfl)
  (Ke:starEach [b] X.env=[(false,eval b X.env)]:=by rfl):PId X tg (.Call (.Name "range" p) [a,b] [] pos) (wK fa fb):=by
 intro pins s σ H J r S Q E I m;have m':L3 X pins σ H J tg ((ac fa (ac fb ai) r).bind (By uI) S) Q E:=by
  unfold wK M.bind at m;unfold ac ai M.bind M.ret;cases e1:fa r S with
  |ok x S1=>
   rw[e1] at m;dsimp only at m ⊢;cases e2:fb r S1<;>(rw[e2] at m;exact m)
  |exc c S1=>rw[e1] at m;exact m
  |bad=>rw[e1] at m;exact m
 refine Call_ (kK I.inv hg hm boot_range (PyProof.Rows.callWith_type1 (Rt (af ha (af hb ah (by rw[Ke];rfl)) (by rw[hs,Ke])) I m' (fun xs S1 s1 H1 J1 vs us I1 rv r1 m1=>?_) pos) (by rw[hs,Ke]) (by rw[Ke];rfl)))
 match xs,m1,rv with
 |[x,y],m1,rv=>
  obtain⟨v,w,rfl,h1,h2⟩:=rv.NP;cases x with
  |int i=>
   cases y with
   |int j=>
    cases h1.FY;cases h2.FY;obtain⟨u1,u2,rfl,q1,q2⟩:=Vals.two r1;obtain⟨t,rfl⟩:=q1;obtain⟨t',rfl⟩:=q2;obtain⟨hc,QD,k⟩:=xh m1 I1.st;exact call_range_2 (Ow (zw I1.inv hc.1 QD ⟨rfl,rfl⟩) k)
   |_=>exact m1.elim
  |_=>exact m1.elim
 |[],m1,rv=>exact m1.elim
 |[_],m1,rv=>exact m1.elim
 |_ :: _ :: _ :: _,m1,rv=>exact m1.elim
end
end DL
namespace DL
open PySem PySem.Spec PyProof.Rows L2
def OE(X:Cx)(scope:Scope)(N':List Str)(cl:List (Str×Addr))(C:Addr)(s2:Shared)(H2:Hp)(fp:List Addr):Cx where
 prog:=X.prog
 w:=X.w
 K:=X.K
 mg:=X.mg
 base:=X.base
 A:=X.A
 N:=N'
 GC:=s2
 ME:=H2
 env:=compEnvC scope cl C X.env
 outer:=X.stack
 stack:=X.stack
 ex:=fp
 fn:=fun _=>false
 calm:=X.calm
 pn:=[]
 xe:=fun _ _=>False
def iE{α:Type}(own:Nat)(caps:List Nat)(r:List (Option α)):List (Option α):=List.replicate own none++caps.map fun j=>(r[j]?).join
def IA(X:Cx)(scope:Scope)(cl:List (Str×Addr)):List Nat->List Str->Prop
 |[],[]=>True
 |j :: js,x :: xs=>(X.N[j]?=some x/\(X.env.kindOf x=some .cell\/X.env.kindOf x=some .free)/\((relabel scope X.env).names.lookup x=some .cell\/(relabel scope X.env).names.lookup x=some .free)/\cl.lookup x=X.env.cells.lookup x)/\IA X scope cl js xs
 |_,_=>False
theorem IA.get{X:Cx}{scope:Scope}{cl:List (Str×Addr)}:∀{js:List Nat}{xs:List Str}{k:Nat}{j:Nat},IA X scope cl js xs->js[k]?=some j->∃x,xs[k]?=some x/\X.N[j]?=some x/\
  (X.env.kindOf x=some .cell\/X.env.kindOf x=some .free)/\((relabel scope X.env).names.lookup x=some .cell\/(relabel scope X.env).names.lookup x=some .free)/\cl.lookup x=X.env.cells.lookup x
 |[],_,_,_,_,e=>by simp at e
 |_ :: _,[],_,_,h,_=>h.elim
 |j :: js,x :: xs,0,j',h,e=>by
  simp at e;subst e;obtain⟨⟨a,b,c,d⟩,_⟩:=h;exact⟨x,rfl,a,b,c,d⟩
 |j :: js,x :: xs,k+1,j',h,e=>by
  obtain⟨_,h⟩:=h;obtain⟨y,a,b⟩:=IA.get (k:=k) h (by simpa using e);exact⟨y,by simpa using a,b⟩
theorem IA.len{X:Cx}{scope:Scope}{cl:List (Str×Addr)}:∀{js:List Nat}{xs:List Str},IA X scope cl js xs->xs.length=js.length
 |[],[],_=>rfl
 |[],_ :: _,h=>h.elim
 |_ :: _,[],h=>h.elim
 |j :: js,x :: xs,h=>by rw[List.length_cons,List.length_cons,IA.len h.2]
theorem Hj.Ru{K:PySem.W.Frag}{H:Hp}{J:List Addr}{r:tB}{σ:L2.St}(h:Hj K H J r σ)(own:Nat)(caps:List Nat):Hj K H J (iE own caps r) (iE own caps σ) where
 len:=by simp[iE]
 at_:=fun i d q=>by
  unfold iE at q ⊢;by_cases hi:i<own
  ·rw[List.getElem?_append_left (by simpa using hi),List.getElem?_replicate] at q;split at q<;>cases q
  ·rw[List.getElem?_append_right (by simpa using hi)] at q ⊢;simp only[List.length_replicate] at q ⊢;rw[List.getElem?_map] at q ⊢;cases e:caps[i-own]? with
   |none=>rw[e] at q;cases q
   |some j=>
    rw[e] at q;simp only[Option.map_some,Option.some.injEq] at q ⊢;obtain⟨v,h1,h2⟩:=h.at_ j d (by
     cases e2:r[j]? with
     |none=>rw[e2] at q;cases q
     |some o=>rw[e2] at q;simp at q;rw[q])
    exact⟨v,by rw[h1];rfl,h2⟩
theorem nP{X:Cx}{cl:List (Str×Addr)}(Mz:∀p∈cl,X.env.cells.lookup p.1=some p.2){x:Str}{c:Addr}(h:cl.lookup x=some c):X.env.cells.lookup x=some c:=by
 induction cl with
 |nil=>simp at h
 |cons p r ih=>
  obtain⟨y,b⟩:=p;rw[List.lookup_cons] at h;cases e:x == y with
  |true=>
   rw[e] at h;simp at h;subst h;have:=beq_iff_eq.mp e;subst this;exact Mz (x,b) (by simp)
  |false=>
   rw[e] at h;exact ih (fun p hp=>Mz p (List.mem_cons_of_mem _ hp)) h
theorem mX{scope:Scope}{env:Env}{x:Str}{k:NameKind}(hk:k=.cell\/k=.free)(Fo:∀y∈scope.names,y.2≠.cell)(h:(relabel scope env).names.lookup x=some k):∃p∈scope.names,p.1=x/\p.2=.free:=by
 unfold relabel at h;dsimp only at h
 generalize scope.names=ns at h Fo
 induction ns with
 |nil=>simp at h
 |cons p r ih=>
  obtain⟨n,kk⟩:=p;rw[List.map_cons] at h;by_cases hc:(kk == NameKind.free && env.scope.kind == .function && env.kindOf n == some .cell)=true
  ·simp only[hc,if_true,List.lookup_cons] at h;cases e:x == n with
   |true=>
    have hx:=beq_iff_eq.mp e;simp only[Bool.and_eq_true,beq_iff_eq] at hc;exact⟨(n,kk),by simp,hx.symm,hc.1.1⟩
   |false=>
    rw[e] at h;obtain⟨p,hp,q⟩:=ih h fun y hy=>Fo y (List.mem_cons_of_mem _ hy)
    exact⟨p,List.mem_cons_of_mem _ hp,q⟩
  ·rw[if_neg hc,List.lookup_cons] at h;cases e:x == n with
   |true=>
    rw[e] at h;simp at h;have hx:=beq_iff_eq.mp e;rcases hk with rfl|rfl
    ·exact absurd h (Fo (n,kk) (by simp))
    ·exact⟨(n,kk),by simp,hx.symm,h⟩
   |false=>
    rw[e] at h;obtain⟨p,hp,q⟩:=ih h fun y hy=>Fo y (List.mem_cons_of_mem _ hy)
    exact⟨p,List.mem_cons_of_mem _ hp,q⟩
section
variable{X:Cx}{pins:EK}{σ:L2.St}{H2:Hp}{s2:Shared}{scope:Scope}{own:List Str}{capN:List Str}{caps:List Nat}{cl:List (Str×Addr)}{fp:List Addr}
structure MM(X:Cx)(scope:Scope)(own capN:List Str)(caps:List Nat)(cl:List (Str×Addr)):Prop where
 SH:closureFor scope X.env=pure cl
 cells:∀p∈cl,X.env.cells.lookup p.1=some p.2
 frees:scope.names.all (fun p=>p.2 != .free || (cl.lookup p.1).isSome)=true
 Lz:∀y∈scope.names,y.2≠.cell
 kind:scope.kind=.function
 names:∀x∈scope.names,x.2=.local->scope.names.lookup x.1=some .local
 Ru:IA X scope cl caps capN
 nd:(own++capN).Nodup
theorem xX(B:MM X scope own capN caps cl)(I:Inv X pins σ H2 s2)(hf:∀b∈fp,IE X pins H2 b)(ho:∀b∈fp,∃o,s2.heap.get? b=some o){h':Heap}{tk:Nat}
  (Ig:h'.Ns (s2.heap.objs.size+1) fun _=>none) (SI:h'.get? s2.heap.objs.size=some { cls:=.type "list",data:=.seq #[] }) (keep:∀b o,s2.heap.get? b=some o->h'.get? b=some o) :
  Inv (OE X scope (own++capN) cl (s2.heap.objs.size+1) s2 H2 fp) [] (iE own.length caps σ) (upd H2 s2.heap.objs.size (.lst [])) { s2 with heap:=h',toks:=tk }:=by
 have NQ:H2 s2.heap.objs.size=none:=I.EW.fresh (Nat.le_refl _);have OF:∀{b:Addr}{o:Obj},s2.heap.get? b=some o->b<s2.heap.objs.size:=fun e=>Heap.lt_size e
 have Pa:∀x c,X.env.cells.lookup x=some c->c<s2.heap.objs.size:=fun x c e=>by
  obtain⟨v,hv⟩:=I.cell x c e;obtain⟨o,ho,_⟩:=hv;exact OF ho
 have SJ:GH X.prog X.w (upd H2 s2.heap.objs.size (.lst [])) h':=I.EW.laid keep (Nat.le_refl _) ⟨Nat.zero_le _,[],0,.nil,SI⟩;refine⟨?_,rfl,I.bare,?_,?_,?_,?_,?_,?_,SJ,?_⟩
 ·refine⟨I.ok.mod,B.kind,I.ok.glob,I.ok.blt,Nat.le_succ _,?_,?_,?_,I.ok.hd,I.ok.frames,.inl rfl,?_,I.bs,Nat.le_trans I.ok.Mu I.sz,?_,?_,I.stack,I.Kk⟩
  ·exact fun x y c h1 h2=>I.ok.inj x y c (nP B.cells h1) (nP B.cells h2)
  ·intro x hx;have:∃p∈scope.names,p.1=x/\p.2=.free:=by
    rcases hx with hx|hx
    ·exact mX (.inl rfl) B.Lz hx
    ·exact mX (.inr rfl) B.Lz hx
   obtain⟨p,hp,rfl,LU⟩:=this;have:=(List.all_eq_true.mp B.frees) p hp;rw[LU] at this;simp only[bne_self_eq_false,Bool.false_or] at this;exact Option.isSome_iff_exists.mp this
  ·exact fun x c h=>by cases h
  ·intro b hb;obtain⟨o,Lq⟩:=ho b hb;refine⟨Nat.ne_of_lt (Nat.lt_succ_of_lt (OF Lq)),fun x c h=>(hf b hb).2.2.2.2.1 x c (nP B.cells h)⟩
  ·intro b o hb QE;obtain⟨_,_,_,hx,_⟩:=hf b QE;rcases hx with hx|hx
   ·exact I.ok.Mc b o hb hx
   ·exact absurd (Nat.lt_of_lt_of_le (Heap.lt_size hb) (Nat.le_trans I.ok.Mu hx)) (Nat.lt_irrefl _)
  ·intro b hb NO;obtain⟨_,hl,XN,_⟩:=hf b hb;rcases List.mem_cons.mp (I.Kj b NO) with e|e
   ·exact hl e
   ·exact XN e
 ·exact(Un.laid (o:=.lst []) keep (Nat.le_refl _) NQ)
 ·refine⟨_,Ig,fun i x v hN hs hv=>?_⟩;unfold iE at hs;by_cases hi:i<own.length
  ·rw[List.getElem?_append_left (by simpa using hi),List.getElem?_replicate] at hs;split at hs<;>cases hs
  ·rw[List.getElem?_append_right (by simpa using hi)] at hs;have Pb:(own++capN)[i]?=some x:=hN;rw[List.getElem?_append_right (by omega)] at Pb;simp only[List.length_replicate] at hs;rw[List.getElem?_map] at hs;cases e:caps[i-own.length]? with
   |none=>rw[e] at hs;cases hs
   |some j=>
    rw[e] at hs;simp only[Option.map_some,Option.some.injEq] at hs;obtain⟨y,hy,XQ,V1,XR,Mz⟩:=B.Ru.get e;rw[Pb] at hy;cases hy;have XS:σ[j]?=some (some v):=by
     cases e2:σ[j]? with
     |none=>rw[e2] at hs;cases hs
     |some o=>rw[e2] at hs;simp at hs;rw[hs]
    obtain⟨m,hm,hl⟩:=I.loc;obtain⟨u,ru,look⟩:=hl j x v XQ XS (.inr V1);rcases look with ⟨hk,_⟩|⟨_,c,hc,Fo⟩
    ·rcases V1 with hk'|hk'<;>(rw[hk] at hk';cases hk')
    ·refine⟨u,ru,.inr ⟨XR,c,Mz.trans hc,?_⟩⟩;obtain⟨o,ho,hd⟩:=Fo;exact⟨o,keep c o ho,hd⟩
 ·intro x c h;obtain⟨v,o,ho,hd⟩:=I.cell x c (nP B.cells h);exact⟨v,o,keep c o ho,hd⟩
 ·show upd H2 s2.heap.objs.size (.lst []) (s2.heap.objs.size+1)=none;rw[bf (Nat.succ_ne_self _)];exact I.EW.fresh (Nat.le_succ _)
 ·intro x c h;have h1:=nP B.cells h;rw[bf (Nat.ne_of_lt (Pa x c h1))];exact I.Hg x c h1
 ·intro p hp;cases hp
 ·unfold iE;simp only[List.length_append,List.length_replicate,List.length_map];show own.length+caps.length=(own++capN).length;rw[List.length_append,B.Ru.len]
end
end DL
namespace DL
open PySem PySem.Spec PyProof.Rows L2
def QF(X:Cx)(ifs:List Expr)(f:tB->M Bool):Prop:=∀(pins:EK) (s:Shared) (σ:L2.St) (H:Hp) (J:List Addr) (r:tB) (S:List Cell) (Q:Bool->Shared->Prop) (E:Value->Shared->Prop),
 At X pins σ H J r S s->Lo X pins σ H J (f r S) Q E->wpAny (model X.prog X.w) X.A (forIn ifs true fun c b=>if b=true then do let ok <-isTrue c X.env (eval c X.env);pure (ForInStep.yield ok) else pure (ForInStep.yield b)) Q E s
theorem nA{X:Cx}:QF X [] (fun _=>M.ret true):=fun pins s σ H J r S Q E I m=>wpAny_tests_nil (m.Hl I)
theorem yL{X:Cx}{c:Expr}{f:tB->M Bool}(h:L1 X c f):QF X [c] f:=fun pins s σ H J r S Q E I m=>wpAny_tests_one (h pins s σ H J r S Q E I m)
open Classical in
def fF(tg:Kp)(ti:tB->M Bool)(fe:tB->M D)(n:Nat)(g:Option (Nat×List D))(r0:tB):List D->List Cell->R Unit
 |[],S=>.ok () S
 |x :: xs,S=>match tg x r0 with
  |none=>.bad
  |some r1=>match ti r1 S with
   |.ok false S1=>if IH g S1 then fF tg ti fe n g r0 xs S1 else .bad
   |.ok true S1=>(match fe r1 S1 with
    |.ok d S2=>(match S2[n]? with
     |some (.lst ys)=>Ha (ys.length<sizeLine/\IH g (S2.set n (.lst (ys++[d])))) (fF tg ti fe n g r0 xs (S2.set n (.lst (ys++[d])))) .bad
     |_=>.bad)
    |_=>.bad)
   |_=>.bad
def ii(f:tB->M Wk)(tg:Kp)(ti:tB->M Bool)(fe:tB->M D)(own:Nat)(caps:List Nat):tB->M D:=fun r=>(f r).bind fun w S=>match fF tg ti fe S.length w.guard (iE own caps r) w.items (S++[.lst []]) with
 |.ok _ S'=>.ok (.ob S.length) S'
 |_=>.bad
def rN(own:Nat)(tg:Kp):Prop:=∀d r r',tg d r=some r'->r'.length=r.length/\∀i,own<=i->r'[i]?=r[i]?
theorem jQ{own i:Nat}(h:i<own):rN own (gN i):=fun d r r' e=>by
 cases e;exact⟨by simp,fun j hj=>by rw[List.getElem?_set_ne (by omega)]⟩
theorem tW{own:Nat}:∀{is:List Nat},(∀i∈is,i<own)->∀{ds:List D}{r r':tB},OC is ds r=some r'->r'.length=r.length/\∀i,own<=i->r'[i]?=r[i]?
 |[],_,[],r,r',e=>by cases e;exact⟨rfl,fun _ _=>rfl⟩
 |[],_,_ :: _,r,r',e=>by cases e
 |i :: is,h,[],r,r',e=>by cases e
 |i :: is,h,d :: ds,r,r',e=>by
  obtain⟨a,b⟩:=tW (is:=is) (fun j hj=>h j (List.mem_cons_of_mem _ hj)) (show OC is ds (r.set i (some d))=some r' from e);refine⟨by rw[a];simp,fun j hj=>?_⟩;have:=h i (by simp);rw[b j hj,List.getElem?_set_ne (by omega)]
theorem AQ{own:Nat}{is:List Nat}(h:∀i∈is,i<own):rN own (gT is):=fun d r r' e=>by
 cases d with
 |tup ds=>exact tW h e
 |_=>cases e
theorem Hj.own{K:PySem.W.Frag}{H:Hp}{J:List Addr}{own:Nat}{caps:List Nat}{r r1:tB}{σ:L2.St}{tg:Kp}{d:D}(ho:rN own tg)(e:tg d (iE own caps r)=some r1)(h:Hj K H J r1 σ):Hj K H J (iE own caps r) σ:=by
 obtain⟨a,b⟩:=ho _ _ _ e;refine⟨by rw[<-a];exact h.len,fun i d' q=>?_⟩;by_cases hi:i<own
 ·unfold iE at q;rw[List.getElem?_append_left (by simpa using hi),List.getElem?_replicate] at q;split at q<;>cases q
 ·exact h.at_ i d' (by rw[b i (by omega)];exact q)
section
variable{X:Cx}{elt target iter:Expr}{ifs:List Expr}{scope:Scope}{pos:Pos}{tg:Kp}{ti:tB->M Bool}{fe:tB->M D}{own:Nat}{caps:List Nat}
theorem yC(hc:X.calm=true)(hg:OB X target tg)(ht:QF X ifs ti)(he:Fn X elt fe)(MN:rN own tg){r:tB}{w:Wk}{it:Addr}{fp:List Addr}{tn:Nat->Heap->Prop}{it0:It}{H0:Hp}{J0:List Addr}{n:Nat}{acc:Addr}
  (T:Turn X.prog X.w X.K target it0 fp it tn) (ok:GQ X.K it0 w H0 J0) (NQ:J0[n]?=some acc) {RR:Result->Shared->Prop}{σ:L2.St}{S:List Cell}{s:Shared}{S':List Cell}(I:At X [] σ H0 J0 (iE own caps r) S s)
  (PY:∀b∈fp,IE X [] H0 b) (st:tn 0 s.heap) (gk:IH w.guard S) (hr:fF tg ti fe n w.guard (iE own caps r) w.items S=.ok () S')
  (hR:∀s' Fd H' J',Inv X [] Fd H' s'->EM X.K H' J' S'->Ext H0 J0 H' J'->RR (.ok .next) s') :
  codeAny (model X.prog X.w) X.A (.compLoop (.ListComp elt [⟨target,iter,ifs,0⟩] scope pos) 0 (.ref it) (.ref acc) X.env) RR s:=by
 have Ly:∀{H':Hp},(∀b∈fp,H' b=none)->∀b∈fp,IE X [] H' b:=fun hn b hb=>⟨hn b hb,(PY b hb).2⟩
 refine codeAny_loop rfl (fun k s'=>∃i Fd H' J' S1,At X [] Fd H' J' (iE own caps r) S1 s'/\Ext H0 J0 H' J'/\tn i s'.heap/\(∀b∈fp,H' b=none)/\IH w.guard S1/\k=w.items.length-i/\i<=w.items.length/\
  fF tg ti fe n w.guard (iE own caps r) (w.items.drop i) S1=.ok () S') ?_ w.items.length ⟨0,σ,H0,J0,S,I,Ext.refl _ _,st,fun b hb=>(PY b hb).1,gk,by simp,Nat.zero_le _,by simpa using hr⟩
 rintro k s3 ⟨i,K8,H3,J3,S3,I3,x3,QB,QC,Sy,rfl,OD,m3⟩;show wpAny _ X.A ((compTurn (.ListComp elt [⟨target,iter,ifs,0⟩] scope pos) 0 (.ref it) (.ref acc) X.env).onRaise (fun x=>do noteFrame x X.env;theTreesLotGoes x)) _ _ s3;refine wpAny_noted ?_;rw[compTurn_list];refine wpAny_bind (wpAny_standAt (wpAny_bind ?_));obtain⟨Sz,ML,O7⟩:=ok H3 J3 S3 x3 I3.st Sy;by_cases K9:i<w.items.length
 ·obtain⟨d,hd⟩:∃d,w.items[i]?=some d:=⟨w.items[i],by simp[K9]⟩;rw[List.drop_eq_getElem_cons K9] at m3;have Jw:w.items[i]=d:=by
   rw[List.getElem?_eq_getElem K9] at hd;exact Option.some.inj hd
  rw[Jw] at m3;unfold fF at m3;cases eg:tg d (iE own caps r) with
  |none=>rw[eg] at m3;cases m3
  |some r4=>
   rw[eg] at m3;dsimp only at m3;refine Ow (T.item X rfl rfl rfl hc i [] s3 K8 H3 _ I3.inv (Ly QC) QB (Sz i K9)) fun rr s4 ⟨u,hr,h4⟩=>?_
   subst hr;refine wpAny_bind (Ow h4 fun _ s5 ⟨x,H5,I5,r5,y5,O8,SA⟩=>?_);obtain⟨J5,x5,SD,SE⟩:=O7 i x H5 y5 d hd;have SF:=I5.pinned (Ly SA) (T.obj _ _ O8);refine wpAny_bind (hg _ s5 K8 H5 J5 (iE own caps r) S3 d x u _ _ r4 ⟨SF,I3.loc.ext x5,SD⟩ SE r5 eg fun s6 PX H6 J6 I6 x6=>?_);have back:∀{O9:L2.St}{H7:Hp}{J7:List Addr}{S7:List Cell}{s7:Shared},At X ([]++nJ fp s5.heap) O9 H7 J7 r4 S7 s7->Ext H6 J6 H7 J7->IH w.guard S7->fF tg ti fe n w.guard (iE own caps r) (w.items.drop (i+1)) S7=.ok () S'->
     ∃m,m<w.items.length-i/\∃i Fd H' J' S1,At X [] Fd H' J' (iE own caps r) S1 s7/\Ext H0 J0 H' J'/\tn i s7.heap/\(∀b∈fp,H' b=none)/\IH w.guard S1/\m=w.items.length-i/\i<=w.items.length/\
      fF tg ti fe n w.guard (iE own caps r) (w.items.drop i) S1=.ok () S':=by
    intro O9 H7 J7 S7 s7 I7 x7 SG m7;refine⟨w.items.length-(i+1),by omega,i+1,O9,H7,J7,S7,⟨I7.inv.H_,Hj.own MN eg I7.loc,I7.st⟩,((x3.trans x5).trans x6).trans x7,T.keep _ _ _ O8 fun b hb o e=>(I7.inv.pin (b,o) (List.mem_append_right _ (List.mem_append_right _ (j0 hb e)))).1,fun b hb=>?_,SG,rfl,K9,m7⟩;obtain⟨o,e,d⟩:=T.obj _ _ O8 b hb;exact(I7.inv.pin (b,o) (List.mem_append_right _ (List.mem_append_right _ (j0 hb e)))).2.1
   refine wpAny_bind (ht _ s6 PX H6 J6 r4 S3 _ _ I6 ?_);cases et:ti r4 S3 with
   |bad=>rw[et] at m3;cases m3
   |exc c S4=>rw[et] at m3;cases m3
   |ok b S4=>
    rw[et] at m3;rintro s7 ⟨H7,I7,J7,x7,XT⟩;have A7:At X ([]++nJ fp s5.heap) PX H7 J7 r4 S4 s7:=⟨I7,I6.loc.ext x7,XT⟩;cases b with
    |false=>
     dsimp only at m3;by_cases g4:IH w.guard S4
     ·rw[if_pos g4] at m3;exact wpAny_pure ⟨rfl,back A7 x7 g4 m3⟩
     ·rw[if_neg g4] at m3;cases m3
    |true=>
     dsimp only at m3;refine wpAny_bind (wpAny_bind (he _ s7 PX H7 J7 r4 S4 _ _ A7 ?_));cases ee:fe r4 S4 with
     |bad=>rw[ee] at m3;cases m3
     |exc c S5=>rw[ee] at m3;cases m3
     |ok dv S5=>
      rw[ee] at m3;rintro v s8 ⟨vx,H8,I8,r8,J8,x8,V2,XU⟩;dsimp only at m3;have OG:J8[n]?=some acc:=by
       obtain⟨m1,e1⟩:=((((x3.trans x5).trans x6).trans x7).trans x8).pre;rw[e1,List.getElem?_append_left (List.getElem?_eq_some_iff.mp NQ).1];exact NQ
      obtain⟨c8,XW,XX⟩:=V2.IY OG;rw[XW] at m3;cases c8 with
      |lst ys=>
       dsimp only at m3;by_cases g5:ys.length<sizeLine/\IH w.guard (S5.set n (.lst (ys++[dv])))
       ·rw[ci g5] at m3;obtain⟨vs,V3,Fg⟩:=XX;refine wpAny_bind (wpAny_mono (rF (X:=X.E8 (notedBy (model X.prog X.w) X.A X.env fun e s'=>RR (.error e) s')) _ s8 PX H8 (.ref acc) [vx] (.ref acc) [v] (fun v' H9=>v'=.EJ/\H9=upd H8 acc (.lst (vs++[vx]))) (I8.E8 _) rfl (.cons r8 .nil)
         ⟨acc,vs,vx,rfl,rfl,V3,by rw[Fg.length];exact g5.1,rfl,rfl⟩) (fun v' s9 q=>?_) fun _ _ z=>z)
        obtain⟨v9,H9,I9,r9,rfl,rfl⟩:=q;have x9:Ext H8 J8 (upd H8 acc (.lst (vs++[vx]))) J8:=Ext.write V3 rfl;have XY:EM X.K (upd H8 acc (.lst (vs++[vx]))) J8 (S5.set n (.lst (ys++[dv]))):=V2.write OG ⟨_,bB,(Fg.ext x9).append (.one (XU.ext x9))⟩;exact wpAny_pure (wpAny_pure ⟨rfl,back ⟨I9.E5,(A7.loc.ext x8).ext x9,XY⟩ ((x7.trans x8).trans x9) g5.2 m3⟩)
       ·rw[wG g5] at m3;cases m3
      |_=>cases m3
 ·have e:i=w.items.length:=by omega
  subst e;rw[List.drop_length] at m3;cases m3;refine Ow (T.done X rfl rfl rfl hc _ [] s3 K8 H3 _ I3.inv (Ly QC) QB ML) fun rr s4 ⟨hr,I4⟩=>?_
  subst hr;exact wpAny_pure (hR s4 K8 H3 J3 I4 I3.st x3)
end
section
variable{X:Cx}{elt target iter:Expr}{ifs:List Expr}{scope:Scope}{pos:Pos}{f:tB->M Wk}{tg:Kp}{ti:tB->M Bool}{fe:tB->M D}{own capN:List Str}{caps:List Nat}{cl:List (Str×Addr)}
structure CompEnd(X:Cx)(pins:EK)(σ:L2.St)(H:Hp)(J:List Addr)(n:Nat)(S':List Cell)(D C:Addr)(s':Shared):Prop where
 ex:∃H' J',Inv X pins σ H' s'/\Ext H J H' J'/\EM X.K H' J' S'/\J'[n]?=some D/\H' C=none/\C≠X.env.locals/\X.GC.heap.objs.size<=C/\(∀x c,X.env.cells.lookup x=some c->c≠C)/\∀p∈X.pn++pins,p.1≠C
 ns:∃m,s'.heap.Ns C m
theorem yn(B:MM X scope own capN caps cl)(hc:X.calm=true)(MN:rN own.length tg)
  (hB:∀(C:Addr) (s2:Shared) (H2:Hp) (fp:List Addr),OB (OE X scope (own++capN) cl C s2 H2 fp) target tg/\QF (OE X scope (own++capN) cl C s2 H2 fp) ifs ti/\Fn (OE X scope (own++capN) cl C s2 H2 fp) elt fe)
  {pins:EK}{s2:Shared}{σ:L2.St}{H2:Hp}{J2:List Addr}{r:tB}{S:List Cell}{w:Wk}{S':List Cell}{RR:Value->Addr->Result->Shared->Prop}{E:Value->Shared->Prop}
  {it:Addr}{fp:List Addr}{tn:Nat->Heap->Prop}{it0:It}(I2:At X pins σ H2 J2 r S s2) (T:Turn X.prog X.w X.K target it0 fp it tn) (ok:GQ X.K it0 w H2 J2) (PY:∀b∈fp,IE X pins H2 b) (st:tn 0 s2.heap) (gk:IH w.guard S)
  (hr:fF tg ti fe S.length w.guard (iE own.length caps r) w.items (S++[.lst []])=.ok () S')
  (hR:∀D C s',CompEnd X pins σ H2 J2 S.length S' D C s'->RR (.ref D) C (.ok .next) s') :
  wpAny (model X.prog X.w) X.A (newList []) (fun acc SK=>wpAny (model X.prog X.w) X.A (newFunctionEnv scope X.env.globals cl [] X.env.qual none .none (some X.env)) (fun QG SM=>
   codeAny (model X.prog X.w) X.A (.compStart (.ListComp elt [⟨target,iter,ifs,0⟩] scope pos) 0 (.ref it) acc { QG with scope:=relabel scope X.env }) (RR acc QG.locals) SM) E SK) E s2:=by
 refine wpAny_newObj_type (wpAny_newFunctionEnv B.Lz (by intro y hy;simp at hy) (fun Mj LB Kq=>?_) B.kind);dsimp only at LB Kq ⊢;have hsz:(s2.heap.push { cls:=.type "list",dict:=none,data:=.seq ([]:List Value).toArray }).objs.size=s2.heap.objs.size+1:=by rw[Heap.size_push]
 rw[hsz] at LB Kq ⊢;have keep:∀b o,s2.heap.get? b=some o->Mj.get? b=some o:=fun b o e=>
  Kq.extBut b o (Nat.ne_of_lt (Nat.lt_succ_of_lt (Heap.lt_size e))) (Heap.get?_push_of_some _ (Heap.get?_push_of_some _ e))
 have hl:Mj.get? s2.heap.objs.size=some { cls:=.type "list",data:=.seq #[] }:=Kq.extBut _ _ (Nat.ne_of_lt (Nat.lt_succ_self _)) (Heap.get?_push_of_some _ (Heap.get?_push_size _ rfl));have V4:∀b∈fp,∃o,s2.heap.get? b=some o:=fun b hb=>let ⟨o,e,_⟩:=T.obj _ _ st b hb;⟨o,e⟩
 have PZ:H2 s2.heap.objs.size=none:=I2.inv.EW.fresh (Nat.le_refl _);have IB:=xX (tk:=s2.toks+([]:List (Str×Value)).length) B I2.inv PY V4 (by simpa using LB) hl keep;have V5:tn 0 Mj:=T.keep _ _ _ st fun b hb o e=>keep b o e
 obtain⟨hg,ht,he⟩:=hB (s2.heap.objs.size+1) s2 H2 fp;have x0:Ext H2 J2 (upd H2 s2.heap.objs.size (.lst [])) (J2++[s2.heap.objs.size]):=(Ext.new PZ).snoc _;have XZ:EM X.K (upd H2 s2.heap.objs.size (.lst [])) (J2++[s2.heap.objs.size]) (S++[.lst []]):=I2.st.push PZ ⟨[],bB,.nil⟩;have loop:codeAny (model X.prog X.w) X.A (.compLoop (.ListComp elt [⟨target,iter,ifs,0⟩] scope pos) 0 (.ref it) (.ref s2.heap.objs.size) (compEnvC scope cl (s2.heap.objs.size+1) X.env)) (RR (.ref s2.heap.objs.size) (s2.heap.objs.size+1))
   { s2 with heap:=Mj,toks:=s2.toks+([]:List (Str×Value)).length }:=by
  refine yC (X:=OE X scope (own++capN) cl (s2.heap.objs.size+1) s2 H2 fp) (own:=own.length) (caps:=caps) (r:=r) (w:=w) (n:=S.length) hc hg ht he MN (H0:=upd H2 s2.heap.objs.size (.lst [])) (J0:=J2++[s2.heap.objs.size]) (it0:=it0) (fp:=fp) (tn:=tn) T
   ?_ ?_ (S:=S++[Cell.lst []]) ⟨IB,(I2.loc.ext x0).Ru _ _,XZ⟩ ?_ V5 ?_ hr ?_
  ·exact fun H J S1 x rs g=>ok H J S1 (x0.trans x) rs g
  ·rw[<-I2.st.len];simp
  ·intro b hb;obtain⟨o,Lq⟩:=V4 b hb;obtain⟨f0,f1,f2,f3,f4,f5⟩:=PY b hb;refine⟨by rw[bf (Nat.ne_of_lt (Heap.lt_size Lq))];exact f0,Nat.ne_of_lt (Nat.lt_succ_of_lt (Heap.lt_size Lq)),?_,.inl hb,fun x c h=>f4 x c (nP B.cells h),fun p hp=>by cases hp⟩;intro NO;rcases List.mem_cons.mp (I2.inv.Kj b NO) with e|e
   ·exact f1 e
   ·exact f2 e
  ·cases eg:w.guard with
   |none=>trivial
   |some q=>
    obtain⟨k,xs⟩:=q;rw[eg] at gk;show(S++[Cell.lst []])[k]?=_;rw[List.getElem?_append_left (List.getElem?_eq_some_iff.mp gk).1];exact gk
  ·intro s' Fd H' J' I' MO x';refine hR _ _ s' ⟨⟨H',J',?_,x0.trans x',MO,?_,I'.free,?_,?_,?_,?_⟩,?_⟩
   ·refine I2.inv.Ov (ch:=fp) I'.os I'.base I'.EW I'.bare fun b hb=>?_
    obtain⟨f0,f1,f2,f3,f4,f5⟩:=PY b hb;exact⟨f3,f1,f4,f5⟩
   ·obtain⟨m,em⟩:=x'.pre;rw[em,List.getElem?_append_left (by rw[List.length_append,I2.st.len];simp),<-I2.st.len];simp
   ·exact(Nat.ne_of_lt (Nat.lt_succ_of_lt I2.inv.lt)).symm
   ·exact Nat.le_trans I2.inv.sz (Nat.le_succ _)
   ·intro x c h;obtain⟨v,o,ho,_⟩:=I2.inv.cell x c h;exact Nat.ne_of_lt (Nat.lt_succ_of_lt (Heap.lt_size ho))
   ·intro p hp;obtain⟨h1,_⟩:=I2.inv.pin p hp;exact Nat.ne_of_lt (Nat.lt_succ_of_lt (Heap.lt_size h1))
   ·obtain⟨m,hm,_⟩:=I'.loc;exact⟨m,hm⟩
 exact codeAny_compStart_list loop (T.self _ 0 _ _ _ V5 loop)
theorem CompEnd.Pd{pins:EK}{σ:L2.St}{H:Hp}{J:List Addr}{n:Nat}{S':List Cell}{D C:Addr}{s':Shared}(h:CompEnd X pins σ H J n S' D C s'){h':Heap}(hs:Heap.SameBut C s'.heap h') :
  ∃H' J',Inv X pins σ H' { s' with heap:=h' }/\Ext H J H' J'/\EM X.K H' J' S'/\J'[n]?=some D:=by
 obtain⟨H',J',I,x,rs,hn,f0,f1,f2,f3,f4⟩:=h.ex;exact⟨H',J',I.turned (t':=s'.toks) (fun b o hb e=>(hs.2 b hb).trans e) f0 f1 (.inr f2) f3 f4,x,rs,hn⟩
theorem iW(B:MM X scope own capN caps cl)(hc:X.calm=true)(hi:PId X target iter f)(MN:rN own.length tg)
  (hB:∀(C:Addr) (s2:Shared) (H2:Hp) (fp:List Addr),OB (OE X scope (own++capN) cl C s2 H2 fp) target tg/\QF (OE X scope (own++capN) cl C s2 H2 fp) ifs ti/\Fn (OE X scope (own++capN) cl C s2 H2 fp) elt fe)
  (hs:∀x,foldedSetIterable iter X.env x=pure x:=by intro _;rfl) :
  Fn X (.ListComp elt [⟨target,iter,ifs,0⟩] scope pos) (ii f tg ti fe own.length caps):=by
 intro pins s σ H J r S Q E I m;rw[eval_ListComp];refine wpAny_comprehension_free (use:=none) rfl hs B.SH B.kind B.names (hi pins s σ H J r S _ E I ?_);unfold ii M.bind at m;cases ef:f r S with
 |bad=>rw[ef] at m;exact m
 |exc c S1=>rw[ef] at m;exact m
 |ok w S1=>
  rw[ef] at m;dsimp only at m;rintro Me s2 ⟨it,fp,tn,it0,H2,rfl,I2,T,Sx,f2,J2,x2,Ih,gk,ok⟩;cases er:fF tg ti fe S1.length w.guard (iE own.length caps r) w.items (S1++[.lst []]) with
  |bad=>rw[er] at m;exact m.elim
  |exc c S3=>rw[er] at m;exact m.elim
  |ok uu S'=>
   rw[er] at m;refine yn (RR:=fun acc C=>compPost (model X.prog X.w) X.A E none Q acc C) B hc MN hB ⟨I2,I.loc.ext x2,Ih⟩ T ok f2 Sx gk er fun D C s' ce=>?_
   obtain⟨mC,X0⟩:=ce.ns;refine⟨mC,X0,fun h' NR=>?_⟩;obtain⟨H',J',I',x',MO,hn⟩:=ce.Pd NR;exact m _ _ ⟨.ref D,H',I',rfl,J',x2.trans x',MO,.ob hn⟩
end
end DL
namespace DL
open PySem PySem.Spec PyProof.Rows L2
mutual
def Gp(n:Nat):D->Prop
 |.tup xs=>jb n xs
 |.FP xs=>jb n xs
 |.ob k=>k<n
 |_=>True
def jb(n:Nat):List D->Prop
 |[]=>True
 |x :: xs=>Gp n x/\jb n xs
end
section
variable{K:PySem.W.Frag}{H:Hp}{J m:List Addr}
mutual
theorem r_.wf:∀{d:D}{v:V},r_ K H J d v->Gp J.length d
 |.EJ,_,_=>by unfold Gp;trivial
 |.bl _,_,_=>by unfold Gp;trivial
 |.int _,_,_=>by unfold Gp;trivial
 |.str _,_,_=>by unfold Gp;trivial
 |.xn _,_,_=>by unfold Gp;trivial
 |.tup xs,_,h=>by
  obtain⟨a,vs,_,_,h⟩:=h.HP;unfold Gp;exact k_.wf h
 |.FP xs,_,h=>by
  obtain⟨a,vs,_,_,h⟩:=h.Ko;unfold Gp;exact k_.wf h
 |.ob k,_,h=>by
  obtain⟨a,_,h⟩:=h.HQ;unfold Gp;exact(List.getElem?_eq_some_iff.mp h).1
theorem k_.wf:∀{xs:List D}{vs:List V},k_ K H J xs vs->jb J.length xs
 |[],_,_=>by unfold jb;trivial
 |x :: xs,_,h=>by
  unfold k_ at h;obtain⟨v,r,_,h1,h2⟩:=h;unfold jb;exact⟨r_.wf h1,k_.wf h2⟩
end
mutual
theorem r_.shrink:∀{d:D}{v:V},Gp J.length d->r_ K H (J++m) d v->r_ K H J d v
 |.EJ,_,_,h=>by unfold r_ at h ⊢;exact h
 |.bl _,_,_,h=>by unfold r_ at h ⊢;exact h
 |.int _,_,_,h=>by unfold r_ at h ⊢;exact h
 |.str _,_,_,h=>by unfold r_ at h ⊢;exact h
 |.xn _,_,_,h=>by unfold r_ at h ⊢;exact h
 |.tup xs,_,w,h=>by
  unfold Gp at w;unfold r_ at h ⊢;obtain⟨a,vs,h1,h2,h3⟩:=h;exact⟨a,vs,h1,h2,k_.shrink w h3⟩
 |.FP xs,_,w,h=>by
  unfold Gp at w;unfold r_ at h ⊢;obtain⟨a,vs,h1,h2,h3⟩:=h;exact⟨a,vs,h1,h2,k_.shrink w h3⟩
 |.ob k,_,w,h=>by
  unfold Gp at w;unfold r_ at h ⊢;obtain⟨a,h1,h2⟩:=h;rw[List.getElem?_append_left w] at h2;exact⟨a,h1,h2⟩
theorem k_.shrink:∀{xs:List D}{vs:List V},jb J.length xs->k_ K H (J++m) xs vs->k_ K H J xs vs
 |[],_,_,h=>by unfold k_ at h ⊢;exact h
 |x :: xs,_,w,h=>by
  unfold jb at w;unfold k_ at h ⊢;obtain⟨v,r,h1,h2,h3⟩:=h;exact⟨v,r,h1,r_.shrink w.1 h2,k_.shrink w.2 h3⟩
end
def Cc{κ:Type}(n:Nat)(xs:List (κ×D)):Prop:=∀p∈xs,Gp n p.2
theorem EG.wf{κ:Type}:∀{xs:List (κ×D)}{ws:List (κ×V)},EG K H J xs ws->Cc J.length xs
 |[],_,_=>fun p hp=>by cases hp
 |(k,d) :: r,ws,h=>by
  obtain⟨v,t,_,h1,h2⟩:=h;intro p hp;rcases List.mem_cons.mp hp with rfl|hp
  ·exact h1.wf
  ·exact EG.wf h2 p hp
theorem EG.shrink{κ:Type}:∀{xs:List (κ×D)}{ws:List (κ×V)},Cc J.length xs->EG K H (J++m) xs ws->EG K H J xs ws
 |[],_,_,h=>h
 |(k,d) :: r,ws,w,h=>by
  obtain⟨v,t,h0,h1,h2⟩:=h;exact⟨v,t,h0,h1.shrink (w (k,d) (by simp)),EG.shrink (fun p hp=>w p (List.mem_cons_of_mem _ hp)) h2⟩
def Pe(n:Nat):Cell->Prop
 |.lst xs=>jb n xs
 |.Gu kvs=>Cc n kvs
 |.ins _ _ ds=>jb n ds
theorem HM.wf{c:Cell}{a:Addr}(h:HM K H J c a):Pe J.length c:=by
 cases c with
 |lst xs=>obtain⟨vs,_,r⟩:=h;exact r.wf
 |Gu xs=>obtain⟨vs,_,r⟩:=h;exact r.wf
 |ins C ns ds=>obtain⟨dx,vs,_,_,r⟩:=h;exact r.wf
theorem HM.shrink{c:Cell}{a:Addr}(w:Pe J.length c)(h:HM K H (J++m) c a):HM K H J c a:=by
 cases c with
 |lst xs=>obtain⟨vs,e,r⟩:=h;exact⟨vs,e,r.shrink w⟩
 |Gu xs=>obtain⟨vs,e,r⟩:=h;exact⟨vs,e,r.shrink w⟩
 |ins C ns ds=>obtain⟨dx,vs,e,q,r⟩:=h;exact⟨dx,vs,e,q,r.shrink w⟩
theorem EM.wf{S:List Cell}(h:EM K H J S){n:Nat}{c:Cell}(hn:S[n]?=some c):Pe S.length c:=by
 obtain⟨a,_,r⟩:=h.cell hn;rw[<-h.len];exact r.wf
theorem EM.shrink{S G:List Cell}{J':List Addr}(h:EM K H J' (S++G))(hw:∀(n:Nat) c,S[n]?=some c->Pe S.length c):EM K H (J'.take S.length) S:=by
 have hl:=h.len;rw[List.length_append] at hl;have hj:(J'.take S.length).length=S.length:=by rw[List.length_take];omega
 refine⟨hj,h.nd.sublist (List.take_sublist _ _),fun n c a hc ha=>?_⟩;have hn:=(List.getElem?_eq_some_iff.mp hc).1;have Ml:J'[n]?=some a:=by
  rw[List.getElem?_take] at ha;rw[if_pos hn] at ha;exact ha
 have r:=h.at_ n c a (by rw[List.getElem?_append_left hn];exact hc) Ml;have w:=hw n c hc;rw[<-hj] at w;rw[<-List.take_append_drop S.length J'] at r;exact r.shrink w
theorem Got.drop{H':Hp}{S0 S G:List Cell}{d:D}{v:V}(h:Got K H J d (S++G) v H')(r0:EM K H J S0)(hl:S0.length<=S.length)(hd:Gp S.length d)(hw:∀(n:Nat) c,S[n]?=some c->Pe S.length c):Got K H J d S v H':=by
 obtain⟨J',x,rs,rv⟩:=h;have hlen:=rs.len;rw[List.length_append] at hlen;have hj:(J'.take S.length).length=S.length:=by rw[List.length_take];omega
 refine⟨J'.take S.length,⟨x.st,?_⟩,rs.shrink hw,?_⟩
 ·obtain⟨more,e⟩:=x.pre;refine⟨more.take (S.length-J.length),?_⟩;rw[e,List.take_append,List.take_of_length_le (by rw[r0.len];exact hl)]
 ·rw[<-hj] at hd;rw[<-List.take_append_drop S.length J'] at rv;exact rv.shrink hd
end
def Cn(S0:List Cell)(x:Lp)(y:R D):Prop:=match y with
 |.ok d S'=>∃G,(G=[]\/(S0.length<=S'.length/\Gp S'.length d/\(S'=S0\/∀(n:Nat) c,S'[n]?=some c->Pe S'.length c)))/\(x=some (.rt d,S'++G)\/(d=.EJ/\∃r',x=some (.nx r',S'++G)))
 |.exc c S'=>∃r',x=some (.xc c r',S')
 |.bad=>True
def zn(CX:Ir)(X:Cx)(E:XK):Prop:=∀(σ:L2.St) (H':Hp) (s':Shared) (e:Value) (c:Addr),NL X [] σ H' s' e c->(∀p o,H' p=none->E (.ref c) none (upd H' p o))->X.xe e s'
section
variable{P:Program}{w:World}{K:PySem.W.Frag}{mg:Str->Option Value}{base:Heap}{CX:Ir}
theorem pK{x qual:Str}{st:Stmt}{f:Addr}{fd:FuncData}{N ps:List Str}{k:Nat}{F:List D->M D}(hF:Fz K x qual st f fd)(S:m_ N ps (h_ st))
  (Pf:∀(EU:Value) (A:Around) (outer:List Env) (s:Shared) (H:Hp) (E:XK),zn CX (oH CX P w K mg base N qual (h_ st) f EU A outer s H E) E)
  (K4:∀(EU:Value) (A:Around) (outer:List Env) (s:Shared) (H:Hp) (E:XK),FX k (A.deeper (envOfC qual (h_ st) s.heap.objs.size f EU))->
   ∃t,n5 (oH CX P w K mg base N qual (h_ st) f EU A outer s H E) (Fx st) t/\∀xs S0,xs.length=ps.length->Cn S0 (t (xs.map some++List.replicate (N.length-xs.length) none) S0) (F xs S0)) :
  FK P w K mg base CX (k+1) f fd ps F:=by
 obtain⟨oc,od,kV,doc,pm,an,EU,ct,Mw,rfl,lk,Lm⟩:=hF.ex;refine B2 lk Lm S (fun vs H Q E h=>h.1) (fun A outer s H vs Q E hr h=>?_);obtain⟨hlen,J,xs,S0,rx,rs,h⟩:=h;obtain⟨t,ht,SN⟩:=K4 EU A outer s H E hr;have hl:xs.length=ps.length:=by rw[<-rx.length];exact hlen
 have he:=SN xs S0 hl;refine⟨fun D σ H'=>D = { nx:=fun _ H'=>Q .EJ H',rt:=Q }/\σ=L2.start N vs/\H'=H,?_,rfl,rfl,rfl⟩;rintro pins s1 PV H1 D1 I1 ⟨rfl,rfl,rfl⟩;refine ht pins s1 _ _ J _ S0 _ _ ⟨I1,Hj.start rx,rs⟩ ?_;have X1:∀(n:Nat) c,S0[n]?=some c->Pe S0.length c:=fun n c h=>rs.wf h
 cases ef:F xs S0 with
 |bad=>rw[ef] at h;exact h.elim
 |ok d S'=>
  rw[ef] at he h;dsimp only at h;obtain⟨G,hG,hx⟩:=he;have fin:∀{v:V}{H':Hp},Got K H1 J d (S'++G) v H'->Q v H':=fun {v H'} g=>by
   rcases hG with rfl|⟨h1,h2,h3⟩
   ·rw[List.append_nil] at g;exact h v H' g
   ·refine h v H' (g.drop rs h1 h2 ?_);rcases h3 with rfl|h3
    ·exact X1
    ·exact h3
  rcases hx with hx|⟨rfl,r',hx⟩
  ·rw[hx];exact fun u s' Fd ⟨v,H',I',rv,g⟩=>⟨v,Fd,H',I',rv,fin g⟩
  ·rw[hx];exact fun s' Fd H' J' a x=>⟨Fd,H',a.inv,fin ⟨J',x,a.st,r_.EJ _ _ _⟩⟩
 |exc c S'=>
  rw[ef] at he h;dsimp only at h;obtain⟨r',hx⟩:=he;rw[hx];exact fun e s' Fd H' J' XI rl MO x=>Pf EU A outer s H1 E Fd H' s' e c ⟨XI.inv.Kl (fun p hp=>(nomatch hp)),XI.XE⟩ (fun p o hp=>h (upd H' p o) ⟨J',x.trans (Ext.new hp),MO.new hp⟩)
end
end DL
namespace DL
open PySem PySem.Spec PyProof.Rows L2
mutual
def pD(S:List Cell):Nat->D->Option PyData
 |0,_=>none
 |n+1,.EJ=>some .none
 |n+1,.bl b=>some (.bool b)
 |n+1,.int i=>some (.int i)
 |n+1,.str x=>if PyData.canLay0 (.str x)=true then some (.str x) else none
 |n+1,.tup xs=>(JA S n xs).map .tuple
 |n+1,.FP xs=>(JA S n xs).map .list
 |n+1,.ob k=>match S[k]? with
  |some (.lst xs)=>(JA S n xs).map .list
  |_=>none
 |n+1,.xn _=>none
def JA(S:List Cell)(n:Nat):List D->Option (List PyData)
 |[]=>some []
 |x :: xs=>match pD S n x,JA S n xs with
  |some p,some ps=>some (p :: ps)
  |_,_=>none
end
section
variable{X:Cx}{pins:EK}{σ:L2.St}{H:Hp}{J:List Addr}{S:List Cell}{s:Shared}
mutual
theorem kB(I:Inv X pins σ H s)(rs:EM X.K H J S):∀{n:Nat}{d:D}{v:V}{u:Value}{p:PyData},r_ X.K H J d v->RelV v u->pD S n d=some p->(∃as,Reads s.heap u p as)/\p.canLay0=true/\p.depth<=n
 |0,_,_,_,_,_,_,e=>by unfold pD at e;cases e
 |n+1,.EJ,_,_,_,rv,r,e=>by
  cases rv.Lv;cases r;unfold pD at e;cases e;exact⟨⟨_,.none⟩,rfl,Nat.zero_le _⟩
 |n+1,.bl b,_,_,_,rv,r,e=>by
  cases rv.Nt;cases r;unfold pD at e;cases e;exact⟨⟨_,.bool b⟩,rfl,Nat.zero_le _⟩
 |n+1,.int i,_,_,_,rv,r,e=>by
  cases rv.FY;obtain⟨t,rfl⟩:=r;unfold pD at e;cases e;exact⟨⟨_,.int i t⟩,rfl,Nat.zero_le _⟩
 |n+1,.str x,_,_,_,rv,r,e=>by
  cases rv.MK;obtain⟨t,rfl⟩:=r;unfold pD at e;split at e
  ·rename_i h;cases e;exact⟨⟨_,.str x t⟩,h,Nat.zero_le _⟩
  ·cases e
 |n+1,.tup xs,_,_,_,rv,r,e=>by
  obtain⟨a,vs,rfl,hq,Fg⟩:=rv.HP;cases r;obtain⟨u_,rl,⟨o,ho,hc,k,hd⟩,hz⟩:=I.tuple hq;unfold pD at e;cases ep:JA S n xs with
  |none=>rw[ep] at e;cases e
  |some ps=>
   rw[ep] at e;cases e;obtain⟨⟨as,h1⟩,h2,h3⟩:=iY I rs Fg rl ep;exact⟨⟨_,.tuple ho hc hd (by simpa using h1)⟩,h2,Nat.succ_le_succ h3⟩
 |n+1,.FP xs,_,_,_,rv,r,e=>by
  obtain⟨a,vs,rfl,hq,Fg⟩:=rv.Ko;cases r;obtain⟨u_,rl,pl,hz⟩:=I.list hq.sq;obtain⟨o,ho,hc,k,hd⟩:=pl.isList;unfold pD at e;cases ep:JA S n xs with
  |none=>rw[ep] at e;cases e
  |some ps=>
   rw[ep] at e;cases e;obtain⟨⟨as,h1⟩,h2,h3⟩:=iY I rs Fg rl ep;exact⟨⟨_,.list ho hc hd (by simpa using h1)⟩,h2,Nat.succ_le_succ h3⟩
 |n+1,.ob k,_,_,_,rv,r,e=>by
  obtain⟨a,rfl,hn⟩:=rv.HQ;cases r;obtain⟨c,hc,rc⟩:=rs.IY hn;unfold pD at e;rw[hc] at e;cases c with
  |lst xs=>
   obtain⟨vs,hv,Fg⟩:=rc;obtain⟨u_,rl,pl,hz⟩:=I.list (GP.of hv);obtain⟨o,ho,hc,k,hd⟩:=pl.isList;dsimp only at e;cases ep:JA S n xs with
   |none=>rw[ep] at e;cases e
   |some ps=>
    rw[ep] at e;cases e;obtain⟨⟨as,h1⟩,h2,h3⟩:=iY I rs Fg rl ep;exact⟨⟨_,.list ho hc hd (by simpa using h1)⟩,h2,Nat.succ_le_succ h3⟩
  |_=>cases e
 |n+1,.xn c,_,_,_,_,_,e=>by unfold pD at e;cases e
theorem iY(I:Inv X pins σ H s)(rs:EM X.K H J S):∀{n:Nat}{xs:List D}{vs:List V}{us:List Value}{ps:List PyData},k_ X.K H J xs vs->Vals vs us->JA S n xs=some ps->(∃as,ReadsAll s.heap us ps as)/\PyData.canLayAll0 ps=true/\PyData.depthAll ps<=n
 |n,[],_,_,_,rv,r,e=>by
  unfold k_ at rv;subst rv;cases r;unfold JA at e;cases e;exact⟨⟨_,.nil⟩,rfl,Nat.zero_le _⟩
 |n,x :: xs,_,_,_,rv,r,e=>by
  unfold k_ at rv;obtain⟨v,t,rfl,h1,h2⟩:=rv;cases r with
  |cons q qs=>
   unfold JA at e;cases e1:pD S n x with
   |none=>rw[e1] at e;cases e
   |some p=>
    cases e2:JA S n xs with
    |none=>rw[e1,e2] at e;cases e
    |some ps=>
     rw[e1,e2] at e;cases e;obtain⟨⟨as,a1⟩,a2,a3⟩:=kB I rs h1 q e1;obtain⟨⟨bs,b1⟩,b2,b3⟩:=iY I rs h2 qs e2;refine⟨⟨_,.cons a1 b1⟩,?_,?_⟩
     ·simp[PyData.canLayAll0,a2,b2]
     ·simp only[PyData.depthAll];exact Nat.max_le.mpr ⟨a3,b3⟩
end
end
def EX(x y:D):M D:=fun S=>match pD S 30 x,pD S 30 y with
 |some p,some q=>.ok (.bl (PyData.eqv p q)) S
 |_,_=>.bad
def Hm(x y:D):M D:=fun S=>match pD S 30 x,pD S 30 y with
 |some p,some q=>.ok (.bl (!PyData.eqv p q)) S
 |_,_=>.bad
section
variable{X:Cx}
theorem cg(hu:X.A.units+64<cLine):Io X (compareOp .Eq) EX:=by
 intro pins s σ H J S x y vx vy v u Q E I rs rx ry rv ru m;unfold EX at m;cases e1:pD S 30 x with
 |none=>rw[e1] at m;exact m.elim
 |some p=>
  cases e2:pD S 30 y with
  |none=>rw[e1,e2] at m;exact m.elim
  |some q=>
   rw[e1,e2] at m;obtain⟨⟨as,a1⟩,a2,a3⟩:=kB I rs rx rv e1;obtain⟨⟨bs,b1⟩,b2,b3⟩:=kB I rs ry ru e2;exact SeqAt.compareEq_reads a1 b1 a2 b2 (by have:=Nat.min_le_left p.depth q.depth;omega) (m.Hl I rs (r_.bl _ _ _ _) rfl)
theorem ut(hu:X.A.units+64<cLine):Io X (compareOp .NotEq) Hm:=by
 intro pins s σ H J S x y vx vy v u Q E I rs rx ry rv ru m;unfold Hm at m;cases e1:pD S 30 x with
 |none=>rw[e1] at m;exact m.elim
 |some p=>
  cases e2:pD S 30 y with
  |none=>rw[e1,e2] at m;exact m.elim
  |some q=>
   rw[e1,e2] at m;obtain⟨⟨as,a1⟩,a2,a3⟩:=kB I rs rx rv e1;obtain⟨⟨bs,b1⟩,b2,b3⟩:=kB I rs ry ru e2;exact SeqAt.compareNe_reads a1 b1 a2 b2 (by have:=Nat.min_le_left p.depth q.depth;omega) (m.Hl I rs (r_.bl _ _ _ _) rfl)
def P0(C:Int->Int->Prop)(g:Int->Int->D):D->D->M D
 |.int i,.int j=>fun S=>Ha (C i j) (.ok (g i j) S) .bad
 |_,_=>M.bad
theorem wn{f:Value->Value->Sem Value}{C:Int->Int->Prop}{g:Int->Int->Int}(h:∀E,Km (X.E8 E) f (rI C fun i j=>.int (g i j))):Io X f (P0 C fun i j=>.int (g i j)):=by
 refine Io.of h (fun H J S x y vx vy d S' rs rx ry e=>?_) (fun x y S c S' e=>?_)
 ·cases x with
  |int i=>
   cases y with
   |int j=>
    cases rx.FY;cases ry.FY;simp only[P0,Ha] at e;split at e
    ·rename_i hc;cases e;exact⟨i,j,rfl,rfl,hc,J,Ext.refl _ _,rs,r_.int _ _ _ _⟩
    ·cases e
   |_=>cases e
  |_=>cases e
 ·cases x with
  |int i=>
   cases y with
   |int j=>
    simp only[P0,Ha] at e;split at e<;>cases e
   |_=>cases e
  |_=>cases e
def tJ(p:Int->Int->Bool):D->D->M D
 |.int i,.int j=>fun S=>.ok (.bl (p i j)) S
 |_,_=>M.bad
theorem tS{f:Value->Value->Sem Value}{p:Int->Int->Bool}(h:∀E,Km (X.E8 E) f (PN fun i j=>.bl (p i j))):Io X f (tJ p):=by
 refine Io.of h (fun H J S x y vx vy d S' rs rx ry e=>?_) (fun x y S c S' e=>?_)
 ·cases x with
  |int i=>
   cases y with
   |int j=>
    cases rx.FY;cases ry.FY;cases e;exact⟨i,j,rfl,rfl,J,Ext.refl _ _,rs,r_.bl _ _ _ _⟩
   |_=>cases e
  |_=>cases e
 ·cases x with
  |int i=>
   cases y with
   |int j=>cases e
   |_=>cases e
  |_=>cases e
def rq:D->D->M D:=P0 (fun _ _=>True) fun i j=>.int (i-j)
def zB:D->D->M D:=P0 CT fun i j=>.int (i / j)
def kj:D->D->M D:=P0 (fun _ j=>0<j) fun i j=>.int (i % j)
theorem wy:Io X (binaryOp .Sub) rq:=wn (C:=fun _ _=>True) (g:=fun i j=>i-j) fun E=>Rj fun _ _ _ _ _ _ _ _ q=>sub_int q
theorem A8:Io X (binaryOp .FloorDiv) zB:=wn fun E=>AE
theorem jj:Io X (binaryOp .Mod) kj:=wn fun E=>Cj
theorem iT:Io X (compareOp .Lt) (tJ fun i j=>decide (i<j)):=tS fun E=>DI
theorem qd:Io X (compareOp .LtE) (tJ fun i j=>decide (i<=j)):=tS fun E=>DF
theorem xk:Io X (compareOp .Gt) (tJ fun i j=>decide (j<i)):=tS fun E=>Dt
theorem xo:Io X (compareOp .GtE) (tJ fun i j=>decide (j<=i)):=tS fun E=>DN
theorem Aa{t b:Addr}{vs ws:List Value}{A:Around}{s:Shared}{prog:Program}{w:World}{Q E:Value->Shared->Prop}(ht:IsTup s.heap t vs.toArray)(hb:IsTup s.heap b ws.toArray)(hv:vs=[])(h1:Q (.ref b) s) :
  wpAny (model prog w) A (binaryOp .Add (.ref t) (.ref b)) Q E s:=by
 obtain⟨⟨cls,dd,data,sl⟩,ho,hc,n,hd⟩:=id ht;obtain⟨⟨Qr,PQ,data2,PR⟩,Mg,Oz,n2,hd2⟩:=id hb;simp only at hc hd Oz hd2;subst hc hd Oz hd2;exact concat_meets ⟨_,ho,rfl⟩ ⟨_,Mg,rfl⟩ noFill_tuple_add seq_tuple_add PySem.F.slot_tuple_add PySem.F.entry_tuple_add (PySem.F.args_tuple_add_2 _ _)
  (tuple_addW0 t b vs.toArray ws.toArray n n2 dd PQ sl PR (by simp[hv])) ⟨ho,Mg,h1⟩
def cK(S:List Cell)(n:Nat):Option (List D):=match S[n]? with
 |some (.lst xs)=>some xs
 |_=>none
def bN:D->D->M D
 |.int i,.int j=>fun S=>.ok (.int (i+j)) S
 |.tup xs,.tup ys=>nr (xs++ys)
 |.ob n,.ob m=>fun S=>match cK S n,cK S m with
  |some xs,some ys=>nZ (xs++ys) S
  |_,_=>.bad
 |_,_=>M.bad
theorem pL{S:List Cell}{n:Nat}{xs:List D}(h:cK S n=some xs):S[n]?=some (.lst xs):=by
 unfold cK at h;split at h
 ·rename_i e;rw[e];cases h;rfl
 ·cases h
theorem EM.lst{K:PySem.W.Frag}{H:Hp}{J:List Addr}{S:List Cell}{n:Nat}{xs:List D}{a:Addr}(rs:EM K H J S)(h:cK S n=some xs)(hn:J[n]?=some a):∃vs,H a=some (.lst vs)/\k_ K H J xs vs:=rs.at_ n _ a (pL h) hn
theorem cy:Io X (binaryOp .Add) bN:=by
 intro pins s σ H J S x y vx vy v u Q E I rs rx ry rv ru m;cases x with
 |int i=>
  cases y with
  |int j=>
   cases rx.FY;cases ry.FY;obtain⟨t,rfl⟩:=rv;obtain⟨t',rfl⟩:=ru;exact add_int (m.Hl (I.tok _) rs (r_.int _ _ _ _) ⟨_,rfl⟩)
  |_=>exact m.elim
 |tup xs=>
  cases y with
  |tup ys=>
   obtain⟨a,vs,rfl,ha,Fg⟩:=rx.HP;obtain⟨b,ws,rfl,hb,rws⟩:=ry.HP;cases rv;cases ru;obtain⟨u_,r1,p1,_⟩:=I.tuple ha;obtain⟨K6,r2,p2,_⟩:=I.tuple hb;simp only[bN,nr,Ha] at m;split at m
   ·rename_i hz;rw[List.length_append] at hz;by_cases h0:u_=[]
    ·have e0:xs=[]:=Fg.Ie.mp (r1.Ie.mp h0);subst e0;exact Aa p1 p2 h0 (m.Hl (v:=.ref b) I rs (by rw[List.nil_append];exact .tup hb rws) rfl)
    ·refine HT.NH p1 p2 h0 (fun z=>?_) (fun z=>?_) (by rw[<-r1.length,<-r2.length,Fg.length,rws.length];exact hz)
     ·have e0:ys=[]:=rws.Ie.mp (r2.Ie.mp z);subst e0;exact m.Hl (v:=.ref a) I rs (by rw[List.append_nil];exact .tup ha Fg) rfl
     ·have hf:H s.heap.objs.size=none:=I.EW.fresh (Nat.le_refl _);refine m.val (H':=upd H s.heap.objs.size (.tup (vs++ws))) (v:=.ref s.heap.objs.size) (I.laid (t':=s.toks) (fun b u e=>Heap.get?_push_of_some _ e) (Nat.le_refl _) ?_) rfl (Got.tup rs (Fg.append rws) hf);exact⟨by rw[List.length_append,Fg.length,rws.length];exact hz,_,r1.append r2,IsTup.new _ _⟩
   ·exact m.elim
  |_=>exact m.elim
 |ob n=>
  cases y with
  |ob k=>
   obtain⟨a,rfl,hn⟩:=rx.HQ;obtain⟨b,rfl,hk⟩:=ry.HQ;simp only[bN] at m;cases e1:cK S n with
   |none=>rw[e1] at m;exact m.elim
   |some xs=>
    cases e2:cK S k with
    |none=>rw[e1,e2] at m;exact m.elim
    |some ys=>
     rw[e1,e2] at m;obtain⟨vs,hv,Fg⟩:=rs.lst e1 hn;obtain⟨ws,hw,rws⟩:=rs.lst e2 hk;simp only[nZ,Ha] at m;split at m
     ·rename_i hz;rw[List.length_append] at hz;refine wpAny_mono (Cd (X:=X.E8 E) pins s σ H (.ref a) (.ref b) v u (Got X.K H J (.ob S.length) (S++[.lst (xs++ys)])) (I.E8 E) rv ru ⟨a,b,vs,ws,rfl,rfl,hv,hw,by rw[Fg.length,rws.length];exact hz,fun p hp=>?_⟩) (fun u s' q=>m u s' (EP.E5 q)) fun _ _ z=>z
      exact Got.lst rs (Fg.append rws) hp
     ·exact m.elim
  |_=>exact m.elim
 |_=>exact m.elim
end
end DL
namespace DL
open PySem PySem.Spec PyProof.Rows L2
section
variable{X:Cx}
def gX:D->D->M D
 |.int i,.int j=>fun S=>Ha (Mf i j) (.ok (.int (i * j)) S) .bad
 |.ob n,.int k=>fun S=>match cK S n with
  |some xs=>Ha ((-(2 ^ 63)<=k/\k<2 ^ 63)/\xs.length * k.toNat<=sizeLine) (.ok (.ob S.length) (S++[.lst (List.replicate k.toNat xs).flatten])) .bad
  |none=>.bad
 |_,_=>M.bad
theorem k_.rep{K:PySem.W.Frag}{H:Hp}{J:List Addr}{xs:List D}{vs:List V}(h:k_ K H J xs vs):∀k:Nat,k_ K H J (List.replicate k xs).flatten (List.replicate k vs).flatten
 |0=>.nil
 |k+1=>by
  rw[List.replicate_succ,List.replicate_succ,List.flatten_cons,List.flatten_cons];exact h.append (k_.rep h k)
theorem kS:Io X (binaryOp .Mult) gX:=by
 refine Io.of (fun E=>OX.or B3) (fun H J S x y vx vy d S' rs rx ry e=>?_) (fun x y S c S' e=>?_)
 ·cases x with
  |int i=>
   cases y with
   |int j=>
    cases rx.FY;cases ry.FY;simp only[gX,Ha] at e;split at e
    ·rename_i hc;cases e;exact .inl ⟨i,j,rfl,rfl,hc,J,Ext.refl _ _,rs,r_.int _ _ _ _⟩
    ·cases e
   |_=>cases e
  |ob n=>
   cases y with
   |int k=>
    obtain⟨a,rfl,hn⟩:=rx.HQ;cases ry.FY;simp only[gX,Ha] at e;cases e1:cK S n with
    |none=>rw[e1] at e;cases e
    |some xs=>
     rw[e1] at e;dsimp only at e;split at e
     ·rename_i hz;cases e;obtain⟨vs,hv,Fg⟩:=rs.lst e1 hn;exact .inr ⟨a,k,vs,rfl,rfl,hv,hz.1.1,hz.1.2,by rw[Fg.length];exact hz.2,fun p hp=>Got.lst rs (Fg.rep _) hp⟩
     ·cases e
   |_=>cases e
  |_=>cases e
 ·cases x with
  |int i=>
   cases y with
   |int j=>
    simp only[gX,Ha] at e;split at e<;>cases e
   |_=>cases e
  |ob n=>
   cases y with
   |int k=>
    simp only[gX,Ha] at e;split at e
    ·split at e<;>cases e
    ·cases e
   |_=>cases e
  |_=>cases e
def gw(S:List Cell):D->Option (List D)
 |.tup xs=>some xs
 |.FP xs=>some xs
 |.ob n=>cK S n
 |_=>none
def v_:D->D->M D
 |x,.int i=>fun S=>match gw S x with
  |some xs=>(match KS xs i with
   |some d=>.ok d S
   |none=>.bad)
  |none=>.bad
 |_,_=>M.bad
theorem k_.KS{K:PySem.W.Frag}{H:Hp}{J:List Addr}{xs:List D}{vs:List V}{i:Int}{d:D}(h:k_ K H J xs vs)(e:L2.KS xs i=some d):∃v,L2.KS vs i=some v/\r_ K H J d v:=by
 unfold L2.KS at e ⊢;rw[h.length];cases e1:LX xs.length i with
 |none=>rw[e1] at e;cases e
 |some j=>
  rw[e1] at e;exact h.get (show xs[j]?=some d from e)
theorem FE:PU X v_:=by
 refine PU.of (r:=fun x y H Q=>Dr X.K x y H Q\/Di X.K x y H Q) (fun E=>(Bu (X:=X.E8 E)).or (Db (X:=X.E8 E))) (fun H J S x y vx vy d S' rs rx ry e=>?_) (fun x y S c S' e=>?_)
 ·cases y with
  |int i=>
   cases ry.FY;simp only[v_] at e;cases x with
   |tup xs=>
    obtain⟨a,vs,rfl,hq,Fg⟩:=rx.HP;simp only[gw] at e;cases e1:KS xs i with
    |none=>rw[e1] at e;cases e
    |some d=>
     rw[e1] at e;cases e;obtain⟨v,h1,h2⟩:=Fg.KS e1;exact .inr ⟨a,vs,i,v,rfl,rfl,hq,h1,J,Ext.refl _ _,rs,h2⟩
   |FP xs=>
    obtain⟨a,vs,rfl,hq,Fg⟩:=rx.Ko;simp only[gw] at e;cases e1:KS xs i with
    |none=>rw[e1] at e;cases e
    |some d=>
     rw[e1] at e;cases e;obtain⟨v,h1,h2⟩:=Fg.KS e1;exact .inl ⟨a,vs,i,v,rfl,rfl,hq.sq,h1,J,Ext.refl _ _,rs,h2⟩
   |ob n=>
    obtain⟨a,rfl,hn⟩:=rx.HQ;simp only[gw] at e;cases e0:cK S n with
    |none=>rw[e0] at e;cases e
    |some xs=>
     rw[e0] at e;dsimp only at e;obtain⟨vs,hv,Fg⟩:=rs.lst e0 hn;cases e1:KS xs i with
     |none=>rw[e1] at e;cases e
     |some d=>
      rw[e1] at e;cases e;obtain⟨v,h1,h2⟩:=Fg.KS e1;exact .inl ⟨a,vs,i,v,rfl,rfl,GP.of hv,h1,J,Ext.refl _ _,rs,h2⟩
   |_=>cases e
  |_=>cases e
 ·cases y with
  |int i=>
   simp only[v_] at e;split at e
   ·split at e<;>cases e
   ·cases e
  |_=>cases e
def fD(xs:List D)(lo hi:Option Int):List D:=(xs.drop (HT.FR xs.length 0 lo)).take (HT.FR xs.length xs.length hi-HT.FR xs.length 0 lo)
theorem k_.cut{K:PySem.W.Frag}{H:Hp}{J:List Addr}{xs:List D}{vs:List V}(h:k_ K H J xs vs)(lo hi:Option Int):k_ K H J (fD xs lo hi) (vO vs lo hi):=by
 unfold fD vO;rw[h.length];exact(h.drop _).take _
def GD:D->Option Int->Option Int->M D
 |.tup xs,lo,hi=>M.ret (.tup (fD xs lo hi))
 |.FP xs,lo,hi=>fun S=>.ok (.ob S.length) (S++[.lst (fD xs lo hi)])
 |.ob n,lo,hi=>fun S=>match cK S n with
  |some xs=>.ok (.ob S.length) (S++[.lst (fD xs lo hi)])
  |none=>.bad
 |_,_,_=>M.bad
theorem mD{prog:Program}{w:World}{A:Around}{E:Value->Shared->Prop}{s:Shared}{t sl:Addr}{items:Array Value}{vl vu:Value}{lo hi:Option Int}{Q:Value->Shared->Prop}(ht:IsTup s.heap t items)(hs:s.heap.IsSliceOf sl vl vu .none)
  (pl:IsPart vl lo) (pu:IsPart vu hi) (hw:HT.FR items.size 0 lo=0/\HT.FR items.size items.size hi=items.size) (h:Q (.ref t) s):wpAny (model prog w) A (getItem (.ref t) (.ref sl)) Q E s:=by
 obtain⟨os,OZ,Ln,O0⟩:=id hs;have Sm:s.TypeIs (.ref sl) "slice":=⟨os,OZ,Ln⟩;unfold getItem
 try with_reducible refine wpAny_holding ?_
 first|refine wpAny_bind (wpAny_pure ?_)|skip
 refine wpAny_bind (wpAny_sequenceKey ht.typeIs (by decide) ?_);refine wpAny_bind (wpAny_callSpecial?_slot (name:=Str.ofString "__getitem__") ht.typeIs PyProof.Rows.slot_tuple_getitem
  (wpAny_call_entry PyProof.Rows.slot_tuple_getitem ht.typeIs entry_tuple_getitem ?_ (args_tuple_getitem _ _)))
 show wpAny _ _ (Builtin.Tuple.tupleItemsOf (.ref t) >>= _) _ _ s;refine wpAny_bind (tupleItemsOf_ ht ?_);refine wpAny_bind (wpAny_typeOf Sm ?_);rw[if_pos (by decide)];refine wpAny_bind (HT.G1 hs pl pu ?_);have SO:((((HT.FR items.size 0 lo:Nat):Int) == 0 && (1:Int) == 1 && (HT.FR items.size items.size hi-HT.FR items.size 0 lo) == items.size)=true):=by
  rw[hw.1,hw.2];simp
 show wpAny _ _ (if (((HT.FR items.size 0 lo:Nat):Int) == 0 && (1:Int) == 1 && (HT.FR items.size items.size hi-HT.FR items.size 0 lo) == items.size)=true then _ else _) _ _ s;rw[if_pos SO];refine wpAny_bind (m:=Builtin.Tuple.tupleIsExact _) (wpAny_bind (wpAny_typeOf ht.typeIs (wpAny_pure ?_)));rw[if_pos (by decide)]
 first
  |exact wpAny_bind (wpAny_rule (wpAny_pure ⟨_,rfl,wpAny_pure h⟩))
  |exact wpAny_bind (wpAny_rule (wpAny_bind (wpAny_pure (wpAny_pure ⟨_,rfl,wpAny_pure h⟩))))
theorem Nu:VZ X GD:=by
 intro pins s σ H J S x vx v vl vu lo hi sl Q E I rs rx rv hs pl pu m;cases x with
 |tup xs=>
  obtain⟨a,vs,rfl,hq,Fg⟩:=rx.HP;cases rv;obtain⟨u_,r,ht,hz⟩:=I.tuple hq;have hlen:u_.toArray.size=xs.length:=by rw[List.size_toArray,<-r.length,Fg.length]
  refine⟨"tuple",_,PyProof.Rows.slot_tuple_getitem.lookup,ht.typeIs,?_⟩;by_cases hw:HT.FR xs.length 0 lo=0/\HT.FR xs.length xs.length hi=xs.length
  ·refine mD ht hs pl pu (by rw[hlen];exact hw) (m.Hl (v:=.ref a) I rs ?_ rfl);have e:fD xs lo hi=xs:=by
    unfold fD;rw[hw.1,hw.2];simp
   rw[e];exact .tup hq Fg
  ·refine HT.Ic ht hs pl pu (by rw[hlen];exact hw) ?_ (by rw[List.size_toArray,<-r.length];exact hz);have hf:H s.heap.objs.size=none:=I.EW.fresh (Nat.le_refl _);refine m.val (H':=upd H s.heap.objs.size (.tup (vO vs lo hi))) (v:=.ref s.heap.objs.size) (I.laid (t':=s.toks) (fun b ob q=>Heap.get?_push_of_some _ q) (Nat.le_refl _) ?_) rfl (Got.tup rs (Fg.cut lo hi) hf);have Nq:u_.toArray.size=vs.length:=by rw[List.size_toArray];exact r.length.symm
   rw[Nq];exact⟨Nat.le_trans (n8 vs lo hi) hz,_,(r.drop (HT.FR vs.length 0 lo)).take (HT.FR vs.length vs.length hi-HT.FR vs.length 0 lo),IsTup.new _ _⟩
 |FP xs=>
  obtain⟨a,vs,rfl,hq,Fg⟩:=rx.Ko;obtain⟨T,id,h1,h2,h3⟩:=w6 (X:=X.E8 E) pins s σ H (.ref a) v vl vu lo hi sl (Got X.K H J (.ob S.length) (S++[.lst (fD xs lo hi)])) (I.E8 E) rv hs pl pu ⟨a,vs,rfl,hq.sq,fun p hp=>Got.lst rs (Fg.cut lo hi) hp⟩;exact⟨T,id,h1,h2,wpAny_mono h3 (fun u s' q=>m u s' (EP.E5 q)) fun _ _ z=>z⟩
 |ob n=>
  obtain⟨a,rfl,hn⟩:=rx.HQ;simp only[GD] at m;cases e0:cK S n with
  |none=>rw[e0] at m;exact m.elim
  |some xs=>
   rw[e0] at m;obtain⟨vs,hv,Fg⟩:=rs.lst e0 hn;obtain⟨T,id,h1,h2,h3⟩:=w6 (X:=X.E8 E) pins s σ H (.ref a) v vl vu lo hi sl (Got X.K H J (.ob S.length) (S++[.lst (fD xs lo hi)])) (I.E8 E) rv hs pl pu ⟨a,vs,rfl,GP.of hv,fun p hp=>Got.lst rs (Fg.cut lo hi) hp⟩;exact⟨T,id,h1,h2,wpAny_mono h3 (fun u s' q=>m u s' (EP.E5 q)) fun _ _ z=>z⟩
 |_=>exact m.elim
def bq:List D->M D
 |[x]=>fun S=>match gw S x with
  |some xs=>.ok (.int xs.length) S
  |none=>.bad
 |_=>M.bad
theorem lj{K:PySem.W.Frag}{H:Hp}{J:List Addr}{S:List Cell}{x:D}{v:V}{xs:List D}(rs:EM K H J S)(rx:r_ K H J x v)(e:gw S x=some xs):∃a vs,v=.ref a/\(GP K H a vs\/Hi K H a vs)/\k_ K H J xs vs:=by
 cases x with
 |tup xs=>
  obtain⟨a,vs,rfl,hq,Fg⟩:=rx.HP;cases e;exact⟨a,vs,rfl,.inr hq,Fg⟩
 |FP xs=>
  obtain⟨a,vs,rfl,hq,Fg⟩:=rx.Ko;cases e;exact⟨a,vs,rfl,.inl hq.sq,Fg⟩
 |ob n=>
  obtain⟨a,rfl,hn⟩:=rx.HQ;obtain⟨vs,hv,Fg⟩:=rs.lst e hn;exact⟨a,vs,rfl,.inl (GP.of hv),Fg⟩
 |_=>cases e
theorem cX:Gy X (.builtin "len") bq:=by
 refine Gy.of (r:=fun xs H Q=>∃p ys,xs=[.ref p]/\(GP X.K H p ys\/Hi X.K H p ys)/\Q (.int ys.length) H) (fun E=>sO (X:=X.E8 E)) (fun H J S xs vs d S' rs rx e=>?_) (fun xs S c S' e=>?_)
 ·match xs,rx,e with
  |[x],rx,e=>
   obtain⟨v,rfl,h1⟩:=rx.Ii;simp only[bq] at e;cases e1:gw S x with
   |none=>rw[e1] at e;cases e
   |some ys=>
    rw[e1] at e;cases e;obtain⟨a,ws,rfl,hq,Fg⟩:=lj rs h1 e1;exact⟨a,ws,rfl,hq,J,Ext.refl _ _,rs,by rw[Fg.length];exact r_.int _ _ _ _⟩
  |[],rx,e=>cases e
  |_ :: _ :: _,rx,e=>cases e
 ·match xs,e with
  |[x],e=>
   simp only[bq] at e;split at e<;>cases e
  |[],e=>cases e
  |_ :: _ :: _,e=>cases e
def uc(g:Int->Int->Int):List D->M D
 |[.int i,.int j]=>M.ret (.int (g i j))
 |_=>M.bad
theorem w8{g:Int->Int->Int}{xs:List D}{S S':List Cell}{d:D}(e:uc g xs S=.ok d S'):∃i j,xs=[.int i,.int j]/\d=.int (g i j)/\S'=S:=by
 unfold uc at e;split at e
 ·rename_i i j;cases e;exact⟨i,j,rfl,rfl,rfl⟩
 ·cases e
theorem xC{g:Int->Int->Int}{xs:List D}{S S':List Cell}{c:Addr}:uc g xs S≠.exc c S':=by
 intro e;unfold uc at e;split at e<;>cases e
theorem CP(hc:X.calm=true):Gy X (.builtin "max") (uc fun i j=>if j > i then j else i):=by
 refine Gy.of (fun E=>xN (X:=X.E8 E) hc) (fun H J S xs vs d S' rs rx e=>?_) (fun xs S c S'=>xC);obtain⟨i,j,rfl,rfl,rfl⟩:=w8 e;obtain⟨v,w,rfl,h1,h2⟩:=rx.NP;cases h1.FY;cases h2.FY;exact⟨i,j,rfl,J,Ext.refl _ _,rs,r_.int _ _ _ _⟩
theorem zE(hc:X.calm=true):Gy X (.builtin "min") (uc fun i j=>if j<i then j else i):=by
 refine Gy.of (fun E=>yd (X:=X.E8 E) hc) (fun H J S xs vs d S' rs rx e=>?_) (fun xs S c S'=>xC);obtain⟨i,j,rfl,rfl,rfl⟩:=w8 e;obtain⟨v,w,rfl,h1,h2⟩:=rx.NP;cases h1.FY;cases h2.FY;exact⟨i,j,rfl,J,Ext.refl _ _,rs,r_.int _ _ _ _⟩
def gx:List D->M D
 |[x]=>fun S=>match gw S x with
  |some xs=>.ok (.tup xs) S
  |none=>.bad
 |_=>M.bad
theorem jL:Gy X (.type "tuple") gx:=by
 refine Gy.of (r:=fun xs H Q=>∃p ys,xs=[.ref p]/\((GP X.K H p ys/\∀l,H l=none->Q (.ref l) (upd H l (.tup ys)))\/(Hi X.K H p ys/\Q (.ref p) H))) (fun E=>rf (X:=X.E8 E)) (fun H J S xs vs d S' rs rx e=>?_) (fun xs S c S' e=>?_)
 ·unfold gx at e;split at e
  ·obtain⟨v,rfl,h1⟩:=rx.Ii;split at e
   ·rename_i e1;cases e;obtain⟨a,ws,rfl,hq,Fg⟩:=lj rs h1 e1;refine⟨a,ws,rfl,?_⟩;rcases hq with hq|hq
    ·exact .inl ⟨hq,fun l hl=>Got.tup rs Fg hl⟩
    ·exact .inr ⟨hq,J,Ext.refl _ _,rs,.tup hq Fg⟩
   ·cases e
  ·cases e
 ·unfold gx at e;split at e
  ·split at e<;>cases e
  ·cases e
def w5:List D->M D
 |[x]=>fun S=>match gw S x with
  |some xs=>.ok (.ob S.length) (S++[.lst xs])
  |none=>.bad
 |_=>M.bad
theorem AN:Gy X (.type "list") w5:=by
 refine Gy.of (r:=fun xs H Q=>∃p ys,xs=[.ref p]/\(GP X.K H p ys\/Hi X.K H p ys)/\∀l,H l=none->Q (.ref l) (upd H l (.lst ys))) (fun E=>sR (X:=X.E8 E)) (fun H J S xs vs d S' rs rx e=>?_) (fun xs S c S' e=>?_)
 ·unfold w5 at e;split at e
  ·obtain⟨v,rfl,h1⟩:=rx.Ii;split at e
   ·rename_i e1;cases e;obtain⟨a,ws,rfl,hq,Fg⟩:=lj rs h1 e1;exact⟨a,ws,rfl,hq,fun l hl=>Got.lst rs Fg hl⟩
   ·cases e
  ·cases e
 ·unfold w5 at e;split at e
  ·split at e<;>cases e
  ·cases e
def Pg(S:List Cell):D->Option String
 |.EJ=>some "NoneType"
 |.bl _=>some "bool"
 |.int _=>some "int"
 |.str _=>some "str"
 |.tup _=>some "tuple"
 |.FP _=>some "list"
 |.ob n=>match S[n]? with
  |some (.lst _)=>some "list"
  |some (.Gu _)=>some "dict"
  |_=>none
 |.xn _=>none
def uo(t T:String):Bool:=t == T || (t == "bool" && T == "int")
def MP(T:String)(x:D):M D:=fun S=>match Pg S x with
 |some t=>.ok (.bl (uo t T)) S
 |none=>.bad
def uE(K:PySem.W.Frag)(T:String):Prop:=∀t∈["NoneType","bool","int","str","tuple","list","dict"],PySem.W.kitOne K (.type t) (.type T)=some (uo t T)
theorem xl(K:PySem.W.Frag):uE K "int":=by
 intro t ht;simp only[List.mem_cons,List.not_mem_nil,or_false] at ht;rcases ht with rfl|rfl|rfl|rfl|rfl|rfl|rfl<;>rfl
theorem uN(K:PySem.W.Frag):uE K "bool":=by
 intro t ht;simp only[List.mem_cons,List.not_mem_nil,or_false] at ht;rcases ht with rfl|rfl|rfl|rfl|rfl|rfl|rfl<;>rfl
theorem n4(K:PySem.W.Frag):uE K "tuple":=by
 intro t ht;simp only[List.mem_cons,List.not_mem_nil,or_false] at ht;rcases ht with rfl|rfl|rfl|rfl|rfl|rfl|rfl<;>rfl
theorem zF{T:String}{pins:EK}{s:Shared}{σ:L2.St}{H:Hp}{J:List Addr}{S:List Cell}{x:D}{vx:V}{v:Value}{Q E:Value->Shared->Prop}(hk:uE X.K T)(I:Inv X pins σ H s)(rs:EM X.K H J S)(rx:r_ X.K H J x vx)(rv:RelV vx v)
  (m:Mt X pins σ H J (MP T x S) Q E):wpAny (model X.prog X.w) X.A (call (.builtin "isinstance") [v,.type T]) Q E s:=by
 unfold MP at m;cases x with
 |EJ=>
  cases rx.Lv;cases rv;exact PySem.W.kia_one PySem.W.kitx_none I.IS True.intro (hk "NoneType" (by simp)) (fun z=>nomatch z) fun tk=>m.Hl (I.tok tk) rs (r_.bl _ _ _ _) rfl
 |bl b=>
  cases rx.Nt;cases rv;exact PySem.W.kia_one PySem.W.kitx_bool I.IS True.intro (hk "bool" (by simp)) (fun z=>nomatch z) fun tk=>m.Hl (I.tok tk) rs (r_.bl _ _ _ _) rfl
 |int i=>
  cases rx.FY;obtain⟨t,rfl⟩:=rv;exact PySem.W.kia_one PySem.W.kitx_int I.IS True.intro (hk "int" (by simp)) (fun z=>nomatch z) fun tk=>m.Hl (I.tok tk) rs (r_.bl _ _ _ _) rfl
 |str i=>
  cases rx.MK;obtain⟨t,rfl⟩:=rv;exact PySem.W.kia_one PySem.W.kitx_str I.IS True.intro (hk "str" (by simp)) (fun z=>nomatch z) fun tk=>m.Hl (I.tok tk) rs (r_.bl _ _ _ _) rfl
 |tup xs=>
  obtain⟨a,vs,rfl,hq,Fg⟩:=rx.HP;cases rv;obtain⟨u_,r,⟨o,h1,h2,_⟩,hz⟩:=I.tuple hq;exact PySem.W.kia_one PySem.W.kitx_tuple I.IS ⟨o,h1,h2⟩ (hk "tuple" (by simp)) (fun z=>nomatch z) fun tk=>m.Hl (I.tok tk) rs (r_.bl _ _ _ _) rfl
 |FP xs=>
  obtain⟨a,vs,rfl,hq,Fg⟩:=rx.Ko;cases rv;obtain⟨u_,r,pl,hz⟩:=I.list hq.sq;obtain⟨o,h1,h2,_⟩:=pl.isList;exact PySem.W.kia_one PySem.W.kitx_list I.IS ⟨o,h1,h2⟩ (hk "list" (by simp)) (fun z=>nomatch z) fun tk=>m.Hl (I.tok tk) rs (r_.bl _ _ _ _) rfl
 |ob n=>
  obtain⟨a,rfl,hn⟩:=rx.HQ;cases rv;simp only[Pg] at m;obtain⟨c,hc,rc⟩:=rs.IY hn;rw[hc] at m;cases c with
  |lst xs=>
   obtain⟨vs,hv,Fg⟩:=rc;obtain⟨u_,r,pl,hz⟩:=I.list (GP.of hv);obtain⟨o,h1,h2,_⟩:=pl.isList;exact PySem.W.kia_one PySem.W.kitx_list I.IS ⟨o,h1,h2⟩ (hk "list" (by simp)) (fun z=>nomatch z) fun tk=>m.Hl (I.tok tk) rs (r_.bl _ _ _ _) rfl
  |Gu kvs=>
   obtain⟨ws,hv,_⟩:=rc;obtain⟨_,_,vs,_,p⟩:=(show Fq X.prog X.w H s.heap a (.dK ws) from I.EW a _ hv);obtain⟨o,es,ep,h1,h2,_⟩:=p;exact PySem.W.kia_one PySem.W.kitx_dict I.IS ⟨o,h1,h2.1⟩ (hk "dict" (by simp)) (fun z=>nomatch z) fun tk=>m.Hl (I.tok tk) rs (r_.bl _ _ _ _) rfl
  |ins C ns ds=>exact m.elim
 |xn c=>exact m.elim
def Kf(T:String)(fe:tB->M D):tB->M D:=fun r=>(fe r).bind (MP T)
variable{e:Expr}{fe:tB->M D}{pos:Pos}
theorem fA{x:Str}{T:String}{p p2:Pos}(he:Fn X e fe)(hg:Gl X "isinstance")(hm:X.mg "isinstance"=none)(X2:Gl X x)(X3:X.mg x=none)(SQ:bootBuiltins x=some (.type T))(hk:uE X.K T)
  (hs:starEach [e,.Name x p2] X.env=[(false,eval e X.env),(false,eval (.Name x p2) X.env)]:=by rfl) (Ke:starEach [.Name x p2] X.env=[(false,eval (.Name x p2) X.env)]:=by rfl) (hn:x≠"__name__":=by decide) (hd:(x == ("__debug__":Str))=false:=by decide) :
  Fn X (.Call (.Name "isinstance" p) [e,.Name x p2] [] pos) (Kf T fe):=by
 intro pins s σ H J r S Q E I m;refine wpAny_Call_Name_kw (kK I.inv hg hm boot_isinstance ?_);refine PyProof.Rows.callWith_builtin1 ?_ (by rw[hs,Ke]) (by rw[Ke];rfl);rw[hs];show wpAny _ _ (spliced ((false,eval e X.env) :: backTo pos [(false,eval (.Name x p2) X.env)])) _ _ s;refine Calls.spliced_cons (he pins s σ H J r S _ E I ?_);unfold Kf M.bind at m;cases e1:fe r S with
 |bad=>rw[e1] at m;exact m
 |exc c S1=>rw[e1] at m;exact m
 |ok d S1=>
  rw[e1] at m;dsimp only at m;rintro v s1 ⟨vx,H1,I1,r1,J1,ex,rs,rv⟩;show wpAny _ _ (spliced ((false,eval (.Name x p2) X.env) :: backTo pos [])) _ _ s1;refine Calls.spliced_cons (kK I1 X2 X3 SQ ?_ hn hd);exact Calls.spliced_nil (zF hk I1 rs rv r1 (Mt.ext ex m))
end
end DL
namespace DL
open PySem PySem.Spec PyProof.Rows L2
open AutoSeq1 (wpAny_loadPart')
section
variable{prog:Program}{w:World}{A:Around}{E:Value->Shared->Prop}{s:Shared}
theorem vW{it t:Addr}{i:Nat}{items:Array Value}{x:Value}{Q:Value->Shared->Prop}(hi:s.heap.IsTupleIter it t i)(ht:s.heap.IsTuple t items)(hx:items[i]?=some x)
  (hQ:∀h',h'.IsTupleIter it t (i+1)->Heap.SameBut it s.heap h'->Q x { s with heap:=h' }):wpAny (model prog w) A (Builtin.SmallTypes.nextOf (.ref it)) Q E s:=by
 obtain⟨oi,OH,V6,NS⟩:=id hi;obtain⟨ot,SR,_,nt,SS⟩:=ht;unfold Builtin.SmallTypes.nextOf;refine wpAny_bind (wpAny_callSpecial?_slot (name:=Str.ofString "__next__") hi.typeIs slot_tupleiter_next
  (wpAny_call_entry slot_tupleiter_next hi.typeIs entry_tupleiter_next ?_ (args_tupleiter_next _)))
 show wpAny _ _ (field (.ref it) 0 >>= _) _ _ s;refine wpAny_bind (wpAny_field OH NS (x:=.ref t) rfl ?_);show wpAny _ _ (if (Value.ref t == Value.none)=true then _ else _) _ _ s;rw[if_neg (show ¬((Value.ref t == Value.none)=true) from Bool.false_ne_true)];show wpAny _ _ (field (.ref it) 1 >>= _) _ _ s;refine wpAny_bind (wpAny_field OH NS (x:=.int i 0) rfl ?_);show wpAny _ _ (seqItems? (.ref t) >>= _) _ _ s;refine wpAny_bind (wpAny_seqItems SR SS ?_);simp only[Int.toNat_natCast,hx];refine wpAny_bind (wpAny_setField OH NS (by simp) (wpAny_pure ⟨x,rfl,wpAny_pure (hQ _ ?_ (Heap.SameBut.update ..))⟩));exact⟨_,Heap.get?_update_self _ OH (Obj.isFreed_of_fields (Obj.data_mapFields NS _)),(Obj.cls_mapFields ..).trans V6,by
  rw[Obj.data_mapFields NS];simp[rawInt]⟩
theorem kO{it t:Addr}{i:Nat}{items:Array Value}{Q:Value->Shared->Prop}(hh:A.handled=none)(hi:s.heap.IsTupleIter it t i)(ht:s.heap.IsTuple t items)(hx:items[i]?=none)
  (hE:∀h' e,Heap.ExtBut it s.heap h'->(∃o,h'.get? e=some o/\o.cls=.type "StopIteration")->E (.ref e) { s with heap:=h' }):wpAny (model prog w) A (Builtin.SmallTypes.nextOf (.ref it)) Q E s:=by
 obtain⟨oi,OH,V6,NS⟩:=id hi;obtain⟨ot,SR,_,nt,SS⟩:=ht;unfold Builtin.SmallTypes.nextOf;refine wpAny_bind (wpAny_callSpecial?_slot (name:=Str.ofString "__next__") hi.typeIs slot_tupleiter_next
  (wpAny_call_entry slot_tupleiter_next hi.typeIs entry_tupleiter_next ?_ (args_tupleiter_next _)))
 show wpAny _ _ (field (.ref it) 0 >>= _) _ _ s;refine wpAny_bind (wpAny_field OH NS (x:=.ref t) rfl ?_);show wpAny _ _ (if (Value.ref t == Value.none)=true then _ else _) _ _ s;rw[if_neg (show ¬((Value.ref t == Value.none)=true) from Bool.false_ne_true)];show wpAny _ _ (field (.ref it) 1 >>= _) _ _ s;refine wpAny_bind (wpAny_field OH NS (x:=.int i 0) rfl ?_);show wpAny _ _ (seqItems? (.ref t) >>= _) _ _ s;refine wpAny_bind (wpAny_seqItems SR SS ?_);simp only[Int.toNat_natCast,hx];refine wpAny_bind (wpAny_rule (wpAny_bind (wpAny_setField OH NS (by simp) ?_)));show wpAny _ _ (newExc (.type "StopIteration") [] >>= _) _ _ _;refine wpAny_bind ?_;simp only[newExc,newTuple];refine wpAny_bind (wpAny_newObj_type ?_ (by size_fits));refine wpAny_bind (m:=firstArgMember _ _) (wpAny_of_eq (a:=Value.none) (by first|rfl|(simp only[firstArgMember];rfl)) ?_);refine wpAny_newObj_type ?_ (by size_fits);simp only[raiseNew];refine wpAny_bind (wpAny_handled ?_)
 first|rw[show A.in1.handled=none from hh]|rw[hh]
 refine wpAny_bind (wpAny_pure (wpAny_throw ?_));exact hE _ _ (((Heap.SameBut.update ..).extBut.push _).push _) ⟨_,Heap.get?_push_size _ rfl,rfl⟩
end
theorem yv{prog:Program}{w:World}{A:Around}(hh:A.handled=none)(it t:Addr)(Nv:t≠it)(items:Array Value) :
  Draws prog w A it [it,t] items.size (fun i v=>items[i]?=some v) (fun i h=>h.IsTupleIter it t i/\h.IsTuple t items) where
 live:=fun _ _ st=>let ⟨o,ho,_⟩:=st.1;⟨o,ho⟩
 frame:=fun _ _ _ st hk=>⟨st.1.at fun o e=>hk it (by simp) o e,let ⟨o,ho,q⟩:=st.2;⟨o,hk t (by simp) o ho,q⟩⟩
 item:=fun i s Q E hi st hQ=>by
  refine vW st.1 st.2 (x:=items[i]) (by simp[hi]) fun h' SU NR=>?_
  obtain⟨o,ho,q⟩:=st.2;exact hQ _ h' s.toks (by simp[hi]) ⟨SU,⟨o,NR.extBut t o Nv ho,q⟩⟩ NR
 done:=fun s Q E st hE=>kO hh st.1 st.2 (by simp) hE
theorem pW{prog:Program}{w:World}{A:Around}{it:Addr}{fp:List Addr}{n:Nat}{P:Nat->Value->Prop}{St:Nat->Heap->Prop}(D:Draws prog w A it fp n P St)(c:Nat) :
  Draws prog w A it fp (n+c) (fun i v=>c<=i/\P (i-c) v) (fun i h=>c<=i/\St (i-c) h) where
 live:=fun i h st=>D.live _ h st.2
 frame:=fun i h h' st hk=>⟨st.1,D.frame _ h h' st.2 hk⟩
 item:=fun i s Q E hi st hQ=>D.item (i-c) s Q E (by have:=st.1;omega) st.2 fun x h' tk hp hs hb=>hQ x h' tk ⟨st.1,hp⟩ ⟨by have:=st.1;omega,by rw[show i+1-c=i-c+1 by have:=st.1;omega];exact hs⟩ hb
 done:=fun s Q E st hE=>D.done s Q E (by have:=st.2;rw[show n+c-c=n by omega] at this;exact this) hE
theorem pZ(l:Addr)(items:Array Value)(n:Nat)(Ph:Option Addr)(sl:Array (Option Value)) :
  Meets (Builtin.«enumerate.__new__» ⟨[.type "enumerate",.ref l],[]⟩) (fun _ R s=>s.heap.get? l=some { cls:=.type "tuple",dict:=Ph,data:=.seq items n,slots:=sl }/\
   R (.ok (.ret (.ref (s.heap.push { cls:=.type "tuple_iterator",data:=.fields #[.ref l,.int 0 0] }).objs.size)))
    { s with heap:=(s.heap.push { cls:=.type "tuple_iterator",data:=.fields #[.ref l,.int 0 0] }).push { cls:=.type "enumerate",data:=.fields #[.none,.bool false,.ref s.heap.objs.size,rawInt 0,.none,.none] } }):=
 .of_wp fun prog w A R s h=>by
  obtain⟨hp,g,d,tk,os⟩:=s;obtain⟨hl,h⟩:=h;have QH:=sub_enumerate;have hT:Heap.IsTuple (Shared.heap ⟨hp,g,d,tk,os⟩) l items:=⟨_,hl,rfl,n,rfl⟩
  wp_walk using wpAny_loadPart' hl
  refine wpAny_stack_any fun st=>wpAny_pure ?_
  split
  ·rename_i c _ _ _ _ _;cases(c == Value.type "enumerate")
   ·wp_walk using wpAny_loadPart' hl,wpAny_pyIter_tuple hT
    exact⟨_,rfl,h⟩
   ·wp_walk using wpAny_loadPart' hl,wpAny_pyIter_tuple hT
    exact⟨_,rfl,h⟩
  ·wp_walk using wpAny_loadPart' hl,wpAny_pyIter_tuple hT
   exact⟨_,rfl,h⟩
end DL
namespace DL
open PySem PySem.Spec PyProof.Rows L2
theorem GH.other{P:Program}{w:World}{H:Hp}{h h':Heap}{ch:List Addr}(x:GH P w H h)(hn:∀b∈ch,H b=none)(k:∀b u,b∉ch->h.get? b=some u->h'.get? b=some u):GH P w H h':=fun a o e=>
 (x a o e).Iq (fun b u hb q=>k b u (fun hm=>by
  rcases hb with rfl|hb
  ·rw[hn b hm] at e;cases e
  ·rw[hn b hm] at hb;cases hb) q) (fun _ q=>q) fun _ _ q=>q
theorem GH.add{P:Program}{w:World}{H:Hp}{h:Heap}{p:Addr}{o:HO}(x:GH P w H h)(hp:H p=none)(new:Fq P w (upd H p o) h p o):GH P w (upd H p o) h:=fun a u e=>by
 by_cases ha:a=p
 ·subst ha;rw[bB] at e;cases e;exact new
 ·rw[bf ha] at e;exact(x a u e).Iq (fun _ _ _ q=>q) (fun b q=>by rw[bf (aY q hp)];exact q) fun b xs q=>by rw[bf (aY q hp)];exact q
theorem Inv.L4{X:Cx}{pins:EK}{σ:L2.St}{H:Hp}{s:Shared}{ch:List Addr}{h':Heap}{tk:Nat}{p:Addr}{o:HO}(I:Inv X pins σ H s)(hf:∀b∈ch,IE X pins H b)(k:∀b u,b∉ch->s.heap.get? b=some u->h'.get? b=some u)
  (hp:s.heap.objs.size<=p) (new:Fq X.prog X.w (upd H p o) h' p o):Inv X pins σ (upd H p o) { s with heap:=h',toks:=tk }:=by
 have Rv:H p=none:=I.EW.fresh hp;have Hc:∀{b:Addr}{u:Obj},s.heap.get? b=some u->b≠p:=fun e=>Nat.ne_of_lt (Nat.lt_of_lt_of_le (Heap.lt_size e) hp)
 refine I.Ov (ch:=ch) rfl ⟨?_,?_,?_,?_,?_,?_,?_⟩ (GH.add (GH.other I.EW (fun b hb=>(hf b hb).1) k) Rv new) I.bare fun b hb=>?_
 ·exact fun b u q _ _ hx=>k b u hx q
 ·exact fun b u q _ _ hx=>⟨u.slots,by rw[k b u hx q]⟩
 ·exact fun b u q n hx=>by rw[bf (Hc q)];exact n
 ·exact fun b u q hx=>⟨u,k b u hx q⟩
 ·exact fun b xs q=>by rw[bf (aY q Rv)];exact q
 ·exact fun b ob u q=>by rw[bf (aY q Rv)];exact q
 ·exact fun b ps q=>⟨#[],by rw[bf (aY q Rv)];simpa using q⟩
 ·obtain⟨_,f1,_,f3,f4,f5⟩:=hf b hb;exact⟨f3,f1,f4,f5⟩
theorem jE{prog:Program}{w:World}{A:Around}{E:Value->Shared->Prop}{s:Shared}{e it a:Addr}{i:Nat}{c:Int}{old:Value}{items:Array Value}{Q:Option Value->Shared->Prop}(hh:A.handled=none)(he:IsEnum s.heap e it c old)(hit:s.heap.IsTupleIter it a i)
  (ot:s.heap.IsTuple a items) (ha:a≠it) (hx:items.size<=i) (hQ:∀h',Heap.ExtBut it s.heap h'->Q none { s with heap:=h' }):wpAny (model prog w) A (pyNext (.ref e)) Q E s:=by
 have hT:s.TypeIs (.ref e) "enumerate":=⟨_,he,rfl⟩;unfold pyNext;refine wpAny_bind (wpAny_attempt (wpAny_callSpecial?_slot (name:=Str.ofString "__next__") hT F.slot_enumerate_next
  (wpAny_call_entry F.slot_enumerate_next hT F.entry_enumerate_next ?_ (F.args_enumerate_next_1 _))))
 show wpAny _ _ (field (.ref e) 2 >>= _) _ _ _;refine wpAny_bind (wpAny_field he rfl (x:=.ref it) rfl ?_);refine wpAny_bind (kO hh hit ot (by simpa using hx) fun h' x L5 SV=>?_);obtain⟨o,ho,hc⟩:=SV;refine wpAny_bind (wpAny_isInstance (T:="StopIteration") (b:=true) ⟨o,ho,hc⟩ isSubtype_stop ?_);exact wpAny_pure (hQ _ L5)
def DQ(K:PySem.W.Frag)(a:Addr)(c:Nat):It:=
 ⟨fun i H=>∃vs x,Hi K H a vs/\vs[i]?=some x,fun i H x H'=>∃p v,H p=none/\H'=upd H p (.tup [.int ((c+i:Nat):Int),v])/\x=.ref p/\∀vs,Hi K H a vs->vs[i]?=some v,fun i H=>∃vs,Hi K H a vs/\vs.length<=i⟩
theorem qu{P:Program}{w:World}{K:PySem.W.Frag}{elts:List Expr}{k1:Nat}{pos:Pos}(a it e:Addr)(c:Nat)(Pj:e≠it) :
  Turn P w K (.Tuple elts k1 pos) (DQ K a c) [e,it] e (fun i h=>(∃old,IsEnum h e it ((c+i:Nat):Int) old)/\h.IsTupleIter it a i) where
 mem:=by simp
 obj:=fun i h st b hb=>by
  obtain⟨⟨old,he⟩,hit⟩:=st;simp at hb;rcases hb with rfl|rfl
  ·exact⟨_,he,fun v z=>by
    have z':Data.fields _=Data.cell v:=z;cases z'⟩
  ·obtain⟨o,ho,hc,hd⟩:=hit;exact⟨o,ho,fun v z=>by rw[hd] at z;cases z⟩
 keep:=fun i h h' st k=>by
  obtain⟨⟨old,he⟩,hit⟩:=st;exact⟨⟨old,k e (by simp) _ he⟩,hit.at fun o ho=>k it (by simp) o ho⟩
 item:=by
  intro X hP hw hK hc i pins s σ H E I hf st hg;subst hP hw hK;obtain⟨⟨old,he⟩,hit⟩:=st;obtain⟨vs,x,hq,hx⟩:=hg;obtain⟨u_,rv,pl,hz⟩:=I.tuple hq;have ot:s.heap.IsTuple a u_.toArray:=pl;have Pk:a≠it:=by
   rintro rfl;obtain⟨o1,h1,h2,_⟩:=ot;obtain⟨o2,h3,h4,_⟩:=hit;rw[h1] at h3;cases h3;rw[h2] at h4;exact absurd h4 (by simp)
  have SW:e≠a:=by
   rintro rfl;obtain⟨o1,h1,h2,_⟩:=ot;rw[he] at h1;cases h1;exact absurd h2 (by simp)
  have hlen:=rv.length;have OD:i<u_.length:=by
   have:=(List.getElem?_eq_some_iff.mp hx).1;omega
  have Dw:=pW (yv (prog:=X.prog) (w:=X.w) (A:=X.A.in1) (I.ok.hd hc) it a Pk u_.toArray) c;refine wpAny_pyNext_enum_itemD Dw (i:=c+i) he ⟨Nat.le_add_right _ _,by rw[show c+i-c=i by omega];exact⟨hit,ot⟩⟩ (by simp;omega) Pj (by simp;exact⟨Pj,SW⟩) fun y h1 tk hP Pl Gz hT hsz hk=>?_
  obtain⟨_,hP⟩:=hP;rw[show c+i-c=i by omega] at hP;have hy:u_[i]?=some y:=by simpa using hP
  obtain⟨_,Gz⟩:=Gz;rw[show c+i+1-c=i+1 by omega] at Gz;refine⟨_,rfl,?_⟩;refine wpAny_letOwnedTupleGo_enum Pl fun h2 P1 Ke=>?_
  obtain⟨u,hu,ru⟩:=rv.get hx;rw[hy] at hu;cases hu;have Nw:H s.heap.objs.size=none:=I.EW.fresh (Nat.le_refl _);have SX:e≠s.heap.objs.size:=Nat.ne_of_lt (Heap.lt_size he);have MQ:∀b u,b∉[e,it]->s.heap.get? b=some u->h2.get? b=some u:=fun b u hb q=>by
   simp at hb;exact Ke.extBut b u hb.1 (hk b u hb.1 hb.2 q)
  have LC:h2.get? s.heap.objs.size=some { cls:=.type "tuple",data:=.seq #[.int ((c+i:Nat):Int) tk,y] }:=Ke.extBut _ _ (Ne.symm SX) hT;refine⟨.ref s.heap.objs.size,upd H s.heap.objs.size (.tup [.int ((c+i:Nat):Int),x]),Inv.L4 (s:=s) (h':=h2) (tk:=tk+1) I hf MQ (Nat.le_refl _) ⟨by show 2<=sizeLine;decide,[.int ((c+i:Nat):Int) tk,y],.cons ⟨_,rfl⟩ (.cons ru .nil),_,LC,rfl,_,rfl⟩,rfl,
   ⟨s.heap.objs.size,x,Nw,rfl,rfl,fun ws hw=>by rw[I.Kd hw hq];exact hx⟩,⟨⟨y,?_⟩,?_⟩,?_⟩
  ·rw[show((c+(i+1):Nat):Int)=((c+i:Nat):Int)+1 by push_cast;omega];exact P1
  ·exact Gz.1.extBut Ke.extBut (Ne.symm Pj)
  ·intro b hb;obtain⟨f0,_⟩:=hf b hb;have:∃o,s.heap.get? b=some o:=by
    simp at hb;rcases hb with rfl|rfl
    ·exact⟨_,he⟩
    ·obtain⟨o,ho,_⟩:=hit;exact⟨o,ho⟩
   obtain⟨o,ho⟩:=this;rw[bf (Nat.ne_of_lt (Heap.lt_size ho))];exact f0
 done:=by
  intro X hP hw hK hc i pins s σ H E I hf st hg;subst hP hw hK;obtain⟨⟨old,he⟩,hit⟩:=st;obtain⟨vs,hq,hx⟩:=hg;obtain⟨u_,rv,pl,hz⟩:=I.tuple hq;have ot:s.heap.IsTuple a u_.toArray:=pl;have Pk:a≠it:=by
   rintro rfl;obtain⟨o1,h1,h2,_⟩:=ot;obtain⟨o2,h3,h4,_⟩:=hit;rw[h1] at h3;cases h3;rw[h2] at h4;exact absurd h4 (by simp)
  have hlen:=rv.length;obtain⟨f0,f1,f2,f3,f4,f5⟩:=hf it (by simp);refine jE (I.ok.hd hc) he hit ot Pk (by simp;omega) fun h' eb=>⟨rfl,I.turned (t':=s.toks) (fun b o hb e=>eb b o hb e) f0 f1 f3 f4 f5⟩
 self:=fun A i s Q E st h=>by
  obtain⟨⟨old,he⟩,hit⟩:=st;exact wpAny_pyIter_enum he h
theorem GQ.OI{K:PySem.W.Frag}{H:Hp}{J:List Addr}{a:Addr}{c:Nat}{xs:List D}{g:Option (Nat×List D)}(EW:∀(H1:Hp) (J1:List Addr) (S:List Cell),Ext H J H1 J1->EM K H1 J1 S->IH g S->∃vs,Hi K H1 a vs/\k_ K H1 J1 xs vs) :
  GQ K (DQ K a c) ⟨xs.zipIdx.map fun p=>.tup [.int ((c+p.2:Nat):Int),p.1],g⟩ H J:=by
 intro H1 J1 S x rs gk;obtain⟨vs,hq,Fg⟩:=EW H1 J1 S x rs gk;have hl:=Fg.length;have hlen:(xs.zipIdx.map fun(p:D×Nat)=>D.tup [.int ((c+p.2:Nat):Int),p.1]).length=xs.length:=by simp
 refine⟨fun i hi=>⟨vs,vs[i]'(by rw[hl];simpa using hi),hq,by simp⟩,⟨vs,hq,by rw[hl];simp⟩,?_⟩;rintro i y H' ⟨p,v,hp,rfl,rfl,hv⟩ d hd;have Jw:(xs.zipIdx.map fun(p:D×Nat)=>D.tup [.int ((c+p.2:Nat):Int),p.1])[i]?=some d:=hd;rw[List.getElem?_map,List.getElem?_zipIdx] at Jw;cases e:xs[i]? with
 |none=>rw[e] at Jw;cases Jw
 |some z=>
  rw[e] at Jw;simp only[Option.map_some,Option.some.injEq,Nat.zero_add] at Jw;subst Jw;obtain⟨v',h1,h2⟩:=Fg.get e;have:=hv vs hq;rw[h1] at this;cases this;obtain⟨J',x',MO,SY⟩:=Got.tup (p:=p) rs (k_.cons (r_.int K H1 J1 ((c+i:Nat):Int)) (.one h2)) hp;exact⟨J',x',MO,SY⟩
theorem jI{prog:Program}{w:World}{A:Around}{E:Value->Shared->Prop}{s:Shared}{e it a:Addr}{i:Nat}{c:Int}{old:Value}{items:Array Value}{Q:Option Value->Shared->Prop}(hh:A.handled=none)(he:IsEnum s.heap e it c old)(hit:s.heap.IsListIter it a i)
  (ot:s.heap.IsList a items) (ha:a≠it) (hx:items.size<=i) (hQ:∀h',Heap.ExtBut it s.heap h'->Q none { s with heap:=h' }):wpAny (model prog w) A (pyNext (.ref e)) Q E s:=by
 have hT:s.TypeIs (.ref e) "enumerate":=⟨_,he,rfl⟩;unfold pyNext;refine wpAny_bind (wpAny_attempt (wpAny_callSpecial?_slot (name:=Str.ofString "__next__") hT F.slot_enumerate_next
  (wpAny_call_entry F.slot_enumerate_next hT F.entry_enumerate_next ?_ (F.args_enumerate_next_1 _))))
 show wpAny _ _ (field (.ref e) 2 >>= _) _ _ _;refine wpAny_bind (wpAny_field he rfl (x:=.ref it) rfl ?_);refine wpAny_bind (wpAny_nextOf_list_end hh hit ot (by simpa using hx) fun h' x L5 SV=>?_);obtain⟨o,ho,hc⟩:=SV;refine wpAny_bind (wpAny_isInstance (T:="StopIteration") (b:=true) ⟨o,ho,hc⟩ isSubtype_stop ?_);exact wpAny_pure (hQ _ L5)
def DJ(K:PySem.W.Frag)(a:Addr)(c:Nat):It:=
 ⟨fun i H=>∃vs x,GP K H a vs/\vs[i]?=some x,fun i H x H'=>∃p v,H p=none/\H'=upd H p (.tup [.int ((c+i:Nat):Int),v])/\x=.ref p/\∀vs,GP K H a vs->vs[i]?=some v,fun i H=>∃vs,GP K H a vs/\vs.length<=i⟩
theorem wg{P:Program}{w:World}{K:PySem.W.Frag}{elts:List Expr}{k1:Nat}{pos:Pos}(a it e:Addr)(c:Nat)(Pj:e≠it) :
  Turn P w K (.Tuple elts k1 pos) (DJ K a c) [e,it] e (fun i h=>(∃old,IsEnum h e it ((c+i:Nat):Int) old)/\h.IsListIter it a i) where
 mem:=by simp
 obj:=fun i h st b hb=>by
  obtain⟨⟨old,he⟩,hit⟩:=st;simp at hb;rcases hb with rfl|rfl
  ·exact⟨_,he,fun v z=>by
    have z':Data.fields _=Data.cell v:=z;cases z'⟩
  ·obtain⟨o,ho,hc,hd⟩:=hit;exact⟨o,ho,fun v z=>by rw[hd] at z;cases z⟩
 keep:=fun i h h' st k=>by
  obtain⟨⟨old,he⟩,hit⟩:=st;exact⟨⟨old,k e (by simp) _ he⟩,hit.at fun o ho=>k it (by simp) o ho⟩
 item:=by
  intro X hP hw hK hc i pins s σ H E I hf st hg;subst hP hw hK;obtain⟨⟨old,he⟩,hit⟩:=st;obtain⟨vs,x,hq,hx⟩:=hg;obtain⟨u_,rv,pl,hz⟩:=I.list hq;have ot:s.heap.IsList a u_.toArray:=pl.isList;have Pk:a≠it:=by
   rintro rfl;obtain⟨o1,h1,h2,_⟩:=ot;obtain⟨o2,h3,h4,_⟩:=hit;rw[h1] at h3;cases h3;rw[h2] at h4;exact absurd h4 (by simp)
  have SW:e≠a:=by
   rintro rfl;obtain⟨o1,h1,h2,_⟩:=ot;rw[he] at h1;cases h1;exact absurd h2 (by simp)
  have hlen:=rv.length;have OD:i<u_.length:=by
   have:=(List.getElem?_eq_some_iff.mp hx).1;omega
  have Dw:=pW (Draws.list (prog:=X.prog) (w:=X.w) (A:=X.A.in1) (I.ok.hd hc) it a Pk u_.toArray) c;refine wpAny_pyNext_enum_itemD Dw (i:=c+i) he ⟨Nat.le_add_right _ _,by rw[show c+i-c=i by omega];exact⟨hit,ot⟩⟩ (by simp;omega) Pj (by simp;exact⟨Pj,SW⟩) fun y h1 tk hP Pl Gz hT hsz hk=>?_
  obtain⟨_,hP⟩:=hP;rw[show c+i-c=i by omega] at hP;have hy:u_[i]?=some y:=by simpa using hP
  obtain⟨_,Gz⟩:=Gz;rw[show c+i+1-c=i+1 by omega] at Gz;refine⟨_,rfl,?_⟩;refine wpAny_letOwnedTupleGo_enum Pl fun h2 P1 Ke=>?_
  obtain⟨u,hu,ru⟩:=rv.get hx;rw[hy] at hu;cases hu;have Nw:H s.heap.objs.size=none:=I.EW.fresh (Nat.le_refl _);have SX:e≠s.heap.objs.size:=Nat.ne_of_lt (Heap.lt_size he);have MQ:∀b u,b∉[e,it]->s.heap.get? b=some u->h2.get? b=some u:=fun b u hb q=>by
   simp at hb;exact Ke.extBut b u hb.1 (hk b u hb.1 hb.2 q)
  have LC:h2.get? s.heap.objs.size=some { cls:=.type "tuple",data:=.seq #[.int ((c+i:Nat):Int) tk,y] }:=Ke.extBut _ _ (Ne.symm SX) hT;refine⟨.ref s.heap.objs.size,upd H s.heap.objs.size (.tup [.int ((c+i:Nat):Int),x]),Inv.L4 (s:=s) (h':=h2) (tk:=tk+1) I hf MQ (Nat.le_refl _) ⟨by show 2<=sizeLine;decide,[.int ((c+i:Nat):Int) tk,y],.cons ⟨_,rfl⟩ (.cons ru .nil),_,LC,rfl,_,rfl⟩,rfl,
   ⟨s.heap.objs.size,x,Nw,rfl,rfl,fun ws hw=>by rw[I.K0 hw hq];exact hx⟩,⟨⟨y,?_⟩,?_⟩,?_⟩
  ·rw[show((c+(i+1):Nat):Int)=((c+i:Nat):Int)+1 by push_cast;omega];exact P1
  ·exact Gz.1.extBut Ke.extBut (Ne.symm Pj)
  ·intro b hb;obtain⟨f0,_⟩:=hf b hb;have:∃o,s.heap.get? b=some o:=by
    simp at hb;rcases hb with rfl|rfl
    ·exact⟨_,he⟩
    ·obtain⟨o,ho,_⟩:=hit;exact⟨o,ho⟩
   obtain⟨o,ho⟩:=this;rw[bf (Nat.ne_of_lt (Heap.lt_size ho))];exact f0
 done:=by
  intro X hP hw hK hc i pins s σ H E I hf st hg;subst hP hw hK;obtain⟨⟨old,he⟩,hit⟩:=st;obtain⟨vs,hq,hx⟩:=hg;obtain⟨u_,rv,pl,hz⟩:=I.list hq;have ot:s.heap.IsList a u_.toArray:=pl.isList;have Pk:a≠it:=by
   rintro rfl;obtain⟨o1,h1,h2,_⟩:=ot;obtain⟨o2,h3,h4,_⟩:=hit;rw[h1] at h3;cases h3;rw[h2] at h4;exact absurd h4 (by simp)
  have hlen:=rv.length;obtain⟨f0,f1,f2,f3,f4,f5⟩:=hf it (by simp);refine jI (I.ok.hd hc) he hit ot Pk (by simp;omega) fun h' eb=>⟨rfl,I.turned (t':=s.toks) (fun b o hb e=>eb b o hb e) f0 f1 f3 f4 f5⟩
 self:=fun A i s Q E st h=>by
  obtain⟨⟨old,he⟩,hit⟩:=st;exact wpAny_pyIter_enum he h
theorem GQ.QI{K:PySem.W.Frag}{H:Hp}{J:List Addr}{a:Addr}{c:Nat}{xs:List D}{g:Option (Nat×List D)}(EW:∀(H1:Hp) (J1:List Addr) (S:List Cell),Ext H J H1 J1->EM K H1 J1 S->IH g S->∃vs,GP K H1 a vs/\k_ K H1 J1 xs vs) :
  GQ K (DJ K a c) ⟨xs.zipIdx.map fun p=>.tup [.int ((c+p.2:Nat):Int),p.1],g⟩ H J:=by
 intro H1 J1 S x rs gk;obtain⟨vs,hq,Fg⟩:=EW H1 J1 S x rs gk;have hl:=Fg.length;have hlen:(xs.zipIdx.map fun(p:D×Nat)=>D.tup [.int ((c+p.2:Nat):Int),p.1]).length=xs.length:=by simp
 refine⟨fun i hi=>⟨vs,vs[i]'(by rw[hl];simpa using hi),hq,by simp⟩,⟨vs,hq,by rw[hl];simp⟩,?_⟩;rintro i y H' ⟨p,v,hp,rfl,rfl,hv⟩ d hd;have Jw:(xs.zipIdx.map fun(p:D×Nat)=>D.tup [.int ((c+p.2:Nat):Int),p.1])[i]?=some d:=hd;rw[List.getElem?_map,List.getElem?_zipIdx] at Jw;cases e:xs[i]? with
 |none=>rw[e] at Jw;cases Jw
 |some z=>
  rw[e] at Jw;simp only[Option.map_some,Option.some.injEq,Nat.zero_add] at Jw;subst Jw;obtain⟨v',h1,h2⟩:=Fg.get e;have:=hv vs hq;rw[h1] at this;cases this;obtain⟨J',x',MO,SY⟩:=Got.tup (p:=p) rs (k_.cons (r_.int K H1 J1 ((c+i:Nat):Int)) (.one h2)) hp;exact⟨J',x',MO,SY⟩
end DL
namespace DL
open PySem PySem.Spec PyProof.Rows L2
section
variable{prog:Program}{w:World}{A:Around}{E:Value->Shared->Prop}{s:Shared}
theorem qG{l:Addr}{items:Array Value}{Q:Value->Shared->Prop}(hL:s.heap.IsTuple l items)
  (h:∀h',IsEnum h' (s.heap.objs.size+1) s.heap.objs.size 0 .none->h'.IsTupleIter s.heap.objs.size l 0->(∀b o,s.heap.get? b=some o->h'.get? b=some o)->Q (.ref (s.heap.objs.size+1)) { s with heap:=h' }) :
  wpAny (model prog w) A (call (.type "enumerate") [.ref l]) Q E s:=by
 obtain⟨⟨c,Ph,dt,sl⟩,hl,hc,n,hd⟩:=hL;simp only at hc hd;subst hc hd;refine callType_new F.called_enumerate (by decide) (F.typeCall_enumerate_1 _) (F.newCall_enumerate_1 _) (fun obj=>F.args_object_init_2 obj _) F.entry_enumerate_new (pZ l items n Ph sl) ⟨hl,?_⟩;have hz:(s.heap.push { cls:=.type "tuple_iterator",data:=.fields #[.ref l,.int 0 0] }).objs.size=s.heap.objs.size+1:=Heap.size_push ..;show _/\_;rw[hz];have he:IsEnum ((s.heap.push { cls:=.type "tuple_iterator",data:=.fields #[.ref l,.int 0 0] }).push { cls:=.type "enumerate",data:=.fields #[.none,.bool false,.ref s.heap.objs.size,rawInt 0,.none,.none] }) (s.heap.objs.size+1) s.heap.objs.size 0 .none:=by
  have q:=Heap.get?_push_size (s.heap.push { cls:=.type "tuple_iterator",data:=.fields #[.ref l,.int 0 0] }) (o:={ cls:=.type "enumerate",data:=.fields #[.none,.bool false,.ref s.heap.objs.size,rawInt 0,.none,.none] }) rfl;rw[hz] at q;exact q
 exact⟨⟨_,he,rfl⟩,h _ he ⟨_,Heap.get?_push_of_some _ (Heap.get?_push_size _ rfl),rfl,rfl⟩ fun b o x=>Heap.get?_push_of_some _ (Heap.get?_push_of_some _ x)⟩
end
def iU(c:Nat)(xs:List D):List D:=xs.zipIdx.map fun p=>.tup [.int ((c+p.2:Nat):Int),p.1]
def wV(c:Nat):D->M Wk
 |.tup xs=>M.ret ⟨iU c xs,none⟩
 |.ob n=>fun S=>match cK S n with
  |some xs=>.ok ⟨iU c xs,some (n,xs)⟩ S
  |none=>.bad
 |_=>M.bad
def wZ(c:Nat)(fe:tB->M D):tB->M Wk:=fun r=>(fe r).bind (wV c)
section
variable{X:Cx}{e:Expr}{fe:tB->M D}{pos:Pos}{elts:List Expr}{k1:Nat}{IW:Pos}
theorem sJ{pins:EK}{σ:L2.St}{H:Hp}{s:Shared}(I:Inv X pins σ H s):∀b∈[s.heap.objs.size+1,s.heap.objs.size],IE X pins H b:=fun b hb=>by
 simp at hb;rcases hb with rfl|rfl
 ·exact I.Md (Nat.le_succ _) (I.EW.fresh (Nat.le_succ _))
 ·exact I.Md (Nat.le_refl _) (I.EW.fresh (Nat.le_refl _))
theorem zD{p:Pos}(hg:Gl X "enumerate")(hm:X.mg "enumerate"=none)(he:Fn X e fe)(hs:starEach [e] X.env=[(false,eval e X.env)]:=by rfl):PId X (.Tuple elts k1 IW) (.Call (.Name "enumerate" p) [e] [] pos) (wZ 0 fe):=by
 intro pins s σ H J r S Q E I m;have m':L3 X pins σ H J (.Tuple elts k1 IW) ((ac fe ai r).bind (sN (wV 0)) S) Q E:=by
  unfold wZ M.bind at m;unfold ac ai M.bind M.ret;cases e1:fe r S<;>(rw[e1] at m;exact m)
 refine Call_ (kK I.inv hg hm boot_enumerate (PyProof.Rows.callWith_type1 (Rt (af he ah (by rw[hs];rfl)) I m' (fun xs S1 s1 H1 J1 vs us I1 rv r1 m1=>?_) pos) hs rfl))
 match xs,m1,rv with
 |[],m1,rv=>exact m1.elim
 |_ :: _ :: _,m1,rv=>exact m1.elim
 |[x],m1,rv=>
  obtain⟨v,rfl,h1⟩:=rv.Ii;obtain⟨u,rfl,ru⟩:=Vals.one r1
  change L3 X pins σ H1 J1 (.Tuple elts k1 IW) (wV 0 x S1) Q E at m1
  cases x with
  |tup ys=>
   obtain⟨a,ws,rfl,hq,Fg⟩:=h1.HP;cases ru;obtain⟨u_,rl,pl,hz⟩:=I1.inv.tuple hq;refine qG pl fun h' L5 K9 hk'=>wpAny_pyIter_enum L5 ?_
   refine m1 _ _ ⟨s1.heap.objs.size+1,[s1.heap.objs.size+1,s1.heap.objs.size],_,_,H1,rfl,I1.inv.kept (t':=s1.toks) hk',qu a s1.heap.objs.size (s1.heap.objs.size+1) 0 (Nat.succ_ne_self _),⟨⟨_,L5⟩,K9⟩,sJ I1.inv,J1,Ext.refl _ _,I1.st,trivial,?_⟩;exact GQ.OI fun H2 J2 S2 x2 Ih _=>⟨ws,Hi.ext x2 hq,Fg.ext x2⟩
  |ob n=>
   obtain⟨a,rfl,hn⟩:=h1.HQ;cases ru;simp only[wV] at m1;cases e1:cK S1 n with
   |none=>rw[e1] at m1;exact m1.elim
   |some ys=>
    rw[e1] at m1;obtain⟨ws,hv,Fg⟩:=I1.st.lst e1 hn;obtain⟨u_,rl,pl,hz⟩:=I1.inv.list (GP.of hv);refine call_enumerate_list pl.isList fun h' L5 K9 Rw hk'=>wpAny_pyIter_enum L5 ?_
    refine m1 _ _ ⟨s1.heap.objs.size+1,[s1.heap.objs.size+1,s1.heap.objs.size],_,_,H1,rfl,I1.inv.kept (t':=s1.toks) hk',wg a s1.heap.objs.size (s1.heap.objs.size+1) 0 (Nat.succ_ne_self _),⟨⟨_,L5⟩,K9⟩,sJ I1.inv,J1,Ext.refl _ _,I1.st,pL e1,?_⟩;refine GQ.QI fun H2 J2 S2 x2 Ih gk=>?_
    have PO:J2[n]?=some a:=by
     obtain⟨m,em⟩:=x2.pre;rw[em,List.getElem?_append_left (List.getElem?_eq_some_iff.mp hn).1];exact hn
    obtain⟨X4,h2,Kn⟩:=Ih.at_ n _ a gk PO;exact⟨X4,GP.of h2,Kn⟩
  |_=>exact m1.elim
def Pm(X:Cx)(id:String)(g:D->List D->M D):Prop:=∀(pins:EK) (s:Shared) (σ:L2.St) (H:Hp) (J:List Addr) (S:List Cell) (x:D) (xs:List D) (vx:V) (vs:List V) (v:Value) (us:List Value) (Q E:Value->Shared->Prop),
 Inv X pins σ H s->EM X.K H J S->r_ X.K H J x vx->k_ X.K H J xs vs->RelV vx v->Vals vs us->Mt X pins σ H J (g x xs S) Q E->wpAny (model X.prog X.w) X.A (call (.builtin id) (v :: us)) Q E s
theorem Cz{es:List Expr}{ft:tB->M (List D)}(h:KU X es ft){k:List D->M D}{pins:EK}{s:Shared}{σ:L2.St}{H:Hp}{J:List Addr}{r:tB}{S:List Cell}{Q E:Value->Shared->Prop}{Q':List Value->Shared->Prop}(I:At X pins σ H J r S s)
  (m:Mt X pins σ H J ((ft r).bind k S) Q E) (hk:∀xs S1 s1 H1 J1 vs us,At X pins σ H1 J1 r S1 s1->Ext H J H1 J1->k_ X.K H1 J1 xs vs->Vals vs us->Mt X pins σ H1 J1 (k xs S1) Q E->Q' us s1) (pos:Pos) :
  wpAny (model X.prog X.w) X.A (spliced (backTo pos (starEach es X.env))) Q' E s:=by
 refine h pos pins s σ H J r S _ E I ?_;unfold M.bind at m;cases e1:ft r S with
 |bad=>rw[e1] at m;exact m
 |exc c S1=>rw[e1] at m;exact m
 |ok x S1=>
  rw[e1] at m;intro us s1 ⟨vs,H1,I1,r1,J1,Hk,Hz,GY⟩;exact hk x S1 s1 H1 J1 vs us ⟨I1,I.loc.ext Hk,Hz⟩ Hk GY r1 (Mt.ext Hk m)
def Be(x:D):M Unit:=fun S=>match x with
 |.ob n=>(match cK S n with
  |some _=>.ok () S
  |none=>.bad)
 |_=>.bad
def Ij(g:D->List D->M D)(fo:tB->M D)(ft:tB->M (List D)):tB->M D:=fun r=>(fo r).bind fun x=>(Be x).bind fun _=>(ft r).bind fun xs=>g x xs
theorem ei{o:Expr}{es:List Expr}{fo:tB->M D}{ft:tB->M (List D)}{name:Str}{apos Fy:Pos}{id:String}{g:D->List D->M D}(slot:Slot "list" name id)(S8:typeOf (.builtin id)=pure (.type "method_descriptor"))(hm:Pm X id g)
  (ho:Fn X o fo) (ha:KU X (e :: es) ft)
  (IZ:attributeBase o name X.env (eval o X.env)=eval o X.env:=by rfl)
  (LD:((backTo Fy (starEach (e :: es) X.env)).all (fun x=>!x.1) && (backToKw Fy (keywordEach [] X.env)).all (fun x=>x.1.isSome)
   && decide ((e :: es).length+([]:List Keyword).length+(if ([]:List Keyword).isEmpty then 0 else 1)<30))=true:=by rfl)
  (I0:(apos.endLine == Fy.line)=true:=by rfl) (hs:starEach (e :: es) X.env=(false,eval e X.env) :: starEach es X.env:=by rfl) (I_:(backTo Fy (starEach es X.env)).any (·.1)=false:=by rfl) :
  Fn X (.Call (.Attribute o name apos) (e :: es) [] Fy) (Ij g fo ft):=by
 intro pins s σ H J r S Q E I m;refine wpAny_Call_method_late IZ LD I0 rfl (ho pins s σ H J r S _ E I ?_);unfold Ij M.bind at m;cases e1:fo r S with
 |bad=>rw[e1] at m;exact m
 |exc c S1=>rw[e1] at m;exact m
 |ok x S1=>
  rw[e1] at m;dsimp only at m;rintro v s1 ⟨vx,H1,I1,r1,J1,Hk,Hz,GY⟩;cases x with
  |ob n=>
   obtain⟨a,rfl,hn⟩:=GY.HQ;simp only[Be] at m;cases e2:cK S1 n with
   |none=>rw[e2] at m;exact m.elim
   |some xs=>
    rw[e2] at m;obtain⟨ws,hv,Fg⟩:=Hz.lst e2 hn;obtain⟨h1,h2⟩:=Cy I1 r1 (T:="list") (.inl ⟨rfl,ws,GP.of hv⟩);refine⟨"list",id,PySem.F.plainAttrs_list,slot,S8,h1,h2,?_⟩;have m:=Mt.ext Hk m;have hA:=Cz (k:=fun xs=>g (.ob n) xs) (Q':=fun us s2=>wpAny (model X.prog X.w) X.A (call (.builtin id) (v :: us)) Q E s2) ha ⟨I1,I.loc.ext Hk,Hz⟩ m (fun xs S2 s2 H2 J2 vs us I2 x2 rv r2 m2=>?_) Fy
    ·rw[hs] at hA ⊢;exact Calls.callWith_builtin (by show(false || (backTo Fy (starEach es X.env)).any (·.1))=false;rw[I_]<;>rfl) (Calls.evalArgs_plain hA)
    ·exact hm pins s2 σ H2 J2 S2 (.ob n) xs (.ref a) vs v us Q E I2.inv I2.st (GY.ext x2) rv r1 r2 m2
  |_=>exact m.elim
def j6:D->List D->M D
 |.ob n,[y]=>fun S=>match cK S n with
  |some xs=>Ha (xs.length<sizeLine) (.ok .EJ (S.set n (.lst (xs++[y])))) .bad
  |none=>.bad
 |_,_=>M.bad
theorem dD:Pm X "list.append" j6:=by
 intro pins s σ H J S x xs vx vs v us Q E I rs rx Kr rv Fg m
 match x,xs,m,rx,Kr with
 |.ob n,[y],m,rx,Kr=>
  obtain⟨a,rfl,hn⟩:=rx.HQ;obtain⟨w,rfl,HW⟩:=Kr.Ii;simp only[j6,Ha] at m;cases e1:cK S n with
  |none=>rw[e1] at m;exact m.elim
  |some xs=>
   rw[e1] at m;dsimp only at m;obtain⟨ws,hv,rws⟩:=rs.lst e1 hn;split at m
   ·rename_i hz;refine wpAny_mono (rF (X:=X.E8 E) pins s σ H (.ref a) [w] v us (Got X.K H J .EJ (S.set n (.lst (xs++[y])))) (I.E8 E) rv Fg ⟨a,ws,w,rfl,rfl,hv,by rw[rws.length];exact hz,?_⟩) (fun u s' q=>m u s' (EP.E5 q)) fun _ _ z=>z
    have x9:Ext H J (upd H a (.lst (ws++[w]))) J:=Ext.write hv rfl;exact⟨J,x9,rs.write hn ⟨_,bB,(rws.ext x9).append (.one (HW.ext x9))⟩,r_.EJ _ _ _⟩
   ·exact m.elim
 |.ob n,[],m,_,_=>exact m.elim
 |.ob n,_ :: _ :: _,m,_,_=>exact m.elim
 |.EJ,xs,m,_,_=>cases xs<;>exact m.elim
 |.bl _,xs,m,_,_=>cases xs<;>exact m.elim
 |.int _,xs,m,_,_=>cases xs<;>exact m.elim
 |.str _,xs,m,_,_=>cases xs<;>exact m.elim
 |.tup _,xs,m,_,_=>cases xs<;>exact m.elim
 |.FP _,xs,m,_,_=>cases xs<;>exact m.elim
 |.xn _,xs,m,_,_=>cases xs<;>exact m.elim
end
end DL
namespace DL
open PySem PySem.Spec PyProof.Rows L2
structure GZ(P:Program)(w:World)(K:PySem.W.Frag)(mg:Str->Option Value)(base:Heap)(CX:Ir)(x:Str)(k:Nat)(ps:List Str)(F:List D->M D):Prop where
 ex:∃f fd,mg x=some (.ref f)/\PySem.W.keepIn K (.ref f)=true/\Binds K fd ps []/\FK P w K mg base CX k f fd ps F
theorem aN{X:Cx}{CX:Ir}{k:Nat}{ps:List Str}{F:List D->M D}{x:Str}{p pos:Pos}{e:Expr}{es:List Expr}{ft:tB->M (List D)}(h:GZ X.prog X.w X.K X.mg X.base CX x k ps F)(hr:FX k X.A)(hg:Gl X x)(hx:oy CX X)(ha:KU X (e :: es) ft)
  (hl:∀r S xs S',ft r S=.ok xs S'->xs.length=ps.length)
  (Mh:(x == ("__debug__":Str))=false:=by decide) (he:starEach (e :: es) X.env=(false,eval e X.env) :: starEach es X.env:=by rfl) (K3:(backTo pos (starEach es X.env)).any (·.1)=false:=by rfl) :
  Fn X (.Call (.Name x p) (e :: es) [] pos) (al F ft):=by
 obtain⟨f,fd,hm,hk,hb,hF⟩:=h.ex;exact AR hF hr hg hm hk hb hx ha hl Mh he K3
theorem aH:∀(r:tB) (S:List Cell) (xs:List D) (S':List Cell),ai r S=.ok xs S'->xs.length=0:=by
 intro r S xs S' e;cases e;rfl
theorem ak{n:Nat}{f:tB->M D}{g:tB->M (List D)}(h:∀(r:tB) (S:List Cell) (xs:List D) (S':List Cell),g r S=.ok xs S'->xs.length=n):∀(r:tB) (S:List Cell) (xs:List D) (S':List Cell),ac f g r S=.ok xs S'->xs.length=n+1:=by
 intro r S xs S' e;unfold ac M.bind at e;cases e1:f r S with
 |bad=>rw[e1] at e;cases e
 |exc c S1=>rw[e1] at e;cases e
 |ok x S1=>
  rw[e1] at e;dsimp only at e;cases e2:g r S1 with
  |bad=>rw[e2] at e;cases e
  |exc c S1=>rw[e2] at e;cases e
  |ok ys S2=>
   rw[e2] at e;have e':R.ok (x :: ys) S2=R.ok xs S':=e
   injection e' with e3 e4
   rw[<-e3,List.length_cons,h r S1 ys S2 e2]
def fin(S0:List Cell):Lp->R D
 |some (.rt d,S')=>.ok d S'
 |some (.nx _,S')=>.ok .EJ S'
 |some (.xc c _,S')=>.exc c S'
 |_=>.bad
theorem mY{S0:List Cell}{x:Lp}:Cn S0 x (fin S0 x):=by
 match x with
 |none=>trivial
 |some (.rt d,S')=>exact⟨[],.inl rfl,.inl (by rw[List.append_nil])⟩
 |some (.nx r,S')=>exact⟨[],.inl rfl,.inr ⟨rfl,r,by rw[List.append_nil]⟩⟩
 |some (.xc c r,S')=>exact⟨r,rfl⟩
 |some (.bk r,S')=>trivial
 |some (.ct r,S')=>trivial
open Classical in
def cG(S0:List Cell):Lp->R D
 |some (.rt d,S')=>if (∃G,S'=S0++G)/\Gp S0.length d then .ok d S0 else .bad
 |some (.nx _,S')=>if ∃G,S'=S0++G then .ok .EJ S0 else .bad
 |some (.xc c _,S')=>.exc c S'
 |_=>.bad
theorem yo{S0:List Cell}{x:Lp}:Cn S0 x (cG S0 x):=by
 match x with
 |none=>trivial
 |some (.rt d,S')=>
  simp only[cG];by_cases h:(∃G,S'=S0++G)/\Gp S0.length d
  ·rw[if_pos h];obtain⟨⟨G,rfl⟩,hd⟩:=h;exact⟨G,.inr ⟨Nat.le_refl _,hd,.inl rfl⟩,.inl rfl⟩
  ·rw[if_neg h];trivial
 |some (.nx r,S')=>
  simp only[cG];by_cases h:∃G,S'=S0++G
  ·rw[if_pos h];obtain⟨G,rfl⟩:=h;exact⟨G,.inr ⟨Nat.le_refl _,by unfold Gp;trivial,.inl rfl⟩,.inr ⟨rfl,r,rfl⟩⟩
  ·rw[if_neg h];trivial
 |some (.xc c r,S')=>exact⟨r,rfl⟩
 |some (.bk r,S')=>trivial
 |some (.ct r,S')=>trivial
def lx:tB->M Bool:=fun _=>M.ret true
def G2:D->D->M D:=tJ fun i j=>decide (i<j)
def L6:D->D->M D:=tJ fun i j=>decide (i<=j)
def MR:D->D->M D:=tJ fun i j=>decide (j<i)
def Ja:D->D->M D:=tJ fun i j=>decide (j<=i)
def Cf:List D->M D:=uc fun i j=>if j > i then j else i
def xL:List D->M D:=uc fun i j=>if j<i then j else i
def P2(g:D->M D)(fa:tB->M D):tB->M D:=fun r=>(fa r).bind g
theorem Dm{X:Cx}{a:Expr}{fa:tB->M D}{pos:Pos}{op:UnaryOp}{g:D->M D}(ho:Qx X (unaryOp op) g)(ha:Fn X a fa):Fn X (.UnaryOp op a pos) (P2 g fa):=by
 intro pins s σ H J r S Q E I m;refine UnaryOp_ (ha pins s σ H J r S _ E I ?_);unfold P2 M.bind at m;cases e1:fa r S with
 |bad=>rw[e1] at m;exact m
 |exc c S1=>rw[e1] at m;exact m
 |ok x S1=>
  rw[e1] at m;rintro v s1 ⟨vx,H1,I1,r1,J1,ex,rs,rv⟩;exact ho pins s1 σ H1 J1 S1 x vx v Q E I1 rs rv r1 (Mt.ext ex m)
def AZ:D->M D
 |.int i=>M.ret (.int (-i))
 |_=>M.bad
theorem Cu{X:Cx}:Qx X (unaryOp .USub) AZ:=by
 refine Qx.of (fun E=>CY) (fun H J S x vx d S' rs rx e=>?_) (fun x S c S' e=>?_)
 ·cases x with
  |int i=>
   cases rx.FY;cases e;exact⟨i,rfl,J,Ext.refl _ _,rs,r_.int _ _ _ _⟩
  |_=>cases e
 ·cases x with
  |int i=>cases e
  |_=>cases e
def tu(x:D):M Bool:=fun S=>match x with
 |.EJ=>.ok false S
 |.bl b=>.ok b S
 |.int i=>.ok (i != 0) S
 |.tup xs=>.ok (!xs.isEmpty) S
 |.FP xs=>.ok (!xs.isEmpty) S
 |.ob n=>(match S[n]? with
  |some (.lst xs)=>.ok (!xs.isEmpty) S
  |some (.Gu kvs)=>.ok (!kvs.isEmpty) S
  |_=>.bad)
 |_=>.bad
def bO(f:tB->M D):tB->M Bool:=fun r=>(f r).bind tu
theorem k_.isEmpty{K:PySem.W.Frag}{H:Hp}{J:List Addr}{xs:List D}{vs:List V}(h:k_ K H J xs vs):vs.isEmpty=xs.isEmpty:=by
 have:=h.length;cases xs with
 |nil=>cases vs with
  |nil=>rfl
  |cons _ _=>cases this
 |cons _ _=>cases vs with
  |nil=>cases this
  |cons _ _=>rfl
theorem EG.isEmpty{κ:Type}{K:PySem.W.Frag}{H:Hp}{J:List Addr}{xs:List (κ×D)}{vs:List (κ×V)}(h:EG K H J xs vs):vs.isEmpty=xs.isEmpty:=by
 have:=h.length;cases xs with
 |nil=>cases vs with
  |nil=>rfl
  |cons _ _=>cases this
 |cons _ _=>cases vs with
  |nil=>cases this
  |cons _ _=>rfl
theorem cR{X:Cx}{a:Expr}{fa:tB->M D}(ha:Fn X a fa)(he:∀whole,isTrue a X.env whole=(do let v <-whole;standAt a.pos;holding [v] (truthy v)):=by intro _;rfl):L1 X a (bO fa):=by
 intro pins s σ H J r S Q E I m;refine isTrue_plain (ha pins s σ H J r S _ E I ?_) (he _);unfold bO M.bind at m;cases e1:fa r S with
 |bad=>rw[e1] at m;exact m
 |exc c S1=>rw[e1] at m;exact m
 |ok x S1=>
  rw[e1] at m;rintro v s1 ⟨vx,H1,I1,r1,J1,ex,rs,rv⟩;have fin:∀k,Dv X.K vx H1 k->tu x S1=.ok k S1->wpAny (model X.prog X.w) X.A (truthy v) Q E s1:=fun k ht hk=>by
   dsimp only at m;rw[hk] at m;exact wpAny_mono (Cq (X:=X.E8 E) pins s1 σ H1 vx v (fun b H'=>b=k/\H'=H1) (I1.E8 E) r1 ⟨k,ht,rfl,rfl⟩) (fun b s2 ⟨H2,I2,hb,hH⟩=>by subst hb hH;exact m s2 ⟨_,I2.E5,J1,ex,rs⟩) fun _ _ z=>z
  cases x with
  |EJ=>cases rv.Lv;exact fin false rfl rfl
  |bl b=>cases rv.Nt;exact fin b rfl rfl
  |int i=>cases rv.FY;exact fin _ rfl rfl
  |tup xs=>
   obtain⟨a,vs,rfl,hq,Fg⟩:=rv.HP;exact fin _ (.inr (.inl ⟨vs,hq,by rw[Fg.isEmpty]⟩)) rfl
  |FP xs=>
   obtain⟨a,vs,rfl,hq,Fg⟩:=rv.Ko;exact fin _ (.inl ⟨vs,hq.sq,by rw[Fg.isEmpty]⟩) rfl
  |ob n=>
   obtain⟨a,rfl,hn⟩:=rv.HQ;obtain⟨c,hc,rc⟩:=rs.IY hn;cases c with
   |lst xs=>
    obtain⟨vs,hv,Fg⟩:=rc;exact fin (!xs.isEmpty) (.inl ⟨vs,GP.of hv,by rw[Fg.isEmpty]⟩) (by simp only[tu,hc])
   |Gu xs=>
    obtain⟨vs,hv,Fg⟩:=rc;exact fin (!xs.isEmpty) (.inr (.inr ⟨vs,hv,by rw[Fg.isEmpty]⟩)) (by simp only[tu,hc])
   |ins C ns ds=>
    dsimp only[tu] at m;rw[hc] at m;exact m.elim
  |_=>exact m.elim
def II(X:Cx):List (Str×Addr)->Prop
 |[]=>True
 |p :: r=>X.env.cells.lookup p.1=some p.2/\II X r
theorem II.all{X:Cx}:∀{cl:List (Str×Addr)},II X cl->∀p∈cl,X.env.cells.lookup p.1=some p.2
 |[],_,p,hp=>by cases hp
 |q :: r,h,p,hp=>by
  rcases List.mem_cons.mp hp with rfl|hp
  ·exact h.1
  ·exact II.all h.2 p hp
def xz(K:PySem.W.Frag):Sp:=fun vs H Q _=>∃(a:Addr) (ns:List Int),vs=[.ref a]/\GP K H a (ns.map V.int)/\ns.length<=63/\AW H/\∀H',Q (.bl true) H'
theorem zv{K:PySem.W.Frag}{F:List D->M D}(hF:∀ns:List Int,ns.length<=63->∃S',F [.FP (ns.map D.int)] []=.ok (.bl true) S'):∀vs H Q E,xz K vs H Q E->V0 K 1 F vs H Q E:=by
 rintro vs H Q E ⟨a,ns,rfl,hS,hl,ho,k⟩;refine⟨rfl,[],[.FP (ns.map D.int)],[],?_,⟨rfl,List.nodup_nil,fun n c a h=>by simp at h⟩,?_⟩
 ·refine .one ?_;unfold r_;refine⟨a,ns.map V.int,rfl,?_,k_.ints ns⟩;rcases hS with (h|⟨o,h⟩)|h
  ·rcases ho a with e|⟨o,xs,e⟩
   ·rw[h] at e;cases e
   ·rw[h] at e;cases e
  ·exact .inl ⟨o,h⟩
  ·exact .inr h
 ·obtain⟨S',e⟩:=hF ns hl;rw[e];rintro v H' ⟨J',_,_,rv⟩;rw[rv.Nt];exact k H'
end DL
namespace DL
open PySem PySem.Spec PyProof.Rows L2
@[simp] theorem Dy{α:Type}{a b:α}:Ha True a b=a:=ci trivial
@[simp] theorem Dg{α:Type}{a b:α}:Ha False a b=b:=wG (fun h=>h)
theorem dR{g:Option (Nat×List D)}{tg:Kp}{b:E4}(Iv:Nat->tB->List Cell->Prop):∀(items:List D) (k:Nat) (r:tB) (S:List Cell),
  (∀i x r S,items[i]?=some x->Iv (k+i) r S->∃r1 r2 S2,tg x r=some r1/\b r1 S=some (.nx r2,S2)/\IH g S2/\Iv (k+i+1) r2 S2)->Iv k r S->
  ∃r' S',ig g tg b items r S=some (.nx r',S')/\Iv (k+items.length) r' S'
 |[],k,r,S,_,h=>⟨r,S,rfl,by simpa using h⟩
 |x :: xs,k,r,S,hs,h=>by
  obtain⟨r1,r2,S2,h1,h2,h3,h4⟩:=hs 0 x r S rfl h;obtain⟨r',S',e1,e2⟩:=dR Iv xs (k+1) r2 S2 (fun i y r S hy hi=>by
   have:=hs (i+1) y r S (by simpa using hy) (by rw[show k+(i+1)=k+1+i by omega];exact hi);rw[show k+(i+1)+1=k+1+i+1 by omega] at this;exact this) h4
  refine⟨r',S',?_,by rw[List.length_cons,show k+(xs.length+1)=k+1+xs.length by omega];exact e2⟩;unfold ig;rw[h1];dsimp only;rw[h2];dsimp only;rw[if_pos h3];exact e1
theorem vh(S:List Cell)(n:Nat):∀is:List Int,JA S (n+1) (is.map D.int)=some (is.map PyData.int)
 |[]=>by simp[JA]
 |i :: is=>by simp[JA,pD,vh S n is]
theorem lY(S:List Cell)(n:Nat)(is:List Int):pD S (n+2) (.tup (is.map D.int))=some (.tuple (is.map PyData.int)):=by
 simp[pD,vh]
theorem kt:∀is js:List Int,PyData.eqvAll (is.map PyData.int) (js.map PyData.int)=decide (is=js)
 |[],[]=>by simp[PyData.eqvAll]
 |[],_ :: _=>by simp[PyData.eqvAll]
 |_ :: _,[]=>by simp[PyData.eqvAll]
 |i :: is,j :: js=>by
  simp only[List.map_cons,PyData.eqvAll,PyData.eqv,kt is js,List.cons.injEq];by_cases h1:i=j<;>by_cases h2:is=js<;>simp[h1,h2]
theorem Al(S:List Cell)(is js:List Int):EX (.tup (is.map D.int)) (.tup (js.map D.int)) S=.ok (.bl (decide (is=js))) S:=by
 simp only[EX,lY S 28,PyData.eqv,kt]
theorem zm(S:List Cell)(is js:List Int):Hm (.tup (is.map D.int)) (.tup (js.map D.int)) S=.ok (.bl (!decide (is=js))) S:=by
 simp only[Hm,lY S 28,PyData.eqv,kt]
theorem Az(S:List Cell)(i j:Int):EX (.int i) (.int j) S=.ok (.bl (decide (i=j))) S:=by
 have e:(i == j)=decide (i=j):=by
  by_cases h:i=j<;>simp[h]
 simp only[EX,pD,PyData.eqv,e]
theorem BI(S:List Cell)(i j:Int):Hm (.int i) (.int j) S=.ok (.bl (!decide (i=j))) S:=by
 have e:(i == j)=decide (i=j):=by
  by_cases h:i=j<;>simp[h]
 simp only[Hm,pD,PyData.eqv,e]
theorem vL{S:List Cell}{n:Nat}(h:n<=1000000):uO 0 (n:Int) 1 S=.ok ⟨gP 0 1 n,none⟩ S:=by
 have hs:Builtin.Range.small 0 (n:Int) 1=true:=small_one (by omega) (by omega) (by omega) (by omega);unfold uO;have e:(if (0:Int)<(n:Int) then (n:Int)-0 else 0).toNat=n:=by split<;>omega
 rw[ci ⟨⟨by omega,by omega⟩,hs⟩,rangeSize_one,e]
theorem sG{xs:List D}{k:Nat}(h:k<=xs.length):fD xs none (some (k:Int))=xs.take k:=by
 unfold fD;rw[HT.Ib,HT.G_,Nat.min_eq_left h];simp
theorem fH{xs:List D}{k:Nat}(h:k<=xs.length):fD xs (some (k:Int)) none=xs.drop k:=by
 unfold fD;rw[HT.Ib,HT.G_,Nat.min_eq_left h];rw[List.take_of_length_le];simp
end DL
namespace DL
open PySem PySem.Spec PyProof.Rows L2
open AutoSeq1 (wpAny_loadPart')
open SeqAt
theorem jJ{prog:Program}{w:World}{A:Around}{items:Array Value}{x:Value}{e:Value->Bool}{j:Nat}(hj:j<items.size)(hit:e items[j]=true)(LW:∀m (hm:m<items.size),m<j->e items[m]=false){s:Shared}
  (he:∀y,y∈items->EqAt A s y x (e y)) {Q:Option PySem.Fin×PUnit->Shared->Prop}{E:Value->Shared->Prop}(hQ:Q (some (.done (.ret (.int j s.toks))),()) { s with toks:=s.toks+1 }):∀(k pre:Nat),pre+k=items.size->pre<=j->
  wpAny (model prog w) A (forIn (List.range' pre k) ((none,()):Option PySem.Fin×PUnit) fun(i:Nat) (_:Option PySem.Fin×PUnit)=>match items[i]? with
      |some y=>do
       let b <-eqBool y x
       if b=true then do
         let r <-retInt ((i:Nat):Int)
         pure (ForInStep.done (some r,()))
        else pure (ForInStep.yield (none,()))
      |_=>pure (ForInStep.yield (none,()))) Q E s
 |0,pre,h1,h2=>by omega
 |k+1,pre,h1,h2=>by
  rw[List.range'_succ,List.forIn_cons];have hp:pre<items.size:=by omega
  have hg:items[pre]?=some items[pre]:=by simp[hp]
  rw[hg];dsimp only;refine wpAny_bind (wpAny_bind (he _ (Array.getElem_mem hp) prog w E _ ?_));by_cases X5:pre=j
  ·subst X5;rw[hit,if_pos rfl];refine wpAny_bind (m:=retInt _) (wpAny_bind (wpAny_mkInt (wpAny_pure ?_)));exact wpAny_pure (wpAny_pure hQ)
  ·rw[LW pre hp (by omega),if_neg (by decide)];exact wpAny_pure (jJ hj hit LW he hQ k (pre+1) (by omega) (by omega))
theorem mz(l:Addr)(items:Array Value)(n:Nat)(dd:Option Addr)(sl:Array (Option Value))(x:Value)(e:Value->Bool)(j:Nat)(hj:j<items.size)
  (hit:e items[j]=true) (LW:∀m (hm:m<items.size),m<j->e items[m]=false) :
  Meets (Builtin.«tuple.index» ⟨[.ref l,x],[]⟩)
   (fun A R s=>s.heap.get? l=some { cls:=.type "tuple",dict:=dd,data:=.seq items n,slots:=sl }/\(∀y,y∈items->EqAt A.in1 s y x (e y))/\R (.ok (.ret (.int j s.toks))) { s with toks:=s.toks+1 }):=by
 refine .of_wp fun prog w A R s h=>?_
 obtain⟨hp,g,d,tk,os⟩:=s;obtain⟨hl,he,h⟩:=h;unfold Builtin.«tuple.index»;simp only[Std.Legacy.Range.forIn_eq_forIn_range']
 wp_walk using wpAny_loadPart' hl
 refine jJ (s:=⟨hp,g,d,tk,os⟩) hj hit LW he ?_ _ 0 ?_ (Nat.zero_le _)
 ·exact wpAny_pure ⟨_,rfl,h⟩
 ·simp[Std.Legacy.Range.size]
def fv:D->Option V
 |.EJ=>some .EJ
 |.bl b=>some (.bl b)
 |.int i=>some (.int i)
 |.str x=>some (.str x)
 |_=>none
def NT:List D->Option (List V)
 |[]=>some []
 |x :: xs=>match fv x,NT xs with
  |some v,some vs=>some (v :: vs)
  |_,_=>none
theorem vZ{K:PySem.W.Frag}{H:Hp}{J:List Addr}{d:D}{v w:V}(h:fv d=some w)(r:r_ K H J d v):v=w/\jG w=true:=by
 cases d with
 |EJ=>cases h;exact⟨r.Lv,rfl⟩
 |bl b=>cases h;exact⟨r.Nt,rfl⟩
 |int b=>cases h;exact⟨r.FY,rfl⟩
 |str b=>cases h;exact⟨r.MK,rfl⟩
 |_=>cases h
theorem sP{K:PySem.W.Frag}{H:Hp}{J:List Addr}:∀{xs:List D}{vs ws:List V},NT xs=some ws->k_ K H J xs vs->vs=ws/\ws.all jG=true
 |[],vs,ws,h,r=>by
  cases h;unfold k_ at r;exact⟨r,rfl⟩
 |x :: xs,vs,ws,h,r=>by
  unfold k_ at r;obtain⟨v,t,rfl,r1,r2⟩:=r;unfold NT at h;cases e1:fv x with
  |none=>rw[e1] at h;cases h
  |some w=>
   cases e2:NT xs with
   |none=>rw[e1,e2] at h;cases h
   |some V7=>
    rw[e1,e2] at h;cases h;obtain⟨rfl,h1⟩:=vZ e1 r1;obtain⟨rfl,h2⟩:=sP e2 r2;exact⟨rfl,by simp[h1,h2]⟩
def inD(x y:D):M D:=fun S=>match fv x,gw S y with
 |some w,some ys=>(match NT ys with
  |some ws=>.ok (.bl (LY w ws)) S
  |none=>.bad)
 |_,_=>.bad
section
variable{X:Cx}
theorem Dl(hu:X.A.units+64<cLine):Io X (compareOp .In) inD:=by
 intro pins s σ H J S x y vx vy v u Q E I rs rx ry rv ru m;unfold inD at m;cases e1:fv x with
 |none=>rw[e1] at m;exact m.elim
 |some w=>
  cases e2:gw S y with
  |none=>rw[e1,e2] at m;exact m.elim
  |some ys=>
   rw[e1,e2] at m;dsimp only at m;cases e3:NT ys with
   |none=>rw[e3] at m;exact m.elim
   |some ws=>
    rw[e3] at m;obtain⟨rfl,h1⟩:=vZ e1 rx;obtain⟨a,vs,rfl,hq,Fg⟩:=lj rs ry e2;obtain⟨rfl,h2⟩:=sP e3 Fg;exact wpAny_mono (xP (X:=X.E8 E) pins s σ H vx (.ref a) v u (Got X.K H J (.bl (LY vx vs)) S) (I.E8 E) rv ru ⟨a,vs,rfl,hq,h1,h2,J,Ext.refl _ _,rs,r_.bl _ _ _ _⟩) (fun u s' q=>m u s' (EP.E5 q)) fun _ _ z=>z
def kz:List D->Option (List Int)
 |[]=>some []
 |.int i :: xs=>(kz xs).map (i :: ·)
 |_ :: _=>none
def om:List D->Option (List Bool)
 |[]=>some []
 |.bl i :: xs=>(om xs).map (i :: ·)
 |_ :: _=>none
theorem qy:∀{xs:List D}{is:List Int},kz xs=some is->xs=is.map D.int
 |[],is,h=>by cases h;rfl
 |x :: xs,is,h=>by
  cases x with
  |int i=>
   simp only[kz] at h;cases e:kz xs with
   |none=>rw[e] at h;cases h
   |some js=>
    rw[e] at h;cases h;rw[qy e];rfl
  |_=>cases h
theorem rO:∀{xs:List D}{is:List Bool},om xs=some is->xs=is.map D.bl
 |[],is,h=>by cases h;rfl
 |x :: xs,is,h=>by
  cases x with
  |bl i=>
   simp only[om] at h;cases e:om xs with
   |none=>rw[e] at h;cases h
   |some js=>
    rw[e] at h;cases h;rw[rO e];rfl
  |_=>cases h
theorem iX:∀is:List Int,kz (is.map D.int)=some is
 |[]=>rfl
 |i :: is=>by simp[kz,iX is]
theorem rQ:∀is:List Bool,om (is.map D.bl)=some is
 |[]=>rfl
 |i :: is=>by simp[om,rQ is]
def nY:List D->M D
 |[x]=>fun S=>match gw S x with
  |some xs=>(match kz xs with
   |some is=>.ok (.int is.sum) S
   |none=>.bad)
  |none=>.bad
 |_=>M.bad
def zQ:List D->M D
 |[x]=>fun S=>match gw S x with
  |some xs=>(match om xs with
   |some is=>.ok (.bl (is.all id)) S
   |none=>.bad)
  |none=>.bad
 |_=>M.bad
theorem n9(is:List Int):∀n,n<=is.length->preSum (fun i=>is.getD i 0) n=(is.take n).sum
 |0,_=>by simp[preSum]
 |n+1,h=>by
  rw[preSum,n9 is n (by omega),List.take_add_one,List.sum_append];have hg:is[n]?=some (is.getD n 0):=by simp[List.getD,List.getElem?_eq_getElem (show n<is.length by omega)]
  rw[hg];simp
theorem xW(is:List Bool):(List.range is.length).all (fun i=>is.getD i true)=is.all id:=by
 rw[Bool.eq_iff_iff,List.all_eq_true,List.all_eq_true];constructor
 ·intro h b hb;obtain⟨i,hi,rfl⟩:=List.mem_iff_getElem.mp hb;have:=h i (List.mem_range.mpr hi);simpa[List.getD,List.getElem?_eq_getElem hi] using this
 ·intro h i hi;have hi:=List.mem_range.mp hi;have:=h _ (List.getElem_mem hi);simpa[List.getD,List.getElem?_eq_getElem hi] using this
theorem pG{α:Type}{f:α->D}{g:α->V}{K:PySem.W.Frag}{H:Hp}{J:List Addr}(V8:∀a v,r_ K H J (f a) v->v=g a):∀{as:List α}{vs:List V},k_ K H J (as.map f) vs->vs=as.map g
 |[],vs,h=>by unfold k_ at h;simpa using h
 |a :: as,vs,h=>by
  rw[List.map_cons] at h;unfold k_ at h;obtain⟨v,r,rfl,h1,h2⟩:=h;rw[V8 a v h1,pG V8 h2];rfl
theorem u8{pins:EK}{σ:L2.St}{H:Hp}{s:Shared}{a:Addr}{vs:List V}(hc:X.calm=true)(I:Inv X pins σ H s)(hq:GP X.K H a vs\/Hi X.K H a vs){Q E:Value->Shared->Prop}
  (h:∀(it:Addr) (fp:List Addr) (St:Nat->Heap->Prop) (u_:List Value) (s2:Shared),Vals vs u_->Walks X.prog X.w X.A.in1 it fp [it] u_.length (fun i v=>u_[i]?=some v) St->St 0 s2.heap->(∀b∈fp,b<s2.heap.objs.size)->s2.toks=s.toks->
   (∀h' tk,(∀b o,b∉[it]->s2.heap.get? b=some o->h'.get? b=some o)->Inv X pins σ H { s2 with heap:=h',toks:=tk })->Q (.ref it) s2):wpAny (model X.prog X.w) X.A.in1 (pyIter (.ref a)) Q E s:=by
 rcases hq with hq|hq
 ·obtain⟨u_,rl,pl,hz⟩:=I.list hq;have Hc:a<s.heap.objs.size:=by
   obtain⟨o,ho,_⟩:=pl.isList;exact Heap.lt_size ho
  refine wpAny_pyIter_list pl.isList (h s.heap.objs.size [s.heap.objs.size,a] (fun i h=>h.IsListIter s.heap.objs.size a i/\h.IsList a u_.toArray) u_ _ rl (by simpa using Walks.list (prog:=X.prog) (w:=X.w) (A:=X.A.in1) (I.ok.hd hc) s.heap.objs.size a (Nat.ne_of_lt Hc) u_.toArray) ⟨⟨_,Heap.get?_push_size _ rfl,rfl,rfl⟩,pl.isList.at fun o e=>Heap.get?_push_of_some _ e⟩ (fun b hb=>?_) rfl fun h' tk hk=>?_)
  ·simp at hb;rw[Heap.size_push];rcases hb with rfl|rfl
   ·exact Nat.lt_succ_self _
   ·exact Nat.lt_succ_of_lt Hc
  ·exact I.kept fun b o e=>hk b o (by simp;exact Nat.ne_of_lt (Heap.lt_size e)) (Heap.get?_push_of_some _ e)
 ·obtain⟨u_,rl,pl,hz⟩:=I.tuple hq;have hT:s.heap.IsTuple a u_.toArray:=pl;have Hc:a<s.heap.objs.size:=by
   obtain⟨o,ho,_⟩:=hT;exact Heap.lt_size ho
  refine wpAny_pyIter_tuple hT (h s.heap.objs.size [s.heap.objs.size,a] (fun i h=>h.IsTupleIter s.heap.objs.size a i/\h.IsTuple a u_.toArray) u_ _ rl (by simpa using Walks.tuple (prog:=X.prog) (w:=X.w) (A:=X.A.in1) (I.ok.hd hc) s.heap.objs.size a (Nat.ne_of_lt Hc) u_.toArray) ⟨⟨_,Heap.get?_push_size _ rfl,rfl,rfl⟩,hT.at fun o e=>Heap.get?_push_of_some _ e⟩ (fun b hb=>?_) rfl fun h' tk hk=>?_)
  ·simp at hb;rw[Heap.size_push];rcases hb with rfl|rfl
   ·exact Nat.lt_succ_self _
   ·exact Nat.lt_succ_of_lt Hc
  ·exact I.kept fun b o e=>hk b o (by simp;exact Nat.ne_of_lt (Heap.lt_size e)) (Heap.get?_push_of_some _ e)
theorem wj(hc:X.calm=true):Gy X (.builtin "sum") nY:=by
 intro pins s σ H J S xs vs us Q E I rs rx rv m
 match xs,m,rx with
 |[],m,rx=>exact m.elim
 |_ :: _ :: _,m,rx=>exact m.elim
 |[x],m,rx=>
  obtain⟨v,rfl,h1⟩:=rx.Ii;obtain⟨u,rfl,ru⟩:=Vals.one rv;simp only[nY] at m;cases e1:gw S x with
  |none=>rw[e1] at m;exact m.elim
  |some ys=>
   rw[e1] at m;dsimp only at m;cases e2:kz ys with
   |none=>rw[e2] at m;exact m.elim
   |some is=>
    rw[e2] at m;cases qy e2;obtain⟨a,ws,rfl,hq,Fg⟩:=lj rs h1 e1;cases ru;have ew:=pG (g:=V.int) (fun i v h=>h.FY) Fg;subst ew;refine call_sum_walkG (u8 hc I hq fun it fp St u_ s2 rl W st hf VO hI=>?_);have hi:=vV rl;have hlen:u_.length=is.length:=by have:=rl.length;simpa using this.symm
    refine⟨it,fp,[it],u_.length,_,St,(fun i=>is.getD i 0),rfl,W,st,hf,?_,?_⟩
    ·intro i v hv;obtain⟨x,hx,rx⟩:∃x,(is.map V.int)[i]?=some x/\RelV x v:=by
      have Hc:=(List.getElem?_eq_some_iff.mp hv).1;obtain⟨u,hu,ru⟩:=Vals.get (x:=.int (is.getD i 0)) rl (i:=i) (by simp[List.getD,List.getElem?_eq_getElem (show i<is.length by omega)]);rw[hv] at hu;cases hu;exact⟨_,by simp[List.getD,List.getElem?_eq_getElem (show i<is.length by omega)],ru⟩
     rw[List.getElem?_map] at hx;cases e:is[i]? with
     |none=>rw[e] at hx;cases hx
     |some k=>
      rw[e] at hx;cases hx;obtain⟨t,rfl⟩:=rx;exact⟨t,by simp[List.getD,e]⟩
    ·intro h' tk t' hk;rw[hlen,n9 is _ (Nat.le_refl _),List.take_length];exact m.Hl (hI h' tk hk) rs (r_.int _ _ _ _) ⟨_,rfl⟩
theorem CI(hc:X.calm=true):Gy X (.builtin "all") zQ:=by
 intro pins s σ H J S xs vs us Q E I rs rx rv m
 match xs,m,rx with
 |[],m,rx=>exact m.elim
 |_ :: _ :: _,m,rx=>exact m.elim
 |[x],m,rx=>
  obtain⟨v,rfl,h1⟩:=rx.Ii;obtain⟨u,rfl,ru⟩:=Vals.one rv;simp only[zQ] at m;cases e1:gw S x with
  |none=>rw[e1] at m;exact m.elim
  |some ys=>
   rw[e1] at m;dsimp only at m;cases e2:om ys with
   |none=>rw[e2] at m;exact m.elim
   |some is=>
    rw[e2] at m;cases rO e2;obtain⟨a,ws,rfl,hq,Fg⟩:=lj rs h1 e1;cases ru;have ew:=pG (g:=V.bl) (fun i v h=>h.Nt) Fg;subst ew;refine call_all_walk (u8 hc I hq fun it fp St u_ s2 rl W st hf VO hI=>?_);have hlen:u_.length=is.length:=by have:=rl.length;simpa using this.symm
    refine⟨it,fp,[it],u_.length,_,St,(fun i=>is.getD i true),rfl,W,st,?_,?_⟩
    ·intro i v s Q E hv hQ;have Hc:=(List.getElem?_eq_some_iff.mp hv).1;obtain⟨u,hu,ru⟩:=Vals.get (x:=.bl (is.getD i true)) rl (i:=i) (by simp[List.getD,List.getElem?_eq_getElem (show i<is.length by omega)]);rw[hv] at hu;cases hu;cases ru;exact wpAny_truthy_bool hQ
    ·intro h' tk hk;rw[hlen,xW];exact m.Hl (hI h' tk hk) rs (r_.bl _ _ _ _) rfl
def p8(w:V):List V->Option Nat
 |[]=>none
 |y :: ys=>if Mx y w=true then some 0 else (p8 w ys).map (·+1)
theorem wI{w:V}:∀{ys:List V}{j:Nat},p8 w ys=some j->∃h:j<ys.length,Mx ys[j] w=true/\∀m (hm:m<ys.length),m<j->Mx ys[m] w=false
 |[],j,h=>by cases h
 |y :: ys,j,h=>by
  unfold p8 at h;split at h
  ·rename_i e;cases h;exact⟨by simp,e,fun m hm h0=>absurd h0 (Nat.not_lt_zero _)⟩
  ·rename_i e;cases e2:p8 w ys with
   |none=>rw[e2] at h;cases h
   |some k=>
    rw[e2] at h;cases h;obtain⟨h1,h2,h3⟩:=wI e2;refine⟨by simp;omega,by simpa using h2,fun m hm hk=>?_⟩;cases m with
    |zero=>simpa using e
    |succ m=>simpa using h3 m (by simpa using hm) (Nat.lt_of_succ_lt_succ hk)
def yb(ys:List D)(x:D):M D:=fun S=>match fv x,NT ys with
 |some w,some ws=>(match p8 w ws with
  |some j=>.ok (.int j) S
  |none=>.bad)
 |_,_=>.bad
theorem yx{A:Around}{s:Shared}{x:V}{v:Value}(rx:RelV x v)(fx:jG x=true){ws:List V}{u_:List Value}(rl:Vals ws u_)(hf:ws.all jG=true):∀y,y∈u_.toArray->SeqAt.EqAt A s y v (My x y):=fun y hy=>
 mO rx fx rl hf y (by simpa using hy)
theorem xt{x:V}{ws:List V}{u_:List Value}(rl:Vals ws u_)(hf:ws.all jG=true){m:Nat}(h1:m<ws.length)(h2:m<u_.toArray.size):My x u_.toArray[m]=Mx ws[m] x:=by
 obtain⟨u,hu,ru⟩:=rl.get (i:=m) (x:=ws[m]) (by simp);have e:u_.toArray[m]=u:=by
  have h3:m<u_.length:=by simpa using h2
  rw[List.getElem?_eq_getElem h3] at hu;simpa using Option.some.inj hu
 rw[e];exact wt ru (List.all_eq_true.mp hf _ (List.getElem_mem h1))
theorem yp{pins:EK}{s:Shared}{σ:L2.St}{H:Hp}{J:List Addr}{S:List Cell}{a:Addr}{ys:List D}{vs:List V}{x:D}{vx:V}{v:Value}{Q E:Value->Shared->Prop}(I:Inv X pins σ H s)(rs:EM X.K H J S)(hq:Hi X.K H a vs)(Fg:k_ X.K H J ys vs)
  (rx:r_ X.K H J x vx) (rv:RelV vx v) (m:Mt X pins σ H J (yb ys x S) Q E):wpAny (model X.prog X.w) X.A (call (.builtin "tuple.index") [.ref a,v]) Q E s:=by
 unfold yb at m;cases e1:fv x with
 |none=>rw[e1] at m;exact m.elim
 |some w=>
  cases e2:NT ys with
  |none=>rw[e1,e2] at m;exact m.elim
  |some ws=>
   rw[e1,e2] at m;dsimp only at m;cases e3:p8 w ws with
   |none=>rw[e3] at m;exact m.elim
   |some j=>
    rw[e3] at m;obtain⟨rfl,h1⟩:=vZ e1 rx;obtain⟨rfl,h2⟩:=sP e2 Fg;obtain⟨hj,hit,LW⟩:=wI e3;obtain⟨u_,rl,⟨o,ho,hc,n,hd⟩,hz⟩:=I.tuple hq;obtain⟨cls,dd,data,sl⟩:=o;simp only at hc hd;subst hc hd;have hl:=rl.length;refine call_meets PySem.F.slot_tuple_index ⟨_,ho,rfl⟩ PySem.F.entry_tuple_index (PySem.F.args_tuple_index_2 _ _)
     (mz a u_.toArray n dd sl v (My vx) j (by simp;omega) (by rw[xt rl h2 hj];exact hit) (fun m hm X6=>by rw[xt rl h2 (by omega)];exact LW m (by omega) X6)) ⟨ho,yx rv h1 rl h2,?_⟩
    exact m.Hl (I.tok _) rs (r_.int _ _ _ _) ⟨_,rfl⟩
structure NU(K:PySem.W.Frag)(u:Value)(vs:List V):Prop where
 ex:∃(a:Addr) (o:Obj) (u_:Array Value) (n:Nat),u=.ref a/\K.lookup a=some o/\o.cls=.type "tuple"/\o.dict=none/\o.data=.seq u_ n/\u_.size<=sizeLine/\Vals vs u_.toList
theorem NU.rep{K:PySem.W.Frag}{u:Value}{vs:List V}{ds:List D}(h:NU K u vs)(hd:∀H J,k_ K H J ds vs):IG K (.tup ds) u:=by
 obtain⟨a,o,u_,n,rfl,h1,h2,h3,h4,h5,h6⟩:=h.ex;exact fun H J=>⟨.ref a,rfl,.tup (.inr ⟨o,u_,n,h1,h2,h4,h5,h6⟩) (hd H J)⟩
def mw(k:D)(ft:tB->M (List D)):tB->M D:=fun r=>(ft r).bind fun xs=>match k,xs with
 |.tup ys,[x]=>yb ys x
 |_,_=>M.bad
theorem xQ{x:Str}{e:Expr}{np apos Fy:Pos}{u:Value}{vs:List V}{ds:List D}{ft:tB->M (List D)}(hg:Gl X x)(hm:X.mg x=some u)(hk:NU X.K u vs)(O0:∀H J,k_ X.K H J ds vs)(ha:KU X [e] ft)(hd:(x == ("__debug__":Str))=false:=by decide)
  (IZ:attributeBase (.Name x np) "index" X.env (eval (.Name x np) X.env)=eval (.Name x np) X.env:=by rfl)
  (LD:((backTo Fy (starEach [e] X.env)).all (fun x=>!x.1) && (backToKw Fy (keywordEach [] X.env)).all (fun x=>x.1.isSome)
   && decide ([e].length+([]:List Keyword).length+(if ([]:List Keyword).isEmpty then 0 else 1)<30))=true:=by rfl)
  (I0:(apos.endLine == Fy.line)=true:=by rfl) (hs:starEach [e] X.env=[(false,eval e X.env)]:=by rfl) :
  Fn X (.Call (.Attribute (.Name x np) "index" apos) [e] [] Fy) (mw (.tup ds) ft):=by
 intro pins s σ H J r S Q E I m;obtain⟨a,o,u_,n,rfl,h1,h2,h3,h4,h5,h6⟩:=hk.ex;refine wpAny_Call_method_late IZ LD I0 rfl (kT I.inv hg hm ?_ hd);have ho:=I.inv.IS a o h1;refine⟨"tuple","tuple.index",PySem.F.plainAttrs_tuple,PySem.F.slot_tuple_index,PySem.F.type_tuple_index,⟨o,ho,h2⟩,fun b hb=>?_,?_⟩
 ·cases hb;exact⟨o,ho,h3⟩
 ·have hA:=Cz (k:=fun xs=>match D.tup ds,xs with|.tup ys,[x]=>yb ys x|_,_=>M.bad) (Q':=fun us s2=>wpAny (model X.prog X.w) X.A (call (.builtin "tuple.index") (.ref a :: us)) Q E s2) ha I m (fun xs S2 s2 H2 J2 ws us I2 x2 rv r2 m2=>?_) Fy
  ·rw[hs] at hA ⊢;exact Calls.callWith_builtin rfl (Calls.evalArgs_plain hA)
  ·match xs,m2,rv with
   |[],m2,rv=>exact m2.elim
   |_ :: _ :: _,m2,rv=>exact m2.elim
   |[y],m2,rv=>
    obtain⟨w,rfl,hw⟩:=rv.Ii;obtain⟨uu,rfl,ru⟩:=Vals.one r2;exact yp I2.inv I2.st (.inr ⟨o,u_,n,h1,h2,h4,h5,h6⟩) (O0 H2 J2) hw ru m2
end
end DL
namespace DL
open PySem PySem.Spec PyProof.Rows L2
theorem nX{f:Str}{v:V}:∀{ws:List (Str×V)}{i:Nat},(ws.map (·.1)).Nodup->(ws.map (·.1))[i]?=some f->(ws.map (·.2))[i]?=some v->ws.lookup f=some v
 |[],_,_,h,_=>by simp at h
 |(g,x) :: r,0,nd,h,h2=>by
  simp at h h2;subst h h2;simp[List.lookup_cons]
 |(g,x) :: r,i+1,nd,h,h2=>by
  simp only[List.map_cons,List.nodup_cons] at nd;simp only[List.map_cons,List.getElem?_cons_succ] at h h2;have hm:f∈r.map (·.1):=List.mem_of_getElem? h;have hb:(f == g)=false:=beq_eq_false_iff_ne.mpr fun e=>nd.1 (e ▸ hm)
  rw[List.lookup_cons,hb];exact nX nd.2 h h2
theorem nk{f:Str}:∀{ws:List (Str×V)},f∉ws.map (·.1)->ws.lookup f=none
 |[],_=>rfl
 |(g,x) :: r,h=>by
  simp only[List.map_cons,List.mem_cons,not_or] at h;have hb:(f == g)=false:=beq_eq_false_iff_ne.mpr h.1;rw[List.lookup_cons,hb];exact nk h.2
theorem nw(f g:Str)(y x:V)(r:List (Str×V)):gy f y ((g,x) :: r)=if g=f then (g,y) :: r else (g,x) :: gy f y r:=rfl
theorem wY{f:Str}{y:V}:∀{ws:List (Str×V)}{i:Nat},(ws.map (·.1)).Nodup->(ws.map (·.1))[i]?=some f->(gy f y ws).map (·.1)=ws.map (·.1)/\(gy f y ws).map (·.2)=(ws.map (·.2)).set i y
 |[],_,_,h=>by simp at h
 |(g,x) :: r,0,nd,h=>by
  simp at h;subst h;rw[nw,if_pos rfl];exact⟨rfl,rfl⟩
 |(g,x) :: r,i+1,nd,h=>by
  simp only[List.map_cons,List.nodup_cons] at nd;simp only[List.map_cons,List.getElem?_cons_succ] at h;have hm:f∈r.map (·.1):=List.mem_of_getElem? h;have hb:¬g=f:=fun e=>nd.1 (e ▸ hm)
  rw[nw,if_neg hb];obtain⟨h1,h2⟩:=wY (y:=y) nd.2 h;exact⟨by rw[List.map_cons,List.map_cons,h1],by rw[List.map_cons,List.map_cons,List.set_cons_succ,h2]⟩
theorem uX{f:Str}{y:V}:∀{ws:List (Str×V)},f∉ws.map (·.1)->gy f y ws=ws++[(f,y)]
 |[],_=>rfl
 |(g,x) :: r,h=>by
  simp only[List.map_cons,List.mem_cons,not_or] at h;rw[nw,if_neg (fun e=>h.1 e.symm),uX h.2];rfl
def ir(C:Addr)(ns:List Str)(x:D):M (Nat×List D):=fun S=>match x with
 |.ob n=>(match S[n]? with
  |some (.ins C' S9 ds)=>Ha (C'=C/\S9=ns) (.ok (n,ds) S) .bad
  |_=>.bad)
 |_=>.bad
theorem lb{C:Addr}{ns:List Str}{n:Nat}{ds:List D}{S:List Cell}(h:S[n]?=some (.ins C ns ds)):ir C ns (.ob n) S=.ok (n,ds) S:=by
 simp only[ir,h]
 first
  |exact ci ⟨rfl,rfl⟩
  |exact ci ⟨trivial,trivial⟩
theorem jU{C:Addr}{ns:List Str}{x:D}{S S':List Cell}{p:Nat×List D}(h:ir C ns x S=.ok p S'):S'=S/\x=.ob p.1/\S[p.1]?=some (.ins C ns p.2):=by
 unfold ir at h;cases x with
 |ob n=>
  dsimp only at h;cases e:S[n]? with
  |none=>rw[e] at h;cases h
  |some c=>
   rw[e] at h;cases c with
   |ins C' S9 ds=>
    dsimp only at h;unfold Ha at h;split at h
    ·rename_i q;obtain⟨rfl,rfl⟩:=q
     injection h with h1 h2
     subst h1 h2;exact⟨rfl,rfl,e⟩
    ·cases h
   |_=>cases h
 |_=>cases h
theorem kf{C:Addr}{ns:List Str}{x:D}{S S':List Cell}{c:Addr}:ir C ns x S≠.exc c S':=by
 intro h;unfold ir at h;cases x with
 |ob n=>
  dsimp only at h;cases e:S[n]? with
  |none=>rw[e] at h;cases h
  |some c=>
   rw[e] at h;cases c with
   |ins C' S9 ds=>
    dsimp only at h;unfold Ha at h;split at h<;>cases h
   |_=>cases h
 |_=>cases h
def BA(o:Option D):M D:=fun S=>match o with
 |some d=>.ok d S
 |none=>.bad
section
variable{X:Cx}{o e:Expr}{es:List Expr}{fo fe:tB->M D}{ft:tB->M (List D)}{pos IW apos:Pos}{C:Addr}{ns:List Str}{i:Nat}{f:Str}
def aB(C:Addr)(ns:List Str)(i:Nat)(fo:tB->M D):tB->M D:=fun r=>(fo r).bind fun x=>(ir C ns x).bind fun p=>BA p.2[i]?
theorem aG(c:K2 X.K C)(na:E6 X.K C f)(nd:ns.Nodup)(ho:Fn X o fo)(hi:ns[i]?=some f:=by rfl)(hb:attributeBase o f X.env (eval o X.env)=eval o X.env:=by rfl):Fn X (.Attribute o f pos) (aB C ns i fo):=by
 intro pins s σ H J r S Q E I m;refine AT hb (ho pins s σ H J r S _ E I ?_);unfold aB M.bind at m;cases e1:fo r S with
 |bad=>rw[e1] at m;exact m
 |exc c S1=>rw[e1] at m;exact m
 |ok x S1=>
  rw[e1] at m;dsimp only at m;rintro v s1 ⟨vx,H1,I1,r1,J1,Hk,Hz,GY⟩
  replace m:=Mt.ext Hk m
  cases e2:ir C ns x S1 with
  |bad=>rw[e2] at m;exact m.elim
  |exc c S2=>exact absurd e2 kf
  |ok p S2=>
   rw[e2] at m;obtain⟨n,ds⟩:=p;obtain⟨rfl,rfl,hc⟩:=jU e2;obtain⟨a,rfl,hn⟩:=GY.HQ;obtain⟨dx,ws,hv,Ig,NV⟩:=Hz.at_ n _ a hc hn;dsimp only[BA] at m;cases e3:ds[i]? with
   |none=>rw[e3] at m;exact m.elim
   |some d=>
    rw[e3] at m;obtain⟨w,hw,HW⟩:=NV.get e3;cases r1;exact pC I1 hv c na (nX (Ig ▸ nd) (Ig ▸ hi) hw) fun u s2 I2 ru=>m.Hl I2 Hz HW ru
theorem Ext.ins{K:PySem.W.Frag}{H:Hp}{J:List Addr}{a dx:Addr}{ws V7:List (Str×V)}(h:H a=some (.ins C dx ws)):Ext H J (upd H a (.ins C dx V7)) J:=Ext.write h rfl
def jV(C:Addr)(ns:List Str)(i:Nat)(fo fe:tB->M D):E4:=fun r=>cu (fe r) r fun d=>cu (fo r) r fun x S1=>match ir C ns x S1 with
 |.ok p S2=>some (.nx r,S2.set p.1 (.ins C ns (p.2.set i d)))
 |_=>none
theorem tC(he:Fn X e fe){k:D->List Cell->Lp}{pins:EK}{s:Shared}{σ:L2.St}{H:Hp}{J:List Addr}{r:tB}{S:List Cell}{Q:Flow->Shared->Prop}{E:Value->Shared->Prop}{Q':Value->Shared->Prop}(I:At X pins σ H J r S s)
  (m:Jz X pins H J (cu (fe r) r k S) Q E) (hk:∀x S1 v s1 vx H1 J1,At X pins σ H1 J1 r S1 s1->Ext H J H1 J1->r_ X.K H1 J1 x vx->RelV vx v->Jz X pins H1 J1 (k x S1) Q E->Q' v s1) :
  wpAny (model X.prog X.w) X.A (eval e X.env) Q' E s:=by
 refine he pins s σ H J r S _ E I ?_;unfold cu at m;cases e1:fe r S with
 |bad=>rw[e1] at m;exact m
 |exc c S1=>
  rw[e1] at m;exact fun x s' ⟨H',XI,J',ex,rs⟩=>m x s' σ H' J' XI (I.loc.ext ex) rs ex
 |ok x S1=>
  rw[e1] at m;exact fun v s1 ⟨vx,H1,I1,r1,J1,ex,rs,rv⟩=>hk x S1 v s1 vx H1 J1 ⟨I1,I.loc.ext ex,rs⟩ ex rv r1 (Jz.ext ex m)
theorem ul{pins:EK}{s:Shared}{σ:L2.St}{H:Hp}{J:List Addr}{r:tB}{S:List Cell}{n:Nat}{ds:List D}{d:D}{vd:V}{u:Value}{a:Addr}{Q:Flow->Shared->Prop}{E:Value->Shared->Prop}
  (c:K2 X.K C) (na:E6 X.K C f) (nd:ns.Nodup) (hz:ns.length<1000) (hi:ns[i]?=some f) (I:At X pins σ H J r S s) (hc:S[n]?=some (.ins C ns ds)) (hn:J[n]?=some a) (rd:r_ X.K H J d vd) (ru:RelV vd u)
  (m:Jz X pins H J (some (.nx r,S.set n (.ins C ns (ds.set i d)))) Q E):wpAny (model X.prog X.w) X.A (setAttr (.ref a) f u) (fun _ s'=>Q .next s') E s:=by
 obtain⟨dx,ws,hv,Ig,NV⟩:=I.st.at_ n _ a hc hn;refine qm I.inv hv c na (by rw[<-List.length_map (f:=(·.1)),Ig];exact hz) ru fun s3 I3=>?_
 have x3:Ext H J (upd H a (.ins C dx (gy f vd ws))) J:=Ext.write hv rfl;obtain⟨p1,p2⟩:=wY (y:=vd) (Ig ▸ nd) (Ig ▸ hi);refine m s3 σ _ J ⟨I3,I.loc.ext x3,I.st.write hn ⟨dx,_,bB,p1.trans Ig,?_⟩⟩ x3;rw[p2];exact k_.set (rd.ext x3) i (NV.ext x3)
theorem gu{pos':Pos}(c:K2 X.K C)(na:E6 X.K C f)(nd:ns.Nodup)(hz:ns.length<1000)(ho:Fn X o fo)(he:Fn X e fe)(hi:ns[i]?=some f:=by rfl)
  (hs:swapsWith e (some (.Attribute o f pos')) pos.line X.env=pure false:=by rfl):Lx X (.Assign [.Attribute o f pos'] e pos) (jV C ns i fo fe):=by
 intro pins s σ H J r S Q E I m;refine plainObj_wpAny_Assign_Attribute (tC he I m fun d S1 u s1 vd H1 J1 I1 x1 rd ru m1=>tC ho I1 m1 fun x S2 v s2 vx H2 J2 I2 x2 rx rv m2=>?_) hs;cases e2:ir C ns x S2 with
 |bad=>rw[e2] at m2;exact m2.elim
 |exc c S2=>exact absurd e2 kf
 |ok p S3=>
  rw[e2] at m2;obtain⟨n,ds⟩:=p;obtain⟨rfl,rfl,hc⟩:=jU e2;obtain⟨a,rfl,hn⟩:=rx.HQ;cases rv;exact ul c na nd hz hi I2 hc hn (rd.ext x2) ru m2
def cI(C:Addr)(ns:List Str)(f:Str)(fo fe:tB->M D):E4:=fun r=>cu (fe r) r fun d=>cu (fo r) r fun x S1=>match ir C ns x S1 with
 |.ok p S2=>some (.nx r,S2.set p.1 (.ins C (ns++[f]) (p.2++[d])))
 |_=>none
theorem cJ{pos':Pos}(c:K2 X.K C)(na:E6 X.K C f)(hz:ns.length<1000)(hf:f∉ns)(ho:Fn X o fo)(he:Fn X e fe)
  (hs:swapsWith e (some (.Attribute o f pos')) pos.line X.env=pure false:=by rfl):Lx X (.Assign [.Attribute o f pos'] e pos) (cI C ns f fo fe):=by
 intro pins s σ H J r S Q E I m;refine plainObj_wpAny_Assign_Attribute (tC he I m fun d S1 u s1 vd H1 J1 I1 x1 rd ru m1=>tC ho I1 m1 fun x S2 v s2 vx H2 J2 I2 x2 rx rv m2=>?_) hs;cases e2:ir C ns x S2 with
 |bad=>rw[e2] at m2;exact m2.elim
 |exc c S2=>exact absurd e2 kf
 |ok p S3=>
  rw[e2] at m2;obtain⟨n,ds⟩:=p;obtain⟨rfl,rfl,hc⟩:=jU e2;obtain⟨a,rfl,hn⟩:=rx.HQ;cases rv;obtain⟨dx,ws,hv,Ig,NV⟩:=I2.st.at_ n _ a hc hn;refine qm I2.inv hv c na (by rw[<-List.length_map (f:=(·.1)),Ig];exact hz) ru fun s3 I3=>?_
  have x3:Ext H2 J2 (upd H2 a (.ins C dx (gy f vd ws))) J2:=Ext.write hv rfl;have pn:gy f vd ws=ws++[(f,vd)]:=uX (Ig ▸ hf);have X7:(gy f vd ws).map (·.2)=ws.map (·.2)++[vd]:=by rw[pn,List.map_append];rfl
  refine m2 s3 σ _ J2 ⟨I3,I2.loc.ext x3,I2.st.write hn ⟨dx,_,bB,by rw[pn,List.map_append,Ig];rfl,?_⟩⟩ x3;rw[X7];exact(NV.ext x3).append (.one ((rd.ext x2).ext x3))
def ou(C:Addr)(ns:List Str)(i:Nat)(fo fe:tB->M D):E4:=fun r=>cu (fo r) r fun x S1=>match ir C ns x S1 with
 |.ok p S2=>(match p.2[i]? with
  |some (.int a)=>cu (fe r) r (fun y S3=>match y with
   |.int b=>(match ir C ns x S3 with
    |.ok q S4=>some (.nx r,S4.set q.1 (.ins C ns (q.2.set i (.int (a+b)))))
    |_=>none)
   |_=>none) S2
  |_=>none)
 |_=>none
theorem tH(c:K2 X.K C)(na:E6 X.K C f)(nd:ns.Nodup)(hz:ns.length<1000)(ho:Fn X o fo)(he:Fn X e fe)(hi:ns[i]?=some f:=by rfl) :
  Lx X (.AugAssign (.Attribute o f IW) .Add e pos) (ou C ns i fo fe):=by
 intro pins s σ H J r S Q E I m;refine wpAny_AugAssign_AttributeAny (tC ho I m fun x S1 v s1 vx H1 J1 I1 x1 rx rv m1=>?_);cases e2:ir C ns x S1 with
 |bad=>rw[e2] at m1;exact m1.elim
 |exc c S2=>exact absurd e2 kf
 |ok p S2=>
  rw[e2] at m1;obtain⟨n,ds⟩:=p;obtain⟨rfl,rfl,hc⟩:=jU e2;obtain⟨a,rfl,hn⟩:=rx.HQ;cases rv;dsimp only at m1;cases e3:ds[i]? with
  |none=>rw[e3] at m1;exact m1.elim
  |some d=>
   rw[e3] at m1;cases d with
   |int j=>
    obtain⟨dx,ws,hv,Ig,NV⟩:=I1.st.at_ n _ a hc hn;obtain⟨w,hw,HW⟩:=NV.get e3;cases HW.FY;refine pC I1.inv hv c na (nX (Ig ▸ nd) (Ig ▸ hi) hw) fun u s2 I2 ru=>?_
    refine tC he ⟨I2,I1.loc,I1.st⟩ m1 fun y S3 v3 s3 vy H3 J3 I3 x3 ry Qz m3=>?_
    cases y with
    |int k=>
     dsimp only at m3;cases e4:ir C ns (.ob n) S3 with
     |bad=>rw[e4] at m3;exact m3.elim
     |exc c S2=>exact absurd e4 kf
     |ok q S4=>
      rw[e4] at m3;obtain⟨n',OJ⟩:=q;obtain⟨rfl,NW,Qj⟩:=jU e4
      injection NW with NW
      subst NW;cases ry.FY;obtain⟨t1,rfl⟩:=ru;obtain⟨t2,rfl⟩:=Qz;have X8:J3[n]?=some a:=by
       obtain⟨mm,em⟩:=x3.pre;rw[em,List.getElem?_append_left (List.getElem?_eq_some_iff.mp hn).1];exact hn
      exact PyProof.Rows.iadd_int (ul c na nd hz hi ⟨I3.inv.tok _,I3.loc,I3.st⟩ Qj X8 (r_.int _ _ _ (j+k)) ⟨_,rfl⟩ m3)
    |_=>exact m3.elim
   |_=>exact m1.elim
structure Fu(P:Program)(w:World)(K:PySem.W.Frag)(mg:Str->Option Value)(base:Heap)(CX:Ir)(C:Addr)(m:Str)(k:Nat)(ps:List Str)(F:List D->M D):Prop where
 ex:∃f fd,Meth K C m f/\Binds K fd ps []/\FK P w K mg base CX k f fd ps F
def bh(C:Addr)(ns:List Str)(F:List D->M D)(fo:tB->M D)(ft:tB->M (List D)):tB->M D:=fun r=>(fo r).bind fun x=>(ir C ns x).bind fun _=>(ft r).bind fun xs=>F (x :: xs)
theorem bG{CX:Ir}{k:Nat}{ps:List Str}{F:List D->M D}{m:Str}{pl:Sem Bool}(h:Fu X.prog X.w X.K X.mg X.base CX C m k ps F)(hr:FX k X.A)(c:K2 X.K C)(hm:m∉ns)(hx:oy CX X)(ho:Fn X o fo)(ha:KU X (e :: es) ft)
  (hl:∀r S xs S',ft r S=.ok xs S'->xs.length+1=ps.length)
  (Gz:starEach (e :: es) X.env=(false,eval e X.env) :: starEach es X.env:=by rfl) (K3:(backTo pos (starEach es X.env)).any (·.1)=false:=by rfl)
  (ht:eval (.Call (.Attribute o m apos) (e :: es) [] pos) X.env=(do
   let ov <-eval o X.env
   standAt apos.atName
   let (f,first) <-holding [ov] (getMethod ov m pl)
   callWith pos f first (backTo pos (starEach (e :: es) X.env)) (backToKw pos (keywordEach [] X.env))):=by rfl) :
  Fn X (.Call (.Attribute o m apos) (e :: es) [] pos) (bh C ns F fo ft):=by
 obtain⟨f,fd,hM,hb,hF⟩:=h.ex;intro pins s σ H J r S Q E I mm;refine PySem.W.methodCall_KW (pl:=pl) (ho pins s σ H J r S _ E I ?_) ht;unfold bh M.bind at mm;cases e1:fo r S with
 |bad=>rw[e1] at mm;exact mm
 |exc c S1=>rw[e1] at mm;exact mm
 |ok x S1=>
  rw[e1] at mm;dsimp only at mm;rintro v s1 ⟨vx,H1,I1,r1,J1,Hk,Hz,GY⟩
  replace mm:=Mt.ext Hk mm
  cases e2:ir C ns x S1 with
  |bad=>rw[e2] at mm;exact mm.elim
  |exc c S2=>exact absurd e2 kf
  |ok p S2=>
   rw[e2] at mm;obtain⟨n,ds⟩:=p;obtain⟨rfl,rfl,hc⟩:=jU e2;obtain⟨a,rfl,hn⟩:=GY.HQ;cases r1;obtain⟨dx,ws,hv,Ig,NV⟩:=Hz.at_ n _ a hc hn;refine p5 I1 hv c hM (nk (Ig ▸ hm)) ?_;refine PySem.W.callWith_K (first:=[.ref a]) (h₀:=X.base) I1.ok.mod.PL hM.kp ?_ Gz K3;refine ha pos pins s1 σ H1 J1 r _ _ E ⟨I1,I.loc.ext Hk,Hz⟩ ?_;dsimp only at mm;cases e3:ft r S2 with
   |bad=>rw[e3] at mm;exact mm
   |exc c S3=>rw[e3] at mm;exact mm
   |ok xs S3=>
    rw[e3] at mm;intro us s2 ⟨vs,H2,I2,r2,J2,Jt,Ih,Kn⟩;exact⟨I2.IS,tm (us:=.ref a :: us) (vs:=.ref a :: vs) (xs:=.ob n :: xs) hF hr hb hx I2 Ih (.cons (GY.ext Jt) Kn) (.cons rfl r2) (by rw[List.length_cons];exact hl r _ xs S3 e3) (Mt.ext Jt mm)⟩
theorem db{CX:Ir}{k:Nat}{ps:List Str}{F:List D->M D}{m:Str}{pl:Sem Bool}(h:Fu X.prog X.w X.K X.mg X.base CX C m k ps F)(hr:FX k X.A)(c:K2 X.K C)(hm:m∉ns)(hx:oy CX X)(ho:Fn X o fo)
  (hl:1=ps.length:=by rfl)
  (ht:eval (.Call (.Attribute o m apos) [] [] pos) X.env=(do
   let ov <-eval o X.env
   standAt apos.atName
   let (f,first) <-holding [ov] (getMethod ov m pl)
   callWith pos f first (backTo pos (starEach [] X.env)) (backToKw pos (keywordEach [] X.env))):=by rfl) :
  Fn X (.Call (.Attribute o m apos) [] [] pos) (bh C ns F fo ai):=by
 obtain⟨f,fd,hM,hb,hF⟩:=h.ex;intro pins s σ H J r S Q E I mm;refine PySem.W.methodCall_KW (pl:=pl) (ho pins s σ H J r S _ E I ?_) ht;unfold bh M.bind at mm;cases e1:fo r S with
 |bad=>rw[e1] at mm;exact mm
 |exc c S1=>rw[e1] at mm;exact mm
 |ok x S1=>
  rw[e1] at mm;dsimp only at mm;rintro v s1 ⟨vx,H1,I1,r1,J1,Hk,Hz,GY⟩
  replace mm:=Mt.ext Hk mm
  cases e2:ir C ns x S1 with
  |bad=>rw[e2] at mm;exact mm.elim
  |exc c S2=>exact absurd e2 kf
  |ok p S2=>
   rw[e2] at mm;obtain⟨n,ds⟩:=p;obtain⟨rfl,rfl,hc⟩:=jU e2;obtain⟨a,rfl,hn⟩:=GY.HQ;cases r1;obtain⟨dx,ws,hv,Ig,NV⟩:=Hz.at_ n _ a hc hn;refine p5 I1 hv c hM (nk (Ig ▸ hm)) ?_;exact PySem.W.callWith_K0 (first:=[.ref a]) I1.IS hM.kp (tm (us:=[.ref a]) (vs:=[.ref a]) (xs:=[.ob n]) hF hr hb hx I1 Hz (.one GY) (.cons rfl .nil) hl mm)
structure LF(P:Program)(w:World)(K:PySem.W.Frag)(mg:Str->Option Value)(base:Heap)(CX:Ir)(x:Str)(C:Addr)(k:Nat)(ps:List Str)(F:List D->M D):Prop where
 ex:∃f fd,mg x=some (.ref C)/\Mk K C f/\Binds K fd ps []/\FK P w K mg base CX k f fd ps F
def ie(C:Addr)(F:List D->M D)(xs:List D):M D:=fun S=>match F (.ob S.length :: xs) (S++[.ins C [] []]) with
 |.ok .EJ S'=>.ok (.ob S.length) S'
 |_=>.bad
theorem yF{CX:Ir}{k:Nat}{fI:Addr}{fd:FuncData}{ps:List Str}{F:List D->M D}{pins:EK}{σ:L2.St}{H:Hp}{J:List Addr}{S:List Cell}{s:Shared}{Q E:Value->Shared->Prop}{xs:List D}{vs:List V}{us:List Value}
  (hM:Mk X.K C fI) (hF:FK X.prog X.w X.K X.mg X.base CX k fI fd ps F) (hr:FX (k+1) X.A) (hb:Binds X.K fd ps []) (hx:oy CX X) (I:Inv X pins σ H s) (rs:EM X.K H J S) (rx:k_ X.K H J xs vs) (rv:Vals vs us) (hl:xs.length+1=ps.length)
  (m:Mt X pins σ H J (ie C F xs S) Q E):wpAny (model X.prog X.w) X.A (call (.ref C) us) Q E s:=by
 have PZ:H s.heap.objs.size=none:=I.EW.fresh (Nat.le_refl _);have X9:H (s.heap.objs.size+1)=none:=I.EW.fresh (Nat.le_succ _);have ne:s.heap.objs.size+1≠s.heap.objs.size:=Nat.succ_ne_self _;have I2:=Inv.made (C:=C) I;have QJ:upd H s.heap.objs.size (.own (s.heap.objs.size+1)) (s.heap.objs.size+1)=none:=by rw[bf ne];exact X9
 have x1:Ext H J (upd H s.heap.objs.size (.own (s.heap.objs.size+1))) J:=Ext.new PZ;have x2:Ext (upd H s.heap.objs.size (.own (s.heap.objs.size+1))) J (upd (upd H s.heap.objs.size (.own (s.heap.objs.size+1))) (s.heap.objs.size+1) (.ins C s.heap.objs.size [])) (J++[s.heap.objs.size+1]):=(Ext.new QJ).snoc _;have V9:=x1.trans x2;have Ih:EM X.K (upd (upd H s.heap.objs.size (.own (s.heap.objs.size+1))) (s.heap.objs.size+1) (.ins C s.heap.objs.size [])) (J++[s.heap.objs.size+1]) (S++[.ins C [] []]):=
  (rs.new PZ).push QJ ⟨s.heap.objs.size,[],bB,rfl,.nil⟩
 have ro:r_ X.K (upd (upd H s.heap.objs.size (.own (s.heap.objs.size+1))) (s.heap.objs.size+1) (.ins C s.heap.objs.size [])) (J++[s.heap.objs.size+1]) (.ob S.length) (.ref (s.heap.objs.size+1)):=.ob (by rw[<-rs.len];simp);have S_:k_ X.K (upd (upd H s.heap.objs.size (.own (s.heap.objs.size+1))) (s.heap.objs.size+1) (.ins C s.heap.objs.size [])) (J++[s.heap.objs.size+1]) (.ob S.length :: xs) (.ref (s.heap.objs.size+1) :: vs):=.cons ro (rx.ext V9);have Kn:Vals (V.ref (s.heap.objs.size+1) :: vs) (Value.ref (s.heap.objs.size+1) :: us):=.cons rfl rv;have hlen:(Value.ref (s.heap.objs.size+1) :: us++[]).length=ps.length:=by
  rw[List.append_nil,<-Kn.length,S_.length];exact hl
 have NO:=hb _ (Value.ref (s.heap.objs.size+1) :: us) I2.IS hlen;rw[List.append_nil] at NO;unfold ie at m;cases e:F (.ob S.length :: xs) (S++[.ins C [] []]) with
 |bad=>rw[e] at m;exact m.elim
 |exc c S'=>rw[e] at m;exact m.elim
 |ok d S'=>
  rw[e] at m;cases d with
  |EJ=>
   dsimp only at m;refine wpAny_call (ze (f:=fI) I.IS hM.makes hM.init (beq_iff_eq.mp hM.fn) (codeAny_mono (hF.run _ X.stack _ _ ⟨Value.ref (s.heap.objs.size+1) :: us,[]⟩ (Value.ref (s.heap.objs.size+1) :: us) _
    (fun v H'=>Got X.K (upd (upd H s.heap.objs.size (.own (s.heap.objs.size+1))) (s.heap.objs.size+1) (.ins C s.heap.objs.size [])) (J++[s.heap.objs.size+1]) .EJ S' v H') (fun _ _ _=>False) (hr.make C us []) (I2.Qo.make C us []) NO Kn ?_) fun rr s' hq=>?_))
   ·refine⟨by rw[S_.length];exact hl,J++[s.heap.objs.size+1],_,_,S_,Ih,?_⟩;rw[e];exact fun v H' g=>g
   ·cases rr with
    |error er=>
     obtain⟨c,H',XI,z⟩:=hx _ pins σ _ _ er s' I2 hq;exact z.elim
    |ok fl=>
     cases fl with
     |ret u=>
      obtain⟨v,H',I3,Qz,J3,x3,OA,Sw⟩:=I2.after hq;cases Sw.Lv;exact⟨Qz,m _ s' ⟨V.ref (s.heap.objs.size+1),H',I3,rfl,J3,V9.trans x3,OA,ro.ext x3⟩⟩
     |next=>exact False.elim hq
     |brk=>exact False.elim hq
     |cont=>exact False.elim hq
  |_=>exact m.elim
theorem tR{CX:Ir}{k:Nat}{ps:List Str}{F:List D->M D}{x:Str}{p:Pos}(h:LF X.prog X.w X.K X.mg X.base CX x C k ps F)(hr:FX (k+1) X.A)(hg:Gl X x)(hx:oy CX X)(ha:KU X (e :: es) ft)
  (hl:∀r S xs S',ft r S=.ok xs S'->xs.length+1=ps.length)
  (Mh:(x == ("__debug__":Str))=false:=by decide) (he:starEach (e :: es) X.env=(false,eval e X.env) :: starEach es X.env:=by rfl) (K3:(backTo pos (starEach es X.env)).any (·.1)=false:=by rfl) :
  Fn X (.Call (.Name x p) (e :: es) [] pos) (al (ie C F) ft):=by
 obtain⟨f,fd,hm,hM,hb,hF⟩:=h.ex;intro pins s σ H J r S Q E I m;refine wpAny_Call_Name_kw (kT I.inv hg hm ?_ Mh);refine PySem.W.callWith_K (h₀:=X.base) I.inv.ok.mod.PL hM.kp ?_ he K3;refine ha pos pins s σ H J r S _ E I ?_;unfold al M.bind at m;cases e1:ft r S with
 |bad=>rw[e1] at m;exact m
 |exc c S1=>rw[e1] at m;exact m
 |ok xs S1=>
  rw[e1] at m;intro us s1 ⟨vs,H1,I1,r1,J1,Hk,Hz,GY⟩;exact⟨I1.IS,yF hM hF hr hb hx I1 Hz GY r1 (hl r S xs S1 e1) (Mt.ext Hk m)⟩
end
end DL
namespace L2
open PySem PySem.Spec PyProof.Rows
section
variable{κ:Type}[DecidableEq κ]
def j7(kvs:List (κ×V))(k:κ):Option V:=(kvs.find? fun kv=>decide (kv.1=k)).map (·.2)
def jA(kvs:List (κ×V))(k:κ)(v:V):List (κ×V):=
 if (kvs.any fun kv=>decide (kv.1=k))=true then kvs.map (fun kv=>if kv.1=k then (kv.1,v) else kv) else kvs++[(k,v)]
def pI(kvs:List (κ×V))(k:κ):List (κ×V):=kvs.filter fun kv=>decide (kv.1≠k)
theorem mo{p:κ×V}{r:List (κ×V)}{k:κ}(e:p.1=k):j7 (p :: r) k=some p.2:=by simp[j7,List.find?_cons,e]
theorem m5{p:κ×V}{r:List (κ×V)}{k:κ}(e:¬p.1=k):j7 (p :: r) k=j7 r k:=by simp[j7,List.find?_cons,e]
theorem ui(k:κ):∀kvs:List (κ×V),(kvs.any fun kv=>decide (kv.1=k))=(j7 kvs k).isSome
 |[]=>rfl
 |p :: r=>by
  rw[List.any_cons];by_cases e:p.1=k
  ·simp only[mo e,decide_eq_true e,Bool.true_or,Option.isSome_some]
  ·rw[m5 e,decide_eq_false e,Bool.false_or];exact ui k r
theorem kG(kvs:List (κ×V))(k:κ)(v:V):(jA kvs k v).length<=kvs.length+1:=by
 unfold jA;split
 ·rw[List.length_map];omega
 ·rw[List.length_append,List.length_cons,List.length_nil];omega
theorem G9.G3{o:Option V}{u:Option Value}(r:G9 o u):o.isSome=u.isSome:=by
 cases o with
 |none=>cases u with
  |none=>rfl
  |some _=>exact(show False from r).elim
 |some _=>cases u with
  |none=>exact(show False from r).elim
  |some _=>rfl
theorem G9.getD{o:Option V}{u:Option Value}{d:V}{d':Value}(r:G9 o u)(rd:RelV d d'):RelV (o.getD d) (u.getD d'):=by
 cases o with
 |none=>cases u with
  |none=>exact rd
  |some _=>exact(show False from r).elim
 |some _=>cases u with
  |none=>exact(show False from r).elim
  |some _=>exact r
theorem KV.val{kvs:List (κ×V)}{vs:List (κ×Value)}(r:KV kvs vs)(k:κ):G9 (j7 kvs k) (valueAt vs k):=by
 unfold KV at r
 induction r with
 |nil=>exact True.intro
 |@cons p q ps qs h t ih=>
  obtain⟨h1,h2⟩:=h;by_cases e:p.1=k
  ·have e':q.1=k:=h1.symm.trans e;have b:valueAt (q :: qs) k=some q.2:=by simp[valueAt,List.find?_cons,e']
   rw[mo e,b];exact h2
  ·have e':¬q.1=k:=fun z=>e (h1.trans z)
   have b:valueAt (q :: qs) k=valueAt qs k:=by simp[valueAt,List.find?_cons,e']
   rw[m5 e,b];exact ih
theorem KV.any{kvs:List (κ×V)}{vs:List (κ×Value)}(r:KV kvs vs)(k:κ):(kvs.any fun kv=>decide (kv.1=k))=vs.any fun kv=>decide (kv.1=k):=by
 unfold KV at r
 induction r with
 |nil=>rfl
 |cons h t ih=>rw[List.any_cons,List.any_cons,ih,h.1]
theorem KV.Pn{kvs:List (κ×V)}{vs:List (κ×Value)}(r:KV kvs vs)(k:κ){y:V}{u:Value}(ry:RelV y u) :
  KV (kvs.map fun kv=>if kv.1=k then (kv.1,y) else kv) (vs.map fun kv=>if kv.1=k then (kv.1,u) else kv):=by
 unfold KV at r ⊢
 induction r with
 |nil=>exact .nil
 |@cons p q ps qs h t ih=>
  rw[List.map_cons,List.map_cons];refine .cons ?_ ih;obtain⟨h1,h2⟩:=h;by_cases e:p.1=k
  ·rw[if_pos e,if_pos (h1.symm.trans e)];exact⟨h1,ry⟩
  ·rw[if_neg e,if_neg (fun z=>e (h1.trans z))];exact⟨h1,h2⟩
theorem KV.put{kvs:List (κ×V)}{vs:List (κ×Value)}(r:KV kvs vs)(k:κ){y:V}{u:Value}(ry:RelV y u):KV (jA kvs k y) (stored vs k u):=by
 unfold jA stored;rw[r.any k];by_cases e:(vs.any fun kv=>decide (kv.1=k))=true
 ·rw[if_pos e,if_pos e];exact r.Pn k ry
 ·rw[if_neg e,if_neg e];exact Paired.snoc r ⟨rfl,ry⟩
theorem KV.drop{kvs:List (κ×V)}{vs:List (κ×Value)}(r:KV kvs vs)(k:κ):KV (pI kvs k) (without vs k):=by
 unfold KV at r ⊢;unfold pI without
 induction r with
 |nil=>exact .nil
 |@cons p q ps qs h t ih=>
  obtain⟨h1,h2⟩:=h;rw[List.filter_cons,List.filter_cons];by_cases e:p.1=k
  ·have a:¬decide (p.1≠k)=true:=by simp[e]
   have b:¬decide (q.1≠k)=true:=by simp[h1.symm.trans e]
   rw[if_neg a,if_neg b];exact ih
  ·have e':¬q.1=k:=fun z=>e (h1.trans z)
   have a:decide (p.1≠k)=true:=by simp[e]
   have b:decide (q.1≠k)=true:=by simp[e']
   rw[if_pos a,if_pos b];exact .cons ⟨h1,h2⟩ ih
theorem KV.keys{kvs:List (κ×V)}{vs:List (κ×Value)}(r:KV kvs vs):kvs.map (·.1)=vs.map (·.1):=by
 unfold KV at r
 induction r with
 |nil=>rfl
 |cons h t ih=>rw[List.map_cons,List.map_cons,ih,h.1]
theorem KV.length{kvs:List (κ×V)}{vs:List (κ×Value)}(r:KV kvs vs):kvs.length=vs.length:=Paired.length r
theorem yN(kvs:List (κ×V))(k:κ):(pI kvs k).length<=kvs.length:=List.length_filter_le _ _
end
theorem qv{P:Program}{w:World}{k:Key}{u:Value}(r:RelV (kV k) u):(cU P w).is k u=true:=by
 cases k with
 |inl i=>obtain⟨t,e⟩:=(show ∃t,u=Value.int i t from r);subst e;exact uD P w i t
 |inr x=>obtain⟨t,e⟩:=(show ∃t,u=Value.str x t from r);subst e;exact uP P w x t
theorem rH{P:Program}{w:World}:∀{ks:List Key}{us:List Value},Vals (ks.map kV) us->ItemsAre (cU P w) ks us
 |[],_,r=>by rw[List.map_nil] at r;cases r;exact .nil
 |k :: ks,_,r=>by
  rw[List.map_cons] at r;cases r with
  |cons h t=>exact .cons (qv h) (rH t)
abbrev KT(H:Hp):List (List Key×V)->List (List Key×Addr×Value)->Prop:=Paired fun p q=>p.1=q.1/\H q.2.1=some (.tup (p.1.map kV))/\RelV p.2 q.2.2
theorem KT.val{H:Hp}{kvs:List (List Key×V)}{xs:List (List Key×Addr×Value)}(r:KT H kvs xs)(k:List Key):G9 (j7 kvs k) ((atKey xs k).map (·.2)):=by
 induction r with
 |nil=>exact True.intro
 |@cons p q ps qs h t ih=>
  obtain⟨h1,_,h2⟩:=h;by_cases e:p.1=k
  ·have e':q.1=k:=h1.symm.trans e;have b:atKey (q :: qs) k=some q.2:=by simp[atKey,List.find?_cons,e']
   rw[mo e,b];exact h2
  ·have e':¬q.1=k:=fun z=>e (h1.trans z)
   have b:atKey (q :: qs) k=atKey qs k:=by simp[atKey,List.find?_cons,e']
   rw[m5 e,b];exact ih
theorem KT.Pn{H:Hp}{kvs:List (List Key×V)}{xs:List (List Key×Addr×Value)}(r:KT H kvs xs)(k:List Key){y:V}{u:Value}(ry:RelV y u) :
  KT H (kvs.map fun kv=>if kv.1=k then (kv.1,y) else kv) (xs.map (putAt k u)):=by
 induction r with
 |nil=>exact .nil
 |@cons p q ps qs h t ih=>
  rw[List.map_cons,List.map_cons];refine .cons ?_ ih;obtain⟨h1,h2,h3⟩:=h;unfold putAt;by_cases e:p.1=k
  ·rw[if_pos e,if_pos (h1.symm.trans e)];exact⟨h1,h2,ry⟩
  ·rw[if_neg e,if_neg (fun z=>e (h1.trans z))];exact⟨h1,h2,h3⟩
theorem KT.put{H:Hp}{kvs:List (List Key×V)}{xs:List (List Key×Addr×Value)}(r:KT H kvs xs)(k:List Key){b:Addr}{y:V}{u:Value}(hb:H b=some (.tup (k.map kV)))(ry:RelV y u) :
  KT H (jA kvs k y) (storedH xs k b u):=by
 have e:(kvs.any fun kv=>decide (kv.1=k))=(atKey xs k).isSome:=by
  rw[ui,(r.val k).G3,Option.isSome_map]
 unfold jA storedH;rw[e];by_cases q:(atKey xs k).isSome=true
 ·rw[if_pos q,if_pos q];exact r.Pn k ry
 ·rw[if_neg q,if_neg q];exact Paired.snoc r ⟨rfl,hb,ry⟩
theorem KT.keeps{H H':Hp}{kvs:List (List Key×V)}{xs:List (List Key×Addr×Value)}(r:KT H kvs xs)(ht:∀b ys,H b=some (.tup ys)->H' b=some (.tup ys)):KT H' kvs xs:=
 Paired.OV r fun _ _ z=>⟨z.1,ht _ _ z.2.1,z.2.2⟩
section
variable{P:Program}{w:World}{H:Hp}{h:Heap}{a:Addr}
theorem BX{u:HO}(ok:GH P w H h)(e:Rd H a u):Fq P w H h a u:=e.ok ok
theorem rZ{kvs:List (Key×V)}(ok:GH P w H h)(e:Rd H a (.dK kvs)):kvs.length<=sizeLine/\(a == sysModules)=false/\∃vs,KV kvs vs/\h.DictOf (cU P w) a vs:=
 show Fq P w H h a (.dK kvs) from BX ok e
theorem y3{kvs:List (Key×V)}(ok:GH P w H h)(e:H a=some (.dK kvs)):kvs.length<=sizeLine/\(a == sysModules)=false/\∃vs,KV kvs vs/\h.DictOf (cU P w) a vs:=rZ ok (.inl e)
theorem pP{ks:List Key}(ok:GH P w H h)(e:H a=some (.tup (ks.map kV))):(tupleKind (cU P w)).is h ks a:=by
 obtain⟨_,u_,r,o,h1,h2,n,h3⟩:=(show Fq P w H h a (.tup (ks.map kV)) from ok a _ e);exact⟨o,u_.toArray,n,h1,h2,h3,by simpa using rH r⟩
theorem sF{kvs:List (List Key×V)}(ok:GH P w H h)(e:Rd H a (.dT kvs)):kvs.length<=sizeLine/\(a == sysModules)=false/\
  ∃xs,KT H kvs xs/\h.DictOfH (tupleKind (cU P w)) a xs:=by
 obtain⟨z,y,xs,r,o,es,ep,h1,h2,h3,h4,h5⟩:=(show Fq P w H h a (.dT kvs) from BX ok e);refine⟨z,y,xs,r,o,es,ep,h1,h2,h3,h4,fun x hx=>?_,h5⟩;have all:∀{l:List (List Key×V)}{m:List (List Key×Addr×Value)},KT H l m->∀x∈m,(tupleKind (cU P w)).is h x.1 x.2.1:=by
  intro l m q
  induction q with
  |nil=>intro x hx;exact nomatch hx
  |@cons p q ps qs hq t ih=>
   intro x hx;rcases List.mem_cons.mp hx with e|hx
   ·subst e;exact pP ok (by rw[<-hq.1];exact hq.2.1)
   ·exact ih x hx
 exact all r x hx
theorem Dk{kvs:List (List Key×V)}(ok:GH P w H h)(e:H a=some (.dT kvs)):kvs.length<=sizeLine/\(a == sysModules)=false/\
  ∃xs,KT H kvs xs/\h.DictOfH (tupleKind (cU P w)) a xs:=sF ok (.inl e)
end
def IJ(H:Hp)(a:Addr)(y:V)(r:Option V):Prop:=
 (∃kvs k,Rd H a (.dK kvs)/\y=kV k/\r=j7 kvs k)\/∃kvs k b,Rd H a (.dT kvs)/\y=.ref b/\H b=some (.tup (k.map kV))/\r=j7 kvs k
def Mm(H:Hp)(a:Addr)(y v:V)(H':Hp):Prop:=
 (∃kvs k,H a=some (.dK kvs)/\y=kV k/\kvs.length<sizeLine/\H'=upd H a (.dK (jA kvs k v)))\/
 ∃kvs k b,H a=some (.dT kvs)/\y=.ref b/\H b=some (.tup (k.map kV))/\kvs.length<sizeLine/\H'=upd H a (.dT (jA kvs k v))
theorem IJ.k{H:Hp}{a:Addr}{kvs:List (Key×V)}{k:Key}(e:H a=some (.dK kvs)):IJ H a (kV k) (j7 kvs k):=.inl ⟨kvs,k,.inl e,rfl,rfl⟩
theorem IJ.t{H:Hp}{a b:Addr}{kvs:List (List Key×V)}{k:List Key}(e:H a=some (.dT kvs))(eb:H b=some (.tup (k.map kV))):IJ H a (.ref b) (j7 kvs k):=.inr ⟨kvs,k,b,.inl e,rfl,eb,rfl⟩
theorem Mm.k{H:Hp}{a:Addr}{kvs:List (Key×V)}{k:Key}{v:V}(e:H a=some (.dK kvs))(hl:kvs.length<sizeLine):Mm H a (kV k) v (upd H a (.dK (jA kvs k v))):=.inl ⟨kvs,k,e,rfl,hl,rfl⟩
theorem Mm.t{H:Hp}{a b:Addr}{kvs:List (List Key×V)}{k:List Key}{v:V}(e:H a=some (.dT kvs))(eb:H b=some (.tup (k.map kV)))(hl:kvs.length<sizeLine) :
  Mm H a (.ref b) v (upd H a (.dT (jA kvs k v))):=.inr ⟨kvs,k,b,e,rfl,eb,hl,rfl⟩
section
variable{X:Cx}{pins:List (Addr×Obj)}{σ:St}{H:Hp}{s:Shared}{a:Addr}{y v:V}{u r:Value}{o:Option V}{A:Around}{E:Value->Shared->Prop}
theorem Inv.big(I:Inv X pins σ H s):sysModules<s.heap.objs.size:=by
 have h:mainGlobals<s.heap.objs.size:=(I.mod.glob.keeps I.bk).lt;exact Nat.lt_trans (by decide) h
theorem xY{Q:Value->Shared->Prop}(hu:A.units+1<cLine)(I:Inv X pins σ H s)(g:IJ H a y (some v))(ry:RelV y u)(h:∀w' s',Inv X pins σ H s'->RelV v w'->Q w' s') :
  wpAny (model X.prog X.w) A (getItem (.ref a) u) Q E s:=by
 rcases g with ⟨kvs,k,e,ey,l⟩|⟨kvs,k,b,e,ey,eb,l⟩
 ·subst ey;obtain⟨z,hd,vs,rel,dd⟩:=rZ I.EW e;obtain⟨w',hw,HW⟩:=G9.some_of (v:=v) (o:=valueAt vs k) (by rw[l];exact rel.val k);exact wpAny_getItem_of (qv ry) dd.mapOf hw (h w' _ (I.tok _) HW)
 ·subst ey;cases(show u=Value.ref b from ry);obtain⟨z,hd,xs,rel,dd⟩:=sF I.EW e;obtain⟨w',hw,HW⟩:=G9.some_of (v:=v) (o:=(atKey xs k).map (·.2)) (by rw[l];exact rel.val k);obtain⟨p,hp,X_⟩:=Option.map_eq_some_iff.mp hw;refine wpAny_getItem_heap (tupleKind_room_in1 hu) (pP I.EW eb) dd hp ?_;rw[X_];exact h w' _ (I.tok _) HW
theorem Ey{Q:Value->Shared->Prop}(hu:A.units+1<cLine)(I:Inv X pins σ H s)(g:IJ H a y o)(ry:RelV y u)(h:∀s',Inv X pins σ H s'->Q (.bool o.isSome) s') :
  wpAny (model X.prog X.w) A (compareOp .In u (.ref a)) Q E s:=by
 rcases g with ⟨kvs,k,e,ey,l⟩|⟨kvs,k,b,e,ey,eb,l⟩
 ·subst ey;obtain⟨z,hd,vs,rel,dd⟩:=rZ I.EW e;refine wpAny_in_of (qv ry) hd dd.mapOf ?_;rw[<-(rel.val k).G3,<-l];exact h _ (I.tok _)
 ·subst ey;cases(show u=Value.ref b from ry);obtain⟨z,hd,xs,rel,dd⟩:=sF I.EW e;refine wpAny_in_heap (tupleKind_room_in1 hu) (pP I.EW eb) hd dd ?_;have q:=(rel.val k).G3;rw[Option.isSome_map] at q;rw[<-q,<-l];exact h _ (I.tok _)
theorem Bb{Q:Value->Shared->Prop}(hu:A.units+1<cLine)(I:Inv X pins σ H s)(g:IJ H a y o)(ry:RelV y u)(h:∀s',Inv X pins σ H s'->Q (.bool (!o.isSome)) s') :
  wpAny (model X.prog X.w) A (compareOp .NotIn u (.ref a)) Q E s:=by
 rcases g with ⟨kvs,k,e,ey,l⟩|⟨kvs,k,b,e,ey,eb,l⟩
 ·subst ey;obtain⟨z,hd,vs,rel,dd⟩:=rZ I.EW e;refine wpAny_notIn_of (qv ry) hd dd.mapOf ?_;rw[<-(rel.val k).G3,<-l];exact h _ (I.tok _)
 ·subst ey;cases(show u=Value.ref b from ry);obtain⟨z,hd,xs,rel,dd⟩:=sF I.EW e;refine wpAny_notIn_heap (tupleKind_room_in1 hu) (pP I.EW eb) hd dd ?_;have q:=(rel.val k).G3;rw[Option.isSome_map] at q;rw[<-q,<-l];exact h _ (I.tok _)
theorem o7{h':Heap}{t':Nat}{ob:HO}(I:Inv X pins σ H s)(mu:Qe (H a))(hs:Heap.SameBut a s.heap h')(he:∃q,h'.get? a=some q)(new:Fq X.prog X.w (upd H a ob) h' a ob) :
  Inv X pins σ (upd H a ob) { s with heap:=h',toks:=t' }:=
 I.write (x:=a) (e:=a) mu (.inl rfl) (fun b q hb z=>(hs.2 b hb).trans z) he new
theorem wo{P:Program}{w:World}{H':Hp}{h':Heap}{kvs:List (Key×V)}{vs:List (Key×Value)}(z:kvs.length<=sizeLine)(hd:(a == sysModules)=false)(rel:KV kvs vs)(dd:h'.DictOf (cU P w) a vs) :
  Fq P w H' h' a (.dK kvs):=⟨z,hd,vs,rel,dd⟩
theorem yi{H':Hp}{Q:Unit->Shared->Prop}(hu:A.units+1<cLine)(I:Inv X pins σ H s)(g:Mm H a y v H')(ry:RelV y u)(rv:RelV v r)(h:∀s',Inv X pins σ H' s'->Q () s') :
  wpAny (model X.prog X.w) A (setItem (.ref a) u r) Q E s:=by
 rcases g with ⟨kvs,k,e,ey,l,eH⟩|⟨kvs,k,b,e,ey,eb,l,eH⟩
 ·subst ey eH;obtain⟨z,hd,vs,rel,dd⟩:=y3 I.EW e;have hz:vs.length<=sizeLine:=by rw[<-rel.length];exact z
  have hl:(jA kvs k v).length<=sizeLine:=by have:=kG kvs k v;omega
  refine wpAny_setItem_pairs (hsz:=hz) (qv ry) dd fun h' Nx hs=>h _ ?_
  have he:∃q,h'.get? a=some q:=let ⟨q,_,_,hq,_⟩:=Nx;⟨q,hq⟩
  exact o7 I (by rw[e];exact True.intro) hs he (wo hl hd (rel.put k rv) Nx)
 ·subst ey eH;cases(show u=Value.ref b from ry);obtain⟨z,hd,xs,rel,dd⟩:=Dk I.EW e;have hz:xs.length<=sizeLine:=by rw[<-Paired.length rel];exact z
  have hl:(jA kvs k v).length<=sizeLine:=by have:=kG kvs k v;omega
  refine wpAny_setItem_heap (hsz:=hz) (tupleKind_room_in1 hu) (pP I.EW eb) dd fun h' Nx hs=>h _ ?_
  obtain⟨q,es,ep,hq,h2,h3,h4,_,h5⟩:=Nx;refine o7 I (by rw[e];exact True.intro) hs ⟨q,hq⟩ ⟨hl,hd,_,(rel.put k eb rv).keeps fun c ys ec=>?_,q,es,ep,hq,h2,h3,h4,h5⟩;rw[bf (Ds ec e (fun z=>nomatch z))];exact ec
end
section
variable{X:Cx}{pins:List (Addr×Obj)}{σ:St}{H:Hp}{s:Shared}{a:Addr}{kvs:List (Key×V)}{k:Key}{u:Value}{A:Around}{E:Value->Shared->Prop}
theorem Dp{v:V}{more:List Value}{Q:Value->Shared->Prop}(I:Inv X pins σ H s)(e:H a=some (.dK kvs))(ry:RelV (kV k) u)(l:j7 kvs k=some v)(hm:more=[]\/∃x,more=[x])
  (h:∀w' s',Inv X pins σ (upd H a (.dK (pI kvs k))) s'->RelV v w'->Q w' s'):wpAny (model X.prog X.w) A (call (.builtin "dict.pop") (.ref a :: u :: more)) Q E s:=by
 obtain⟨z,hd,vs,rel,dd⟩:=y3 I.EW e;obtain⟨w',hw,HW⟩:=G9.some_of (v:=v) (o:=valueAt vs k) (by rw[<-l];exact rel.val k);have hp:(keyPart u).isSome=true:=by
  cases k with
  |inl i=>obtain⟨t,q⟩:=(show ∃t,u=Value.int i t from ry);subst q;rfl
  |inr x=>obtain⟨t,q⟩:=(show ∃t,u=Value.str x t from ry);subst q;rfl
 have ha:argsOk "dict.pop" ⟨.ref a :: u :: more,[]⟩:=by
  rcases hm with q|⟨x,q⟩
  ·subst q;exact PySem.F.args_dict_pop_2 _ _
  ·subst q;exact PySem.F.args_dict_pop_3 _ _ _
 refine call_meetsIn PySem.F.slot_dict_pop dd.typeIs PySem.F.entry_dict_pop ha (meets_dict_pop_there (cU X.prog X.w) a (qv ry) more hm hp)
  ⟨vs,w',dd,by rw[<-rel.length];exact z,hw,fun h' Nx hs=>h w' _ ?_ HW⟩
 have he:∃q,h'.get? a=some q:=let ⟨q,_,_,hq,_⟩:=Nx;⟨q,hq⟩
 exact o7 I (by rw[e];exact True.intro) hs he (wo (Nat.le_trans (yN kvs k) z) hd (rel.drop k) Nx)
end
theorem uQ{X:Cx}{pins:List (Addr×Obj)}{σ:St}{H:Hp}{s:Shared}{a:Addr}{y:V}{o:Option V}(I:Inv X pins σ H s)(g:IJ H a y o):s.TypeIs (.ref a) "dict":=by
 rcases g with ⟨kvs,k,e,_,_⟩|⟨kvs,k,b,e,_,_,_⟩
 ·obtain⟨_,_,vs,_,dd⟩:=rZ I.EW e;exact dd.typeIs
 ·obtain⟨_,_,xs,_,dd⟩:=sF I.EW e;exact dd.typeIs
section
variable{X:Cx}{o i e value:Expr}{pos pos' IW:Pos}{td ty tv:TE}
end
theorem tZ{P:Program}{w:World}{H:Hp}(h:Heap)(hb:sysModules<h.objs.size):Fq P w H (h.push { cls:=.type "dict",data:=.dict #[] }) h.objs.size (.dK []):=
 ⟨Nat.zero_le _,beq_eq_false_iff_ne.mpr (Ne.symm (Nat.ne_of_lt hb)),[],.nil,Heap.DictOf.new h⟩
def Df:TE:=fun _ H Q=>∀p,H p=none->Q (.ref p) (upd H p (.dK []))
section
variable{X:Cx}{pos:Pos}
theorem An:PE X (.Dict [] [] pos) Df:=fun pins s σ H Q I h=>
 wpAny_Dict_empty ⟨.ref s.heap.objs.size,_,I.laid (a:=s.heap.objs.size) (o:=.dK []) (t':=s.toks) (fun _ _ q=>Heap.get?_push_of_some _ q) (Nat.le_refl _) (tZ s.heap I.big),rfl,h _ (I.EW.fresh (Nat.le_refl _))⟩
end
abbrev VV:List (V×V)->List (Value×Value)->Prop:=Paired fun p q=>RelV p.1 q.1/\RelV p.2 q.2
def n3(kvs more:List (Key×V)):List (Key×V):=more.foldl (fun acc kv=>jA acc kv.1 kv.2) kvs
theorem KV.merge:∀{more:List (Key×V)}{rs:List (Key×Value)}{kvs:List (Key×V)}{vs:List (Key×Value)},KV more rs->KV kvs vs->KV (n3 kvs more) (merged vs rs):=by
 intro more rs kvs vs r;unfold KV at r
 induction r generalizing kvs vs with
 |nil=>intro q;exact q
 |@cons p q ps qs h t ih=>
  intro r0;have e:KV (jA kvs p.1 p.2) (stored vs q.1 q.2):=by
   have:=r0.put p.1 h.2;rw[<-h.1];exact this
  exact ih e
theorem lC:∀(more kvs:List (Key×V)),(n3 kvs more).length<=kvs.length+more.length
 |[],kvs=>by show kvs.length<=kvs.length+0;omega
 |p :: r,kvs=>by
  have h1:=lC r (jA kvs p.1 p.2);have h2:=kG kvs p.1 p.2;show(n3 (jA kvs p.1 p.2) r).length<=_;rw[List.length_cons];omega
theorem qp{P:Program}{w:World}:∀{kvs:List (Key×V)}{ws:List (Value×Value)},VV (kvs.map fun kv=>(kV kv.1,kv.2)) ws->∃rs,Carries (cU P w) ws rs/\KV kvs rs
 |[],_,r=>by rw[List.map_nil] at r;cases r;exact⟨[],True.intro,.nil⟩
 |p :: kvs,_,r=>by
  rw[List.map_cons] at r;cases r with
  |@cons a b as bs h t=>
   obtain⟨rs,c,q⟩:=qp (P:=P) (w:=w) t;obtain⟨b1,b2⟩:=b;exact⟨(p.1,b2) :: rs,⟨qv h.1,rfl,c⟩,.cons ⟨rfl,h.2⟩ q⟩
structure M1(X:Cx)(o:Expr)(m:Str)(apos:Pos)(e:Expr)(Fy:Pos):Prop where
 base:attributeBase o m X.env (eval o X.env)=eval o X.env
 Ya:((backTo Fy (starEach [e] X.env)).all (fun x=>!x.1) && (backToKw Fy (keywordEach [] X.env)).all (fun x=>x.1.isSome)
  && decide (([e]:List Expr).length+([]:List Keyword).length+(if ([]:List Keyword).isEmpty then 0 else 1)<30))=true
 line:(apos.endLine == Fy.line)=true
 trees:backTo Fy (starEach [e] X.env)=[(false,eval e X.env)]
structure M2(X:Cx)(o:Expr)(m:Str)(apos:Pos)(e f:Expr)(Fy:Pos):Prop where
 base:attributeBase o m X.env (eval o X.env)=eval o X.env
 Ya:((backTo Fy (starEach [e,f] X.env)).all (fun x=>!x.1) && (backToKw Fy (keywordEach [] X.env)).all (fun x=>x.1.isSome)
  && decide (([e,f]:List Expr).length+([]:List Keyword).length+(if ([]:List Keyword).isEmpty then 0 else 1)<30))=true
 line:(apos.endLine == Fy.line)=true
 trees:backTo Fy (starEach [e,f] X.env)=[(false,eval e X.env),(false,eval f X.env)]
def Yb(H:Hp)(a:Addr):Prop:=(∃kvs,Rd H a (.dK kvs))\/∃kvs,Rd H a (.dT kvs)
theorem B6{X:Cx}{pins:List (Addr×Obj)}{σ:St}{H:Hp}{s:Shared}{a:Addr}(I:Inv X pins σ H s)(d:Yb H a) :
  s.TypeIs (.ref a) "dict"/\(∀b,Value.ref a=.ref b->∃ob,s.heap.get? b=some ob/\ob.dict=none)/\(a == sysModules)=false:=by
 rcases d with ⟨kvs,e⟩|⟨kvs,e⟩
 ·obtain⟨_,hd,vs,_,dd⟩:=rZ I.EW e;refine⟨dd.typeIs,fun b q=>?_,hd⟩;cases q;obtain⟨ob,_,_,h1,h2,_⟩:=dd;exact⟨ob,h1,h2.2.1⟩
 ·obtain⟨_,hd,xs,_,dd⟩:=sF I.EW e;refine⟨dd.typeIs,fun b q=>?_,hd⟩;cases q;obtain⟨ob,_,_,h1,h2,_⟩:=dd;exact⟨ob,h1,h2.2.1⟩
section
variable{X:Cx}{pins:List (Addr×Obj)}{σ:St}{H:Hp}{s:Shared}{a:Addr}{y d:V}{u r:Value}{o:Option V}{A:Around}{E:Value->Shared->Prop}
end
section
variable{X:Cx}{o e f:Expr}{apos Fy:Pos}{td ty tx:TE}
end
end L2
namespace DL
open PySem PySem.Spec PyProof.Rows L2
def gO(kvs:List (Key×D))(k:Key):Option D:=(kvs.find? fun kv=>decide (kv.1=k)).map (·.2)
def qO(kvs:List (Key×D))(k:Key)(d:D):List (Key×D):=
 if (kvs.any fun kv=>decide (kv.1=k))=true then kvs.map (fun kv=>if kv.1=k then (kv.1,d) else kv) else kvs++[(k,d)]
def uA(kvs:List (Key×D))(k:Key):List (Key×D):=kvs.filter fun kv=>decide (kv.1≠k)
section
variable{K:PySem.W.Frag}{H:Hp}{J:List Addr}
theorem EG.val:∀{kvs:List (Key×D)}{ws:List (Key×V)}(k:Key),EG K H J kvs ws->(∀d,gO kvs k=some d->∃v,j7 ws k=some v/\r_ K H J d v)/\(gO kvs k=none->j7 ws k=none)
 |[],_,k,h=>by
  have h':_=[]:=h;subst h';exact⟨fun d e=>(by cases e),fun _=>rfl⟩
 |(k0,d0) :: r,ws,k,h=>by
  obtain⟨v,t,rfl,h2,h3⟩:=h;by_cases e:k0=k
  ·have e1:gO ((k0,d0) :: r) k=some d0:=by simp[gO,List.find?_cons,e]
   have e2:j7 ((k0,v) :: t) k=some v:=mo e;rw[e1,e2];exact⟨fun d q=>⟨v,rfl,by cases q;exact h2⟩,fun q=>(by cases q)⟩
  ·have e1:gO ((k0,d0) :: r) k=gO r k:=by simp[gO,List.find?_cons,e]
   have e2:j7 ((k0,v) :: t) k=j7 t k:=m5 e;rw[e1,e2];exact EG.val k h3
theorem EG.QK:∀{kvs:List (Key×D)}{ws:List (Key×V)}(k:Key),EG K H J kvs ws->(kvs.any fun kv=>decide (kv.1=k))=ws.any fun kv=>decide (kv.1=k)
 |[],_,k,h=>by
  have h':_=[]:=h;subst h';rfl
 |(k0,d0) :: r,ws,k,h=>by
  obtain⟨v,t,rfl,h2,h3⟩:=h;rw[List.any_cons,List.any_cons,EG.QK k h3]
theorem EG.Po{d:D}{v:V}(hd:r_ K H J d v):∀{kvs:List (Key×D)}{ws:List (Key×V)}(k:Key),EG K H J kvs ws->
  EG K H J (kvs.map fun kv=>if kv.1=k then (kv.1,d) else kv) (ws.map fun kv=>if kv.1=k then (kv.1,v) else kv)
 |[],_,k,h=>by
  have h':_=[]:=h;subst h';exact h
 |(k0,d0) :: r,ws,k,h=>by
  obtain⟨v0,t,rfl,h2,h3⟩:=h;rw[List.map_cons,List.map_cons];by_cases e:k0=k
  ·rw[if_pos e,if_pos e];exact⟨v,_,rfl,hd,EG.Po hd k h3⟩
  ·rw[if_neg e,if_neg e];exact⟨v0,_,rfl,h2,EG.Po hd k h3⟩
theorem EG.snoc{d:D}{v:V}(hd:r_ K H J d v):∀{kvs:List (Key×D)}{ws:List (Key×V)}(k:Key),EG K H J kvs ws->EG K H J (kvs++[(k,d)]) (ws++[(k,v)])
 |[],_,k,h=>by
  have h':_=[]:=h;subst h';exact⟨v,[],rfl,hd,rfl⟩
 |(k0,d0) :: r,ws,k,h=>by
  obtain⟨v0,t,rfl,h2,h3⟩:=h;exact⟨v0,_,rfl,h2,EG.snoc hd k h3⟩
theorem EG.put{d:D}{v:V}(hd:r_ K H J d v){kvs:List (Key×D)}{ws:List (Key×V)}(k:Key)(h:EG K H J kvs ws):EG K H J (qO kvs k d) (jA ws k v):=by
 unfold qO jA;rw[h.QK k];by_cases e:(ws.any fun kv=>decide (kv.1=k))=true
 ·rw[if_pos e,if_pos e];exact h.Po hd k
 ·rw[if_neg e,if_neg e];exact h.snoc hd k
theorem EG.MS:∀{kvs:List (Key×D)}{ws:List (Key×V)}(k:Key),EG K H J kvs ws->EG K H J (uA kvs k) (pI ws k)
 |[],_,k,h=>by
  have h':_=[]:=h;subst h';exact h
 |(k0,d0) :: r,ws,k,h=>by
  obtain⟨v0,t,rfl,h2,h3⟩:=h;unfold uA pI;rw[List.filter_cons,List.filter_cons];by_cases e:decide (k0≠k)=true
  ·rw[if_pos e,if_pos e];exact⟨v0,_,rfl,h2,EG.MS k h3⟩
  ·rw[if_neg e,if_neg e];exact EG.MS k h3
end
def gZ:D->Option Key
 |.int i=>some (.inl i)
 |.str x=>some (.inr x)
 |_=>none
theorem jC{K:PySem.W.Frag}{H:Hp}{J:List Addr}{x:D}{k:Key}{v:V}(h:gZ x=some k)(r:r_ K H J x v):v=kV k:=by
 cases x with
 |int i=>cases h;cases r.FY;rfl
 |str i=>cases h;cases r.MK;rfl
 |_=>cases h
def dA(S:List Cell)(n:Nat):Option (List (Key×D)):=match S[n]? with
 |some (.Gu kvs)=>some kvs
 |_=>none
theorem wr{S:List Cell}{n:Nat}{kvs:List (Key×D)}(h:dA S n=some kvs):S[n]?=some (.Gu kvs):=by
 unfold dA at h;split at h
 ·rename_i e;cases h;exact e
 ·cases h
theorem fu{S:List Cell}{n:Nat}{kvs:List (Key×D)}(h:S[n]?=some (.Gu kvs)):dA S n=some kvs:=by unfold dA;rw[h]
theorem EM.Gu{K:PySem.W.Frag}{H:Hp}{J:List Addr}{S:List Cell}{n:Nat}{kvs:List (Key×D)}{a:Addr}(rs:EM K H J S)(h:dA S n=some kvs)(hn:J[n]?=some a):∃ws,H a=some (.dK ws)/\EG K H J kvs ws:=rs.at_ n _ a (wr h) hn
section
variable{X:Cx}{a b o e:Expr}{es:List Expr}{fa fb fo fi fe:tB->M D}{ft:tB->M (List D)}{pos:Pos}
def pw(x y:D):M D:=fun S=>match gZ x,y with
 |some k,.ob n=>(match dA S n with
  |some kvs=>.ok (.bl (gO kvs k).isSome) S
  |none=>.bad)
 |_,_=>.bad
def fm(x y:D):M D:=fun S=>match gZ x,y with
 |some k,.ob n=>(match dA S n with
  |some kvs=>.ok (.bl (!(gO kvs k).isSome)) S
  |none=>.bad)
 |_,_=>.bad
theorem sU{K:PySem.W.Frag}{H:Hp}{J:List Addr}{S:List Cell}{n:Nat}{kvs:List (Key×D)}{ad:Addr}(rs:EM K H J S)(h:dA S n=some kvs)(hn:J[n]?=some ad)(k:Key) :
  (∀d,gO kvs k=some d->∃v,IJ H ad (kV k) (some v)/\r_ K H J d v)/\∃ov,IJ H ad (kV k) ov/\ov.isSome=(gO kvs k).isSome:=by
 obtain⟨ws,hv,rp⟩:=rs.Gu h hn;obtain⟨h1,h2⟩:=rp.val k;refine⟨fun d e=>?_,j7 ws k,IJ.k hv,?_⟩
 ·obtain⟨v,e1,e2⟩:=h1 d e;exact⟨v,by rw[<-e1];exact IJ.k hv,e2⟩
 ·cases e:gO kvs k with
  |none=>rw[h2 e];rfl
  |some d=>obtain⟨v,e1,_⟩:=h1 d e;rw[e1];rfl
theorem zH(hu:X.A.units+64<cLine):Io X (compareOp .In) pw:=by
 intro pins s σ H J S x y vx vy v u Q E I rs rx ry rv ru m;unfold pw at m;cases ek:gZ x with
 |none=>rw[ek] at m;exact m.elim
 |some k=>
  rw[ek] at m;cases y with
  |ob n=>
   dsimp only at m;obtain⟨ad,rfl,hn⟩:=ry.HQ;cases ru;cases ed:dA S n with
   |none=>rw[ed] at m;exact m.elim
   |some kvs=>
    rw[ed] at m;have:=jC ek rx;subst this;obtain⟨_,ov,g,e⟩:=sU rs ed hn k;refine Ey (by omega) I g rv fun s' I'=>?_
    rw[e];exact m.Hl I' rs (r_.bl _ _ _ _) rfl
  |_=>exact m.elim
theorem sD(hu:X.A.units+64<cLine):Io X (compareOp .NotIn) fm:=by
 intro pins s σ H J S x y vx vy v u Q E I rs rx ry rv ru m;unfold fm at m;cases ek:gZ x with
 |none=>rw[ek] at m;exact m.elim
 |some k=>
  rw[ek] at m;cases y with
  |ob n=>
   dsimp only at m;obtain⟨ad,rfl,hn⟩:=ry.HQ;cases ru;cases ed:dA S n with
   |none=>rw[ed] at m;exact m.elim
   |some kvs=>
    rw[ed] at m;have:=jC ek rx;subst this;obtain⟨_,ov,g,e⟩:=sU rs ed hn k;refine Bb (by omega) I g rv fun s' I'=>?_
    rw[e];exact m.Hl I' rs (r_.bl _ _ _ _) rfl
  |_=>exact m.elim
def ik(x y:D):M D:=fun S=>match x,gZ y with
 |.ob n,some k=>(match dA S n with
  |some kvs=>(match gO kvs k with
   |some d=>.ok d S
   |none=>.bad)
  |none=>.bad)
 |_,_=>.bad
theorem tG(hu:X.A.units+64<cLine):PU X ik:=by
 intro value slice pins s σ H J S x y vx vy v u Q E I rs rx ry rv ru hs m;unfold ik at m;cases ek:gZ y with
 |none=>rw[ek] at m;cases x<;>exact m.elim
 |some k=>
  rw[ek] at m;cases x with
  |ob n=>
   dsimp only at m;obtain⟨ad,rfl,hn⟩:=rx.HQ;cases rv;cases ed:dA S n with
   |none=>rw[ed] at m;exact m.elim
   |some kvs=>
    rw[ed] at m;dsimp only at m;have:=jC ek ry;subst this;cases ev:gO kvs k with
    |none=>rw[ev] at m;exact m.elim
    |some d=>
     rw[ev] at m;obtain⟨h1,_⟩:=sU rs ed hn k;obtain⟨w,g,HW⟩:=h1 d ev;exact tail_any (uQ I g) PySem.F.slot_dict_getitem.lookup (xY (by omega) I g ru fun w' s' I' rr=>m.Hl I' rs HW rr) hs
  |_=>exact m.elim
def kg:tB->M D:=fun _ S=>.ok (.ob S.length) (S++[.Gu []])
theorem o6:Fn X (.Dict [] [] pos) kg:=by
 intro pins s σ H J r S Q E I m;refine wpAny_mono (An (X:=X.E8 E) pins s σ H (Got X.K H J (.ob S.length) (S++[.Gu []])) (I.inv.E8 E) ?_) (fun u s' q=>m u s' (EP.E5 q)) fun _ _ z=>z
 intro p hp;exact⟨J++[p],(Ext.new hp).snoc _,I.st.push hp ⟨[],bB,rfl⟩,.ob (by rw[<-I.st.len];simp)⟩
def Ta(X:Cx)(g:D->D->D->List Cell->Option (List Cell)):Prop:=∀(pins:EK) (s:Shared) (σ:L2.St) (H:Hp) (J:List Addr) (S:List Cell) (x y d:D) (vx vy vd:V) (ux uy ud:Value) (S':List Cell) (Q:Unit->Shared->Prop) (E:Value->Shared->Prop),
 Inv X pins σ H s->EM X.K H J S->r_ X.K H J x vx->r_ X.K H J y vy->r_ X.K H J d vd->RelV vx ux->RelV vy uy->RelV vd ud->g x y d S=some S'->(∀s' H',Inv X pins σ H' s'->Ext H J H' J->EM X.K H' J S'->Q () s')->wpAny (model X.prog X.w) X.A (setItem ux uy ud) Q E s
def vN(g:D->D->D->List Cell->Option (List Cell))(fo fi fe:tB->M D):E4:=fun r=>cu (fe r) r fun d=>cu (fo r) r fun x=>cu (fi r) r fun y S=>match g x y d S with
 |some S'=>some (.nx r,S')
 |none=>none
theorem tN{i:Expr}{pos':Pos}{g:D->D->D->List Cell->Option (List Cell)}(hg:Ta X g)(ho:Fn X o fo)(hi:Fn X i fi)(he:Fn X e fe)(hs:swapsWith e (some (.Subscript o i pos')) pos.line X.env=pure false:=by rfl) :
  Lx X (.Assign [.Subscript o i pos'] e pos) (vN g fo fi fe):=by
 intro pins s σ H J r S Q E I m;refine wpAny_Assign_Subscript (tC he I m fun d S1 ud s1 vd H1 J1 I1 x1 rd ru m1=>tC ho I1 m1 fun x S2 ux s2 vx H2 J2 I2 x2 rx Yc m2=>tC hi I2 m2 fun y S3 uy s3 vy H3 J3 I3 x3 ry Yd m3=>?_) hs;cases eg:g x y d S3 with
 |none=>rw[eg] at m3;exact m3.elim
 |some S'=>
  rw[eg] at m3;exact hg pins s3 σ H3 J3 S3 x y d vx vy vd ux uy ud S' _ E I3.inv I3.st (rx.ext x3) ry ((rd.ext x2).ext x3) Yc Yd ru eg fun s' H' I' x' MO=>m3 s' σ H' J3 ⟨I',I3.loc.ext x',MO⟩ x'
def qC(x y d:D)(S:List Cell):Option (List Cell):=match x,gZ y with
 |.ob n,some k=>(match dA S n with
  |some kvs=>Ha (kvs.length<sizeLine) (some (S.set n (.Gu (qO kvs k d)))) none
  |none=>none)
 |_,_=>none
theorem xx(hu:X.A.units+64<cLine):Ta X qC:=by
 intro pins s σ H J S x y d vx vy vd ux uy ud S' Q E I rs rx ry rd Tb Tc Td eg k;unfold qC at eg;cases ek:gZ y with
 |none=>rw[ek] at eg;cases x<;>cases eg
 |some ky=>
  rw[ek] at eg;cases x with
  |ob n=>
   dsimp only at eg;obtain⟨ad,rfl,hn⟩:=rx.HQ;cases Tb;cases ed:dA S n with
   |none=>rw[ed] at eg;cases eg
   |some kvs=>
    rw[ed] at eg;dsimp only at eg;unfold Ha at eg;split at eg
    ·rename_i hz;cases eg;have:=jC ek ry;subst this;obtain⟨ws,hv,rp⟩:=rs.Gu ed hn;refine yi (by omega) I (Mm.k hv (by rw[rp.length];exact hz)) Tc Td fun s' I'=>?_
     have x':Ext H J (upd H ad (.dK (jA ws ky vd))) J:=Ext.write hv rfl;exact k s' _ I' x' (rs.write hn ⟨_,bB,(rp.ext x').put (rd.ext x') ky⟩)
    ·cases eg
  |_=>cases eg
def n7(x y d:D)(S:List Cell):Option (List Cell):=match x,y with
 |.ob n,.int i=>(match cK S n with
  |some xs=>(match LX xs.length i with
   |some j=>some (S.set n (.lst (xs.set j d)))
   |none=>none)
  |none=>none)
 |_,_=>none
theorem w9:Ta X n7:=by
 intro pins s σ H J S x y d vx vy vd ux uy ud S' Q E I rs rx ry rd Tb Tc Td eg k;unfold n7 at eg;cases x with
 |ob n=>
  cases y with
  |int i=>
   dsimp only at eg;obtain⟨ad,rfl,hn⟩:=rx.HQ;cases ry.FY;cases ed:cK S n with
   |none=>rw[ed] at eg;cases eg
   |some xs=>
    rw[ed] at eg;dsimp only at eg;cases ej:LX xs.length i with
    |none=>rw[ej] at eg;cases eg
    |some j=>
     rw[ej] at eg;cases eg;obtain⟨ws,hv,HW⟩:=rs.lst ed hn;refine wpAny_mono (zT (X:=X.E8 E) pins s σ H (.ref ad) (.int i) vd ux uy ud (fun H'=>H'=upd H ad (.lst (ws.set j vd))) (I.E8 E) Tb Tc Td ⟨ad,ws,i,j,rfl,rfl,hv,by rw[HW.length];exact ej,rfl⟩) (fun _ s' q=>?_) fun _ _ z=>z
     obtain⟨H',I',rfl⟩:=q;have x':Ext H J (upd H ad (.lst (ws.set j vd))) J:=Ext.write hv rfl;exact k s' _ I'.E5 x' (rs.write hn ⟨_,bB,k_.set (rd.ext x') j (HW.ext x')⟩)
  |_=>cases eg
 |_=>cases eg
def A1(x:D):M Unit:=fun S=>match x with
 |.ob n=>(match dA S n with
  |some _=>.ok () S
  |none=>.bad)
 |_=>.bad
def yg(g:D->List D->M D)(fo:tB->M D)(ft:tB->M (List D)):tB->M D:=fun r=>(fo r).bind fun x=>(A1 x).bind fun _=>(ft r).bind fun xs=>g x xs
theorem Cv{name:Str}{apos Fy:Pos}{id:String}{g:D->List D->M D}(slot:Slot "dict" name id)(S8:typeOf (.builtin id)=pure (.type "method_descriptor"))(hm:Pm X id g)
  (ho:Fn X o fo) (ha:KU X (e :: es) ft)
  (IZ:attributeBase o name X.env (eval o X.env)=eval o X.env:=by rfl)
  (LD:((backTo Fy (starEach (e :: es) X.env)).all (fun x=>!x.1) && (backToKw Fy (keywordEach [] X.env)).all (fun x=>x.1.isSome)
   && decide ((e :: es).length+([]:List Keyword).length+(if ([]:List Keyword).isEmpty then 0 else 1)<30))=true:=by rfl)
  (I0:(apos.endLine == Fy.line)=true:=by rfl) (hs:starEach (e :: es) X.env=(false,eval e X.env) :: starEach es X.env:=by rfl) (I_:(backTo Fy (starEach es X.env)).any (·.1)=false:=by rfl) :
  Fn X (.Call (.Attribute o name apos) (e :: es) [] Fy) (yg g fo ft):=by
 intro pins s σ H J r S Q E I m;refine wpAny_Call_method_late IZ LD I0 rfl (ho pins s σ H J r S _ E I ?_);unfold yg M.bind at m;cases e1:fo r S with
 |bad=>rw[e1] at m;exact m
 |exc c S1=>rw[e1] at m;exact m
 |ok x S1=>
  rw[e1] at m;dsimp only at m;rintro v s1 ⟨vx,H1,I1,r1,J1,Hk,Hz,GY⟩;cases x with
  |ob n=>
   obtain⟨a,rfl,hn⟩:=GY.HQ;simp only[A1] at m;cases e2:dA S1 n with
   |none=>rw[e2] at m;exact m.elim
   |some kvs=>
    rw[e2] at m;obtain⟨ws,hv,Fg⟩:=Hz.Gu e2 hn;cases r1;obtain⟨h1,h2,_⟩:=B6 I1 (.inl ⟨ws,.inl hv⟩);refine⟨"dict",id,PySem.F.plainAttrs_dict,slot,S8,h1,h2,?_⟩;have m:=Mt.ext Hk m;have hA:=Cz (k:=fun xs=>g (.ob n) xs) (Q':=fun us s2=>wpAny (model X.prog X.w) X.A (call (.builtin id) (.ref a :: us)) Q E s2) ha ⟨I1,I.loc.ext Hk,Hz⟩ m (fun xs S2 s2 H2 J2 vs us I2 x2 rv r2 m2=>?_) Fy
    ·rw[hs] at hA ⊢;exact Calls.callWith_builtin (by show(false || (backTo Fy (starEach es X.env)).any (·.1))=false;rw[I_]<;>rfl) (Calls.evalArgs_plain hA)
    ·exact hm pins s2 σ H2 J2 S2 (.ob n) xs (.ref a) vs (.ref a) us Q E I2.inv I2.st (GY.ext x2) rv rfl r2 m2
  |_=>exact m.elim
def uH:D->List D->M D
 |.ob n,[y]=>fun S=>match gZ y,dA S n with
  |some k,some kvs=>(match gO kvs k with
   |some d=>.ok d (S.set n (.Gu (uA kvs k)))
   |none=>.bad)
  |_,_=>.bad
 |_,_=>M.bad
theorem AJ:Pm X "dict.pop" uH:=by
 intro pins s σ H J S x xs vx vs v us Q E I rs rx Kr rv Fg m;cases x with
 |ob n=>
  match xs,m,Kr with
  |[y],m,Kr=>
   obtain⟨ad,rfl,hn⟩:=rx.HQ;obtain⟨w,rfl,HW⟩:=Kr.Ii;obtain⟨u,rfl,ru⟩:=Fg.one;cases rv;simp only[uH] at m;cases ek:gZ y with
   |none=>rw[ek] at m;exact m.elim
   |some k=>
    rw[ek] at m;cases ed:dA S n with
    |none=>rw[ed] at m;exact m.elim
    |some kvs=>
     rw[ed] at m;dsimp only at m;cases ev:gO kvs k with
     |none=>rw[ev] at m;exact m.elim
     |some d=>
      rw[ev] at m;have:=jC ek HW;subst this;obtain⟨ws,hv,rp⟩:=rs.Gu ed hn;obtain⟨vd,e1,rd⟩:=(rp.val k).1 d ev;refine Dp I hv ru e1 (.inl rfl) fun w' s' I' rr=>?_
      have x':Ext H J (upd H ad (.dK (pI ws k))) J:=Ext.write hv rfl;exact m w' s' ⟨vd,_,I',rr,J,x',rs.write hn ⟨_,bB,(rp.ext x').MS k⟩,rd.ext x'⟩
  |[],m,_=>exact m.elim
  |_ :: _ :: _,m,_=>exact m.elim
 |_=>exact m.elim
end
end DL
namespace DL
open PySem PySem.Spec PyProof.Rows L2
theorem oY(l:Addr)(items:Array Value)(n:Nat)(b:Addr)(Jb:Array Value)(n2:Nat)(dd:Option Addr)(sl:Array (Option Value))(VW:¬(!items.isEmpty && Builtin.List.listTooLong (items.size+Jb.size))=true)(Ye:items.size<=sizeLine)(Ke:items.size+Jb.size<=sizeLine+1) :
  Meets (Builtin.«list.extend» ⟨[.ref l,.ref b],[]⟩) (fun _ R s=>s.heap.get? l=some { cls:=.type "list",dict:=none,data:=.seq items n,slots:=#[] }/\s.heap.get? b=some { cls:=.type "tuple",dict:=dd,data:=.seq Jb n2,slots:=sl }/\R (.ok (.ret Value.none)) { s with heap:=s.heap.update l (Obj.mapSeq fun x=>x++Jb),toks:=s.toks }):=
 .of_wp fun prog w A R s h=>by
  obtain⟨hp,g,d,tk,os⟩:=s;obtain⟨hl,hb,h⟩:=h;have f1:=PySem.AutoSeq1.idx_int;have f2:=PySem.AutoSeq1.sub_tuple_tuple;have f3:=PySem.AutoSeq1.sub_list_list;have f4:=PySem.AutoSeq1.sub_tuple_list;have f5:=PySem.AutoSeq1.sub_list_tuple;have Rw:(items++Jb).size<=sizeLine+1:=by rw[Array.size_append];exact Ke
  wp_walk using (wpAny_updateSeq hl rfl (hz:=Ye) (_hz':=Rw)),wpAny_loadPart' hl,wpAny_loadPart' hb
  exact⟨_,rfl,h⟩
section
variable{X:Cx}
def qL:D->List D->M D
 |.ob n,[.tup ys]=>fun S=>match cK S n with
  |some xs=>Ha (xs.length+ys.length<=sizeLine) (.ok .EJ (S.set n (.lst (xs++ys)))) .bad
  |none=>.bad
 |_,_=>M.bad
theorem nC:Pm X "list.extend" qL:=by
 intro pins s σ H J S x xs vx vs v us Q E I rs rx Kr rv Fg m;cases x with
 |ob n=>
  match xs,m,Kr with
  |[.tup ys],m,Kr=>
   obtain⟨ad,rfl,hn⟩:=rx.HQ;obtain⟨w,rfl,HW⟩:=Kr.Ii;obtain⟨u,rfl,ru⟩:=Fg.one;cases rv;obtain⟨b,zs,rfl,hq,rz⟩:=HW.HP;cases ru;simp only[qL,Ha] at m;cases ed:cK S n with
   |none=>rw[ed] at m;exact m.elim
   |some Rx=>
    rw[ed] at m;dsimp only at m;split at m
    ·rename_i hz;obtain⟨ws,hv,rws⟩:=rs.lst ed hn;obtain⟨z,u_,n1,r,hl,e⟩:=I.K5 hv;obtain⟨K6,r2,ht,V_⟩:=I.tuple hq;obtain⟨⟨Qr,PQ,data2,PR⟩,Mg,Oz,n2,hd2⟩:=id ht;simp only at Oz hd2;subst Oz hd2;have Nq:=r2.length;have l1:=rws.length;have l2:=rz.length;have hsz:u_.toArray.size+K6.toArray.size<=sizeLine:=by rw[List.size_toArray,List.size_toArray];omega
     have MI:¬(!u_.toArray.isEmpty && Builtin.List.listTooLong (u_.toArray.size+K6.toArray.size))=true:=by
      rw[tY hsz,Bool.and_false];exact Bool.false_ne_true
     refine call_meets F.slot_list_extend ⟨_,e,rfl⟩ F.entry_list_extend (F.args_list_extend_2 _ _) (oY ad u_.toArray n1 b K6.toArray n2 PQ PR MI (by rw[List.size_toArray];omega) (by omega)) ⟨e,Mg,?_⟩;have x':Ext H J (upd H ad (.lst (ws++zs))) J:=Ext.write hv rfl;refine m _ _ ⟨.EJ,_,I.NI (its':=u_++K6) hv e (by simp) (r.append r2) (by rw[List.length_append];omega),rfl,J,x',rs.write hn ⟨_,bB,(rws.ext x').append (rz.ext x')⟩,r_.EJ _ _ _⟩
    ·exact m.elim
  |[],m,_=>exact m.elim
  |[.EJ],m,_=>exact m.elim
  |[.bl _],m,_=>exact m.elim
  |[.int _],m,_=>exact m.elim
  |[.str _],m,_=>exact m.elim
  |[.FP _],m,_=>exact m.elim
  |[.ob _],m,_=>exact m.elim
  |[.xn _],m,_=>exact m.elim
  |y :: _ :: _,m,_=>cases y<;>exact m.elim
 |_=>exact m.elim
theorem k_.eraseIdx{K:PySem.W.Frag}{H:Hp}{J:List Addr}:∀{xs:List D}{vs:List V}(i:Nat),k_ K H J xs vs->k_ K H J (xs.eraseIdx i) (vs.eraseIdx i)
 |[],_,i,h=>by unfold k_ at h;subst h;simp;exact .nil
 |x :: xs,vs,0,h=>by
  unfold k_ at h;obtain⟨v,r,h1,h2,h3⟩:=h;subst h1;exact h3
 |x :: xs,vs,i+1,h=>by
  unfold k_ at h;obtain⟨v,r,h1,h2,h3⟩:=h;subst h1;exact .cons h2 (k_.eraseIdx i h3)
def vM:D->List D->M D
 |.ob n,[.int i]=>fun S=>match cK S n with
  |some xs=>Ha (0<=i/\i<xs.length) (match xs[i.toNat]? with
   |some d=>.ok d (S.set n (.lst (xs.eraseIdx i.toNat)))
   |none=>.bad) .bad
  |none=>.bad
 |_,_=>M.bad
theorem zW:Pm X "list.pop" vM:=by
 intro pins s σ H J S x xs vx vs v us Q E I rs rx Kr rv Fg m;cases x with
 |ob n=>
  match xs,m,Kr with
  |[.int i],m,Kr=>
   obtain⟨ad,rfl,hn⟩:=rx.HQ;obtain⟨w,rfl,HW⟩:=Kr.Ii;cases HW.FY;simp only[vM,Ha] at m;cases ed:cK S n with
   |none=>rw[ed] at m;exact m.elim
   |some Rx=>
    rw[ed] at m;dsimp only at m;split at m
    ·rename_i hz;cases e3:Rx[i.toNat]? with
     |none=>rw[e3] at m;exact m.elim
     |some d=>
      rw[e3] at m;obtain⟨ws,hv,rws⟩:=rs.lst ed hn;obtain⟨w,hw,HW⟩:=rws.get e3;have hl:=rws.length;have Te:=lR;have hz0:=(I.K5 hv).1;refine wpAny_mono (yJ (X:=X.E8 E) pins s σ H (.ref ad) [.int i] v us (Got X.K H J d (S.set n (.lst (Rx.eraseIdx i.toNat)))) (I.E8 E) rv Fg ⟨ad,ws,i,i.toNat,w,rfl,rfl,hv,by omega,by omega,seqIndex_of hz.1 (by rw[hl];exact hz.2),hw,?_⟩) (fun u s' q=>m u s' (EP.E5 q)) fun _ _ z=>z
      have x':Ext H J (upd H ad (.lst (ws.eraseIdx i.toNat))) J:=Ext.write hv rfl;exact⟨J,x',rs.write hn ⟨_,bB,k_.eraseIdx _ (rws.ext x')⟩,HW.ext x'⟩
    ·exact m.elim
  |[],m,_=>exact m.elim
  |[.EJ],m,_=>exact m.elim
  |[.bl _],m,_=>exact m.elim
  |[.tup _],m,_=>exact m.elim
  |[.str _],m,_=>exact m.elim
  |[.FP _],m,_=>exact m.elim
  |[.ob _],m,_=>exact m.elim
  |[.xn _],m,_=>exact m.elim
  |y :: _ :: _,m,_=>cases y<;>exact m.elim
 |_=>exact m.elim
def u6:D->List D->M D
 |.ob n,[.int i,y]=>fun S=>match cK S n with
  |some xs=>Ha ((0<=i/\i<=xs.length)/\xs.length<sizeLine) (.ok .EJ (S.set n (.lst (xs.take i.toNat++y :: xs.drop i.toNat)))) .bad
  |none=>.bad
 |_,_=>M.bad
theorem xD:Pm X "list.insert" u6:=by
 intro pins s σ H J S x xs vx vs v us Q E I rs rx Kr rv Fg m;cases x with
 |ob n=>
  match xs,m,Kr with
  |[.int i,y],m,Kr=>
   obtain⟨ad,rfl,hn⟩:=rx.HQ;obtain⟨w1,w2,rfl,Yf,Yg⟩:=Kr.NP;cases Yf.FY;obtain⟨u1,u2,rfl,Yh,Yi⟩:=Fg.two;obtain⟨t1,rfl⟩:=Yh;cases rv;simp only[u6,Ha] at m;cases ed:cK S n with
   |none=>rw[ed] at m;exact m.elim
   |some Rx=>
    rw[ed] at m;dsimp only at m;split at m
    ·rename_i hz;obtain⟨ws,hv,rws⟩:=rs.lst ed hn;obtain⟨z,u_,n1,r,hl,e⟩:=I.K5 hv;have l1:=rws.length;have Te:=lR;have MH:Builtin.List.listFitsIndex i=true:=fitsIndex_both (by omega) (by omega);refine call_meets PySem.F.slot_list_insert ⟨_,e,rfl⟩ PySem.F.entry_list_insert (PySem.F.args_list_insert_3 _ _ _) (PySem.AutoSeq1.list_insert_list_int_val_1 ad u_.toArray n1 i t1 u2 (by simp[MH]) (by rw[List.size_toArray];omega)) ⟨e,?_⟩;have x':Ext H J (upd H ad (.lst (ws.take i.toNat++w2 :: ws.drop i.toNat))) J:=Ext.write hv rfl;refine m _ _ ⟨.EJ,_,I.NI (its':=u_.take i.toNat++u2 :: u_.drop i.toNat) hv e ?_ ((r.take _).append (.cons Yi (r.drop _))) ?_,rfl,J,x',rs.write hn ⟨_,bB,((rws.ext x').take _).append (.cons (Yg.ext x') ((rws.ext x').drop _))⟩,r_.EJ _ _ _⟩
     ·have h0:¬i<0:=by omega
      have hk:min i.toNat u_.toArray.size=i.toNat:=by rw[List.size_toArray];omega
      simp only[if_neg h0,hk];apply Array.toList_inj.mp;simp;exact List.take_of_length_le (by rw[List.length_drop];exact Nat.le_refl _)
     ·rw[List.length_append,List.length_cons,List.length_take,List.length_drop];omega
    ·exact m.elim
  |[],m,_=>exact m.elim
  |[.int _],m,_=>exact m.elim
  |[.EJ],m,_=>exact m.elim
  |[.bl _],m,_=>exact m.elim
  |[.tup _],m,_=>exact m.elim
  |[.str _],m,_=>exact m.elim
  |[.FP _],m,_=>exact m.elim
  |[.ob _],m,_=>exact m.elim
  |[.xn _],m,_=>exact m.elim
  |.EJ :: _ :: _,m,_=>exact m.elim
  |.bl _ :: _ :: _,m,_=>exact m.elim
  |.tup _ :: _ :: _,m,_=>exact m.elim
  |.str _ :: _ :: _,m,_=>exact m.elim
  |.FP _ :: _ :: _,m,_=>exact m.elim
  |.ob _ :: _ :: _,m,_=>exact m.elim
  |.xn _ :: _ :: _,m,_=>exact m.elim
  |.int _ :: _ :: _ :: _,m,_=>exact m.elim
 |_=>exact m.elim
end
end DL
namespace DL
open PySem PySem.Spec PyProof.Rows L2
section
variable{X:Cx}
theorem eK{n:Nat}{g:tB->M (List D)}(h:∀(r:tB) (S:List Cell) (xs:List D) (S':List Cell),g r S=.ok xs S'->xs.length=n):∀(r:tB) (S:List Cell) (xs:List D) (S':List Cell),g r S=.ok xs S'->xs.length+1=n+1:=
 fun r S xs S' e=>by rw[h r S xs S' e]
def sm:tB->M (List (D×D)):=fun _=>M.ret []
def iK(fk fv:tB->M D)(f:tB->M (List (D×D))):tB->M (List (D×D)):=fun r=>(fk r).bind fun k=>(fv r).bind fun v=>(f r).bind fun ps=>M.ret ((k,v) :: ps)
def P4(X:Cx)(pins:EK)(σ:L2.St)(H:Hp)(J:List Addr)(r:R (List (D×D)))(Q:List (Value×Value)->Shared->Prop)(E:Value->Shared->Prop):Prop:=match r with
 |.ok ps S'=>∀us s',(∃vs H' J',Inv X pins σ H' s'/\VV vs us/\Ext H J H' J'/\EM X.K H' J' S'/\k_ X.K H' J' (ps.map (·.1)) (vs.map (·.1))/\k_ X.K H' J' (ps.map (·.2)) (vs.map (·.2)))->Q us s'
 |.exc c S'=>∀e s',XP X pins σ c (HN X.K H J S') e s'->E e s'
 |.bad=>False
theorem P4.ext{pins:EK}{σ:L2.St}{H H1:Hp}{J J1:List Addr}{r:R (List (D×D))}{Q:List (Value×Value)->Shared->Prop}{E:Value->Shared->Prop}(e:Ext H J H1 J1)(h:P4 X pins σ H J r Q E):P4 X pins σ H1 J1 r Q E:=by
 cases r with
 |ok d S=>exact fun u s' ⟨v,H',J',I,rv,x,g⟩=>h u s' ⟨v,H',J',I,rv,e.trans x,g⟩
 |exc c S=>exact fun u s' x=>h u s' (x.ext e)
 |bad=>exact h
def Ry(X:Cx)(pos:Pos)(keys:List (Option Expr))(values:List Expr)(f:tB->M (List (D×D))):Prop:=∀(pins:EK) (s:Shared) (σ:L2.St) (H:Hp) (J:List Addr) (r:tB) (S:List Cell) (Q:List (Value×Value)->Shared->Prop) (E:Value->Shared->Prop),
 At X pins σ H J r S s->P4 X pins σ H J (f r S) Q E->wpAny (model X.prog X.w) X.A (evalPairs (pairTrees keys values X.env pos)) Q E s
theorem BP{pos:Pos}:Ry X pos [] [] sm:=fun pins s σ H J r S Q E I m=>pairTrees_nil_walk (m [] s ⟨[],H,J,I.inv,.nil,Ext.refl _ _,I.st,.nil,.nil⟩)
theorem uG{pos:Pos}{k v:Expr}{ks:List (Option Expr)}{vs:List Expr}{fk fv:tB->M D}{f:tB->M (List (D×D))}(hk:Fn X k fk)(hv:Fn X v fv)(hr:Ry X pos ks vs f):Ry X pos (some k :: ks) (v :: vs) (iK fk fv f):=by
 intro pins s σ H J r S Q E I m;refine pairTrees_cons_walk (hk pins s σ H J r S _ E I ?_);unfold iK M.bind at m;cases e1:fk r S with
 |bad=>rw[e1] at m;exact m
 |exc c S1=>rw[e1] at m;exact m
 |ok x S1=>
  rw[e1] at m;intro u1 s1 ⟨v1,H1,I1,r1,J1,x1,Hz,GY⟩;have m:=P4.ext x1 m;dsimp only at m;refine hv pins s1 σ H1 J1 r S1 _ E ⟨I1,I.loc.ext x1,Hz⟩ ?_;cases e2:fv r S1 with
  |bad=>rw[e2] at m;exact m
  |exc c S2=>rw[e2] at m;exact m
  |ok y S2=>
   rw[e2] at m;intro u2 s2 ⟨v2,H2,I2,r2,J2,x2,Ih,Kn⟩;have m:=P4.ext x2 m;dsimp only at m;refine hr pins s2 σ H2 J2 r S2 _ E ⟨I2,(I.loc.ext x1).ext x2,Ih⟩ ?_;cases e3:f r S2 with
   |bad=>rw[e3] at m;exact m
   |exc c S3=>rw[e3] at m;exact m
   |ok ps S3=>
    rw[e3] at m;intro us s3 ⟨Yj,H3,J3,I3,rel,x3,OA,ra,rb⟩;exact m _ s3 ⟨(v1,v2) :: Yj,H3,J3,I3,.cons ⟨r1,r2⟩ rel,x3,OA,.cons ((GY.ext x2).ext x3) ra,.cons (Kn.ext x3) rb⟩
def oj:List (D×D)->Option (List (Key×D))
 |[]=>some []
 |(k,d) :: r=>match gZ k,oj r with
  |some k',some t=>some ((k',d) :: t)
  |_,_=>none
def tK(kvs more:List (Key×D)):List (Key×D):=more.foldl (fun acc kv=>qO acc kv.1 kv.2) kvs
def pH(f:tB->M (List (D×D))):tB->M D:=fun r S=>match f r (S++[.Gu []]) with
 |.ok ps S1=>(match dA S1 S.length,oj ps with
  |some [],some kvs=>Ha (kvs.length<=15) (.ok (.ob S.length) (S1.set S.length (.Gu (tK [] kvs)))) .bad
  |_,_=>.bad)
 |.exc c S1=>.exc c S1
 |.bad=>.bad
theorem rW{K:PySem.W.Frag}{H:Hp}{J:List Addr}:∀{ps:List (D×D)}{vs:List (V×V)}{kvs:List (Key×D)},oj ps=some kvs->k_ K H J (ps.map (·.1)) (vs.map (·.1))->k_ K H J (ps.map (·.2)) (vs.map (·.2))->
  ∃ws:List (Key×V),vs=ws.map (fun kv=>(kV kv.1,kv.2))/\EG K H J kvs ws/\ws.length=kvs.length
 |[],vs,kvs,e,ra,rb=>by
  cases e;have:=ra.length;cases vs with
  |nil=>exact⟨[],rfl,rfl,rfl⟩
  |cons v vs=>simp at this
 |(k,d) :: r,vs,kvs,e,ra,rb=>by
  cases vs with
  |nil=>have:=ra.length;simp at this
  |cons v vs=>
   unfold oj at e;cases e1:gZ k with
   |none=>rw[e1] at e;cases e
   |some k'=>
    rw[e1] at e;cases e2:oj r with
    |none=>rw[e2] at e;cases e
    |some t=>
     rw[e2] at e;cases e;rw[List.map_cons,List.map_cons] at ra rb;unfold k_ at ra rb;obtain⟨a1,a2,a3,a4,a5⟩:=ra;obtain⟨b1,b2,b3,b4,b5⟩:=rb
     injection a3 with a6 a7
     injection b3 with b6 b7
     subst a6 a7 b6 b7;obtain⟨ws,h1,h2,h3⟩:=rW e2 a5 b5;refine⟨(k',v.2) :: ws,?_,⟨v.2,ws,rfl,b4,h2⟩,by simp[h3]⟩;rw[List.map_cons,<-h1,<-jC e1 a4]
theorem EG.merge{K:PySem.W.Frag}{H:Hp}{J:List Addr}:∀{more:List (Key×D)}{ms:List (Key×V)}{kvs:List (Key×D)}{ws:List (Key×V)},EG K H J more ms->EG K H J kvs ws->EG K H J (tK kvs more) (n3 ws ms)
 |[],_,kvs,ws,h,g=>by
  have h':_=[]:=h;subst h';exact g
 |(k,d) :: r,ms,kvs,ws,h,g=>by
  obtain⟨v,t,rfl,h2,h3⟩:=h;exact EG.merge (kvs:=qO kvs k d) (ws:=jA ws k v) h3 (g.put h2 k)
theorem AV{pos:Pos}{keys:List (Option Expr)}{values:List Expr}{f:tB->M (List (D×D))}(h:Ry X pos keys values f)(O3:keys.all (·.isSome)=true:=by rfl)(hl:keys.length=values.length:=by rfl)(h0:keys≠[]:=by simp)
  (Yk:keys.length<=15:=by decide):Fn X (.Dict keys values pos) (pH f):=by
 intro pins s σ H J r S Q E I m;have hn:=I.inv.EW.fresh (Nat.le_refl s.heap.objs.size);have I1:=I.inv.laid (a:=s.heap.objs.size) (o:=.dK []) (h':=s.heap.push { cls:=.type "dict",data:=.dict #[] }) (t':=s.toks) (fun _ _ q=>Heap.get?_push_of_some _ q) (Nat.le_refl _) (tZ s.heap I.inv.big);have x1:Ext H J (upd H s.heap.objs.size (.dK [])) (J++[s.heap.objs.size]):=(Ext.new hn).snoc _;have Hz:EM X.K (upd H s.heap.objs.size (.dK [])) (J++[s.heap.objs.size]) (S++[.Gu []]):=I.st.push hn ⟨[],bB,rfl⟩;have hJ:(J++[s.heap.objs.size])[S.length]?=some s.heap.objs.size:=by rw[<-I.st.len];simp
 refine wpAny_Dict_walk (knd:=cU X.prog X.w) O3 hl h0 Yk (h pins _ σ _ _ r (S++[.Gu []]) _ E ⟨I1,I.loc.ext x1,Hz⟩ ?_);unfold pH at m;cases e1:f r (S++[.Gu []]) with
 |bad=>rw[e1] at m;exact m
 |exc c S1=>rw[e1] at m;exact fun u s' x=>m u s' (x.ext x1)
 |ok ps S1=>
  rw[e1] at m;have m:=Mt.ext x1 m;intro us s2 ⟨vs,H2,J2,I2,rel,x2,Ih,ra,rb⟩;have m:=Mt.ext x2 m;dsimp only at m;have Tf:J2[S.length]?=some s.heap.objs.size:=by
   obtain⟨mm,em⟩:=x2.pre;rw[em,List.getElem?_append_left (List.getElem?_eq_some_iff.mp hJ).1];exact hJ
  cases e2:dA S1 S.length with
  |none=>rw[e2] at m;exact m.elim
  |some Tg=>
   rw[e2] at m;cases Tg with
   |cons p q=>exact m.elim
   |nil=>
    cases e3:oj ps with
    |none=>rw[e3] at m;exact m.elim
    |some kvs=>
     rw[e3] at m;dsimp only at m;unfold Ha at m;split at m
     ·rename_i hz;obtain⟨ws,rfl,rp,Rl⟩:=rW e3 ra rb;obtain⟨w0,hv,Yl⟩:=Ih.Gu e2 Tf;have Th:w0=[]:=Yl;subst Th;obtain⟨rs,c,rk⟩:=qp (P:=X.prog) (w:=X.w) rel;obtain⟨z,hd,vs0,r0,dd⟩:=y3 I2.EW hv;cases r0;refine⟨rs,c,dd,fun h' Nx hs=>?_⟩;have Rw:(n3 [] ws).length<=sizeLine:=by
       have h1:=lC ws [];rw[List.length_nil] at h1;rw[sizeLine_eq];omega
      have he:∃q,h'.get? s.heap.objs.size=some q:=let ⟨q,_,_,hq,_⟩:=Nx;⟨q,hq⟩
      have x':Ext H2 J2 (upd H2 s.heap.objs.size (.dK (n3 [] ws))) J2:=Ext.write hv rfl;exact m _ _ ⟨.ref s.heap.objs.size,_,o7 I2 (by rw[hv];exact True.intro) hs he (wo Rw hd (rk.merge .nil) Nx),rfl,J2,x',Ih.write Tf ⟨_,bB,(rp.ext x').merge rfl⟩,.ob Tf⟩
     ·exact m.elim
end
end DL
namespace DL
open PySem PySem.Spec PyProof.Rows L2
theorem Ny{n:Nat}(h:n<=1000000):n<sizeLine:=Nat.lt_of_le_of_lt h (by rw[sizeLine_eq];decide)
section
variable{α β:Type}{S:List Cell}{r:tB}
@[simp] theorem av(m:M α)(k:α->M β):(m.bind k) S=match m S with
 |.ok a S'=>k a S'
 |.exc c S'=>.exc c S'
 |.bad=>.bad:=rfl
@[simp] theorem jB(a:α):(M.ret a) S=.ok a S:=rfl
@[simp] theorem ja(i:Nat):aa i r S=match r[i]? with
 |some (some d)=>.ok d S
 |_=>.bad:=rfl
@[simp] theorem uJ(d:D):dC d r S=.ok d S:=rfl
@[simp] theorem EC(g:D->D->M D)(fa fb:tB->M D):g_ g fa fb r=(fa r).bind fun x=>(fb r).bind fun y=>g x y:=rfl
@[simp] theorem EA(g:D->M D)(fa:tB->M D):P2 g fa r=(fa r).bind g:=rfl
@[simp] theorem DZ(g:List D->M D)(ft:tB->M (List D)):al g ft r=(ft r).bind g:=rfl
@[simp] theorem Eb:ai r=M.ret []:=rfl
@[simp] theorem DY(f:tB->M D)(g:tB->M (List D)):ac f g r=(f r).bind fun x=>(g r).bind fun xs=>M.ret (x :: xs):=rfl
@[simp] theorem D0(f:tB->M D):ao f r=(f r).bind O6:=rfl
@[simp] theorem DG(b:Bool):O6 (.bl b) S=.ok b S:=rfl
@[simp] theorem cO(f:tB->M D):bO f r=(f r).bind tu:=rfl
@[simp] theorem Dh(b:Bool):tu (.bl b) S=.ok b S:=rfl
@[simp] theorem cL(t u:tB->M Bool):de t u r=(t r).bind fun c=>if c=true then u r else M.ret false:=rfl
@[simp] theorem d4(t u:tB->M Bool):G7 t u r=(t r).bind fun c=>if c=true then M.ret true else u r:=rfl
@[simp] theorem cN(t:tB->M Bool):cV t r=(t r).bind fun c=>M.ret (!c):=rfl
@[simp] theorem gU(fa fb:tB->M D):jK fa fb r=(ao fa r).bind fun c=>if c=true then fb r else M.ret (.bl false):=rfl
@[simp] theorem Eo(fa fb:tB->M D):Ee fa fb r=(ao fa r).bind fun c=>if c=true then M.ret (.bl true) else fb r:=rfl
@[simp] theorem DX(fa:tB->M D):xb fa r=(ao fa r).bind fun c=>M.ret (.bl (!c)):=rfl
@[simp] theorem Dx(t:tB->M Bool)(fa fb:tB->M D):Qy t fa fb r=(t r).bind fun c=>if c=true then fa r else fb r:=rfl
@[simp] theorem z8(g g':D->D->M D)(fa fb fc:tB->M D):nO g g' fa fb fc r=(fa r).bind fun x=>(fb r).bind fun y=>((g x y).bind O6).bind fun k=>if k=true then (fc r).bind fun z=>g' y z else M.ret (.bl false):=rfl
@[simp] theorem Ec(ft:tB->M (List D)):cj ft r=(ft r).bind nr:=rfl
@[simp] theorem D7(ft:tB->M (List D)):bT ft r=(ft r).bind nZ:=rfl
@[simp] theorem kL(g:D->Option Int->Option Int->M D)(fe:tB->M D)(fl fh:tB->M (Option Int)):Hb g fe fl fh r=(fe r).bind fun x=>(fl r).bind fun l=>(fh r).bind fun h=>g x l h:=rfl
@[simp] theorem dE:bE r=M.ret none:=rfl
@[simp] theorem eC(f:tB->M D):bF f r=(f r).bind zI:=rfl
@[simp] theorem eT(i:Int):zI (.int i)=M.ret (some i):=rfl
@[simp] theorem EE(T:String)(f:tB->M D):Kf T f r=(f r).bind (MP T):=rfl
@[simp] theorem oq(f:tB->M D):Ip f r=(f r).bind lL:=rfl
@[simp] theorem Et:lx r=M.ret true:=rfl
@[simp] theorem Ew(C:Addr)(ns:List Str)(i:Nat)(fo:tB->M D):aB C ns i fo r=(fo r).bind fun x=>(ir C ns x).bind fun p=>BA p.2[i]?:=rfl
@[simp] theorem Ej(d:D):BA (some d) S=.ok d S:=rfl
@[simp] theorem D2(C:Addr)(ns:List Str)(F:List D->M D)(fo:tB->M D)(ft:tB->M (List D)):bh C ns F fo ft r=(fo r).bind fun x=>(ir C ns x).bind fun _=>(ft r).bind fun xs=>F (x :: xs):=rfl
@[simp] theorem ED(g:D->List D->M D)(fo:tB->M D)(ft:tB->M (List D)):Ij g fo ft r=(fo r).bind fun x=>(Be x).bind fun _=>(ft r).bind fun xs=>g x xs:=rfl
@[simp] theorem Eu(g:D->List D->M D)(fo:tB->M D)(ft:tB->M (List D)):yg g fo ft r=(fo r).bind fun x=>(A1 x).bind fun _=>(ft r).bind fun xs=>g x xs:=rfl
@[simp] theorem DW:kg r S=.ok (.ob S.length) (S++[.Gu []]):=rfl
@[simp] theorem EF(i:Nat)(d:D):gN i d r=some (r.set i (some d)):=rfl
theorem bZ{n:Nat}{xs:List D}(h:S[n]?=some (.lst xs)):cK S n=some xs:=by unfold cK;rw[h]
@[simp] theorem El{n:Nat}:Be (.ob n) S=match cK S n with
 |some _=>.ok () S
 |none=>.bad:=rfl
@[simp] theorem D9{n:Nat}:A1 (.ob n) S=match dA S n with
 |some _=>.ok () S
 |none=>.bad:=rfl
@[simp] theorem cf(i j:Int):bN (.int i) (.int j) S=.ok (.int (i+j)) S:=rfl
@[simp] theorem sj(i j:Int):rq (.int i) (.int j) S=.ok (.int (i-j)) S:=ci trivial
theorem hZ{i j:Int}(h:Mf i j):gX (.int i) (.int j) S=.ok (.int (i * j)) S:=ci h
@[simp] theorem D8(j:Int):gX (.int 2) (.int j) S=.ok (.int (2 * j)) S:=hZ (.inl ⟨by decide,by decide⟩)
theorem dc{i j:Int}(h:0<j):kj (.int i) (.int j) S=.ok (.int (i % j)) S:=ci h
theorem vE{i j:Int}(h:CT i j):zB (.int i) (.int j) S=.ok (.int (i / j)) S:=ci h
@[simp] theorem oN(i j:Int):G2 (.int i) (.int j) S=.ok (.bl (decide (i<j))) S:=rfl
@[simp] theorem xG(i j:Int):L6 (.int i) (.int j) S=.ok (.bl (decide (i<=j))) S:=rfl
@[simp] theorem BK(i j:Int):MR (.int i) (.int j) S=.ok (.bl (decide (j<i))) S:=rfl
@[simp] theorem wb(i j:Int):Ja (.int i) (.int j) S=.ok (.bl (decide (j<=i))) S:=rfl
@[simp] theorem iI(i j:Int):EX (.int i) (.int j) S=.ok (.bl (decide (i=j))) S:=Az S i j
@[simp] theorem iM(i j:Int):Hm (.int i) (.int j) S=.ok (.bl (!decide (i=j))) S:=BI S i j
@[simp] theorem BY(i j:Int):xL [.int i,.int j] S=.ok (.int (min i j)) S:=by
 show R.ok (D.int (if j<i then j else i)) S=_;congr 2;omega
@[simp] theorem Do(i j:Int):Cf [.int i,.int j] S=.ok (.int (max i j)) S:=by
 show R.ok (D.int (if j > i then j else i)) S=_;congr 2;omega
theorem aS{xs:List D}{i:Nat}{d:D}(h:xs[i]?=some d):v_ (.tup xs) (.int (i:Int)) S=.ok d S:=by
 simp only[v_,gw,tE h]
theorem iS{xs:List D}{n i:Nat}{d:D}(hn:S[n]?=some (.lst xs))(h:xs[i]?=some d):v_ (.ob n) (.int (i:Int)) S=.ok d S:=by
 simp only[v_,gw,bZ hn,tE h]
theorem gp{xs:List D}{n:Nat}(hn:S[n]?=some (.lst xs)):bq [.ob n] S=.ok (.int xs.length) S:=by
 simp only[bq,gw,bZ hn]
@[simp] theorem cq(xs:List D):bq [.tup xs] S=.ok (.int xs.length) S:=rfl
@[simp] theorem BT(xs:List D):gx [.tup xs] S=.ok (.tup xs) S:=rfl
theorem fC{xs:List D}{n:Nat}(hn:S[n]?=some (.lst xs)):gx [.ob n] S=.ok (.tup xs) S:=by
 simp only[gx,gw,bZ hn]
theorem uV{xs:List D}(h:xs.length<=1000000):nr xs S=.ok (.tup xs) S:=ci (Nat.le_of_lt (Ny h))
theorem vi{xs:List D}(h:xs.length<=1000000):nZ xs S=.ok (.ob S.length) (S++[.lst xs]):=ci (Nat.le_of_lt (Ny h))
theorem vg{xs:List D}{n:Nat}{d:D}(hn:S[n]?=some (.lst xs))(h:xs.length<1000000):j6 (.ob n) [d] S=.ok .EJ (S.set n (.lst (xs++[d]))):=by
 simp only[j6,bZ hn];exact ci (Ny (by omega))
theorem BZ{xs ys:List D}{n:Nat}(hn:S[n]?=some (.lst xs))(h:xs.length+ys.length<=1000000):qL (.ob n) [.tup ys] S=.ok .EJ (S.set n (.lst (xs++ys))):=by
 simp only[qL,bZ hn];exact ci (Nat.le_of_lt (Ny h))
@[simp] theorem DT:bC r S=some (.nx r,S):=rfl
@[simp] theorem tM(m:M α)(k:α->List Cell->Lp):cu m r k S=match m S with
 |.ok a S'=>k a S'
 |.exc c S'=>some (.xc c r,S')
 |.bad=>none:=rfl
@[simp] theorem qh(t u:E4):aI t u r S=match t r S with
 |some (.nx r',S')=>u r' S'
 |o=>o:=rfl
@[simp] theorem D5(f:tB->M D):bK f r=cu (f r) r fun d S=>some (.rt d,S):=rfl
@[simp] theorem DU(f:tB->M D):bz f r=cu (f r) r fun _ S=>some (.nx r,S):=rfl
@[simp] theorem EB(c:tB->M Bool)(t u:E4):FF c t u r=cu (c r) r fun b S=>if b=true then t r S else u r S:=rfl
@[simp] theorem Ex(f:tB->M D)(g:Kp):cn f g r=cu (f r) r fun d S=>match g d r with
 |some r'=>some (.nx r',S)
 |none=>none:=rfl
@[simp] theorem Ep(C:Addr)(ns:List Str)(i:Nat)(fo fe:tB->M D):jV C ns i fo fe r=cu (fe r) r fun d=>cu (fo r) r fun x S1=>match ir C ns x S1 with
 |.ok p S2=>some (.nx r,S2.set p.1 (.ins C ns (p.2.set i d)))
 |_=>none:=rfl
@[simp] theorem DV(C:Addr)(ns:List Str)(f:Str)(fo fe:tB->M D):cI C ns f fo fe r=cu (fe r) r fun d=>cu (fo r) r fun x S1=>match ir C ns x S1 with
 |.ok p S2=>some (.nx r,S2.set p.1 (.ins C (ns++[f]) (p.2++[d])))
 |_=>none:=rfl
@[simp] theorem Es(g:D->D->D->List Cell->Option (List Cell))(fo fi fe:tB->M D):vN g fo fi fe r=cu (fe r) r fun d=>cu (fo r) r fun x=>cu (fi r) r fun y S=>match g x y d S with
 |some S'=>some (.nx r,S')
 |none=>none:=rfl
@[simp] theorem Dj(S0:List Cell)(d:D):fin S0 (some (.rt d,S))=.ok d S:=rfl
@[simp] theorem Dz(S0:List Cell):fin S0 (some (.nx r,S))=.ok .EJ S:=rfl
@[simp] theorem DC(S0:List Cell)(c:Addr):fin S0 (some (.xc c r,S))=.exc c S:=rfl
theorem li{S0 G:List Cell}{d:D}(h:Gp S0.length d):cG S0 (some (.rt d,S0++G))=.ok d S0:=if_pos ⟨⟨G,rfl⟩,h⟩
theorem br{S0:List Cell}{d:D}(h:Gp S0.length d):cG S0 (some (.rt d,S0))=.ok d S0:=if_pos ⟨⟨[],by simp⟩,h⟩
end
def Fr(fp:List Nat)(S S':List Cell):Prop:=S.length<=S'.length/\∀i,i<S.length->i∉fp->S'[i]?=S[i]?
theorem Fr.refl(fp:List Nat)(S:List Cell):Fr fp S S:=⟨Nat.le_refl _,fun _ _ _=>rfl⟩
theorem Fr.trans{fp fq:List Nat}{S S1 S2:List Cell}(a:Fr fp S S1)(b:Fr fq S1 S2)(h:∀i∈fq,i<S.length->i∈fp):Fr fp S S2:=
 ⟨Nat.le_trans a.1 b.1,fun i hi hn=>(b.2 i (Nat.lt_of_lt_of_le hi a.1) fun hq=>hn (h i hq hi)).trans (a.2 i hi hn)⟩
theorem Fr.tr{fp:List Nat}{S S1 S2:List Cell}(a:Fr fp S S1)(b:Fr fp S1 S2):Fr fp S S2:=a.trans b fun _ h _=>h
theorem Fr.set{fp:List Nat}{S:List Cell}{n:Nat}{c:Cell}(h:n∈fp):Fr fp S (S.set n c):=
 ⟨by rw[List.length_set];exact Nat.le_refl _,fun i _ hn=>List.getElem?_set_ne fun e:n=i=>hn (e ▸ h)⟩
theorem Fr.push{fp:List Nat}{S:List Cell}{c:List Cell}:Fr fp S (S++c):=
 ⟨by rw[List.length_append];omega,fun i hi _=>List.getElem?_append_left hi⟩
theorem Fr.get{fp:List Nat}{S S':List Cell}{i:Nat}{c:Cell}(a:Fr fp S S')(h:S[i]?=some c)(hn:i∉fp):S'[i]?=some c:=
 (a.2 i (List.getElem?_eq_some_iff.mp h).1 hn).trans h
theorem Fr.mono{fp fq:List Nat}{S S':List Cell}(a:Fr fp S S')(h:∀i∈fp,i<S.length->i∈fq):Fr fq S S':=⟨a.1,fun i hi hn=>a.2 i hi fun z=>hn (h i z hi)⟩
theorem bj{S:List Cell}{i:Nat}{c:Cell}(h:S[i]?=some c):i<S.length:=(List.getElem?_eq_some_iff.mp h).1
theorem dz{S:List Cell}{i:Nat}{c d:Cell}(h:S[i]?=some c):(S.set i d)[i]?=some d:=by
 rw[List.getElem?_set];simp[bj h]
theorem cC{S:List Cell}{i j:Nat}{c d:Cell}(h:S[j]?=some c)(hn:i≠j):(S.set i d)[j]?=some c:=by rw[List.getElem?_set_ne hn];exact h
theorem aC{S G:List Cell}{j:Nat}{c:Cell}(h:S[j]?=some c):(S++G)[j]?=some c:=by rw[List.getElem?_append_left (bj h)];exact h
theorem bR{S:List Cell}{c:Cell}:(S++[c])[S.length]?=some c:=by simp
section
variable{S S1 S2:List Cell}{r r1:tB}{d x y:D}{n:Nat}{C:Addr}{ns:List Str}{ds:List D}
theorem aw{t u:E4}(h:t r S=some (.nx r1,S1)):aI t u r S=u r1 S1:=by rw[qh,h]
theorem cZ{t u:E4}(h:t r S=some (.rt d,S1)):aI t u r S=some (.rt d,S1):=by rw[qh,h]
theorem bw{fe:tB->M D}{i:Nat}(h:fe r S=.ok d S1):cn fe (gN i) r S=some (.nx (r.set i (some d)),S1):=by simp[h]
theorem aZ{fe:tB->M D}(h:fe r S=.ok d S1):bz fe r S=some (.nx r,S1):=by simp[h]
theorem aR{fe:tB->M D}(h:fe r S=.ok d S1):bK fe r S=some (.rt d,S1):=by simp[h]
theorem BU{c:tB->M Bool}{t u:E4}{b:Bool}(h:c r S=.ok b S1):FF c t u r S=if b=true then t r S1 else u r S1:=by simp[h]
theorem aT{c:tB->M Bool}{t u:E4}(h:c r S=.ok true S1):FF c t u r S=t r S1:=by rw[BU h,if_pos rfl]
theorem ay{c:tB->M Bool}{t u:E4}(h:c r S=.ok false S1):FF c t u r S=u r S1:=by rw[BU h,if_neg (by decide)]
theorem Cr{i:Nat}{fo fe:tB->M D}(h1:fe r S=.ok d S1)(h2:fo r S1=.ok (.ob n) S2)(h3:S2[n]?=some (.ins C ns ds)):jV C ns i fo fe r S=some (.nx r,S2.set n (.ins C ns (ds.set i d))):=by
 simp[h1,h2,lb h3]
theorem j4{f:Str}{fo fe:tB->M D}(h1:fe r S=.ok d S1)(h2:fo r S1=.ok (.ob n) S2)(h3:S2[n]?=some (.ins C ns ds)):cI C ns f fo fe r S=some (.nx r,S2.set n (.ins C (ns++[f]) (ds++[d]))):=by
 simp[h1,h2,lb h3]
theorem wQ{i:Nat}{fo fe:tB->M D}{a b:Int}{OJ:List D}{S3:List Cell}(h2:fo r S=.ok (.ob n) S1)(h3:S1[n]?=some (.ins C ns ds))(h4:ds[i]?=some (.int a))(h1:fe r S1=.ok (.int b) S3)(h5:S3[n]?=some (.ins C ns OJ)) :
  ou C ns i fo fe r S=some (.nx r,S3.set n (.ins C ns (OJ.set i (.int (a+b))))):=by
 unfold ou;simp[h2,lb h3,h4,h1,lb h5]
theorem tL{g:D->D->D->List Cell->Option (List Cell)}{fo fi fe:tB->M D}{S3 S4:List Cell}(h1:fe r S=.ok d S1)(h2:fo r S1=.ok x S2)(h3:fi r S2=.ok y S3)(h4:g x y d S3=some S4):vN g fo fi fe r S=some (.nx r,S4):=by
 simp[h1,h2,h3,h4]
theorem bU{i:Nat}{fo:tB->M D}(h:fo r S=.ok (.ob n) S1)(h3:S1[n]?=some (.ins C ns ds))(hd:ds[i]?=some d):aB C ns i fo r S=.ok d S1:=by
 simp[h,lb h3,hd]
theorem ba{F:List D->M D}{fo:tB->M D}{ft:tB->M (List D)}{xs:List D}{a:R D}(h:fo r S=.ok (.ob n) S1)(h3:S1[n]?=some (.ins C ns ds))(h4:ft r S1=.ok xs S2)(h5:F (.ob n :: xs) S2=a):bh C ns F fo ft r S=a:=by
 simp[h,lb h3,h4,h5]
theorem ax{F:List D->M D}{ft:tB->M (List D)}{xs:List D}{a:R D}(h4:ft r S=.ok xs S1)(h5:F xs S1=a):al F ft r S=a:=by simp[h4,h5]
theorem au{g:D->D->M D}{fa fb:tB->M D}{a:R D}(h1:fa r S=.ok x S1)(h2:fb r S1=.ok y S2)(h3:g x y S2=a):g_ g fa fb r S=a:=by simp[h1,h2,h3]
theorem ag{f:tB->M D}{g:tB->M (List D)}{xs:List D}(h1:f r S=.ok x S1)(h2:g r S1=.ok xs S2):ac f g r S=.ok (x :: xs) S2:=by simp[h1,h2]
theorem aj:ai r S=.ok [] S:=rfl
theorem az{f:tB->M D}{b:Bool}(h:f r S=.ok (.bl b) S1):ao f r S=.ok b S1:=by simp[h]
theorem lE{g:D->List D->M D}{fo:tB->M D}{ft:tB->M (List D)}{xs ys:List D}{a:R D}(h:fo r S=.ok (.ob n) S1)(h3:S1[n]?=some (.lst ys))(h4:ft r S1=.ok xs S2)(h5:g (.ob n) xs S2=a):Ij g fo ft r S=a:=by
 simp[h,bZ h3,h4,h5]
theorem B4{g:D->List D->M D}{fo:tB->M D}{ft:tB->M (List D)}{xs:List D}{kvs:List (Key×D)}{a:R D}(h:fo r S=.ok (.ob n) S1)(h3:S1[n]?=some (.Gu kvs))(h4:ft r S1=.ok xs S2)(h5:g (.ob n) xs S2=a):yg g fo ft r S=a:=by
 simp[h,fu h3,h4,h5]
theorem bM{ft:tB->M (List D)}{xs:List D}(h:ft r S=.ok xs S1)(hl:xs.length<=1000000):cj ft r S=.ok (.tup xs) S1:=by simp[h,uV hl]
theorem bY{ft:tB->M (List D)}{xs:List D}(h:ft r S=.ok xs S1)(hl:xs.length<=1000000):bT ft r S=.ok (.ob S1.length) (S1++[.lst xs]):=by simp[h,vi hl]
theorem bg{a b:Str}{c:Bool}(h1:(PyData.str a).canLay0=true:=by decide +kernel)(h2:(PyData.str b).canLay0=true:=by decide +kernel)(h3:decide (a=b)=c:=by decide +kernel):EX (.str a) (.str b) S=.ok (.bl c) S:=by
 subst h3;have h:(PyData.str a).eqv (.str b)=decide (a=b):=by
  by_cases e:a=b
  ·subst e;simp[PyData.eqv]
  ·simp[PyData.eqv,e]
 simp only[EX,pD,h1,h2,if_true,h]
theorem zq{a b:Str}{c:Bool}(h1:(PyData.str a).canLay0=true:=by decide +kernel)(h2:(PyData.str b).canLay0=true:=by decide +kernel)(h3:(!decide (a=b))=c:=by decide +kernel):Hm (.str a) (.str b) S=.ok (.bl c) S:=by
 subst h3;have h:(PyData.str a).eqv (.str b)=decide (a=b):=by
  by_cases e:a=b
  ·subst e;simp[PyData.eqv]
  ·simp[PyData.eqv,e]
 simp only[Hm,pD,h1,h2,if_true,h]
end
end DL
namespace DL
open PySem PySem.Spec PyProof.Rows L2
section
variable{S S1 S2:List Cell}{r r1:tB}{d x y:D}{n i:Nat}{C:Addr}{ns:List Str}{ds OJ:List D}{fo fe:tB->M D}
theorem aP{S:List Cell}{i:Nat}{c:Cell}(h:i=S.length):(S++[c])[i]?=some c:=by subst h;exact bR
structure Ch(n:Nat)(c:Cell)(S S':List Cell):Prop where
 at_:S'[n]?=some c
 fr:Fr [n] S S'
 len:S'.length=S.length
theorem Ch.old{m:Nat}{c c':Cell}(h:Ch n c S S1)(hm:S[m]?=some c')(hn:n≠m):S1[m]?=some c':=h.fr.get hm (by simpa using Ne.symm hn)
theorem Ch.set{c c':Cell}(h:S[n]?=some c'):Ch n c S (S.set n c):=⟨dz h,Fr.set (by simp),by simp⟩
theorem gE(h1:fe r S=.ok d S1)(h2:fo r S1=.ok (.ob n) S1)(h3:S1[n]?=some (.ins C ns ds))(h4:ds.set i d=OJ):∃S2,jV C ns i fo fe r S=some (.nx r,S2)/\Ch n (.ins C ns OJ) S1 S2:=by
 subst h4;exact⟨_,Cr h1 h2 h3,Ch.set h3⟩
theorem wP{a b:Int}(h2:fo r S=.ok (.ob n) S)(h3:S[n]?=some (.ins C ns ds))(h5:ds[i]?=some (.int a))(h1:fe r S=.ok (.int b) S)(h4:ds.set i (.int (a+b))=OJ):∃S2,ou C ns i fo fe r S=some (.nx r,S2)/\Ch n (.ins C ns OJ) S S2:=by
 subst h4;exact⟨_,wQ h2 h3 h5 h1 h3,Ch.set h3⟩
theorem tP{xs:List D}{ft:tB->M (List D)}(h1:fo r S=.ok (.ob n) S)(h2:S[n]?=some (.lst xs))(h3:ft r S=.ok [d] S)(hz:xs.length<1000000):∃S2,Ij j6 fo ft r S=.ok .EJ S2/\Ch n (.lst (xs++[d])) S S2:=
 ⟨_,lE h1 h2 h3 (vg h2 hz),Ch.set h2⟩
theorem yS{xs ys:List D}{ft:tB->M (List D)}(h1:fo r S=.ok (.ob n) S)(h2:S[n]?=some (.lst xs))(h3:ft r S=.ok [.tup ys] S)(hz:xs.length+ys.length<=1000000):∃S2,Ij qL fo ft r S=.ok .EJ S2/\Ch n (.lst (xs++ys)) S S2:=
 ⟨_,lE h1 h2 h3 (BZ h2 hz),Ch.set h2⟩
theorem Ch.fp{fp:List Nat}{c:Cell}(h:Ch n c S S1)(hn:n∈fp):Fr fp S S1:=h.fr.mono fun i hi _=>by
 have:i=n:=by simpa using hi
 rw[this];exact hn
end
theorem lJ{tg:Kp}{ti:tB->M Bool}{fe:tB->M D}{r0:tB}(kp:D->Bool)(h:D->D)(g:Option (Nat×List D))(S:List Cell)(hg:IH g S):∀(items ys:List D),
  (∀x,x∈items->∃r1,tg x r0=some r1/\(∀zs,ti r1 (S++[.lst zs])=.ok (kp x) (S++[.lst zs]))/\(kp x=true->∀zs,fe r1 (S++[.lst zs])=.ok (h x) (S++[.lst zs])))->ys.length+items.length<=1000000->
  fF tg ti fe S.length g r0 items (S++[.lst ys])=.ok () (S++[.lst (ys++(items.filter kp).map h)])
 |[],ys,_,_=>by simp[fF]
 |x :: xs,ys,hx,hl=>by
  obtain⟨r1,h1,h2,h3⟩:=hx x (by simp);have Wa:∀zs,IH g (S++[Cell.lst zs]):=fun zs=>by
   cases g with
   |none=>trivial
   |some p=>exact aC hg
  unfold fF;rw[h1];dsimp only;rw[h2];cases hk:kp x with
  |false=>
   dsimp only;rw[if_pos (Wa _),lJ kp h g S hg xs ys (fun y hy=>hx y (List.mem_cons_of_mem _ hy)) (by simp at hl;omega)];rw[List.filter_cons_of_neg (by simp[hk])]
  |true=>
   have Jc:(S++[Cell.lst ys]).set S.length (.lst (ys++[h x]))=S++[.lst (ys++[h x])]:=by
    rw[List.set_append_right _ _ (Nat.le_refl _)];simp
   dsimp only;rw[h3 hk];dsimp only;rw[List.getElem?_append_right (Nat.le_refl _)];simp only[Nat.sub_self,List.getElem?_cons_zero];rw[Jc,ci ⟨Ny (by simp at hl;omega),Wa _⟩,lJ kp h g S hg xs (ys++[h x]) (fun y hy=>hx y (List.mem_cons_of_mem _ hy)) (by simp at hl ⊢;omega)];rw[List.filter_cons_of_pos hk,List.map_cons,List.append_assoc];rfl
theorem iR{f:tB->M Wk}{tg:Kp}{ti:tB->M Bool}{fe:tB->M D}{own:Nat}{caps:List Nat}{r:tB}{S S1:List Cell}{w:Wk}(kp:D->Bool)(h:D->D)(h1:f r S=.ok w S1)(hg:IH w.guard S1)(hz:w.items.length<=1000000)
  (hx:∀x,x∈w.items->∃r1,tg x (iE own caps r)=some r1/\(∀zs,ti r1 (S1++[.lst zs])=.ok (kp x) (S1++[.lst zs]))/\(kp x=true->∀zs,fe r1 (S1++[.lst zs])=.ok (h x) (S1++[.lst zs]))) :
  ii f tg ti fe own caps r S=.ok (.ob S1.length) (S1++[.lst ((w.items.filter kp).map h)]):=by
 unfold ii;rw[av,h1];dsimp only;rw[lJ kp h w.guard S1 hg w.items [] hx (by simpa using hz)];rfl
theorem Ci{c:tB->M Bool}{b:E4}{k:Nat}{r:tB}{S S1:List Cell}(h:c r S=.ok false S1):fO c b (k+1) r S=some (.nx r,S1):=by
 unfold fO;rw[h]
theorem DS{c:tB->M Bool}{b:E4}{k:Nat}{r r2:tB}{S S1 S2:List Cell}(h:c r S=.ok true S1)(hb:b r S1=some (.nx r2,S2)):fO c b (k+1) r S=fO c b k r2 S2:=by
 rw[fO];dsimp only;rw[h];dsimp only;rw[hb]
theorem mh{f:tB->M Wk}{tg:Kp}{b:E4}{r:tB}{S S1:List Cell}{w:Wk}(h:f r S=.ok w S1):pU f tg b r S=ig w.guard tg b w.items r S1:=by
 unfold pU;rw[tM,h]
theorem xi{S:List Cell}{n:Nat}(h:n<=1000000):wW (.int (n:Int)) S=.ok ⟨gP 0 1 n,none⟩ S:=vL h
end DL
namespace DL
open PySem PySem.Spec PyProof.Rows L2
mutual
theorem z7{S:List Cell}:∀{n:Nat}{d:D}{p:PyData},pD S n d=some p->p.canLay0=true
 |0,d,p,h=>by unfold pD at h;cases h
 |n+1,.EJ,p,h=>by simp only[pD] at h;cases h;rfl
 |n+1,.bl b,p,h=>by simp only[pD] at h;cases h;rfl
 |n+1,.int i,p,h=>by simp only[pD] at h;cases h;rfl
 |n+1,.str x,p,h=>by
  simp only[pD] at h;split at h
  ·rename_i q;cases h;exact q
  ·cases h
 |n+1,.tup xs,p,h=>by
  simp only[pD] at h;cases e:JA S n xs with
  |none=>rw[e] at h;cases h
  |some ps=>rw[e] at h;cases h;exact o4 e
 |n+1,.FP xs,p,h=>by
  simp only[pD] at h;cases e:JA S n xs with
  |none=>rw[e] at h;cases h
  |some ps=>rw[e] at h;cases h;exact o4 e
 |n+1,.ob k,p,h=>by
  simp only[pD] at h;split at h
  ·rename_i xs _;cases e:JA S n xs with
   |none=>rw[e] at h;cases h
   |some ps=>rw[e] at h;cases h;exact o4 e
  ·cases h
 |n+1,.xn c,p,h=>by simp only[pD] at h;cases h
theorem o4{S:List Cell}:∀{n:Nat}{xs:List D}{ps:List PyData},JA S n xs=some ps->PyData.canLayAll0 ps=true
 |n,[],ps,h=>by simp only[JA] at h;cases h;rfl
 |n,x :: xs,ps,h=>by
  simp only[JA] at h;cases e1:pD S n x with
  |none=>rw[e1] at h;cases h
  |some p=>
   rw[e1] at h;cases e2:JA S n xs with
   |none=>rw[e2] at h;cases h
   |some qs=>
    rw[e2] at h;cases h;show(PyData.canLay0 p && PyData.canLayAll0 qs)=true;rw[z7 e1,o4 e2];rfl
end
section
variable{S:List Cell}{x y:D}{p:PyData}
theorem AD(h1:pD S 30 x=some p)(h2:pD S 30 y=some p):Hm x y S=.ok (.bl false) S:=by
 simp only[Hm,h1,h2,PySem.SeqAt.eqv_refl p (z7 h1)];rfl
end
end DL
namespace DL
open PySem PySem.Spec PyProof.Rows L2
section
variable{X:Cx}
end
end DL
namespace DL
open PySem PySem.Spec PyProof.Rows L2
theorem pd(a b:Value):checkTypeCall "enumerate" ⟨[a],[("start",b)]⟩=pure ():=by kernel_rfl
theorem q8(a b:Value):checkBuiltinCall "enumerate.__new__" ⟨[.type "enumerate",a],[("start",b)]⟩=pure ():=by kernel_rfl
section
variable{prog:Program}{w:World}{A:Around}{E:Value->Shared->Prop}{s:Shared}
theorem oI(l:Addr)(items:Array Value)(n:Nat)(Ph:Option Addr)(sl:Array (Option Value))(i:Int)(t:Tok)(hi:Builtin.SmallTypes.fitsIndex i=true) :
  Meets (Builtin.«enumerate.__new__» ⟨[.type "enumerate",.ref l],[("start",.int i t)]⟩) (fun _ R s=>s.heap.get? l=some { cls:=.type "tuple",dict:=Ph,data:=.seq items n,slots:=sl }/\
   R (.ok (.ret (.ref (s.heap.push { cls:=.type "tuple_iterator",data:=.fields #[.ref l,.int 0 0] }).objs.size)))
    { s with heap:=(s.heap.push { cls:=.type "tuple_iterator",data:=.fields #[.ref l,.int 0 0] }).push { cls:=.type "enumerate",data:=.fields #[.none,.bool false,.ref s.heap.objs.size,rawInt i,.none,.none] } }):=
 .of_wp fun prog w A R s h=>by
  obtain⟨hp,g,d,tk,os⟩:=s;obtain⟨hl,h⟩:=h;have QH:=sub_enumerate;have f1:=AutoSeq1.idx_int;have hT:Heap.IsTuple (Shared.heap ⟨hp,g,d,tk,os⟩) l items:=⟨_,hl,rfl,n,rfl⟩
  wp_walk using wpAny_loadPart' hl
  refine wpAny_stack_any fun st=>wpAny_pure ?_
  split
  ·rename_i c _ _ _ _ _;cases(c == Value.type "enumerate")
   ·wp_walk using wpAny_loadPart' hl,wpAny_pyIter_tuple hT
    exact⟨_,rfl,h⟩
   ·wp_walk using wpAny_loadPart' hl,wpAny_pyIter_tuple hT
    exact⟨_,rfl,h⟩
  ·wp_walk using wpAny_loadPart' hl,wpAny_pyIter_tuple hT
   exact⟨_,rfl,h⟩
theorem lz(a b c:Value):argsOk "object.__init__" ⟨[a,b],[("start",c)]⟩:=by
 unfold argsOk;rw[signature?_of (id:="object.__init__") (n:=['_','_','t','i','n','i','_','_']) (o:=['t','c','e','j','b','o']) (by kernel_rfl) PySem.F.owner_object];kernel_rfl
theorem pr{self a c:Value} :
  Meets (Builtin.«object.__init__» ⟨[self,a],[("start",c)]⟩) (fun _ R s=>s.TypeIs self "enumerate"/\R (.ok (.ret .none)) s):=by
 refine Meets.of_wp fun prog w A R s hs=>?_
 obtain⟨hT,hq⟩:=hs;have hl:=PySem.F.called_enumerate.init.lookup;have hm:=PySem.F.called_enumerate.made;have Nv:(some "enumerate.__new__" != some "object.__new__")=true:=by decide
 repeat (any_goals (first|assumption|wp_step))
 exact⟨_,rfl,hq⟩
theorem qg{l:Addr}{items:Array Value}{i:Int}{t:Tok}{Q:Value->Shared->Prop}(hL:s.heap.IsTuple l items)(hi:Builtin.SmallTypes.fitsIndex i=true)
  (h:∀h',IsEnum h' (s.heap.objs.size+1) s.heap.objs.size i .none->h'.IsTupleIter s.heap.objs.size l 0->(∀b o,s.heap.get? b=some o->h'.get? b=some o)->Q (.ref (s.heap.objs.size+1)) { s with heap:=h' }) :
  wpAny (model prog w) A (call (.type "enumerate") [.ref l] [("start",.int i t)]) Q E s:=by
 obtain⟨⟨c,Ph,dt,sl⟩,hl,hc,n,hd⟩:=hL;simp only at hc hd;subst hc hd;have ft:=PySem.F.called_enumerate;obtain⟨c0,tl,Ym⟩:=ft.mro;have Wb:=ft.made;have QH:=ft.sub;have Wc:=pd (.ref l) (.int i t);refine wpAny_call (codeAny_of_tree ?_);show wpAny _ _ (callAny (.type "enumerate") _) _ _ _;refine wpAny_pure ⟨Code.quiet_builtin _ (by decide +kernel),codeAny_builtin PySem.F.entry_type_call ?_⟩;rw[Around.under_plain (weight_type_call_type "enumerate" [.ref l] [("start",.int i t)]) (units_type_call_type "enumerate" [.ref l] [("start",.int i t)])];have h1:=ft.notType;have h2:=ft.canCreate
 repeat (any_goals (first|assumption|wp_step))
 have hz:(s.heap.push { cls:=.type "tuple_iterator",data:=.fields #[.ref l,.int 0 0] }).objs.size=s.heap.objs.size+1:=Heap.size_push ..;have he:IsEnum ((s.heap.push { cls:=.type "tuple_iterator",data:=.fields #[.ref l,.int 0 0] }).push { cls:=.type "enumerate",data:=.fields #[.none,.bool false,.ref s.heap.objs.size,rawInt i,.none,.none] }) (s.heap.objs.size+1) s.heap.objs.size i .none:=by
  have q:=Heap.get?_push_size (s.heap.push { cls:=.type "tuple_iterator",data:=.fields #[.ref l,.int 0 0] }) (o:={ cls:=.type "enumerate",data:=.fields #[.none,.bool false,.ref s.heap.objs.size,rawInt i,.none,.none] }) rfl;rw[hz] at q;exact q
 have fin:=h _ he ⟨_,Heap.get?_push_of_some _ (Heap.get?_push_size _ rfl),rfl,rfl⟩ fun b o x=>Heap.get?_push_of_some _ (Heap.get?_push_of_some _ x)
 refine codeAny_mono (codeAny_call_builtin ft.plain PySem.F.entry_enumerate_new (wpAny_of_eq (q8 (.ref l) (.int i t)) (oI l items n Ph sl i t hi prog w A.in1 (wants (fun obj E9=>E9.TypeIs obj "enumerate"/\Q obj E9) E) s ⟨hl,?_⟩))) fun r E9 hr=>?_
 ·show _/\_;rw[hz];exact⟨⟨_,he,rfl⟩,fin⟩
 ·cases r with
  |error e=>exact hr
  |ok fl=>
   cases fl with
   |ret obj=>
    obtain⟨hT,Mi⟩:=hr;have hli:=ft.init.lookup;have hbi:=ft.init.bind obj
    repeat (any_goals (first|assumption|wp_step))
    refine codeAny_mono (codeAny_call_builtin ft.init.plain PySem.F.entry_object_init (ft.init.check _ _ _ _ _ _ _ _ hT (lz _ _ _) (pr prog w A.in1 (wants (fun r MJ=>r=.none/\Q obj MJ) E) E9 ⟨hT,rfl,Mi⟩))) fun Ti MJ MT=>?_
    cases Ti with
    |error e=>exact MT
    |ok QL=>
     cases QL with
     |ret r=>
      obtain⟨rfl,hq⟩:=MT
      repeat (any_goals (first|assumption|wp_step))
     |_=>exact MT.elim
   |_=>exact hr.elim
end
section
variable{M:Model}{A:Around}{E:Value->Shared->Prop}{s:Shared}{env:Env}
theorem mt{pos:Pos}{T:String}{first:List Value}{args:List (Bool×Sem Value)}{keywords:List (Option Str×Sem Value)}{Q:Value->Shared->Prop}
  (I_:args.any (·.1)=false) (Yn:keywords.any (·.1.isNone)=false)
  (h:wpAny M A (evalArgs (.type T) true args keywords) (fun a E9=>wpAny M A (call (.type T) (first++a.pos) a.kw) Q E E9) E s) :
  wpAny M A (callWith pos (.type T) first args keywords) Q E s:=by
 unfold callWith;refine wpAny_bind (wpAny_holding (wpAny_mono h (fun a E9 Mj=>wpAny_bind (wpAny_standAt ?_)) fun _ _ x=>x));simp only[I_,Yn,Bool.or_false];refine wpAny_bind (wpAny_pure ?_);exact wpAny_bind (wpAny_mono Mj (fun r MJ hr=>wpAny_bind (wpAny_holding (wpAny_point (wpAny_pure hr)))) fun _ _ x=>x)
end
section
variable{X:Cx}{e:Expr}{fe:tB->M D}{pos:Pos}{elts:List Expr}{k1:Nat}{IW:Pos}
def wa(c:Nat):D->M Wk
 |.tup xs=>M.ret ⟨iU c xs,none⟩
 |_=>M.bad
def sV(c:Nat)(fe:tB->M D):tB->M Wk:=fun r=>(fe r).bind (wa c)
theorem xJ{p kp cp:Pos}{i:Int}{c j:Nat}(hg:Gl X "enumerate")(hm:X.mg "enumerate"=none)(he:Fn X e fe)(Yo:i=(c:Int):=by decide)(hc:c<=1000:=by decide)(hs:starEach [e] X.env=[(false,eval e X.env)]:=by rfl) :
  PId X (.Tuple elts k1 IW) (.Call (.Name "enumerate" p) [e] [⟨some "start",.Constant (.int i) j cp,kp⟩] pos) (sV c fe):=by
 intro pins s σ H J r S Q E I m;subst Yo;have m':L3 X pins σ H J (.Tuple elts k1 IW) ((ac fe ai r).bind (sN (wa c)) S) Q E:=by
  unfold sV M.bind at m;unfold ac ai M.bind M.ret;cases e1:fe r S<;>(rw[e1] at m;exact m)
 refine wpAny_Call_Name_kw (kK I.inv hg hm boot_enumerate (mt (by rw[hs];rfl) rfl ?_));have hb:backTo pos (starEach [e] X.env)=(false,eval e X.env) :: []:=by rw[hs];rfl
 rw[hb];refine evalArgs_kwB rfl ?_;rw[<-hb];refine Rt (af he ah (by rw[hs];rfl)) I m' (fun xs S1 s1 H1 J1 vs us I1 rv r1 m1=>?_) pos;refine kws_cons (wpAny_Constant_int (kws_nil ?_));have MH:Builtin.SmallTypes.fitsIndex (c:Int)=true:=by
  unfold Builtin.SmallTypes.fitsIndex;simp only[Bool.and_eq_true,decide_eq_true_eq];omega
 match xs,m1,rv with
 |[],m1,rv=>exact m1.elim
 |_ :: _ :: _,m1,rv=>exact m1.elim
 |[x],m1,rv=>
  obtain⟨v,rfl,h1⟩:=rv.Ii;obtain⟨u,rfl,ru⟩:=Vals.one r1
  change L3 X pins σ H1 J1 (.Tuple elts k1 IW) (wa c x S1) Q E at m1
  cases x with
  |tup ys=>
   obtain⟨a,ws,rfl,hq,Fg⟩:=h1.HP;cases ru;obtain⟨u_,rl,pl,hz⟩:=I1.inv.tuple hq;refine qg (s:={ s1 with toks:=s1.toks+1 }) pl MH fun h' L5 K9 hk'=>wpAny_pyIter_enum L5 ?_
   refine m1 _ _ ⟨s1.heap.objs.size+1,[s1.heap.objs.size+1,s1.heap.objs.size],_,_,H1,rfl,I1.inv.kept (t':=s1.toks+1) hk',qu a s1.heap.objs.size (s1.heap.objs.size+1) c (Nat.succ_ne_self _),⟨⟨_,L5⟩,K9⟩,sJ I1.inv,J1,Ext.refl _ _,I1.st,trivial,?_⟩;exact GQ.OI fun H2 J2 S2 x2 Ih _=>⟨ws,Hi.ext x2 hq,Fg.ext x2⟩
  |_=>exact m1.elim
theorem cW{x:Str}{d:D}{pos:Pos}(hg:Gl X x)(h:∃u,X.mg x=some u/\IG X.K d u)(hd:(x == ("__debug__":Str))=false:=by decide):Fn X (.Name x pos) (dC d):=by
 obtain⟨u,h1,h2⟩:=h;exact AY hg h1 h2 hd
def Kg(K:PySem.W.Frag)(mg:Str->Option Value)(x:Str)(ss:List Str):Prop:=∃u,mg x=some u/\NU K u (ss.map V.str)
theorem qj{K:PySem.W.Frag}(ss:List Str)(H:Hp)(J:List Addr):k_ K H J (ss.map D.str) (ss.map V.str):=by
 induction ss with
 |nil=>exact .nil
 |cons a r ih=>exact .cons (by unfold r_;rfl) ih
theorem Kg.glob{K:PySem.W.Frag}{mg:Str->Option Value}{x:Str}{ss:List Str}(h:Kg K mg x ss):∃u,mg x=some u/\IG K (.tup (ss.map D.str)) u:=by
 obtain⟨u,h1,h2⟩:=h;exact⟨u,h1,h2.rep (qj ss)⟩
theorem wq{x:Str}{e:Expr}{np apos Fy:Pos}{ss:List Str}{ft:tB->M (List D)}(hg:Gl X x)(h:Kg X.K X.mg x ss)(ha:KU X [e] ft)(hd:(x == ("__debug__":Str))=false:=by decide)
  (IZ:attributeBase (.Name x np) "index" X.env (eval (.Name x np) X.env)=eval (.Name x np) X.env:=by rfl)
  (LD:((backTo Fy (starEach [e] X.env)).all (fun x=>!x.1) && (backToKw Fy (keywordEach [] X.env)).all (fun x=>x.1.isSome)
   && decide ([e].length+([]:List Keyword).length+(if ([]:List Keyword).isEmpty then 0 else 1)<30))=true:=by rfl)
  (I0:(apos.endLine == Fy.line)=true:=by rfl) (hs:starEach [e] X.env=[(false,eval e X.env)]:=by rfl) :
  Fn X (.Call (.Attribute (.Name x np) "index" apos) [e] [] Fy) (mw (.tup (ss.map D.str)) ft):=by
 obtain⟨u,h1,h2⟩:=h;exact xQ hg h1 h2 (qj ss) ha hd IZ LD I0 hs
theorem iL{K:PySem.W.Frag}{i:Int}{t:Tok}:IG K (.int i) (.int i t):=fun H J=>⟨.int i,⟨_,rfl⟩,r_.int _ _ _ _⟩
theorem rS:∀{ss:List Str}{vs:List Value},(List.zip ss vs).all (fun p=>match p.2 with|.str x _=>x == p.1|_=>false)=true->ss.length=vs.length->Vals (ss.map V.str) vs
 |[],[],_,_=>.nil
 |a :: r,v :: vs,h,hl=>by
  simp only[List.zip_cons_cons,List.all_cons,Bool.and_eq_true] at h;refine .cons ?_ (rS h.2 (by simpa using hl));cases v with
  |str x t=>
   have:=beq_iff_eq.mp h.1;subst this;exact⟨_,rfl⟩
  |_=>exact absurd h.1 Bool.false_ne_true
 |[],_ :: _,_,h=>by cases h
 |_ :: _,[],_,h=>by cases h
theorem uv{K:PySem.W.Frag}{mg:Str->Option Value}{x:Str}{ss:List Str}{a:Addr}{u_:Array Value}{n:Nat}{sl:Array (Option Value)}(hm:mg x=some (.ref a))(hl:K.lookup a=some ⟨.type "tuple",none,.seq u_ n,sl⟩)(hv:(List.zip ss u_.toList).all (fun p=>match p.2 with|.str x _=>x == p.1|_=>false)=true)(hn:ss.length=u_.toList.length)(hz:ss.length<=1000):Kg K mg x ss:=
 ⟨_,hm,⟨⟨a,_,u_,n,rfl,hl,rfl,rfl,rfl,by rw[<-Array.length_toList,<-hn];exact Nat.le_of_lt (Ny (by omega)),rS hv hn⟩⟩⟩
end
end DL
namespace DL
open PySem PySem.Spec PyProof.Rows L2
section
variable{X:Cx}{body:List Stmt}{h0:ExceptHandler}{hs:List ExceptHandler}{t:E4}{pos:Pos}
end
end DL
namespace DL
open PySem PySem.Spec PyProof.Rows L2
def sX(l:List Env)(ex:List Addr)(h h':Heap):Prop:=
 (∀b o,h.get? b=some o->b∉ex->b∉l.filterMap (·.frame)->h'.get? b=some o)/\(∀b o,h.get? b=some o->b∉ex->∃sl,h'.get? b=some { o with slots:=sl })
section
variable{M:Model}{A:Around}{E:Value->Shared->Prop}{s:Shared}
theorem rJ{base:Heap}{env:Env}{outer:List Env}{L e:Addr}{oe:Obj}{vs:Array Value}{head a0:Value}{NX:Bool}{Q:Unit->Shared->Prop}
  (Nw:A.frames=some (env :: outer)) (hl:s.heap.FunFrames base (env :: outer)) (hf:env.frame=some L)
  (he:s.heap.get? e=some oe) (P5:base.StaysIn s.heap) (Tj:base.get? e=none) (hd:oe.data=.fields vs) (hsz:1<vs.size) (h0:vs[0]?=some a0)
  (h:∀h',Heap.LeftW base (env :: outer) e oe.cls a0 s.heap h'->sX (env :: outer) [e] s.heap h'->(∃OK OL T,h'.get? e=some OK/\OK.data=.fields OL/\OL[1]?=some (.ref T)/\s.heap.objs.size<=T)->Q () { s with heap:=h' }) :
  wpAny M A (do let a <-frameOf env;let pl <-entryPlaceOf L NX;let b <-EntryCells.newEntry head a .none (rawInt L) .none pl;setField (.ref e) 1 b) (fun _ s'=>wpAny M A (setFlight (.ref e) none) Q E s') E s:=by
 have Tn:e∉(env :: outer).filterMap (·.frame):=fun hm=>by
  obtain⟨_,o,ho,L7⟩:=hl.mem hm;rw[he] at ho
  injection ho with ho
  subst ho;exact L7 vs hd
 refine wpAny_bind (wpAny_frameOf_fun Nw hl hf fun h1 q=>?_);refine wpAny_bind (wpAny_entryPlaceOf fun pl K3=>?_);unfold EntryCells.newEntry newFields;refine wpAny_bind (wpAny_newObj_type ?_ (K3.sizeOk5 _ _ _ _ _));obtain⟨tb,To⟩:∃tb:Obj,tb = { cls:=.type "traceback",dict:=none,data:=.fields ([head,.ref L,.none,rawInt L,.none]++(if pl.isEmpty then List.replicate 6 Value.none else pl)).toArray }:=⟨_,rfl⟩;rw[<-To];have QM:h1.get? e=some oe:=(q.2.1 e Tn).trans he;have kb1:base.StaysIn h1:=fun b o Lq=>(q.2.1 b fun hm=>by rw[(hl.mem hm).1] at Lq;cases Lq).trans (P5 b o Lq)
 have P1:=Heap.get?_push_of_some (h:=h1) tb QM;refine wpAny_setField P1 hd hsz ?_;obtain⟨T,hT⟩:∃T,T=h1.objs.size:=⟨_,rfl⟩;have Mn:T≠e:=by rw[hT];exact Nat.ne_of_gt (Heap.lt_size QM)
 have OM:s.heap.objs.size<=T:=by rw[hT,q.1];exact Nat.le_refl _
 obtain⟨h2,Rz⟩:∃h2,h2=(h1.push tb).update e (Obj.mapFields (·.setIfInBounds 1 (Value.ref T))):=⟨_,rfl⟩;have RA:=Obj.data_mapFields hd (·.setIfInBounds 1 (Value.ref T));have Wd:h2.get? e=some (Obj.mapFields (·.setIfInBounds 1 (Value.ref T)) oe):=by rw[Rz];exact Heap.get?_update_self _ P1 (Obj.isFreed_of_fields RA)
 have LG:h2.get? T=some tb:=by rw[Rz,Heap.get?_update_other _ _ (Ne.symm Mn),hT];exact Heap.get?_push_size h1 (by rw[To];rfl)
 have LH:tb.data=.fields ([head,.ref L,.none,rawInt L,.none]++(if pl.isEmpty then List.replicate 6 Value.none else pl)).toArray:=by rw[To]
 have goal:wpAny M A (setFlight (.ref e) none) Q E { s with heap:=h2 }:=by
  unfold setFlight;refine wpAny_bind (wpAny_field Wd RA (x:=.ref T) (by simp[hsz]) ?_);rw[if_pos (show(Value.ref T != Value.none)=true from by simp)];refine wpAny_setField LG LH (by simp only[List.size_toArray,List.length_append,List.length_cons,List.length_nil]<;>omega) ?_;obtain⟨h3,P6⟩:∃h3,h3=h2.update T (Obj.mapFields (·.setIfInBounds 3 ((none:Option Addr).elim Value.none fun f=>rawInt f))):=⟨_,rfl⟩;have keep:∀b o,b≠e->h1.get? b=some o->h3.get? b=some o:=fun b o Jv hb=>by
   have SQ:T≠b:=by rw[hT];exact Nat.ne_of_gt (Heap.lt_size hb)
   rw[P6,Rz,Heap.get?_update_other _ _ SQ,Heap.get?_update_other _ _ (Ne.symm Jv)];exact Heap.get?_push_of_some _ hb
  have We:h3.get? e=some (Obj.mapFields (·.setIfInBounds 1 (Value.ref T)) oe):=by rw[P6,Heap.get?_update_other _ _ Mn];exact Wd
  have K_:∀b o,s.heap.get? b=some o->(∀vs,o.data≠.fields vs)->b≠e:=fun b o hb L7 z=>by
   rw[z,he] at hb
   injection hb with hb
   subst hb;exact L7 vs hd
  have P7:h3.get? T=some (Obj.mapFields (·.setIfInBounds 3 ((none:Option Addr).elim Value.none fun f=>rawInt f)) tb):=by rw[P6];exact Heap.get?_update_self _ LG (Obj.isFreed_of_fields (Obj.data_mapFields LH _))
  have Tp:=Obj.data_mapFields LH (·.setIfInBounds 3 ((none:Option Addr).elim Value.none fun f=>rawInt f));have hq:Q () { s with heap:=h3 }:=by
   refine h h3 ⟨fun b o Lq=>keep b o (fun z=>by rw[z,Tj] at Lq;cases Lq) (kb1 b o Lq),hl.of_keeps fun b o hb L7=>?_,?_,fun b o hb L7=>?_⟩ ⟨fun b o hb Jv QE=>?_,fun b o hb Jv=>?_⟩ ⟨_,_,T,We,RA,by simp[hsz],OM⟩
   ·obtain⟨sl,hs⟩:=q.2.2 b o hb;exact⟨_,keep b _ (K_ b o hb L7) hs,rfl⟩
   ·refine⟨_,_,T,_,_,We,⟨Obj.cls_mapFields _ _,by rw[Array.getElem?_setIfInBounds_ne (by decide)];exact h0⟩,RA,by simp[hsz],?_,Mn,P7,Tp,?_⟩
    ·rw[hT];exact kb1.fresh
    ·first|(simp;done)|(rcases K3 with rfl|⟨_,_,_,_,_,_,_,rfl⟩<;>simp)
   ·obtain⟨sl,hs⟩:=q.2.2 b o hb;exact⟨sl,keep b _ (K_ b o hb L7) hs⟩
   ·exact keep b o (by simpa using Jv) ((q.2.1 b QE).trans hb)
   ·obtain⟨sl,hs⟩:=q.2.2 b o hb;exact⟨sl,keep b _ (by simpa using Jv) hs⟩
  rw[P6] at hq;exact hq
 rw[Rz,hT] at goal;exact goal
def o9(h:Heap)(e T:Addr):Prop:=∃oe vs,h.get? e=some oe/\oe.data=.fields vs/\vs[1]?=some (.ref T)
theorem vD{base:Heap}{env:Env}{outer:List Env}{L e T:Addr}{cls a0:Value}{Q:Unit->Shared->Prop}
  (Nw:A.frames=some (env :: outer)) (hl:s.heap.FunFrames base (env :: outer)) (hf:env.frame=some L) (ht:s.heap.TracedW base e cls a0) (Yp:o9 s.heap e T) (P5:base.StaysIn s.heap) (Tj:base.get? e=none)
  (h:∀h' T',Heap.LeftW base (env :: outer) e cls a0 s.heap h'->sX (env :: outer) [e,T] s.heap h'->o9 h' e T'->s.heap.objs.size<=T'->(∃oT,h'.get? T=some oT)->Q () { s with heap:=h' }):wpAny M A (noteFrame (.ref e) env) (fun _ s2=>wpAny M A (setFlight (.ref e) none) Q E s2) E s:=by
 obtain⟨oe,vs,T0,oT,ts,he,⟨HZ,h0⟩,hd,h1,Wf,Mn,hT,LH,h3⟩:=ht;obtain⟨OK,OL,b1,b2,b3⟩:=Yp;rw[he] at b1;cases b1;rw[hd] at b2;cases b2;rw[h1] at b3;cases b3;subst HZ;unfold noteFrame;simp only[hf];refine wpAny_bind (wpAny_field he hd h1 ?_);rw[if_pos (show(Value.ref T != Value.none)=true from by simp)];refine wpAny_bind (wpAny_field hT LH h3 ?_);rw[if_neg (show ¬((Value.none == rawInt L)=true) from by simp[rawInt])];refine wpAny_bind (wpAny_setField hT LH (Array.getElem?_eq_some_iff.mp h3).1 ?_);have other:∀b,b≠T->(s.heap.update T (Obj.mapFields (·.setIfInBounds 3 Value.none))).get? b=s.heap.get? b:=fun b hb=>Heap.get?_update_other _ _ (Ne.symm hb)
 have ON:∀b o,s.heap.get? b=some o->(∀vs,o.data≠.fields vs)->b≠T:=fun b o hb L7 z=>by
  rw[z,hT] at hb
  injection hb with hb
  subst hb;exact L7 ts LH
 refine rJ Nw (hl.of_keeps fun b o hb L7=>⟨o,(other b (ON b o hb L7)).trans hb,rfl⟩) hf ((other e (Ne.symm Mn)).trans he)
  (fun b o Lq=>(other b fun z=>by rw[z,Wf] at Lq;cases Lq).trans (P5 b o Lq)) Tj hd (Array.getElem?_eq_some_iff.mp h1).1 h0
  fun h' ⟨x1,x2,x3,x4⟩ ⟨y1,y2⟩ ⟨OK,OL,T',c1,c2,c3,c4⟩=>h h' T' ⟨x1,x2,x3,fun b o hb L7=>x4 b o ((other b (ON b o hb L7)).trans hb) L7⟩ ⟨fun b o hb Jv QE=>?_,fun b o hb Jv=>?_⟩ ⟨OK,OL,c1,c2,c3⟩ ?_ ?_
 ·simp only[List.mem_cons,List.not_mem_nil,or_false,not_or] at Jv;exact y1 b o ((other b Jv.2).trans hb) (by simpa using Jv.1) QE
 ·simp only[List.mem_cons,List.not_mem_nil,or_false,not_or] at Jv;exact y2 b o ((other b Jv.2).trans hb) (by simpa using Jv.1)
 ·have hsz:(s.heap.update T (Obj.mapFields (·.setIfInBounds 3 Value.none))).objs.size=s.heap.objs.size:=Heap.size_update ..;rw[<-hsz];exact c4
 ·have LC:(s.heap.update T (Obj.mapFields (·.setIfInBounds 3 Value.none))).get? T=some (Obj.mapFields (·.setIfInBounds 3 Value.none) oT):=Heap.get?_update_self _ hT (Obj.isFreed_of_fields (Obj.data_mapFields LH _));obtain⟨sl,q⟩:=y2 T _ LC (by simpa using Mn);exact⟨_,q⟩
end
end DL
namespace DL
open PySem PySem.Spec PyProof.Rows L2
section
variable{P:Program}{w:World}{H H':Hp}{h h':Heap}{a:Addr}{o:HO}
theorem vj(x:Fq P w H h a o):∃u,h.get? a=some u:=by
 cases o with
 |lst xs=>obtain⟨_,_,_,_,e⟩:=x;exact⟨_,e⟩
 |tup xs=>obtain⟨_,_,_,_,e,_⟩:=x;exact⟨_,e⟩
 |dK kvs=>obtain⟨_,_,_,_,o,_,_,e,_⟩:=x;exact⟨_,e⟩
 |dT kvs=>obtain⟨_,_,_,_,o,_,_,e,_⟩:=x;exact⟨_,e⟩
 |set S n=>obtain⟨o,_,_,_,e,_⟩:=x;exact⟨_,e⟩
 |ins C dx fs=>obtain⟨_,_,_,e,_⟩:=x;exact⟨_,e⟩
 |own y=>obtain⟨_,e⟩:=x;exact⟨_,e⟩
 |xd fs=>obtain⟨_,⟨_,_,_,e,_⟩,_⟩:=x;exact⟨_,e⟩
 |PJ lo hi=>obtain⟨_,_,_,e⟩:=x;exact⟨_,e⟩
 |Lr ob u=>obtain⟨e,_⟩:=x;exact⟨_,e⟩
 |Ot ps=>exact⟨_,(show h.get? a=some _ from x)⟩
 |met f y=>exact⟨_,(show h.get? a=some _ from x)⟩
 |ext φ=>obtain⟨_,⟨_,e⟩,_⟩:=x;exact⟨_,e⟩
theorem vo(x:GH P w H h)(hp:h.get? a=none):H a=none:=by
 cases q:H a with
 |none=>rfl
 |some u=>obtain⟨v,e⟩:=vj (x a u q);rw[hp] at e;cases e
theorem yj(x:GH P w H h)(k:∀b u,h.get? b=some u->h'.get? b=some u)(hp:h.get? a=none)(new:Fq P w (upd H a o) h' a o):GH P w (upd H a o) h':=fun b u e=>by
 have hn:=vo x hp;by_cases hb:b=a
 ·subst hb;rw[bB] at e;cases e;exact new
 ·rw[bf hb] at e;exact(x b u e).Iq (fun c v _ q=>k c v q) (fun c q=>by rw[bf (aY q hn)];exact q) fun c xs q=>by rw[bf (aY q hn)];exact q
theorem zx{fs ex:List Addr}(k:∀b u,h.get? b=some u->h'.get? b=some u)(hp:h.get? a=none)(hn:H a=none):Un fs ex H (upd H a o) h h' where
 keep:=fun b u q _ _ _=>k b u q
 slot:=fun b u q _ _ _=>⟨u.slots,k b u q⟩
 free:=fun b u q n _=>by rw[bf (fun z=>by rw[z,hp] at q;cases q)];exact n
 there:=fun b u q _=>⟨u,k b u q⟩
 HK:=fun b xs q=>by rw[bf (aY q hn)];exact q
 HC:=fun b u xs q=>by rw[bf (aY q hn)];exact q
 HL:=fun b ps q=>⟨#[],by rw[bf (aY q hn),q];simp⟩
theorem uL{c:Addr}(e:∃o,h.get? a=some o/\o.cls=.ref c):Fq P w H h a (XO a c):=by
 obtain⟨o,e1,e2⟩:=e;exact⟨⟨o,e1,e2⟩,⟨o,e1⟩,fun h1 h2 ⟨u,q1,q2⟩ k=>⟨u,k u q1,q2⟩⟩
theorem qb(e:∃o,h.get? a=some o):Fq P w H h a (TO a):=by
 obtain⟨o,e1⟩:=e;exact⟨⟨o,e1⟩,⟨o,e1⟩,fun h1 h2 ⟨u,q1⟩ k=>⟨u,k u q1⟩⟩
theorem va{l:List Env}{ex:List Addr}{T:Addr}(x:GH P w H h)(kb:sX l ex h h')(hf:∀b∈Ll l,H b=none)
  (hx:∀b∈ex,(∃c,H b=some (XO b c)/\∃o,h'.get? b=some o/\o.cls=.ref c)\/(H b=some (TO b)/\∃o,h'.get? b=some o)) (hT:h.objs.size<=T) (RB:∃o,h'.get? T=some o) :
  Un (Ll l) [] H (upd H T (TO T)) h h'/\GH P w (upd H T (TO T)) h':=by
 have hn:H T=none:=x.fresh hT;have Wg:∀b,H b=none->b∉ex:=fun b n z=>by
  rcases hx b z with ⟨c,q,_⟩|⟨q,_⟩<;>(rw[n] at q;cases q)
 refine⟨⟨fun b u q n hb _=>kb.1 b u q (Wg b n) hb,fun b u q n _ _=>kb.2 b u q (Wg b n),fun b u q n _=>?_,fun b u q _=>?_,fun b xs q=>by rw[bf (aY q hn)];exact q,fun b u xs q=>by rw[bf (aY q hn)];exact q,fun b ps q=>⟨#[],by rw[bf (aY q hn),q];simp⟩⟩,fun b u e=>?_⟩
 ·rw[bf (Nat.ne_of_lt (Nat.lt_of_lt_of_le (Heap.lt_size q) hT))];exact n
 ·by_cases z:b∈ex
  ·rcases hx b z with ⟨c,_,o,e1,_⟩|⟨_,o,e1⟩<;>exact⟨o,e1⟩
  ·obtain⟨sl,e1⟩:=kb.2 b u q z;exact⟨_,e1⟩
 ·by_cases hb:b=T
  ·subst hb;rw[bB] at e;cases e;exact qb RB
  ·rw[bf hb] at e;by_cases z:b∈ex
   ·rcases hx b z with ⟨c,q,y⟩|⟨q,y⟩
    ·rw[q] at e;cases e;exact uL y
    ·rw[q] at e;cases e;exact qb y
   ·refine(x b u e).Iq (fun c v hc q=>kb.1 c v q ?_ ?_) (fun c q=>by rw[bf (aY q hn)];exact q) fun c xs q=>by rw[bf (aY q hn)];exact q
    ·rcases hc with rfl|hc
     ·exact z
     ·intro zc;rcases hx c zc with ⟨_,q',_⟩|⟨q',_⟩<;>(rw[hc] at q';cases q')
    ·intro zf;have:=hf c zf;rcases hc with rfl|hc
     ·rw[e] at this;cases this
     ·rw[hc] at this;cases this
theorem yf{L:Addr}{fs ex:List Addr}(u:Un (L :: fs) ex H H' h h')(hL:h.objs.size<=L):Un fs ex H H' h h' where
 keep:=fun b o q n hb hx=>u.keep b o q n (fun z=>(List.mem_cons.mp z).elim (fun e=>absurd (Heap.lt_size q) (by rw[e];exact Nat.not_lt.mpr hL)) hb) hx
 slot:=fun b o q n hb hx=>u.slot b o q n (List.mem_cons_of_mem _ hb) hx
 free:=u.free
 there:=u.there
 HK:=u.HK
 HC:=u.HC
 HL:=u.HL
end
theorem Tr.of{base h:Heap}{a c T:Addr}{a0:Value}(t:h.TracedW base a (.ref c) a0)(ta:o9 h a T):Tr h a c T:=by
 obtain⟨oe,vs,T0,oT,ts,he,⟨HZ,h0⟩,hd,h1,Wf,Mn,hT,LH,h3⟩:=t;obtain⟨OK,OL,b1,b2,b3⟩:=ta;rw[he] at b1;cases b1;rw[hd] at b2;cases b2;rw[h1] at b3;cases b3;exact⟨oe,vs,oT,ts,a0,he,HZ,hd,h0,h1,Mn,hT,LH,h3⟩
theorem Tr.to{base h:Heap}{a c T:Addr}(t:Tr h a c T)(hb:base.get? T=none):∃a0,h.TracedW base a (.ref c) a0/\o9 h a T:=by
 obtain⟨oe,vs,oT,ts,a0,he,HZ,hd,h0,h1,Mn,hT,LH,h3⟩:=t;exact⟨a0,⟨oe,vs,T,oT,ts,he,⟨HZ,h0⟩,hd,h1,hb,Mn,hT,LH,h3⟩,oe,vs,he,hd,h1⟩
theorem Tr.cls{h:Heap}{a c T:Addr}(t:Tr h a c T):∃o,h.get? a=some o/\o.cls=.ref c:=by
 obtain⟨oe,vs,oT,ts,a0,he,HZ,_⟩:=t;exact⟨oe,he,HZ⟩
theorem Tr.end{h:Heap}{a c T:Addr}(t:Tr h a c T):∃o,h.get? T=some o:=by
 obtain⟨oe,vs,oT,ts,a0,he,HZ,hd,h0,h1,Mn,hT,_⟩:=t;exact⟨oT,hT⟩
def A_(P:Program)(w:World):Ir:=fun outer H s E e s'=>∃a c T H',e=.ref a/\s'.os=s.os/\AllBare s'.gens/\Un (Ll outer) [] H H' s.heap s'.heap/\GH P w H' s'.heap/\H' a=some (XO a c)/\H' T=some (TO T)/\Tr s'.heap a c T/\E (.ref c) none H'
theorem zp{P:Program}{w:World}{H:Hp}{s:Shared}{e:Value}{s':Shared}:A_ P w [] H s (fun _ _ _=>False) e s'->False:=fun ⟨_,_,_,_,_,_,_,_,_,_,_,_,z⟩=>z
theorem jZ{X:Cx}{pins:EK}{σ:L2.St}{H:Hp}{s:Shared}{a:Addr}{o:HO}(I:Inv X pins σ H s)(e:H a=some o):X.base.get? a=none:=by
 cases q:X.base.get? a with
 |none=>rfl
 |some u=>have:=(I.bs a u q).2;rw[e] at this;cases this
theorem wU{X:Cx}{pins:EK}{σ:L2.St}{H:Hp}{s:Shared}{a c:Addr}{Q:Unit->Shared->Prop}{E:Value->Shared->Prop}(Gz:X.stack=X.env :: X.outer/\X.env.frame=some X.env.locals)(I:Inv X pins σ H s)(hX:H a=some (XO a c))(hc:DH s.heap a c\/∃T,H T=some (TO T)/\Tr s.heap a c T)
  (hq:∀h' T',H T'=none->Un (Ll X.stack) [] H (upd H T' (TO T')) s.heap h'->GH X.prog X.w (upd H T' (TO T')) h'->Tr h' a c T'->Q () { s with heap:=h' }) :
  wpAny (model X.prog X.w) X.A (noteFrame (.ref a) X.env) (fun _ s2=>wpAny (model X.prog X.w) X.A (setFlight (.ref a) none) Q E s2) E s:=by
 have Nw:X.A.frames=some (X.env :: X.outer):=by rw[I.ok.frames,Gz.1]
 have hl:s.heap.FunFrames X.base (X.env :: X.outer):=by rw[<-Gz.1];exact I.stack
 have Wh:∀b∈Ll (X.env :: X.outer),H b=none:=by rw[<-Gz.1];exact I.Kk
 have P5:X.base.StaysIn s.heap:=I.bk;rcases hc with ⟨oe,vs,a0,he,Mz,hd,h0,h1⟩|⟨T,Wi,tr⟩
 ·unfold noteFrame;simp only[Gz.2];refine wpAny_bind (wpAny_field he hd h1 ?_);rw[if_neg (by decide)];refine rJ Nw hl Gz.2 he P5 (jZ I hX) hd (Array.getElem?_eq_some_iff.mp h1).1 h0 fun h' lw kb ⟨OK,OL,T',c1,c2,c3,c4⟩=>?_
  rw[Mz] at lw;have tr:=Tr.of lw.2.2.1 ⟨OK,OL,c1,c2,c3⟩;obtain⟨u1,u2⟩:=va I.EW kb Wh (fun b hb=>.inl ⟨c,by simp at hb;subst hb;exact⟨hX,tr.cls⟩⟩) c4 tr.end;rw[<-Gz.1] at u1;exact hq h' T' (I.EW.fresh c4) u1 u2 tr
 ·obtain⟨a0,tw,ta⟩:=tr.to (jZ I Wi);refine vD Nw hl Gz.2 tw ta P5 (jZ I hX) fun h' T' lw kb Yq hs Yr=>?_
  have Tq:=Tr.of lw.2.2.1 Yq;obtain⟨u1,u2⟩:=va I.EW kb Wh (fun b hb=>by
   simp only[List.mem_cons,List.not_mem_nil,or_false] at hb;rcases hb with rfl|rfl
   ·exact .inl ⟨c,hX,Tq.cls⟩
   ·exact .inr ⟨Wi,Yr⟩) hs Tq.end
  rw[<-Gz.1] at u1;exact hq h' T' (I.EW.fresh hs) u1 u2 Tq
theorem mB{P:Program}{w:World}{K:PySem.W.Frag}{mg:Str->Option Value}{base:Heap}{N:List Str}{qual:Str}{scope:Scope}{f:Addr}{EU:Value}{A:Around}{outer:List Env}{s:Shared}{H:Hp}{E:XK} :
  zn (A_ P w) (oH (A_ P w) P w K mg base N qual scope f EU A outer s H E) E:=by
 intro σ H' s' e c XI hE;obtain⟨I,a,rfl,hX,hc⟩:=XI;show wpAny (model P w) (A.deeper (envOfC qual scope s.heap.objs.size f EU)) (leaving (envOfC qual scope s.heap.objs.size f EU) (.ref a)) (fun _ NG=>A_ P w outer H s E (.ref a) NG) (fun e' NG=>A_ P w outer H s E e' NG) s';unfold leaving;refine wpAny_bind (wU (X:=oH (A_ P w) P w K mg base N qual scope f EU A outer s H E) (Q:=fun _ NG=>A_ P w outer H s E (.ref a) NG) ⟨rfl,rfl⟩ I hX hc fun h' T' hn un EW tr=>?_);have Nv:a≠T':=aY hX hn;refine⟨a,c,T',_,rfl,I.os,I.bare,yf (L:=s.heap.objs.size) (Un.trans (I.base.mono (fun b hb=>List.mem_cons_of_mem _ hb) fun b hb=>hb) un) (Nat.le_refl _),EW,by rw[bf Nv];exact hX,bB,tr,hE T' _ hn⟩
theorem aJ{X:Cx}:oy (A_ X.prog X.w) X:=by
 intro E0 pins σ H s e s' I h;obtain⟨a,c,T,H',rfl,os,bare,un,EW,hX,hT,tr,hE⟩:=h;obtain⟨hh,g,d,t,Sk⟩:=s';obtain rfl:Sk=s.os:=os;exact⟨c,H',⟨I.call (h':=hh) (g':=g) (d':=d) (t':=t) (ch:=[]) un EW bare (fun b z=>absurd z (by simp)),a,rfl,hX,.inr ⟨T,hT,tr⟩⟩,hE⟩
structure MU(K:PySem.W.Frag)(mg:Str->Option Value)(x:Str)(C:Addr):Prop where
 nm:mg x=some (.ref C)
 cls:PySem.W.excIn K C [.type "ValueError",.type "Exception",.type "BaseException",.type "object"] "ValueError.__new__"=true
theorem sx{K:PySem.W.Frag}{h:Heap}{C:Addr}{Wj:List Value}{newId:String}(X:K.In h)(q:PySem.W.excIn K C Wj newId=true) :
  ∃bm N nm q bs hdct sn sub ab col dd k0 k1 k2 k3 k5 mN,h.get? C=some (excClassObj nm q C N bs bm hdct sn sub ab col dd k0 k1 k2 k3 k5 newId)/\h.Ns N mN/\mN "__init__"=none/\OwnTail h Wj bm:=by
 unfold PySem.W.excIn at q;split at q
 ·rename_i dd cd sl ho;split at q
  ·rename_i C' bm k0 k1 k2 k3 n k5 hm hs;simp only[Bool.and_eq_true,beq_iff_eq,Bool.not_eq_true'] at q;obtain⟨⟨⟨⟨⟨rfl,rfl⟩,QN⟩,ht⟩,EW⟩,QO⟩:=q;obtain⟨nm,bs,mro,ns,qn,hd,sn,sub,ab,col,del⟩:=cd;dsimp only at hm QN EW QO;subst hm QN;have OM:sl = #[k0,k1,k2,k3,some (.builtin n),k5]:=by
    obtain⟨l⟩:=sl;simp only at hs;rw[hs]
   subst OM;exact⟨bm,ns,nm,qn,bs,hd,sn,sub,ab,col,dd,k0,k1,k2,k3,k5,_,X _ _ ho,.of_isNs (PySem.W.isNs_of_in X EW),PySem.W.nsMap_none_of_in X EW QO,PySem.W.tail_of_in X ht⟩
  ·cases q
 ·cases q
def nu(C:Addr)(fe:tB->M D):E4:=fun r=>cu (fe r) r fun _ S=>some (.xc C r,S)
theorem mL{X:Cx}{x:Str}{C:Addr}{np Fy pos:Pos}{e:Expr}{fe:tB->M D}(hx:MU X.K X.mg x C)(hg:Gl X x)(hc:X.calm=true)(he:Fn X e fe)
  (Mh:(x == ("__debug__":Str))=false:=by decide) (hs:starEach [e] X.env=(false,eval e X.env) :: starEach [] X.env:=by rfl) :
  Lx X (.Raise (some (.Call (.Name x np) [e] [] Fy)) none pos) (nu C fe):=by
 intro pins s σ H J r S Q E I m;obtain⟨tl,N,nm,q,bs,hdct,sn,sub,ab,col,dd,k0,k1,k2,k3,k5,mN,hC,hN,QO,T⟩:=sx I.inv.mod.PL hx.cls;refine wpAny_Raise_call_subT (C:=C) (nm:=nm) (q:=q) (N:=N) (bs:=bs) (bm:=tl) (hdct:=hdct) (sn:=sn) (sub:=sub) (ab:=ab) (col:=col) (dd:=dd) (k0:=k0) (k1:=k1) (k2:=k2) (k3:=k3) (k5:=k5)
  PySem.F.excBase_ValueError (mN:=mN) (T.hasType PySem.F.excBase_ValueError.hasBase) (I.inv.ok.hd hc) (by rw[hs];rfl) QO (kT I.inv hg hx.nm ⟨rfl,?_⟩ Mh)
 rw[hs];refine Calls.evalArgs_plain (Calls.spliced_cons (QA he I m fun d S1 v s1 vx H1 J1 I1 rv r1 m1=>Calls.spliced_nil ⟨rfl,(by decide:(1:Nat)<=sizeLine),I1.inv.bk _ _ hC,hN.keeps I1.inv.bk,T.keeps I1.inv.bk,fun h' e' hm=>?_⟩));obtain⟨t0,QM,_,_⟩:=hm.there;have hn:H1 e'=none:=vo I1.inv.EW hm.new;have I2:Inv X pins σ (upd H1 e' (XO e' C)) { s1 with heap:=h' }:=I1.inv.un (h':=h') (t':=s1.toks) (zx hm.keeps hm.new hn) (yj I1.inv.EW hm.keeps hm.new (uL ⟨_,QM,rfl⟩));exact m1 (.ref e') _ σ (upd H1 e' (XO e' C)) J1 ⟨I2,e',rfl,bB,.inl ⟨_,_,_,QM,rfl,rfl,rfl,rfl⟩⟩ (I1.loc.ext (Ext.new hn)) (I1.st.new hn) (Ext.new hn)
end DL
namespace DL
open PySem PySem.Spec PyProof.Rows L2
section
variable{P:Program}{w:World}{H H':Hp}{h h':Heap}{a:Addr}{o:HO}
theorem yI{T:Addr}(x:GH P w H h)(hT:H T=some (TO T))(k:∀b,b≠T->h'.get? b=h.get? b)(RB:∃o,h'.get? T=some o)(fs:List Addr) :
  Un fs [] H H h h'/\GH P w H h':=by
 have ne:∀b,H b=none->b≠T:=fun b n z=>by rw[z,hT] at n;cases n
 refine⟨⟨fun b u q n _ _=>(k b (ne b n)).trans q,fun b u q n _ _=>⟨u.slots,(k b (ne b n)).trans q⟩,fun _ _ _ n _=>n,fun b u q _=>?_,fun _ _ q=>q,fun _ _ _ q=>q,fun b ps q=>⟨#[],by rw[q];simp⟩⟩,fun b u e=>?_⟩
 ·by_cases z:b=T
  ·subst z;exact RB
  ·exact⟨u,(k b z).trans q⟩
 ·by_cases z:b=T
  ·subst z;rw[hT] at e;cases e;exact qb RB
  ·refine(x b u e).Iq (fun c v hc q=>(k c ?_).trans q) (fun _ q=>q) fun _ _ q=>q
   rcases hc with rfl|hc
   ·exact z
   ·rintro rfl;rw[hT] at hc;cases hc
end
def Cx.marked(X:Cx)(a:Addr):Cx:={ X with A:=X.A.mark (some (.ref a)),calm:=false }
section
variable{X:Cx}{pins:EK}{σ:L2.St}{H:Hp}{s:Shared}{a c T:Addr}
theorem v7(I:Inv X pins σ H s)(a:Addr):Inv (Cx.marked X a) pins σ H s:=
 ⟨⟨I.ok.mod,I.ok.kind,I.ok.glob,I.ok.blt,I.ok.above,I.ok.inj,I.ok.has,I.ok.PM,fun z=>(nomatch z),I.ok.frames,I.ok.Qg,I.ok.R8,I.ok.bs,I.ok.Mu,I.ok.Mc,I.ok.MF,I.ok.HY,I.ok.ND⟩,I.os,I.bare,I.base,I.loc,I.cell,I.free,I.Hg,I.pin,I.EW,I.len⟩
theorem gY(ok:X.Ok)(I:Inv (Cx.marked X a) pins σ H s):Inv X pins σ H s:=⟨ok,I.os,I.bare,I.base,I.loc,I.cell,I.free,I.Hg,I.pin,I.EW,I.len⟩
theorem o0{M:Model}{A:Around}{Q:Unit->Shared->Prop}{E:Value->Shared->Prop}(I:Inv X pins σ H s)(hT:H T=some (TO T))(t:Tr s.heap a c T)
  (hq:∀h',Inv X pins σ H { s with heap:=h' }->(∃o,h'.get? a=some o/\o.cls=.ref c)->Q () { s with heap:=h' }):wpAny M A (setFlight (.ref a) none) Q E s:=by
 obtain⟨oe,vs,oT,ts,a0,he,HZ,hd,h0,h1,Mn,Wl,LH,h3⟩:=t;unfold setFlight;refine wpAny_bind (wpAny_field he hd h1 ?_);rw[if_pos (show(Value.ref T != Value.none)=true from by simp)];refine wpAny_setField Wl LH (Array.getElem?_eq_some_iff.mp h3).1 ?_;have k:∀b,b≠T->(s.heap.update T (Obj.mapFields (·.setIfInBounds 3 ((none:Option Addr).elim Value.none fun f=>rawInt f)))).get? b=s.heap.get? b:=fun b hb=>Heap.get?_update_other _ _ (Ne.symm hb)
 obtain⟨u1,u2⟩:=yI I.EW hT k ⟨_,Heap.get?_update_self _ Wl (Obj.isFreed_of_fields (Obj.data_mapFields LH _))⟩ X.fs;exact hq _ (I.un (t':=s.toks) u1 u2) ⟨oe,(k a (Ne.symm Mn)).trans he,HZ⟩
end
structure Ys(K:PySem.W.Frag)(c C:Addr):Prop where
 sub:PySem.W.subIn K (.ref c) (.ref C)=some true
theorem tp{M:Model}{A:Around}{E:Value->Shared->Prop}{s:Shared}{K:PySem.W.Frag}{a c C:Addr}{x:Str}{mg:Str->Option Value}{Q:Bool->Shared->Prop}(X:K.In s.heap)(hC:MU K mg x C)(hs:PySem.W.subIn K (.ref c) (.ref C)=some true)
  (he:∃o,s.heap.get? a=some o/\o.cls=.ref c) (hq:Q true s):wpAny M A (excMatches (.ref a) (.ref C)) Q E s:=by
 obtain⟨tl,N,nm,q,bs,hdct,sn,sub,ab,col,dd,k0,k1,k2,k3,k5,mN,Wm,hN,QO,T⟩:=sx X hC.cls;obtain⟨oe,he,HZ⟩:=he;have Yt:(Value.ref C :: tl).contains (.type "BaseException")=true:=by rw[List.contains_cons,T.hasType PySem.F.excBase_ValueError.hasBase,Bool.or_true]
 have f:=tc_notTuple;obtain⟨hh,g,d,tk,os⟩:=s;have L:=PySem.W.looks_subIn (M:=M) X hs;unfold excMatches
 repeat (first|(with_reducible refine wpAny_loadPart_at he ?_;rw[HZ])|with_reducible refine wpAny_loadPart_at Wm ?_|(with_reducible refine wpAny_isSubtype_exc Wm ?_;rw[Yt])|(with_reducible refine L.here ?_)|wp_step)
 exact hq
def Wn:Lp->Lp
 |some (.xc _ _,_)=>none
 |x=>x
def vU(L:List Addr)(t u:E4):E4:=fun r S=>match t r S with
 |some (.xc c r',S')=>if c∈L then Wn (u r' S') else none
 |x=>x
section
variable{X:Cx}{body MV:List Stmt}{Pp:Stmt}{t u:E4}{pos np hp:Pos}{x:Str}{C:Addr}{L:List Addr}
theorem Ck(hC:MU X.K X.mg x C)(hL:∀c∈L,PySem.W.subIn X.K (.ref c) (.ref C)=some true)(hg:Gl X x)(Gz:X.stack=X.env :: X.outer/\X.env.frame=some X.env.locals)(hb:n5 X body t)(hs:∀a,n5 (Cx.marked X a) (Pp :: MV) u)
  (Mh:(x == ("__debug__":Str))=false:=by decide) :
  Lx X (.Try body [.ExceptHandler (some (.Name x np)) none (Pp :: MV) hp] [] [] pos) (vU L t u):=by
 intro pins s σ H J r S Q E I m;refine wpAny_Try_except (hb pins s σ H J r S _ _ I ?_);unfold vU at m
 match e:t r S with
 |none=>rw[e] at m;exact m
 |some (.nx r',S')=>
  rw[e] at m;exact fun s' Fd H' J' a x=>wpAny_execs_nil (m s' Fd H' J' a x)
 |some (.bk r',S')=>rw[e] at m;exact m
 |some (.ct r',S')=>rw[e] at m;exact m
 |some (.rt d,S')=>rw[e] at m;exact m
 |some (.xc c r',S')=>
  rw[e] at m;dsimp only at m;split at m
  ·rename_i Yu;rintro ev s' Fd H' J' ⟨I1,a,rfl,hX,hc⟩ rl rs ex;refine wU Gz I1 hX hc fun h' T' hn un EW tr=>?_
   have Nv:a≠T':=aY hX hn;have I2:Inv X pins Fd (upd H' T' (TO T')) { s' with heap:=h' }:=I1.call (h':=h') (g':=s'.gens) (d':=s'.drawn) (t':=s'.toks) (ch:=[]) un EW I1.bare (fun b z=>absurd z (by simp));have I3:=v7 I2 a;refine wpAny_handleBy_cons (codeAny_handlers_test (kT (X:=Cx.marked X a) I3 hg hC.nm ?_ Mh)) (by intro q;cases q);refine tp I2.IS hC (hL c Yu) tr.cls (codeAny_handlers_suite ?_);refine o0 I3 bB tr fun h2 I4 _=>?_
   have Jt:Ext H' J' (upd H' T' (TO T')) J':=Ext.new hn;refine hs a pins _ Fd _ J' r' S' _ _ ⟨I4,rl.ext Jt,rs.new hn⟩ ?_;have m2:=Jz.ext (ex.trans Jt) m
   match e2:u r' S' with
   |none=>rw[e2] at m2;exact m2
   |some (.nx r2,S2)=>rw[e2] at m2;exact fun s3 K8 H3 J3 a3 x3=>m2 s3 K8 H3 J3 ⟨gY I2.ok a3.inv,a3.loc,a3.st⟩ x3
   |some (.bk r2,S2)=>rw[e2] at m2;exact fun s3 K8 H3 J3 a3 x3=>m2 s3 K8 H3 J3 ⟨gY I2.ok a3.inv,a3.loc,a3.st⟩ x3
   |some (.ct r2,S2)=>rw[e2] at m2;exact fun s3 K8 H3 J3 a3 x3=>m2 s3 K8 H3 J3 ⟨gY I2.ok a3.inv,a3.loc,a3.st⟩ x3
   |some (.rt d,S2)=>rw[e2] at m2;exact fun v s3 K8 ⟨vv,H3,I5,rv,g⟩=>m2 v s3 K8 ⟨vv,H3,gY I2.ok I5,rv,g⟩
   |some (.xc c2 r2,S2)=>rw[e2] at m2;exact m2.elim
  ·exact m.elim
end
end DL
namespace DL
open PySem PySem.Spec PyProof.Rows L2
section
variable{X:Cx}{pins:EK}{σ:L2.St}{H:Hp}{s:Shared}
end
section
variable{X:Cx}{body MV:List Stmt}{Pp:Stmt}{t u:E4}{pos np hp:Pos}{x n:Str}{C:Addr}{L:List Addr}{i:Nat}
end
section
variable{X:Cx}{e:Expr}{fe:tB->M D}{pos:Pos}
end
end DL
namespace DL
open PySem PySem.Spec PyProof.Rows L2
theorem De{α:Type}{P:α->Prop}:∀c∈([]:List α),P c:=fun _ h=>nomatch h
theorem BE{α:Type}{P:α->Prop}{x:α}{l:List α}(h:P x)(t:∀c∈l,P c):∀c∈x :: l,P c:=fun c hc=>(List.mem_cons.mp hc).elim (fun e=>e ▸ h) (t c)
section
variable{X:Cx}{pos p p2 p3 p4:Pos}
end
end DL
namespace DL
open PySem PySem.Spec PyProof.Rows L2
def DP:D->Bool
 |.EJ=>true
 |_=>false
def mR(x y:D):M D:=fun S=>match y with
 |.EJ=>.ok (.bl (!DP x)) S
 |_=>.bad
theorem r_.Pq{K:PySem.W.Frag}{H:Hp}{J:List Addr}{d:D}{v:V}(h:r_ K H J d v):decide (v=.EJ)=DP d:=by
 cases d with
 |EJ=>cases h.Lv;rfl
 |bl b=>cases h.Nt;rfl
 |int i=>cases h.FY;rfl
 |str x=>cases h.MK;rfl
 |tup xs=>obtain⟨a,vs,rfl,_⟩:=h.HP;rfl
 |FP xs=>obtain⟨a,vs,rfl,_⟩:=h.Ko;rfl
 |ob n=>obtain⟨a,rfl,_⟩:=h.HQ;rfl
 |xn c=>obtain⟨a,rfl,_⟩:=h.XG;rfl
section
variable{X:Cx}
theorem w4:Io X (compareOp .IsNot) mR:=by
 intro pins s σ H J S x y vx vy v u Q E I rs rx ry rv ru m;cases y with
 |EJ=>
  cases ry.Lv;cases ru;refine isnot_none_gen ?_;rw[rv.MG,rx.Pq];exact m.Hl I rs (r_.bl _ _ _ _) rfl
 |_=>exact m.elim
end
end DL
namespace DL
open PySem PySem.Spec PyProof.Rows L2
structure NoX(K:PySem.W.Frag)(c:Addr):Prop where
 cls:PySem.W.excIn K c [.type "ValueError",.type "Exception",.type "BaseException",.type "object"] "ValueError.__new__"=true
 ga:PySem.W.findIn K (.ref c) "__getattribute__"=some (some (.builtin "BaseException.__getattribute__"))
 gat:PySem.W.findIn K (.ref c) "__getattr__"=some none
 Yv:PySem.W.findIn K (.ref c) "__class__"=some (some (.builtin "object.__class__"))
section
variable{prog:Program}{w:World}{A:Around}{E:Value->Shared->Prop}{h:Heap}{g:Array GenState}{d:Drawn}{t:Nat}{os:OsState}{a:Addr}{o:Obj}{K:PySem.W.Frag}
 {nm q:Str}{C N:Addr}{bs bm:List Value}{hdct:Bool}{sn:List Str}{sub:List Value}{ab:Bool}{col:Option Bool}{dd:Option Addr}{k0 k1 k2 k3 k5:Option Value}{newId:String}
end
end DL
namespace DL
open PySem PySem.Spec PyProof.Rows L2
section
variable{env:Env}{es:List Expr}
end
end DL
namespace DL
open PySem PySem.Spec PyProof.Rows
section
variable{prog:Program}{w:World}{A:Around}{E:Value->Shared->Prop}{s:Shared}{b:Array Keyed}
end
end DL
namespace DL
open PySem PySem.Spec PyProof.Rows L2
theorem kZ:∀{ns:List Int}{us:List Value},IntsAre us ns->Vals (ns.map V.int) us
 |_,_,.nil=>.nil
 |_,_,.cons n t h=>.cons ⟨t,rfl⟩ (kZ h)
section
variable{X:Cx}
end
end DL
namespace DL
open PySem PySem.Spec PyProof.Rows L2
end DL
namespace Lw
open PySem L2 DL
open PyProof.Rows (boot_max boot_min boot_sum boot_all boot_int boot_tuple boot_list boot_isinstance boot_range boot_enumerate boot_bool)
theorem FZ{N P:List Str}{sc:Scope}(a:sc.kind=.function:=by rfl)(b:sc.isCoroutine=false:=by rfl)(c:sc.isGenerator=false:=by rfl)(d:N.Nodup:=by decide +kernel)(e:N.take P.length=P:=by rfl)(f:∀x∈P,sc.names.lookup x=some .local\/sc.names.lookup x=some .cell:=by decide +kernel)(g:∀y∈sc.names,y.2≠.free:=by decide +kernel):m_ N P sc:=⟨a,b,c,d,e,f,g⟩
@[simp] def mF(n:Nat)(c:E4):List D->M D:=fun xs S=>fin S (c (xs.map some++List.replicate (n-xs.length) none) S)
@[simp] def mP(n:Nat)(c:E4):List D->M D:=fun xs S=>cG S (c (xs.map some++List.replicate (n-xs.length) none) S)
theorem fE{P:Program}{w:World}{K:PySem.W.Frag}{mg:Str->Option Value}{base:Heap}{x qual:Str}{st:Stmt}{f:Addr}{fd:FuncData}{N ps:List Str}{k:Nat}{t:E4}(hF:Fz K x qual st f fd)(S:m_ N ps (h_ st))(h:∀(EU:Value) (A:Around) (outer:List Env) (s:Shared) (H:Hp) (E:XK),FX k (A.deeper (PyProof.Rows.envOfC qual (h_ st) s.heap.objs.size f EU))->n5 (oH (A_ P w) P w K mg base N qual (h_ st) f EU A outer s H E) (Fx st) t):FK P w K mg base (A_ P w) (k+1) f fd ps (mF N.length t):=pK hF S (fun _ _ _ _ _ _=>mB) (fun EU A outer s H E hr=>⟨t,h EU A outer s H E hr,fun xs S0 hl=>mY⟩)
theorem fG{P:Program}{w:World}{K:PySem.W.Frag}{mg:Str->Option Value}{base:Heap}{x qual:Str}{st:Stmt}{f:Addr}{fd:FuncData}{N ps:List Str}{k:Nat}{t:E4}(hF:Fz K x qual st f fd)(S:m_ N ps (h_ st))(h:∀(EU:Value) (A:Around) (outer:List Env) (s:Shared) (H:Hp) (E:XK),FX k (A.deeper (PyProof.Rows.envOfC qual (h_ st) s.heap.objs.size f EU))->n5 (oH (A_ P w) P w K mg base N qual (h_ st) f EU A outer s H E) (Fx st) t):FK P w K mg base (A_ P w) (k+1) f fd ps (mP N.length t):=pK hF S (fun _ _ _ _ _ _=>mB) (fun EU A outer s H E hr=>⟨t,h EU A outer s H E hr,fun xs S0 hl=>yo⟩)
def top(i:Nat):Stmt:=PySem.Challenge.pw_sureroad_k15_whole_sure_is_sure.main.body.getD i (.Pass ⟨0,0,0,0⟩)
abbrev lK:Stmt:=top 41
abbrev kM:Stmt:=top 40
abbrev iu:Stmt:=top 44
abbrev eS:Stmt:=bi (top 15) 0
abbrev eO:Stmt:=bi (top 13) 0
abbrev fK:Stmt:=bi (top 37) 0
abbrev kC:Stmt:=top 45
abbrev ku:Stmt:=top 10
abbrev jv:Stmt:=bi (top 15) 1
abbrev j5:Stmt:=bi (top 37) 1
abbrev iC:Stmt:=top 43
abbrev jx:Stmt:=top 32
abbrev lO:Stmt:=top 26
abbrev qE:Stmt:=top 27
abbrev lV:Stmt:=top 28
abbrev md:Stmt:=top 29
abbrev nU:Stmt:=top 30
abbrev ma:Stmt:=top 31
abbrev nM:Stmt:=top 33
abbrev eF:Stmt:=bi (top 37) 15
abbrev kJ:Stmt:=top 7
abbrev fM:Stmt:=bi (top 15) 7
abbrev gJ:Stmt:=bi (top 15) 6
abbrev jk:Stmt:=bi (top 15) 5
abbrev j3:Stmt:=bi (top 37) 3
abbrev eW:Stmt:=bi (top 37) 14
abbrev kR:Stmt:=top 34
abbrev wz:Stmt:=top 35
abbrev ix:Stmt:=bi (top 13) 2
abbrev dS:Stmt:=bi (top 13) 4
abbrev jR:Stmt:=top 6
abbrev j8:Stmt:=top 8
abbrev jy:Stmt:=bi (top 13) 6
abbrev ke:Stmt:=top 11
abbrev jf:Stmt:=bi (top 13) 8
abbrev eP:Stmt:=bi (top 13) 7
abbrev jt:Stmt:=bi (top 13) 9
abbrev d9:Stmt:=bi (top 13) 5
abbrev im:Stmt:=bi (top 13) 3
abbrev eG:Stmt:=bi (top 15) 4
abbrev eE:Stmt:=bi (top 15) 11
abbrev dQ:Stmt:=bi (top 15) 12
abbrev d8:Stmt:=bi (top 15) 10
abbrev eL:Stmt:=bi (top 15) 9
abbrev ic:Stmt:=bi (top 15) 8
abbrev iD:Stmt:=bi (top 37) 16
abbrev jX:Stmt:=bi (top 37) 4
abbrev kc:Stmt:=bi (top 37) 5
abbrev iQ:Stmt:=bi (top 37) 6
abbrev nK:Stmt:=top 38
abbrev jo:Stmt:=bi (top 37) 7
abbrev jl:Stmt:=bi (top 15) 3
abbrev jq:Stmt:=bi (top 13) 1
abbrev jP:Stmt:=bi (top 37) 8
abbrev iB:Stmt:=bi (top 15) 2
abbrev jm:Stmt:=bi (top 37) 2
abbrev nL:Stmt:=top 46
abbrev gK:Stmt:=bi (top 37) 11
abbrev ji:Stmt:=top 47
abbrev ij:Stmt:=top 48
abbrev jW:Stmt:=top 42
abbrev eY:Stmt:=bi (top 37) 10
abbrev rE:Stmt:=top 49
structure Cs where
 f_:Addr
 c_:Addr
 World:Addr
 MW:Addr
 FO:Addr
abbrev d_:List Str:=["window","given","opening","next_index","early","begun"]
theorem aU:d_.Nodup:=by decide +kernel
abbrev a_:List Str:=["window","most","messages","sure","opening","state","pieces","base","noted"]
theorem aE:a_.Nodup:=by decide +kernel
abbrev o_:List Str:=["sender","hearer","roads"]
theorem ca:o_.Nodup:=by decide +kernel
abbrev G4:List Str:=["hello","welcome","who","data","note"]
abbrev dW:D:=.tup (G4.map D.str)
abbrev Gg:List Str:=["hello","welcome","who"]
abbrev eu:D:=.tup (Gg.map D.str)
abbrev Ff:D:=.int 65535
abbrev EY:D:=.int 13
abbrev Fj:D:=.int 255
abbrev Fs:D:=.int 8
abbrev GR:D:=.int 7
abbrev EZ:D:=.int 3
abbrev EO:D:=.int 2
structure Txt(K:PySem.W.Frag)(mg:Str->Option Value)(G:Cs):Prop where
 QP:mg "all"=none
 MX:mg "bool"=none
 IC:mg "enumerate"=none
 OO:mg "int"=none
 FA:mg "isinstance"=none
 Ge:mg "len"=none
 Pr:mg "list"=none
 QQ:mg "max"=none
 OP:mg "min"=none
 Ks:mg "range"=none
 MY:mg "sum"=none
 GF:mg "tuple"=none
 n_:K2 K G.f_
 Fh:E6 K G.f_ "window"
 Gv:E6 K G.f_ "given"
 EN:E6 K G.f_ "opening"
 y_:E6 K G.f_ "next_index"
 E_:E6 K G.f_ "early"
 FG:E6 K G.f_ "begun"
 i_:K2 K G.c_
 Fi:E6 K G.c_ "window"
 GI:E6 K G.c_ "most"
 F_:E6 K G.c_ "messages"
 Gh:E6 K G.c_ "sure"
 Ft:E6 K G.c_ "opening"
 C_:E6 K G.c_ "state"
 EL:E6 K G.c_ "pieces"
 ER:E6 K G.c_ "base"
 FV:E6 K G.c_ "noted"
 t_:K2 K G.World
 Fb:E6 K G.World "sender"
 FW:E6 K G.World "hearer"
 ES:E6 K G.World "roads"
 MZ:MU K mg "NoCard" G.MW
 HA:MU K mg "NoStrip" G.FO
 Ga:PySem.W.subIn K (.ref G.FO) (.ref G.FO)=some true
 Kt:Kg K mg "KINDS" G4
 JB:Kg K mg "SHORT_KINDS" Gg
 JC:∃u,mg "TOP_OPENING"=some u/\IG K Ff u
 Ku:∃u,mg "TOP_NUMBER"=some u/\IG K EY u
 Jd:∃u,mg "TOP_CELL"=some u/\IG K Fj u
 Hn:∃u,mg "MOST_PIECE_LETTERS"=some u/\IG K Fs u
 La:∃u,mg "MOST_BITS"=some u/\IG K GR u
 Ik:∃u,mg "HEAD_CELLS"=some u/\IG K EZ u
 HI:∃u,mg "CHECK_CELLS"=some u/\IG K EO u
section
variable{P:Program}{w:World}{K:PySem.W.Frag}{mg:Str->Option Value}{base:Heap}
theorem u9:m_ ["_law_cell_here","_law_prime","_law_many"] ["_law_cell_here","_law_prime","_law_many"] (h_ lK):=FZ
def og:E4:=(bK (g_ kj (g_ kj (g_ gX (aa 0) (dC (.int 48271))) (aa 1)) (aa 2)))
def aF:List D->M D:=mF 3 og
theorem vn{G:Cs}(T:Txt K mg G){f:Addr}{fd:FuncData}(F:Fz K "_law_mix" "_law_mix" lK f fd):FK P w K mg base (A_ P w) 1 f fd ["_law_cell_here","_law_prime","_law_many"] aF:=by
 refine fE F u9 fun EU A outer s H E hr=>?_
 have hu:=hr.units;exact(am (aV (bJ jj (bJ jj (bJ kS (ae 0) aq) (ae 1)) (ae 2))))
theorem sT:m_ ["_law_script","_law_k"] ["_law_script","_law_k"] (h_ kM):=FZ
def jS:E4:=(aI (FF (ao (g_ G2 (aa 1) (al bq (ac (aa 0) ai)))) (bK (g_ v_ (aa 0) (aa 1))) bC)
 (bK (dC (.int 0))))
def bL:List D->M D:=mF 2 jS
theorem tT{G:Cs}(T:Txt K mg G){f:Addr}{fd:FuncData}(F:Fz K "_law_cell" "_law_cell" kM f fd):FK P w K mg base (A_ P w) 1 f fd ["_law_script","_law_k"] bL:=by
 refine fE F sT fun EU A outer s H E hr=>?_
 have hu:=hr.units;exact(ar (bu (aD iT (ae 1) (bA cX rfl T.Ge PySem.boot_len (af (ae 0) ah)) (aK _)) (am (aV (aL FE (ae 0) (ae 1) (fun _ _=>rfl)))) aW)
   (am (aV aq)))
theorem Gw:m_ ["_law_script","_law_window","_law_most"] ["_law_script"] (h_ iu):=FZ
def gM:E4:=(aI (cn (g_ bN (dC (.int 1)) (al aF (ac (al bL (ac (aa 0) (ac (dC (.int 0)) ai))) (ac (dC (.int 9883)) (ac (dC (.int 7)) ai))))) (gN 1))
 (aI (cn (g_ bN (dC (.int 1)) (al aF (ac (al bL (ac (aa 0) (ac (dC (.int 1)) ai))) (ac (dC (.int 9871)) (ac (dC (.int 8)) ai))))) (gN 2))
 (bK (cj (ac (aa 1) (ac (aa 2) ai))))))
def eN:List D->M D:=mF 3 gM
theorem oO{G:Cs}(T:Txt K mg G)(GS:GZ P w K mg base (A_ P w) "_law_cell" 1 ["_law_script","_law_k"] bL)(E1:GZ P w K mg base (A_ P w) "_law_mix" 1 ["_law_cell_here","_law_prime","_law_many"] aF){f:Addr}{fd:FuncData}(F:Fz K "_law_setting" "_law_setting" iu f fd):FK P w K mg base (A_ P w) 2 f fd ["_law_script"] eN:=by
 refine fE F Gw fun EU A outer s H E hr=>?_
 have hu:=hr.units;exact(ar (bD (i:=1) Gw.nd (bJ cy aq (aN E1 (hr.mono (by decide)) rfl aJ (af (aN GS (hr.mono (by decide)) rfl aJ (af (ae 0) (af aq ah)) (ak (ak aH))) (af aq (af aq ah))) (ak (ak (ak aH))))))
   (ar (bD (i:=2) Gw.nd (bJ cy aq (aN E1 (hr.mono (by decide)) rfl aJ (af (aN GS (hr.mono (by decide)) rfl aJ (af (ae 0) (af aq ah)) (ak (ak aH))) (af aq (af aq ah))) (ak (ak (ak aH))))))
   (am (aV (b9 (af (ae 1) (af (ae 2) ah)))))))
theorem lX:m_ ["self","window","most"] ["self","window","most"] (h_ eS):=FZ
def dm(G:Cs):E4:=(aI (cI G.c_ [] "window" (aa 0) (aa 1))
 (aI (cI G.c_ ["window"] "most" (aa 0) (aa 2))
 (aI (cI G.c_ ["window","most"] "messages" (aa 0) (bT ai))
 (aI (cI G.c_ ["window","most","messages"] "sure" (aa 0) (dC (.int 0)))
 (aI (cI G.c_ ["window","most","messages","sure"] "opening" (aa 0) (dC (.int 0)))
 (aI (cI G.c_ ["window","most","messages","sure","opening"] "state" (aa 0) (dC (.str "shut")))
 (aI (cI G.c_ ["window","most","messages","sure","opening","state"] "pieces" (aa 0) (bT ai))
 (aI (cI G.c_ ["window","most","messages","sure","opening","state","pieces"] "base" (aa 0) (dC (.int 0)))
 (cI G.c_ ["window","most","messages","sure","opening","state","pieces","base"] "noted" (aa 0) kg)))))))))
def bW(G:Cs):List D->M D:=fun xs S=>fin S (dm G (xs.map some++List.replicate (3-xs.length) none) S)
theorem lI{G:Cs}(T:Txt K mg G){f:Addr}{fd:FuncData}(F:Fz K "__init__" "Sender.__init__" eS f fd):FK P w K mg base (A_ P w) 1 f fd ["self","window","most"] (bW G):=by
 refine pK F lX (fun _ _ _ _ _ _=>mB) (fun EU A outer s H E hr=>⟨dm G,?_,fun xs S0 hl=>mY⟩);have hu:=hr.units;exact(ar (cJ T.i_ T.Fi (by decide) (by decide +kernel) (ae 0) (ae 1))
   (ar (cJ T.i_ T.GI (by decide) (by decide +kernel) (ae 0) (ae 2))
   (ar (cJ T.i_ T.F_ (by decide) (by decide +kernel) (ae 0) (b8 ah))
   (ar (cJ T.i_ T.Gh (by decide) (by decide +kernel) (ae 0) aq)
   (ar (cJ T.i_ T.Ft (by decide) (by decide +kernel) (ae 0) aq)
   (ar (cJ T.i_ T.C_ (by decide) (by decide +kernel) (ae 0) aM)
   (ar (cJ T.i_ T.EL (by decide) (by decide +kernel) (ae 0) (b8 ah))
   (ar (cJ T.i_ T.ER (by decide) (by decide +kernel) (ae 0) aq)
   (am (cJ T.i_ T.FV (by decide) (by decide +kernel) (ae 0) o6))))))))))
theorem mf:m_ ["self","window"] ["self","window"] (h_ eO):=FZ
def di(G:Cs):E4:=(aI (cI G.f_ [] "window" (aa 0) (aa 1))
 (aI (cI G.f_ ["window"] "given" (aa 0) (bT ai))
 (aI (cI G.f_ ["window","given"] "opening" (aa 0) (dC (.int 0)))
 (aI (cI G.f_ ["window","given","opening"] "next_index" (aa 0) (dC (.int 0)))
 (aI (cI G.f_ ["window","given","opening","next_index"] "early" (aa 0) kg)
 (cI G.f_ ["window","given","opening","next_index","early"] "begun" (aa 0) (bT ai)))))))
def bQ(G:Cs):List D->M D:=fun xs S=>fin S (di G (xs.map some++List.replicate (2-xs.length) none) S)
theorem lW{G:Cs}(T:Txt K mg G){f:Addr}{fd:FuncData}(F:Fz K "__init__" "Hearer.__init__" eO f fd):FK P w K mg base (A_ P w) 1 f fd ["self","window"] (bQ G):=by
 refine pK F mf (fun _ _ _ _ _ _=>mB) (fun EU A outer s H E hr=>⟨di G,?_,fun xs S0 hl=>mY⟩);have hu:=hr.units;exact(ar (cJ T.n_ T.Fh (by decide) (by decide +kernel) (ae 0) (ae 1))
   (ar (cJ T.n_ T.Gv (by decide) (by decide +kernel) (ae 0) (b8 ah))
   (ar (cJ T.n_ T.EN (by decide) (by decide +kernel) (ae 0) aq)
   (ar (cJ T.n_ T.y_ (by decide) (by decide +kernel) (ae 0) aq)
   (ar (cJ T.n_ T.E_ (by decide) (by decide +kernel) (ae 0) o6)
   (am (cJ T.n_ T.FG (by decide) (by decide +kernel) (ae 0) (b8 ah))))))))
theorem nc:m_ ["self","window","most"] ["self","window","most"] (h_ fK):=FZ
def dL(G:Cs):E4:=(aI (cI G.World [] "sender" (aa 0) (al (ie G.c_ (bW G)) (ac (aa 1) (ac (aa 2) ai))))
 (aI (cI G.World ["sender"] "hearer" (aa 0) (al (ie G.f_ (bQ G)) (ac (aa 1) ai)))
 (cI G.World ["sender","hearer"] "roads" (aa 0) (pH (iK (dC (.str "there")) (bT ai) (iK (dC (.str "back")) (bT ai) sm))))))
def cD(G:Cs):List D->M D:=fun xs S=>fin S (dL G (xs.map some++List.replicate (3-xs.length) none) S)
theorem mQ{G:Cs}(T:Txt K mg G)(M0:LF P w K mg base (A_ P w) "Sender" G.c_ 1 ["self","window","most"] (bW G))(M3:LF P w K mg base (A_ P w) "Hearer" G.f_ 1 ["self","window"] (bQ G)){f:Addr}{fd:FuncData}(F:Fz K "__init__" "World.__init__" fK f fd):FK P w K mg base (A_ P w) 3 f fd ["self","window","most"] (cD G):=by
 refine pK F nc (fun _ _ _ _ _ _=>mB) (fun EU A outer s H E hr=>⟨dL G,?_,fun xs S0 hl=>mY⟩);have hu:=hr.units;exact(ar (cJ T.t_ T.Fb (by decide) (by decide +kernel) (ae 0) (tR M0 (hr.mono (by decide)) rfl aJ (af (ae 1) (af (ae 2) ah)) (eK (ak (ak aH)))))
   (ar (cJ T.t_ T.FW (by decide) (by decide +kernel) (ae 0) (tR M3 (hr.mono (by decide)) rfl aJ (af (ae 1) ah) (eK (ak aH))))
   (am (cJ T.t_ T.ES (by decide) (by decide +kernel) (ae 0) (AV (uG aM (b8 ah) (uG aM (b8 ah) BP)))))))
theorem FC:m_ ["_law_script","_law_falls","_law_found","_law_cell_here","_law_turn","_law_road"] ["_law_script","_law_falls"] (h_ kC):=FZ
def eZ:E4:=(aI (cn (al aF (ac (aa 3) (ac (dC (.int 9859)) (ac (dC (.int 20)) ai)))) (gN 4))
 (aI (cn (g_ v_ (bT (ac (dC (.str "there")) (ac (dC (.str "back")) ai))) (al aF (ac (aa 3) (ac (dC (.int 9857)) (ac (dC (.int 2)) ai))))) (gN 5))
 (FF (ao (g_ G2 (aa 4) (dC (.int 2)))) (bz (Ij j6 (aa 2) (ac (cj (ac (dC (.str "hand")) (ac (aa 3) ai))) ai))) (FF (ao (g_ G2 (aa 4) (dC (.int 6)))) (bz (Ij j6 (aa 2) (ac (cj (ac (dC (.str "tick")) ai)) ai))) (FF (ao (g_ G2 (aa 4) (dC (.int 14)))) (cn (g_ bN (aa 2) (g_ gX (bT (ac (cj (ac (dC (.str "step")) (ac (aa 5) ai))) ai)) (g_ bN (dC (.int 1)) (al aF (ac (aa 3) (ac (dC (.int 9851)) (ac (dC (.int 4)) ai))))))) (gN 2)) (FF (ao (g_ G2 (aa 4) (dC (.int 17)))) (bz (Ij j6 (aa 2) (ac (cj (ac (g_ v_ (bT (ac (dC (.str "lose")) (ac (dC (.str "double")) (ac (dC (.str "spoil")) ai)))) (g_ rq (aa 4) (dC (.int 14)))) (ac (aa 5) (ac (al aF (ac (aa 3) (ac (dC (.int 9839)) (ac (dC (.int 6)) ai)))) (ac (aa 3) ai))))) ai))) (FF (de (ao (g_ EX (aa 4) (dC (.int 17)))) (bO (aa 1))) (cn (g_ bN (aa 2) (bT (ac (cj (ac (dC (.str "fall")) (ac (g_ v_ (bT (ac (dC (.str "sender")) (ac (dC (.str "hearer")) ai))) (al aF (ac (aa 3) (ac (dC (.int 9833)) (ac (dC (.int 2)) ai))))) ai))) ai))) (gN 2)) (bz (Ij j6 (aa 2) (ac (cj (ac (dC (.str "open")) ai)) ai))))))))))
def j9:E4:=(aI (cn (bT (ac (cj (ac (dC (.str "open")) ai)) (ac (cj (ac (dC (.str "hand")) (ac (al bL (ac (aa 0) (ac (dC (.int 2)) ai))) ai))) ai))) (gN 2))
 (aI (pU (Ip (Hb GD (aa 0) (bF (dC (.int 3))) (bF (dC (.int 63))))) (gN 3) eZ)
 (bK (aa 2))))
def gr:List D->M D:=mF 6 j9
theorem tD{G:Cs}(T:Txt K mg G)(GS:GZ P w K mg base (A_ P w) "_law_cell" 1 ["_law_script","_law_k"] bL)(E1:GZ P w K mg base (A_ P w) "_law_mix" 1 ["_law_cell_here","_law_prime","_law_many"] aF){f:Addr}{fd:FuncData}(F:Fz K "_law_acts" "_law_acts" kC f fd):FK P w K mg base (A_ P w) 2 f fd ["_law_script","_law_falls"] gr:=by
 refine fE F FC fun EU A outer s H E hr=>?_
 have hu:=hr.units;exact(ar (bD (i:=2) FC.nd (b8 (af (b9 (af aM ah)) (af (b9 (af aM (af (aN GS (hr.mono (by decide)) rfl aJ (af (ae 0) (af aq ah)) (ak (ak aH))) ah))) ah))))
   (ar (lZ rfl (fV (el Nu (ae 0) (du aq) (du aq))) (cr (i:=3) FC.nd) (ar (bD (i:=4) FC.nd (aN E1 (hr.mono (by decide)) rfl aJ (af (ae 3) (af aq (af aq ah))) (ak (ak (ak aH)))))
   (ar (bD (i:=5) FC.nd (aL FE (b8 (af aM (af aM ah))) (aN E1 (hr.mono (by decide)) rfl aJ (af (ae 3) (af aq (af aq ah))) (ak (ak (ak aH)))) (fun _ _=>rfl)))
   (am (bu (aD iT (ae 4) aq (aK _)) (am (aX (ei PySem.F.slot_list_append PySem.F.type_list_append dD (ae 2) (af (b9 (af aM (af (ae 3) ah))) ah)))) (am (bu (aD iT (ae 4) aq (aK _)) (am (aX (ei PySem.F.slot_list_append PySem.F.type_list_append dD (ae 2) (af (b9 (af aM ah)) ah)))) (am (bu (aD iT (ae 4) aq (aK _)) (am (bD (i:=2) FC.nd (bJ cy (ae 2) (bJ kS (b8 (af (b9 (af aM (af (ae 5) ah))) ah)) (bJ cy aq (aN E1 (hr.mono (by decide)) rfl aJ (af (ae 3) (af aq (af aq ah))) (ak (ak (ak aH))))))))) (am (bu (aD iT (ae 4) aq (aK _)) (am (aX (ei PySem.F.slot_list_append PySem.F.type_list_append dD (ae 2) (af (b9 (af (aL FE (b8 (af aM (af aM (af aM ah)))) (bJ wy (ae 4) aq) (fun _ _=>rfl)) (af (ae 5) (af (aN E1 (hr.mono (by decide)) rfl aJ (af (ae 3) (af aq (af aq ah))) (ak (ak (ak aH)))) (af (ae 3) ah))))) ah)))) (am (bu (IF.pt (dX (aD (cg hu) (ae 4) aq (aK _)) (dr (cR (ae 1))))) (am (bD (i:=2) FC.nd (bJ cy (ae 2) (b8 (af (b9 (af aM (af (aL FE (b8 (af aM (af aM ah))) (aN E1 (hr.mono (by decide)) rfl aJ (af (ae 3) (af aq (af aq ah))) (ak (ak (ak aH)))) (fun _ _=>rfl)) ah))) ah))))) (am (aX (ei PySem.F.slot_list_append PySem.F.type_list_append dD (ae 2) (af (b9 (af aM ah)) ah)))))))))))))))))
   (am (aV (ae 2)))))
theorem Gi:m_ ["message","most","size","pieces","rest"] ["message","most"] (h_ ku):=FZ
def jO(fuel:Nat):E4:=(aI (cn (al Cf (ac (aa 1) (ac (dC (.int 1)) ai))) (gN 2))
 (aI (cn (bT ai) (gN 3))
 (aI (cn (aa 0) (gN 4))
 (aI (fO (ao (g_ MR (al bq (ac (aa 4) ai)) (aa 2))) (aI (bz (Ij j6 (aa 3) (ac (cj (ac (dC (.int 0)) (ac (Hb GD (aa 4) bE (bF (aa 2))) ai))) ai)))
 (cn (Hb GD (aa 4) (bF (aa 2)) bE) (gN 4))) fuel)
 (aI (bz (Ij j6 (aa 3) (ac (cj (ac (dC (.int 1)) (ac (aa 4) ai))) ai)))
 (bK (al gx (ac (aa 3) ai))))))))
def dg:List D->M D:=fun xs S=>cG S (jO 100 (xs.map some++List.replicate (5-xs.length) none) S)
theorem tj{G:Cs}(T:Txt K mg G){f:Addr}{fd:FuncData}(F:Fz K "pieces_of" "pieces_of" ku f fd):FK P w K mg base (A_ P w) 1 f fd ["message","most"] dg:=by
 refine fG F Gi fun EU A outer s H E hr=>?_
 have hu:=hr.units;have Ts:(100:Nat)=100:=rfl
 generalize Yw:(100:Nat)=fuel at Ts
 exact(ar (bD (i:=2) Gi.nd (bA (CP rfl) rfl T.QQ boot_max (af (ae 1) (af aq ah))))
   (ar (bD (i:=3) Gi.nd (b8 ah))
   (ar (bD (i:=4) Gi.nd (ae 0))
   (ar (vc fuel (aD xk (bA cX rfl T.Ge PySem.boot_len (af (ae 4) ah)) (ae 2) (aK _)) (ar (aX (ei PySem.F.slot_list_append PySem.F.type_list_append dD (ae 3) (af (b9 (af aq (af (el Nu (ae 4) gm (du (ae 2))) ah))) ah)))
   (am (bD (i:=4) Gi.nd (el Nu (ae 4) (du (ae 2)) gm)))))
   (ar (aX (ei PySem.F.slot_list_append PySem.F.type_list_append dD (ae 3) (af (b9 (af aq (af (ae 4) ah))) ah)))
   (am (aV (fL jL rfl T.GF boot_tuple (af (ae 3) ah)))))))))
theorem qD:m_ ["self","message"] ["self","message"] (h_ jv):=FZ
def ip(G:Cs):E4:=(aI (bz (Ij j6 (aB G.c_ a_ 2 (aa 0)) (ac (aa 1) ai)))
 (FF (ao (g_ Hm (aB G.c_ a_ 5 (aa 0)) (dC (.str "shut")))) (bz (Ij qL (aB G.c_ a_ 6 (aa 0)) (ac (al dg (ac (aa 1) (ac (aB G.c_ a_ 1 (aa 0)) ai))) ai))) bC))
def gg(G:Cs):List D->M D:=mF 2 (ip G)
theorem pf{G:Cs}(T:Txt K mg G)(Ho:GZ P w K mg base (A_ P w) "pieces_of" 1 ["message","most"] dg){f:Addr}{fd:FuncData}(F:Fz K "hand" "Sender.hand" jv f fd):FK P w K mg base (A_ P w) 2 f fd ["self","message"] (gg G):=by
 refine fE F qD fun EU A outer s H E hr=>?_
 have hu:=hr.units;exact(ar (aX (ei PySem.F.slot_list_append PySem.F.type_list_append dD (aG T.i_ T.F_ aE (ae 0)) (af (ae 1) ah)))
   (am (bu (aD (ut hu) (aG T.i_ T.C_ aE (ae 0)) aM (aK _)) (am (aX (ei PySem.F.slot_list_extend PySem.F.type_list_extend nC (aG T.i_ T.EL aE (ae 0)) (af (aN Ho (hr.mono (by decide)) rfl aJ (af (ae 1) (af (aG T.i_ T.GI aE (ae 0)) ah)) (ak (ak aH))) ah)))) aW)))
theorem qH:m_ ["self","message"] ["self","message"] (h_ j5):=FZ
def jp(G:Cs):E4:=(bz (bh G.c_ a_ (gg G) (aB G.World o_ 0 (aa 0)) (ac (aa 1) ai)))
def hV(G:Cs):List D->M D:=mF 2 (jp G)
theorem rm{G:Cs}(T:Txt K mg G)(JD:Fu P w K mg base (A_ P w) G.c_ "hand" 2 ["self","message"] (gg G)){f:Addr}{fd:FuncData}(F:Fz K "hand" "World.hand" j5 f fd):FK P w K mg base (A_ P w) 3 f fd ["self","message"] (hV G):=by
 refine fE F qH fun EU A outer s H E hr=>?_
 have hu:=hr.units;exact(am (aX (bG JD (hr.mono (by decide)) T.i_ (by decide +kernel) aJ (aG T.t_ T.Fb ca (ae 0)) (af (ae 1) ah) (eK (ak aH)))))
theorem Hh:m_ ["_law_cell_here","_law_longest","_law_many"] ["_law_cell_here","_law_longest"] (h_ iC):=FZ
def gC:E4:=(aI (cn (al aF (ac (aa 0) (ac (dC (.int 9973)) (ac (g_ bN (aa 1) (dC (.int 1))) ai)))) (gN 2))
 (bK (al gx (ac (ii (sC (aa 2)) (gN 0) lx (al aF (ac (g_ bN (aa 1) (g_ gX (dC (.int 31)) (aa 0))) (ac (dC (.int 9967)) (ac (dC (.int 256)) ai)))) 1 [0]) ai))))
def cH:List D->M D:=mP 3 gC
theorem oM{G:Cs}(T:Txt K mg G)(E1:GZ P w K mg base (A_ P w) "_law_mix" 1 ["_law_cell_here","_law_prime","_law_many"] aF){f:Addr}{fd:FuncData}(F:Fz K "_law_message" "_law_message" iC f fd):FK P w K mg base (A_ P w) 2 f fd ["_law_cell_here","_law_longest"] cH:=by
 refine fG F Hh fun EU A outer s H E hr=>?_
 have hu:=hr.units;exact(ar (bD (i:=2) Hh.nd (aN E1 (hr.mono (by decide)) rfl aJ (af (ae 0) (af aq (af (bJ cy (ae 1) aq) ah))) (ak (ak (ak aH)))))
   (am (aV (fL jL rfl T.GF boot_tuple (af (iW (own:=["_law_k"]) (capN:=["_law_cell_here"]) (caps:=[0]) ⟨rfl,II.all ⟨rfl,trivial⟩,rfl,by decide +kernel,rfl,by decide +kernel,⟨⟨rfl,Or.inl rfl,Or.inl rfl,rfl⟩,trivial⟩,by decide +kernel⟩ rfl (pR rfl T.Ks (ae 2)) (jQ (by decide)) (fun C s2 H2 fp=>⟨(cr (i:=0) (show(["_law_k","_law_cell_here"]:List Str).Nodup from by decide +kernel)),nA,(aN E1 (hr.mono (by decide)) rfl aJ (af (bJ cy (ae 1) (bJ kS aq (ae 0))) (af aq (af aq ah))) (ak (ak (ak aH))))⟩)) ah)))))
theorem GJ:m_ ["cells","summed","weighed"] ["cells"] (h_ jx):=FZ
def iA:E4:=(aI (cn (g_ bN (aa 0) (cj (ac (g_ kj (al nY (ac (aa 0) ai)) (dC (.int 256))) ai))) (gN 1))
 (aI (cn (al nY (ac (ii (sV 1 (aa 1)) (gT [0,1]) lx (g_ gX (aa 0) (aa 1)) 2 []) ai)) (gN 2))
 (bK (g_ bN (aa 1) (cj (ac (g_ kj (aa 2) (dC (.int 256))) ai))))))
def cA:List D->M D:=mP 3 iA
theorem qw{G:Cs}(T:Txt K mg G){f:Addr}{fd:FuncData}(F:Fz K "with_checks" "with_checks" jx f fd):FK P w K mg base (A_ P w) 1 f fd ["cells"] cA:=by
 refine fG F GJ fun EU A outer s H E hr=>?_
 have hu:=hr.units;exact(ar (bD (i:=1) GJ.nd (bJ cy (ae 0) (b9 (af (bJ jj (bA (wj rfl) rfl T.MY boot_sum (af (ae 0) ah)) aq) ah))))
   (ar (bD (i:=2) GJ.nd (bA (wj rfl) rfl T.MY boot_sum (af (iW (own:=["place","cell"]) (capN:=[]) (caps:=[]) ⟨rfl,II.all trivial,rfl,by decide +kernel,rfl,by decide +kernel,trivial,by decide +kernel⟩ rfl (xJ rfl T.IC (ae 1)) (AQ (by decide)) (fun C s2 H2 fp=>⟨(sK rfl (gj (cr (i:=0) (show(["place","cell"]:List Str).Nodup from by decide +kernel)) (gj (cr (i:=1) (show(["place","cell"]:List Str).Nodup from by decide +kernel)) pa))),nA,(bJ kS (ae 0) (ae 1))⟩)) ah)))
   (am (aV (bJ cy (ae 1) (b9 (af (bJ jj (ae 2) aq) ah)))))))
theorem vq:m_ ["thing","top"] ["thing","top"] (h_ lO):=FZ
def kE:E4:=(bK (jK (Kf "int" (aa 0)) (jK (xb (Kf "bool" (aa 0))) (nO L6 L6 (dC (.int 0)) (aa 0) (aa 1)))))
def aO:List D->M D:=mF 2 kE
theorem uR{G:Cs}(T:Txt K mg G){f:Addr}{fd:FuncData}(F:Fz K "is_whole" "is_whole" lO f fd):FK P w K mg base (A_ P w) 1 f fd ["thing","top"] aO:=by
 refine fE F vq fun EU A outer s H E hr=>?_
 have hu:=hr.units;exact(am (aV (kP (fA (ae 0) rfl T.FA rfl T.OO boot_int (xl _)) (kP (zG (fA (ae 0) rfl T.FA rfl T.MX boot_bool (uN _))) (nW (qB qd qd aq (ae 0) (ae 1)))))))
theorem xZ:m_ ["thing","top"] ["thing","top"] (h_ qE):=FZ
def nF:E4:=(bK (jK (Kf "tuple" (aa 0)) (al zQ (ac (ii (Ip (aa 0)) (gN 0) lx (al aO (ac (aa 0) (ac (aa 1) ai))) 1 [1]) ai))))
def bX:List D->M D:=mP 2 nF
theorem xI{G:Cs}(T:Txt K mg G)(Gq:GZ P w K mg base (A_ P w) "is_whole" 1 ["thing","top"] aO){f:Addr}{fd:FuncData}(F:Fz K "is_row" "is_row" qE f fd):FK P w K mg base (A_ P w) 2 f fd ["thing","top"] bX:=by
 refine fG F xZ fun EU A outer s H E hr=>?_
 have hu:=hr.units;exact(am (aV (kP (fA (ae 0) rfl T.FA rfl T.GF boot_tuple (n4 _)) (nW (bA (CI rfl) rfl T.QP boot_all (af (iW (own:=["part"]) (capN:=["top"]) (caps:=[1]) ⟨rfl,II.all ⟨rfl,trivial⟩,rfl,by decide +kernel,rfl,by decide +kernel,⟨⟨rfl,Or.inl rfl,Or.inl rfl,rfl⟩,trivial⟩,by decide +kernel⟩ rfl (fV (ae 0)) (jQ (by decide)) (fun C s2 H2 fp=>⟨(cr (i:=0) (show(["part","top"]:List Str).Nodup from by decide +kernel)),nA,(aN Gq (hr.mono (by decide)) rfl aJ (af (ae 0) (af (ae 1) ah)) (ak (ak aH)))⟩)) ah))))))
theorem uz:m_ ["thing"] ["thing"] (h_ lV):=FZ
def gl:E4:=(aI (FF (G7 (cV (bO (Kf "tuple" (aa 0)))) (ao (g_ Hm (al bq (ac (aa 0) ai)) (dC (.int 2))))) (bK (dC (.bl false))) bC)
 (bK (jK (al aO (ac (g_ v_ (aa 0) (dC (.int 0))) (ac (dC (.int 1)) ai))) (jK (al bX (ac (g_ v_ (aa 0) (dC (.int 1))) (ac (dC Fj) ai))) (g_ L6 (al bq (ac (g_ v_ (aa 0) (dC (.int 1))) ai)) (dC Fs))))))
def iH:List D->M D:=mP 1 gl
theorem tX{G:Cs}(T:Txt K mg G)(Gq:GZ P w K mg base (A_ P w) "is_whole" 1 ["thing","top"] aO)(Hq:GZ P w K mg base (A_ P w) "is_row" 2 ["thing","top"] bX){f:Addr}{fd:FuncData}(F:Fz K "is_piece" "is_piece" lV f fd):FK P w K mg base (A_ P w) 3 f fd ["thing"] iH:=by
 refine fG F uz fun EU A outer s H E hr=>?_
 have hu:=hr.units;exact(ar (bu (IF.pt (kI (fY (cR (fA (ae 0) rfl T.FA rfl T.GF boot_tuple (n4 _)))) (mV (aD (ut hu) (bA cX rfl T.Ge PySem.boot_len (af (ae 0) ah)) aq (aK _))))) (am (aV lG)) aW)
   (am (aV (kP (aN Gq (hr.mono (by decide)) rfl aJ (af (aL FE (ae 0) aq (fun _ _=>rfl)) (af aq ah)) (ak (ak aH))) (kP (aN Hq (hr.mono (by decide)) rfl aJ (af (aL FE (ae 0) aq (fun _ _=>rfl)) (af (cW rfl T.Jd) ah)) (ak (ak aH))) (nW (pc qd (bA cX rfl T.Ge PySem.boot_len (af (aL FE (ae 0) aq (fun _ _=>rfl)) ah)) (cW rfl T.Hn) (aK _))))))))
theorem uj:m_ ["thing"] ["thing"] (h_ md):=FZ
def gi:E4:=(bK (jK (al bX (ac (aa 0) (ac (dC (.int 1)) ai))) (g_ L6 (al bq (ac (aa 0) ai)) (dC GR))))
def iz:List D->M D:=mP 1 gi
theorem uk{G:Cs}(T:Txt K mg G)(Hq:GZ P w K mg base (A_ P w) "is_row" 2 ["thing","top"] bX){f:Addr}{fd:FuncData}(F:Fz K "are_bits" "are_bits" md f fd):FK P w K mg base (A_ P w) 3 f fd ["thing"] iz:=by
 refine fG F uj fun EU A outer s H E hr=>?_
 have hu:=hr.units;exact(am (aV (kP (aN Hq (hr.mono (by decide)) rfl aJ (af (ae 0) (af aq ah)) (ak (ak aH))) (nW (pc qd (bA cX rfl T.Ge PySem.boot_len (af (ae 0) ah)) (cW rfl T.La) (aK _))))))
theorem wD:m_ ["thing"] ["thing"] (h_ nU):=FZ
def eJ:E4:=(aI (FF (G7 (cV (bO (Kf "tuple" (aa 0)))) (G7 (ao (g_ G2 (al bq (ac (aa 0) ai)) (dC (.int 2)))) (cV (bO (al aO (ac (g_ v_ (aa 0) (dC (.int 1))) (ac (dC Ff) ai))))))) (bK (dC (.bl false))) bC)
 (aI (FF (ao (g_ inD (g_ v_ (aa 0) (dC (.int 0))) (dC eu))) (bK (g_ EX (al bq (ac (aa 0) ai)) (dC (.int 2)))) bC)
 (aI (FF (G7 (ao (g_ Hm (al bq (ac (aa 0) ai)) (dC (.int 4)))) (cV (bO (al aO (ac (g_ v_ (aa 0) (dC (.int 2))) (ac (dC EY) ai)))))) (bK (dC (.bl false))) bC)
 (aI (FF (ao (g_ EX (g_ v_ (aa 0) (dC (.int 0))) (dC (.str "data")))) (bK (al iH (ac (g_ v_ (aa 0) (dC (.int 3))) ai))) bC)
 (bK (jK (g_ EX (g_ v_ (aa 0) (dC (.int 0))) (dC (.str "note"))) (al iz (ac (g_ v_ (aa 0) (dC (.int 3))) ai))))))))
def cP:List D->M D:=mP 1 eJ
theorem vT{G:Cs}(T:Txt K mg G)(Gq:GZ P w K mg base (A_ P w) "is_whole" 1 ["thing","top"] aO)(LI:GZ P w K mg base (A_ P w) "is_piece" 3 ["thing"] iH)(LJ:GZ P w K mg base (A_ P w) "are_bits" 3 ["thing"] iz){f:Addr}{fd:FuncData}(F:Fz K "is_card" "is_card" nU f fd):FK P w K mg base (A_ P w) 4 f fd ["thing"] cP:=by
 refine fG F wD fun EU A outer s H E hr=>?_
 have hu:=hr.units;exact(ar (bu (IF.pt (kI (fY (cR (fA (ae 0) rfl T.FA rfl T.GF boot_tuple (n4 _)))) (kI (aD iT (bA cX rfl T.Ge PySem.boot_len (af (ae 0) ah)) aq (aK _)) (mV (fY (cR (aN Gq (hr.mono (by decide)) rfl aJ (af (aL FE (ae 0) aq (fun _ _=>rfl)) (af (cW rfl T.JC) ah)) (ak (ak aH))))))))) (am (aV lG)) aW)
   (ar (bu (aD (Dl hu) (aL FE (ae 0) aq (fun _ _=>rfl)) (cW rfl T.JB.glob) (by with_unfolding_all rfl)) (am (aV (pc (cg hu) (bA cX rfl T.Ge PySem.boot_len (af (ae 0) ah)) aq (aK _)))) aW)
   (ar (bu (IF.pt (kI (aD (ut hu) (bA cX rfl T.Ge PySem.boot_len (af (ae 0) ah)) aq (aK _)) (mV (fY (cR (aN Gq (hr.mono (by decide)) rfl aJ (af (aL FE (ae 0) aq (fun _ _=>rfl)) (af (cW rfl T.Ku) ah)) (ak (ak aH)))))))) (am (aV lG)) aW)
   (ar (bu (aD (cg hu) (aL FE (ae 0) aq (fun _ _=>rfl)) aM (aK _)) (am (aV (aN LI (hr.mono (by decide)) rfl aJ (af (aL FE (ae 0) aq (fun _ _=>rfl)) ah) (ak aH)))) aW)
   (am (aV (kP (pc (cg hu) (aL FE (ae 0) aq (fun _ _=>rfl)) aM (aK _)) (nW (aN LJ (hr.mono (by decide)) rfl aJ (af (aL FE (ae 0) aq (fun _ _=>rfl)) ah) (ak aH))))))))))
theorem ID:m_ ["card","head"] ["card"] (h_ ma):=FZ
def kq:E4:=(aI (cn (cj (ac (mw dW (ac (g_ v_ (aa 0) (dC (.int 0))) ai)) (ac (g_ zB (g_ v_ (aa 0) (dC (.int 1))) (dC (.int 256))) (ac (g_ kj (g_ v_ (aa 0) (dC (.int 1))) (dC (.int 256))) ai)))) (gN 1))
 (aI (FF (ao (g_ EX (g_ v_ (aa 0) (dC (.int 0))) (dC (.str "data")))) (bK (g_ bN (g_ bN (aa 1) (cj (ac (g_ v_ (aa 0) (dC (.int 2))) (ac (g_ v_ (g_ v_ (aa 0) (dC (.int 3))) (dC (.int 0))) ai)))) (g_ v_ (g_ v_ (aa 0) (dC (.int 3))) (dC (.int 1))))) bC)
 (aI (FF (ao (g_ EX (g_ v_ (aa 0) (dC (.int 0))) (dC (.str "note")))) (bK (g_ bN (g_ bN (aa 1) (cj (ac (g_ v_ (aa 0) (dC (.int 2))) ai))) (g_ v_ (aa 0) (dC (.int 3))))) bC)
 (bK (aa 1)))))
def ka:List D->M D:=mP 2 kq
theorem uS{G:Cs}(T:Txt K mg G){f:Addr}{fd:FuncData}(F:Fz K "cells_of" "cells_of" ma f fd):FK P w K mg base (A_ P w) 1 f fd ["card"] ka:=by
 refine fG F ID fun EU A outer s H E hr=>?_
 have hu:=hr.units;exact(ar (bD (i:=1) ID.nd (b9 (af (wq rfl T.Kt (af (aL FE (ae 0) aq (fun _ _=>rfl)) ah)) (af (bJ A8 (aL FE (ae 0) aq (fun _ _=>rfl)) aq) (af (bJ jj (aL FE (ae 0) aq (fun _ _=>rfl)) aq) ah)))))
   (ar (bu (aD (cg hu) (aL FE (ae 0) aq (fun _ _=>rfl)) aM (aK _)) (am (aV (bJ cy (bJ cy (ae 1) (b9 (af (aL FE (ae 0) aq (fun _ _=>rfl)) (af (aL FE (aL FE (ae 0) aq (fun _ _=>rfl)) aq (fun _ _=>rfl)) ah)))) (aL FE (aL FE (ae 0) aq (fun _ _=>rfl)) aq (fun _ _=>rfl))))) aW)
   (ar (bu (aD (cg hu) (aL FE (ae 0) aq (fun _ _=>rfl)) aM (aK _)) (am (aV (bJ cy (bJ cy (ae 1) (b9 (af (aL FE (ae 0) aq (fun _ _=>rfl)) ah))) (aL FE (ae 0) aq (fun _ _=>rfl))))) aW)
   (am (aV (ae 1))))))
theorem wc:m_ ["card"] ["card"] (h_ nM):=FZ
def me(G:Cs):E4:=(aI (FF (cV (bO (al cP (ac (aa 0) ai)))) (nu G.MW (dC (.str "this is no card"))) bC)
 (bK (al cA (ac (al ka (ac (aa 0) ai)) ai))))
def jM(G:Cs):List D->M D:=mP 1 (me G)
theorem vw{G:Cs}(T:Txt K mg G)(Iu:GZ P w K mg base (A_ P w) "is_card" 4 ["thing"] cP)(LK:GZ P w K mg base (A_ P w) "cells_of" 1 ["card"] ka)(GU:GZ P w K mg base (A_ P w) "with_checks" 1 ["cells"] cA){f:Addr}{fd:FuncData}(F:Fz K "written" "written" nM f fd):FK P w K mg base (A_ P w) 5 f fd ["card"] (jM G):=by
 refine fG F wc fun EU A outer s H E hr=>?_
 have hu:=hr.units;exact(ar (bu (fY (cR (aN Iu (hr.mono (by decide)) rfl aJ (af (ae 0) ah) (ak aH)))) (am (mL T.MZ rfl rfl aM)) aW)
   (am (aV (aN GU (hr.mono (by decide)) rfl aJ (af (aN LK (hr.mono (by decide)) rfl aJ (af (ae 0) ah) (ak aH)) ah) (ak aH)))))
theorem GA:m_ ["self","road","cards","card"] ["self","road","cards"] (h_ eF):=FZ
def dI(G:Cs):E4:=(bz (Ij j6 (g_ ik (aB G.World o_ 2 (aa 0)) (aa 1)) (ac (cj (ac (al (jM G) (ac (aa 3) ai)) (ac (dC (.bl false)) ai))) ai)))
def d5(G:Cs):E4:=(pU (Ip (aa 2)) (gN 3) (dI G))
def bS(G:Cs):List D->M D:=mF 4 (d5 G)
theorem lv{G:Cs}(T:Txt K mg G)(Mo:GZ P w K mg base (A_ P w) "written" 5 ["card"] (jM G)){f:Addr}{fd:FuncData}(F:Fz K "put_behind" "World.put_behind" eF f fd):FK P w K mg base (A_ P w) 6 f fd ["self","road","cards"] (bS G):=by
 refine fE F GA fun EU A outer s H E hr=>?_
 have hu:=hr.units;exact(am (lZ rfl (fV (ae 2)) (cr (i:=3) GA.nd) (am (aX (ei PySem.F.slot_list_append PySem.F.type_list_append dD (aL (tG hu) (aG T.t_ T.ES ca (ae 0)) (ae 1) (fun _ _=>rfl)) (af (b9 (af (aN Mo (hr.mono (by decide)) rfl aJ (af (ae 3) ah) (ak aH)) (af lG ah))) ah))))))
theorem sW:m_ ["index","window"] ["index","window"] (h_ kJ):=FZ
def mI:E4:=(bK (g_ kj (aa 0) (g_ gX (dC (.int 2)) (aa 1))))
def dP:List D->M D:=mF 2 mI
theorem tU{G:Cs}(T:Txt K mg G){f:Addr}{fd:FuncData}(F:Fz K "number_of" "number_of" kJ f fd):FK P w K mg base (A_ P w) 1 f fd ["index","window"] dP:=by
 refine fE F sW fun EU A outer s H E hr=>?_
 have hu:=hr.units;exact(am (aV (bJ jj (ae 0) (bJ kS aq (ae 1)))))
theorem mr:m_ ["self","index"] ["self","index"] (h_ fM):=FZ
def eV(G:Cs):E4:=(bK (cj (ac (dC (.str "data")) (ac (aB G.c_ a_ 4 (aa 0)) (ac (al dP (ac (aa 1) (ac (aB G.c_ a_ 0 (aa 0)) ai))) (ac (g_ v_ (aB G.c_ a_ 6 (aa 0)) (aa 1)) ai))))))
def df(G:Cs):List D->M D:=mF 2 (eV G)
theorem mW{G:Cs}(T:Txt K mg G)(Hs:GZ P w K mg base (A_ P w) "number_of" 1 ["index","window"] dP){f:Addr}{fd:FuncData}(F:Fz K "data_of" "Sender.data_of" fM f fd):FK P w K mg base (A_ P w) 2 f fd ["self","index"] (df G):=by
 refine fE F mr fun EU A outer s H E hr=>?_
 have hu:=hr.units;exact(am (aV (b9 (af aM (af (aG T.i_ T.Ft aE (ae 0)) (af (aN Hs (hr.mono (by decide)) rfl aJ (af (ae 1) (af (aG T.i_ T.Fi aE (ae 0)) ah)) (ak (ak aH))) (af (aL FE (aG T.i_ T.EL aE (ae 0)) (ae 1) (fun _ _=>rfl)) ah)))))))
theorem G5:m_ ["self","end"] ["self"] (h_ gJ):=FZ
def fB(G:Cs):E4:=(aI (cn (al xL (ac (g_ bN (aB G.c_ a_ 7 (aa 0)) (aB G.c_ a_ 0 (aa 0))) (ac (al bq (ac (aB G.c_ a_ 6 (aa 0)) ai)) ai))) (gN 1))
 (bK (ii (wK (aB G.c_ a_ 7 (aa 0)) (aa 1)) (gN 0) (ao (g_ fm (aa 0) (aB G.c_ a_ 8 (aa 1)))) (aa 0) 1 [0])))
def dw(G:Cs):List D->M D:=mF 2 (fB G)
theorem nD{G:Cs}(T:Txt K mg G){f:Addr}{fd:FuncData}(F:Fz K "wanted" "Sender.wanted" gJ f fd):FK P w K mg base (A_ P w) 1 f fd ["self"] (dw G):=by
 refine fE F G5 fun EU A outer s H E hr=>?_
 have hu:=hr.units;exact(ar (bD (i:=1) G5.nd (bA (zE rfl) rfl T.OP boot_min (af (bJ cy (aG T.i_ T.ER aE (ae 0)) (aG T.i_ T.Fi aE (ae 0))) (af (bA cX rfl T.Ge PySem.boot_len (af (aG T.i_ T.EL aE (ae 0)) ah)) ah))))
   (am (aV (iW (own:=["index"]) (capN:=["self"]) (caps:=[0]) ⟨rfl,II.all ⟨rfl,trivial⟩,rfl,by decide +kernel,rfl,by decide +kernel,⟨⟨rfl,Or.inl rfl,Or.inl rfl,rfl⟩,trivial⟩,by decide +kernel⟩ rfl (vX rfl T.Ks (aG T.i_ T.ER aE (ae 0)) (ae 1)) (jQ (by decide)) (fun C s2 H2 fp=>⟨(cr (i:=0) (show(["index","self"]:List Str).Nodup from by decide +kernel)),(yL (aD (sD hu) (ae 0) (aG T.i_ T.FV aE (ae 1)) (by with_unfolding_all rfl))),(ae 0)⟩)))))
theorem ph:m_ ["self"] ["self"] (h_ jk):=FZ
def il(G:Cs):E4:=(aI (FF (ao (g_ EX (aB G.c_ a_ 5 (aa 0)) (dC (.str "opening")))) (bK (bT (ac (cj (ac (dC (.str "hello")) (ac (aB G.c_ a_ 4 (aa 0)) ai))) ai))) bC)
 (aI (FF (ao (g_ EX (aB G.c_ a_ 5 (aa 0)) (dC (.str "open")))) (bK (ii (Ip (bh G.c_ a_ (dw G) (aa 0) ai)) (gN 0) lx (bh G.c_ a_ (df G) (aa 1) (ac (aa 0) ai)) 1 [0])) bC)
 (bK (bT ai))))
def fW(G:Cs):List D->M D:=mF 1 (il G)
theorem pE{G:Cs}(T:Txt K mg G)(IK:Fu P w K mg base (A_ P w) G.c_ "wanted" 1 ["self"] (dw G))(Iw:Fu P w K mg base (A_ P w) G.c_ "data_of" 2 ["self","index"] (df G)){f:Addr}{fd:FuncData}(F:Fz K "tick" "Sender.tick" jk f fd):FK P w K mg base (A_ P w) 3 f fd ["self"] (fW G):=by
 refine fE F ph fun EU A outer s H E hr=>?_
 have hu:=hr.units;exact(ar (bu (aD (cg hu) (aG T.i_ T.C_ aE (ae 0)) aM (aK _)) (am (aV (b8 (af (b9 (af aM (af (aG T.i_ T.Ft aE (ae 0)) ah))) ah)))) aW)
   (ar (bu (aD (cg hu) (aG T.i_ T.C_ aE (ae 0)) aM (aK _)) (am (aV (iW (own:=["index"]) (capN:=["self"]) (caps:=[0]) ⟨rfl,II.all ⟨rfl,trivial⟩,rfl,by decide +kernel,rfl,by decide +kernel,⟨⟨rfl,Or.inl rfl,Or.inl rfl,rfl⟩,trivial⟩,by decide +kernel⟩ rfl (fV (db IK (hr.mono (by decide)) T.i_ (by decide +kernel) aJ (ae 0))) (jQ (by decide)) (fun C s2 H2 fp=>⟨(cr (i:=0) (show(["index","self"]:List Str).Nodup from by decide +kernel)),nA,(bG Iw (hr.mono (by decide)) T.i_ (by decide +kernel) aJ (ae 1) (af (ae 0) ah) (eK (ak aH)))⟩)))) aW)
   (am (aV (b8 ah)))))
theorem qY:m_ ["self"] ["self"] (h_ j3):=FZ
def jn(G:Cs):E4:=(bz (bh G.World o_ (bS G) (aa 0) (ac (dC (.str "there")) (ac (bh G.c_ a_ (fW G) (aB G.World o_ 0 (aa 0)) ai) ai))))
def gR(G:Cs):List D->M D:=mF 1 (jn G)
theorem rj{G:Cs}(T:Txt K mg G)(JE:Fu P w K mg base (A_ P w) G.c_ "tick" 3 ["self"] (fW G))(FD:Fu P w K mg base (A_ P w) G.World "put_behind" 6 ["self","road","cards"] (bS G)){f:Addr}{fd:FuncData}(F:Fz K "tick" "World.tick" j3 f fd):FK P w K mg base (A_ P w) 7 f fd ["self"] (gR G):=by
 refine fE F qY fun EU A outer s H E hr=>?_
 have hu:=hr.units;exact(am (aX (bG FD (hr.mono (by decide)) T.t_ (by decide +kernel) aJ (ae 0) (af aM (af (db JE (hr.mono (by decide)) T.i_ (by decide +kernel) aJ (aG T.t_ T.Fb ca (ae 0))) ah)) (eK (ak (ak aH))))))
theorem mj:m_ ["self","road","k"] ["self","road","k"] (h_ eW):=FZ
def eM(G:Cs):E4:=(bK (nO L6 G2 (dC (.int 0)) (aa 2) (al bq (ac (g_ ik (aB G.World o_ 2 (aa 0)) (aa 1)) ai))))
def aQ(G:Cs):List D->M D:=mF 3 (eM G)
theorem mn{G:Cs}(T:Txt K mg G){f:Addr}{fd:FuncData}(F:Fz K "has_strip" "World.has_strip" eW f fd):FK P w K mg base (A_ P w) 1 f fd ["self","road","k"] (aQ G):=by
 refine fE F mj fun EU A outer s H E hr=>?_
 have hu:=hr.units;exact(am (aV (qB qd iT aq (ae 2) (bA cX rfl T.Ge PySem.boot_len (af (aL (tG hu) (aG T.t_ T.ES ca (ae 0)) (ae 1) (fun _ _=>rfl)) ah)))))
theorem GG:m_ ["cells","kind","opening","rest"] ["cells"] (h_ kR):=FZ
def eR:E4:=(aI (cn (g_ v_ (dC dW) (g_ v_ (aa 0) (dC (.int 0)))) (gN 1))
 (aI (cn (g_ bN (g_ gX (g_ v_ (aa 0) (dC (.int 1))) (dC (.int 256))) (g_ v_ (aa 0) (dC (.int 2)))) (gN 2))
 (aI (cn (Hb GD (aa 0) (bF (dC EZ)) bE) (gN 3))
 (aI (FF (de (ao (g_ EX (aa 1) (dC (.str "data")))) (ao (g_ Ja (al bq (ac (aa 3) ai)) (dC (.int 2))))) (bK (cj (ac (aa 1) (ac (aa 2) (ac (g_ v_ (aa 3) (dC (.int 0))) (ac (cj (ac (g_ v_ (aa 3) (dC (.int 1))) (ac (Hb GD (aa 3) (bF (dC (.int 2))) bE) ai))) ai)))))) bC)
 (aI (FF (de (ao (g_ EX (aa 1) (dC (.str "note")))) (ao (g_ Ja (al bq (ac (aa 3) ai)) (dC (.int 1))))) (bK (cj (ac (aa 1) (ac (aa 2) (ac (g_ v_ (aa 3) (dC (.int 0))) (ac (Hb GD (aa 3) (bF (dC (.int 1))) bE) ai)))))) bC)
 (bK (g_ bN (cj (ac (aa 1) (ac (aa 2) ai))) (aa 3))))))))
def gn:List D->M D:=mP 4 eR
theorem tO{G:Cs}(T:Txt K mg G){f:Addr}{fd:FuncData}(F:Fz K "card_from" "card_from" kR f fd):FK P w K mg base (A_ P w) 1 f fd ["cells"] gn:=by
 refine fG F GG fun EU A outer s H E hr=>?_
 have hu:=hr.units;exact(ar (bD (i:=1) GG.nd (aL FE (cW rfl T.Kt.glob) (aL FE (ae 0) aq (fun _ _=>rfl)) (fun _ _=>rfl)))
   (ar (bD (i:=2) GG.nd (bJ cy (bJ kS (aL FE (ae 0) aq (fun _ _=>rfl)) aq) (aL FE (ae 0) aq (fun _ _=>rfl))))
   (ar (bD (i:=3) GG.nd (el Nu (ae 0) (du (cW rfl T.Ik)) gm))
   (ar (bu (IF.pt (dX (aD (cg hu) (ae 1) aM (aK _)) (dr (aD xo (bA cX rfl T.Ge PySem.boot_len (af (ae 3) ah)) aq (aK _))))) (am (aV (b9 (af (ae 1) (af (ae 2) (af (aL FE (ae 3) aq (fun _ _=>rfl)) (af (b9 (af (aL FE (ae 3) aq (fun _ _=>rfl)) (af (el Nu (ae 3) (du aq) gm) ah))) ah))))))) aW)
   (ar (bu (IF.pt (dX (aD (cg hu) (ae 1) aM (aK _)) (dr (aD xo (bA cX rfl T.Ge PySem.boot_len (af (ae 3) ah)) aq (aK _))))) (am (aV (b9 (af (ae 1) (af (ae 2) (af (aL FE (ae 3) aq (fun _ _=>rfl)) (af (el Nu (ae 3) (du aq) gm) ah))))))) aW)
   (am (aV (bJ cy (b9 (af (ae 1) (af (ae 2) ah))) (ae 3)))))))))
theorem Kv:m_ ["strip","cells","card"] ["strip"] (h_ wz):=FZ
def mJ(G:Cs):E4:=(aI (FF (G7 (cV (bO (al bX (ac (aa 0) (ac (dC Fj) ai))))) (G7 (ao (g_ G2 (al bq (ac (aa 0) ai)) (g_ bN (dC EZ) (dC EO)))) (ao (g_ Ja (g_ v_ (aa 0) (dC (.int 0))) (al bq (ac (dC dW) ai)))))) (nu G.FO (dC (.str "these are not the cells of a strip"))) bC)
 (aI (cn (Hb GD (aa 0) bE (bF (P2 AZ (dC EO)))) (gN 1))
 (aI (FF (ao (g_ Hm (aa 0) (al cA (ac (aa 1) ai)))) (nu G.FO (dC (.str "the checks do not fit the cells"))) bC)
 (aI (cn (al gn (ac (aa 1) ai)) (gN 2))
 (aI (FF (cV (bO (al cP (ac (aa 2) ai)))) (nu G.FO (dC (.str "the cells tell no card"))) bC)
 (bK (aa 2)))))))
def kA(G:Cs):List D->M D:=mP 3 (mJ G)
theorem BM{G:Cs}(T:Txt K mg G)(Hq:GZ P w K mg base (A_ P w) "is_row" 2 ["thing","top"] bX)(GU:GZ P w K mg base (A_ P w) "with_checks" 1 ["cells"] cA)(Lb:GZ P w K mg base (A_ P w) "card_from" 1 ["cells"] gn)(Iu:GZ P w K mg base (A_ P w) "is_card" 4 ["thing"] cP){f:Addr}{fd:FuncData}(F:Fz K "read" "read" wz f fd):FK P w K mg base (A_ P w) 5 f fd ["strip"] (kA G):=by
 refine fG F Kv fun EU A outer s H E hr=>?_
 have hu:=hr.units;exact(ar (bu (IF.pt (kI (fY (cR (aN Hq (hr.mono (by decide)) rfl aJ (af (ae 0) (af (cW rfl T.Jd) ah)) (ak (ak aH))))) (kI (aD iT (bA cX rfl T.Ge PySem.boot_len (af (ae 0) ah)) (bJ cy (cW rfl T.Ik) (cW rfl T.HI)) (aK _)) (mV (aD xo (aL FE (ae 0) aq (fun _ _=>rfl)) (bA cX rfl T.Ge PySem.boot_len (af (cW rfl T.Kt.glob) ah)) (aK _)))))) (am (mL T.HA rfl rfl aM)) aW)
   (ar (bD (i:=1) Kv.nd (el Nu (ae 0) gm (du (Dm Cu (cW rfl T.HI)))))
   (ar (bu (aD (ut hu) (ae 0) (aN GU (hr.mono (by decide)) rfl aJ (af (ae 1) ah) (ak aH)) (aK _)) (am (mL T.HA rfl rfl aM)) aW)
   (ar (bD (i:=2) Kv.nd (aN Lb (hr.mono (by decide)) rfl aJ (af (ae 1) ah) (ak aH)))
   (ar (bu (fY (cR (aN Iu (hr.mono (by decide)) rfl aJ (af (ae 2) ah) (ak aH)))) (am (mL T.HA rfl rfl aM)) aW)
   (am (aV (ae 2))))))))
theorem oQ:m_ ["self","opening"] ["self","opening"] (h_ ix):=FZ
def gG(G:Cs):E4:=(aI (jV G.f_ d_ 2 (aa 0) (aa 1))
 (aI (jV G.f_ d_ 3 (aa 0) (dC (.int 0)))
 (aI (jV G.f_ d_ 4 (aa 0) kg)
 (jV G.f_ d_ 5 (aa 0) (bT ai)))))
def cE(G:Cs):List D->M D:=mF 2 (gG G)
theorem oC{G:Cs}(T:Txt K mg G){f:Addr}{fd:FuncData}(F:Fz K "begin" "Hearer.begin" ix f fd):FK P w K mg base (A_ P w) 1 f fd ["self","opening"] (cE G):=by
 refine fE F oQ fun EU A outer s H E hr=>?_
 have hu:=hr.units;exact(ar (gu T.n_ T.EN aU (by decide) (ae 0) (ae 1))
   (ar (gu T.n_ T.y_ aU (by decide) (ae 0) aq)
   (ar (gu T.n_ T.E_ aU (by decide) (ae 0) o6)
   (am (gu T.n_ T.FG aU (by decide) (ae 0) (b8 ah))))))
theorem kl:m_ ["self","opening"] ["self","opening"] (h_ dS):=FZ
def dF(G:Cs):E4:=(aI (FF (ao (g_ G2 (aa 1) (aB G.f_ d_ 2 (aa 0)))) (bK (bT ai)) bC)
 (aI (FF (ao (g_ MR (aa 1) (aB G.f_ d_ 2 (aa 0)))) (bz (bh G.f_ d_ (cE G) (aa 0) (ac (aa 1) ai))) bC)
 (bK (bT (ac (cj (ac (dC (.str "welcome")) (ac (aa 1) ai))) ai)))))
def cm(G:Cs):List D->M D:=mF 2 (dF G)
theorem km{G:Cs}(T:Txt K mg G)(GK:Fu P w K mg base (A_ P w) G.f_ "begin" 1 ["self","opening"] (cE G)){f:Addr}{fd:FuncData}(F:Fz K "hears_hello" "Hearer.hears_hello" dS f fd):FK P w K mg base (A_ P w) 2 f fd ["self","opening"] (cm G):=by
 refine fE F kl fun EU A outer s H E hr=>?_
 have hu:=hr.units;exact(ar (bu (aD iT (ae 1) (aG T.n_ T.EN aU (ae 0)) (aK _)) (am (aV (b8 ah))) aW)
   (ar (bu (aD xk (ae 1) (aG T.n_ T.EN aU (ae 0)) (aK _)) (am (aX (bG GK (hr.mono (by decide)) T.n_ (by decide +kernel) aJ (ae 0) (af (ae 1) ah) (eK (ak aH))))) aW)
   (am (aV (b8 (af (b9 (af aM (af (ae 1) ah))) ah))))))
theorem rg:m_ ["number","window"] ["number","window"] (h_ jR):=FZ
def jg:E4:=(bK (nO L6 G2 (dC (.int 0)) (aa 0) (g_ gX (dC (.int 2)) (aa 1))))
def bV:List D->M D:=mF 2 jg
theorem qQ{G:Cs}(T:Txt K mg G){f:Addr}{fd:FuncData}(F:Fz K "goes_round" "goes_round" jR f fd):FK P w K mg base (A_ P w) 1 f fd ["number","window"] bV:=by
 refine fE F rg fun EU A outer s H E hr=>?_
 have hu:=hr.units;exact(am (aV (qB qd iT aq (ae 0) (bJ kS aq (ae 1)))))
theorem qV:m_ ["number","low","window"] ["number","low","window"] (h_ j8):=FZ
def jr:E4:=(bK (g_ bN (aa 1) (g_ kj (g_ rq (aa 0) (aa 1)) (g_ gX (dC (.int 2)) (aa 2)))))
def ck:List D->M D:=mF 3 jr
theorem qU{G:Cs}(T:Txt K mg G){f:Addr}{fd:FuncData}(F:Fz K "index_near" "index_near" j8 f fd):FK P w K mg base (A_ P w) 1 f fd ["number","low","window"] ck:=by
 refine fE F qV fun EU A outer s H E hr=>?_
 have hu:=hr.units;exact(am (aV (bJ cy (ae 1) (bJ jj (bJ wy (ae 0) (ae 1)) (bJ kS aq (ae 2))))))
theorem Ht:m_ ["self","number","piece","index"] ["self","number","piece"] (h_ jy):=FZ
def iN(G:Cs):E4:=(FF (bO (al bV (ac (aa 1) (ac (aB G.f_ d_ 0 (aa 0)) ai)))) (aI (cn (al ck (ac (aa 1) (ac (g_ rq (aB G.f_ d_ 3 (aa 0)) (aB G.f_ d_ 0 (aa 0))) (ac (aB G.f_ d_ 0 (aa 0)) ai)))) (gN 3))
 (FF (de (ao (g_ Ja (aa 3) (aB G.f_ d_ 3 (aa 0)))) (ao (g_ fm (aa 3) (aB G.f_ d_ 4 (aa 0))))) (vN qC (aB G.f_ d_ 4 (aa 0)) (aa 3) (aa 2)) bC)) bC)
def gf(G:Cs):List D->M D:=mF 4 (iN G)
theorem qF{G:Cs}(T:Txt K mg G)(Hd:GZ P w K mg base (A_ P w) "goes_round" 1 ["number","window"] bV)(He:GZ P w K mg base (A_ P w) "index_near" 1 ["number","low","window"] ck){f:Addr}{fd:FuncData}(F:Fz K "keep" "Hearer.keep" jy f fd):FK P w K mg base (A_ P w) 2 f fd ["self","number","piece"] (gf G):=by
 refine fE F Ht fun EU A outer s H E hr=>?_
 have hu:=hr.units;exact(am (bu (cR (aN Hd (hr.mono (by decide)) rfl aJ (af (ae 1) (af (aG T.n_ T.Fh aU (ae 0)) ah)) (ak (ak aH)))) (ar (bD (i:=3) Ht.nd (aN He (hr.mono (by decide)) rfl aJ (af (ae 1) (af (bJ wy (aG T.n_ T.y_ aU (ae 0)) (aG T.n_ T.Fh aU (ae 0))) (af (aG T.n_ T.Fh aU (ae 0)) ah))) (ak (ak (ak aH)))))
   (am (bu (IF.pt (dX (aD xo (ae 3) (aG T.n_ T.y_ aU (ae 0)) (aK _)) (dr (aD (sD hu) (ae 3) (aG T.n_ T.E_ aU (ae 0)) (by with_unfolding_all rfl))))) (am (tN (xx hu) (aG T.n_ T.E_ aU (ae 0)) (ae 3) (ae 2))) aW))) aW))
theorem GV:m_ ["pieces","letters","piece"] ["pieces"] (h_ ke):=FZ
def oX:E4:=(bz (Ij qL (aa 1) (ac (g_ v_ (aa 2) (dC (.int 1))) ai)))
def jc:E4:=(aI (cn (bT ai) (gN 1))
 (aI (pU (Ip (aa 0)) (gN 2) oX)
 (bK (al gx (ac (aa 1) ai)))))
def dY:List D->M D:=mP 3 jc
theorem qM{G:Cs}(T:Txt K mg G){f:Addr}{fd:FuncData}(F:Fz K "letters_of" "letters_of" ke f fd):FK P w K mg base (A_ P w) 1 f fd ["pieces"] dY:=by
 refine fG F GV fun EU A outer s H E hr=>?_
 have hu:=hr.units;exact(ar (bD (i:=1) GV.nd (b8 ah))
   (ar (lZ rfl (fV (ae 0)) (cr (i:=2) GV.nd) (am (aX (ei PySem.F.slot_list_extend PySem.F.type_list_extend nC (ae 1) (af (aL FE (ae 2) aq (fun _ _=>rfl)) ah)))))
   (am (aV (fL jL rfl T.GF boot_tuple (af (ae 1) ah))))))
theorem pX:m_ ["self","piece"] ["self","piece"] (h_ jf):=FZ
def iO(G:Cs):E4:=(aI (bz (Ij j6 (aB G.f_ d_ 5 (aa 0)) (ac (aa 1) ai)))
 (FF (ao (g_ EX (g_ v_ (aa 1) (dC (.int 0))) (dC (.int 1)))) (aI (bz (Ij j6 (aB G.f_ d_ 1 (aa 0)) (ac (cj (ac (aB G.f_ d_ 2 (aa 0)) (ac (al dY (ac (aB G.f_ d_ 5 (aa 0)) ai)) ai))) ai)))
 (jV G.f_ d_ 5 (aa 0) (bT ai))) bC))
def fR(G:Cs):List D->M D:=mF 2 (iO G)
theorem qa{G:Cs}(T:Txt K mg G)(Kw:GZ P w K mg base (A_ P w) "letters_of" 1 ["pieces"] dY){f:Addr}{fd:FuncData}(F:Fz K "take" "Hearer.take" jf f fd):FK P w K mg base (A_ P w) 2 f fd ["self","piece"] (fR G):=by
 refine fE F pX fun EU A outer s H E hr=>?_
 have hu:=hr.units;exact(ar (aX (ei PySem.F.slot_list_append PySem.F.type_list_append dD (aG T.n_ T.FG aU (ae 0)) (af (ae 1) ah)))
   (am (bu (aD (cg hu) (aL FE (ae 1) aq (fun _ _=>rfl)) aq (aK _)) (ar (aX (ei PySem.F.slot_list_append PySem.F.type_list_append dD (aG T.n_ T.Gv aU (ae 0)) (af (b9 (af (aG T.n_ T.EN aU (ae 0)) (af (aN Kw (hr.mono (by decide)) rfl aJ (af (aG T.n_ T.FG aU (ae 0)) ah) (ak aH)) ah))) ah)))
   (am (gu T.n_ T.FG aU (by decide) (ae 0) (b8 ah)))) aW)))
theorem GL:m_ ["self","piece"] ["self"] (h_ eP):=FZ
def cb(G:Cs)(fuel:Nat):E4:=(fO (ao (g_ pw (aB G.f_ d_ 3 (aa 0)) (aB G.f_ d_ 4 (aa 0)))) (aI (cn (yg uH (aB G.f_ d_ 4 (aa 0)) (ac (aB G.f_ d_ 3 (aa 0)) ai)) (gN 1))
 (aI (ou G.f_ d_ 3 (aa 0) (dC (.int 1)))
 (bz (bh G.f_ d_ (fR G) (aa 0) (ac (aa 1) ai))))) fuel)
def dM(G:Cs):List D->M D:=fun xs S=>fin S (cb G 1000000 (xs.map some++List.replicate (2-xs.length) none) S)
theorem mi{G:Cs}(T:Txt K mg G)(JF:Fu P w K mg base (A_ P w) G.f_ "take" 2 ["self","piece"] (fR G)){f:Addr}{fd:FuncData}(F:Fz K "take_all" "Hearer.take_all" eP f fd):FK P w K mg base (A_ P w) 3 f fd ["self"] (dM G):=by
 refine fE F GL fun EU A outer s H E hr=>?_
 have hu:=hr.units;have Ts:(1000000:Nat)=1000000:=rfl
 generalize Yw:(1000000:Nat)=fuel at Ts
 exact(am (vc fuel (aD (zH hu) (aG T.n_ T.y_ aU (ae 0)) (aG T.n_ T.E_ aU (ae 0)) (by with_unfolding_all rfl)) (ar (bD (i:=1) GL.nd (Cv PySem.F.slot_dict_pop PySem.F.type_dict_pop AJ (aG T.n_ T.E_ aU (ae 0)) (af (aG T.n_ T.y_ aU (ae 0)) ah)))
   (ar (tH T.n_ T.y_ aU (by decide) (ae 0) aq)
   (am (aX (bG JF (hr.mono (by decide)) T.n_ (by decide +kernel) aJ (ae 0) (af (ae 1) ah) (eK (ak aH)))))))))
theorem Hu:m_ ["self","bits"] ["self"] (h_ jt):=FZ
def iP(G:Cs):E4:=(aI (cn (al gx (ac (ii (sC (aB G.f_ d_ 0 (aa 0))) (gN 0) lx (Qy (ao (g_ pw (g_ bN (aB G.f_ d_ 3 (aa 1)) (aa 0)) (aB G.f_ d_ 4 (aa 1)))) (dC (.int 1)) (dC (.int 0))) 1 [0]) ai)) (gN 1))
 (bK (cj (ac (dC (.str "note")) (ac (aB G.f_ d_ 2 (aa 0)) (ac (al dP (ac (aB G.f_ d_ 3 (aa 0)) (ac (aB G.f_ d_ 0 (aa 0)) ai))) (ac (aa 1) ai)))))))
def fQ(G:Cs):List D->M D:=mF 2 (iP G)
theorem qc{G:Cs}(T:Txt K mg G)(Hs:GZ P w K mg base (A_ P w) "number_of" 1 ["index","window"] dP){f:Addr}{fd:FuncData}(F:Fz K "note" "Hearer.note" jt f fd):FK P w K mg base (A_ P w) 2 f fd ["self"] (fQ G):=by
 refine fE F Hu fun EU A outer s H E hr=>?_
 have hu:=hr.units;exact(ar (bD (i:=1) Hu.nd (fL jL rfl T.GF boot_tuple (af (iW (own:=["k"]) (capN:=["self"]) (caps:=[0]) ⟨rfl,II.all ⟨rfl,trivial⟩,rfl,by decide +kernel,rfl,by decide +kernel,⟨⟨rfl,Or.inl rfl,Or.inl rfl,rfl⟩,trivial⟩,by decide +kernel⟩ rfl (pR rfl T.Ks (aG T.n_ T.Fh aU (ae 0))) (jQ (by decide)) (fun C s2 H2 fp=>⟨(cr (i:=0) (show(["k","self"]:List Str).Nodup from by decide +kernel)),nA,(zz (aD (zH hu) (bJ cy (aG T.n_ T.y_ aU (ae 1)) (ae 0)) (aG T.n_ T.E_ aU (ae 1)) (by with_unfolding_all rfl)) aq aq)⟩)) ah)))
   (am (aV (b9 (af aM (af (aG T.n_ T.EN aU (ae 0)) (af (aN Hs (hr.mono (by decide)) rfl aJ (af (aG T.n_ T.y_ aU (ae 0)) (af (aG T.n_ T.Fh aU (ae 0)) ah)) (ak (ak aH))) (af (ae 1) ah))))))))
theorem ko:m_ ["self","opening","number","piece"] ["self","opening","number","piece"] (h_ d9):=FZ
def dO(G:Cs):E4:=(aI (FF (ao (g_ G2 (aa 1) (aB G.f_ d_ 2 (aa 0)))) (bK (bT ai)) bC)
 (aI (FF (ao (g_ MR (aa 1) (aB G.f_ d_ 2 (aa 0)))) (bK (bT (ac (cj (ac (dC (.str "who")) (ac (aa 1) ai))) ai))) bC)
 (aI (bz (bh G.f_ d_ (gf G) (aa 0) (ac (aa 2) (ac (aa 3) ai))))
 (aI (bz (bh G.f_ d_ (dM G) (aa 0) ai))
 (bK (bT (ac (bh G.f_ d_ (fQ G) (aa 0) ai) ai)))))))
def cz(G:Cs):List D->M D:=mF 4 (dO G)
theorem kF{G:Cs}(T:Txt K mg G)(JG:Fu P w K mg base (A_ P w) G.f_ "keep" 2 ["self","number","piece"] (gf G))(Il:Fu P w K mg base (A_ P w) G.f_ "take_all" 3 ["self"] (dM G))(JH:Fu P w K mg base (A_ P w) G.f_ "note" 2 ["self"] (fQ G)){f:Addr}{fd:FuncData}(F:Fz K "hears_data" "Hearer.hears_data" d9 f fd):FK P w K mg base (A_ P w) 4 f fd ["self","opening","number","piece"] (cz G):=by
 refine fE F ko fun EU A outer s H E hr=>?_
 have hu:=hr.units;exact(ar (bu (aD iT (ae 1) (aG T.n_ T.EN aU (ae 0)) (aK _)) (am (aV (b8 ah))) aW)
   (ar (bu (aD xk (ae 1) (aG T.n_ T.EN aU (ae 0)) (aK _)) (am (aV (b8 (af (b9 (af aM (af (ae 1) ah))) ah)))) aW)
   (ar (aX (bG JG (hr.mono (by decide)) T.n_ (by decide +kernel) aJ (ae 0) (af (ae 2) (af (ae 3) ah)) (eK (ak (ak aH)))))
   (ar (aX (db Il (hr.mono (by decide)) T.n_ (by decide +kernel) aJ (ae 0)))
   (am (aV (b8 (af (db JH (hr.mono (by decide)) T.n_ (by decide +kernel) aJ (ae 0)) ah))))))))
theorem oP:m_ ["self","card"] ["self","card"] (h_ im):=FZ
def gA(G:Cs):E4:=(aI (FF (ao (g_ EX (g_ v_ (aa 1) (dC (.int 0))) (dC (.str "hello")))) (bK (bh G.f_ d_ (cm G) (aa 0) (ac (g_ v_ (aa 1) (dC (.int 1))) ai))) bC)
 (aI (FF (ao (g_ EX (g_ v_ (aa 1) (dC (.int 0))) (dC (.str "data")))) (bK (bh G.f_ d_ (cz G) (aa 0) (ac (g_ v_ (aa 1) (dC (.int 1))) (ac (g_ v_ (aa 1) (dC (.int 2))) (ac (g_ v_ (aa 1) (dC (.int 3))) ai))))) bC)
 (bK (bT ai))))
def eX(G:Cs):List D->M D:=mF 2 (gA G)
theorem oV{G:Cs}(T:Txt K mg G)(Hv:Fu P w K mg base (A_ P w) G.f_ "hears_hello" 2 ["self","opening"] (cm G))(HD:Fu P w K mg base (A_ P w) G.f_ "hears_data" 4 ["self","opening","number","piece"] (cz G)){f:Addr}{fd:FuncData}(F:Fz K "hears" "Hearer.hears" im f fd):FK P w K mg base (A_ P w) 5 f fd ["self","card"] (eX G):=by
 refine fE F oP fun EU A outer s H E hr=>?_
 have hu:=hr.units;exact(ar (bu (aD (cg hu) (aL FE (ae 1) aq (fun _ _=>rfl)) aM (aK _)) (am (aV (bG Hv (hr.mono (by decide)) T.n_ (by decide +kernel) aJ (ae 0) (af (aL FE (ae 1) aq (fun _ _=>rfl)) ah) (eK (ak aH))))) aW)
   (ar (bu (aD (cg hu) (aL FE (ae 1) aq (fun _ _=>rfl)) aM (aK _)) (am (aV (bG HD (hr.mono (by decide)) T.n_ (by decide +kernel) aJ (ae 0) (af (aL FE (ae 1) aq (fun _ _=>rfl)) (af (aL FE (ae 1) aq (fun _ _=>rfl)) (af (aL FE (ae 1) aq (fun _ _=>rfl)) ah))) (eK (ak (ak (ak aH))))))) aW)
   (am (aV (b8 ah)))))
theorem GB:m_ ["self","message"] ["self"] (h_ eG):=FZ
def dH(G:Cs):E4:=(bz (Ij qL (aB G.c_ a_ 6 (aa 0)) (ac (al dg (ac (aa 1) (ac (aB G.c_ a_ 1 (aa 0)) ai))) ai)))
def d7(G:Cs):E4:=(aI (ou G.c_ a_ 4 (aa 0) (dC (.int 1)))
 (aI (jV G.c_ a_ 5 (aa 0) (dC (.str "opening")))
 (aI (jV G.c_ a_ 6 (aa 0) (bT ai))
 (aI (pU (Ip (Hb GD (aB G.c_ a_ 2 (aa 0)) (bF (aB G.c_ a_ 3 (aa 0))) bE)) (gN 1) (dH G))
 (aI (jV G.c_ a_ 7 (aa 0) (dC (.int 0)))
 (jV G.c_ a_ 8 (aa 0) kg))))))
def bI(G:Cs):List D->M D:=mF 2 (d7 G)
theorem lB{G:Cs}(T:Txt K mg G)(Ho:GZ P w K mg base (A_ P w) "pieces_of" 1 ["message","most"] dg){f:Addr}{fd:FuncData}(F:Fz K "open_anew" "Sender.open_anew" eG f fd):FK P w K mg base (A_ P w) 2 f fd ["self"] (bI G):=by
 refine fE F GB fun EU A outer s H E hr=>?_
 have hu:=hr.units;exact(ar (tH T.i_ T.Ft aE (by decide) (ae 0) aq)
   (ar (gu T.i_ T.C_ aE (by decide) (ae 0) aM)
   (ar (gu T.i_ T.EL aE (by decide) (ae 0) (b8 ah))
   (ar (lZ rfl (fV (el Nu (aG T.i_ T.F_ aE (ae 0)) (du (aG T.i_ T.Gh aE (ae 0))) gm)) (cr (i:=1) GB.nd) (am (aX (ei PySem.F.slot_list_extend PySem.F.type_list_extend nC (aG T.i_ T.EL aE (ae 0)) (af (aN Ho (hr.mono (by decide)) rfl aJ (af (ae 1) (af (aG T.i_ T.GI aE (ae 0)) ah)) (ak (ak aH))) ah)))))
   (ar (gu T.i_ T.ER aE (by decide) (ae 0) aq)
   (am (gu T.i_ T.FV aE (by decide) (ae 0) o6)))))))
theorem lu:m_ ["self","index"] ["self","index"] (h_ eE):=FZ
def eh(G:Cs):E4:=(aI (ou G.c_ a_ 3 (aa 0) (al nY (ac (ii (Ip (Hb GD (aB G.c_ a_ 6 (aa 0)) (bF (aB G.c_ a_ 7 (aa 0))) (bF (aa 1)))) (gN 0) lx (g_ v_ (aa 0) (dC (.int 0))) 1 []) ai)))
 (jV G.c_ a_ 7 (aa 0) (aa 1)))
def dq(G:Cs):List D->M D:=mF 2 (eh G)
theorem lA{G:Cs}(T:Txt K mg G){f:Addr}{fd:FuncData}(F:Fz K "move_base" "Sender.move_base" eE f fd):FK P w K mg base (A_ P w) 1 f fd ["self","index"] (dq G):=by
 refine fE F lu fun EU A outer s H E hr=>?_
 have hu:=hr.units;exact(ar (tH T.i_ T.Gh aE (by decide) (ae 0) (bA (wj rfl) rfl T.MY boot_sum (af (iW (own:=["piece"]) (capN:=[]) (caps:=[]) ⟨rfl,II.all trivial,rfl,by decide +kernel,rfl,by decide +kernel,trivial,by decide +kernel⟩ rfl (fV (el Nu (aG T.i_ T.EL aE (ae 0)) (du (aG T.i_ T.ER aE (ae 0))) (du (ae 1)))) (jQ (by decide)) (fun C s2 H2 fp=>⟨(cr (i:=0) (show(["piece"]:List Str).Nodup from by decide +kernel)),nA,(aL FE (ae 0) aq (fun _ _=>rfl))⟩)) ah)))
   (am (gu T.i_ T.ER aE (by decide) (ae 0) (ae 1))))
theorem FJ:m_ ["self","bits","k","bit"] ["self","bits"] (h_ dQ):=FZ
def cx(G:Cs):E4:=(FF (de (ao (g_ EX (aa 3) (dC (.int 1)))) (ao (g_ G2 (g_ bN (aB G.c_ a_ 7 (aa 0)) (aa 2)) (al bq (ac (aB G.c_ a_ 6 (aa 0)) ai))))) (vN qC (aB G.c_ a_ 8 (aa 0)) (g_ bN (aB G.c_ a_ 7 (aa 0)) (aa 2)) (dC (.bl true))) bC)
def dG(G:Cs):E4:=(pU (wZ 0 (aa 1)) (gT [2,3]) (cx G))
def cQ(G:Cs):List D->M D:=mF 4 (dG G)
theorem kh{G:Cs}(T:Txt K mg G){f:Addr}{fd:FuncData}(F:Fz K "note_pieces" "Sender.note_pieces" dQ f fd):FK P w K mg base (A_ P w) 1 f fd ["self","bits"] (cQ G):=by
 refine fE F FJ fun EU A outer s H E hr=>?_
 have hu:=hr.units;exact(am (lZ rfl (zD rfl T.IC (ae 1)) (sK rfl (gj (cr (i:=2) FJ.nd) (gj (cr (i:=3) FJ.nd) pa))) (am (bu (IF.pt (dX (aD (cg hu) (ae 3) aq (aK _)) (dr (aD iT (bJ cy (aG T.i_ T.ER aE (ae 0)) (ae 2)) (bA cX rfl T.Ge PySem.boot_len (af (aG T.i_ T.EL aE (ae 0)) ah)) (aK _))))) (am (tN (xx hu) (aG T.i_ T.FV aE (ae 0)) (bJ cy (aG T.i_ T.ER aE (ae 0)) (ae 2)) lG)) aW))))
theorem Gr:m_ ["self","number","bits","index"] ["self","number","bits"] (h_ d8):=FZ
def dU(G:Cs):E4:=(FF (bO (al bV (ac (aa 1) (ac (aB G.c_ a_ 0 (aa 0)) ai)))) (aI (cn (al ck (ac (aa 1) (ac (aB G.c_ a_ 7 (aa 0)) (ac (aB G.c_ a_ 0 (aa 0)) ai)))) (gN 3))
 (FF (ao (g_ L6 (aa 3) (al xL (ac (g_ bN (aB G.c_ a_ 7 (aa 0)) (aB G.c_ a_ 0 (aa 0))) (ac (al bq (ac (aB G.c_ a_ 6 (aa 0)) ai)) ai))))) (aI (bz (bh G.c_ a_ (dq G) (aa 0) (ac (aa 3) ai)))
 (bz (bh G.c_ a_ (cQ G) (aa 0) (ac (aa 2) ai)))) bC)) bC)
def b0(G:Cs):List D->M D:=mF 4 (dU G)
theorem kH{G:Cs}(T:Txt K mg G)(Hd:GZ P w K mg base (A_ P w) "goes_round" 1 ["number","window"] bV)(He:GZ P w K mg base (A_ P w) "index_near" 1 ["number","low","window"] ck)(HR:Fu P w K mg base (A_ P w) G.c_ "move_base" 1 ["self","index"] (dq G))(Hw:Fu P w K mg base (A_ P w) G.c_ "note_pieces" 1 ["self","bits"] (cQ G)){f:Addr}{fd:FuncData}(F:Fz K "hears_note" "Sender.hears_note" d8 f fd):FK P w K mg base (A_ P w) 2 f fd ["self","number","bits"] (b0 G):=by
 refine fE F Gr fun EU A outer s H E hr=>?_
 have hu:=hr.units;exact(am (bu (cR (aN Hd (hr.mono (by decide)) rfl aJ (af (ae 1) (af (aG T.i_ T.Fi aE (ae 0)) ah)) (ak (ak aH)))) (ar (bD (i:=3) Gr.nd (aN He (hr.mono (by decide)) rfl aJ (af (ae 1) (af (aG T.i_ T.ER aE (ae 0)) (af (aG T.i_ T.Fi aE (ae 0)) ah))) (ak (ak (ak aH)))))
   (am (bu (aD qd (ae 3) (bA (zE rfl) rfl T.OP boot_min (af (bJ cy (aG T.i_ T.ER aE (ae 0)) (aG T.i_ T.Fi aE (ae 0))) (af (bA cX rfl T.Ge PySem.boot_len (af (aG T.i_ T.EL aE (ae 0)) ah)) ah))) (aK _)) (ar (aX (bG HR (hr.mono (by decide)) T.i_ (by decide +kernel) aJ (ae 0) (af (ae 3) ah) (eK (ak aH))))
   (am (aX (bG Hw (hr.mono (by decide)) T.i_ (by decide +kernel) aJ (ae 0) (af (ae 2) ah) (eK (ak aH)))))) aW))) aW))
theorem ly:m_ ["self","card"] ["self","card"] (h_ eL):=FZ
def d6(G:Cs):E4:=(FF (de (ao (g_ EX (g_ v_ (aa 1) (dC (.int 0))) (dC (.str "welcome")))) (ao (g_ EX (aB G.c_ a_ 5 (aa 0)) (dC (.str "opening"))))) (jV G.c_ a_ 5 (aa 0) (dC (.str "open"))) (FF (de (ao (g_ EX (g_ v_ (aa 1) (dC (.int 0))) (dC (.str "who")))) (ao (g_ EX (aB G.c_ a_ 5 (aa 0)) (dC (.str "open"))))) (bz (bh G.c_ a_ (bI G) (aa 0) ai)) (FF (de (ao (g_ EX (g_ v_ (aa 1) (dC (.int 0))) (dC (.str "note")))) (ao (g_ EX (aB G.c_ a_ 5 (aa 0)) (dC (.str "open"))))) (bz (bh G.c_ a_ (b0 G) (aa 0) (ac (g_ v_ (aa 1) (dC (.int 2))) (ac (g_ v_ (aa 1) (dC (.int 3))) ai)))) bC)))
def dl(G:Cs):List D->M D:=mF 2 (d6 G)
theorem lr{G:Cs}(T:Txt K mg G)(Gb:Fu P w K mg base (A_ P w) G.c_ "open_anew" 2 ["self"] (bI G))(HE:Fu P w K mg base (A_ P w) G.c_ "hears_note" 2 ["self","number","bits"] (b0 G)){f:Addr}{fd:FuncData}(F:Fz K "hears_own" "Sender.hears_own" eL f fd):FK P w K mg base (A_ P w) 3 f fd ["self","card"] (dl G):=by
 refine fE F ly fun EU A outer s H E hr=>?_
 have hu:=hr.units;exact(am (bu (IF.pt (dX (aD (cg hu) (aL FE (ae 1) aq (fun _ _=>rfl)) aM (aK _)) (dr (aD (cg hu) (aG T.i_ T.C_ aE (ae 0)) aM (aK _))))) (am (gu T.i_ T.C_ aE (by decide) (ae 0) aM)) (am (bu (IF.pt (dX (aD (cg hu) (aL FE (ae 1) aq (fun _ _=>rfl)) aM (aK _)) (dr (aD (cg hu) (aG T.i_ T.C_ aE (ae 0)) aM (aK _))))) (am (aX (db Gb (hr.mono (by decide)) T.i_ (by decide +kernel) aJ (ae 0)))) (am (bu (IF.pt (dX (aD (cg hu) (aL FE (ae 1) aq (fun _ _=>rfl)) aM (aK _)) (dr (aD (cg hu) (aG T.i_ T.C_ aE (ae 0)) aM (aK _))))) (am (aX (bG HE (hr.mono (by decide)) T.i_ (by decide +kernel) aJ (ae 0) (af (aL FE (ae 1) aq (fun _ _=>rfl)) (af (aL FE (ae 1) aq (fun _ _=>rfl)) ah)) (eK (ak (ak aH)))))) aW))))))
theorem oW:m_ ["self","card"] ["self","card"] (h_ ic):=FZ
def gD(G:Cs):E4:=(aI (FF (ao (g_ EX (g_ v_ (aa 1) (dC (.int 1))) (aB G.c_ a_ 4 (aa 0)))) (bz (bh G.c_ a_ (dl G) (aa 0) (ac (aa 1) ai))) bC)
 (bK (bT ai)))
def fj(G:Cs):List D->M D:=mF 2 (gD G)
theorem oS{G:Cs}(T:Txt K mg G)(HS:Fu P w K mg base (A_ P w) G.c_ "hears_own" 3 ["self","card"] (dl G)){f:Addr}{fd:FuncData}(F:Fz K "hears" "Sender.hears" ic f fd):FK P w K mg base (A_ P w) 4 f fd ["self","card"] (fj G):=by
 refine fE F oW fun EU A outer s H E hr=>?_
 have hu:=hr.units;exact(ar (bu (aD (cg hu) (aL FE (ae 1) aq (fun _ _=>rfl)) (aG T.i_ T.Ft aE (ae 0)) (aK _)) (am (aX (bG HS (hr.mono (by decide)) T.i_ (by decide +kernel) aJ (ae 0) (af (ae 1) ah) (eK (ak aH))))) aW)
   (am (aV (b8 ah))))
theorem Gx:m_ ["self","road","strip","card"] ["self","road","strip"] (h_ iD):=FZ
def gB(G:Cs):E4:=(aI (vU [G.FO] (cn (al (kA G) (ac (aa 2) ai)) (gN 3)) (cn (dC .EJ) (gN 3)))
 (aI (FF (de (ao (g_ mR (aa 3) (dC .EJ))) (ao (g_ EX (aa 1) (dC (.str "there"))))) (bz (bh G.World o_ (bS G) (aa 0) (ac (dC (.str "back")) (ac (bh G.f_ d_ (eX G) (aB G.World o_ 1 (aa 0)) (ac (aa 3) ai)) ai)))) bC)
 (FF (de (ao (g_ mR (aa 3) (dC .EJ))) (ao (g_ EX (aa 1) (dC (.str "back"))))) (bz (bh G.World o_ (bS G) (aa 0) (ac (dC (.str "there")) (ac (bh G.c_ a_ (fj G) (aB G.World o_ 0 (aa 0)) (ac (aa 3) ai)) ai)))) bC)))
def eQ(G:Cs):List D->M D:=mF 4 (gB G)
theorem oG{G:Cs}(T:Txt K mg G)(Pt:GZ P w K mg base (A_ P w) "read" 5 ["strip"] (kA G))(Je:Fu P w K mg base (A_ P w) G.f_ "hears" 5 ["self","card"] (eX G))(FD:Fu P w K mg base (A_ P w) G.World "put_behind" 6 ["self","road","cards"] (bS G))(Jf:Fu P w K mg base (A_ P w) G.c_ "hears" 4 ["self","card"] (fj G)){f:Addr}{fd:FuncData}(F:Fz K "arrive" "World.arrive" iD f fd):FK P w K mg base (A_ P w) 7 f fd ["self","road","strip"] (eQ G):=by
 refine fE F Gx fun EU A outer s H E hr=>?_
 have hu:=hr.units;exact(ar (Ck T.HA (BE T.Ga De) rfl ⟨rfl,rfl⟩ (am (bD (i:=3) Gx.nd (aN Pt (hr.mono (by decide)) rfl aJ (af (ae 2) ah) (ak aH)))) (fun _=>(am (bD (i:=3) Gx.nd wA))))
   (ar (bu (IF.pt (dX (aD w4 (ae 3) wA (aK _)) (dr (aD (cg hu) (ae 1) aM (aK _))))) (am (aX (bG FD (hr.mono (by decide)) T.t_ (by decide +kernel) aJ (ae 0) (af aM (af (bG Je (hr.mono (by decide)) T.n_ (by decide +kernel) aJ (aG T.t_ T.FW ca (ae 0)) (af (ae 3) ah) (eK (ak aH))) ah)) (eK (ak (ak aH)))))) aW)
   (am (bu (IF.pt (dX (aD w4 (ae 3) wA (aK _)) (dr (aD (cg hu) (ae 1) aM (aK _))))) (am (aX (bG FD (hr.mono (by decide)) T.t_ (by decide +kernel) aJ (ae 0) (af aM (af (bG Jf (hr.mono (by decide)) T.i_ (by decide +kernel) aJ (aG T.t_ T.Fb ca (ae 0)) (af (ae 3) ah) (eK (ak aH))) ah)) (eK (ak (ak aH)))))) aW))))
theorem qP:m_ ["self","road"] ["self","road"] (h_ jX):=FZ
def jh(G:Cs):E4:=(FF (bO (bh G.World o_ (aQ G) (aa 0) (ac (aa 1) (ac (dC (.int 0)) ai)))) (bz (bh G.World o_ (eQ G) (aa 0) (ac (aa 1) (ac (g_ v_ (Ij vM (g_ ik (aB G.World o_ 2 (aa 0)) (aa 1)) (ac (dC (.int 0)) ai)) (dC (.int 0))) ai)))) bC)
def gS(G:Cs):List D->M D:=mF 2 (jh G)
theorem qR{G:Cs}(T:Txt K mg G)(E2:Fu P w K mg base (A_ P w) G.World "has_strip" 1 ["self","road","k"] (aQ G))(Jg:Fu P w K mg base (A_ P w) G.World "arrive" 7 ["self","road","strip"] (eQ G)){f:Addr}{fd:FuncData}(F:Fz K "step" "World.step" jX f fd):FK P w K mg base (A_ P w) 8 f fd ["self","road"] (gS G):=by
 refine fE F qP fun EU A outer s H E hr=>?_
 have hu:=hr.units;exact(am (bu (cR (bG E2 (hr.mono (by decide)) T.t_ (by decide +kernel) aJ (ae 0) (af (ae 1) (af aq ah)) (eK (ak (ak aH))))) (am (aX (bG Jg (hr.mono (by decide)) T.t_ (by decide +kernel) aJ (ae 0) (af (ae 1) (af (aL FE (ei PySem.F.slot_list_pop PySem.F.type_list_pop zW (aL (tG hu) (aG T.t_ T.ES ca (ae 0)) (ae 1) (fun _ _=>rfl)) (af aq ah)) aq (fun _ _=>rfl)) ah)) (eK (ak (ak aH)))))) aW))
theorem q7:m_ ["self","road","k"] ["self","road","k"] (h_ kc):=FZ
def jd(G:Cs):E4:=(FF (bO (bh G.World o_ (aQ G) (aa 0) (ac (aa 1) (ac (aa 2) ai)))) (bz (Ij vM (g_ ik (aB G.World o_ 2 (aa 0)) (aa 1)) (ac (aa 2) ai))) bC)
def gQ(G:Cs):List D->M D:=mF 3 (jd G)
theorem qJ{G:Cs}(T:Txt K mg G)(E2:Fu P w K mg base (A_ P w) G.World "has_strip" 1 ["self","road","k"] (aQ G)){f:Addr}{fd:FuncData}(F:Fz K "lose" "World.lose" kc f fd):FK P w K mg base (A_ P w) 2 f fd ["self","road","k"] (gQ G):=by
 refine fE F q7 fun EU A outer s H E hr=>?_
 have hu:=hr.units;exact(am (bu (cR (bG E2 (hr.mono (by decide)) T.t_ (by decide +kernel) aJ (ae 0) (af (ae 1) (af (ae 2) ah)) (eK (ak (ak aH))))) (am (aX (ei PySem.F.slot_list_pop PySem.F.type_list_pop zW (aL (tG hu) (aG T.t_ T.ES ca (ae 0)) (ae 1) (fun _ _=>rfl)) (af (ae 2) ah)))) aW))
theorem oE:m_ ["self","road","k"] ["self","road","k"] (h_ iQ):=FZ
def gz(G:Cs):E4:=(FF (bO (bh G.World o_ (aQ G) (aa 0) (ac (aa 1) (ac (aa 2) ai)))) (bz (Ij u6 (g_ ik (aB G.World o_ 2 (aa 0)) (aa 1)) (ac (aa 2) (ac (g_ v_ (g_ ik (aB G.World o_ 2 (aa 0)) (aa 1)) (aa 2)) ai)))) bC)
def eU(G:Cs):List D->M D:=mF 3 (gz G)
theorem oU{G:Cs}(T:Txt K mg G)(E2:Fu P w K mg base (A_ P w) G.World "has_strip" 1 ["self","road","k"] (aQ G)){f:Addr}{fd:FuncData}(F:Fz K "double" "World.double" iQ f fd):FK P w K mg base (A_ P w) 2 f fd ["self","road","k"] (eU G):=by
 refine fE F oE fun EU A outer s H E hr=>?_
 have hu:=hr.units;exact(am (bu (cR (bG E2 (hr.mono (by decide)) T.t_ (by decide +kernel) aJ (ae 0) (af (ae 1) (af (ae 2) ah)) (eK (ak (ak aH))))) (am (aX (ei PySem.F.slot_list_insert PySem.F.type_list_insert xD (aL (tG hu) (aG T.t_ T.ES ca (ae 0)) (ae 1) (fun _ _=>rfl)) (af (ae 2) (af (aL FE (aL (tG hu) (aG T.t_ T.ES ca (ae 0)) (ae 1) (fun _ _=>rfl)) (ae 2) (fun _ _=>rfl)) ah))))) aW))
theorem HU:m_ ["strip","place","by","cells","at"] ["strip","place","by"] (h_ nK):=FZ
def lQ:E4:=(aI (cn (al w5 (ac (aa 0) ai)) (gN 3))
 (aI (cn (g_ kj (aa 1) (al bq (ac (aa 3) ai))) (gN 4))
 (aI (vN n7 (aa 3) (aa 4) (g_ kj (g_ bN (g_ v_ (aa 3) (aa 4)) (aa 2)) (dC (.int 256))))
 (bK (al gx (ac (aa 3) ai))))))
def jF:List D->M D:=mP 5 lQ
theorem v6{G:Cs}(T:Txt K mg G){f:Addr}{fd:FuncData}(F:Fz K "changed" "changed" nK f fd):FK P w K mg base (A_ P w) 1 f fd ["strip","place","by"] jF:=by
 refine fG F HU fun EU A outer s H E hr=>?_
 have hu:=hr.units;exact(ar (bD (i:=3) HU.nd (fL AN rfl T.Pr boot_list (af (ae 0) ah)))
   (ar (bD (i:=4) HU.nd (bJ jj (ae 1) (bA cX rfl T.Ge PySem.boot_len (af (ae 3) ah))))
   (ar (tN w9 (ae 3) (ae 4) (bJ jj (bJ cy (aL FE (ae 3) (ae 4) (fun _ _=>rfl)) (ae 2)) aq))
   (am (aV (fL jL rfl T.GF boot_tuple (af (ae 3) ah)))))))
theorem pF:m_ ["self","road","k","place","by"] ["self","road","k","place","by"] (h_ jo):=FZ
def iq(G:Cs):E4:=(FF (de (bO (bh G.World o_ (aQ G) (aa 0) (ac (aa 1) (ac (aa 2) ai)))) (de (cV (bO (g_ v_ (g_ v_ (g_ ik (aB G.World o_ 2 (aa 0)) (aa 1)) (aa 2)) (dC (.int 1))))) (ao (g_ Hm (g_ kj (aa 4) (dC (.int 256))) (dC (.int 0)))))) (vN n7 (g_ ik (aB G.World o_ 2 (aa 0)) (aa 1)) (aa 2) (cj (ac (al jF (ac (g_ v_ (g_ v_ (g_ ik (aB G.World o_ 2 (aa 0)) (aa 1)) (aa 2)) (dC (.int 0))) (ac (aa 3) (ac (aa 4) ai)))) (ac (dC (.bl true)) ai)))) bC)
def fZ(G:Cs):List D->M D:=mF 5 (iq G)
theorem qk{G:Cs}(T:Txt K mg G)(E2:Fu P w K mg base (A_ P w) G.World "has_strip" 1 ["self","road","k"] (aQ G))(Mp:GZ P w K mg base (A_ P w) "changed" 1 ["strip","place","by"] jF){f:Addr}{fd:FuncData}(F:Fz K "spoil" "World.spoil" jo f fd):FK P w K mg base (A_ P w) 2 f fd ["self","road","k","place","by"] (fZ G):=by
 refine fE F pF fun EU A outer s H E hr=>?_
 have hu:=hr.units;exact(am (bu (IF.pt (dX (cR (bG E2 (hr.mono (by decide)) T.t_ (by decide +kernel) aJ (ae 0) (af (ae 1) (af (ae 2) ah)) (eK (ak (ak aH))))) (dX (fY (cR (aL FE (aL FE (aL (tG hu) (aG T.t_ T.ES ca (ae 0)) (ae 1) (fun _ _=>rfl)) (ae 2) (fun _ _=>rfl)) aq (fun _ _=>rfl)))) (dr (aD (ut hu) (bJ jj (ae 4) aq) aq (aK _)))))) (am (tN w9 (aL (tG hu) (aG T.t_ T.ES ca (ae 0)) (ae 1) (fun _ _=>rfl)) (ae 2) (b9 (af (aN Mp (hr.mono (by decide)) rfl aJ (af (aL FE (aL FE (aL (tG hu) (aG T.t_ T.ES ca (ae 0)) (ae 1) (fun _ _=>rfl)) (ae 2) (fun _ _=>rfl)) aq (fun _ _=>rfl)) (af (ae 3) (af (ae 4) ah))) (ak (ak (ak aH)))) (af lG ah))))) aW))
theorem pT:m_ ["self"] ["self"] (h_ jl):=FZ
def ib(G:Cs):E4:=(jV G.c_ a_ 5 (aa 0) (dC (.str "shut")))
def gh(G:Cs):List D->M D:=mF 1 (ib G)
theorem qx{G:Cs}(T:Txt K mg G){f:Addr}{fd:FuncData}(F:Fz K "fall" "Sender.fall" jl f fd):FK P w K mg base (A_ P w) 1 f fd ["self"] (gh G):=by
 refine fE F pT fun EU A outer s H E hr=>?_
 have hu:=hr.units;exact(am (gu T.i_ T.C_ aE (by decide) (ae 0) aM))
theorem pz:m_ ["self"] ["self"] (h_ jq):=FZ
def iG(G:Cs):E4:=(bz (bh G.f_ d_ (cE G) (aa 0) (ac (dC (.int 0)) ai)))
def fX(G:Cs):List D->M D:=mF 1 (iG G)
theorem p6{G:Cs}(T:Txt K mg G)(GK:Fu P w K mg base (A_ P w) G.f_ "begin" 1 ["self","opening"] (cE G)){f:Addr}{fd:FuncData}(F:Fz K "fall" "Hearer.fall" jq f fd):FK P w K mg base (A_ P w) 2 f fd ["self"] (fX G):=by
 refine fE F pz fun EU A outer s H E hr=>?_
 have hu:=hr.units;exact(am (aX (bG GK (hr.mono (by decide)) T.n_ (by decide +kernel) aJ (ae 0) (af aq ah) (eK (ak aH)))))
theorem qZ:m_ ["self","who"] ["self","who"] (h_ jP):=FZ
def eo(G:Cs):E4:=(aI (FF (ao (g_ EX (aa 1) (dC (.str "sender")))) (bz (bh G.c_ a_ (gh G) (aB G.World o_ 0 (aa 0)) ai)) bC)
 (FF (ao (g_ EX (aa 1) (dC (.str "hearer")))) (bz (bh G.f_ d_ (fX G) (aB G.World o_ 1 (aa 0)) ai)) bC))
def gW(G:Cs):List D->M D:=mF 2 (eo G)
theorem qK{G:Cs}(T:Txt K mg G)(JI:Fu P w K mg base (A_ P w) G.c_ "fall" 1 ["self"] (gh G))(JJ:Fu P w K mg base (A_ P w) G.f_ "fall" 2 ["self"] (fX G)){f:Addr}{fd:FuncData}(F:Fz K "fall" "World.fall" jP f fd):FK P w K mg base (A_ P w) 3 f fd ["self","who"] (gW G):=by
 refine fE F qZ fun EU A outer s H E hr=>?_
 have hu:=hr.units;exact(ar (bu (aD (cg hu) (ae 1) aM (aK _)) (am (aX (db JI (hr.mono (by decide)) T.i_ (by decide +kernel) aJ (aG T.t_ T.Fb ca (ae 0))))) aW)
   (am (bu (aD (cg hu) (ae 1) aM (aK _)) (am (aX (db JJ (hr.mono (by decide)) T.n_ (by decide +kernel) aJ (aG T.t_ T.FW ca (ae 0))))) aW)))
theorem o3:m_ ["self"] ["self"] (h_ iB):=FZ
def gF(G:Cs):E4:=(FF (ao (g_ EX (aB G.c_ a_ 5 (aa 0)) (dC (.str "shut")))) (bz (bh G.c_ a_ (bI G) (aa 0) ai)) bC)
def ff(G:Cs):List D->M D:=mF 1 (gF G)
theorem oK{G:Cs}(T:Txt K mg G)(Gb:Fu P w K mg base (A_ P w) G.c_ "open_anew" 2 ["self"] (bI G)){f:Addr}{fd:FuncData}(F:Fz K "start" "Sender.start" iB f fd):FK P w K mg base (A_ P w) 3 f fd ["self"] (ff G):=by
 refine fE F o3 fun EU A outer s H E hr=>?_
 have hu:=hr.units;exact(am (bu (aD (cg hu) (aG T.i_ T.C_ aE (ae 0)) aM (aK _)) (am (aX (db Gb (hr.mono (by decide)) T.i_ (by decide +kernel) aJ (ae 0)))) aW))
theorem px:m_ ["self"] ["self"] (h_ jm):=FZ
def iJ(G:Cs):E4:=(bz (bh G.c_ a_ (ff G) (aB G.World o_ 0 (aa 0)) ai))
def gc(G:Cs):List D->M D:=mF 1 (iJ G)
theorem qr{G:Cs}(T:Txt K mg G)(Jh:Fu P w K mg base (A_ P w) G.c_ "start" 3 ["self"] (ff G)){f:Addr}{fd:FuncData}(F:Fz K "start" "World.start" jm f fd):FK P w K mg base (A_ P w) 4 f fd ["self"] (gc G):=by
 refine fE F px fun EU A outer s H E hr=>?_
 have hu:=hr.units;exact(am (aX (db Jh (hr.mono (by decide)) T.i_ (by decide +kernel) aJ (aG T.t_ T.Fb ca (ae 0)))))
theorem vG:m_ ["_law_world","_law_act"] ["_law_world","_law_act"] (h_ nL):=FZ
def lP(G:Cs):E4:=(FF (ao (g_ EX (g_ v_ (aa 1) (dC (.int 0))) (dC (.str "hand")))) (bz (bh G.World o_ (hV G) (aa 0) (ac (al cH (ac (g_ v_ (aa 1) (dC (.int 1))) (ac (dC (.int 12)) ai))) ai))) (FF (ao (g_ EX (g_ v_ (aa 1) (dC (.int 0))) (dC (.str "tick")))) (bz (bh G.World o_ (gR G) (aa 0) ai)) (FF (ao (g_ EX (g_ v_ (aa 1) (dC (.int 0))) (dC (.str "step")))) (bz (bh G.World o_ (gS G) (aa 0) (ac (g_ v_ (aa 1) (dC (.int 1))) ai))) (FF (ao (g_ EX (g_ v_ (aa 1) (dC (.int 0))) (dC (.str "lose")))) (bz (bh G.World o_ (gQ G) (aa 0) (ac (g_ v_ (aa 1) (dC (.int 1))) (ac (g_ v_ (aa 1) (dC (.int 2))) ai)))) (FF (ao (g_ EX (g_ v_ (aa 1) (dC (.int 0))) (dC (.str "double")))) (bz (bh G.World o_ (eU G) (aa 0) (ac (g_ v_ (aa 1) (dC (.int 1))) (ac (g_ v_ (aa 1) (dC (.int 2))) ai)))) (FF (ao (g_ EX (g_ v_ (aa 1) (dC (.int 0))) (dC (.str "spoil")))) (bz (bh G.World o_ (fZ G) (aa 0) (ac (g_ v_ (aa 1) (dC (.int 1))) (ac (g_ v_ (aa 1) (dC (.int 2))) (ac (al aF (ac (g_ v_ (aa 1) (dC (.int 3))) (ac (dC (.int 9829)) (ac (dC (.int 16)) ai)))) (ac (al aF (ac (g_ v_ (aa 1) (dC (.int 3))) (ac (dC (.int 9817)) (ac (dC (.int 256)) ai)))) ai)))))) (FF (ao (g_ EX (g_ v_ (aa 1) (dC (.int 0))) (dC (.str "fall")))) (bz (bh G.World o_ (gW G) (aa 0) (ac (g_ v_ (aa 1) (dC (.int 1))) ai))) (bz (bh G.World o_ (gc G) (aa 0) ai)))))))))
def lc(G:Cs):List D->M D:=mF 2 (lP G)
theorem vJ{G:Cs}(T:Txt K mg G)(GN:GZ P w K mg base (A_ P w) "_law_message" 2 ["_law_cell_here","_law_longest"] cH)(Kx:Fu P w K mg base (A_ P w) G.World "hand" 3 ["self","message"] (hV G))(Ky:Fu P w K mg base (A_ P w) G.World "tick" 7 ["self"] (gR G))(Kz:Fu P w K mg base (A_ P w) G.World "step" 8 ["self","road"] (gS G))(KA:Fu P w K mg base (A_ P w) G.World "lose" 2 ["self","road","k"] (gQ G))(Ji:Fu P w K mg base (A_ P w) G.World "double" 2 ["self","road","k"] (eU G))(E1:GZ P w K mg base (A_ P w) "_law_mix" 1 ["_law_cell_here","_law_prime","_law_many"] aF)(JK:Fu P w K mg base (A_ P w) G.World "spoil" 2 ["self","road","k","place","by"] (fZ G))(KC:Fu P w K mg base (A_ P w) G.World "fall" 3 ["self","who"] (gW G))(JL:Fu P w K mg base (A_ P w) G.World "start" 4 ["self"] (gc G)){f:Addr}{fd:FuncData}(F:Fz K "_law_do" "_law_do" nL f fd):FK P w K mg base (A_ P w) 9 f fd ["_law_world","_law_act"] (lc G):=by
 refine fE F vG fun EU A outer s H E hr=>?_
 have hu:=hr.units;exact(am (bu (aD (cg hu) (aL FE (ae 1) aq (fun _ _=>rfl)) aM (aK _)) (am (aX (bG Kx (hr.mono (by decide)) T.t_ (by decide +kernel) aJ (ae 0) (af (aN GN (hr.mono (by decide)) rfl aJ (af (aL FE (ae 1) aq (fun _ _=>rfl)) (af aq ah)) (ak (ak aH))) ah) (eK (ak aH))))) (am (bu (aD (cg hu) (aL FE (ae 1) aq (fun _ _=>rfl)) aM (aK _)) (am (aX (db Ky (hr.mono (by decide)) T.t_ (by decide +kernel) aJ (ae 0)))) (am (bu (aD (cg hu) (aL FE (ae 1) aq (fun _ _=>rfl)) aM (aK _)) (am (aX (bG Kz (hr.mono (by decide)) T.t_ (by decide +kernel) aJ (ae 0) (af (aL FE (ae 1) aq (fun _ _=>rfl)) ah) (eK (ak aH))))) (am (bu (aD (cg hu) (aL FE (ae 1) aq (fun _ _=>rfl)) aM (aK _)) (am (aX (bG KA (hr.mono (by decide)) T.t_ (by decide +kernel) aJ (ae 0) (af (aL FE (ae 1) aq (fun _ _=>rfl)) (af (aL FE (ae 1) aq (fun _ _=>rfl)) ah)) (eK (ak (ak aH)))))) (am (bu (aD (cg hu) (aL FE (ae 1) aq (fun _ _=>rfl)) aM (aK _)) (am (aX (bG Ji (hr.mono (by decide)) T.t_ (by decide +kernel) aJ (ae 0) (af (aL FE (ae 1) aq (fun _ _=>rfl)) (af (aL FE (ae 1) aq (fun _ _=>rfl)) ah)) (eK (ak (ak aH)))))) (am (bu (aD (cg hu) (aL FE (ae 1) aq (fun _ _=>rfl)) aM (aK _)) (am (aX (bG JK (hr.mono (by decide)) T.t_ (by decide +kernel) aJ (ae 0) (af (aL FE (ae 1) aq (fun _ _=>rfl)) (af (aL FE (ae 1) aq (fun _ _=>rfl)) (af (aN E1 (hr.mono (by decide)) rfl aJ (af (aL FE (ae 1) aq (fun _ _=>rfl)) (af aq (af aq ah))) (ak (ak (ak aH)))) (af (aN E1 (hr.mono (by decide)) rfl aJ (af (aL FE (ae 1) aq (fun _ _=>rfl)) (af aq (af aq ah))) (ak (ak (ak aH)))) ah)))) (eK (ak (ak (ak (ak aH)))))))) (am (bu (aD (cg hu) (aL FE (ae 1) aq (fun _ _=>rfl)) aM (aK _)) (am (aX (bG KC (hr.mono (by decide)) T.t_ (by decide +kernel) aJ (ae 0) (af (aL FE (ae 1) aq (fun _ _=>rfl)) ah) (eK (ak aH))))) (am (aX (db JL (hr.mono (by decide)) T.t_ (by decide +kernel) aJ (ae 0))))))))))))))))))
theorem nv:m_ ["self"] ["self"] (h_ gK):=FZ
def fw(G:Cs):E4:=(bK (aB G.c_ a_ 3 (aB G.World o_ 0 (aa 0))))
def eA(G:Cs):List D->M D:=mF 1 (fw G)
theorem ny{G:Cs}(T:Txt K mg G){f:Addr}{fd:FuncData}(F:Fz K "sure_of" "World.sure_of" gK f fd):FK P w K mg base (A_ P w) 1 f fd ["self"] (eA G):=by
 refine fE F nv fun EU A outer s H E hr=>?_
 have hu:=hr.units;exact(am (aV (aG T.i_ T.Gh aE (aG T.t_ T.Fb ca (ae 0)))))
theorem qt:m_ ["_law_acts_here"] ["_law_acts_here"] (h_ ji):=FZ
def ia:E4:=(bK (ii (Ip (aa 0)) (gN 0) (ao (g_ EX (g_ v_ (aa 0) (dC (.int 0))) (dC (.str "hand")))) (al cH (ac (g_ v_ (aa 0) (dC (.int 1))) (ac (dC (.int 12)) ai))) 1 []))
def dB:List D->M D:=mF 1 ia
theorem pQ{G:Cs}(T:Txt K mg G)(GN:GZ P w K mg base (A_ P w) "_law_message" 2 ["_law_cell_here","_law_longest"] cH){f:Addr}{fd:FuncData}(F:Fz K "_law_handed" "_law_handed" ji f fd):FK P w K mg base (A_ P w) 3 f fd ["_law_acts_here"] dB:=by
 refine fE F qt fun EU A outer s H E hr=>?_
 have hu:=hr.units;exact(am (aV (iW (own:=["_law_act"]) (capN:=[]) (caps:=[]) ⟨rfl,II.all trivial,rfl,by decide +kernel,rfl,by decide +kernel,trivial,by decide +kernel⟩ rfl (fV (ae 0)) (jQ (by decide)) (fun C s2 H2 fp=>⟨(cr (i:=0) (show(["_law_act"]:List Str).Nodup from by decide +kernel)),(yL (aD (cg hu) (aL FE (ae 0) aq (fun _ _=>rfl)) aM (aK _))),(aN GN (hr.mono (by decide)) rfl aJ (af (aL FE (ae 0) aq (fun _ _=>rfl)) (af aq ah)) (ak (ak aH)))⟩))))
theorem FH:m_ ["_law_handed_here","_law_found","_law_at","_law_opening","_law_message_here"] ["_law_handed_here","_law_found"] (h_ ij):=FZ
def dJ:E4:=(FF (de (ao (g_ G2 (aa 2) (al bq (ac (aa 0) ai)))) (ao (g_ EX (g_ v_ (aa 0) (aa 2)) (aa 4)))) (cn (g_ bN (aa 2) (dC (.int 1))) (gN 2)) bC)
def gI:E4:=(aI (cn (dC (.int 0)) (gN 2))
 (aI (pU (Ip (aa 1)) (gT [3,4]) dJ)
 (bK (g_ EX (aa 2) (al bq (ac (aa 0) ai))))))
def da:List D->M D:=mF 5 gI
theorem oJ{G:Cs}(T:Txt K mg G){f:Addr}{fd:FuncData}(F:Fz K "_law_all_out" "_law_all_out" ij f fd):FK P w K mg base (A_ P w) 1 f fd ["_law_handed_here","_law_found"] da:=by
 refine fE F FH fun EU A outer s H E hr=>?_
 have hu:=hr.units;exact(ar (bD (i:=2) FH.nd aq)
   (ar (lZ rfl (fV (ae 1)) (sK rfl (gj (cr (i:=3) FH.nd) (gj (cr (i:=4) FH.nd) pa))) (am (bu (IF.pt (dX (aD iT (ae 2) (bA cX rfl T.Ge PySem.boot_len (af (ae 0) ah)) (aK _)) (dr (aD (cg hu) (aL FE (ae 0) (ae 2) (fun _ _=>rfl)) (ae 4) (aK _))))) (am (bD (i:=2) FH.nd (bJ cy (ae 2) aq))) aW)))
   (am (aV (pc (cg hu) (ae 2) (bA cX rfl T.Ge PySem.boot_len (af (ae 0) ah)) (aK _))))))
theorem qN:m_ ["_law_found"] ["_law_found"] (h_ jW):=FZ
def lF:E4:=(bK (jK (Kf "int" (aa 0)) (xb (Kf "bool" (aa 0)))))
def dn:List D->M D:=mF 1 lF
theorem qX{G:Cs}(T:Txt K mg G){f:Addr}{fd:FuncData}(F:Fz K "_law_whole" "_law_whole" jW f fd):FK P w K mg base (A_ P w) 1 f fd ["_law_found"] dn:=by
 refine fE F qN fun EU A outer s H E hr=>?_
 have hu:=hr.units;exact(am (aV (kP (fA (ae 0) rfl T.FA rfl T.OO boot_int (xl _)) (nW (zG (fA (ae 0) rfl T.FA rfl T.MX boot_bool (uN _)))))))
theorem lH:m_ ["self"] ["self"] (h_ eY):=FZ
def eI(G:Cs):E4:=(bK (al gx (ac (aB G.f_ d_ 1 (aB G.World o_ 1 (aa 0))) ai)))
def cw(G:Cs):List D->M D:=mF 1 (eI G)
theorem lM{G:Cs}(T:Txt K mg G){f:Addr}{fd:FuncData}(F:Fz K "given_out" "World.given_out" eY f fd):FK P w K mg base (A_ P w) 1 f fd ["self"] (cw G):=by
 refine fE F lH fun EU A outer s H E hr=>?_
 have hu:=hr.units;exact(am (aV (fL jL rfl T.GF boot_tuple (af (aG T.n_ T.Gv aU (aG T.t_ T.FW ca (ae 0))) ah))))
theorem GW:m_ ["_law_script","_law_window","_law_most","_law_world","_law_handed_here","_law_sure","_law_act","_law_found"] ["_law_script"] (h_ rE):=FZ
def mM(G:Cs):E4:=(aI (bz (al (lc G) (ac (aa 3) (ac (aa 6) ai))))
 (aI (cn (g_ bN (aa 4) (al dB (ac (bT (ac (aa 6) ai)) ai))) (gN 4))
 (aI (cn (bh G.World o_ (eA G) (aa 3) ai) (gN 7))
 (aI (FF (G7 (cV (bO (al dn (ac (aa 7) ai)))) (G7 (ao (g_ G2 (aa 7) (aa 5))) (ao (g_ MR (aa 7) (al bq (ac (aa 4) ai)))))) (bK (dC (.bl false))) bC)
 (aI (cn (aa 7) (gN 5))
 (FF (cV (bO (al da (ac (Hb GD (aa 4) bE (bF (aa 5))) (ac (bh G.World o_ (cw G) (aa 3) ai) ai))))) (bK (dC (.bl false))) bC))))))
def we(G:Cs):E4:=(aI (cn (al eN (ac (aa 0) ai)) (gT [1,2]))
 (aI (cn (al (ie G.World (cD G)) (ac (aa 1) (ac (aa 2) ai))) (gN 3))
 (aI (cn (bT ai) (gN 4))
 (aI (cn (dC (.int 0)) (gN 5))
 (aI (pU (Ip (al gr (ac (aa 0) (ac (dC (.bl true)) ai)))) (gN 6) (mM G))
 (bK (dC (.bl true))))))))
def BR(G:Cs):List D->M D:=mF 8 (we G)
theorem B7{G:Cs}(T:Txt K mg G)(Jj:GZ P w K mg base (A_ P w) "_law_setting" 2 ["_law_script"] eN)(NY:LF P w K mg base (A_ P w) "World" G.World 3 ["self","window","most"] (cD G))(Lc:GZ P w K mg base (A_ P w) "_law_acts" 2 ["_law_script","_law_falls"] gr)(Mq:GZ P w K mg base (A_ P w) "_law_do" 9 ["_law_world","_law_act"] (lc G))(JM:GZ P w K mg base (A_ P w) "_law_handed" 3 ["_law_acts_here"] dB)(IL:Fu P w K mg base (A_ P w) G.World "sure_of" 1 ["self"] (eA G))(KD:GZ P w K mg base (A_ P w) "_law_whole" 1 ["_law_found"] dn)(Im:Fu P w K mg base (A_ P w) G.World "given_out" 1 ["self"] (cw G))(Jk:GZ P w K mg base (A_ P w) "_law_all_out" 1 ["_law_handed_here","_law_found"] da){f:Addr}{fd:FuncData}(F:Fz K "law" "law" rE f fd):FK P w K mg base (A_ P w) 10 f fd ["_law_script"] (BR G):=by
 refine fE F GW fun EU A outer s H E hr=>?_
 have hu:=hr.units;exact(ar (CG (aN Jj (hr.mono (by decide)) rfl aJ (af (ae 0) ah) (ak aH)) (sK rfl (gj (cr (i:=1) GW.nd) (gj (cr (i:=2) GW.nd) pa))))
   (ar (bD (i:=3) GW.nd (tR NY (hr.mono (by decide)) rfl aJ (af (ae 1) (af (ae 2) ah)) (eK (ak (ak aH)))))
   (ar (bD (i:=4) GW.nd (b8 ah))
   (ar (bD (i:=5) GW.nd aq)
   (ar (lZ rfl (fV (aN Lc (hr.mono (by decide)) rfl aJ (af (ae 0) (af lG ah)) (ak (ak aH)))) (cr (i:=6) GW.nd) (ar (aX (aN Mq (hr.mono (by decide)) rfl aJ (af (ae 3) (af (ae 6) ah)) (ak (ak aH))))
   (ar (bD (i:=4) GW.nd (bJ cy (ae 4) (aN JM (hr.mono (by decide)) rfl aJ (af (b8 (af (ae 6) ah)) ah) (ak aH))))
   (ar (bD (i:=7) GW.nd (db IL (hr.mono (by decide)) T.t_ (by decide +kernel) aJ (ae 3)))
   (ar (bu (IF.pt (kI (fY (cR (aN KD (hr.mono (by decide)) rfl aJ (af (ae 7) ah) (ak aH)))) (kI (aD iT (ae 7) (ae 5) (aK _)) (mV (aD xk (ae 7) (bA cX rfl T.Ge PySem.boot_len (af (ae 4) ah)) (aK _)))))) (am (aV lG)) aW)
   (ar (bD (i:=5) GW.nd (ae 7))
   (am (bu (fY (cR (aN Jk (hr.mono (by decide)) rfl aJ (af (el Nu (ae 4) gm (du (ae 5))) (af (db Im (hr.mono (by decide)) T.t_ (by decide +kernel) aJ (ae 3)) ah)) (ak (ak aH))))) (am (aV lG)) aW))))))))
   (am (aV lG)))))))
end
end Lw
namespace Lw
abbrev FN:=List Int
abbrev Pc:=Int×List Int
inductive w_ where
 |x_ (o:Nat)|s_ (o:Nat)|Gk (o:Nat)|data (o n:Nat) (p:Pc)|note (o n:Nat) (bs:List Int)
 deriving DecidableEq
def nj(k:Nat):Nat->FN->List Pc
 |0,m=>[(1,m)]
 |n+1,m=>if k<m.length then (0,m.take k) :: nj k n (m.drop k) else [(1,m)]
def fz(k:Nat)(m:FN):List Pc:=nj k 100 m
def bc(ps:List Pc):FN:=ps.flatMap (·.2)
def E7(ps:List Pc):Nat:=(ps.filter fun p=>decide (p.1=1)).length
def ju(num low:Int)(w:Nat):Int:=low+(num-low) % (2 * (w:Int))
structure Hr where
 w:Nat
 given:List (Nat×FN)
 op:Nat
 nx:Nat
 early:List (Nat×Pc)
 begun:List Pc
namespace Hr
def new(w:Nat):Hr:=⟨w,[],0,0,[],[]⟩
def begin_(h:Hr)(o:Nat):Hr:={ h with op:=o,nx:=0,early:=[],begun:=[] }
def Fp(h:Hr):Hr:=h.begin_ 0
def idx(h:Hr)(num:Nat):Int:=ju num ((h.nx:Int)-h.w) h.w
def keep(h:Hr)(num:Nat)(p:Pc):Hr:=if num<2 * h.w/\(h.nx:Int)<=h.idx num/\h.early.lookup (h.idx num).toNat=none then { h with early:=h.early++[((h.idx num).toNat,p)] } else h
def take(h:Hr)(p:Pc):Hr:=if p.1=1 then { h with given:=h.given++[(h.op,bc (h.begun++[p]))],begun:=[] } else { h with begun:=h.begun++[p] }
def pop(h:Hr):Hr:={ h with early:=h.early.filter fun e=>decide (e.1≠h.nx),nx:=h.nx+1 }
def ET:Nat->Hr->Hr
 |0,h=>h
 |n+1,h=>match h.early.lookup h.nx with
  |none=>h
  |some p=>ET n (h.pop.take p)
def bits(h:Hr):List Int:=(List.range h.w).map fun k=>if (h.early.lookup (h.nx+k)).isSome then 1 else 0
def note(h:Hr):w_:=.note h.op (h.nx % (2 * h.w)) h.bits
def data(h:Hr)(num:Nat)(p:Pc):Hr:=ET (h.keep num p).early.length (h.keep num p)
def j_(h:Hr):w_->Hr×List w_
 |.x_ o=>if o<h.op then (h,[]) else if h.op<o then (h.begin_ o,[.s_ o]) else (h,[.s_ o])
 |.data o n p=>if o<h.op then (h,[]) else if h.op<o then (h,[.Gk o]) else (h.data n p,[(h.data n p).note])
 |_=>(h,[])
end Hr
inductive St where
 |FL|opening|opened
 deriving DecidableEq
structure Sr where
 w:Nat
 most:Nat
 msgs:List FN
 sure:Nat
 op:Nat
 st:St
 ps:List Pc
 base:Nat
 D_:List Nat
namespace Sr
def new(w most:Nat):Sr:=⟨w,most,[],0,0,.FL,[],0,[]⟩
def hand(s:Sr)(m:FN):Sr:={ s with msgs:=s.msgs++[m],ps:=if s.st=.FL then s.ps else s.ps++fz s.most m }
def anew(s:Sr):Sr:={ s with op:=s.op+1,st:=.opening,ps:=(s.msgs.drop s.sure).flatMap (fz s.most),base:=0,D_:=[] }
def start(s:Sr):Sr:=if s.st=.FL then s.anew else s
def Fp(s:Sr):Sr:={ s with st:=.FL }
def wanted(s:Sr):List Nat:=(List.range' s.base (min (s.base+s.w) s.ps.length-s.base)).filter fun i=>decide (i∉s.D_)
def dataOf(s:Sr)(i:Nat):w_:=.data s.op (i % (2 * s.w)) (s.ps.getD i (0,[]))
def tick(s:Sr):List w_:=match s.st with
 |.FL=>[]
 |.opening=>[.x_ s.op]
 |.opened=>s.wanted.map s.dataOf
def EV(s:Sr):Nat->List Int->Sr
 |_,[]=>s
 |k,b :: bs=>EV (if b=1/\s.base+k<s.ps.length/\s.base+k∉s.D_ then { s with D_:=s.D_++[s.base+k] } else s) (k+1) bs
def G6(s:Sr)(i:Nat):Sr:={ s with sure:=s.sure+E7 ((s.ps.take i).drop s.base),base:=i }
def B_(s:Sr)(num:Nat)(bs:List Int):Sr:=
 if num<2 * s.w/\ju num s.base s.w<=min (s.base+s.w) s.ps.length then (s.G6 (ju num s.base s.w).toNat).EV 0 bs else s
def j_(s:Sr):w_->Sr
 |.s_ o=>if o=s.op/\s.st=.opening then { s with st:=.opened } else s
 |.Gk o=>if o=s.op/\s.st=.opened then s.anew else s
 |.note o n bs=>if o=s.op/\s.st=.opened then s.B_ n bs else s
 |_=>s
end Sr
end Lw
namespace Lw
theorem iy(a b:List Pc):bc (a++b)=bc a++bc b:=by simp[bc]
theorem uZ(p:Pc):bc [p]=p.2:=by simp[bc]
theorem dZ(a b:List Pc):E7 (a++b)=E7 a+E7 b:=by simp[E7]
theorem pB{a:List Pc}(h:∀p∈a,p.1=0):E7 a=0:=by
 unfold E7;rw[List.length_eq_zero_iff,List.filter_eq_nil_iff];intro p hp;rw[h p hp]
 decide
theorem sk(k:Nat):∀(n:Nat) (m:FN),∃pre l,nj k n m=pre++[(1,l)]/\(∀p∈pre,p.1=0)/\bc pre++l=m
 |0,m=>⟨[],m,rfl,by simp,by simp[bc]⟩
 |n+1,m=>by
  unfold nj;split
  ·obtain⟨pre,l,h1,h2,h3⟩:=sk k n (m.drop k);refine⟨(0,m.take k) :: pre,l,by rw[h1];rfl,?_,?_⟩
   ·intro p hp;rcases List.mem_cons.mp hp with rfl|hp
    ·rfl
    ·exact h2 p hp
   ·rw[show bc ((0,m.take k) :: pre)=m.take k++bc pre by simp[bc],List.append_assoc,h3,List.take_append_drop]
  ·exact⟨[],m,rfl,by simp,by simp[bc]⟩
theorem kU(k:Nat)(m:FN):∃pre l,fz k m=pre++[(1,l)]/\(∀p∈pre,p.1=0)/\bc pre++l=m:=sk k 100 m
theorem pi(k:Nat)(m:FN):E7 (fz k m)=1:=by
 obtain⟨pre,l,h1,h2,_⟩:=kU k m;rw[h1,dZ,pB h2];rfl
theorem pN(k:Nat)(m:FN):∀p∈fz k m,p.1=0\/p.1=1:=by
 obtain⟨pre,l,h1,h2,_⟩:=kU k m;intro p hp;rw[h1] at hp;rcases List.mem_append.mp hp with hp|hp
 ·exact .inl (h2 p hp)
 ·rw[List.mem_singleton.mp hp];exact .inr rfl
def qW(x:List FN×List Pc)(p:Pc):List FN×List Pc:=if p.1=1 then (x.1++[bc (x.2++[p])],[]) else (x.1,x.2++[p])
def Nz(ps:List Pc):List FN×List Pc:=ps.foldl qW ([],[])
theorem uK(ps:List Pc)(p:Pc):Nz (ps++[p])=qW (Nz ps) p:=by simp[Nz,List.foldl_append]
theorem qe:∀(ps:List Pc) (x:List FN×List Pc),(∀p∈ps,p.1=0)->ps.foldl qW x=(x.1,x.2++ps)
 |[],x,_=>by simp
 |p :: ps,x,h=>by
  have h0:p.1=0:=h p (by simp);have h1:¬p.1=1:=by rw[h0];decide
  rw[List.foldl_cons,show qW x p=(x.1,x.2++[p]) by simp[qW,h1],qe ps _ fun q hq=>h q (List.mem_cons_of_mem _ hq)];simp
theorem AC(k:Nat)(m:FN)(ms:List FN):(fz k m).foldl qW (ms,[])=(ms++[m],[]):=by
 obtain⟨pre,l,h1,h2,h3⟩:=kU k m;rw[h1,List.foldl_append,qe pre _ h2];simp[qW,iy,uZ,h3]
def fl(k:Nat)(ms:List FN):List Pc:=ms.flatMap (fz k)
theorem sE(k:Nat)(a b:List FN):fl k (a++b)=fl k a++fl k b:=by simp[fl]
theorem sS(k:Nat)(m:FN)(ms:List FN):fl k (m :: ms)=fz k m++fl k ms:=by simp[fl]
theorem vm(k:Nat):∀ms:List FN,E7 (fl k ms)=ms.length
 |[]=>rfl
 |m :: ms=>by rw[sS,dZ,pi,vm k ms,List.length_cons];omega
theorem Ah(k:Nat)(ms:List FN):∀p∈fl k ms,p.1=0\/p.1=1:=by
 intro p hp;obtain⟨m,_,h⟩:=List.mem_flatMap.mp hp;exact pN k m p h
theorem zr(k:Nat):∀(ms:List FN) (n:Nat) (acc:List FN),∃b,((fl k ms).take n).foldl qW (acc,[])=(acc++ms.take (E7 ((fl k ms).take n)),b)
 |[],n,acc=>⟨[],by simp[fl]⟩
 |m :: ms,n,acc=>by
  rw[sS];by_cases h:(fz k m).length<=n
  ·obtain⟨b,hb⟩:=zr k ms (n-(fz k m).length) (acc++[m]);refine⟨b,?_⟩;rw[List.take_append,List.take_of_length_le h,List.foldl_append,AC,hb,dZ,pi,Nat.add_comm 1,List.take_succ_cons,List.append_assoc];rfl
  ·obtain⟨pre,l,h1,h2,h3⟩:=kU k m;have hz:∀p∈((fz k m++fl k ms).take n),p.1=0:=by
    intro p hp;rw[List.take_append_of_le_length (by omega),h1] at hp;rw[h1,List.length_append,List.length_singleton] at h;rw[List.take_append_of_le_length (by omega)] at hp;exact h2 p (List.mem_of_mem_take hp)
   refine⟨(fz k m++fl k ms).take n,?_⟩;rw[qe _ _ hz,pB hz];simp
theorem ug(k:Nat)(ms:List FN)(n:Nat):(Nz ((fl k ms).take n)).1=ms.take (E7 ((fl k ms).take n)):=by
 obtain⟨b,hb⟩:=zr k ms n [];unfold Nz;rw[hb];simp
theorem qz(a:List Pc){i j:Nat}(h:i<=j):E7 (a.take i)<=E7 (a.take j):=by
 have e:a.take j=a.take i++(a.take j).drop i:=by
  have:=List.take_append_drop i (a.take j);rw[List.take_take,Nat.min_eq_left h] at this;exact this.symm
 rw[e,dZ];omega
theorem ol(k:Nat)(ms:List FN)(n:Nat):E7 ((fl k ms).take n)<=ms.length:=by
 rw[<-vm k ms];have:=dZ ((fl k ms).take n) ((fl k ms).drop n);rw[List.take_append_drop] at this;omega
theorem uM{i low:Int}{w:Nat}(hw:0<w)(h1:low<=i)(h2:i<low+2 * w):ju (i % (2 * (w:Int))) low w=i:=by
 unfold ju;have hm:(0:Int)<2 * (w:Int):=by omega
 have e:(i % (2 * (w:Int))-low) % (2 * (w:Int))=(i-low) % (2 * (w:Int)):=by
  rw[Int.sub_emod,Int.emod_emod_of_dvd _ (Int.dvd_refl _),<-Int.sub_emod]
 rw[e,Int.emod_eq_of_lt (by omega) (by omega)];omega
end Lw
namespace Lw
open PySem L2 DL
def Fe(p:Pc):D:=.tup [.int p.1,.tup (p.2.map D.int)]
def EH(m:FN):D:=.tup (m.map D.int)
def l_:w_->D
 |.x_ o=>.tup [.str "hello",.int (o:Int)]
 |.s_ o=>.tup [.str "welcome",.int (o:Int)]
 |.Gk o=>.tup [.str "who",.int (o:Int)]
 |.data o n p=>.tup [.str "data",.int (o:Int),.int (n:Int),Fe p]
 |.note o n bs=>.tup [.str "note",.int (o:Int),.int (n:Int),.tup (bs.map D.int)]
theorem dy{S:List Cell}{i j:Nat}{c d:Cell}(h1:S[i]?=some c)(h2:S[j]?=some d)(h:c≠d):i≠j:=fun e=>h (by subst e;rw[h1] at h2;injection h2)
theorem cY(n:Nat):∀is:List Int,jb n (is.map D.int)
 |[]=>by simp[jb]
 |i :: is=>by simp[jb,Gp,cY n is]
theorem CV(n:Nat)(x:FN):Gp n (EH x):=by simp[EH,Gp,cY]
theorem DE(n:Nat)(p:Pc):Gp n (Fe p):=by simp[Fe,Gp,jb,cY]
theorem z0(n:Nat):∀ps:List Pc,jb n (ps.map Fe)
 |[]=>by simp[jb]
 |p :: ps=>by rw[List.map_cons];exact⟨DE n p,z0 n ps⟩
end Lw
namespace Lw
open PySem L2 DL
theorem um{k:Nat}(hk:1<=k):∀(n:Nat) (m:FN),(nj k n m).length<=m.length+1
 |0,m=>by simp[nj]
 |n+1,m=>by
  unfold nj;split
  ·have:=um hk n (m.drop k);rw[List.length_drop] at this;rw[List.length_cons];omega
  ·simp
theorem mE{k:Nat}(hk:1<=k)(m:FN):(fz k m).length<=m.length+1:=um hk 100 m
theorem oa{k:Nat}(hk:1<=k){x0 x1:Option D}{S:List Cell}:∀(fuel:Nat) (acc:List Pc) (m:FN),m.length<fuel->acc.length+m.length<1000000->∃pre l,nj k fuel m=pre++[(1,l)]/\pre.length<=m.length/\
  fO (ao (g_ MR (al bq (ac (aa 4) ai)) (aa 2))) (aI (bz (Ij j6 (aa 3) (ac (cj (ac (dC (.int 0)) (ac (Hb GD (aa 4) bE (bF (aa 2))) ai))) ai)))
 (cn (Hb GD (aa 4) (bF (aa 2)) bE) (gN 4))) fuel [x0,x1,some (.int (k:Int)),some (.ob S.length),some (EH m)] (S++[.lst (acc.map Fe)])=some (.nx [x0,x1,some (.int (k:Int)),some (.ob S.length),some (EH l)],S++[.lst ((acc++pre).map Fe)])
 |0,_,_,h,_=>by omega
 |f+1,acc,m,h,hz=>by
  have t1:ao (g_ MR (al bq (ac (aa 4) ai)) (aa 2)) [x0,x1,some (.int (k:Int)),some (.ob S.length),some (EH m)] (S++[.lst (acc.map Fe)])=.ok (decide (k<m.length)) (S++[.lst (acc.map Fe)]):=by
   refine az (au (x:=.int (m.length:Int)) (ax (ag rfl aj) (by unfold EH;rw[cq,List.length_map])) rfl ?_);rw[BK];congr 2;rw[decide_eq_decide];omega
  by_cases hc:k<m.length
  ·rw[decide_eq_true hc] at t1;obtain⟨pre,l,p1,p2,p3⟩:=oa (x0:=x0) (x1:=x1) (S:=S) hk f (acc++[(0,m.take k)]) (m.drop k) (by rw[List.length_drop];omega) (by rw[List.length_append,List.length_drop,List.length_singleton];omega);refine⟨(0,m.take k) :: pre,l,?_,?_,?_⟩
   ·rw[nj,if_pos hc,p1];rfl
   ·rw[List.length_drop] at p2;rw[List.length_cons];omega
   ·have c1:fD (m.map D.int) none (some (k:Int))=(m.take k).map D.int:=by rw[sG (by simp;omega),List.map_take]
    have c2:fD (m.map D.int) (some (k:Int)) none=(m.drop k).map D.int:=by rw[fH (by simp;omega),List.map_drop]
    have s1:∀T,Hb GD (aa 4) bE (bF (aa 2)) [x0,x1,some (.int (k:Int)),some (.ob S.length),some (EH m)] T=.ok (EH (m.take k)) T:=fun T=>by
     simp only[kL,av,ja,List.getElem?_cons_succ,List.getElem?_cons_zero,dE,jB,eC,eT,EH,GD,c1]
    have s2:∀T,Hb GD (aa 4) (bF (aa 2)) bE [x0,x1,some (.int (k:Int)),some (.ob S.length),some (EH m)] T=.ok (EH (m.drop k)) T:=fun T=>by
     simp only[kL,av,ja,List.getElem?_cons_succ,List.getElem?_cons_zero,dE,jB,eC,eT,EH,GD,c2]
    have Jc:∀a c:Cell,(S++[a]).set S.length c=S++[c]:=fun a c=>by rw[List.set_append_right _ _ (Nat.le_refl _)];simp
    have ee:=vg (S:=S++[.lst (acc.map Fe)]) (n:=S.length) (xs:=acc.map Fe) (d:=Fe (0,m.take k)) (aP rfl) (by simp;omega);rw[Jc] at ee;have e2:acc.map Fe++[Fe (0,m.take k)]=(acc++[(0,m.take k)]).map Fe:=by simp
    rw[e2] at ee;rw[DS t1 (r2:=[x0,x1,some (.int (k:Int)),some (.ob S.length),some (EH (m.drop k))]) (S2:=S++[.lst ((acc++[(0,m.take k)]).map Fe)])]
    ·rw[p3];simp
    ·rw[aw (aZ (lE rfl (aP rfl) (ag (bM (ag rfl (ag (s1 _) aj)) (by simp)) aj) ee)),bw (s2 _)];rfl
  ·rw[decide_eq_false hc] at t1;refine⟨[],m,by rw[nj,if_neg hc];rfl,by simp,?_⟩;rw[Ci t1,List.append_nil]
theorem si{k:Nat}(hk:1<=k){m:FN}(hm:m.length<=40)(S:List Cell):dg [EH m,.int (k:Int)] S=.ok (.tup ((fz k m).map Fe)) S:=by
 show cG S (jO 100 [some (EH m),some (.int (k:Int)),none,none,none] S)=_;unfold jO;have Tt:Cf [.int (k:Int),.int 1] S=.ok (.int (k:Int)) S:=by
  rw[Do];congr 2;omega
 rw[aw (bw (ax (ag rfl (ag rfl aj)) Tt))];show cG S (aI _ _ [some (EH m),some (.int (k:Int)),some (.int (k:Int)),none,none] S)=_;rw[aw (bw (bY aj (by decide)))];show cG S (aI _ _ [some (EH m),some (.int (k:Int)),some (.int (k:Int)),some (.ob S.length),none] (S++[.lst []]))=_;rw[aw (bw (d:=EH m) rfl)];show cG S (aI _ _ [some (EH m),some (.int (k:Int)),some (.int (k:Int)),some (.ob S.length),some (EH m)] (S++[.lst []]))=_;obtain⟨pre,l,p1,p2,p3⟩:=oa (x0:=some (EH m)) (x1:=some (.int (k:Int))) (S:=S) hk 100 [] m (by omega) (by simp;omega);rw[List.map_nil] at p3;have Jc:∀a c:Cell,(S++[a]).set S.length c=S++[c]:=fun a c=>by rw[List.set_append_right _ _ (Nat.le_refl _)];simp
 have ee:=vg (S:=S++[.lst (pre.map Fe)]) (n:=S.length) (xs:=pre.map Fe) (d:=Fe (1,l)) (aP rfl) (by simp;omega);rw[Jc] at ee;have e2:pre.map Fe++[Fe (1,l)]=(fz k m).map Fe:=by unfold fz;rw[p1];simp
 rw[e2] at ee;rw[aw p3,List.nil_append,aw (aZ (lE rfl (aP rfl) (ag (bM (ag rfl (ag rfl aj)) (by simp)) aj) ee)),aR (ax (ag (x:=.ob S.length) rfl aj) (fC (aP rfl)))];exact li (by unfold Gp;exact z0 _ _)
end Lw
namespace Lw
open PySem L2 DL
def OQ:St->Str
 |.FL=>"shut"
 |.opening=>"opening"
 |.opened=>"open"
def MA(l:List Nat):List (Key×D):=l.map fun(k:Nat)=>(Sum.inl (k:Int),.bl true)
structure Fc(G:Cs)(S:List Cell)(n m p q:Nat)(s:Sr):Prop where
 ob:S[n]?=some (.ins G.c_ a_ [.int (s.w:Int),.int (s.most:Int),.ob m,.int (s.sure:Int),.int (s.op:Int),.str (OQ s.st),.ob p,.int (s.base:Int),.ob q])
 ms:S[m]?=some (.lst (s.msgs.map EH))
 ps:S[p]?=some (.lst (s.ps.map Fe))
 nt:S[q]?=some (.Gu (MA s.D_))
 mp:m≠p
section
variable{G:Cs}{S S' S1 S2:List Cell}{n m p q p1 q1 p2 q2 p' q':Nat}{s s' s1 s2:Sr}
theorem Fc.nm(a:Fc G S n m p q s):n≠m:=dy a.ob a.ms (by intro z;cases z)
theorem Fc.np(a:Fc G S n m p q s):n≠p:=dy a.ob a.ps (by intro z;cases z)
theorem Fc.nq(a:Fc G S n m p q s):n≠q:=dy a.ob a.nt (by intro z;cases z)
theorem Fc.mq(a:Fc G S n m p q s):m≠q:=dy a.ms a.nt (by intro z;cases z)
theorem Fc.pq(a:Fc G S n m p q s):p≠q:=dy a.ps a.nt (by intro z;cases z)
theorem Fc.push(a:Fc G S n m p q s)(c:List Cell):Fc G (S++c) n m p q s:=⟨aC a.ob,aC a.ms,aC a.ps,aC a.nt,a.mp⟩
structure Gm(G:Cs)(n m p q:Nat)(S:List Cell)(p' q':Nat)(S':List Cell)(s':Sr):Prop where
 at_:Fc G S' n m p' q' s'
 fr:Fr [n,m,p,q] S S'
 p_:p'=p\/S.length<=p'
 q_:q'=q\/S.length<=q'
theorem Gm.trans(a:Gm G n m p q S p1 q1 S1 s1)(c:Gm G n m p1 q1 S1 p2 q2 S2 s2):Gm G n m p q S p2 q2 S2 s2:=by
 have hl:=a.fr.1;refine⟨c.at_,a.fr.trans c.fr fun i hi hs=>?_,?_,?_⟩
 ·simp only[List.mem_cons,List.not_mem_nil,or_false] at hi ⊢;have he:=a.p_;have hb:=a.q_;omega
 ·have:=a.p_;have:=c.p_;omega
 ·have:=a.q_;have:=c.q_;omega
theorem Gm.refl(a:Fc G S n m p q s):Gm G n m p q S p q S s:=⟨a,Fr.refl _ _,.inl rfl,.inl rfl⟩
theorem Gm.push(a:Gm G n m p q S p' q' S' s')(c:List Cell):Gm G n m p q S p' q' (S'++c) s':=⟨a.at_.push c,a.fr.tr Fr.push,a.p_,a.q_⟩
theorem zS(a:Fc G S n m p q s)(r:tB):aB G.c_ a_ 0 (aa 0) (some (.ob n) :: r) S=.ok (.int (s.w:Int)) S:=bU rfl a.ob rfl
theorem wR(a:Fc G S n m p q s)(r:tB):aB G.c_ a_ 1 (aa 0) (some (.ob n) :: r) S=.ok (.int (s.most:Int)) S:=bU rfl a.ob rfl
theorem BS(a:Fc G S n m p q s)(r:tB):aB G.c_ a_ 2 (aa 0) (some (.ob n) :: r) S=.ok (.ob m) S:=bU rfl a.ob rfl
theorem AH(a:Fc G S n m p q s)(r:tB):aB G.c_ a_ 3 (aa 0) (some (.ob n) :: r) S=.ok (.int (s.sure:Int)) S:=bU rfl a.ob rfl
theorem y6(a:Fc G S n m p q s)(r:tB):aB G.c_ a_ 4 (aa 0) (some (.ob n) :: r) S=.ok (.int (s.op:Int)) S:=bU rfl a.ob rfl
theorem rB(a:Fc G S n m p q s)(r:tB):aB G.c_ a_ 5 (aa 0) (some (.ob n) :: r) S=.ok (.str (OQ s.st)) S:=bU rfl a.ob rfl
theorem pJ(a:Fc G S n m p q s)(r:tB):aB G.c_ a_ 6 (aa 0) (some (.ob n) :: r) S=.ok (.ob p) S:=bU rfl a.ob rfl
theorem ld(a:Fc G S n m p q s)(r:tB):aB G.c_ a_ 7 (aa 0) (some (.ob n) :: r) S=.ok (.int (s.base:Int)) S:=bU rfl a.ob rfl
theorem Du(a:Fc G S n m p q s)(r:tB):aB G.c_ a_ 8 (aa 0) (some (.ob n) :: r) S=.ok (.ob q) S:=bU rfl a.ob rfl
theorem uC(a b:St)(S:List Cell):EX (.str (OQ a)) (.str (OQ b)) S=.ok (.bl (decide (a=b))) S:=by
 cases a<;>cases b<;>exact bg
theorem DA(a b:St)(S:List Cell):Hm (.str (OQ a)) (.str (OQ b)) S=.ok (.bl (!decide (a=b))) S:=by
 cases a<;>cases b<;>exact zq
structure Sb(N:Nat)(s:Sr):Prop where
 most:1<=s.most
 ml:s.msgs.length<=N
 NA:∀x,x∈s.msgs->x.length<=40
 pl:s.ps.length<=41 * N
 fg:∀x,x∈s.ps->x.1=0\/x.1=1
 nl:s.D_.length<=7 * N
theorem vP{k:Nat}(hk:1<=k):∀{ms:List FN},(∀x,x∈ms->x.length<=40)->(fl k ms).length<=41 * ms.length
 |[],_=>by simp[fl]
 |x :: ms,h=>by
  have h1:=mE hk x;have h2:=h x (by simp);have h3:=vP hk (ms:=ms) fun y hy=>h y (List.mem_cons_of_mem _ hy)
  rw[sS,List.length_append,List.length_cons];omega
theorem Sb.mono{N M:Nat}(b:Sb N s)(h:N<=M):Sb M s:=⟨b.most,Nat.le_trans b.ml h,b.NA,by have:=b.pl;omega,b.fg,by have:=b.nl;omega⟩
theorem Sb.hand{N:Nat}{x:FN}(b:Sb N s)(hx:x.length<=40):Sb (N+1) (s.hand x):=by
 have h1:=b.ml;have h2:=b.pl;have h3:=mE b.most x;refine⟨b.most,?_,?_,?_,?_,by have:=b.nl;show s.D_.length<=_;omega⟩
 ·show(s.msgs++[x]).length<=_;rw[List.length_append,List.length_singleton];omega
 ·intro y hy;rcases List.mem_append.mp hy with hy|hy
  ·exact b.NA y hy
  ·rw[List.mem_singleton.mp hy];exact hx
 ·show(if s.st=.FL then s.ps else s.ps++fz s.most x).length<=_;split
  ·omega
  ·rw[List.length_append];omega
 ·intro y hy;have Tu:y∈(if s.st=.FL then s.ps else s.ps++fz s.most x):=hy;split at Tu
  ·exact b.fg y Tu
  ·rcases List.mem_append.mp Tu with hy|hy
   ·exact b.fg y hy
   ·exact pN _ _ y hy
theorem Sb.anew{N:Nat}(b:Sb N s):Sb N s.anew:=by
 refine⟨b.most,b.ml,b.NA,?_,Ah _ _,Nat.zero_le _⟩;have:=vP b.most (ms:=s.msgs.drop s.sure) fun x hx=>b.NA x (List.mem_of_mem_drop hx)
 rw[List.length_drop] at this;have h1:=b.ml;show(fl s.most (s.msgs.drop s.sure)).length<=_;omega
theorem As{N:Nat}(a:Fc G S n m p q s)(b:Sb N s)(hN:N<20000){x:FN}(hx:x.length<=40):∃S',gg G [.ob n,EH x] S=.ok .EJ S'/\Gm G n m p q S p q S' (s.hand x):=by
 show ∃S',fin S (ip G [some (.ob n),some (EH x)] S)=_/\_;unfold ip;have Wo:=b.ml;have K3:=b.pl;have Mz:=mE b.most x;obtain⟨S1,q1,c1⟩:=tP (fo:=aB G.c_ a_ 2 (aa 0)) (ft:=ac (aa 1) ai) (r:=[some (.ob n),some (EH x)]) (BS a _) a.ms (ag rfl aj) (by rw[List.length_map];omega);have a1:Fc G S1 n m p q { s with msgs:=s.msgs++[x] }:=⟨c1.old a.ob a.nm.symm,by simpa using c1.at_,c1.old a.ps a.mp,c1.old a.nt a.mq,a.mp⟩;have f1:Fr [n,m,p,q] S S1:=c1.fp (by simp);rw[aw (aZ q1)];have t1:ao (g_ Hm (aB G.c_ a_ 5 (aa 0)) (dC (.str "shut"))) [some (.ob n),some (EH x)] S1=.ok (!decide (s.st=.FL)) S1:=az (au (rB a1 _) rfl (DA s.st .FL _));by_cases hs:s.st=.FL
 ·rw[decide_eq_true hs] at t1;have e1:s.hand x = { s with msgs:=s.msgs++[x] }:=by unfold Sr.hand;rw[if_pos hs]
  rw[ay t1,e1];exact⟨S1,rfl,a1,f1,.inl rfl,.inl rfl⟩
 ·rw[decide_eq_false hs] at t1;have e1:s.hand x = { s with msgs:=s.msgs++[x],ps:=s.ps++fz s.most x }:=by unfold Sr.hand;rw[if_neg hs]
  obtain⟨S2,q2,c2⟩:=yS (fo:=aB G.c_ a_ 6 (aa 0)) (ft:=ac (al dg (ac (aa 1) (ac (aB G.c_ a_ 1 (aa 0)) ai))) ai) (r:=[some (.ob n),some (EH x)]) (pJ a1 _) a1.ps
   (ag (ax (ag rfl (ag (wR a1 _) aj)) (si b.most hx S1)) aj) (by rw[List.length_map,List.length_map];show s.ps.length+_<=_;omega)
  rw[aT t1,aZ q2,e1];refine⟨S2,rfl,⟨c2.old a1.ob a.np.symm,c2.old a1.ms a.mp.symm,by simpa using c2.at_,c2.old a1.nt a.pq,a.mp⟩,f1.tr (c2.fp (by simp)),.inl rfl,.inl rfl⟩
end
end Lw
namespace Lw
open PySem L2 DL
section
variable{G:Cs}{S S' S1 S2:List Cell}{n m p q p1 q1 p2 q2 p' q':Nat}{s s' s1 s2:Sr}
theorem Bg(a:Fc G S n m p q s):∃S',gh G [.ob n] S=.ok .EJ S'/\Gm G n m p q S p q S' s.Fp:=by
 show ∃S',fin S (ib G [some (.ob n)] S)=_/\_;unfold ib;obtain⟨S1,q1,c1⟩:=gE (fo:=aa 0) (fe:=dC (.str "shut")) (r:=[some (.ob n)]) (i:=5) rfl rfl a.ob rfl;rw[q1];exact⟨S1,rfl,⟨c1.at_,c1.old a.ms a.nm,c1.old a.ps a.np,c1.old a.nt a.nq,a.mp⟩,c1.fp (by simp),.inl rfl,.inl rfl⟩
end
end Lw
namespace Lw
open PySem L2 DL
section
variable{G:Cs}{S S' S1 S2:List Cell}{n m p q p1 q1 p2 q2 p' q':Nat}{s s' s1 s2:Sr}{N:Nat}
theorem zl{k:Nat}{ms:List FN}{i:Nat}{x:FN}(h:ms[i]?=some x):fl k (ms.take (i+1))=fl k (ms.take i)++fz k x:=by
 rw[List.take_add_one,h,Option.toList_some,sE];simp[fl]
theorem ya{s:Sr}(b:Sb N s)(hN:N<=20000){ms:List FN}(RC:∀x,x∈ms->x.length<=40)(hl:ms.length<=N){kk:Nat}{x1:Option D}(a:Fc G S n m p q s)(Yx:s.ps=[])(hk:S[kk]?=some (.lst (ms.map EH)))(Wq:kk≠p) :
  ∃S' OR,ig (some (kk,ms.map EH)) (gN 1) (dH G) (ms.map EH) [some (.ob n),x1] S=some (.nx [some (.ob n),OR],S')/\Fc G S' n m p q { s with ps:=fl s.most ms }/\Fr [p] S S':=by
 obtain⟨r',S',e,OR,rfl,a',f',_⟩:=dR (g:=some (kk,ms.map EH)) (tg:=gN 1) (b:=dH G)
  (fun i r S'=>∃OR,r=[some (.ob n),OR]/\Fc G S' n m p q { s with ps:=fl s.most (ms.take i) }/\Fr [p] S S'/\S'[kk]?=some (.lst (ms.map EH))) (ms.map EH) 0 [some (.ob n),x1] S
  (by
   rintro i y r S' hy ⟨OR,rfl,a',f',k'⟩;rw[List.getElem?_map] at hy;cases hx:ms[i]? with
   |none=>rw[hx] at hy;cases hy
   |some x=>
    rw[hx] at hy;cases hy;rw[Nat.zero_add] at a' ⊢;have Yy:=List.mem_of_getElem? hx;have OD:=(List.getElem?_eq_some_iff.mp hx).1;have l1:=vP b.most (ms:=ms.take i) fun y hy=>RC y (List.mem_of_mem_take hy)
    have l2:=mE b.most x;have l3:=RC x Yy;rw[List.length_take] at l1;obtain⟨S2,q2,c2⟩:=yS (fo:=aB G.c_ a_ 6 (aa 0)) (ft:=ac (al dg (ac (aa 1) (ac (aB G.c_ a_ 1 (aa 0)) ai))) ai) (r:=[some (.ob n),some (EH x)]) (pJ a' _) a'.ps
     (ag (ax (ag rfl (ag (wR a' _) aj)) (si b.most l3 S')) aj) (by rw[List.length_map,List.length_map];show(fl s.most (ms.take i)).length+_<=_;omega)
    refine⟨[some (.ob n),some (EH x)],[some (.ob n),some (EH x)],S2,rfl,aZ q2,c2.old k' Wq.symm,some (EH x),rfl,?_,f'.tr (c2.fp (by simp)),c2.old k' Wq.symm⟩;refine⟨c2.old a'.ob a.np.symm,c2.old a'.ms a.mp.symm,?_,c2.old a'.nt a.pq,a.mp⟩;show S2[p]?=some (.lst ((fl s.most (ms.take (i+1))).map Fe));rw[zl hx,List.map_append];exact c2.at_)
  ⟨x1,rfl,⟨a.ob,a.ms,by show S[p]?=some (.lst ((fl s.most (ms.take 0)).map Fe));rw[List.take_zero];have:=a.ps;rw[Yx] at this;exact this,a.nt,a.mp⟩,Fr.refl _ _,hk⟩
 refine⟨S',OR,e,?_,f'⟩;rw[show 0+(ms.map EH).length=ms.length by simp,List.take_length] at a';exact a'
theorem xf(a:Fc G S n m p q s)(b:Sb N s)(hN:N<=20000):∃S' p' q',bI G [.ob n] S=.ok .EJ S'/\Gm G n m p q S p' q' S' s.anew:=by
 show ∃S' p' q',fin S (d7 G [some (.ob n),none] S)=_/\_;unfold d7;have ln:=bj a.ob;have lm:=bj a.ms;have lp:=bj a.ps;have lq:=bj a.nt;obtain⟨S1,e1,c1⟩:=wP (fo:=aa 0) (fe:=dC (.int 1)) (r:=[some (.ob n),none]) (i:=4) rfl a.ob rfl rfl rfl;obtain⟨S2,e2,c2⟩:=gE (fo:=aa 0) (fe:=dC (.str "opening")) (r:=[some (.ob n),none]) (i:=5) rfl rfl c1.at_ rfl;obtain⟨S3,e3,c3⟩:=gE (fo:=aa 0) (fe:=bT ai) (r:=[some (.ob n),none]) (i:=6) (bY aj (by decide)) rfl (aC (G:=[.lst []]) c2.at_) rfl;have l1:=c1.len;have l2:=c2.len;have l3:=c3.len;rw[List.length_append,List.length_singleton] at l3;have Yz:S3[m]?=some (.lst (s.msgs.map EH)):=c3.old (aC (c2.old (c1.old a.ms a.nm) a.nm)) a.nm;have a3:Fc G S3 n m S2.length q { s with op:=s.op+1,st:=.opening,ps:=[] }:=
  ⟨c3.at_,Yz,c3.old (aP rfl) (by omega),c3.old (aC (c2.old (c1.old a.nt a.nq) a.nq)) a.nq,by omega⟩
 have f3:Fr [n] S S3:=((c1.fr.tr c2.fr).tr Fr.push).tr c3.fr;have b3:Sb N { s with op:=s.op+1,st:=.opening,ps:=[] }:=⟨b.most,b.ml,b.NA,Nat.zero_le _,by simp,b.nl⟩;have Pu:fD (s.msgs.map EH) (some (s.sure:Int)) none=(s.msgs.drop s.sure).map EH:=by
  unfold fD;rw[HT.G_,HT.Ib,List.map_drop];by_cases h:s.sure<=(s.msgs.map EH).length
  ·rw[Nat.min_eq_left h,List.take_of_length_le (by rw[List.length_drop];omega)]
  ·rw[Nat.min_eq_right (by omega),List.drop_of_length_le (Nat.le_refl _),List.drop_of_length_le (by omega)];simp
 have w1:Ip (Hb GD (aB G.c_ a_ 2 (aa 0)) (bF (aB G.c_ a_ 3 (aa 0))) bE) [some (.ob n),none] S3=.ok ⟨(s.msgs.drop s.sure).map EH,some (S3.length,(s.msgs.drop s.sure).map EH)⟩ (S3++[.lst ((s.msgs.drop s.sure).map EH)]):=by
  have:Hb GD (aB G.c_ a_ 2 (aa 0)) (bF (aB G.c_ a_ 3 (aa 0))) bE [some (.ob n),none] S3=.ok (.ob S3.length) (S3++[.lst ((s.msgs.drop s.sure).map EH)]):=by
   rw[kL,av,BS a3];dsimp only;rw[av,eC,av,AH a3];simp only[eT,jB,dE,av,GD,bZ a3.ms];rw[show({ s with op:=s.op+1,st:=.opening,ps:=[] }:Sr).sure=s.sure from rfl,Pu]
  rw[oq,av,this];simp only[lL,bR]
 have YA:(s.msgs.drop s.sure).length<=N:=by have:=b.ml;rw[List.length_drop];omega
 obtain⟨S4,x4,e4,a4,f4⟩:=ya (x1:=none) b3 hN (ms:=s.msgs.drop s.sure) (fun x hx=>b.NA x (List.mem_of_mem_drop hx)) YA (kk:=S3.length) (a3.push [.lst ((s.msgs.drop s.sure).map EH)]) rfl (aP rfl) (by omega);have l4:=f4.1;rw[List.length_append,List.length_singleton] at l4;obtain⟨S5,e5,c5⟩:=gE (fo:=aa 0) (fe:=dC (.int 0)) (r:=[some (.ob n),x4]) (i:=7) rfl rfl a4.ob rfl;obtain⟨S6,e6,c6⟩:=gE (fo:=aa 0) (fe:=kg) (r:=[some (.ob n),x4]) (i:=8) rfl rfl (aC (G:=[.Gu []]) c5.at_) rfl;have l5:=c5.len;have lp4:=bj a4.ps;refine⟨S6,S2.length,S5.length,?_,⟨⟨c6.at_,c6.old (aC (c5.old a4.ms a.nm)) a.nm,c6.old (aC (c5.old a4.ps (by omega))) (by omega),c6.old (aP rfl) (by omega),by omega⟩,?_,.inr (by omega),.inr (by omega)⟩⟩
 ·rw[aw e1,aw e2,aw e3,aw (by rw[mh w1];exact e4),aw e5,e6];rfl
 ·have g1:Fr [n,m,p,q] S S3:=f3.mono fun i hi _=>by simp at hi;simp[hi]
  have g2:Fr [n,m,p,q] S S4:=(g1.tr Fr.push).trans f4 fun i hi hs=>by
   have:i=S2.length:=by simpa using hi
   omega
  exact((g2.tr (c5.fp (by simp))).tr Fr.push).tr (c6.fp (by simp))
theorem zX(a:Fc G S n m p q s)(b:Sb N s)(hN:N<=20000):∃S' p' q',ff G [.ob n] S=.ok .EJ S'/\Gm G n m p q S p' q' S' s.start:=by
 show ∃S' p' q',fin S (gF G [some (.ob n)] S)=_/\_;unfold gF;have t1:ao (g_ EX (aB G.c_ a_ 5 (aa 0)) (dC (.str "shut"))) [some (.ob n)] S=.ok (decide (s.st=.FL)) S:=az (au (rB a _) rfl (uC s.st .FL _));by_cases hs:s.st=.FL
 ·rw[decide_eq_true hs] at t1;obtain⟨S',p',q',e1,k1⟩:=xf a b hN;refine⟨S',p',q',?_,?_⟩
  ·rw[aT t1,aZ (ba rfl a.ob aj e1)];rfl
  ·unfold Sr.start;rw[if_pos hs];exact k1
 ·rw[decide_eq_false hs] at t1;refine⟨S,p,q,?_,?_⟩
  ·rw[ay t1];rfl
  ·unfold Sr.start;rw[if_neg hs];exact Gm.refl a
end
end Lw
namespace Lw
open PySem L2 DL
section
variable{G:Cs}{S S' S1 S2:List Cell}{n m p q p1 q1 p2 q2 p' q':Nat}{s s' s1 s2:Sr}{N:Nat}
theorem B8(l:List Nat)(k:Nat):(gO (MA l) (.inl (k:Int))).isSome=decide (k∈l):=by
 induction l with
 |nil=>rfl
 |cons a r ih=>
  unfold MA at ih ⊢;rw[List.map_cons];unfold gO at ih ⊢;rw[List.find?_cons];by_cases h:a=k
  ·subst h;simp
  ·have h2:decide ((Sum.inl (a:Int):Key)=Sum.inl (k:Int))=false:=decide_eq_false fun z=>h (by injection z with z;omega)
   simp only[h2];rw[ih];simp[Ne.symm h]
theorem vp{m w:Nat}(hw:0<w)(S:List Cell):dP [.int (m:Int),.int (w:Int)] S=.ok (.int ((m % (2 * w):Nat):Int)) S:=by
 have h1:(0:Int)<2 * (w:Int):=by omega
 simp[dP,mI,dc h1]
theorem xE(a:Fc G S n m p q s)(hw:0<s.w){i:Nat}(hi:i<s.ps.length):df G [.ob n,.int (i:Int)] S=.ok (l_ (s.dataOf i)) S:=by
 show fin S (eV G [some (.ob n),some (.int (i:Int))] S)=_;unfold eV;have hx:s.ps[i]?=some (s.ps.getD i (0,[])):=by simp[List.getD,hi]
 have e1:v_ (.ob p) (.int (i:Int)) S=.ok (Fe (s.ps.getD i (0,[]))) S:=iS a.ps (by rw[List.getElem?_map,hx];rfl);rw[aR (bM (ag rfl (ag (y6 a _) (ag (ax (ag rfl (ag (zS a _) aj)) (vp hw S)) (ag (au (pJ a _) rfl e1) aj)))) (by simp))];rfl
theorem BB{lo hi:Nat}(h:hi<=1000000)(S:List Cell):uI (.int (lo:Int)) (.int (hi:Int)) S=.ok ⟨gP (lo:Int) 1 (hi-lo),none⟩ S\/hi<lo:=by
 by_cases hl:hi<lo
 ·exact .inr hl
 ·refine .inl ?_;show uO (lo:Int) (hi:Int) 1 S=_;have hs:Builtin.Range.small (lo:Int) (hi:Int) 1=true:=small_one (by omega) (by omega) (by omega) (by omega);unfold uO;have e:(if (lo:Int)<(hi:Int) then (hi:Int)-(lo:Int) else 0).toNat=hi-lo:=by split<;>omega
  rw[ci ⟨⟨by omega,by omega⟩,hs⟩,rangeSize_one,e]
theorem ym(a:Fc G S n m p q s)(hN:s.ps.length<=1000000)(hb:s.base<=s.ps.length):dw G [.ob n] S=.ok (.ob S.length) (S++[.lst (s.wanted.map fun(i:Nat)=>.int (i:Int))]):=by
 show fin S (fB G [some (.ob n),none] S)=_;unfold fB;have e1:al xL (ac (g_ bN (aB G.c_ a_ 7 (aa 0)) (aB G.c_ a_ 0 (aa 0))) (ac (al bq (ac (aB G.c_ a_ 6 (aa 0)) ai)) ai)) [some (.ob n),none] S=.ok (.int ((min (s.base+s.w) s.ps.length:Nat):Int)) S:=by
  refine ax (ag (au (ld a _) (zS a _) (cf _ _)) (ag (ax (ag (pJ a _) aj) (gp a.ps)) aj)) ?_;rw[BY,List.length_map];congr 2;omega
 rw[aw (bw e1)];show fin S (bK _ [some (.ob n),some (.int ((min (s.base+s.w) s.ps.length:Nat):Int))] S)=_;obtain⟨hi,Tv⟩:∃hi,min (s.base+s.w) s.ps.length=hi:=⟨_,rfl⟩;have Rm:s.base<=hi:=by omega
 have q1:=iR (f:=wK (aB G.c_ a_ 7 (aa 0)) (aa 1)) (tg:=gN 0) (ti:=ao (g_ fm (aa 0) (aB G.c_ a_ 8 (aa 1)))) (fe:=aa 0) (own:=1) (caps:=[0])
  (r:=[some (.ob n),some (.int (hi:Int))]) (S:=S) (S1:=S) (w:=⟨gP (s.base:Int) 1 (hi-s.base),none⟩) (fun x=>match x with
   |.int k=>decide (k.toNat∉s.D_)
   |_=>false) id (by
   show((aB G.c_ a_ 7 (aa 0) [some (.ob n),some (.int (hi:Int))]).bind fun x=>(aa 1 [some (.ob n),some (.int (hi:Int))]).bind fun y=>uI x y) S=_;rw[av,ld a];show uI (.int (s.base:Int)) (.int (hi:Int)) S=_;rcases BB (lo:=s.base) (hi:=hi) (by omega) S with h|h
   ·exact h
   ·omega) trivial (by simp[gP];omega) (by
   intro x hx;simp only[gP,List.mem_map,List.mem_range] at hx;obtain⟨k,_,rfl⟩:=hx;have hk:(s.base:Int)+(k:Int) * 1=((s.base+k:Nat):Int):=by omega
   rw[hk];refine⟨_,rfl,fun zs=>?_,fun _ zs=>rfl⟩;have ap:=a.push [.lst zs];have g2:aB G.c_ a_ 8 (aa 1) [some (.int ((s.base+k:Nat):Int)),some (.ob n)] (S++[.lst zs])=.ok (.ob q) (S++[.lst zs]):=bU rfl ap.ob rfl;show ao _ [some (.int ((s.base+k:Nat):Int)),some (.ob n)] (S++[.lst zs])=_;refine az (au rfl g2 ?_);simp only[fm,gZ,fu ap.nt,B8,Int.toNat_natCast];simp)
 have hw:((gP (s.base:Int) 1 (hi-s.base)).filter (fun x=>match x with
   |.int k=>decide (k.toNat∉s.D_)
   |_=>false)).map id=s.wanted.map fun(i:Nat)=>.int (i:Int):=by
  unfold gP Sr.wanted;rw[Tv,List.map_id,List.range'_eq_map_range,List.filter_map,List.filter_map,List.map_map];have:((fun x:D=>match x with
   |.int k=>decide (k.toNat∉s.D_)
   |_=>false) ∘ fun(i:Nat)=>D.int ((s.base:Int)+(i:Int) * 1))=((fun i=>decide (i∉s.D_)) ∘ fun x=>s.base+x):=by
   funext i;have hk:((s.base:Int)+(i:Int) * 1).toNat=s.base+i:=by omega
   simp only[Function.comp_def,hk]
  rw[this];refine List.map_congr_left fun i _=>?_
  simp only[Function.comp_def];congr 1;omega
 rw[hw] at q1;rw[Tv,aR q1];rfl
theorem A4(a:Fc G S n m p q s)(hw:0<s.w)(hN:s.ps.length<=1000000)(hb:s.st=.opened->s.base<=s.ps.length):∃S' l,fW G [.ob n] S=.ok (.ob l) S'/\Gm G n m p q S p q S' s/\S'[l]?=some (.lst (s.tick.map l_))/\S.length<=l:=by
 show ∃S' l,fin S (il G [some (.ob n)] S)=_/\_;unfold il;have t1:ao (g_ EX (aB G.c_ a_ 5 (aa 0)) (dC (.str "opening"))) [some (.ob n)] S=.ok (decide (s.st=.opening)) S:=az (au (rB a _) rfl (uC s.st .opening _));have t2:ao (g_ EX (aB G.c_ a_ 5 (aa 0)) (dC (.str "open"))) [some (.ob n)] S=.ok (decide (s.st=.opened)) S:=az (au (rB a _) rfl (uC s.st .opened _));cases hs:s.st with
 |opening=>
  rw[hs] at t1;have e1:s.tick=[.x_ s.op]:=by unfold Sr.tick;rw[hs]
  rw[cZ (by rw[aT t1];exact aR (bY (ag (bM (ag rfl (ag (y6 a _) aj)) (by simp)) aj) (by simp))),e1];exact⟨_,_,rfl,(Gm.refl a).push _,aP rfl,Nat.le_refl _⟩
 |FL=>
  rw[hs] at t1 t2;have e1:s.tick=[]:=by unfold Sr.tick;rw[hs]
  rw[aw (by rw[ay t1];rfl),aw (by rw[ay t2];rfl),aR (bY aj (by decide)),e1];exact⟨_,_,rfl,(Gm.refl a).push _,aP rfl,Nat.le_refl _⟩
 |opened=>
  rw[hs] at t1 t2;have e1:s.tick=s.wanted.map s.dataOf:=by unfold Sr.tick;rw[hs]
  obtain⟨S1,MB⟩:∃S1,S++[Cell.lst (s.wanted.map fun(i:Nat)=>.int (i:Int))]=S1:=⟨_,rfl⟩;have w1:=ym a hN (hb hs);rw[MB] at w1;have k1:S1[S.length]?=some (.lst (s.wanted.map fun(i:Nat)=>.int (i:Int))):=by rw[<-MB];exact aP rfl
  have a1:Fc G S1 n m p q s:=by rw[<-MB];exact a.push _
  have wl:s.wanted.length<=1000000:=by
   unfold Sr.wanted;refine Nat.le_trans (List.length_filter_le _ _) ?_;rw[List.length_range'];omega
  have q1:=iR (f:=Ip (bh G.c_ a_ (dw G) (aa 0) ai)) (tg:=gN 0) (ti:=lx) (fe:=bh G.c_ a_ (df G) (aa 1) (ac (aa 0) ai)) (own:=1) (caps:=[0])
   (r:=[some (.ob n)]) (S:=S) (S1:=S1) (w:=⟨s.wanted.map fun(i:Nat)=>.int (i:Int),some (S.length,s.wanted.map fun(i:Nat)=>.int (i:Int))⟩) (fun _=>true) (fun x=>match x with
    |.int k=>l_ (s.dataOf k.toNat)
    |_=>.EJ) (by
    rw[oq,av,ba rfl a.ob aj w1];simp only[lL,k1]) k1 (by rw[List.length_map];exact wl) (by
    intro x hx;obtain⟨i,hi,rfl⟩:=List.mem_map.mp hx;refine⟨_,rfl,fun _=>rfl,fun _ zs=>?_⟩;have ap:=a1.push [.lst zs];have YB:i<s.ps.length:=by
     unfold Sr.wanted at hi;have:=(List.mem_range'_1.mp (List.mem_filter.mp hi).1).2;have:=hb hs;omega
    show bh _ _ _ _ _ [some (.int (i:Int)),some (.ob n)] (S1++[.lst zs])=_;refine ba rfl ap.ob (ag rfl aj) ?_;rw[xE ap hw YB];dsimp only;rw[Int.toNat_natCast])
  have hm:((s.wanted.map fun(i:Nat)=>D.int (i:Int)).filter fun _=>true).map (fun x=>match x with
    |.int k=>l_ (s.dataOf k.toNat)
    |_=>.EJ)=(s.wanted.map s.dataOf).map l_:=by
   rw[List.filter_eq_self.mpr (by simp),List.map_map,List.map_map];refine List.map_congr_left fun i _=>?_
   simp only[Function.comp_def,Int.toNat_natCast]
  dsimp only at q1;rw[hm] at q1;rw[aw (by rw[ay t1];rfl),cZ (by rw[aT t2];exact aR q1),e1];refine⟨_,_,rfl,⟨a1.push _,?_,.inl rfl,.inl rfl⟩,aP rfl,?_⟩
  ·rw[<-MB];exact Fr.push.tr Fr.push
  ·rw[<-MB];simp
end
end Lw
namespace Lw
open PySem L2 DL
section
variable{G:Cs}{S S' S1 S2:List Cell}{n m p q p1 q1 p2 q2 p' q':Nat}{s s' s1 s2:Sr}{N:Nat}
theorem zO{xs:List D}{i j:Nat}(h1:i<=j)(h2:j<=xs.length):fD xs (some (i:Int)) (some (j:Int))=(xs.take j).drop i:=by
 unfold fD;rw[HT.G_,HT.G_,Nat.min_eq_left (show i<=xs.length by omega),Nat.min_eq_left h2,List.drop_take]
theorem yA{ps:List Pc}(h:∀x,x∈ps->x.1=0\/x.1=1):(ps.map (·.1)).sum=(E7 ps:Int):=by
 induction ps with
 |nil=>rfl
 |cons a r ih=>
  have h1:=h a (by simp);have h2:=ih fun x hx=>h x (List.mem_cons_of_mem _ hx)
  have e:E7 (a :: r)=(if a.1=1 then 1 else 0)+E7 r:=by
   unfold E7;rw[List.filter_cons];rcases h1 with h1|h1
   ·simp[h1]
   ·simp[h1];omega
  rw[List.map_cons,List.sum_cons,h2,e];rcases h1 with h1|h1
  ·rw[h1];simp
  ·rw[h1];simp
theorem AO(a:Fc G S n m p q s)(b:Sb N s)(hN:N<=20000){i:Nat}(h1:s.base<=i)(h2:i<=s.ps.length):∃S',dq G [.ob n,.int (i:Int)] S=.ok .EJ S'/\Gm G n m p q S p q S' (s.G6 i):=by
 show ∃S',fin S (eh G [some (.ob n),some (.int (i:Int))] S)=_/\_;unfold eh;have K3:=b.pl;obtain⟨qs,RD⟩:∃qs,(s.ps.take i).drop s.base=qs:=⟨_,rfl⟩;have YC:qs.length<=1000000:=by rw[<-RD,List.length_drop,List.length_take];omega
 have YD:∀x,x∈qs->x.1=0\/x.1=1:=fun x hx=>b.fg x (by rw[<-RD] at hx;exact List.mem_of_mem_take (List.mem_of_mem_drop hx))
 have w1:Ip (Hb GD (aB G.c_ a_ 6 (aa 0)) (bF (aB G.c_ a_ 7 (aa 0))) (bF (aa 1))) [some (.ob n),some (.int (i:Int))] S=.ok ⟨qs.map Fe,some (S.length,qs.map Fe)⟩ (S++[.lst (qs.map Fe)]):=by
  have:Hb GD (aB G.c_ a_ 6 (aa 0)) (bF (aB G.c_ a_ 7 (aa 0))) (bF (aa 1)) [some (.ob n),some (.int (i:Int))] S=.ok (.ob S.length) (S++[.lst (qs.map Fe)]):=by
   rw[kL,av,pJ a];dsimp only;rw[av,eC,av,ld a];simp only[eT,jB,av,eC,ja,List.getElem?_cons_succ,List.getElem?_cons_zero,GD,bZ a.ps];rw[zO h1 (by rw[List.length_map];exact h2),<-List.map_take,<-List.map_drop,RD]
  rw[oq,av,this];simp only[lL,bR]
 have q1:=iR (f:=Ip (Hb GD (aB G.c_ a_ 6 (aa 0)) (bF (aB G.c_ a_ 7 (aa 0))) (bF (aa 1)))) (tg:=gN 0) (ti:=lx) (fe:=g_ v_ (aa 0) (dC (.int 0))) (own:=1) (caps:=[]) (r:=[some (.ob n),some (.int (i:Int))]) (S:=S)
  (S1:=S++[.lst (qs.map Fe)]) (w:=⟨qs.map Fe,some (S.length,qs.map Fe)⟩) (fun _=>true) (fun x=>match x with
   |.tup (y :: _)=>y
   |_=>.EJ) w1 (aP rfl) (by rw[List.length_map];exact YC) (by
   intro x hx;obtain⟨y,_,rfl⟩:=List.mem_map.mp hx;exact⟨_,rfl,fun _=>rfl,fun _ zs=>au rfl rfl rfl⟩)
 have hm:((qs.map Fe).filter fun _=>true).map (fun x=>match x with
   |.tup (y :: _)=>y
   |_=>.EJ)=(qs.map (·.1)).map D.int:=by
  rw[List.filter_eq_self.mpr (by simp),List.map_map,List.map_map];rfl
 dsimp only at q1;rw[hm] at q1;have e1:al nY (ac (ii (Ip (Hb GD (aB G.c_ a_ 6 (aa 0)) (bF (aB G.c_ a_ 7 (aa 0))) (bF (aa 1)))) (gN 0) lx (g_ v_ (aa 0) (dC (.int 0))) 1 []) ai) [some (.ob n),some (.int (i:Int))] S=.ok (.int (E7 qs:Int)) ((S++[.lst (qs.map Fe)])++[.lst ((qs.map (·.1)).map D.int)]):=by
  refine ax (ag q1 aj) ?_;simp only[nY,gw,bZ bR,iX];rw[yA YD]
 obtain⟨S2,NZ⟩:∃S2,(S++[Cell.lst (qs.map Fe)])++[Cell.lst ((qs.map (·.1)).map D.int)]=S2:=⟨_,rfl⟩;have a2:Fc G S2 n m p q s:=by rw[<-NZ];exact(a.push _).push _
 have f2:Fr [n,m,p,q] S S2:=by rw[<-NZ];exact Fr.push.tr Fr.push
 rw[NZ] at e1;have q3:=wQ (fo:=aa 0) (r:=[some (.ob n),some (.int (i:Int))]) (i:=3) rfl a.ob rfl e1 a2.ob;have c3:=Ch.set (c:=.ins G.c_ a_ [.int (s.w:Int),.int (s.most:Int),.ob m,.int ((s.sure:Int)+(E7 qs:Int)),.int (s.op:Int),.str (OQ s.st),.ob p,.int (s.base:Int),.ob q]) a2.ob;obtain⟨S3,OS⟩:∃S3,S2.set n (.ins G.c_ a_ [.int (s.w:Int),.int (s.most:Int),.ob m,.int ((s.sure:Int)+(E7 qs:Int)),.int (s.op:Int),.str (OQ s.st),.ob p,.int (s.base:Int),.ob q])=S3:=⟨_,rfl⟩;have Tw:ou G.c_ a_ 3 (aa 0) (al nY (ac (ii (Ip (Hb GD (aB G.c_ a_ 6 (aa 0)) (bF (aB G.c_ a_ 7 (aa 0))) (bF (aa 1)))) (gN 0) lx (g_ v_ (aa 0) (dC (.int 0))) 1 []) ai)) [some (.ob n),some (.int (i:Int))] S=some (.nx [some (.ob n),some (.int (i:Int))],S3):=by
  rw[q3,<-OS];rfl
 rw[OS] at c3;obtain⟨S4,q4,c4⟩:=gE (fo:=aa 0) (fe:=aa 1) (r:=[some (.ob n),some (.int (i:Int))]) (i:=7) rfl rfl c3.at_ rfl;rw[aw Tw,q4];have Tx:(s.sure:Int)+(E7 qs:Int)=((s.sure+E7 qs:Nat):Int):=by omega
 refine⟨S4,rfl,⟨?_,c4.old (c3.old a2.ms a.nm) a.nm,c4.old (c3.old a2.ps a.np) a.np,c4.old (c3.old a2.nt a.nq) a.nq,a.mp⟩,(f2.tr (c3.fp (by simp))).tr (c4.fp (by simp)),.inl rfl,.inl rfl⟩;have:=c4.at_;rw[Tx] at this;unfold Sr.G6;rw[RD];exact this
theorem CJ{l:List Nat}(k:Nat):qO (MA l) (.inl (k:Int)) (.bl true)=MA (if k∈l then l else l++[k]):=by
 have Tz:((MA l).any fun kv=>decide (kv.1=(Sum.inl (k:Int):Key)))=decide (k∈l):=by
  induction l with
  |nil=>rfl
  |cons a r ih=>
   unfold MA at ih ⊢;rw[List.map_cons,List.any_cons,ih];by_cases h:a=k
   ·subst h;simp
   ·have h2:decide ((Sum.inl (a:Int):Key)=Sum.inl (k:Int))=false:=decide_eq_false fun z=>h (by injection z with z;omega)
    rw[h2];simp[Ne.symm h]
 unfold qO;rw[Tz];by_cases h:k∈l
 ·rw[if_pos (decide_eq_true h),if_pos h];unfold MA;rw[List.map_map];refine List.map_congr_left fun a _=>?_
  simp only[Function.comp_def];split<;>rfl
 ·rw[if_neg (by simp[h]),if_neg h];simp[MA]
theorem pv:∀(bs:List Int) (s:Sr) (k:Nat) (b:Int),s.EV k (bs++[b])=(s.EV k bs).EV (k+bs.length) [b]
 |[],s,k,b=>rfl
 |c :: bs,s,k,b=>by
  rw[List.cons_append];unfold Sr.EV;rw[pv bs _ (k+1) b,List.length_cons,show k+1+bs.length=k+(bs.length+1) by omega];rfl
theorem dj:∀(bs:List Int) (s:Sr) (k:Nat),(s.EV k bs).w=s.w/\(s.EV k bs).most=s.most/\(s.EV k bs).msgs=s.msgs/\(s.EV k bs).sure=s.sure/\(s.EV k bs).op=s.op/\(s.EV k bs).st=s.st/\(s.EV k bs).ps=s.ps/\(s.EV k bs).base=s.base/\(s.EV k bs).D_.length<=s.D_.length+bs.length
 |[],s,k=>⟨rfl,rfl,rfl,rfl,rfl,rfl,rfl,rfl,by simp[Sr.EV]⟩
 |b :: bs,s,k=>by
  unfold Sr.EV;split
  ·obtain⟨h1,h2,h3,h4,h5,h6,h7,h8,h9⟩:=dj bs { s with D_:=s.D_++[s.base+k] } (k+1);refine⟨h1,h2,h3,h4,h5,h6,h7,h8,?_⟩;rw[List.length_append,List.length_singleton] at h9;rw[List.length_cons];omega
  ·obtain⟨h1,h2,h3,h4,h5,h6,h7,h8,h9⟩:=dj bs s (k+1);refine⟨h1,h2,h3,h4,h5,h6,h7,h8,?_⟩;rw[List.length_cons];omega
theorem yK(a:Fc G S n m p q s)(hz:s.D_.length<=500000){bs:List Int}(hb:bs.length<=1000):∃S',cQ G [.ob n,.tup (bs.map D.int)] S=.ok .EJ S'/\Gm G n m p q S p q S' (s.EV 0 bs):=by
 show ∃S',fin S (dG G [some (.ob n),some (.tup (bs.map D.int)),none,none] S)=_/\_;unfold dG;have w1:wZ 0 (aa 1) [some (.ob n),some (.tup (bs.map D.int)),none,none] S=.ok ⟨iU 0 (bs.map D.int),none⟩ S:=rfl;have N0:∀{i:Nat}{y:D},(iU 0 (bs.map D.int))[i]?=some y->∃b,bs[i]?=some b/\y=.tup [.int (i:Int),.int b]:=by
  intro i y h;unfold iU at h;rw[List.getElem?_map,List.getElem?_zipIdx,List.getElem?_map] at h;cases e:bs[i]? with
  |none=>rw[e] at h;simp at h
  |some b=>
   rw[e] at h;simp at h;exact⟨b,rfl,h.symm⟩
 obtain⟨r',S',e,x2,x3,rfl,a',f'⟩:=dR (g:=none) (tg:=gT [2,3]) (b:=cx G)
  (fun i r S'=>∃x2 x3,r=[some (.ob n),some (.tup (bs.map D.int)),x2,x3]/\Fc G S' n m p q (s.EV 0 (bs.take i))/\Fr [n,m,p,q] S S') (iU 0 (bs.map D.int)) 0 [some (.ob n),some (.tup (bs.map D.int)),none,none] S
  (by
   rintro i y r S' hy ⟨x2,x3,rfl,a',f'⟩;obtain⟨b,RE,rfl⟩:=N0 hy;rw[Nat.zero_add] at a' ⊢;have OD:=(List.getElem?_eq_some_iff.mp RE).1;obtain⟨s',NR⟩:∃s',s.EV 0 (bs.take i)=s':=⟨_,rfl⟩;have QR:s.EV 0 (bs.take (i+1))=s'.EV i [b]:=by
    rw[List.take_add_one,RE,Option.toList_some,pv,NR,List.length_take,Nat.min_eq_left (by omega),Nat.zero_add]
   have Wr:=dj (bs.take i) s 0;rw[NR] at Wr a';rw[QR];obtain⟨_,_,_,_,_,_,g7,g8,g9⟩:=Wr;rw[List.length_take] at g9;refine⟨[some (.ob n),some (.tup (bs.map D.int)),some (.int (i:Int)),some (.int b)],[some (.ob n),some (.tup (bs.map D.int)),some (.int (i:Int)),some (.int b)],?_⟩;have t1:ao (g_ EX (aa 3) (dC (.int 1))) [some (.ob n),some (.tup (bs.map D.int)),some (.int (i:Int)),some (.int b)] S'=.ok (decide (b=1)) S':=az (au rfl rfl (iI _ _));have k1:g_ bN (aB G.c_ a_ 7 (aa 0)) (aa 2) [some (.ob n),some (.tup (bs.map D.int)),some (.int (i:Int)),some (.int b)] S'=.ok (.int ((s'.base+i:Nat):Int)) S':=by
    refine au (ld a' _) rfl ?_;rw[cf];congr 2
   have t2:ao (g_ G2 (g_ bN (aB G.c_ a_ 7 (aa 0)) (aa 2)) (al bq (ac (aB G.c_ a_ 6 (aa 0)) ai))) [some (.ob n),some (.tup (bs.map D.int)),some (.int (i:Int)),some (.int b)] S'=.ok (decide (s'.base+i<s'.ps.length)) S':=by
    refine az (au k1 (ax (ag (pJ a' _) aj) (gp a'.ps)) ?_);rw[oN,List.length_map];congr 2;rw[decide_eq_decide];omega
   by_cases hc:b=1/\s'.base+i<s'.ps.length
   ·have tt:de (ao (g_ EX (aa 3) (dC (.int 1)))) (ao (g_ G2 (g_ bN (aB G.c_ a_ 7 (aa 0)) (aa 2)) (al bq (ac (aB G.c_ a_ 6 (aa 0)) ai)))) [some (.ob n),some (.tup (bs.map D.int)),some (.int (i:Int)),some (.int b)] S'=.ok true S':=by
     rw[cL,av,t1,decide_eq_true hc.1];show ao _ _ S'=_;rw[t2,decide_eq_true hc.2]
    have hp:qC (.ob q) (.int ((s'.base+i:Nat):Int)) (.bl true) S'=some (S'.set q (.Gu (MA (if s'.base+i∈s'.D_ then s'.D_ else s'.D_++[s'.base+i])))):=by
     simp only[qC,gZ,fu a'.nt,CJ];exact ci (Ny (by unfold MA;rw[List.length_map];omega))
    have hn:s'.EV i [b] = { s' with D_:=if s'.base+i∈s'.D_ then s'.D_ else s'.D_++[s'.base+i] }:=by
     unfold Sr.EV;by_cases hm:s'.base+i∈s'.D_
     ·rw[if_neg (by simp[hm]),if_pos hm];rfl
     ·rw[if_pos ⟨hc.1,hc.2,hm⟩,if_neg hm];rfl
    refine⟨S'.set q (.Gu (MA (if s'.base+i∈s'.D_ then s'.D_ else s'.D_++[s'.base+i]))),rfl,?_,trivial,_,_,rfl,?_,f'.tr (Fr.set (by simp))⟩
    ·unfold cx;rw[aT tt,tL (d:=.bl true) rfl (Du a' _) k1 hp]
    ·rw[hn];exact⟨cC a'.ob a.nq.symm,cC a'.ms a.mq.symm,cC a'.ps a.pq.symm,dz a'.nt,a.mp⟩
   ·have tt:de (ao (g_ EX (aa 3) (dC (.int 1)))) (ao (g_ G2 (g_ bN (aB G.c_ a_ 7 (aa 0)) (aa 2)) (al bq (ac (aB G.c_ a_ 6 (aa 0)) ai)))) [some (.ob n),some (.tup (bs.map D.int)),some (.int (i:Int)),some (.int b)] S'=.ok false S':=by
     rw[cL,av,t1];by_cases Pw:b=1
     ·rw[decide_eq_true Pw];show ao _ _ S'=_;rw[t2,decide_eq_false fun z=>hc ⟨Pw,z⟩]
     ·rw[decide_eq_false Pw];rfl
    have hn:s'.EV i [b]=s':=by
     unfold Sr.EV;rw[if_neg fun z=>hc ⟨z.1,z.2.1⟩];rfl
    refine⟨S',rfl,?_,trivial,_,_,rfl,?_,f'⟩
    ·unfold cx;rw[ay tt];rfl
    ·rw[hn];exact a')
  ⟨none,none,rfl,by rw[List.take_zero];exact a,Fr.refl _ _⟩
 have hlen:(iU 0 (bs.map D.int)).length=bs.length:=by simp[iU]
 rw[hlen,Nat.zero_add,List.take_length] at a';rw[mh w1,e];exact⟨S',rfl,a',f',.inl rfl,.inl rfl⟩
end
end Lw
namespace Lw
open PySem L2 DL
section
variable{G:Cs}{S S' S1 S2:List Cell}{n m p q p1 q1 p2 q2 p' q':Nat}{s s' s1 s2:Sr}{N:Nat}
theorem wd(m w:Nat)(S:List Cell):bV [.int (m:Int),.int (w:Int)] S=.ok (.bl (decide (m<2 * w))) S:=by
 have h1:decide ((0:Int)<=(m:Int))=true:=decide_eq_true (by omega);have h2:decide ((m:Int)<2 * (w:Int))=decide (m<2 * w):=by rw[decide_eq_decide];omega
 simp[bV,jg,h1,h2]
theorem xU{n l:Int}{w:Nat}(hw:0<w)(S:List Cell):ck [.int n,.int l,.int (w:Int)] S=.ok (.int (ju n l w)) S:=by
 simp[ck,jr,dc (show(0:Int)<2 * (w:Int) by omega),ju]
theorem sQ(n l:Int){w:Nat}(hw:0<w):l<=ju n l w:=by
 unfold ju;have:=Int.emod_nonneg (n-l) (show(2 * (w:Int))≠0 by omega);omega
theorem sL(a:Fc G S n m p q s)(b:Sb N s)(hN:N<=20000)(hw:0<s.w){num:Nat}{bs:List Int}(hb:bs.length<=1000) :
  ∃S',b0 G [.ob n,.int (num:Int),.tup (bs.map D.int)] S=.ok .EJ S'/\Gm G n m p q S p q S' (s.B_ num bs):=by
 show ∃S',fin S (dU G [some (.ob n),some (.int (num:Int)),some (.tup (bs.map D.int)),none] S)=_/\_;unfold dU;have t1:bO (al bV (ac (aa 1) (ac (aB G.c_ a_ 0 (aa 0)) ai))) [some (.ob n),some (.int (num:Int)),some (.tup (bs.map D.int)),none] S=.ok (decide (num<2 * s.w)) S:=by
  rw[cO,av,ax (ag rfl (ag (zS a _) aj)) (wd num s.w S)];rfl
 by_cases c1:num<2 * s.w
 ·rw[decide_eq_true c1] at t1;obtain⟨i,hi⟩:∃i:Nat,ju num s.base s.w=(i:Int):=⟨(ju num s.base s.w).toNat,by have:=sQ num s.base hw;omega⟩;have QS:s.base<=i:=by have:=sQ num s.base hw;omega
  rw[aT t1,aw (bw (ax (ag rfl (ag (ld a _) (ag (zS a _) aj))) (xU hw S)))];rw[hi];show ∃S',fin S (FF _ _ _ [some (.ob n),some (.int (num:Int)),some (.tup (bs.map D.int)),some (.int (i:Int))] S)=_/\_;have e1:al xL (ac (g_ bN (aB G.c_ a_ 7 (aa 0)) (aB G.c_ a_ 0 (aa 0))) (ac (al bq (ac (aB G.c_ a_ 6 (aa 0)) ai)) ai)) [some (.ob n),some (.int (num:Int)),some (.tup (bs.map D.int)),some (.int (i:Int))] S=.ok (.int ((min (s.base+s.w) s.ps.length:Nat):Int)) S:=by
   refine ax (ag (au (ld a _) (zS a _) (cf _ _)) (ag (ax (ag (pJ a _) aj) (gp a.ps)) aj)) ?_;rw[BY,List.length_map];congr 2;omega
  have t2:ao (g_ L6 (aa 3) (al xL (ac (g_ bN (aB G.c_ a_ 7 (aa 0)) (aB G.c_ a_ 0 (aa 0))) (ac (al bq (ac (aB G.c_ a_ 6 (aa 0)) ai)) ai)))) [some (.ob n),some (.int (num:Int)),some (.tup (bs.map D.int)),some (.int (i:Int))] S=.ok (decide (i<=min (s.base+s.w) s.ps.length)) S:=by
   refine az (au rfl e1 ?_);rw[xG];congr 2;rw[decide_eq_decide];omega
  by_cases c2:i<=min (s.base+s.w) s.ps.length
  ·rw[decide_eq_true c2] at t2;have he:s.B_ num bs=(s.G6 i).EV 0 bs:=by
    unfold Sr.B_;rw[if_pos ⟨c1,by rw[hi];omega⟩,hi];rfl
   obtain⟨S1,q1,k1⟩:=AO a b hN QS (by omega);obtain⟨S2,q2,k2⟩:=yK (bs:=bs) k1.at_ (by have:=b.nl;show s.D_.length<=_;omega) hb;rw[aT t2,aw (aZ (ba rfl a.ob (ag rfl aj) q1)),aZ (ba rfl k1.at_.ob (ag rfl aj) q2),he];exact⟨S2,rfl,k1.trans k2⟩
  ·rw[decide_eq_false c2] at t2;have he:s.B_ num bs=s:=by
    unfold Sr.B_;rw[if_neg (by rw[hi];omega)]
   rw[ay t2,he];exact⟨S,rfl,Gm.refl a⟩
 ·rw[decide_eq_false c1] at t1;have he:s.B_ num bs=s:=by
   unfold Sr.B_;rw[if_neg (fun z=>c1 z.1)]
  rw[ay t1,he];exact⟨S,rfl,Gm.refl a⟩
def w_.HX:w_->Nat
 |.x_ o=>o
 |.s_ o=>o
 |.Gk o=>o
 |.data o _ _=>o
 |.note o _ _=>o
def w_.knd:w_->Str
 |.x_ _=>"hello"
 |.s_ _=>"welcome"
 |.Gk _=>"who"
 |.data _ _ _=>"data"
 |.note _ _ _=>"note"
def LL:w_->Prop
 |.note _ _ bs=>bs.length<=7
 |_=>True
theorem zd(c:w_)(S:List Cell):v_ (l_ c) (.int 0) S=.ok (.str c.knd) S:=by cases c<;>rfl
def Ws:w_->Bool
 |.s_ _=>true
 |_=>false
def isQ:w_->Bool
 |.Gk _=>true
 |_=>false
def Wt:w_->Bool
 |.note _ _ _=>true
 |_=>false
theorem kW(c:w_)(S:List Cell):EX (.str c.knd) (.str "welcome") S=.ok (.bl (Ws c)) S:=by cases c<;>simp only[w_.knd,Ws]<;>exact bg
theorem kQ(c:w_)(S:List Cell):EX (.str c.knd) (.str "who") S=.ok (.bl (isQ c)) S:=by cases c<;>simp only[w_.knd,isQ]<;>exact bg
theorem kN(c:w_)(S:List Cell):EX (.str c.knd) (.str "note") S=.ok (.bl (Wt c)) S:=by cases c<;>simp only[w_.knd,Wt]<;>exact bg
theorem zb(c:w_)(S:List Cell):v_ (l_ c) (.int 1) S=.ok (.int (c.HX:Int)) S:=by cases c<;>rfl
theorem B5(a:Fc G S n m p q s)(b:Sb N s)(hN:N<=20000)(hw:0<s.w){c:w_}(hc:LL c)(ho:c.HX=s.op) :
  ∃S' p' q',dl G [.ob n,l_ c] S=.ok .EJ S'/\Gm G n m p q S p' q' S' (s.j_ c):=by
 show ∃S' p' q',fin S (d6 G [some (.ob n),some (l_ c)] S)=_/\_;unfold d6;have t1:ao (g_ EX (aB G.c_ a_ 5 (aa 0)) (dC (.str "opening"))) [some (.ob n),some (l_ c)] S=.ok (decide (s.st=.opening)) S:=az (au (rB a _) rfl (uC s.st .opening _));have t2:ao (g_ EX (aB G.c_ a_ 5 (aa 0)) (dC (.str "open"))) [some (.ob n),some (l_ c)] S=.ok (decide (s.st=.opened)) S:=az (au (rB a _) rfl (uC s.st .opened _));have k0:∀{k:Str}{y:Bool},EX (.str c.knd) (.str k) S=.ok (.bl y) S->ao (g_ EX (g_ v_ (aa 1) (dC (.int 0))) (dC (.str k))) [some (.ob n),some (l_ c)] S=.ok y S:=fun h=>az (au (au rfl rfl (zd c S)) rfl h)
 have nothing:s.j_ c=s->FF (de (ao (g_ EX (g_ v_ (aa 1) (dC (.int 0))) (dC (.str "welcome")))) (ao (g_ EX (aB G.c_ a_ 5 (aa 0)) (dC (.str "opening"))))) (jV G.c_ a_ 5 (aa 0) (dC (.str "open"))) (FF (de (ao (g_ EX (g_ v_ (aa 1) (dC (.int 0))) (dC (.str "who")))) (ao (g_ EX (aB G.c_ a_ 5 (aa 0)) (dC (.str "open"))))) (bz (bh G.c_ a_ (bI G) (aa 0) ai)) (FF (de (ao (g_ EX (g_ v_ (aa 1) (dC (.int 0))) (dC (.str "note")))) (ao (g_ EX (aB G.c_ a_ 5 (aa 0)) (dC (.str "open"))))) (bz (bh G.c_ a_ (b0 G) (aa 0) (ac (g_ v_ (aa 1) (dC (.int 2))) (ac (g_ v_ (aa 1) (dC (.int 3))) ai)))) bC)) [some (.ob n),some (l_ c)] S=some (.nx [some (.ob n),some (l_ c)],S)->
   ∃S' p' q',fin S (FF (de (ao (g_ EX (g_ v_ (aa 1) (dC (.int 0))) (dC (.str "welcome")))) (ao (g_ EX (aB G.c_ a_ 5 (aa 0)) (dC (.str "opening"))))) (jV G.c_ a_ 5 (aa 0) (dC (.str "open"))) (FF (de (ao (g_ EX (g_ v_ (aa 1) (dC (.int 0))) (dC (.str "who")))) (ao (g_ EX (aB G.c_ a_ 5 (aa 0)) (dC (.str "open"))))) (bz (bh G.c_ a_ (bI G) (aa 0) ai)) (FF (de (ao (g_ EX (g_ v_ (aa 1) (dC (.int 0))) (dC (.str "note")))) (ao (g_ EX (aB G.c_ a_ 5 (aa 0)) (dC (.str "open"))))) (bz (bh G.c_ a_ (b0 G) (aa 0) (ac (g_ v_ (aa 1) (dC (.int 2))) (ac (g_ v_ (aa 1) (dC (.int 3))) ai)))) bC)) [some (.ob n),some (l_ c)] S)=.ok .EJ S'/\Gm G n m p q S p' q' S' (s.j_ c):=by
  intro h1 h2;rw[h2,h1];exact⟨S,p,q,rfl,Gm.refl a⟩
 have an:∀{f g:tB->M Bool}{y z:Bool},f [some (.ob n),some (l_ c)] S=.ok y S->g [some (.ob n),some (l_ c)] S=.ok z S->de f g [some (.ob n),some (l_ c)] S=.ok (y && z) S:=by
  intro f g y z h1 h2;rw[cL,av,h1];cases y
  ·rfl
  ·show g _ S=_;rw[h2,Bool.true_and]
 cases c with
 |x_ o=>exact nothing rfl (by rw[ay (an (k0 (kW _ S)) t1),ay (an (k0 (kQ _ S)) t2),ay (an (k0 (kN _ S)) t2)];rfl)
 |data o i x=>exact nothing rfl (by rw[ay (an (k0 (kW _ S)) t1),ay (an (k0 (kQ _ S)) t2),ay (an (k0 (kN _ S)) t2)];rfl)
 |s_ o=>
  have Ls:o=s.op:=ho;by_cases hs:s.st=.opening
  ·rw[decide_eq_true hs] at t1;have he:s.j_ (.s_ o) = { s with st:=.opened }:=by unfold Sr.j_;exact if_pos ⟨Ls,hs⟩
   obtain⟨S1,q1,c1⟩:=gE (fo:=aa 0) (fe:=dC (.str "open")) (r:=[some (.ob n),some (l_ (.s_ o))]) (i:=5) rfl rfl a.ob rfl;rw[aT (an (k0 (kW _ S)) t1),q1,he];exact⟨S1,p,q,rfl,⟨c1.at_,c1.old a.ms a.nm,c1.old a.ps a.np,c1.old a.nt a.nq,a.mp⟩,c1.fp (by simp),.inl rfl,.inl rfl⟩
  ·rw[decide_eq_false hs] at t1;exact nothing (by unfold Sr.j_;exact if_neg fun z=>hs z.2) (by rw[ay (an (k0 (kW _ S)) t1),ay (an (k0 (kQ _ S)) t2),ay (an (k0 (kN _ S)) t2)];rfl)
 |Gk o=>
  have Ls:o=s.op:=ho;by_cases hs:s.st=.opened
  ·rw[decide_eq_true hs] at t2;have he:s.j_ (.Gk o)=s.anew:=by unfold Sr.j_;exact if_pos ⟨Ls,hs⟩
   obtain⟨S1,p1,q1,e1,k1⟩:=xf a b hN;rw[ay (an (k0 (kW _ S)) t1),aT (an (k0 (kQ _ S)) t2),aZ (ba rfl a.ob aj e1),he];exact⟨S1,p1,q1,rfl,k1⟩
  ·rw[decide_eq_false hs] at t2;exact nothing (by unfold Sr.j_;exact if_neg fun z=>hs z.2) (by rw[ay (an (k0 (kW _ S)) t1),ay (an (k0 (kQ _ S)) t2),ay (an (k0 (kN _ S)) t2)];rfl)
 |note o i bs=>
  have Ls:o=s.op:=ho;by_cases hs:s.st=.opened
  ·rw[decide_eq_true hs] at t2;have he:s.j_ (.note o i bs)=s.B_ i bs:=by unfold Sr.j_;exact if_pos ⟨Ls,hs⟩
   have hb:bs.length<=7:=hc;obtain⟨S1,e1,k1⟩:=sL (num:=i) (bs:=bs) a b hN hw (by omega);rw[ay (an (k0 (kW _ S)) t1),ay (an (k0 (kQ _ S)) t2),aT (an (k0 (kN _ S)) t2),aZ (ba rfl a.ob (ag (au rfl rfl rfl) (ag (au rfl rfl rfl) aj)) e1),he];exact⟨S1,p,q,rfl,k1⟩
  ·rw[decide_eq_false hs] at t2;exact nothing (by unfold Sr.j_;exact if_neg fun z=>hs z.2) (by rw[ay (an (k0 (kW _ S)) t1),ay (an (k0 (kQ _ S)) t2),ay (an (k0 (kN _ S)) t2)];rfl)
theorem ua{c:w_}(ho:c.HX≠s.op):s.j_ c=s:=by
 cases c with
 |x_ o=>rfl
 |data o i x=>rfl
 |s_ o=>unfold Sr.j_;exact if_neg fun z=>ho z.1
 |Gk o=>unfold Sr.j_;exact if_neg fun z=>ho z.1
 |note o i bs=>unfold Sr.j_;exact if_neg fun z=>ho z.1
theorem zj(a:Fc G S n m p q s)(b:Sb N s)(hN:N<=20000)(hw:0<s.w){c:w_}(hc:LL c) :
  ∃S' p' q' l,fj G [.ob n,l_ c] S=.ok (.ob l) S'/\Gm G n m p q S p' q' S' (s.j_ c)/\S'[l]?=some (.lst [])/\S.length<=l:=by
 show ∃S' p' q' l,fin S (gD G [some (.ob n),some (l_ c)] S)=_/\_;unfold gD;have t1:ao (g_ EX (g_ v_ (aa 1) (dC (.int 1))) (aB G.c_ a_ 4 (aa 0))) [some (.ob n),some (l_ c)] S=.ok (decide (c.HX=s.op)) S:=by
  refine az (au (au rfl rfl (zb c S)) (y6 a _) ?_);rw[iI];congr 2;rw[decide_eq_decide];omega
 by_cases ho:c.HX=s.op
 ·rw[decide_eq_true ho] at t1;obtain⟨S1,p1,q1,e1,k1⟩:=B5 a b hN hw hc ho;rw[aw (by rw[aT t1];exact aZ (ba rfl a.ob (ag rfl aj) e1)),aR (bY aj (by decide))];exact⟨_,p1,q1,_,rfl,k1.push _,aP rfl,k1.fr.1⟩
 ·rw[decide_eq_false ho] at t1;rw[aw (by rw[ay t1];rfl),aR (bY aj (by decide)),ua ho];exact⟨_,p,q,_,rfl,(Gm.refl a).push _,aP rfl,Nat.le_refl _⟩
theorem Sb.note{num:Nat}{bs:List Int}(b:Sb N s)(h:bs.length<=7):Sb (N+1) (s.B_ num bs):=by
 unfold Sr.B_;split
 ·obtain⟨h1,h2,h3,h4,h5,h6,h7,h8,h9⟩:=dj bs (s.G6 (ju num s.base s.w).toNat) 0;have hn:=b.nl;have hm:=b.ml;have hp:=b.pl;refine⟨by rw[h2];exact b.most,by rw[h3];show s.msgs.length<=_;omega,by rw[h3];exact b.NA,by rw[h7];show s.ps.length<=_;omega,by rw[h7];exact b.fg,?_⟩;have:(s.G6 (ju num s.base s.w).toNat).D_.length=s.D_.length:=rfl;omega
 ·exact b.mono (Nat.le_succ _)
theorem Sb.j_{c:w_}(b:Sb N s)(hc:LL c):Sb (N+1) (s.j_ c):=by
 cases c with
 |x_ o=>exact b.mono (Nat.le_succ _)
 |data o i x=>exact b.mono (Nat.le_succ _)
 |s_ o=>
  unfold Sr.j_;dsimp only;split
  ·exact⟨b.most,Nat.le_succ_of_le b.ml,b.NA,by have:=b.pl;show s.ps.length<=_;omega,b.fg,by have:=b.nl;show s.D_.length<=_;omega⟩
  ·exact b.mono (Nat.le_succ _)
 |Gk o=>
  unfold Sr.j_;dsimp only;split
  ·exact b.anew.mono (Nat.le_succ _)
  ·exact b.mono (Nat.le_succ _)
 |note o i bs=>
  unfold Sr.j_;dsimp only;split
  ·exact b.note hc
  ·exact b.mono (Nat.le_succ _)
theorem Sb.Fp(b:Sb N s):Sb N s.Fp:=⟨b.most,b.ml,b.NA,b.pl,b.fg,b.nl⟩
theorem Sb.start(b:Sb N s):Sb N s.start:=by
 unfold Sr.start;split
 ·exact b.anew
 ·exact b
def Bl(s:Sr):Prop:=s.base<=s.ps.length
theorem Bl.hand(b:Bl s)(x:FN):Bl (s.hand x):=by
 unfold Bl Sr.hand at *;dsimp only;split
 ·exact b
 ·rw[List.length_append];omega
theorem Bl.anew:Bl s.anew:=Nat.zero_le _
theorem Bl.start(b:Bl s):Bl s.start:=by
 unfold Sr.start;split
 ·exact Bl.anew
 ·exact b
theorem Bl.j_(hw:0<s.w)(b:Bl s)(c:w_):Bl (s.j_ c):=by
 cases c with
 |x_ o=>exact b
 |data o i x=>exact b
 |s_ o=>
  unfold Sr.j_;dsimp only;split<;>exact b
 |Gk o=>
  unfold Sr.j_;dsimp only;split
  ·exact Bl.anew
  ·exact b
 |note o i bs=>
  unfold Sr.j_;dsimp only;split
  ·unfold Sr.B_;split
   ·rename_i h;obtain⟨h1,h2,h3,h4,h5,h6,h7,h8,h9⟩:=dj bs (s.G6 (ju i s.base s.w).toNat) 0;unfold Bl;rw[h7,h8];have:=sQ i s.base hw;show(ju i s.base s.w).toNat<=s.ps.length;omega
   ·exact b
  ·exact b
theorem Ab(s:Sr)(c:w_):(s.j_ c).w=s.w:=by
 cases c with
 |x_ o=>rfl
 |data o i x=>rfl
 |s_ o=>unfold Sr.j_;dsimp only;split<;>rfl
 |Gk o=>unfold Sr.j_;dsimp only;split<;>rfl
 |note o i bs=>
  unfold Sr.j_;dsimp only;split
  ·unfold Sr.B_;split
   ·exact(dj bs (s.G6 (ju i s.base s.w).toNat) 0).1
   ·rfl
  ·rfl
theorem eB{f:Str}{C:Addr}{ns:List Str}{ds:List D}{d:D}{fo fe:tB->M D}{r:tB}(h1:fe r S=.ok d S1)(h2:fo r S1=.ok (.ob n) S1)(h3:S1[n]?=some (.ins C ns ds)):∃S2,cI C ns f fo fe r S=some (.nx r,S2)/\Ch n (.ins C (ns++[f]) (ds++[d])) S1 S2:=
 ⟨_,j4 h1 h2 h3,Ch.set h3⟩
theorem Bh(w most:Nat)(S:List Cell):∃S' m p q,ie G.c_ (bW G) [.int (w:Int),.int (most:Int)] S=.ok (.ob S.length) S'/\Fc G S' S.length m p q (Sr.new w most)/\Fr [] S S'/\S.length<=m/\S.length<=p/\S.length<=q:=by
 obtain⟨n,hn⟩:∃n,n=S.length:=⟨_,rfl⟩;have s0:(S++[Cell.ins G.c_ [] []])[n]?=some (.ins G.c_ [] []):=aP hn;obtain⟨r,hr⟩:∃r:tB,r=[some (.ob n),some (.int (w:Int)),some (.int (most:Int))]:=⟨_,rfl⟩;have v0:∀S,aa 0 r S=.ok (.ob n) S:=fun S=>by rw[hr];rfl
 have v1:∀S,aa 1 r S=.ok (.int (w:Int)) S:=fun S=>by rw[hr];rfl
 have v2:∀S,aa 2 r S=.ok (.int (most:Int)) S:=fun S=>by rw[hr];rfl
 obtain⟨T1,e1,c1⟩:=eB (f:="window") (fo:=aa 0) (fe:=aa 1) (v1 _) (v0 _) s0;obtain⟨T2,e2,c2⟩:=eB (f:="most") (fo:=aa 0) (fe:=aa 2) (v2 _) (v0 _) c1.at_;obtain⟨T3,e3,c3⟩:=eB (f:="messages") (fo:=aa 0) (fe:=bT ai) (r:=r) (bY aj (by decide)) (v0 _) (aC (G:=[.lst []]) c2.at_);obtain⟨T4,e4,c4⟩:=eB (f:="sure") (fo:=aa 0) (fe:=dC (.int 0)) (r:=r) rfl (v0 _) c3.at_;obtain⟨T5,e5,c5⟩:=eB (f:="opening") (fo:=aa 0) (fe:=dC (.int 0)) (r:=r) rfl (v0 _) c4.at_;obtain⟨T6,e6,c6⟩:=eB (f:="state") (fo:=aa 0) (fe:=dC (.str "shut")) (r:=r) rfl (v0 _) c5.at_;obtain⟨T7,e7,c7⟩:=eB (f:="pieces") (fo:=aa 0) (fe:=bT ai) (r:=r) (bY aj (by decide)) (v0 _) (aC (G:=[.lst []]) c6.at_);obtain⟨T8,e8,c8⟩:=eB (f:="base") (fo:=aa 0) (fe:=dC (.int 0)) (r:=r) rfl (v0 _) c7.at_;obtain⟨T9,e9,c9⟩:=eB (f:="noted") (fo:=aa 0) (fe:=kg) (r:=r) rfl (v0 _) (aC (G:=[.Gu []]) c8.at_);have l1:=c1.len;have l2:=c2.len;have l3:=c3.len;have l4:=c4.len;have l5:=c5.len;have l6:=c6.len;have l7:=c7.len;have l8:=c8.len;have l9:=c9.len;rw[List.length_append,List.length_singleton] at l1 l3 l7 l9;have m3:T3[T2.length]?=some (.lst []):=c3.old (aP rfl) (by omega);have m6:T6[T2.length]?=some (.lst []):=c6.old (c5.old (c4.old m3 (by omega)) (by omega)) (by omega);have m7:T7[T2.length]?=some (.lst []):=c7.old (aC m6) (by omega);have p7:T7[T6.length]?=some (.lst []):=c7.old (aP rfl) (by omega);have m9:T9[T2.length]?=some (.lst []):=c9.old (aC (c8.old m7 (by omega))) (by omega);have p9:T9[T6.length]?=some (.lst []):=c9.old (aC (c8.old p7 (by omega))) (by omega);have q9:T9[T8.length]?=some (.Gu []):=c9.old (aP rfl) (by omega);refine⟨T9,T2.length,T6.length,T8.length,?_,?_,?_,by omega,by omega,by omega⟩
 ·unfold ie;rw[<-hn];have:bW G [.ob n,.int (w:Int),.int (most:Int)] (S++[.ins G.c_ [] []])=.ok .EJ T9:=by
   show fin _ (dm G [some (.ob n),some (.int (w:Int)),some (.int (most:Int))] _)=_;rw[<-hr];simp only[List.nil_append,List.cons_append] at e2 e3 e4 e5 e6 e7 e8;unfold dm;rw[aw e1,aw e2,aw e3,aw e4,aw e5,aw e6,aw e7,aw e8];rw[show cI G.c_ ["window","most","messages","sure","opening","state","pieces","base"] "noted" (aa 0) kg r T8=some (.nx r,T9) from e9];rfl
  rw[this]
 ·rw[<-hn];exact⟨c9.at_,m9,p9,q9,by omega⟩
 ·have f:Fr [n] S T9:=((((((((((Fr.push.tr c1.fr).tr c2.fr).tr Fr.push).tr c3.fr).tr c4.fr).tr c5.fr).tr c6.fr).tr Fr.push).tr c7.fr).tr c8.fr).tr (Fr.push.tr c9.fr);exact f.mono fun i hi hs=>by
   have:i=n:=by simpa using hi
   omega
end
end Lw
namespace Lw
open PySem L2 DL
def Kh(g:Nat×FN):D:=.tup [.int (g.1:Int),.tup (g.2.map D.int)]
def Ld(e:List (Nat×Pc)):List (Key×D):=e.map fun q=>(Sum.inl (q.1:Int),Fe q.2)
theorem pe(e:List (Nat×Pc))(k:Nat):gO (Ld e) (.inl (k:Int))=(e.lookup k).map Fe:=by
 induction e with
 |nil=>rfl
 |cons a r ih=>
  obtain⟨a1,a2⟩:=a;rw[List.lookup_cons];unfold Ld at ih ⊢;rw[List.map_cons];unfold gO at ih ⊢;rw[List.find?_cons];by_cases h:k=a1
  ·subst h;simp
  ·have h1:(k == a1)=false:=beq_eq_false_iff_ne.mpr h;have h2:decide ((Sum.inl (a1:Int):Key)=Sum.inl (k:Int))=false:=decide_eq_false fun z=>h (by injection z with z;omega)
   simp only[h2,h1];exact ih
theorem Cl(e:List (Nat×Pc))(k:Nat):((Ld e).any fun kv=>decide (kv.1=(Sum.inl (k:Int):Key)))=(e.lookup k).isSome:=by
 induction e with
 |nil=>rfl
 |cons a r ih=>
  obtain⟨a1,a2⟩:=a;rw[List.lookup_cons];unfold Ld at ih ⊢;rw[List.map_cons,List.any_cons];by_cases h:k=a1
  ·subst h;simp
  ·have h1:(k == a1)=false:=beq_eq_false_iff_ne.mpr h;have h2:decide ((Sum.inl (a1:Int):Key)=Sum.inl (k:Int))=false:=decide_eq_false fun z=>h (by injection z with z;omega)
   simp only[h2,h1,Bool.false_or];exact ih
theorem Ct{e:List (Nat×Pc)}{k:Nat}(p:Pc)(h:e.lookup k=none):qO (Ld e) (.inl (k:Int)) (Fe p)=Ld (e++[(k,p)]):=by
 unfold qO;rw[Cl,h];simp[Ld]
theorem BJ(e:List (Nat×Pc))(k:Nat):uA (Ld e) (.inl (k:Int))=Ld (e.filter fun q=>decide (q.1≠k)):=by
 induction e with
 |nil=>rfl
 |cons a r ih=>
  obtain⟨a1,a2⟩:=a;unfold uA Ld at ih ⊢;rw[List.map_cons,List.filter_cons,List.filter_cons];by_cases h:a1=k
  ·subst h;simpa using ih
  ·have h2:decide ((Sum.inl (a1:Int):Key)≠Sum.inl (k:Int))=true:=decide_eq_true fun z=>h (by injection z with z;omega)
   have h3:decide (a1≠k)=true:=decide_eq_true h;simp only[h2,h3,if_true,List.map_cons];rw[ih]
theorem CC(e:List (Nat×Pc)):(Ld e).length=e.length:=by simp[Ld]
structure Fv(G:Cs)(S:List Cell)(n g e b:Nat)(h:Hr):Prop where
 ob:S[n]?=some (.ins G.f_ d_ [.int (h.w:Int),.ob g,.int (h.op:Int),.int (h.nx:Int),.ob e,.ob b])
 gv:S[g]?=some (.lst (h.given.map Kh))
 ea:S[e]?=some (.Gu (Ld h.early))
 be:S[b]?=some (.lst (h.begun.map Fe))
 gb:g≠b
section
variable{G:Cs}{S:List Cell}{n g e b:Nat}{h:Hr}
theorem Fv.ng(a:Fv G S n g e b h):n≠g:=dy a.ob a.gv (by intro z;cases z)
theorem Fv.ne(a:Fv G S n g e b h):n≠e:=dy a.ob a.ea (by intro z;cases z)
theorem Fv.nb(a:Fv G S n g e b h):n≠b:=dy a.ob a.be (by intro z;cases z)
theorem Fv.ge(a:Fv G S n g e b h):g≠e:=dy a.gv a.ea (by intro z;cases z)
theorem Fv.eb(a:Fv G S n g e b h):e≠b:=dy a.ea a.be (by intro z;cases z)
theorem Fv.fr{S':List Cell}{fp:List Nat}(a:Fv G S n g e b h)(f:Fr fp S S')(h1:n∉fp)(h2:g∉fp)(h3:e∉fp)(h4:b∉fp):Fv G S' n g e b h:=⟨f.get a.ob h1,f.get a.gv h2,f.get a.ea h3,f.get a.be h4,a.gb⟩
theorem Fv.push(a:Fv G S n g e b h)(c:List Cell):Fv G (S++c) n g e b h:=⟨aC a.ob,aC a.gv,aC a.ea,aC a.be,a.gb⟩
theorem yW(a:Fv G S n g e b h)(o:Nat):∃S' e' b',cE G [.ob n,.int (o:Int)] S=.ok .EJ S'/\Fv G S' n g e' b' (h.begin_ o)/\Fr [n] S S'/\S.length<=e'/\S.length<=b':=by
 have hn:=bj a.ob;have hg:=bj a.gv;have ng:=a.ng;obtain⟨S1,q1,c1⟩:=gE (fo:=aa 0) (fe:=aa 1) (r:=[some (.ob n),some (.int (o:Int))]) (i:=2) rfl rfl a.ob rfl;obtain⟨S2,q2,c2⟩:=gE (fo:=aa 0) (fe:=dC (.int 0)) (r:=[some (.ob n),some (.int (o:Int))]) (i:=3) rfl rfl c1.at_ rfl;obtain⟨S3,q3,c3⟩:=gE (fo:=aa 0) (fe:=kg) (r:=[some (.ob n),some (.int (o:Int))]) (i:=4) rfl rfl (aC (G:=[.Gu []]) c2.at_) rfl;obtain⟨S4,q4,c4⟩:=gE (fo:=aa 0) (fe:=bT ai) (r:=[some (.ob n),some (.int (o:Int))]) (i:=5) (bY aj (by decide)) rfl (aC (G:=[.lst []]) c3.at_) rfl;have l1:=c1.len;have l2:=c2.len;have l3:=c3.len;have l4:=c4.len;rw[List.length_append,List.length_singleton] at l3 l4;refine⟨S4,S2.length,S3.length,?_,⟨c4.at_,c4.old (aC (c3.old (aC (c2.old (c1.old a.gv ng) ng)) ng)) ng,c4.old (aC (c3.old (aP rfl) (by omega))) (by omega),c4.old (aP rfl) (by omega),by omega⟩,?_,by omega,by omega⟩
 ·show fin S (gG G [some (.ob n),some (.int (o:Int))] S)=_;unfold gG;rw[aw q1,aw q2,aw q3,q4];rfl
 ·exact((((c1.fr.tr c2.fr).tr Fr.push).tr c3.fr).tr Fr.push).tr c4.fr
end
end Lw
namespace Lw
open PySem L2 DL
section
variable{G:Cs}{S S' S1 S2:List Cell}{n g e b e' b' e1 b1 e2 b2:Nat}{h h' h1 h2:Hr}
structure FQ(G:Cs)(n g e b:Nat)(S:List Cell)(e' b':Nat)(S':List Cell)(h':Hr):Prop where
 at_:Fv G S' n g e' b' h'
 fr:Fr [n,g,e,b] S S'
 e_:e'=e\/S.length<=e'
 b_:b'=b\/S.length<=b'
theorem FQ.trans(a:FQ G n g e b S e1 b1 S1 h1)(c:FQ G n g e1 b1 S1 e2 b2 S2 h2):FQ G n g e b S e2 b2 S2 h2:=by
 have hl:=a.fr.1;refine⟨c.at_,a.fr.trans c.fr fun i hi hs=>?_,?_,?_⟩
 ·simp only[List.mem_cons,List.not_mem_nil,or_false] at hi ⊢;have he:=a.e_;have hb:=a.b_;omega
 ·have:=a.e_;have:=c.e_;omega
 ·have:=a.b_;have:=c.b_;omega
theorem FQ.refl(a:Fv G S n g e b h):FQ G n g e b S e b S h:=⟨a,Fr.refl _ _,.inl rfl,.inl rfl⟩
theorem FQ.push(a:FQ G n g e b S e' b' S' h')(c:List Cell):FQ G n g e b S e' b' (S'++c) h':=⟨a.at_.push c,a.fr.tr Fr.push,a.e_,a.b_⟩
theorem sB(a:Fv G S n g e b h)(o:Nat):∃S' e' b',cE G [.ob n,.int (o:Int)] S=.ok .EJ S'/\FQ G n g e b S e' b' S' (h.begin_ o):=by
 obtain⟨S',e',b',q,c,f,h1,h2⟩:=yW a o;exact⟨S',e',b',q,⟨c,f.mono (fun i hi _=>by simp at hi;simp[hi]),.inr h1,.inr h2⟩⟩
theorem rD(a:Fv G S n g e b h)(r:tB):aB G.f_ d_ 2 (aa 0) (some (.ob n) :: r) S=.ok (.int (h.op:Int)) S:=bU rfl a.ob rfl
theorem rM(a:Fv G S n g e b h)(r:tB):aB G.f_ d_ 3 (aa 0) (some (.ob n) :: r) S=.ok (.int (h.nx:Int)) S:=bU rfl a.ob rfl
theorem Aj(a:Fv G S n g e b h)(r:tB):aB G.f_ d_ 0 (aa 0) (some (.ob n) :: r) S=.ok (.int (h.w:Int)) S:=bU rfl a.ob rfl
theorem vb(a:Fv G S n g e b h)(r:tB):aB G.f_ d_ 4 (aa 0) (some (.ob n) :: r) S=.ok (.ob e) S:=bU rfl a.ob rfl
theorem BV(a:Fv G S n g e b h)(r:tB):aB G.f_ d_ 5 (aa 0) (some (.ob n) :: r) S=.ok (.ob b) S:=bU rfl a.ob rfl
theorem DO(a:Fv G S n g e b h)(r:tB):aB G.f_ d_ 1 (aa 0) (some (.ob n) :: r) S=.ok (.ob g) S:=bU rfl a.ob rfl
structure Out(S:List Cell)(l:Nat)(S':List Cell)(cs:List w_):Prop where
 at_:S'[l]?=some (.lst (cs.map l_))
 new:S.length<=l
theorem zy(a:Fv G S n g e b h)(o:Nat):∃S' e' b' l,cm G [.ob n,.int (o:Int)] S=.ok (.ob l) S'/\FQ G n g e b S e' b' S' (h.j_ (.x_ o)).1/\Out S l S' (h.j_ (.x_ o)).2:=by
 show ∃S' e' b' l,fin S (dF G [some (.ob n),some (.int (o:Int))] S)=_/\_;unfold dF;have t1:ao (g_ G2 (aa 1) (aB G.f_ d_ 2 (aa 0))) [some (.ob n),some (.int (o:Int))] S=.ok (decide (o<h.op)) S:=by
  refine az (au rfl (rD a _) ?_);rw[oN];congr 2;rw[decide_eq_decide];omega
 have t2:ao (g_ MR (aa 1) (aB G.f_ d_ 2 (aa 0))) [some (.ob n),some (.int (o:Int))] S=.ok (decide (h.op<o)) S:=by
  refine az (au rfl (rD a _) ?_);rw[BK];congr 2;rw[decide_eq_decide];omega
 have wl:∀S0,bK (bT (ac (cj (ac (dC (.str "welcome")) (ac (aa 1) ai))) ai)) [some (.ob n),some (.int (o:Int))] S0=some (.rt (.ob S0.length),S0++[.lst [l_ (.s_ o)]]):=fun S0=>
  aR (bY (ag (bM (ag rfl (ag rfl aj)) (by simp)) aj) (by simp))
 by_cases c1:o<h.op
 ·have e1:h.j_ (.x_ o)=(h,[]):=by simp[Hr.j_,c1]
  rw[decide_eq_true c1] at t1;rw[cZ (by rw[aT t1];exact aR (bY aj (by decide))),e1];exact⟨_,e,b,_,rfl,(FQ.refl a).push _,⟨aP rfl,Nat.le_refl _⟩⟩
 ·rw[decide_eq_false c1] at t1;rw[aw (by rw[ay t1];rfl)];by_cases c2:h.op<o
  ·have e1:h.j_ (.x_ o)=(h.begin_ o,[.s_ o]):=by simp[Hr.j_,c1,c2]
   rw[decide_eq_true c2] at t2;obtain⟨S1,YE,YF,q,c⟩:=sB a o;rw[aw (by rw[aT t2];exact aZ (ba rfl a.ob (ag rfl aj) q)),wl,e1];exact⟨_,YE,YF,_,rfl,c.push _,⟨aP rfl,c.fr.1⟩⟩
  ·have e1:h.j_ (.x_ o)=(h,[.s_ o]):=by simp[Hr.j_,c1,c2]
   rw[decide_eq_false c2] at t2;rw[aw (by rw[ay t2];rfl),wl,e1];exact⟨_,e,b,_,rfl,(FQ.refl a).push _,⟨aP rfl,Nat.le_refl _⟩⟩
theorem zi(m w:Nat)(S:List Cell):bV [.int (m:Int),.int (w:Int)] S=.ok (.bl (decide (m<2 * w))) S:=by
 have h1:(0:Int)<=(m:Int):=by omega
 have h2:decide ((m:Int)<2 * (w:Int))=decide (m<2 * w):=by rw[decide_eq_decide];omega
 simp[bV,jg,h1,h2]
theorem yY{m:Int}{low:Int}{w:Nat}(hw:0<w)(S:List Cell):ck [.int m,.int low,.int (w:Int)] S=.ok (.int (ju m low w)) S:=by
 have h1:(0:Int)<2 * (w:Int):=by omega
 simp[ck,jr,dc h1,ju]
theorem AA(a:Fv G S n g e b h)(hw:0<h.w)(num:Nat)(p:Pc)(hz:h.early.length<1000000):∃S',gf G [.ob n,.int (num:Int),Fe p] S=.ok .EJ S'/\FQ G n g e b S e b S' (h.keep num p):=by
 show ∃S',fin S (iN G [some (.ob n),some (.int (num:Int)),some (Fe p),none] S)=_/\_;unfold iN;have t1:bO (al bV (ac (aa 1) (ac (aB G.f_ d_ 0 (aa 0)) ai))) [some (.ob n),some (.int (num:Int)),some (Fe p),none] S=.ok (decide (num<2 * h.w)) S:=by
  rw[cO,av,ax (ag rfl (ag (Aj a _) aj)) (zi num h.w S)];rfl
 by_cases c1:num<2 * h.w
 ·rw[decide_eq_true c1] at t1;have t2:al ck (ac (aa 1) (ac (g_ rq (aB G.f_ d_ 3 (aa 0)) (aB G.f_ d_ 0 (aa 0))) (ac (aB G.f_ d_ 0 (aa 0)) ai))) [some (.ob n),some (.int (num:Int)),some (Fe p),none] S=.ok (.int (h.idx num)) S:=
   ax (ag rfl (ag (au (rM a _) (Aj a _) (sj _ _)) (ag (Aj a _) aj))) (yY hw S)
  rw[aT t1,aw (bw t2)];show ∃S',fin S (FF _ _ _ [some (.ob n),some (.int (num:Int)),some (Fe p),some (.int (h.idx num))] S)=_/\_;have t3:ao (g_ Ja (aa 3) (aB G.f_ d_ 3 (aa 0))) [some (.ob n),some (.int (num:Int)),some (Fe p),some (.int (h.idx num))] S=.ok (decide ((h.nx:Int)<=h.idx num)) S:=
   az (au rfl (rM a _) (wb _ _))
  by_cases c2:(h.nx:Int)<=h.idx num
  ·obtain⟨k,hk⟩:∃k:Nat,h.idx num=(k:Int):=⟨(h.idx num).toNat,by omega⟩;have t4:ao (g_ fm (aa 3) (aB G.f_ d_ 4 (aa 0))) [some (.ob n),some (.int (num:Int)),some (Fe p),some (.int (h.idx num))] S=.ok (!(h.early.lookup k).isSome) S:=by
    refine az (au rfl (vb a _) ?_);rw[hk];simp only[fm,gZ,fu a.ea,pe,Option.isSome_map]
   by_cases c3:h.early.lookup k=none
   ·have e1:h.keep num p = { h with early:=h.early++[(k,p)] }:=by
     unfold Hr.keep;rw[if_pos ⟨c1,c2,by rw[hk];exact c3⟩,hk];rfl
    have tt:de (ao (g_ Ja (aa 3) (aB G.f_ d_ 3 (aa 0)))) (ao (g_ fm (aa 3) (aB G.f_ d_ 4 (aa 0)))) [some (.ob n),some (.int (num:Int)),some (Fe p),some (.int (h.idx num))] S=.ok true S:=by
     rw[cL,av,t3,decide_eq_true c2];show ao _ _ S=_;rw[t4,c3];rfl
    rw[aT tt,tL (d:=Fe p) rfl (vb a _) (y:=.int (h.idx num)) rfl (S4:=S.set e (.Gu (Ld (h.early++[(k,p)])))) (by
     rw[hk];simp only[qC,gZ,fu a.ea,Ct p c3];exact ci (Ny (by rw[CC];omega)))]
    refine⟨_,rfl,?_⟩;rw[e1];exact⟨⟨cC a.ob a.ne.symm,cC a.gv a.ge.symm,dz a.ea,cC a.be a.eb,a.gb⟩,Fr.set (by simp),.inl rfl,.inl rfl⟩
   ·have e1:h.keep num p=h:=by
     unfold Hr.keep;exact if_neg fun q=>c3 (by have:=q.2.2;rw[hk] at this;exact this)
    have tt:de (ao (g_ Ja (aa 3) (aB G.f_ d_ 3 (aa 0)))) (ao (g_ fm (aa 3) (aB G.f_ d_ 4 (aa 0)))) [some (.ob n),some (.int (num:Int)),some (Fe p),some (.int (h.idx num))] S=.ok false S:=by
     rw[cL,av,t3,decide_eq_true c2];show ao _ _ S=_;rw[t4];cases q:h.early.lookup k with
     |none=>exact absurd q c3
     |some _=>rfl
    rw[ay tt,e1];exact⟨_,rfl,FQ.refl a⟩
  ·have e1:h.keep num p=h:=by
    unfold Hr.keep;exact if_neg fun q=>c2 q.2.1
   have tt:de (ao (g_ Ja (aa 3) (aB G.f_ d_ 3 (aa 0)))) (ao (g_ fm (aa 3) (aB G.f_ d_ 4 (aa 0)))) [some (.ob n),some (.int (num:Int)),some (Fe p),some (.int (h.idx num))] S=.ok false S:=by
    rw[cL,av,t3,decide_eq_false c2];rfl
   rw[ay tt,e1];exact⟨_,rfl,FQ.refl a⟩
 ·rw[decide_eq_false c1] at t1;have e1:h.keep num p=h:=by
   unfold Hr.keep;exact if_neg fun q=>c1 q.1
  rw[ay t1,e1];exact⟨_,rfl,FQ.refl a⟩
end
end Lw
namespace Lw
open PySem L2 DL
section
variable{G:Cs}{S S' S1 S2:List Cell}{n g e b e' b' e1 b1 e2 b2:Nat}{h h' h1 h2:Hr}
theorem Bq(a:Fv G S n g e b h):∃S' e' b',fX G [.ob n] S=.ok .EJ S'/\FQ G n g e b S e' b' S' h.Fp:=by
 obtain⟨S',e',b',q,c⟩:=sB a 0;refine⟨S',e',b',?_,c⟩;show fin S (iG G [some (.ob n)] S)=_;unfold iG;rw[aZ (ba rfl a.ob rfl q)];rfl
end
end Lw
namespace Lw
open PySem L2 DL
section
variable{G:Cs}{S S' S1 S2:List Cell}{n g e b e' b' e1 b1 e2 b2:Nat}{h h' h1 h2:Hr}
theorem CB(p:Pc)(S:List Cell):v_ (Fe p) (.int 0) S=.ok (.int p.1) S:=rfl
theorem Cb(p:Pc)(S:List Cell):v_ (Fe p) (.int 1) S=.ok (.tup (p.2.map D.int)) S:=rfl
theorem nV(ps:List Pc)(k:Nat):(bc (ps.take k)).length<=(bc ps).length:=by
 have:=iy (ps.take k) (ps.drop k);rw[List.take_append_drop] at this;rw[this,List.length_append];omega
theorem mG{ps:List Pc}{k:Nat}{p:Pc}(h:ps[k]?=some p):bc (ps.take (k+1))=bc (ps.take k)++p.2:=by
 rw[List.take_add_one,h];simp[iy,bc]
theorem wB{x:D}{ps:List Pc}{gd:Option (Nat×List D)}(hx:∀T,lL x (S++T)=.ok ⟨ps.map Fe,gd⟩ (S++T))(hg:IH gd S)(hz:(bc ps).length<=1000000):dY [x] S=.ok (.tup ((bc ps).map D.int)) S:=by
 show cG S (jc [some x,none,none] S)=_;unfold jc;rw[aw (bw (bY aj (by decide)))];show cG S (aI _ _ [some x,some (.ob S.length),none] (S++[.lst []]))=_;have hw:Ip (aa 0) [some x,some (.ob S.length),none] (S++[.lst []])=.ok ⟨ps.map Fe,gd⟩ (S++[.lst []]):=by
  rw[oq,av];exact hx _
 obtain⟨r',S',q,last,rfl,rfl⟩:=dR (g:=gd) (tg:=gN 2) (b:=bz (Ij qL (aa 1) (ac (g_ v_ (aa 2) (dC (.int 1))) ai)))
  (fun k r S'=>∃last,r=[some x,some (.ob S.length),last]/\S'=S++[.lst ((bc (ps.take k)).map D.int)]) (ps.map Fe) 0 [some x,some (.ob S.length),none] (S++[.lst []])
  (by
   rintro i y r S' hy ⟨last,rfl,rfl⟩;rw[List.getElem?_map] at hy;cases hp:ps[i]? with
   |none=>rw[hp] at hy;cases hy
   |some p=>
    rw[hp] at hy;cases hy;rw[Nat.zero_add];have Jc:∀a c:Cell,(S++[a]).set S.length c=S++[c]:=fun a c=>by rw[List.set_append_right _ _ (Nat.le_refl _)];simp
    refine⟨[some x,some (.ob S.length),some (Fe p)],[some x,some (.ob S.length),some (Fe p)],S++[.lst ((bc (ps.take i)).map D.int++p.2.map D.int)],rfl,?_,?_,some (Fe p),rfl,?_⟩
    ·have hl:=nV ps (i+1);rw[mG hp,List.length_append] at hl;have ee:=aZ (r:=[some x,some (.ob S.length),some (Fe p)]) (fe:=Ij qL (aa 1) (ac (g_ v_ (aa 2) (dC (.int 1))) ai)) (lE (n:=S.length) (S:=S++[.lst ((bc (ps.take i)).map D.int)]) rfl (aP rfl) (ag (au rfl rfl (Cb p _)) aj)
      (BZ (xs:=(bc (ps.take i)).map D.int) (ys:=p.2.map D.int) (aP rfl) (by rw[List.length_map,List.length_map];omega)))
     rw[Jc] at ee;exact ee
    ·cases gd with
     |none=>trivial
     |some q=>exact aC hg
    ·rw[mG hp,List.map_append])
  ⟨none,rfl,by simp[bc]⟩
 rw[aw (by rw[mh hw];exact q),aR (ax (ag (x:=.ob S.length) rfl aj) (fC (aP rfl)))];rw[show 0+(ps.map Fe).length=ps.length by simp,List.take_length];exact li (by unfold Gp;exact cY _ _)
theorem vY{k:Nat}{ps:List Pc}(hk:S[k]?=some (.lst (ps.map Fe)))(hz:(bc ps).length<=1000000):dY [.ob k] S=.ok (.tup ((bc ps).map D.int)) S:=by
 refine wB (gd:=some (k,ps.map Fe)) (fun T=>?_) hk hz;simp only[lL];rw[aC hk]
theorem BQ(a:Fv G S n g e b h)(p:Pc)(z1:h.begun.length<1000000)(z2:h.given.length<1000000)(z3:(bc (h.begun++[p])).length<=1000000) :
  ∃S' b',fR G [.ob n,Fe p] S=.ok .EJ S'/\FQ G n g e b S e b' S' (h.take p):=by
 show ∃S' b',fin S (iO G [some (.ob n),some (Fe p)] S)=_/\_;unfold iO;obtain⟨S1,q1,c1⟩:=tP (fo:=aB G.f_ d_ 5 (aa 0)) (ft:=ac (aa 1) ai) (r:=[some (.ob n),some (Fe p)]) (BV a _) a.be (ag rfl aj) (by simpa using z1);have a1:Fv G S1 n g e b { h with begun:=h.begun++[p] }:=⟨c1.old a.ob a.nb.symm,c1.old a.gv a.gb.symm,c1.old a.ea a.eb.symm,by simpa using c1.at_,a.gb⟩;have f1:Fr [n,g,e,b] S S1:=c1.fp (by simp);rw[aw (aZ q1)];have t1:ao (g_ EX (g_ v_ (aa 1) (dC (.int 0))) (dC (.int 1))) [some (.ob n),some (Fe p)] S1=.ok (decide (p.1=1)) S1:=az (au (au rfl rfl (CB p _)) rfl (iI _ _));by_cases hl:p.1=1
 ·rw[decide_eq_true hl] at t1;have e1:h.take p = { h with given:=h.given++[(h.op,bc (h.begun++[p]))],begun:=[] }:=by unfold Hr.take;rw[if_pos hl]
  obtain⟨S2,q2,c2⟩:=tP (d:=Kh (h.op,bc (h.begun++[p]))) (fo:=aB G.f_ d_ 1 (aa 0)) (ft:=ac (cj (ac (aB G.f_ d_ 2 (aa 0)) (ac (al dY (ac (aB G.f_ d_ 5 (aa 0)) ai)) ai))) ai)
   (r:=[some (.ob n),some (Fe p)]) (DO a1 _) a1.gv (ag (bM (ag (rD a1 _) (ag (ax (ag (BV a1 _) aj) (vY a1.be z3)) aj)) (by simp)) aj) (by simpa using z2)
  obtain⟨S3,q3,c3⟩:=gE (fo:=aa 0) (fe:=bT ai) (r:=[some (.ob n),some (Fe p)]) (i:=5) (bY aj (by decide)) rfl (aC (G:=[.lst []]) (c2.old a1.ob a.ng.symm)) rfl;have l2:=c2.len;have Hc:=bj a1.ob;have hlg:=bj a1.gv;have hl1:=f1.1;have a3:Fv G S3 n g e S2.length { h with given:=h.given++[(h.op,bc (h.begun++[p]))],begun:=[] }:=
   ⟨c3.at_,c3.old (aC (by simpa using c2.at_)) a.ng,c3.old (aC (c2.old a1.ea a.ge)) a.ne,c3.old (aP rfl) (by omega),by omega⟩
  refine⟨S3,S2.length,?_,?_⟩
  ·rw[aT t1,aw (aZ q2),q3];rfl
  ·rw[e1];exact⟨a3,((f1.tr (c2.fp (by simp))).tr Fr.push).tr (c3.fp (by simp)),.inl rfl,.inr (by omega)⟩
 ·rw[decide_eq_false hl] at t1;have e1:h.take p = { h with begun:=h.begun++[p] }:=by unfold Hr.take;rw[if_neg hl]
  refine⟨S1,b,?_,?_⟩
  ·rw[ay t1];rfl
  ·rw[e1];exact⟨a1,f1,.inl rfl,.inl rfl⟩
end
end Lw
namespace Lw
open PySem L2 DL
structure Bd(N:Nat)(h:Hr):Prop where
 cnt:h.given.length+h.begun.length+h.early.length<=N
 bp:∀p,p∈h.begun->p.2.length<=40
 ep:∀q,q∈h.early->q.2.2.length<=40
theorem qo:∀{ps:List Pc},(∀p,p∈ps->p.2.length<=40)->(bc ps).length<=40 * ps.length
 |[],_=>by simp[bc]
 |p :: ps,h=>by
  have h1:=h p (by simp);have h2:=qo fun q hq=>h q (List.mem_cons_of_mem _ hq)
  have:bc (p :: ps)=p.2++bc ps:=by simp[bc]
  rw[this,List.length_append,List.length_cons];omega
theorem oB{l:List (Nat×Pc)}{k:Nat}{p:Pc}(h:l.lookup k=some p):(k,p)∈l:=by
 induction l with
 |nil=>simp at h
 |cons a r ih=>
  obtain⟨a1,a2⟩:=a;rw[List.lookup_cons] at h;cases e:k == a1 with
  |true=>
   rw[e] at h;simp at h;have:=beq_iff_eq.mp e;subst this h;simp
  |false=>
   rw[e] at h;exact List.mem_cons_of_mem _ (ih h)
section
variable{N:Nat}{h:Hr}
theorem Bd.mono{M:Nat}(b:Bd N h)(hm:N<=M):Bd M h:=⟨Nat.le_trans b.cnt hm,b.bp,b.ep⟩
theorem Bd.begin_(b:Bd N h)(o:Nat):Bd N (h.begin_ o):=⟨by have:=b.cnt;simp[Hr.begin_];omega,by simp[Hr.begin_],by simp[Hr.begin_]⟩
theorem Bd.keep(b:Bd N h)(num:Nat){p:Pc}(hp:p.2.length<=40):Bd (N+1) (h.keep num p):=by
 unfold Hr.keep;split
 ·refine⟨?_,b.bp,fun q hq=>?_⟩
  ·have:=b.cnt;show h.given.length+h.begun.length+(h.early++_).length<=_;rw[List.length_append,List.length_singleton];omega
  ·rcases List.mem_append.mp hq with hq|hq
   ·exact b.ep q hq
   ·rw[List.mem_singleton.mp hq];exact hp
 ·exact b.mono (Nat.le_succ _)
theorem Bd.one(b:Bd N h){p:Pc}(hp:h.early.lookup h.nx=some p):Bd N (h.pop.take p)/\(h.pop.take p).early.length<h.early.length:=by
 have hm:=oB hp;have Hc:(h.early.filter fun e=>decide (e.1≠h.nx)).length<h.early.length:=List.length_filter_lt_length_iff_exists.mpr ⟨_,hm,by simp⟩;have hc:=b.cnt;have RC:=b.ep _ hm;unfold Hr.take Hr.pop;split
 ·refine⟨⟨?_,by simp,fun q hq=>b.ep q (List.mem_filter.mp hq).1⟩,Hc⟩;show(h.given++[_]).length+0+(h.early.filter _).length<=N;rw[List.length_append,List.length_singleton];omega
 ·refine⟨⟨?_,fun q hq=>?_,fun q hq=>b.ep q (List.mem_filter.mp hq).1⟩,Hc⟩
  ·show h.given.length+(h.begun++[p]).length+(h.early.filter _).length<=N;rw[List.length_append,List.length_singleton];omega
  ·rcases List.mem_append.mp hq with hq|hq
   ·exact b.bp q hq
   ·rw[List.mem_singleton.mp hq];exact RC
theorem Bd.ET:∀{k:Nat}{h:Hr},Bd N h->Bd N (Hr.ET k h)
 |0,_,b=>b
 |k+1,h,b=>by
  unfold Hr.ET;cases e:h.early.lookup h.nx with
  |none=>exact b
  |some p=>exact Bd.ET (b.one e).1
end
section
variable{G:Cs}{S S' S1 S2:List Cell}{n g e b e' b' e1 b1 e2 b2:Nat}{h h' h1 h2:Hr}{N:Nat}
theorem wu(hN:N<=20000):∀(k fuel:Nat) (S:List Cell) (b:Nat) (h:Hr) (x1:Option D),Fv G S n g e b h->h.early.length<=k->k<fuel->Bd N h->
  ∃S' b' OR,cb G fuel [some (.ob n),x1] S=some (.nx [some (.ob n),OR],S')/\FQ G n g e b S e b' S' (Hr.ET k h):=by
 intro k
 induction k with
 |zero=>
  intro fuel S b h x1 a hk hf _;obtain⟨f,rfl⟩:∃f,fuel=f+1:=⟨fuel-1,by omega⟩;have he:h.early=[]:=List.length_eq_zero_iff.mp (by omega);have t1:ao (g_ pw (aB G.f_ d_ 3 (aa 0)) (aB G.f_ d_ 4 (aa 0))) [some (.ob n),x1] S=.ok false S:=by
   refine az (au (rM a _) (vb a _) ?_);simp only[pw,gZ,fu a.ea,pe,Option.isSome_map,he];rfl
  refine⟨S,b,x1,?_,FQ.refl a⟩;unfold cb;exact Ci t1
 |succ k ih=>
  intro fuel S b h x1 a hk hf hb;obtain⟨f,rfl⟩:∃f,fuel=f+1:=⟨fuel-1,by omega⟩;have t1:ao (g_ pw (aB G.f_ d_ 3 (aa 0)) (aB G.f_ d_ 4 (aa 0))) [some (.ob n),x1] S=.ok (h.early.lookup h.nx).isSome S:=by
   refine az (au (rM a _) (vb a _) ?_);simp only[pw,gZ,fu a.ea,pe,Option.isSome_map]
  cases hp:h.early.lookup h.nx with
  |none=>
   rw[hp] at t1;refine⟨S,b,x1,?_,?_⟩
   ·unfold cb;exact Ci t1
   ·unfold Hr.ET;rw[hp];exact FQ.refl a
  |some p=>
   rw[hp] at t1;obtain⟨RE,Hc⟩:=hb.one hp;have hm:=oB hp;have YG:=hb.ep _ hm;have hc:=hb.cnt;have q1:yg uH (aB G.f_ d_ 4 (aa 0)) (ac (aB G.f_ d_ 3 (aa 0)) ai) [some (.ob n),x1] S=.ok (Fe p) (S.set e (.Gu (Ld (h.early.filter fun q=>decide (q.1≠h.nx))))):=by
    refine B4 (vb a _) a.ea (ag (rM a _) aj) ?_;simp only[uH,gZ,fu a.ea,pe,hp,Option.map_some,BJ]
   have a1:Fv G (S.set e (.Gu (Ld (h.early.filter fun q=>decide (q.1≠h.nx))))) n g e b { h with early:=h.early.filter fun q=>decide (q.1≠h.nx) }:=
    ⟨cC a.ob a.ne.symm,cC a.gv a.ge.symm,dz a.ea,cC a.be a.eb,a.gb⟩
   obtain⟨S1,MB⟩:∃S1,S.set e (.Gu (Ld (h.early.filter fun q=>decide (q.1≠h.nx))))=S1:=⟨_,rfl⟩;have f1:Fr [n,g,e,b] S S1:=by rw[<-MB];exact Fr.set (by simp)
   rw[MB] at q1 a1;obtain⟨S2,q2,c2⟩:=wP (fo:=aa 0) (fe:=dC (.int 1)) (r:=[some (.ob n),some (Fe p)]) (i:=3) rfl a1.ob rfl rfl rfl;have a2:Fv G S2 n g e b h.pop:=⟨c2.at_,c2.old a1.gv a.ng,c2.old a1.ea a.ne,c2.old a1.be a.nb,a.gb⟩;have f2:Fr [n,g,e,b] S1 S2:=c2.fp (by simp);obtain⟨S3,b3,q3,c3⟩:=BQ a2 p (by show h.begun.length<_;omega) (by show h.given.length<_;omega) (by
    have:=qo (ps:=h.begun++[p]) fun q hq=>(List.mem_append.mp hq).elim (hb.bp q) fun z=>by rw[List.mem_singleton.mp z];exact YG
    rw[List.length_append,List.length_singleton] at this;show(bc (h.begun++[p])).length<=_;omega)
   obtain⟨S4,b4,x4,q4,c4⟩:=ih f S3 b3 _ (some (Fe p)) c3.at_ (by omega) (by omega) RE;refine⟨S4,b4,x4,?_,?_⟩
   ·unfold cb at q4 ⊢;rw[DS t1 (r2:=[some (.ob n),some (Fe p)]) (S2:=S3) ?_]
    ·exact q4
    ·rw[aw (bw q1)];show aI _ _ [some (.ob n),some (Fe p)] S1=_;rw[aw q2,aZ (ba rfl a2.ob (ag rfl aj) q3)]
   ·have e1:Hr.ET (k+1) h=Hr.ET k (h.pop.take p):=by
     rw[Hr.ET,hp]
    rw[e1];exact(FQ.trans ⟨a2,f1.tr f2,.inl rfl,.inl rfl⟩ c3).trans c4
theorem Aw(a:Fv G S n g e b h)(hw:0<h.w)(RF:h.w<=1000):∃S',fQ G [.ob n] S=.ok (l_ h.note) S'/\FQ G n g e b S e b S' h:=by
 show ∃S',fin S (iP G [some (.ob n),none] S)=_/\_;unfold iP;have q1:=iR (f:=sC (aB G.f_ d_ 0 (aa 0))) (tg:=gN 0) (ti:=lx) (fe:=Qy (ao (g_ pw (g_ bN (aB G.f_ d_ 3 (aa 1)) (aa 0)) (aB G.f_ d_ 4 (aa 1)))) (dC (.int 1)) (dC (.int 0))) (own:=1) (caps:=[0])
  (r:=[some (.ob n),none]) (S:=S) (S1:=S) (w:=⟨gP 0 1 h.w,none⟩) (fun _=>true) (fun x=>match x with
   |.int k=>.int (if (h.early.lookup (h.nx+k.toNat)).isSome then 1 else 0)
   |_=>.EJ) (by
   show((aB G.f_ d_ 0 (aa 0) [some (.ob n),none]).bind wW) S=_;rw[av,Aj a];exact xi (by omega)) trivial (by simp[gP];omega) (by
   intro x hx;simp only[gP,List.mem_map,List.mem_range] at hx;obtain⟨k,_,rfl⟩:=hx;refine⟨_,rfl,fun _=>rfl,fun _ zs=>?_⟩;have ap:=a.push [.lst zs];have g1:aB G.f_ d_ 3 (aa 1) [some (.int (0+(k:Int) * 1)),some (.ob n)] (S++[.lst zs])=.ok (.int (h.nx:Int)) (S++[.lst zs]):=bU rfl ap.ob rfl;have g2:aB G.f_ d_ 4 (aa 1) [some (.int (0+(k:Int) * 1)),some (.ob n)] (S++[.lst zs])=.ok (.ob e) (S++[.lst zs]):=bU rfl ap.ob rfl;have g3:ao (g_ pw (g_ bN (aB G.f_ d_ 3 (aa 1)) (aa 0)) (aB G.f_ d_ 4 (aa 1))) [some (.int (0+(k:Int) * 1)),some (.ob n)] (S++[.lst zs])=.ok (h.early.lookup (h.nx+k)).isSome (S++[.lst zs]):=by
    refine az (au (au g1 rfl (cf _ _)) g2 ?_);have:(h.nx:Int)+(0+(k:Int) * 1)=((h.nx+k:Nat):Int):=by omega
    rw[this];simp only[pw,gZ,fu ap.ea,pe,Option.isSome_map]
   show Qy _ _ _ [some (.int (0+(k:Int) * 1)),some (.ob n)] (S++[.lst zs])=_;rw[Dx,av,g3];have hk:(0+(k:Int) * 1).toNat=k:=by omega
   dsimp only;rw[hk];cases(h.early.lookup (h.nx+k)).isSome<;>rfl)
 have M4:((gP 0 1 h.w).filter fun _=>true).map (fun x=>match x with
   |.int k=>.int (if (h.early.lookup (h.nx+k.toNat)).isSome then 1 else 0)
   |_=>.EJ)=h.bits.map D.int:=by
  rw[List.filter_eq_self.mpr (by simp)];unfold gP Hr.bits;rw[List.map_map,List.map_map];refine List.map_congr_left fun k _=>?_
  have hk:(0+(k:Int) * 1).toNat=k:=by omega
  simp only[Function.comp_def,hk]
 rw[M4] at q1;have ap:=a.push [.lst (h.bits.map D.int)];rw[aw (bw (ax (ag q1 aj) (fC (aP rfl))))];show ∃S',fin S (bK _ [some (.ob n),some (.tup (h.bits.map D.int))] (S++[.lst (h.bits.map D.int)]))=_/\_;rw[aR (bM (ag rfl (ag (rD ap _) (ag (ax (ag (rM ap _) (ag (Aj ap _) aj)) (vp hw _)) (ag rfl aj)))) (by simp))];exact⟨_,rfl,(FQ.refl a).push _⟩
end
end Lw
namespace Lw
open PySem L2 DL
section
variable{G:Cs}{S S' S1 S2:List Cell}{n g e b e' b' e1 b1 e2 b2:Nat}{h h' h1 h2:Hr}{N:Nat}
theorem Wu(d:D)(xs:List D)(S:List Cell):v_ (.tup (d :: xs)) (.int 0) S=.ok d S:=aS (i:=0) rfl
def P8:w_->Prop
 |.data _ _ p=>p.2.length<=40
 |_=>True
theorem Bd.j_{c:w_}(d:Bd N h)(hc:P8 c):Bd (N+1) (h.j_ c).1:=by
 cases c with
 |x_ o=>
  dsimp only[Hr.j_];split
  ·exact d.mono (Nat.le_succ _)
  ·split
   ·exact(d.begin_ o).mono (Nat.le_succ _)
   ·exact d.mono (Nat.le_succ _)
 |data o m p=>
  dsimp only[Hr.j_];split
  ·exact d.mono (Nat.le_succ _)
  ·split
   ·exact d.mono (Nat.le_succ _)
   ·exact Bd.ET (d.keep m hc)
 |s_ o=>exact d.mono (Nat.le_succ _)
 |Gk o=>exact d.mono (Nat.le_succ _)
 |note o j bs=>exact d.mono (Nat.le_succ _)
theorem B9(h:Hr)(p:Pc):(h.take p).w=h.w:=by unfold Hr.take;split<;>rfl
theorem rT:∀(k:Nat) (h:Hr),(Hr.ET k h).w=h.w
 |0,_=>rfl
 |k+1,h=>by
  unfold Hr.ET;cases e:h.early.lookup h.nx with
  |none=>rfl
  |some p=>exact(rT k _).trans (B9 _ _)
theorem Cm(h:Hr)(m:Nat)(p:Pc):(h.keep m p).w=h.w:=by unfold Hr.keep;split<;>rfl
theorem tf(h:Hr)(m:Nat)(p:Pc):(h.data m p).w=h.w:=(rT _ _).trans (Cm _ _ _)
theorem BF(h:Hr)(c:w_):(h.j_ c).1.w=h.w:=by
 cases c with
 |x_ o=>
  dsimp only[Hr.j_];split
  ·rfl
  ·split<;>rfl
 |data o m p=>
  dsimp only[Hr.j_];split
  ·rfl
  ·split
   ·rfl
   ·exact tf h m p
 |_=>rfl
theorem AL(a:Fv G S n g e b h)(hw:0<h.w)(RF:h.w<=1000)(d:Bd N h)(hN:N<20000)(o m:Nat)(p:Pc)(hp:p.2.length<=40) :
  ∃S' e' b' l,cz G [.ob n,.int (o:Int),.int (m:Int),Fe p] S=.ok (.ob l) S'/\FQ G n g e b S e' b' S' (h.j_ (.data o m p)).1/\Out S l S' (h.j_ (.data o m p)).2:=by
 show ∃S' e' b' l,fin S (dO G [some (.ob n),some (.int (o:Int)),some (.int (m:Int)),some (Fe p)] S)=_/\_;unfold dO;have t1:ao (g_ G2 (aa 1) (aB G.f_ d_ 2 (aa 0))) [some (.ob n),some (.int (o:Int)),some (.int (m:Int)),some (Fe p)] S=.ok (decide (o<h.op)) S:=by
  refine az (au rfl (rD a _) ?_);rw[oN];congr 2;rw[decide_eq_decide];omega
 have t2:ao (g_ MR (aa 1) (aB G.f_ d_ 2 (aa 0))) [some (.ob n),some (.int (o:Int)),some (.int (m:Int)),some (Fe p)] S=.ok (decide (h.op<o)) S:=by
  refine az (au rfl (rD a _) ?_);rw[BK];congr 2;rw[decide_eq_decide];omega
 by_cases c1:o<h.op
 ·have e1:h.j_ (.data o m p)=(h,[]):=by simp[Hr.j_,c1]
  rw[decide_eq_true c1] at t1;rw[cZ (by rw[aT t1];exact aR (bY aj (by decide))),e1];exact⟨_,e,b,_,rfl,(FQ.refl a).push _,⟨aP rfl,Nat.le_refl _⟩⟩
 ·rw[decide_eq_false c1] at t1;rw[aw (by rw[ay t1];rfl)];by_cases c2:h.op<o
  ·have e1:h.j_ (.data o m p)=(h,[.Gk o]):=by simp[Hr.j_,c1,c2]
   rw[decide_eq_true c2] at t2;rw[cZ (by rw[aT t2];exact aR (bY (ag (bM (ag rfl (ag rfl aj)) (by simp)) aj) (by simp))),e1];exact⟨_,e,b,_,rfl,(FQ.refl a).push _,⟨aP rfl,Nat.le_refl _⟩⟩
  ·have e1:h.j_ (.data o m p)=(h.data m p,[(h.data m p).note]):=by simp[Hr.j_,c1,c2]
   rw[decide_eq_false c2] at t2;have hc:=d.cnt;have dk:=d.keep m hp;obtain⟨S1,q1,k1⟩:=AA a hw m p (by omega);obtain⟨S2,b2,x2,q2,k2⟩:=wu (G:=G) (n:=n) (g:=g) (e:=e) (N:=N+1) (by omega) (h.keep m p).early.length 1000000 S1 b (h.keep m p) none k1.at_ (Nat.le_refl _) (by have:=dk.cnt;omega) dk;have TB:dM G [.ob n] S1=.ok .EJ S2:=by
    show fin S1 (cb G 1000000 [some (.ob n),none] S1)=_;rw[q2];rfl
   have NB:FQ G n g e b S1 e b2 S2 (h.data m p):=k2;obtain⟨S3,q3,k3⟩:=Aw NB.at_ (by rw[tf];exact hw) (by rw[tf];exact RF);have Wv:=(k1.trans NB).trans k3;rw[aw (by rw[ay t2];rfl),aw (aZ (ba rfl a.ob (ag rfl (ag rfl aj)) q1)),aw (aZ (ba rfl k1.at_.ob aj TB)),aR (bY (ag (ba rfl NB.at_.ob aj q3) aj) (by simp)),e1];exact⟨_,e,b2,_,rfl,Wv.push _,⟨aP rfl,Wv.fr.1⟩⟩
theorem Ag(a:Fv G S n g e b h)(hw:0<h.w)(RF:h.w<=1000)(d:Bd N h)(hN:N<20000){c:w_}(hc:P8 c) :
  ∃S' e' b' l,eX G [.ob n,l_ c] S=.ok (.ob l) S'/\FQ G n g e b S e' b' S' (h.j_ c).1/\Out S l S' (h.j_ c).2:=by
 show ∃S' e' b' l,fin S (gA G [some (.ob n),some (l_ c)] S)=_/\_;unfold gA;have TF:∀{k:Str}{xs:List D},l_ c=.tup (.str k :: xs)->(∀S:List Cell,EX (.str k) (.str "hello") S=.ok (.bl false) S)->(∀S:List Cell,EX (.str k) (.str "data") S=.ok (.bl false) S)->h.j_ c=(h,[])->
   ∃S' e' b' l,fin S (aI (FF (ao (g_ EX (g_ v_ (aa 1) (dC (.int 0))) (dC (.str "hello")))) (bK (bh G.f_ d_ (cm G) (aa 0) (ac (g_ v_ (aa 1) (dC (.int 1))) ai))) bC)
 (aI (FF (ao (g_ EX (g_ v_ (aa 1) (dC (.int 0))) (dC (.str "data")))) (bK (bh G.f_ d_ (cz G) (aa 0) (ac (g_ v_ (aa 1) (dC (.int 1))) (ac (g_ v_ (aa 1) (dC (.int 2))) (ac (g_ v_ (aa 1) (dC (.int 3))) ai))))) bC)
 (bK (bT ai))) [some (.ob n),some (l_ c)] S)=.ok (.ob l) S'/\FQ G n g e b S e' b' S' (h.j_ c).1/\Out S l S' (h.j_ c).2:=by
  intro k xs Lm h1 h2 he;rw[Lm,aw (by rw[ay (az (au (au rfl rfl (Wu _ _ _)) rfl (h1 _)))];rfl),aw (by rw[ay (az (au (au rfl rfl (Wu _ _ _)) rfl (h2 _)))];rfl),aR (bY aj (by decide)),he];exact⟨_,e,b,_,rfl,(FQ.refl a).push _,⟨aP rfl,Nat.le_refl _⟩⟩
 cases c with
 |x_ o=>
  obtain⟨S',e',b',l,q,k1,k2⟩:=zy a o;rw[cZ (by rw[aT (az (au (au rfl rfl rfl) rfl bg))];exact aR (ba rfl a.ob (ag (au rfl rfl rfl) aj) q))];exact⟨S',e',b',l,rfl,k1,k2⟩
 |data o m p=>
  obtain⟨S',e',b',l,q,k1,k2⟩:=AL a hw RF d hN o m p hc;rw[aw (by rw[ay (az (au (au rfl rfl rfl) rfl bg))];rfl),
   cZ (by rw[aT (az (au (au rfl rfl rfl) rfl bg))];exact aR (ba rfl a.ob (ag (au rfl rfl rfl) (ag (au rfl rfl rfl) (ag (au rfl rfl rfl) aj))) q))]
  exact⟨S',e',b',l,rfl,k1,k2⟩
 |s_ o=>exact TF (k:="welcome") rfl (fun _=>bg) (fun _=>bg) rfl
 |Gk o=>exact TF (k:="who") rfl (fun _=>bg) (fun _=>bg) rfl
 |note o m bs=>exact TF (k:="note") rfl (fun _=>bg) (fun _=>bg) rfl
theorem AF(w:Nat)(S:List Cell):∃S' g e b,ie G.f_ (bQ G) [.int (w:Int)] S=.ok (.ob S.length) S'/\Fv G S' S.length g e b (Hr.new w)/\Fr [] S S'/\S.length<=g/\S.length<=e/\S.length<=b:=by
 obtain⟨n,hn⟩:∃n,n=S.length:=⟨_,rfl⟩;have s0:(S++[Cell.ins G.f_ [] []])[n]?=some (.ins G.f_ [] []):=aP hn;have q1:=j4 (f:="window") (fo:=aa 0) (fe:=aa 1) (r:=[some (.ob n),some (.int (w:Int))]) rfl rfl s0;have s1:=dz (d:=Cell.ins G.f_ ["window"] [.int (w:Int)]) s0;have q2:=j4 (f:="given") (fo:=aa 0) (fe:=bT ai) (r:=[some (.ob n),some (.int (w:Int))]) (bY aj (by decide)) rfl (aC (G:=[.lst []]) s1);obtain⟨T1,RG⟩:∃T1,(S++[Cell.ins G.f_ [] []]).set n (.ins G.f_ ["window"] [.int (w:Int)])=T1:=⟨_,rfl⟩;have l1:T1.length=S.length+1:=by rw[<-RG];simp
 have f1:Fr [n] S T1:=by rw[<-RG];exact Fr.push.tr (Fr.set (by simp))
 have YH:cI G.f_ [] "window" (aa 0) (aa 1) [some (.ob n),some (.int (w:Int))] (S++[.ins G.f_ [] []])=some (.nx [some (.ob n),some (.int (w:Int))],T1):=by rw[q1,<-RG];rfl
 rw[RG] at s1 q2;have s2:=dz (d:=Cell.ins G.f_ ["window","given"] [.int (w:Int),.ob T1.length]) (aC (G:=[.lst []]) s1);obtain⟨T2,LC⟩:∃T2,(T1++[Cell.lst []]).set n (.ins G.f_ ["window","given"] [.int (w:Int),.ob T1.length])=T2:=⟨_,rfl⟩;have l2:T2.length=S.length+2:=by rw[<-LC];simp;omega
 have f2:Fr [n] T1 T2:=by rw[<-LC];exact Fr.push.tr (Fr.set (by simp))
 have g2:T2[T1.length]?=some (.lst []):=by rw[<-LC];exact cC (aP rfl) (by omega)
 have TB:cI G.f_ ["window"] "given" (aa 0) (bT ai) [some (.ob n),some (.int (w:Int))] T1=some (.nx [some (.ob n),some (.int (w:Int))],T2):=by rw[q2,<-LC];rfl
 rw[LC] at s2;have q3:=j4 (f:="opening") (fo:=aa 0) (fe:=dC (.int 0)) (r:=[some (.ob n),some (.int (w:Int))]) rfl rfl s2;have s3:=dz (d:=Cell.ins G.f_ ["window","given","opening"] [.int (w:Int),.ob T1.length,.int 0]) s2;obtain⟨T3,LG⟩:∃T3,T2.set n (.ins G.f_ ["window","given","opening"] [.int (w:Int),.ob T1.length,.int 0])=T3:=⟨_,rfl⟩;have l3:T3.length=S.length+2:=by rw[<-LG];simp;omega
 have f3:Fr [n] T2 T3:=by rw[<-LG];exact Fr.set (by simp)
 have Tw:cI G.f_ ["window","given"] "opening" (aa 0) (dC (.int 0)) [some (.ob n),some (.int (w:Int))] T2=some (.nx [some (.ob n),some (.int (w:Int))],T3):=by rw[q3,<-LG];rfl
 rw[LG] at s3;have q4:=j4 (f:="next_index") (fo:=aa 0) (fe:=dC (.int 0)) (r:=[some (.ob n),some (.int (w:Int))]) rfl rfl s3;have s4:=dz (d:=Cell.ins G.f_ ["window","given","opening","next_index"] [.int (w:Int),.ob T1.length,.int 0,.int 0]) s3;obtain⟨T4,P7⟩:∃T4,T3.set n (.ins G.f_ ["window","given","opening","next_index"] [.int (w:Int),.ob T1.length,.int 0,.int 0])=T4:=⟨_,rfl⟩;have l4:T4.length=S.length+2:=by rw[<-P7];simp;omega
 have f4:Fr [n] T3 T4:=by rw[<-P7];exact Fr.set (by simp)
 have YI:cI G.f_ ["window","given","opening"] "next_index" (aa 0) (dC (.int 0)) [some (.ob n),some (.int (w:Int))] T3=some (.nx [some (.ob n),some (.int (w:Int))],T4):=by rw[q4,<-P7];rfl
 rw[P7] at s4;have q5:=j4 (f:="early") (fo:=aa 0) (fe:=kg) (r:=[some (.ob n),some (.int (w:Int))]) rfl rfl (aC (G:=[.Gu []]) s4);have s5:=dz (d:=Cell.ins G.f_ ["window","given","opening","next_index","early"] [.int (w:Int),.ob T1.length,.int 0,.int 0,.ob T4.length]) (aC (G:=[.Gu []]) s4);obtain⟨T5,QT⟩:∃T5,(T4++[Cell.Gu []]).set n (.ins G.f_ ["window","given","opening","next_index","early"] [.int (w:Int),.ob T1.length,.int 0,.int 0,.ob T4.length])=T5:=⟨_,rfl⟩;have l5:T5.length=S.length+3:=by rw[<-QT];simp;omega
 have f5:Fr [n] T4 T5:=by rw[<-QT];exact Fr.push.tr (Fr.set (by simp))
 have g5:T5[T4.length]?=some (.Gu []):=by rw[<-QT];exact cC (aP rfl) (by omega)
 have YJ:cI G.f_ ["window","given","opening","next_index"] "early" (aa 0) kg [some (.ob n),some (.int (w:Int))] T4=some (.nx [some (.ob n),some (.int (w:Int))],T5):=by rw[q5,<-QT];rfl
 rw[QT] at s5;have q6:=j4 (f:="begun") (fo:=aa 0) (fe:=bT ai) (r:=[some (.ob n),some (.int (w:Int))]) (bY aj (by decide)) rfl (aC (G:=[.lst []]) s5);have s6:=dz (d:=Cell.ins G.f_ d_ [.int (w:Int),.ob T1.length,.int 0,.int 0,.ob T4.length,.ob T5.length]) (aC (G:=[.lst []]) s5);have YK:cI G.f_ ["window","given","opening","next_index","early"] "begun" (aa 0) (bT ai) [some (.ob n),some (.int (w:Int))] T5=some (.nx [some (.ob n),some (.int (w:Int))],(T5++[Cell.lst []]).set n (.ins G.f_ d_ [.int (w:Int),.ob T1.length,.int 0,.int 0,.ob T4.length,.ob T5.length])):=by rw[q6];rfl
 have f6:Fr [n] T5 ((T5++[Cell.lst []]).set n (.ins G.f_ d_ [.int (w:Int),.ob T1.length,.int 0,.int 0,.ob T4.length,.ob T5.length])):=Fr.push.tr (Fr.set (by simp));have QU:∀m,m≠n->m∉[n]:=fun m hm=>by simpa using hm
 refine⟨(T5++[Cell.lst []]).set n (.ins G.f_ d_ [.int (w:Int),.ob T1.length,.int 0,.int 0,.ob T4.length,.ob T5.length]),T1.length,T4.length,T5.length,?_,?_,?_,by omega,by omega,by omega⟩
 ·unfold ie;rw[<-hn];have:bQ G [.ob n,.int (w:Int)] (S++[.ins G.f_ [] []])=.ok .EJ ((T5++[Cell.lst []]).set n (.ins G.f_ d_ [.int (w:Int),.ob T1.length,.int 0,.int 0,.ob T4.length,.ob T5.length])):=by
   show fin _ (di G [some (.ob n),some (.int (w:Int))] _)=_;unfold di;rw[aw YH,aw TB,aw Tw,aw YI,aw YJ,YK];rfl
  rw[this]
 ·rw[<-hn];refine⟨s6,?_,?_,cC (aP rfl) (by omega),by omega⟩
  ·exact f6.get (f5.get (f4.get (f3.get g2 (QU _ (by omega))) (QU _ (by omega))) (QU _ (by omega))) (QU _ (by omega))
  ·exact f6.get g5 (QU _ (by omega))
 ·exact(((((f1.tr f2).tr f3).tr f4).tr f5).tr f6).mono fun i hi hs=>by
   have:i=n:=by simpa using hi
   omega
end
end Lw
namespace Lw
open PySem L2 DL
theorem xv{S:List Cell}{n:Nat}(is:List Int):pD S (n+2) (.tup (is.map D.int))=some (.tuple (is.map PyData.int)):=lY S n is
theorem lf(n:Nat)(c:w_):Gp n (l_ c):=by
 cases c<;>simp[l_,Fe,Gp,jb,cY]
end Lw
namespace Lw
open PySem L2 DL
end Lw
namespace Lw
open PySem L2 DL
def RH(ss:List Int):Int:=(ss.zipIdx.map fun p=>((1+p.2:Nat):Int) * p.1).sum
def Gn(cs:List Int):List Int:=(cs++[cs.sum % 256])++[RH (cs++[cs.sum % 256]) % 256]
def aA:w_->List Int
 |.x_ o=>[0,(o:Int) / 256,(o:Int) % 256]
 |.s_ o=>[1,(o:Int) / 256,(o:Int) % 256]
 |.Gk o=>[2,(o:Int) / 256,(o:Int) % 256]
 |.data o n p=>[3,(o:Int) / 256,(o:Int) % 256,(n:Int),p.1]++p.2
 |.note o n bs=>[4,(o:Int) / 256,(o:Int) % 256,(n:Int)]++bs
def IM:w_->Prop
 |.x_ o=>o<=65535
 |.s_ o=>o<=65535
 |.Gk o=>o<=65535
 |.data o n p=>o<=65535/\n<=13/\(0<=p.1/\p.1<=1)/\p.2.length<=8/\∀x,x∈p.2->0<=x/\x<=255
 |.note o n bs=>o<=65535/\n<=13/\bs.length<=7/\∀x,x∈bs->0<=x/\x<=1
section
variable{S:List Cell}
theorem fT{xs ys:List D}(hz:(xs++ys).length<=1000000):bN (.tup xs) (.tup ys) S=.ok (.tup (xs++ys)) S:=uV hz
theorem AB(is:List Int):nY [.tup (is.map D.int)] S=.ok (.int is.sum) S:=by
 simp only[nY,gw,iX]
theorem CF{l:Nat}{is:List Int}(h:S[l]?=some (.lst (is.map D.int))):nY [.ob l] S=.ok (.int is.sum) S:=by
 simp only[nY,gw,bZ h,iX]
theorem ni(cs:List Int)(hl:cs.length<=1000)(S:List Cell):cA [.tup (cs.map D.int)] S=.ok (.tup ((Gn cs).map D.int)) S:=by
 show cG S (iA [some (.tup (cs.map D.int)),none,none] S)=_;unfold iA;obtain⟨ss,TH⟩:∃ss,cs++[cs.sum % 256]=ss:=⟨_,rfl⟩;have OM:ss.length=cs.length+1:=by rw[<-TH];simp
 have e1:g_ bN (aa 0) (cj (ac (g_ kj (al nY (ac (aa 0) ai)) (dC (.int 256))) ai)) [some (.tup (cs.map D.int)),none,none] S=.ok (.tup (ss.map D.int)) S:=by
  refine au rfl (bM (ag (au (ax (ag rfl aj) (AB cs)) rfl (dc (by decide))) aj) (by simp)) ?_;rw[fT (by simp;omega),<-TH,List.map_append];rfl
 rw[aw (bw e1)];show cG S (aI _ _ [some (.tup (cs.map D.int)),some (.tup (ss.map D.int)),none] S)=_;have q1:=iR (f:=sV 1 (aa 1)) (tg:=gT [0,1]) (ti:=lx) (fe:=g_ gX (aa 0) (aa 1)) (own:=2) (caps:=[])
  (r:=[some (.tup (cs.map D.int)),some (.tup (ss.map D.int)),none]) (S:=S) (S1:=S) (w:=⟨iU 1 (ss.map D.int),none⟩) (fun _=>true) (fun x=>match x with
   |.tup [.int i,.int j]=>.int (i * j)
   |_=>.EJ) rfl trivial (by simp[iU];omega) (by
   intro x hx;unfold iU at hx;obtain⟨y,hy,rfl⟩:=List.mem_map.mp hx;rw[List.zipIdx_map] at hy;obtain⟨z,hz,rfl⟩:=List.mem_map.mp hy;have Hc:z.2<ss.length:=by
    have:=List.mem_zipIdx hz;omega
   refine⟨_,rfl,fun _=>rfl,fun _ zs=>?_⟩;show g_ gX (aa 0) (aa 1) [some (.int ((1+z.2:Nat):Int)),some (.int z.1)] (S++[.lst zs])=_;exact au rfl rfl (hZ (.inl ⟨by omega,by omega⟩)))
 have hw:((iU 1 (ss.map D.int)).filter fun _=>true).map (fun x=>match x with
   |.tup [.int i,.int j]=>D.int (i * j)
   |_=>.EJ)=(ss.zipIdx.map fun p=>((1+p.2:Nat):Int) * p.1).map D.int:=by
  rw[List.filter_eq_self.mpr (by simp)];unfold iU;rw[List.zipIdx_map,List.map_map,List.map_map,List.map_map];rfl
 rw[hw] at q1;rw[aw (bw (ax (ag q1 aj) (CF (aP rfl))))];show cG S (bK _ [some (.tup (cs.map D.int)),some (.tup (ss.map D.int)),some (.int (RH ss))] (S++[.lst ((ss.zipIdx.map fun p=>((1+p.2:Nat):Int) * p.1).map D.int)]))=_;have e3:g_ bN (aa 1) (cj (ac (g_ kj (aa 2) (dC (.int 256))) ai)) [some (.tup (cs.map D.int)),some (.tup (ss.map D.int)),some (.int (RH ss))] (S++[.lst ((ss.zipIdx.map fun p=>((1+p.2:Nat):Int) * p.1).map D.int)])=.ok (.tup ((Gn cs).map D.int)) (S++[.lst ((ss.zipIdx.map fun p=>((1+p.2:Nat):Int) * p.1).map D.int)]):=by
  refine au rfl (bM (ag (au rfl rfl (dc (by decide))) aj) (by simp)) ?_;rw[fT (by simp;omega)];unfold Gn;rw[TH,List.map_append];rfl
 rw[aR e3];exact li (by unfold Gp;exact cY _ _)
theorem ez(i top:Int)(S:List Cell):aO [.int i,.int top] S=.ok (.bl (decide (0<=i) && decide (i<=top))) S:=by
 by_cases h:0<=i
 ·simp[aO,kE,MP,Pg,uo,h]
 ·simp[aO,kE,MP,Pg,uo,h]
theorem sZ(is:List Int)(top:Int)(hl:is.length<=1000000)(S:List Cell):bX [.tup (is.map D.int),.int top] S=.ok (.bl (is.all fun i=>decide (0<=i) && decide (i<=top))) S:=by
 show cG S (nF [some (.tup (is.map D.int)),some (.int top)] S)=_;unfold nF;have q1:=iR (f:=Ip (aa 0)) (tg:=gN 0) (ti:=lx) (fe:=al aO (ac (aa 0) (ac (aa 1) ai))) (own:=1) (caps:=[1])
  (r:=[some (.tup (is.map D.int)),some (.int top)]) (S:=S) (S1:=S) (w:=⟨is.map D.int,none⟩) (fun _=>true) (fun x=>match x with
   |.int i=>.bl (decide (0<=i) && decide (i<=top))
   |_=>.EJ) rfl trivial (by simpa using hl) (by
   intro x hx;obtain⟨i,_,rfl⟩:=List.mem_map.mp hx;refine⟨_,rfl,fun _=>rfl,fun _ zs=>?_⟩;show al _ _ [some (.int i),some (.int top)] _=_;exact ax (ag rfl (ag rfl aj)) (ez i top _))
 have hw:((is.map D.int).filter fun _=>true).map (fun x=>match x with
   |.int i=>D.bl (decide (0<=i) && decide (i<=top))
   |_=>.EJ)=(is.map fun i=>decide (0<=i) && decide (i<=top)).map D.bl:=by
  rw[List.filter_eq_self.mpr (by simp),List.map_map,List.map_map];rfl
 rw[hw] at q1;have t1:ao (Kf "tuple" (aa 0)) [some (.tup (is.map D.int)),some (.int top)] S=.ok true S:=rfl;have t2:jK (Kf "tuple" (aa 0)) (al zQ (ac (ii (Ip (aa 0)) (gN 0) lx (al aO (ac (aa 0) (ac (aa 1) ai))) 1 [1]) ai)) [some (.tup (is.map D.int)),some (.int top)] S=.ok (.bl (is.all fun i=>decide (0<=i) && decide (i<=top))) (S++[.lst ((is.map fun i=>decide (0<=i) && decide (i<=top)).map D.bl)]):=by
  rw[gU,av,t1];refine ax (ag q1 aj) ?_;simp only[zQ,gw,bZ bR,rQ,List.all_map];rfl
 rw[aR t2];exact li (by simp[Gp])
theorem wk{is:List Int}{top:Int}(hl:is.length<=1000000)(h:∀x,x∈is->0<=x/\x<=top)(S:List Cell):bX [.tup (is.map D.int),.int top] S=.ok (.bl true) S:=by
 rw[sZ is top hl];congr 2;rw[List.all_eq_true];intro x hx;simp[h x hx]
theorem yV{p:Pc}(h1:0<=p.1/\p.1<=1)(h2:p.2.length<=8)(h3:∀x,x∈p.2->0<=x/\x<=255)(S:List Cell):iH [Fe p] S=.ok (.bl true) S:=by
 show cG S (gl [some (Fe p)] S)=_;unfold gl;have t1:G7 (cV (bO (Kf "tuple" (aa 0)))) (ao (g_ Hm (al bq (ac (aa 0) ai)) (dC (.int 2)))) [some (Fe p)] S=.ok false S:=by
  have u:ao (g_ Hm (al bq (ac (aa 0) ai)) (dC (.int 2))) [some (Fe p)] S=.ok false S:=az (au (x:=.int 2) (ax (ag rfl aj) rfl) rfl (iM 2 2));rw[d4,av,cN,av];exact u
 rw[aw (by rw[ay t1];rfl)];have i0:g_ v_ (aa 0) (dC (.int 0)) [some (Fe p)] S=.ok (.int p.1) S:=rfl;have i1:g_ v_ (aa 0) (dC (.int 1)) [some (Fe p)] S=.ok (.tup (p.2.map D.int)) S:=rfl;have e1:ao (al aO (ac (g_ v_ (aa 0) (dC (.int 0))) (ac (dC (.int 1)) ai))) [some (Fe p)] S=.ok true S:=by
  refine az (ax (ag i0 (ag rfl aj)) ?_);rw[ez];simp[h1]
 have e2:ao (al bX (ac (g_ v_ (aa 0) (dC (.int 1))) (ac (dC Fj) ai))) [some (Fe p)] S=.ok true S:=az (ax (ag i1 (ag rfl aj)) (wk (by omega) h3 S));have e3:g_ L6 (al bq (ac (g_ v_ (aa 0) (dC (.int 1))) ai)) (dC Fs) [some (Fe p)] S=.ok (.bl true) S:=by
  refine au (ax (ag i1 aj) (cq _)) rfl ?_;rw[xG,List.length_map,decide_eq_true (by omega)]
 rw[aR (d:=.bl true) (S1:=S)]
 ·exact br (by simp[Gp])
 ·rw[gU,av,e1];show jK _ _ _ S=_;rw[gU,av,e2];exact e3
theorem Ba{bs:List Int}(h2:bs.length<=7)(h3:∀x,x∈bs->0<=x/\x<=1)(S:List Cell):iz [.tup (bs.map D.int)] S=.ok (.bl true) S:=by
 show cG S (gi [some (.tup (bs.map D.int))] S)=_;unfold gi;have e2:ao (al bX (ac (aa 0) (ac (dC (.int 1)) ai))) [some (.tup (bs.map D.int))] S=.ok true S:=az (ax (ag rfl (ag rfl aj)) (wk (by omega) h3 S));have e3:g_ L6 (al bq (ac (aa 0) ai)) (dC GR) [some (.tup (bs.map D.int))] S=.ok (.bl true) S:=by
  refine au (ax (ag rfl aj) (cq _)) rfl ?_;rw[xG,List.length_map,decide_eq_true (by omega)]
 rw[aR (d:=.bl true) (S1:=S)]
 ·exact br (by simp[Gp])
 ·rw[gU,av,e2];exact e3
end
end Lw
namespace Lw
open PySem L2 DL
def w_.FI:w_->Nat
 |.x_ o=>o
 |.s_ o=>o
 |.Gk o=>o
 |.data o _ _=>o
 |.note o _ _=>o
def w_.kn:w_->Str
 |.x_ _=>"hello"
 |.s_ _=>"welcome"
 |.Gk _=>"who"
 |.data _ _ _=>"data"
 |.note _ _ _=>"note"
def w_.ki:w_->Nat
 |.x_ _=>0
 |.s_ _=>1
 |.Gk _=>2
 |.data _ _ _=>3
 |.note _ _ _=>4
section
variable{S:List Cell}{G:Cs}
theorem v8(c:w_)(S:List Cell):v_ (l_ c) (.int 0) S=.ok (.str c.kn) S:=by cases c<;>rfl
theorem wm(c:w_)(S:List Cell):v_ (l_ c) (.int 1) S=.ok (.int (c.FI:Int)) S:=by cases c<;>rfl
theorem IM.op{c:w_}(h:IM c):c.FI<=65535:=by
 cases c with
 |x_ o=>exact h
 |s_ o=>exact h
 |Gk o=>exact h
 |data o n p=>exact h.1
 |note o n bs=>exact h.1
theorem my(c:w_)(S:List Cell):EX (.str c.kn) (.str "data") S=.ok (.bl (decide (c.ki=3))) S:=by
 cases c with
 |x_ o=>exact(show EX (.str "hello") (.str "data") S=.ok (.bl false) S from bg)
 |s_ o=>exact(show EX (.str "welcome") (.str "data") S=.ok (.bl false) S from bg)
 |Gk o=>exact(show EX (.str "who") (.str "data") S=.ok (.bl false) S from bg)
 |data o n p=>exact(show EX (.str "data") (.str "data") S=.ok (.bl true) S from bg)
 |note o n bs=>exact(show EX (.str "note") (.str "data") S=.ok (.bl false) S from bg)
theorem mK(c:w_)(S:List Cell):EX (.str c.kn) (.str "note") S=.ok (.bl (decide (c.ki=4))) S:=by
 cases c with
 |x_ o=>exact(show EX (.str "hello") (.str "note") S=.ok (.bl false) S from bg)
 |s_ o=>exact(show EX (.str "welcome") (.str "note") S=.ok (.bl false) S from bg)
 |Gk o=>exact(show EX (.str "who") (.str "note") S=.ok (.bl false) S from bg)
 |data o n p=>exact(show EX (.str "data") (.str "note") S=.ok (.bl false) S from bg)
 |note o n bs=>exact(show EX (.str "note") (.str "note") S=.ok (.bl true) S from bg)
theorem qi(c:w_)(S:List Cell):inD (.str c.kn) eu S=.ok (.bl (decide (c.ki<3))) S:=by
 have h1:LY (.str "hello") [.str "hello",.str "welcome",.str "who"]=true:=by decide +kernel
 have h2:LY (.str "welcome") [.str "hello",.str "welcome",.str "who"]=true:=by decide +kernel
 have h3:LY (.str "who") [.str "hello",.str "welcome",.str "who"]=true:=by decide +kernel
 have h4:LY (.str "data") [.str "hello",.str "welcome",.str "who"]=false:=by decide +kernel
 have h5:LY (.str "note") [.str "hello",.str "welcome",.str "who"]=false:=by decide +kernel
 cases c with
 |x_ o=>show R.ok (D.bl (LY (.str "hello") [.str "hello",.str "welcome",.str "who"])) S=_;rw[h1];rfl
 |s_ o=>show R.ok (D.bl (LY (.str "welcome") [.str "hello",.str "welcome",.str "who"])) S=_;rw[h2];rfl
 |Gk o=>show R.ok (D.bl (LY (.str "who") [.str "hello",.str "welcome",.str "who"])) S=_;rw[h3];rfl
 |data o n p=>show R.ok (D.bl (LY (.str "data") [.str "hello",.str "welcome",.str "who"])) S=_;rw[h4];rfl
 |note o n bs=>show R.ok (D.bl (LY (.str "note") [.str "hello",.str "welcome",.str "who"])) S=_;rw[h5];rfl
theorem AI(c:w_)(S:List Cell):yb (G4.map D.str) (.str c.kn) S=.ok (.int (c.ki:Int)) S:=by
 have h1:p8 (.str "hello") [.str "hello",.str "welcome",.str "who",.str "data",.str "note"]=some 0:=by decide +kernel
 have h2:p8 (.str "welcome") [.str "hello",.str "welcome",.str "who",.str "data",.str "note"]=some 1:=by decide +kernel
 have h3:p8 (.str "who") [.str "hello",.str "welcome",.str "who",.str "data",.str "note"]=some 2:=by decide +kernel
 have h4:p8 (.str "data") [.str "hello",.str "welcome",.str "who",.str "data",.str "note"]=some 3:=by decide +kernel
 have h5:p8 (.str "note") [.str "hello",.str "welcome",.str "who",.str "data",.str "note"]=some 4:=by decide +kernel
 have e:NT (G4.map D.str)=some [.str "hello",.str "welcome",.str "who",.str "data",.str "note"]:=rfl;unfold yb;cases c<;>simp only[w_.kn,w_.ki,fv,e,h1,h2,h3,h4,h5]<;>rfl
theorem xr{c:w_}(h:IM c)(S:List Cell):cP [l_ c] S=.ok (.bl true) S:=by
 show cG S (eJ [some (l_ c)] S)=_;unfold eJ;have KY:=h.op;have ht:Pg S (l_ c)=some "tuple":=by cases c<;>rfl
 have i1:g_ v_ (aa 0) (dC (.int 1)) [some (l_ c)] S=.ok (.int (c.FI:Int)) S:=au rfl rfl (wm c S);have i0:g_ v_ (aa 0) (dC (.int 0)) [some (l_ c)] S=.ok (.str c.kn) S:=au rfl rfl (v8 c S);have len:al bq (ac (aa 0) ai) [some (l_ c)] S=.ok (.int (if c.ki<3 then 2 else 4)) S:=by
  refine ax (ag rfl aj) ?_;cases c<;>rfl
 have tt:bO (Kf "tuple" (aa 0)) [some (l_ c)] S=.ok true S:=by
  show((MP "tuple" (l_ c)).bind tu) S=_;rw[av];simp only[MP,ht];rfl
 have t1:G7 (cV (bO (Kf "tuple" (aa 0)))) (G7 (ao (g_ G2 (al bq (ac (aa 0) ai)) (dC (.int 2)))) (cV (bO (al aO (ac (g_ v_ (aa 0) (dC (.int 1))) (ac (dC Ff) ai)))))) [some (l_ c)] S=.ok false S:=by
  have u1:ao (g_ G2 (al bq (ac (aa 0) ai)) (dC (.int 2))) [some (l_ c)] S=.ok false S:=by
   refine az (au len rfl ?_);rw[oN,decide_eq_false (by split<;>omega)]
  have u2:bO (al aO (ac (g_ v_ (aa 0) (dC (.int 1))) (ac (dC Ff) ai))) [some (l_ c)] S=.ok true S:=by
   rw[cO,av,ax (ag i1 (ag rfl aj)) (ez (c.FI:Int) 65535 S),decide_eq_true (show(0:Int)<=(c.FI:Int) by omega),decide_eq_true (show(c.FI:Int)<=65535 by omega)];rfl
  rw[d4,av,cN,av,tt];show G7 _ _ _ S=_;rw[d4,av,u1];show cV _ _ S=_;rw[cN,av,u2];rfl
 have t2:ao (g_ inD (g_ v_ (aa 0) (dC (.int 0))) (dC eu)) [some (l_ c)] S=.ok (decide (c.ki<3)) S:=az (au i0 rfl (qi c S));rw[aw (by rw[ay t1];rfl)];by_cases hk:c.ki<3
 ·rw[decide_eq_true hk] at t2;rw[cZ (by rw[aT t2];exact aR (d:=.bl true) (au len rfl (by rw[if_pos hk,iI];rfl)))];exact br (by simp[Gp])
 ·rw[decide_eq_false hk] at t2;rw[aw (by rw[ay t2];rfl)];have t5:ao (g_ Hm (al bq (ac (aa 0) ai)) (dC (.int 4))) [some (l_ c)] S=.ok false S:=az (au len rfl (by rw[if_neg hk,iM];rfl));have t6:ao (g_ EX (g_ v_ (aa 0) (dC (.int 0))) (dC (.str "data"))) [some (l_ c)] S=.ok (decide (c.ki=3)) S:=az (au i0 rfl (my c S));have t7:ao (g_ EX (g_ v_ (aa 0) (dC (.int 0))) (dC (.str "note"))) [some (l_ c)] S=.ok (decide (c.ki=4)) S:=az (au i0 rfl (mK c S));cases c with
  |x_ o=>exact absurd (show 0<3 by decide) hk
  |s_ o=>exact absurd (show 1<3 by decide) hk
  |Gk o=>exact absurd (show 2<3 by decide) hk
  |data o n p=>
   obtain⟨h1,h2,h3,h4,h5⟩:=h;have i2:g_ v_ (aa 0) (dC (.int 2)) [some (l_ (.data o n p))] S=.ok (.int (n:Int)) S:=rfl;have i3:g_ v_ (aa 0) (dC (.int 3)) [some (l_ (.data o n p))] S=.ok (Fe p) S:=rfl;have u2:bO (al aO (ac (g_ v_ (aa 0) (dC (.int 2))) (ac (dC EY) ai))) [some (l_ (.data o n p))] S=.ok true S:=by
    rw[cO,av,ax (ag i2 (ag rfl aj)) (ez (n:Int) 13 S),decide_eq_true (show(0:Int)<=(n:Int) by omega),decide_eq_true (show(n:Int)<=13 by omega)];rfl
   have t8:G7 (ao (g_ Hm (al bq (ac (aa 0) ai)) (dC (.int 4)))) (cV (bO (al aO (ac (g_ v_ (aa 0) (dC (.int 2))) (ac (dC EY) ai))))) [some (l_ (.data o n p))] S=.ok false S:=by
    rw[d4,av,t5];show cV _ _ S=_;rw[cN,av,u2];rfl
   rw[aw (by rw[ay t8];rfl),cZ (by rw[aT t6];exact aR (ax (ag i3 aj) (yV h3 h4 h5 S)))];exact br (by simp[Gp])
  |note o n bs=>
   obtain⟨h1,h2,h4,h5⟩:=h;have i2:g_ v_ (aa 0) (dC (.int 2)) [some (l_ (.note o n bs))] S=.ok (.int (n:Int)) S:=rfl;have i3:g_ v_ (aa 0) (dC (.int 3)) [some (l_ (.note o n bs))] S=.ok (.tup (bs.map D.int)) S:=rfl;have u2:bO (al aO (ac (g_ v_ (aa 0) (dC (.int 2))) (ac (dC EY) ai))) [some (l_ (.note o n bs))] S=.ok true S:=by
    rw[cO,av,ax (ag i2 (ag rfl aj)) (ez (n:Int) 13 S),decide_eq_true (show(0:Int)<=(n:Int) by omega),decide_eq_true (show(n:Int)<=13 by omega)];rfl
   have t8:G7 (ao (g_ Hm (al bq (ac (aa 0) ai)) (dC (.int 4)))) (cV (bO (al aO (ac (g_ v_ (aa 0) (dC (.int 2))) (ac (dC EY) ai))))) [some (l_ (.note o n bs))] S=.ok false S:=by
    rw[d4,av,t5];show cV _ _ S=_;rw[cN,av,u2];rfl
   rw[aw (by rw[ay t8];rfl),aw (by rw[ay t6];rfl),aR (d:=.bl true) (S1:=S)]
   ·exact br (by simp[Gp])
   ·rw[gU,av,t7];exact ax (ag i3 aj) (Ba h4 h5 S)
theorem fJ{c:w_}(h:IM c):3<=(aA c).length/\(aA c).length<=13:=by
 cases c with
 |x_ o=>exact⟨by simp[aA],by simp[aA]⟩
 |s_ o=>exact⟨by simp[aA],by simp[aA]⟩
 |Gk o=>exact⟨by simp[aA],by simp[aA]⟩
 |data o n p=>obtain⟨h1,h2,h3,h4,h5⟩:=h;exact⟨by simp[aA],by simp[aA];omega⟩
 |note o n bs=>obtain⟨h1,h2,h4,h5⟩:=h;exact⟨by simp[aA],by simp[aA];omega⟩
end
end Lw
namespace Lw
open PySem L2 DL
section
variable{S:List Cell}{G:Cs}
theorem zR{c:w_}(h:IM c)(S:List Cell):ka [l_ c] S=.ok (.tup ((aA c).map D.int)) S:=by
 show cG S (kq [some (l_ c),none] S)=_;unfold kq;have i1:g_ v_ (aa 0) (dC (.int 1)) [some (l_ c),none] S=.ok (.int (c.FI:Int)) S:=au rfl rfl (wm c S);have i0:∀r,g_ v_ (aa 0) (dC (.int 0)) (some (l_ c) :: r) S=.ok (.str c.kn) S:=fun r=>au rfl rfl (v8 c S)
 have kx:mw dW (ac (g_ v_ (aa 0) (dC (.int 0))) ai) [some (l_ c),none] S=.ok (.int (c.ki:Int)) S:=by
  unfold mw;rw[av,ag (i0 _) aj];exact AI c S
 rw[aw (bw (bM (ag kx (ag (au i1 rfl (vE ⟨by decide,by decide⟩)) (ag (au i1 rfl (dc (by decide))) aj))) (by simp)))];show cG S (aI _ _ [some (l_ c),some (.tup [.int (c.ki:Int),.int ((c.FI:Int) / 256),.int ((c.FI:Int) % 256)])] S)=_;have t6:ao (g_ EX (g_ v_ (aa 0) (dC (.int 0))) (dC (.str "data"))) [some (l_ c),some (.tup [.int (c.ki:Int),.int ((c.FI:Int) / 256),.int ((c.FI:Int) % 256)])] S=.ok (decide (c.ki=3)) S:=az (au (i0 _) rfl (my c S));have t7:ao (g_ EX (g_ v_ (aa 0) (dC (.int 0))) (dC (.str "note"))) [some (l_ c),some (.tup [.int (c.ki:Int),.int ((c.FI:Int) / 256),.int ((c.FI:Int) % 256)])] S=.ok (decide (c.ki=4)) S:=az (au (i0 _) rfl (mK c S));cases c with
 |x_ o=>
  rw[aw (by rw[ay t6];rfl),aw (by rw[ay t7];rfl),aR rfl];exact br (by simp[Gp,jb])
 |s_ o=>
  rw[aw (by rw[ay t6];rfl),aw (by rw[ay t7];rfl),aR rfl];exact br (by simp[Gp,jb])
 |Gk o=>
  rw[aw (by rw[ay t6];rfl),aw (by rw[ay t7];rfl),aR rfl];exact br (by simp[Gp,jb])
 |data o n p=>
  obtain⟨h1,h2,h3,h4,h5⟩:=h;have e1:g_ bN (g_ bN (aa 1) (cj (ac (g_ v_ (aa 0) (dC (.int 2))) (ac (g_ v_ (g_ v_ (aa 0) (dC (.int 3))) (dC (.int 0))) ai)))) (g_ v_ (g_ v_ (aa 0) (dC (.int 3))) (dC (.int 1))) [some (l_ (.data o n p)),some (.tup [.int ((3:Nat):Int),.int ((o:Int) / 256),.int ((o:Int) % 256)])] S=.ok (.tup ((aA (.data o n p)).map D.int)) S:=by
   refine au (au rfl (bM (ag (x:=.int (n:Int)) rfl (ag (x:=.int p.1) rfl aj)) (by simp)) (fT (by simp))) (y:=.tup (p.2.map D.int)) rfl ?_;rw[fT (by simp;omega)];rfl
  rw[cZ (by rw[aT t6];exact aR e1)];exact br (by unfold Gp;exact cY _ _)
 |note o n bs=>
  obtain⟨h1,h2,h4,h5⟩:=h;have e1:g_ bN (g_ bN (aa 1) (cj (ac (g_ v_ (aa 0) (dC (.int 2))) ai))) (g_ v_ (aa 0) (dC (.int 3))) [some (l_ (.note o n bs)),some (.tup [.int ((4:Nat):Int),.int ((o:Int) / 256),.int ((o:Int) % 256)])] S=.ok (.tup ((aA (.note o n bs)).map D.int)) S:=by
   refine au (au rfl (bM (ag (x:=.int (n:Int)) rfl aj) (by simp)) (fT (by simp))) (y:=.tup (bs.map D.int)) rfl ?_;rw[fT (by simp;omega)];rfl
  rw[aw (by rw[ay t6];rfl),cZ (by rw[aT t7];exact aR e1)];exact br (by unfold Gp;exact cY _ _)
theorem vK{c:w_}(h:IM c)(S:List Cell):jM G [l_ c] S=.ok (.tup ((Gn (aA c)).map D.int)) S:=by
 show cG S (me G [some (l_ c)] S)=_;unfold me;have t1:cV (bO (al cP (ac (aa 0) ai))) [some (l_ c)] S=.ok false S:=by
  rw[cN,av,cO,av,ax (ag rfl aj) (xr h S)];rfl
 have hl:=fJ h;rw[aw (by rw[ay t1];rfl),aR (ax (ag (ax (ag rfl aj) (zR h S)) aj) (ni _ (by omega) S))];exact br (by unfold Gp;exact cY _ _)
end
end Lw
namespace Lw
open PySem L2 DL
section
variable{S:List Cell}{G:Cs}
theorem rC{xs:List D}(h:2<=xs.length):fD xs none (some (-2))=xs.take (xs.length-2):=by
 unfold fD;have e:HT.FR xs.length xs.length (some (-2))=xs.length-2:=by
  unfold HT.FR;simp only[];split<;>omega
 rw[HT.Ib,e];simp
theorem D3(c:w_)(S:List Cell):v_ (.tup ((aA c).map D.int)) (.int 0) S=.ok (.int (c.ki:Int)) S:=aS (i:=0) (by cases c<;>rfl)
theorem Ev(c:w_)(S:List Cell):v_ (.tup ((aA c).map D.int)) (.int 1) S=.ok (.int ((c.FI:Int) / 256)) S:=aS (i:=1) (by cases c<;>rfl)
theorem D6(c:w_)(S:List Cell):v_ (.tup ((aA c).map D.int)) (.int 2) S=.ok (.int ((c.FI:Int) % 256)) S:=aS (i:=2) (by cases c<;>rfl)
theorem AX{c:w_}(h:IM c)(S:List Cell):gn [.tup ((aA c).map D.int)] S=.ok (l_ c) S:=by
 show cG S (eR [some (.tup ((aA c).map D.int)),none,none,none] S)=_;unfold eR;have KY:=h.op;have e1:g_ v_ (dC dW) (g_ v_ (aa 0) (dC (.int 0))) [some (.tup ((aA c).map D.int)),none,none,none] S=.ok (.str c.kn) S:=au rfl (au rfl rfl (D3 c S)) (aS (i:=c.ki) (by cases c<;>rfl));have e2:g_ bN (g_ gX (g_ v_ (aa 0) (dC (.int 1))) (dC (.int 256))) (g_ v_ (aa 0) (dC (.int 2))) [some (.tup ((aA c).map D.int)),some (.str c.kn),none,none] S=.ok (.int (c.FI:Int)) S:=by
  have i1:g_ v_ (aa 0) (dC (.int 1)) [some (.tup ((aA c).map D.int)),some (.str c.kn),none,none] S=.ok (.int ((c.FI:Int) / 256)) S:=au rfl rfl (Ev c S);have i2:g_ v_ (aa 0) (dC (.int 2)) [some (.tup ((aA c).map D.int)),some (.str c.kn),none,none] S=.ok (.int ((c.FI:Int) % 256)) S:=au rfl rfl (D6 c S);refine au (au i1 rfl (hZ (.inr ⟨by decide,by decide⟩))) i2 ?_;rw[cf];congr 2;omega
 rw[aw (bw e1)];show cG S (aI _ _ [some (.tup ((aA c).map D.int)),some (.str c.kn),none,none] S)=_;rw[aw (bw e2)];show cG S (aI _ _ [some (.tup ((aA c).map D.int)),some (.str c.kn),some (.int (c.FI:Int)),none] S)=_;have hl:=fJ h;have e3:Hb GD (aa 0) (bF (dC EZ)) bE [some (.tup ((aA c).map D.int)),some (.str c.kn),some (.int (c.FI:Int)),none] S=.ok (.tup (((aA c).drop 3).map D.int)) S:=by
  simp only[kL,ja,List.getElem?_cons_succ,List.getElem?_cons_zero,av,dE,jB,eC,eT,uJ,GD];rw[show(3:Int)=((3:Nat):Int) from rfl,fH (by rw[List.length_map];omega),<-List.map_drop]
 rw[aw (bw e3)];show cG S (aI _ _ [some (.tup ((aA c).map D.int)),some (.str c.kn),some (.int (c.FI:Int)),some (.tup (((aA c).drop 3).map D.int))] S)=_;have t6:ao (g_ EX (aa 1) (dC (.str "data"))) [some (.tup ((aA c).map D.int)),some (.str c.kn),some (.int (c.FI:Int)),some (.tup (((aA c).drop 3).map D.int))] S=.ok (decide (c.ki=3)) S:=az (au rfl rfl (my c S));have t7:ao (g_ EX (aa 1) (dC (.str "note"))) [some (.tup ((aA c).map D.int)),some (.str c.kn),some (.int (c.FI:Int)),some (.tup (((aA c).drop 3).map D.int))] S=.ok (decide (c.ki=4)) S:=az (au rfl rfl (mK c S));have sh:∀{r:tB},ao (g_ EX (aa 1) (dC (.str "data"))) r S=.ok false S->ao (g_ EX (aa 1) (dC (.str "note"))) r S=.ok false S->
   aI (FF (de (ao (g_ EX (aa 1) (dC (.str "data")))) (ao (g_ Ja (al bq (ac (aa 3) ai)) (dC (.int 2))))) (bK (cj (ac (aa 1) (ac (aa 2) (ac (g_ v_ (aa 3) (dC (.int 0))) (ac (cj (ac (g_ v_ (aa 3) (dC (.int 1))) (ac (Hb GD (aa 3) (bF (dC (.int 2))) bE) ai))) ai)))))) bC)
    (aI (FF (de (ao (g_ EX (aa 1) (dC (.str "note")))) (ao (g_ Ja (al bq (ac (aa 3) ai)) (dC (.int 1))))) (bK (cj (ac (aa 1) (ac (aa 2) (ac (g_ v_ (aa 3) (dC (.int 0))) (ac (Hb GD (aa 3) (bF (dC (.int 1))) bE) ai)))))) bC)
    (bK (g_ bN (cj (ac (aa 1) (ac (aa 2) ai))) (aa 3)))) r S=bK (g_ bN (cj (ac (aa 1) (ac (aa 2) ai))) (aa 3)) r S:=by
  intro r a b;rw[aw (by rw[ay (by rw[cL,av,a];rfl)];rfl),aw (by rw[ay (by rw[cL,av,b];rfl)];rfl)]
 cases c with
 |x_ o=>
  rw[sh t6 t7,aR (au (bM (ag rfl (ag rfl aj)) (by simp)) rfl (fT (by simp[aA])))];exact br (lf _ (.x_ o))
 |s_ o=>
  rw[sh t6 t7,aR (au (bM (ag rfl (ag rfl aj)) (by simp)) rfl (fT (by simp[aA])))];exact br (lf _ (.s_ o))
 |Gk o=>
  rw[sh t6 t7,aR (au (bM (ag rfl (ag rfl aj)) (by simp)) rfl (fT (by simp[aA])))];exact br (lf _ (.Gk o))
 |data o n p=>
  obtain⟨h1,h2,h3,h4,h5⟩:=h;have TJ:(aA (.data o n p)).drop 3=(n:Int) :: p.1 :: p.2:=rfl;rw[TJ] at t6 ⊢;have g1:ao (g_ Ja (al bq (ac (aa 3) ai)) (dC (.int 2))) [some (.tup ((aA (.data o n p)).map D.int)),some (.str (w_.data o n p).kn),some (.int ((w_.data o n p).FI:Int)),some (.tup (((n:Int) :: p.1 :: p.2).map D.int))] S=.ok true S:=by
   refine az (au (ax (ag rfl aj) (cq _)) rfl ?_);rw[wb,decide_eq_true (by simp;omega)]
  have g2:Hb GD (aa 3) (bF (dC (.int 2))) bE [some (.tup ((aA (.data o n p)).map D.int)),some (.str (w_.data o n p).kn),some (.int ((w_.data o n p).FI:Int)),some (.tup (((n:Int) :: p.1 :: p.2).map D.int))] S=.ok (.tup (p.2.map D.int)) S:=by
   simp only[kL,ja,List.getElem?_cons_succ,List.getElem?_cons_zero,av,dE,jB,eC,eT,uJ,GD];rw[show(2:Int)=((2:Nat):Int) from rfl,fH (by simp)];rfl
  rw[cZ (by rw[aT (by rw[cL,av,t6];exact g1)];exact aR (bM (ag rfl (ag rfl (ag (x:=.int (n:Int)) (au rfl rfl (aS (i:=0) rfl)) (ag (bM (ag (x:=.int p.1) (au rfl rfl (aS (i:=1) rfl)) (ag g2 aj)) (by simp)) aj)))) (by simp)))];exact br (lf _ (.data o n p))
 |note o n bs=>
  obtain⟨h1,h2,h4,h5⟩:=h;have TJ:(aA (.note o n bs)).drop 3=(n:Int) :: bs:=rfl;rw[TJ] at t6 t7 ⊢;have g1:ao (g_ Ja (al bq (ac (aa 3) ai)) (dC (.int 1))) [some (.tup ((aA (.note o n bs)).map D.int)),some (.str (w_.note o n bs).kn),some (.int ((w_.note o n bs).FI:Int)),some (.tup (((n:Int) :: bs).map D.int))] S=.ok true S:=by
   refine az (au (ax (ag rfl aj) (cq _)) rfl ?_);rw[wb,decide_eq_true (by simp;omega)]
  have g2:Hb GD (aa 3) (bF (dC (.int 1))) bE [some (.tup ((aA (.note o n bs)).map D.int)),some (.str (w_.note o n bs).kn),some (.int ((w_.note o n bs).FI:Int)),some (.tup (((n:Int) :: bs).map D.int))] S=.ok (.tup (bs.map D.int)) S:=by
   simp only[kL,ja,List.getElem?_cons_succ,List.getElem?_cons_zero,av,dE,jB,eC,eT,uJ,GD];rw[show(1:Int)=((1:Nat):Int) from rfl,fH (by simp)];rfl
  rw[aw (by rw[ay (by rw[cL,av,t6];rfl)];rfl),cZ (by rw[aT (by rw[cL,av,t7];exact g1)];exact aR (bM (ag rfl (ag rfl (ag (x:=.int (n:Int)) (au rfl rfl (aS (i:=0) rfl)) (ag g2 aj)))) (by simp)))];exact br (lf _ (.note o n bs))
theorem rP{c:w_}(h:IM c):∀x,x∈aA c->0<=x/\x<=255:=by
 have KY:=h.op;intro x hx;cases c with
 |x_ o=>have:o<=65535:=KY;simp[aA] at hx;omega
 |s_ o=>have:o<=65535:=KY;simp[aA] at hx;omega
 |Gk o=>have:o<=65535:=KY;simp[aA] at hx;omega
 |data o n p=>
  obtain⟨h1,h2,h3,h4,h5⟩:=h;simp[aA] at hx;rcases hx with hx|hx|hx|hx|hx|hx
  ·omega
  ·omega
  ·omega
  ·omega
  ·omega
  ·exact h5 x hx
 |note o n bs=>
  obtain⟨h1,h2,h4,h5⟩:=h;simp[aA] at hx;rcases hx with hx|hx|hx|hx|hx
  ·omega
  ·omega
  ·omega
  ·omega
  ·have:=h5 x hx;omega
theorem Ae{cs:List Int}(h:∀x,x∈cs->0<=x/\x<=255):∀x,x∈Gn cs->0<=x/\x<=255:=by
 intro x hx;unfold Gn at hx;rcases List.mem_append.mp hx with hx|hx
 ·rcases List.mem_append.mp hx with hx|hx
  ·exact h x hx
  ·rw[List.mem_singleton.mp hx];omega
 ·rw[List.mem_singleton.mp hx];omega
theorem mT(cs:List Int):(Gn cs).length=cs.length+2:=by simp[Gn]
theorem m0(cs:List Int):(Gn cs).take cs.length=cs:=by
 unfold Gn;rw[List.append_assoc];exact List.take_left
theorem Av{c:w_}(h:IM c)(S:List Cell):kA G [.tup ((Gn (aA c)).map D.int)] S=.ok (l_ c) S:=by
 show cG S (mJ G [some (.tup ((Gn (aA c)).map D.int)),none,none] S)=_;unfold mJ;have hl:=fJ h;have Mz:=mT (aA c);have u1:bO (al bX (ac (aa 0) (ac (dC Fj) ai))) [some (.tup ((Gn (aA c)).map D.int)),none,none] S=.ok true S:=by
  rw[cO,av,ax (ag rfl (ag rfl aj)) (wk (by omega) (Ae (rP h)) S)];rfl
 have u2:ao (g_ G2 (al bq (ac (aa 0) ai)) (g_ bN (dC EZ) (dC EO))) [some (.tup ((Gn (aA c)).map D.int)),none,none] S=.ok false S:=by
  refine az (au (ax (ag rfl aj) (cq _)) (au rfl rfl (cf _ _)) ?_);rw[oN,List.length_map,decide_eq_false (by omega)]
 have u3:ao (g_ Ja (g_ v_ (aa 0) (dC (.int 0))) (al bq (ac (dC dW) ai))) [some (.tup ((Gn (aA c)).map D.int)),none,none] S=.ok false S:=by
  have i0:g_ v_ (aa 0) (dC (.int 0)) [some (.tup ((Gn (aA c)).map D.int)),none,none] S=.ok (.int (c.ki:Int)) S:=au rfl rfl (aS (i:=0) (by cases c<;>rfl));have hk:c.ki<=4:=by cases c<;>simp[w_.ki]
  refine az (au i0 (ax (ag rfl aj) (cq _)) ?_);rw[wb,decide_eq_false];show ¬((5:Int)<=(c.ki:Int));omega
 have t1:G7 (cV (bO (al bX (ac (aa 0) (ac (dC Fj) ai))))) (G7 (ao (g_ G2 (al bq (ac (aa 0) ai)) (g_ bN (dC EZ) (dC EO)))) (ao (g_ Ja (g_ v_ (aa 0) (dC (.int 0))) (al bq (ac (dC dW) ai))))) [some (.tup ((Gn (aA c)).map D.int)),none,none] S=.ok false S:=by
  rw[d4,av,cN,av,u1];show G7 _ _ _ S=_;rw[d4,av,u2];exact u3
 rw[aw (by rw[ay t1];rfl)];have e1:Hb GD (aa 0) bE (bF (P2 AZ (dC EO))) [some (.tup ((Gn (aA c)).map D.int)),none,none] S=.ok (.tup ((aA c).map D.int)) S:=by
  have Pu:fD ((Gn (aA c)).map D.int) none (some (-2))=(aA c).map D.int:=by
   rw[rC (by rw[List.length_map];omega),List.length_map,Mz,<-List.map_take,show(aA c).length+2-2=(aA c).length by omega,m0]
  show R.ok (D.tup (fD ((Gn (aA c)).map D.int) none (some (-2)))) S=_;rw[Pu]
 rw[aw (bw e1)];show cG S (aI _ _ [some (.tup ((Gn (aA c)).map D.int)),some (.tup ((aA c).map D.int)),none] S)=_;have t2:ao (g_ Hm (aa 0) (al cA (ac (aa 1) ai))) [some (.tup ((Gn (aA c)).map D.int)),some (.tup ((aA c).map D.int)),none] S=.ok false S:=
  az (au rfl (ax (ag rfl aj) (ni _ (by omega) S)) (AD (xv (n:=28) (Gn (aA c))) (xv (n:=28) (Gn (aA c)))))
 rw[aw (by rw[ay t2];rfl),aw (bw (ax (ag rfl aj) (AX h S)))];show cG S (aI _ _ [some (.tup ((Gn (aA c)).map D.int)),some (.tup ((aA c).map D.int)),some (l_ c)] S)=_;have t3:cV (bO (al cP (ac (aa 2) ai))) [some (.tup ((Gn (aA c)).map D.int)),some (.tup ((aA c).map D.int)),some (l_ c)] S=.ok false S:=by
  rw[cN,av,cO,av,ax (ag rfl aj) (xr h S)];rfl
 rw[aw (by rw[ay t3];rfl),aR rfl];exact br (lf _ c)
end
end Lw
namespace Lw
open PySem L2 DL
section
variable{S:List Cell}{G:Cs}
theorem z9(p:Pc)(hl:p.2.length<=1000)(S:List Cell):iH [Fe p] S=.ok (.bl (decide (0<=p.1/\p.1<=1) && (p.2.all fun i=>decide (0<=i) && decide (i<=255)) && decide (p.2.length<=8))) S:=by
 show cG S (gl [some (Fe p)] S)=_;unfold gl;have t1:G7 (cV (bO (Kf "tuple" (aa 0)))) (ao (g_ Hm (al bq (ac (aa 0) ai)) (dC (.int 2)))) [some (Fe p)] S=.ok false S:=by
  have u:ao (g_ Hm (al bq (ac (aa 0) ai)) (dC (.int 2))) [some (Fe p)] S=.ok false S:=az (au (x:=.int 2) (ax (ag rfl aj) rfl) rfl (iM 2 2));rw[d4,av,cN,av];exact u
 rw[aw (by rw[ay t1];rfl)];have i0:g_ v_ (aa 0) (dC (.int 0)) [some (Fe p)] S=.ok (.int p.1) S:=rfl;have i1:g_ v_ (aa 0) (dC (.int 1)) [some (Fe p)] S=.ok (.tup (p.2.map D.int)) S:=rfl;have e1:ao (al aO (ac (g_ v_ (aa 0) (dC (.int 0))) (ac (dC (.int 1)) ai))) [some (Fe p)] S=.ok (decide (0<=p.1) && decide (p.1<=1)) S:=az (ax (ag i0 (ag rfl aj)) (ez _ _ S));have e2:ao (al bX (ac (g_ v_ (aa 0) (dC (.int 1))) (ac (dC Fj) ai))) [some (Fe p)] S=.ok (p.2.all fun i=>decide (0<=i) && decide (i<=255)) S:=az (ax (ag i1 (ag rfl aj)) (sZ _ _ (by omega) S));have e3:g_ L6 (al bq (ac (g_ v_ (aa 0) (dC (.int 1))) ai)) (dC Fs) [some (Fe p)] S=.ok (.bl (decide (p.2.length<=8))) S:=by
  refine au (ax (ag i1 aj) (cq _)) rfl ?_;rw[xG,List.length_map];congr 2;rw[decide_eq_decide];omega
 obtain⟨b2,QV⟩:∃b2,(p.2.all fun i=>decide (0<=i) && decide (i<=255))=b2:=⟨_,rfl⟩;rw[QV] at e2 ⊢;have hd:decide (0<=p.1/\p.1<=1)=(decide (0<=p.1) && decide (p.1<=1)):=by simp
 rw[hd];obtain⟨b1,Pw⟩:∃b1,(decide (0<=p.1) && decide (p.1<=1))=b1:=⟨_,rfl⟩;rw[Pw] at e1 ⊢;rw[aR (d:=.bl (b1 && b2 && decide (p.2.length<=8))) (S1:=S)]
 ·exact br (by simp[Gp])
 ·rw[gU,av,e1];cases b1 with
  |false=>rfl
  |true=>
   show jK _ _ _ S=_;rw[gU,av,e2];cases b2 with
   |false=>rfl
   |true=>exact e3
theorem Bj(bs:List Int)(hl:bs.length<=1000)(S:List Cell):iz [.tup (bs.map D.int)] S=.ok (.bl ((bs.all fun i=>decide (0<=i) && decide (i<=1)) && decide (bs.length<=7))) S:=by
 show cG S (gi [some (.tup (bs.map D.int))] S)=_;unfold gi;have e2:ao (al bX (ac (aa 0) (ac (dC (.int 1)) ai))) [some (.tup (bs.map D.int))] S=.ok (bs.all fun i=>decide (0<=i) && decide (i<=1)) S:=az (ax (ag rfl (ag rfl aj)) (sZ _ _ (by omega) S));have e3:g_ L6 (al bq (ac (aa 0) ai)) (dC GR) [some (.tup (bs.map D.int))] S=.ok (.bl (decide (bs.length<=7))) S:=by
  refine au (ax (ag rfl aj) (cq _)) rfl ?_;rw[xG,List.length_map];congr 2;rw[decide_eq_decide];omega
 obtain⟨b2,QV⟩:∃b2,(bs.all fun i=>decide (0<=i) && decide (i<=1))=b2:=⟨_,rfl⟩;rw[QV] at e2 ⊢;rw[aR (d:=.bl (b2 && decide (bs.length<=7))) (S1:=S)]
 ·exact br (by simp[Gp])
 ·rw[gU,av,e2];cases b2 with
  |false=>rfl
  |true=>exact e3
theorem LM{l:List Int}{t:Int}:(l.all fun i=>decide (0<=i) && decide (i<=t))=true↔∀x,x∈l->0<=x/\x<=t:=by
 rw[List.all_eq_true];constructor
 ·intro h x hx;have:=h x hx;simp at this;exact this
 ·intro h x hx;simp[h x hx]
theorem wF{c:w_}(KY:c.FI<=65535)(hz:∀o n p,c=.data o n p->p.2.length<=1000)(V_:∀o n bs,c=.note o n bs->bs.length<=1000)(h:¬IM c)(S:List Cell):cP [l_ c] S=.ok (.bl false) S:=by
 show cG S (eJ [some (l_ c)] S)=_;unfold eJ;have ht:Pg S (l_ c)=some "tuple":=by cases c<;>rfl
 have i1:g_ v_ (aa 0) (dC (.int 1)) [some (l_ c)] S=.ok (.int (c.FI:Int)) S:=au rfl rfl (wm c S);have i0:g_ v_ (aa 0) (dC (.int 0)) [some (l_ c)] S=.ok (.str c.kn) S:=au rfl rfl (v8 c S);have len:al bq (ac (aa 0) ai) [some (l_ c)] S=.ok (.int (if c.ki<3 then 2 else 4)) S:=by
  refine ax (ag rfl aj) ?_;cases c<;>rfl
 have tt:bO (Kf "tuple" (aa 0)) [some (l_ c)] S=.ok true S:=by
  show((MP "tuple" (l_ c)).bind tu) S=_;rw[av];simp only[MP,ht];rfl
 have t1:G7 (cV (bO (Kf "tuple" (aa 0)))) (G7 (ao (g_ G2 (al bq (ac (aa 0) ai)) (dC (.int 2)))) (cV (bO (al aO (ac (g_ v_ (aa 0) (dC (.int 1))) (ac (dC Ff) ai)))))) [some (l_ c)] S=.ok false S:=by
  have u1:ao (g_ G2 (al bq (ac (aa 0) ai)) (dC (.int 2))) [some (l_ c)] S=.ok false S:=by
   refine az (au len rfl ?_);rw[oN,decide_eq_false (by split<;>omega)]
  have u2:bO (al aO (ac (g_ v_ (aa 0) (dC (.int 1))) (ac (dC Ff) ai))) [some (l_ c)] S=.ok true S:=by
   rw[cO,av,ax (ag i1 (ag rfl aj)) (ez (c.FI:Int) 65535 S),decide_eq_true (show(0:Int)<=(c.FI:Int) by omega),decide_eq_true (show(c.FI:Int)<=65535 by omega)];rfl
  rw[d4,av,cN,av,tt];show G7 _ _ _ S=_;rw[d4,av,u1];show cV _ _ S=_;rw[cN,av,u2];rfl
 have t2:ao (g_ inD (g_ v_ (aa 0) (dC (.int 0))) (dC eu)) [some (l_ c)] S=.ok (decide (c.ki<3)) S:=az (au i0 rfl (qi c S));rw[aw (by rw[ay t1];rfl)];have t6:ao (g_ EX (g_ v_ (aa 0) (dC (.int 0))) (dC (.str "data"))) [some (l_ c)] S=.ok (decide (c.ki=3)) S:=az (au i0 rfl (my c S));have t7:ao (g_ EX (g_ v_ (aa 0) (dC (.int 0))) (dC (.str "note"))) [some (l_ c)] S=.ok (decide (c.ki=4)) S:=az (au i0 rfl (mK c S));cases c with
 |x_ o=>exact absurd KY h
 |s_ o=>exact absurd KY h
 |Gk o=>exact absurd KY h
 |data o n p=>
  rw[aw (by rw[ay t2];rfl)];have t5:ao (g_ Hm (al bq (ac (aa 0) ai)) (dC (.int 4))) [some (l_ (.data o n p))] S=.ok false S:=az (au len rfl (iM 4 4));have i2:g_ v_ (aa 0) (dC (.int 2)) [some (l_ (.data o n p))] S=.ok (.int (n:Int)) S:=rfl;have i3:g_ v_ (aa 0) (dC (.int 3)) [some (l_ (.data o n p))] S=.ok (Fe p) S:=rfl;have u2:bO (al aO (ac (g_ v_ (aa 0) (dC (.int 2))) (ac (dC EY) ai))) [some (l_ (.data o n p))] S=.ok (decide (n<=13)) S:=by
   rw[cO,av,ax (ag i2 (ag rfl aj)) (ez (n:Int) 13 S),decide_eq_true (show(0:Int)<=(n:Int) by omega)];show R.ok (true && decide ((n:Int)<=13)) S=_;rw[Bool.true_and];congr 1;rw[decide_eq_decide];omega
  have t8:G7 (ao (g_ Hm (al bq (ac (aa 0) ai)) (dC (.int 4)))) (cV (bO (al aO (ac (g_ v_ (aa 0) (dC (.int 2))) (ac (dC EY) ai))))) [some (l_ (.data o n p))] S=.ok (!decide (n<=13)) S:=by
   rw[d4,av,t5];show cV _ _ S=_;rw[cN,av,u2];rfl
  by_cases hn:n<=13
  ·rw[decide_eq_true hn] at t8;have hp:=z9 p (hz o n p rfl) S;have hf:(decide (0<=p.1/\p.1<=1) && (p.2.all fun i=>decide (0<=i) && decide (i<=255)) && decide (p.2.length<=8))=false:=by
    rw[<-Bool.not_eq_true];intro z;simp only[Bool.and_eq_true,decide_eq_true_eq] at z;exact h ⟨KY,hn,z.1.1,z.2,LM.mp z.1.2⟩
   rw[hf] at hp;rw[aw (by rw[ay t8];rfl),cZ (by rw[aT t6];exact aR (ax (ag i3 aj) hp))];exact br (by simp[Gp])
  ·rw[decide_eq_false hn] at t8;rw[cZ (by rw[aT t8];exact aR rfl)];exact br (by simp[Gp])
 |note o n bs=>
  rw[aw (by rw[ay t2];rfl)];have t5:ao (g_ Hm (al bq (ac (aa 0) ai)) (dC (.int 4))) [some (l_ (.note o n bs))] S=.ok false S:=az (au len rfl (iM 4 4));have i2:g_ v_ (aa 0) (dC (.int 2)) [some (l_ (.note o n bs))] S=.ok (.int (n:Int)) S:=rfl;have i3:g_ v_ (aa 0) (dC (.int 3)) [some (l_ (.note o n bs))] S=.ok (.tup (bs.map D.int)) S:=rfl;have u2:bO (al aO (ac (g_ v_ (aa 0) (dC (.int 2))) (ac (dC EY) ai))) [some (l_ (.note o n bs))] S=.ok (decide (n<=13)) S:=by
   rw[cO,av,ax (ag i2 (ag rfl aj)) (ez (n:Int) 13 S),decide_eq_true (show(0:Int)<=(n:Int) by omega)];show R.ok (true && decide ((n:Int)<=13)) S=_;rw[Bool.true_and];congr 1;rw[decide_eq_decide];omega
  have t8:G7 (ao (g_ Hm (al bq (ac (aa 0) ai)) (dC (.int 4)))) (cV (bO (al aO (ac (g_ v_ (aa 0) (dC (.int 2))) (ac (dC EY) ai))))) [some (l_ (.note o n bs))] S=.ok (!decide (n<=13)) S:=by
   rw[d4,av,t5];show cV _ _ S=_;rw[cN,av,u2];rfl
  by_cases hn:n<=13
  ·rw[decide_eq_true hn] at t8;have hp:=Bj bs (V_ o n bs rfl) S;have hf:((bs.all fun i=>decide (0<=i) && decide (i<=1)) && decide (bs.length<=7))=false:=by
    rw[<-Bool.not_eq_true];intro z;simp only[Bool.and_eq_true,decide_eq_true_eq] at z;exact h ⟨KY,hn,z.2,LM.mp z.1⟩
   rw[hf] at hp;rw[aw (by rw[ay t8];rfl),aw (by rw[ay t6];rfl),aR (d:=.bl false) (S1:=S)]
   ·exact br (by simp[Gp])
   ·rw[gU,av,t7];exact ax (ag i3 aj) hp
  ·rw[decide_eq_false hn] at t8;rw[cZ (by rw[aT t8];exact aR rfl)];exact br (by simp[Gp])
end
end Lw
namespace Lw
open PySem L2 DL
section
variable{S:List Cell}{G:Cs}
def d3:Nat->Nat->w_
 |0,o=>.x_ o
 |1,o=>.s_ o
 |2,o=>.Gk o
 |3,o=>.data o 0 (0,[])
 |_,o=>.note o 0 []
theorem ue{k:Nat}(h:k<=4)(o:Nat):(d3 k o).ki=k:=by
 match k,h with
 |0,_=>rfl
 |1,_=>rfl
 |2,_=>rfl
 |3,_=>rfl
 |4,_=>rfl
theorem Ai{k:Nat}(h:k<=4)(o:Nat)(S:List Cell):v_ dW (.int (k:Int)) S=.ok (.str (d3 k o).kn) S:=by
 match k,h with
 |0,_=>exact aS (i:=0) rfl
 |1,_=>exact aS (i:=1) rfl
 |2,_=>exact aS (i:=2) rfl
 |3,_=>exact aS (i:=3) rfl
 |4,_=>exact aS (i:=4) rfl
def gq(k o:Nat)(rest:List Int):D:=.tup (.str (d3 k o).kn :: .int (o:Int) :: rest.map D.int)
theorem BD{k o:Nat}(hk:k<=4)(ho:o<=65535){rest:List Int}(h:(k<3/\rest≠[])\/(3<=k/\rest.length≠2))(S:List Cell):cP [gq k o rest] S=.ok (.bl false) S:=by
 show cG S (eJ [some (gq k o rest)] S)=_;unfold eJ;have RI:=ue hk o;have i1:g_ v_ (aa 0) (dC (.int 1)) [some (gq k o rest)] S=.ok (.int (o:Int)) S:=au rfl rfl (aS (i:=1) rfl);have i0:g_ v_ (aa 0) (dC (.int 0)) [some (gq k o rest)] S=.ok (.str (d3 k o).kn) S:=au rfl rfl (aS (i:=0) rfl);have len:al bq (ac (aa 0) ai) [some (gq k o rest)] S=.ok (.int ((rest.length+2:Nat):Int)) S:=by
  refine ax (ag rfl aj) ?_;unfold gq;rw[cq];congr 2;simp;omega
 have tt:bO (Kf "tuple" (aa 0)) [some (gq k o rest)] S=.ok true S:=rfl;have t1:G7 (cV (bO (Kf "tuple" (aa 0)))) (G7 (ao (g_ G2 (al bq (ac (aa 0) ai)) (dC (.int 2)))) (cV (bO (al aO (ac (g_ v_ (aa 0) (dC (.int 1))) (ac (dC Ff) ai)))))) [some (gq k o rest)] S=.ok false S:=by
  have u1:ao (g_ G2 (al bq (ac (aa 0) ai)) (dC (.int 2))) [some (gq k o rest)] S=.ok false S:=by
   refine az (au len rfl ?_);rw[oN,decide_eq_false (by omega)]
  have u2:bO (al aO (ac (g_ v_ (aa 0) (dC (.int 1))) (ac (dC Ff) ai))) [some (gq k o rest)] S=.ok true S:=by
   rw[cO,av,ax (ag i1 (ag rfl aj)) (ez (o:Int) 65535 S),decide_eq_true (show(0:Int)<=(o:Int) by omega),decide_eq_true (show(o:Int)<=65535 by omega)];rfl
  rw[d4,av,cN,av,tt];show G7 _ _ _ S=_;rw[d4,av,u1];show cV _ _ S=_;rw[cN,av,u2];rfl
 have t2:ao (g_ inD (g_ v_ (aa 0) (dC (.int 0))) (dC eu)) [some (gq k o rest)] S=.ok (decide (k<3)) S:=by
  have:=qi (d3 k o) S;rw[RI] at this;exact az (au i0 rfl this)
 rw[aw (by rw[ay t1];rfl)];by_cases Ww:k<3
 ·rw[decide_eq_true Ww] at t2;have hr:rest≠[]:=by
   rcases h with h|h
   ·exact h.2
   ·omega
  have hl:0<rest.length:=List.length_pos_iff.mpr hr;rw[cZ (by rw[aT t2];exact aR (d:=.bl false) (au len rfl (by rw[iI,decide_eq_false (by omega)])))];exact br (by simp[Gp])
 ·rw[decide_eq_false Ww] at t2;rw[aw (by rw[ay t2];rfl)];have hr:rest.length≠2:=by
   rcases h with h|h
   ·omega
   ·exact h.2
  have t5:ao (g_ Hm (al bq (ac (aa 0) ai)) (dC (.int 4))) [some (gq k o rest)] S=.ok true S:=az (au len rfl (by rw[iM,decide_eq_false (by omega)];rfl));have t8:G7 (ao (g_ Hm (al bq (ac (aa 0) ai)) (dC (.int 4)))) (cV (bO (al aO (ac (g_ v_ (aa 0) (dC (.int 2))) (ac (dC EY) ai))))) [some (gq k o rest)] S=.ok true S:=by
   rw[d4,av,t5];rfl
  rw[cZ (by rw[aT t8];exact aR rfl)];exact br (by simp[Gp])
def n6(k o:Nat)(rest:List Int):D:=match k,rest with
 |3,n :: f :: l=>.tup [.str "data",.int (o:Int),.int n,.tup [.int f,.tup (l.map D.int)]]
 |4,n :: bs=>.tup [.str "note",.int (o:Int),.int n,.tup (bs.map D.int)]
 |k,rest=>gq k o rest
theorem sI(z k o:Nat)(rest:List Int):Gp z (n6 k o rest):=by
 unfold n6;split<;>simp[gq,Gp,jb,cY]
theorem zk{k hi lo:Nat}(hk:k<=4){rest:List Int}(hr:rest.length<=1000)(S:List Cell) :
  gn [.tup (((k:Int) :: (hi:Int) :: (lo:Int) :: rest).map D.int)] S=.ok (n6 k (hi * 256+lo) rest) S:=by
 obtain⟨o,ho⟩:∃o,hi * 256+lo=o:=⟨_,rfl⟩;rw[ho];obtain⟨cs,Ln⟩:∃cs,(k:Int) :: (hi:Int) :: (lo:Int) :: rest=cs:=⟨_,rfl⟩;rw[Ln];have g0:∀S,v_ (.tup (cs.map D.int)) (.int 0) S=.ok (.int (k:Int)) S:=fun S=>by rw[<-Ln];exact aS (i:=0) rfl
 have g1:∀S,v_ (.tup (cs.map D.int)) (.int 1) S=.ok (.int (hi:Int)) S:=fun S=>by rw[<-Ln];exact aS (i:=1) rfl
 have g2:∀S,v_ (.tup (cs.map D.int)) (.int 2) S=.ok (.int (lo:Int)) S:=fun S=>by rw[<-Ln];exact aS (i:=2) rfl
 have QW:cs.drop 3=rest:=by rw[<-Ln];rfl
 have Mz:3<=cs.length:=by rw[<-Ln];simp
 show cG S (eR [some (.tup (cs.map D.int)),none,none,none] S)=_;unfold eR;have e1:g_ v_ (dC dW) (g_ v_ (aa 0) (dC (.int 0))) [some (.tup (cs.map D.int)),none,none,none] S=.ok (.str (d3 k o).kn) S:=au rfl (au rfl rfl (g0 S)) (Ai hk o S);have e2:g_ bN (g_ gX (g_ v_ (aa 0) (dC (.int 1))) (dC (.int 256))) (g_ v_ (aa 0) (dC (.int 2))) [some (.tup (cs.map D.int)),some (.str (d3 k o).kn),none,none] S=.ok (.int (o:Int)) S:=by
  refine au (au (au rfl rfl (g1 S)) rfl (hZ (.inr ⟨by decide,by decide⟩))) (au rfl rfl (g2 S)) ?_;rw[cf];congr 2;omega
 rw[aw (bw e1)];show cG S (aI _ _ [some (.tup (cs.map D.int)),some (.str (d3 k o).kn),none,none] S)=_;rw[aw (bw e2)];show cG S (aI _ _ [some (.tup (cs.map D.int)),some (.str (d3 k o).kn),some (.int (o:Int)),none] S)=_;have e3:Hb GD (aa 0) (bF (dC EZ)) bE [some (.tup (cs.map D.int)),some (.str (d3 k o).kn),some (.int (o:Int)),none] S=.ok (.tup (rest.map D.int)) S:=by
  simp only[kL,ja,List.getElem?_cons_succ,List.getElem?_cons_zero,av,dE,jB,eC,eT,uJ,GD];rw[show(3:Int)=((3:Nat):Int) from rfl,fH (by rw[List.length_map];omega),<-List.map_drop,QW]
 rw[aw (bw e3)];show cG S (aI _ _ [some (.tup (cs.map D.int)),some (.str (d3 k o).kn),some (.int (o:Int)),some (.tup (rest.map D.int))] S)=_;have RI:=ue hk o;have t6:ao (g_ EX (aa 1) (dC (.str "data"))) [some (.tup (cs.map D.int)),some (.str (d3 k o).kn),some (.int (o:Int)),some (.tup (rest.map D.int))] S=.ok (decide (k=3)) S:=by
  have:=my (d3 k o) S;rw[RI] at this;exact az (au rfl rfl this)
 have t7:ao (g_ EX (aa 1) (dC (.str "note"))) [some (.tup (cs.map D.int)),some (.str (d3 k o).kn),some (.int (o:Int)),some (.tup (rest.map D.int))] S=.ok (decide (k=4)) S:=by
  have:=mK (d3 k o) S;rw[RI] at this;exact az (au rfl rfl this)
 have n2:ao (g_ Ja (al bq (ac (aa 3) ai)) (dC (.int 2))) [some (.tup (cs.map D.int)),some (.str (d3 k o).kn),some (.int (o:Int)),some (.tup (rest.map D.int))] S=.ok (decide (2<=rest.length)) S:=by
  refine az (au (ax (ag rfl aj) (cq _)) rfl ?_);rw[wb,List.length_map];congr 2;rw[decide_eq_decide];omega
 have n1:ao (g_ Ja (al bq (ac (aa 3) ai)) (dC (.int 1))) [some (.tup (cs.map D.int)),some (.str (d3 k o).kn),some (.int (o:Int)),some (.tup (rest.map D.int))] S=.ok (decide (1<=rest.length)) S:=by
  refine az (au (ax (ag rfl aj) (cq _)) rfl ?_);rw[wb,List.length_map];congr 2;rw[decide_eq_decide];omega
 have t9:de (ao (g_ EX (aa 1) (dC (.str "data")))) (ao (g_ Ja (al bq (ac (aa 3) ai)) (dC (.int 2)))) [some (.tup (cs.map D.int)),some (.str (d3 k o).kn),some (.int (o:Int)),some (.tup (rest.map D.int))] S=.ok (decide (k=3) && decide (2<=rest.length)) S:=by
  rw[cL,av,t6];cases decide (k=3) with
  |false=>rfl
  |true=>exact n2
 have RJ:de (ao (g_ EX (aa 1) (dC (.str "note")))) (ao (g_ Ja (al bq (ac (aa 3) ai)) (dC (.int 1)))) [some (.tup (cs.map D.int)),some (.str (d3 k o).kn),some (.int (o:Int)),some (.tup (rest.map D.int))] S=.ok (decide (k=4) && decide (1<=rest.length)) S:=by
  rw[cL,av,t7];cases decide (k=4) with
  |false=>rfl
  |true=>exact n1
 have last:bK (g_ bN (cj (ac (aa 1) (ac (aa 2) ai))) (aa 3)) [some (.tup (cs.map D.int)),some (.str (d3 k o).kn),some (.int (o:Int)),some (.tup (rest.map D.int))] S=some (.rt (gq k o rest),S):=
  aR (au (bM (ag rfl (ag rfl aj)) (by simp)) rfl (fT (by simp;omega)))
 by_cases h3:k=3/\2<=rest.length
 ·obtain⟨rfl,hl⟩:=h3
  match rest,hl with
  |n :: f :: l,_=>
   rw[decide_eq_true (show(3:Nat)=3 from rfl),decide_eq_true (show 2<=(n :: f :: l).length by simp)] at t9;have c2:Hb GD (aa 3) (bF (dC (.int 2))) bE [some (.tup (cs.map D.int)),some (.str (d3 3 o).kn),some (.int (o:Int)),some (.tup ((n :: f :: l).map D.int))] S=.ok (.tup (l.map D.int)) S:=by
    simp only[kL,ja,List.getElem?_cons_succ,List.getElem?_cons_zero,av,dE,jB,eC,eT,uJ,GD];rw[show(2:Int)=((2:Nat):Int) from rfl,fH (by simp)];rfl
   rw[cZ (by rw[aT t9];exact aR (bM (ag rfl (ag rfl (ag (x:=.int n) (au rfl rfl (aS (i:=0) rfl)) (ag (bM (ag (x:=.int f) (au rfl rfl (aS (i:=1) rfl)) (ag c2 aj)) (by simp)) aj)))) (by simp)))];exact br (sI S.length 3 o (n :: f :: l))
 ·have f9:(decide (k=3) && decide (2<=rest.length))=false:=by
   rw[<-Bool.not_eq_true];simpa using h3
  rw[f9] at t9;rw[aw (by rw[ay t9];rfl)];by_cases h4:k=4/\1<=rest.length
  ·obtain⟨rfl,hl⟩:=h4
   match rest,hl with
   |n :: bs,_=>
    rw[decide_eq_true (show(4:Nat)=4 from rfl),decide_eq_true (show 1<=(n :: bs).length by simp)] at RJ;have c2:Hb GD (aa 3) (bF (dC (.int 1))) bE [some (.tup (cs.map D.int)),some (.str (d3 4 o).kn),some (.int (o:Int)),some (.tup ((n :: bs).map D.int))] S=.ok (.tup (bs.map D.int)) S:=by
     simp only[kL,ja,List.getElem?_cons_succ,List.getElem?_cons_zero,av,dE,jB,eC,eT,uJ,GD];rw[show(1:Int)=((1:Nat):Int) from rfl,fH (by simp)];rfl
    rw[cZ (by rw[aT RJ];exact aR (bM (ag rfl (ag rfl (ag (x:=.int n) (au rfl rfl (aS (i:=0) rfl)) (ag c2 aj)))) (by simp)))];exact br (sI S.length 4 o (n :: bs))
  ·have RK:(decide (k=4) && decide (1<=rest.length))=false:=by
    rw[<-Bool.not_eq_true];simpa using h4
   rw[RK] at RJ;rw[aw (by rw[ay RJ];rfl),last];have:n6 k o rest=gq k o rest:=by
    unfold n6;split
    ·exact absurd ⟨rfl,by simp⟩ h3
    ·exact absurd ⟨rfl,by simp⟩ h4
    ·rfl
   rw[this];exact br (by rw[<-this];exact sI _ _ _ _)
theorem Bi{k hi lo:Nat}(hk:k<=4)(Tv:hi<=255)(Rm:lo<=255){rest:List Int}(hr:rest.length<=1000)(HF:∀x,x∈rest->0<=x)(LW:∀c,IM c->aA c≠(k:Int) :: (hi:Int) :: (lo:Int) :: rest)(S:List Cell) :
  cP [n6 k (hi * 256+lo) rest] S=.ok (.bl false) S:=by
 obtain⟨o,ho⟩:∃o,hi * 256+lo=o:=⟨_,rfl⟩;have M5:o<=65535:=by omega
 have hd:((o:Int) / 256)=hi/\((o:Int) % 256)=lo:=by omega
 rw[ho];unfold n6;split
 ·rename_i n f l;have hn:=HF n (by simp);have NW:(n.toNat:Int)=n:=Int.toNat_of_nonneg hn;have:=wF (c:=.data o n.toNat (f,l)) M5 (fun a b p e=>by cases e;simp at hr ⊢;omega) (fun a b p e=>by cases e) (fun z=>LW _ z (by simp[aA,hd,NW])) S;have e:l_ (.data o n.toNat (f,l))=.tup [.str "data",.int (o:Int),.int n,.tup [.int f,.tup (l.map D.int)]]:=by simp only[l_,Fe,NW]
  rw[e] at this;exact this
 ·rename_i n bs;have hn:=HF n (by simp);have NW:(n.toNat:Int)=n:=Int.toNat_of_nonneg hn;have:=wF (c:=.note o n.toNat bs) M5 (fun a b p e=>by cases e) (fun a b p e=>by cases e;simp at hr ⊢;omega) (fun z=>LW _ z (by simp[aA,hd,NW])) S;have e:l_ (.note o n.toNat bs)=.tup [.str "note",.int (o:Int),.int n,.tup (bs.map D.int)]:=by simp only[l_,NW]
  rw[e] at this;exact this
 ·rename_i h3 h4;refine BD hk M5 ?_ S
  match k,hk with
  |0,_=>exact .inl ⟨by decide,fun z=>LW (.x_ o) M5 (by simp[aA,hd,z])⟩
  |1,_=>exact .inl ⟨by decide,fun z=>LW (.s_ o) M5 (by simp[aA,hd,z])⟩
  |2,_=>exact .inl ⟨by decide,fun z=>LW (.Gk o) M5 (by simp[aA,hd,z])⟩
  |3,_=>exact .inr ⟨by decide,fun z=>by
    match rest,z with
    |[n,f],_=>exact h3 n f [] rfl rfl⟩
  |4,_=>exact .inr ⟨by decide,fun z=>by
    match rest,z with
    |[n,f],_=>exact h4 n [f] rfl rfl⟩
theorem Bf{xs:List Int}(hl:xs.length<=1000)(h:∀c,IM c->Gn (aA c)≠xs)(S:List Cell):kA G [.tup (xs.map D.int)] S=.exc G.FO S:=by
 show cG S (mJ G [some (.tup (xs.map D.int)),none,none] S)=_;unfold mJ;have u1:bO (al bX (ac (aa 0) (ac (dC Fj) ai))) [some (.tup (xs.map D.int)),none,none] S=.ok (xs.all fun i=>decide (0<=i) && decide (i<=255)) S:=by
  rw[cO,av,ax (ag rfl (ag rfl aj)) (sZ xs 255 (by omega) S)];rfl
 have u2:ao (g_ G2 (al bq (ac (aa 0) ai)) (g_ bN (dC EZ) (dC EO))) [some (.tup (xs.map D.int)),none,none] S=.ok (decide (xs.length<5)) S:=by
  refine az (au (ax (ag rfl aj) (cq _)) (au rfl rfl (cf _ _)) ?_);rw[oN,List.length_map];congr 2;rw[decide_eq_decide];omega
 have Iy:∀{t:E4},G7 (cV (bO (al bX (ac (aa 0) (ac (dC Fj) ai))))) (G7 (ao (g_ G2 (al bq (ac (aa 0) ai)) (g_ bN (dC EZ) (dC EO)))) (ao (g_ Ja (g_ v_ (aa 0) (dC (.int 0))) (al bq (ac (dC dW) ai))))) [some (.tup (xs.map D.int)),none,none] S=.ok true S->
   cG S (aI (FF (G7 (cV (bO (al bX (ac (aa 0) (ac (dC Fj) ai))))) (G7 (ao (g_ G2 (al bq (ac (aa 0) ai)) (g_ bN (dC EZ) (dC EO)))) (ao (g_ Ja (g_ v_ (aa 0) (dC (.int 0))) (al bq (ac (dC dW) ai)))))) (nu G.FO (dC (.str "these are not the cells of a strip"))) bC) t [some (.tup (xs.map D.int)),none,none] S)=.exc G.FO S:=by
  intro t a;rw[qh,aT a];rfl
 cases Px:(xs.all fun i=>decide (0<=i) && decide (i<=255)) with
 |false=>
  rw[Px] at u1;refine Iy ?_;rw[d4,av,cN,av,u1];rfl
 |true=>
  rw[Px] at u1;have HF:=LM.mp Px;by_cases h5:xs.length<5
  ·rw[decide_eq_true h5] at u2;refine Iy ?_;rw[d4,av,cN,av,u1];show G7 _ _ _ S=_;rw[d4,av,u2];rfl
  ·rw[decide_eq_false h5] at u2
   match xs,h5,hl,h,HF,u1,u2,@Iy with
   |k :: hi :: lo :: a :: b :: tl,_,hl,h,HF,u1,u2,Iy=>
    obtain⟨xs,Py⟩:∃xs,k :: hi :: lo :: a :: b :: tl=xs:=⟨_,rfl⟩;have hk0:=HF k (by simp);have YL:=HF hi (by simp);have YM:=HF lo (by simp);have Wx:5<=xs.length:=by rw[<-Py];simp
    have i0:g_ v_ (aa 0) (dC (.int 0)) [some (.tup (xs.map D.int)),none,none] S=.ok (.int k) S:=by rw[<-Py];exact au rfl rfl (aS (i:=0) rfl)
    rw[Py] at hl h HF u1 u2 Iy ⊢;have u3:ao (g_ Ja (g_ v_ (aa 0) (dC (.int 0))) (al bq (ac (dC dW) ai))) [some (.tup (xs.map D.int)),none,none] S=.ok (decide (5<=k)) S:=az (au i0 (ax (ag rfl aj) (cq _)) (wb _ _));have t1:G7 (cV (bO (al bX (ac (aa 0) (ac (dC Fj) ai))))) (G7 (ao (g_ G2 (al bq (ac (aa 0) ai)) (g_ bN (dC EZ) (dC EO)))) (ao (g_ Ja (g_ v_ (aa 0) (dC (.int 0))) (al bq (ac (dC dW) ai))))) [some (.tup (xs.map D.int)),none,none] S=.ok (decide (5<=k)) S:=by
     rw[d4,av,cN,av,u1];show G7 _ _ _ S=_;rw[d4,av,u2];exact u3
    by_cases Wy:5<=k
    ·rw[decide_eq_true Wy] at t1;exact Iy t1
    ·rw[decide_eq_false Wy] at t1;rw[aw (by rw[ay t1];rfl)];obtain⟨cs,Ln⟩:∃cs,xs.take (xs.length-2)=cs:=⟨_,rfl⟩;have e1:Hb GD (aa 0) bE (bF (P2 AZ (dC EO))) [some (.tup (xs.map D.int)),none,none] S=.ok (.tup (cs.map D.int)) S:=by
      show R.ok (D.tup (fD (xs.map D.int) none (some (-2)))) S=_;rw[rC (by rw[List.length_map];omega),List.length_map,<-List.map_take,Ln]
     rw[aw (bw e1)];show cG S (aI _ _ [some (.tup (xs.map D.int)),some (.tup (cs.map D.int)),none] S)=_;have QX:cs.length=xs.length-2:=by rw[<-Ln,List.length_take];omega
     have t2:ao (g_ Hm (aa 0) (al cA (ac (aa 1) ai))) [some (.tup (xs.map D.int)),some (.tup (cs.map D.int)),none] S=.ok (!decide (xs=Gn cs)) S:=
      az (au rfl (ax (ag rfl aj) (ni _ (by omega) S)) (zm S xs (Gn cs)))
     by_cases TK:xs=Gn cs
     ·rw[decide_eq_true TK] at t2;rw[aw (by rw[ay t2];rfl)];obtain⟨kN,YN⟩:∃kN:Nat,k=kN:=⟨k.toNat,by omega⟩;obtain⟨hN,YO⟩:∃hN:Nat,hi=hN:=⟨hi.toNat,by omega⟩;obtain⟨lN,YQ⟩:∃lN:Nat,lo=lN:=⟨lo.toNat,by omega⟩;subst YN YO YQ;obtain⟨rest,L8⟩:∃rest,cs=(kN:Int) :: (hN:Int) :: (lN:Int) :: rest:=by
       rw[<-Ln,<-Py];exact⟨(a :: b :: tl).take (tl.length),by simp⟩
      have Wz:rest.length<=1000:=by rw[L8] at QX;simp at QX;omega
      have TL:∀x,x∈rest->0<=x:=fun x hx=>(HF x (by
       have:x∈cs:=by rw[L8];simp[hx]
       rw[<-Ln] at this;exact List.mem_of_mem_take this)).1
      have fg:=zk (k:=kN) (hi:=hN) (lo:=lN) (by omega) Wz S;have fn:=Bi (k:=kN) (hi:=hN) (lo:=lN) (by omega) (by omega) (by omega) Wz TL (fun c hc z=>h c hc (by rw[z,<-L8];exact TK.symm)) S;rw[<-L8] at fg;obtain⟨dd,YR⟩:∃dd,n6 kN (hN * 256+lN) rest=dd:=⟨_,rfl⟩;rw[YR] at fg fn;rw[aw (bw (ax (ag rfl aj) fg))];show cG S (aI _ _ [some (.tup (xs.map D.int)),some (.tup (cs.map D.int)),some dd] S)=_;have t3:cV (bO (al cP (ac (aa 2) ai))) [some (.tup (xs.map D.int)),some (.tup (cs.map D.int)),some dd] S=.ok true S:=by
       rw[cN,av,cO,av,ax (ag rfl aj) fn];rfl
      rw[qh,aT t3];rfl
     ·rw[decide_eq_false TK] at t2;rw[qh,aT t2];rfl
end
end Lw
namespace Lw
open PySem L2 DL
theorem xq{xs cs:List Int}(h:xs=Gn cs):cs=xs.take (xs.length-2)/\xs[xs.length-2]?=some (cs.sum % 256)/\xs[xs.length-1]?=some (RH (cs++[cs.sum % 256]) % 256)/\xs.length=cs.length+2:=by
 have hl:=mT cs;rw[<-h] at hl;refine⟨?_,?_,?_,hl⟩
 ·rw[show xs.length-2=cs.length by omega,h,m0]
 ·rw[show xs.length-2=cs.length by omega,h];unfold Gn;rw[List.append_assoc,List.getElem?_append_right (Nat.le_refl _)];simp
 ·rw[show xs.length-1=cs.length+1 by omega,h];unfold Gn;rw[List.getElem?_append_right (by simp)];simp
theorem wS:∀{l:List Int}{i:Nat}{a v:Int},l[i]?=some a->(l.set i v).sum=l.sum-a+v
 |[],_,_,_,h=>by simp at h
 |x :: l,0,a,v,h=>by
  simp at h;subst h;simp only[List.set_cons_zero,List.sum_cons];omega
 |x :: l,i+1,a,v,h=>by
  have:=wS (l:=l) (i:=i) (a:=a) (v:=v) (by simpa using h);simp only[List.set_cons_succ,List.sum_cons,this];omega
theorem CU{cs:List Int}{i:Nat}{a v:Int}(ha:(Gn cs)[i]?=some a)(hv:¬(v-a) % 256=0):∀RL,Gn RL≠(Gn cs).set i v:=by
 intro RL h;obtain⟨n,hn⟩:∃n,cs.length=n:=⟨_,rfl⟩;obtain⟨h1,h2,h3,h4⟩:=xq h.symm;obtain⟨g1,g2,g3,g4⟩:=xq (rfl:Gn cs=Gn cs);rw[List.length_set,g4] at h1 h2 h3 h4;rw[g4] at g1 g2 g3;have hi:=(List.getElem?_eq_some_iff.mp ha).1;rw[g4] at hi;simp only[show cs.length+2-2=cs.length by omega,show cs.length+2-1=cs.length+1 by omega] at *;by_cases c1:i<cs.length
 ·have N1:RL=cs.set i v:=by
   rw[h1,List.take_set,m0]
  have YS:cs[i]?=some a:=by
   rw[<-ha];unfold Gn;rw[List.append_assoc,List.getElem?_append_left c1]
  have hs:=wS (v:=v) YS;rw[List.getElem?_set_ne (by omega),g2] at h2
  injection h2 with h2
  rw[N1,hs] at h2;omega
 ·have N1:RL=cs:=by
   rw[h1,List.take_set_of_le (by omega),m0]
  by_cases c2:i=cs.length
  ·subst c2;rw[List.getElem?_set_self (by rw[g4];omega)] at h2;rw[ha] at g2
   injection h2 with h2
   injection g2 with g2
   rw[N1] at h2;omega
  ·have c3:i=cs.length+1:=by omega
   subst c3;rw[List.getElem?_set_self (by rw[g4];omega)] at h3;rw[ha] at g3
   injection h3 with h3
   injection g3 with g3
   rw[N1] at h3;omega
end Lw
namespace Lw
inductive TC where
 |x_ (o:Nat)|data (o i:Nat)
 deriving DecidableEq
namespace TC
def op:TC->Nat
 |x_ o=>o
 |data o _=>o
def rank:TC->Nat
 |x_ o=>2 * o
 |data o _=>2 * o+1
end TC
inductive BC where
 |s_ (o:Nat)|Gk (o:Nat)|note (o j:Nat) (bs:List Int)
def BC.op:BC->Nat
 |s_ o=>o
 |Gk o=>o
 |note o _ _=>o
structure Sys where
 s:Sr
 h:Hr
 T:List TC
 B:List BC
 st:Nat->Nat
 tk:Nat->Nat
def mk(j:Nat)(bs:List Int)(x:Nat):Prop:=∃k,bs[k]?=some 1/\x=j+k
structure Cw where
 s:Sr
 h:Hr
 T:List w_
 B:List w_
namespace Sys
def P(x:Sys)(o:Nat):List Pc:=fl x.s.most (x.s.msgs.drop (x.st o))
def en(x:Sys)(o:Nat):Nat:=x.st o+E7 ((x.P o).take (x.tk o))
def run(x:Sys)(o:Nat):List (Nat×FN):=((x.s.msgs.drop (x.st o)).take (E7 ((x.P o).take (x.tk o)))).map fun m=>(o,m)
def cT(x:Sys):TC->w_
 |.x_ o=>.x_ o
 |.data o i=>.data o (i % (2 * x.s.w)) ((x.P o).getD i (0,[]))
def cB(x:Sys):BC->w_
 |.s_ o=>.s_ o
 |.Gk o=>.Gk o
 |.note o j bs=>.note o (j % (2 * x.s.w)) bs
def con(x:Sys):Cw:=⟨x.s,x.h,x.T.map x.cT,x.B.map x.cB⟩
end Sys
structure M6(x:Sys):Prop where
 w0:0<x.s.w
 ww:x.h.w=x.s.w
 ps:x.s.st≠.FL->x.s.ps=x.P x.s.op/\1<=x.s.op
 LN:x.s.st=.opening->x.s.base=0/\x.s.D_=[]/\x.tk x.s.op=0/\(x.h.op=x.s.op->x.h.early=[])
 su:x.s.sure=x.st x.s.op+E7 ((x.P x.s.op).take x.s.base)
 sl:∀o,o<=x.s.op->x.st o<=x.s.msgs.length
 ch:∀o,1<=o->o<=x.s.op->∃o',o'<o/\x.st o<=x.en o'
 s0:x.st 0=0
 bt:x.s.base<=x.tk x.s.op
 tw:x.tk x.s.op<=x.s.base+x.s.w
 tl:∀o,x.tk o<=(x.P o).length
 tz:∀o,x.s.op<o->x.tk o=0
 t0:x.tk 0=0
 ho:x.h.op<=x.s.op
 hz:x.h.op=0->x.h.early=[]
 hn:x.h.nx=x.tk x.h.op
 hl:x.h.op≠0->∀o,x.h.op<o->x.tk o=0
 he:∀e,e∈x.h.early->(x.P x.h.op)[e.1]?=some e.2/\x.h.nx<e.1
 hd:(x.h.early.map (·.1)).Nodup
 hb:x.h.begun=(Nz ((x.P x.h.op).take x.h.nx)).2
 hg:x.h.given=(List.range (x.s.op+1)).flatMap x.run
 ek:x.h.op=x.s.op->∀e,e∈x.h.early->e.1<x.s.base+x.s.w
 n0:x.s.op=0->x.s.D_=[]
structure QY(x:Sys):Prop where
 so:x.T.Pairwise fun a b=>a.rank<=b.rank
 bd:∀c,c∈x.T->1<=c.op/\c.rank<=2 * x.s.op+1
 bo:x.s.st=.opening->∀c,c∈x.T->c.rank<=2 * x.s.op
 rt:∀o,0<x.tk o->∀c,c∈x.T->2 * o+1<=c.rank
 rh:∀c,c∈x.T->2 * x.h.op<=c.rank
 re:x.h.early≠[]->∀c,c∈x.T->2 * x.h.op+1<=c.rank
 r2:∀o i,TC.data o i∈x.T->i<(x.P o).length
 r3:∀o i,TC.x_ o∈x.T->TC.data o i∈x.T->i<x.s.w
 r4:∀i,TC.data x.h.op i∈x.T->i<x.h.nx+x.s.w/\x.h.nx<=i+x.s.w/\∀e,e∈x.h.early->e.1<i+x.s.w
 r6:x.T.Pairwise fun a b=>∀o i j,a=TC.data o i->b=TC.data o j->i<j+x.s.w
 r7:∀i,TC.data x.s.op i∈x.T->i<x.s.base+x.s.w
structure Pz(x:Sys):Prop where
 bb:∀c,c∈x.B->1<=c.op/\c.op<=x.s.op
 bn:∀j bs,BC.note x.s.op j bs∈x.B->x.s.base<=j/\j<=x.tk x.s.op
 bp:x.B.Pairwise fun a b=>∀j bs j' JN,a=BC.note x.s.op j bs->b=BC.note x.s.op j' JN->j<=j'/\¬mk j bs j'
 m1:x.h.op=x.s.op->(∀k,k∈x.s.D_->k<x.h.nx\/k∈x.h.early.map (·.1))/\∀j bs k,BC.note x.s.op j bs∈x.B->mk j bs k->k<x.h.nx\/k∈x.h.early.map (·.1)
 m2:∀k,k∈x.s.D_->k≠x.s.base/\∀j bs,BC.note x.s.op j bs∈x.B->k≠j
 m4:∀j bs,BC.note x.s.op j bs∈x.B->¬mk j bs j
 nh:TC.x_ x.s.op∈x.T\/x.s.st=.opening->∀j bs,¬BC.note x.s.op j bs∈x.B
 nd:TC.x_ x.s.op∈x.T->x.s.D_=[]
structure Iv(x:Sys):Prop where
 c:M6 x
 t:QY x
 b:Pz x
def Sys.new(w most:Nat):Sys:=⟨Sr.new w most,Hr.new w,[],[],fun _=>0,fun _=>0⟩
theorem Dc{w most:Nat}(hw:0<w):Iv (Sys.new w most):=by
 refine⟨?_,?_,?_⟩
 ·constructor<;>simp[Sys.new,Sr.new,Hr.new,Sys.P,Sys.en,Sys.run,fl,E7,Nz,hw]
  ·intro o h1 h2;omega
 ·constructor<;>simp[Sys.new,Sr.new,Hr.new]
 ·constructor<;>simp[Sys.new,Sr.new,Hr.new]
section
variable{x:Sys}{m:FN}
def Sys.hand(x:Sys)(m:FN):Sys:={ x with s:=x.s.hand m }
theorem Ak{o:Nat}(h:x.st o<=x.s.msgs.length):(x.hand m).P o=x.P o++fz x.s.most m:=by
 simp only[Sys.P,Sys.hand,Sr.hand];rw[List.drop_append_of_le_length h,sE];simp[fl]
theorem nz{o n:Nat}(h:x.st o<=x.s.msgs.length)(hn:n<=(x.P o).length):((x.hand m).P o).take n=(x.P o).take n:=by
 rw[Ak h,List.take_append_of_le_length hn]
end
end Lw
namespace Lw
section
variable{x:Sys}{m:FN}
theorem A6(c:M6 x){o:Nat}(h:o<=x.s.op):(x.hand m).en o=x.en o:=by
 unfold Sys.en;rw[show(x.hand m).st=x.st from rfl,show(x.hand m).tk=x.tk from rfl,nz (c.sl o h) (c.tl o)]
theorem yZ(c:M6 x){o:Nat}(h:o<=x.s.op):(x.hand m).run o=x.run o:=by
 unfold Sys.run;rw[show(x.hand m).st=x.st from rfl,show(x.hand m).tk=x.tk from rfl,nz (c.sl o h) (c.tl o)];have hk:=ol x.s.most (x.s.msgs.drop (x.st o)) (x.tk o);rw[show(x.hand m).s.msgs=x.s.msgs++[m] from rfl,List.drop_append_of_le_length (c.sl o h),List.take_append_of_le_length];exact hk
theorem iw{α β:Type}{l:List α}{f g:α->List β}(h:∀a,a∈l->f a=g a):l.flatMap f=l.flatMap g:=by
 induction l with
 |nil=>rfl
 |cons a r ih=>rw[List.flatMap_cons,List.flatMap_cons,h a (by simp),ih fun b hb=>h b (List.mem_cons_of_mem _ hb)]
theorem xA(v:Iv x)(m:FN):Iv (x.hand m)/\(x.hand m).con = { x.con with s:=x.s.hand m }:=by
 obtain⟨c,t,b⟩:=v;have hP:∀o,o<=x.s.op->(x.hand m).P o=x.P o++fz x.s.most m:=fun o h=>Ak (c.sl o h)
 have WA:∀o,o<=x.s.op->(x.P o).length<=((x.hand m).P o).length:=fun o h=>by rw[hP o h,List.length_append];omega
 have hT:∀o n,o<=x.s.op->n<=(x.P o).length->((x.hand m).P o).take n=(x.P o).take n:=fun o n h hn=>nz (c.sl o h) hn
 have NC:x.h.nx<=(x.P x.h.op).length:=by rw[c.hn];exact c.tl _
 have YT:x.s.base<=(x.P x.s.op).length:=Nat.le_trans c.bt (c.tl _);refine⟨⟨?_,?_,?_⟩,?_⟩
 ·refine⟨c.w0,c.ww,?_,c.LN,?_,?_,?_,c.s0,c.bt,c.tw,?_,c.tz,c.t0,c.ho,c.hz,c.hn,c.hl,?_,c.hd,?_,?_,c.ek,c.n0⟩
  ·intro hs;obtain⟨h1,h2⟩:=c.ps hs;refine⟨?_,h2⟩;show(if x.s.st=.FL then x.s.ps else x.s.ps++fz x.s.most m)=_;rw[if_neg (show ¬x.s.st=.FL from hs),show(x.hand m).s.op=x.s.op from rfl,hP _ (Nat.le_refl _),h1]
  ·show x.s.sure=x.st x.s.op+E7 (((x.hand m).P x.s.op).take x.s.base);rw[hT _ _ (Nat.le_refl _) YT];exact c.su
  ·intro o ho;have:=c.sl o ho;show x.st o<=(x.s.msgs++[m]).length;rw[List.length_append];omega
  ·intro o h1 h2;obtain⟨o',h3,h4⟩:=c.ch o h1 h2;exact⟨o',h3,by rw[A6 c (by have:o<=x.s.op:=h2;omega)];exact h4⟩
  ·intro o;by_cases ho:o<=x.s.op
   ·exact Nat.le_trans (c.tl o) (WA o ho)
   ·show x.tk o<=_;rw[c.tz o (by omega)];exact Nat.zero_le _
  ·intro e he;obtain⟨h1,h2⟩:=c.he e he;refine⟨?_,h2⟩;show((x.hand m).P x.h.op)[e.1]?=_;rw[hP _ c.ho,List.getElem?_append_left (List.getElem?_eq_some_iff.mp h1).1];exact h1
  ·show x.h.begun=(Nz (((x.hand m).P x.h.op).take x.h.nx)).2;rw[hT _ _ c.ho NC];exact c.hb
  ·show x.h.given=(List.range (x.s.op+1)).flatMap (x.hand m).run;rw[c.hg];exact iw fun o ho=>(yZ c (by have:=List.mem_range.mp ho;omega)).symm
 ·refine⟨t.so,t.bd,t.bo,t.rt,t.rh,t.re,?_,t.r3,t.r4,t.r6,t.r7⟩;intro o i h;have:=(t.bd _ h).2;have ho:o<=x.s.op:=by simp only[TC.rank] at this;omega
  exact Nat.lt_of_lt_of_le (t.r2 o i h) (WA o ho)
 ·exact⟨b.bb,b.bn,b.bp,b.m1,b.m2,b.m4,b.nh,b.nd⟩
 ·unfold Sys.con;refine congr (congr (congrArg (Cw.mk (x.s.hand m)) rfl) ?_) rfl;refine List.map_congr_left fun a ha=>?_
  cases a with
  |x_ o=>rfl
  |data o i=>
   have h2:=(t.bd _ ha).2;have ho:o<=x.s.op:=by simp only[TC.rank] at h2;omega
   show w_.data o (i % (2 * x.s.w)) (((x.hand m).P o).getD i (0,[]))=w_.data o (i % (2 * x.s.w)) ((x.P o).getD i (0,[]));rw[hP o ho];have hi:=t.r2 o i ha;simp[List.getD,List.getElem?_append_left hi]
def Sys.anew(x:Sys):Sys:={ x with s:=x.s.anew,st:=fun o=>if o=x.s.op+1 then x.s.sure else x.st o }
theorem kY{o:Nat}(h:o<=x.s.op):x.anew.st o=x.st o:=if_neg (by omega)
theorem lS{o:Nat}(h:o<=x.s.op):x.anew.P o=x.P o:=by
 unfold Sys.P;rw[kY h];rfl
theorem xy{o:Nat}(h:o<=x.s.op):x.anew.en o=x.en o:=by
 unfold Sys.en;rw[kY h,lS h];rfl
theorem yM{o:Nat}(h:o<=x.s.op):x.anew.run o=x.run o:=by
 unfold Sys.run;rw[kY h,lS h];rfl
theorem B1(c:M6 x){o:Nat}(h:o<=x.s.op):x.en o<=x.s.msgs.length:=by
 have h1:=c.sl o h;have h2:=ol x.s.most (x.s.msgs.drop (x.st o)) (x.tk o);rw[List.length_drop] at h2;unfold Sys.en Sys.P;omega
theorem wJ(c:M6 x):x.s.sure<=x.en x.s.op:=by
 rw[c.su];unfold Sys.en;have:=qz (x.P x.s.op) c.bt;omega
theorem xu(v:Iv x):Iv x.anew/\x.anew.con = { x.con with s:=x.s.anew }:=by
 obtain⟨c,t,b⟩:=v;have KY:x.anew.s.op=x.s.op+1:=rfl;have Gz:x.anew.st (x.s.op+1)=x.s.sure:=if_pos rfl;have hle:=B1 c (Nat.le_refl x.s.op);have RM:=wJ c;have Nv:x.h.op≠x.s.op+1:=by have:=c.ho;omega
 refine⟨⟨?_,?_,?_⟩,?_⟩
 ·refine⟨c.w0,c.ww,?_,?_,?_,?_,?_,?_,Nat.zero_le _,?_,?_,?_,c.t0,Nat.le_succ_of_le c.ho,c.hz,c.hn,c.hl,?_,c.hd,?_,?_,fun h=>absurd h Nv,fun h=>absurd h (Nat.succ_ne_zero _)⟩
  ·intro _;refine⟨?_,Nat.le_add_left _ _⟩;show(x.s.msgs.drop x.s.sure).flatMap (fz x.s.most)=fl x.s.most (x.s.msgs.drop (x.anew.st (x.s.op+1)));rw[Gz];rfl
  ·exact fun _=>⟨rfl,rfl,c.tz _ (Nat.lt_succ_self _),fun h=>absurd h Nv⟩
  ·show x.s.sure=x.anew.st (x.s.op+1)+E7 ((x.anew.P (x.s.op+1)).take 0);rw[Gz];rfl
  ·intro o ho;by_cases h:o<=x.s.op
   ·rw[kY h];exact c.sl o h
   ·have:o=x.s.op+1:=by have:o<=x.s.op+1:=ho;omega
    rw[this,Gz];exact Nat.le_trans RM hle
  ·intro o h1 h2;by_cases h:o<=x.s.op
   ·obtain⟨o',h3,h4⟩:=c.ch o h1 h;exact⟨o',h3,by rw[kY h,xy (by omega)];exact h4⟩
   ·have:o=x.s.op+1:=by have:o<=x.s.op+1:=h2;omega
    refine⟨x.s.op,by omega,?_⟩;rw[this,Gz,xy (Nat.le_refl _)];exact RM
  ·rw[kY (Nat.zero_le _)];exact c.s0
  ·show x.tk (x.s.op+1)<=0+x.s.w;rw[c.tz _ (Nat.lt_succ_self _)];exact Nat.zero_le _
  ·intro o;by_cases h:o<=x.s.op
   ·rw[lS h];exact c.tl o
   ·show x.tk o<=_;rw[c.tz o (by omega)];exact Nat.zero_le _
  ·intro o ho;exact c.tz o (by have:x.s.op+1<o:=ho;omega)
  ·intro e he;rw[show x.anew.h=x.h from rfl,lS c.ho];exact c.he e he
  ·rw[show x.anew.h=x.h from rfl,lS c.ho];exact c.hb
  ·show x.h.given=(List.range (x.s.op+1+1)).flatMap x.anew.run;rw[List.range_succ,List.flatMap_append,c.hg];have e1:x.anew.run (x.s.op+1)=[]:=by
    unfold Sys.run;rw[show x.anew.tk (x.s.op+1)=0 from c.tz _ (Nat.lt_succ_self _)];simp[E7]
   rw[List.flatMap_cons,e1,List.flatMap_nil,List.append_nil,List.append_nil];exact iw fun o ho=>(yM (by have:=List.mem_range.mp ho;omega)).symm
 ·have RN:∀cc,cc∈x.T->cc.rank<=2 * x.s.op+1:=fun cc h=>(t.bd cc h).2
  have opl:∀cc:TC,2 * cc.op<=cc.rank:=fun cc=>by cases cc<;>simp[TC.op,TC.rank]
  refine⟨t.so,?_,?_,t.rt,t.rh,t.re,?_,t.r3,t.r4,t.r6,?_⟩
  ·exact fun cc h=>⟨(t.bd cc h).1,by have:=RN cc h;show cc.rank<=2 * (x.s.op+1)+1;omega⟩
  ·exact fun _ cc h=>by have:=RN cc h;show cc.rank<=2 * (x.s.op+1);omega
  ·intro o i h;have h2:=RN _ h;have ho:o<=x.s.op:=by simp only[TC.rank] at h2;omega
   rw[lS ho];exact t.r2 o i h
  ·intro i h;have h2:=RN _ h;simp only[TC.rank,KY] at h2;omega
 ·have RO:∀j bs,¬BC.note (x.s.op+1) j bs∈x.B:=fun j bs h=>by
   have h2:=(b.bb _ h).2;simp only[BC.op] at h2;omega
  refine⟨fun cc h=>⟨(b.bb cc h).1,Nat.le_succ_of_le (b.bb cc h).2⟩,fun j bs h=>absurd h (RO j bs),?_,fun h=>absurd h Nv,fun k hk=>?_,fun j bs h=>absurd h (RO j bs),fun _=>RO,fun _=>rfl⟩
  ·refine List.Pairwise.imp_of_mem (fun {a a'} ha _ _=>?_) b.bp;intro j bs j' JN e1 _;rw[e1] at ha;exact absurd ha (RO j bs)
  ·have:k∈([]:List Nat):=hk;simp at this
 ·unfold Sys.con;refine congr (congr (congrArg (Cw.mk x.s.anew) rfl) ?_) rfl;refine List.map_congr_left fun a ha=>?_
  cases a with
  |x_ o=>rfl
  |data o i=>
   have h2:=(t.bd _ ha).2;have ho:o<=x.s.op:=by simp only[TC.rank] at h2;omega
   show w_.data o (i % (2 * x.s.w)) ((x.anew.P o).getD i (0,[]))=w_.data o (i % (2 * x.s.w)) ((x.P o).getD i (0,[]));rw[lS ho]
def Sys.Le(x:Sys):Sys:={ x with s:=x.s.Fp }
theorem u7(v:Iv x):Iv x.Le/\x.Le.con = { x.con with s:=x.s.Fp }:=by
 obtain⟨c,t,b⟩:=v;refine⟨⟨⟨c.w0,c.ww,fun h=>absurd rfl h,fun h=>(by cases h),c.su,c.sl,c.ch,c.s0,c.bt,c.tw,c.tl,c.tz,c.t0,c.ho,c.hz,c.hn,c.hl,c.he,c.hd,c.hb,c.hg,c.ek,c.n0⟩,
  ⟨t.so,t.bd,fun h=>(by cases h),t.rt,t.rh,t.re,t.r2,t.r3,t.r4,t.r6,t.r7⟩,⟨b.bb,b.bn,b.bp,b.m1,b.m2,b.m4,fun h=>b.nh (h.elim .inl fun e=>(by cases e)),b.nd⟩⟩,rfl⟩
def Sys.Jl(x:Sys):Sys:={ x with h:=x.h.Fp }
theorem uB(v:Iv x):Iv x.Jl/\x.Jl.con = { x.con with h:=x.h.Fp }:=by
 obtain⟨c,t,b⟩:=v;refine⟨⟨⟨c.w0,c.ww,c.ps,fun e=>⟨(c.LN e).1,(c.LN e).2.1,(c.LN e).2.2.1,fun _=>rfl⟩,c.su,c.sl,c.ch,c.s0,c.bt,c.tw,c.tl,c.tz,c.t0,Nat.zero_le _,fun _=>rfl,c.t0.symm,fun h=>absurd rfl h,?_,List.nodup_nil,rfl,c.hg,?_,c.n0⟩,
  ⟨t.so,t.bd,t.bo,t.rt,fun cc _=>Nat.zero_le _,fun h=>absurd rfl h,t.r2,t.r3,?_,t.r6,t.r7⟩,⟨b.bb,b.bn,b.bp,?_,b.m2,b.m4,b.nh,b.nd⟩⟩,rfl⟩
 ·intro e he;have:e∈([]:List (Nat×Pc)):=he;simp at this
 ·intro _ e he;have:e∈([]:List (Nat×Pc)):=he;simp at this
 ·intro i h;have:=(t.bd _ h).1;have h0:x.Jl.h.op=0:=rfl;simp only[TC.op,h0] at this;omega
 ·intro h0;have YU:x.s.op=0:=h0.symm;refine⟨fun k hk=>?_,fun j bs k hj _=>?_⟩
  ·have hk':k∈x.s.D_:=hk;rw[c.n0 YU] at hk';simp at hk'
  ·have:=(b.bb _ hj).1;simp only[BC.op] at this;have hj2:x.Jl.s.op=x.s.op:=rfl;omega
end
end Lw
namespace Lw
section
variable{x:Sys}
def Sys.HG(x:Sys)(T:List TC):Sys:={ x with T:=T }
def Sys.setB(x:Sys)(B:List BC):Sys:={ x with B:=B }
theorem o5(t:QY x){T:List TC}(hm:∀c,c∈T->c∈x.T)(so:T.Pairwise fun a b=>a.rank<=b.rank)(r6:T.Pairwise fun a b=>∀o i j,a=TC.data o i->b=TC.data o j->i<j+x.s.w):QY (x.HG T):=
 ⟨so,fun c h=>t.bd c (hm c h),fun q c h=>t.bo q c (hm c h),fun o q c h=>t.rt o q c (hm c h),fun c h=>t.rh c (hm c h),fun q c h=>t.re q c (hm c h),fun o i h=>t.r2 o i (hm _ h),fun o i h h'=>t.r3 o i (hm _ h) (hm _ h'),
  fun i h=>t.r4 i (hm _ h),r6,fun i h=>t.r7 i (hm _ h)⟩
theorem o8(b:Pz x){B:List BC}(hm:∀c,c∈B->c∈x.B)(bp:B.Pairwise fun a b=>∀j bs j' JN,a=BC.note x.s.op j bs->b=BC.note x.s.op j' JN->j<=j'/\¬mk j bs j'):Pz (x.setB B):=
 ⟨fun c h=>b.bb c (hm c h),fun j bs h=>b.bn j bs (hm _ h),bp,fun q=>⟨(b.m1 q).1,fun j bs k h=>(b.m1 q).2 j bs k (hm _ h)⟩,fun k hk=>⟨(b.m2 k hk).1,fun j bs h=>(b.m2 k hk).2 j bs (hm _ h)⟩,fun j bs h=>b.m4 j bs (hm _ h),fun q j bs h=>b.nh q j bs (hm _ h),b.nd⟩
theorem uh(c:M6 x)(T:List TC):M6 (x.HG T):=⟨c.w0,c.ww,c.ps,c.LN,c.su,c.sl,c.ch,c.s0,c.bt,c.tw,c.tl,c.tz,c.t0,c.ho,c.hz,c.hn,c.hl,c.he,c.hd,c.hb,c.hg,c.ek,c.n0⟩
theorem rR(c:M6 x)(B:List BC):M6 (x.setB B):=⟨c.w0,c.ww,c.ps,c.LN,c.su,c.sl,c.ch,c.s0,c.bt,c.tw,c.tl,c.tz,c.t0,c.ho,c.hz,c.hn,c.hl,c.he,c.hd,c.hb,c.hg,c.ek,c.n0⟩
theorem tV(b:Pz x)(T:List TC)(hm:TC.x_ x.s.op∈T->TC.x_ x.s.op∈x.T\/x.s.st=.opening/\x.s.D_=[]):Pz (x.HG T):=
 ⟨b.bb,b.bn,b.bp,b.m1,b.m2,b.m4,fun q=>b.nh (q.elim (fun h=>(hm h).elim .inl fun e=>.inr e.1) .inr),fun h=>(hm h).elim b.nd fun e=>e.2⟩
theorem sg(t:QY x)(B:List BC):QY (x.setB B):=⟨t.so,t.bd,t.bo,t.rt,t.rh,t.re,t.r2,t.r3,t.r4,t.r6,t.r7⟩
def dup{α:Type}(l:List α)(k:Nat):List α:=l.take (k+1)++l.drop k
theorem jT{α:Type}{l:List α}{k:Nat}{a:α}(h:a∈dup l k):a∈l:=by
 rcases List.mem_append.mp h with h|h
 ·exact List.mem_of_mem_take h
 ·exact List.mem_of_mem_drop h
theorem xw{α β:Type}(f:α->β)(l:List α)(k:Nat):dup (l.map f) k=(dup l k).map f:=by simp[dup]
theorem jY{α:Type}{R:α->α->Prop}{l:List α}(h:l.Pairwise R)(hr:∀a,a∈l->R a a):∀k,(dup l k).Pairwise R:=by
 induction l with
 |nil=>intro k;simp[dup]
 |cons a r ih=>
  intro k;obtain⟨h1,h2⟩:=List.pairwise_cons.mp h;cases k with
  |zero=>
   show(a :: ([]++a :: r)).Pairwise R;rw[List.nil_append];exact List.pairwise_cons.mpr ⟨fun b hb=>(List.mem_cons.mp hb).elim (fun e=>e ▸ hr a (by simp)) (h1 b),h⟩
  |succ k=>
   show(a :: dup r k).Pairwise R;exact List.pairwise_cons.mpr ⟨fun b hb=>h1 b (jT hb),ih h2 (fun b hb=>hr b (List.mem_cons_of_mem _ hb)) k⟩
theorem kX{α β:Type}(f:α->β):∀(l:List α) (k:Nat),(l.map f).eraseIdx k=(l.eraseIdx k).map f
 |[],_=>rfl
 |_ :: _,0=>rfl
 |a :: r,k+1=>by
  show f a :: (r.map f).eraseIdx k=f a :: (r.eraseIdx k).map f;rw[kX f r k]
theorem uY(v:Iv x)(k:Nat):Iv (x.HG (x.T.eraseIdx k))/\(x.HG (x.T.eraseIdx k)).con = { x.con with T:=x.con.T.eraseIdx k }:=by
 have hs:(x.T.eraseIdx k).Sublist x.T:=List.eraseIdx_sublist ..;refine⟨⟨uh v.c _,o5 v.t (fun c h=>hs.subset h) (v.t.so.sublist hs) (v.t.r6.sublist hs),tV v.b _ fun h=>.inl (hs.subset h)⟩,?_⟩;unfold Sys.con;simp only[Sys.HG];refine congr (congr rfl ?_) rfl;show(x.T.eraseIdx k).map x.cT=(x.T.map x.cT).eraseIdx k;exact(kX ..).symm
theorem ub(v:Iv x)(k:Nat):Iv (x.setB (x.B.eraseIdx k))/\(x.setB (x.B.eraseIdx k)).con = { x.con with B:=x.con.B.eraseIdx k }:=by
 have hs:(x.B.eraseIdx k).Sublist x.B:=List.eraseIdx_sublist ..;refine⟨⟨rR v.c _,sg v.t _,o8 v.b (fun c h=>hs.subset h) (v.b.bp.sublist hs)⟩,?_⟩;unfold Sys.con;simp only[Sys.setB];refine congr rfl ?_;show(x.B.eraseIdx k).map x.cB=(x.B.map x.cB).eraseIdx k;exact(kX ..).symm
theorem wT(v:Iv x)(k:Nat):Iv (x.HG (dup x.T k))/\(x.HG (dup x.T k)).con = { x.con with T:=dup x.con.T k }:=by
 refine⟨⟨uh v.c _,o5 v.t (fun c h=>jT h) (jY v.t.so (fun a _=>Nat.le_refl _) k) (jY v.t.r6 (fun a _ o i j e1 e2=>?_) k),tV v.b _ fun h=>.inl (jT h)⟩,?_⟩
 ·rw[e1] at e2;cases e2;have:=v.c.w0;omega
 ·unfold Sys.con;simp only[Sys.HG];refine congr (congr rfl ?_) rfl;exact(xw x.cT x.T k).symm
theorem wX(v:Iv x)(k:Nat):Iv (x.setB (dup x.B k))/\(x.setB (dup x.B k)).con = { x.con with B:=dup x.con.B k }:=by
 refine⟨⟨rR v.c _,sg v.t _,o8 v.b (fun c h=>jT h) (jY v.b.bp (fun a ha j bs j' JN e1 e2=>?_) k)⟩,?_⟩
 ·rw[e1] at e2;cases e2;rw[e1] at ha;exact⟨Nat.le_refl _,v.b.m4 j bs ha⟩
 ·unfold Sys.con;simp only[Sys.setB];refine congr rfl ?_;exact(xw x.cB x.B k).symm
def Sys.Jm(x:Sys):List TC:=match x.s.st with
 |.FL=>[]
 |.opening=>[.x_ x.s.op]
 |.opened=>x.s.wanted.map fun i=>.data x.s.op i
theorem dN{s:Sr}{i:Nat}(h:i∈s.wanted):s.base<=i/\i<s.base+s.w/\i<s.ps.length/\i∉s.D_:=by
 unfold Sr.wanted at h;obtain⟨h1,h2⟩:=List.mem_filter.mp h;obtain⟨h3,h4⟩:=List.mem_range'_1.mp h1;refine⟨h3,by omega,by omega,by simpa using h2⟩
theorem dh{α:Type}{R:α->α->Prop}{a b:List α}(ha:a.Pairwise R)(hb:b.Pairwise R)(h:∀x,x∈a->∀y,y∈b->R x y):(a++b).Pairwise R:=List.pairwise_append.mpr ⟨ha,hb,h⟩
theorem wM(v:Iv x):Iv (x.HG (x.T++x.Jm))/\(x.HG (x.T++x.Jm)).con = { x.con with T:=x.con.T++x.s.tick }:=by
 obtain⟨c,t,b⟩:=v;have Gf:∀a,a∈x.Jm->(x.s.st=.opening/\a=.x_ x.s.op/\1<=x.s.op)\/(x.s.st=.opened/\1<=x.s.op/\x.s.ps=x.P x.s.op/\∃i,a=.data x.s.op i/\i∈x.s.wanted):=by
  intro a ha;unfold Sys.Jm at ha;cases e:x.s.st with
  |FL=>rw[e] at ha;simp at ha
  |opening=>
   rw[e] at ha;simp at ha;exact .inl ⟨rfl,ha,(c.ps (by rw[e];simp)).2⟩
  |opened=>
   rw[e] at ha;obtain⟨i,hi,rfl⟩:=List.mem_map.mp ha;obtain⟨h1,h2⟩:=c.ps (by rw[e];simp);exact .inr ⟨rfl,h2,h1,i,rfl,hi⟩
 refine⟨⟨uh c _,?_,tV b _ fun h=>?_⟩,?_⟩
 rotate_left
 ·rcases List.mem_append.mp h with h|h
  ·exact .inl h
  ·rcases Gf _ h with ⟨e,_,_⟩|⟨_,_,_,i,q,_⟩
   ·exact .inr ⟨e,(c.LN e).2.1⟩
   ·cases q
 rotate_right
 ·have rk:∀a,a∈x.Jm->2 * x.s.op<=a.rank/\a.rank<=2 * x.s.op+1/\a.op=x.s.op/\1<=x.s.op:=by
   intro a ha;rcases Gf a ha with ⟨_,rfl,h⟩|⟨_,h,_,i,rfl,_⟩<;>simp[TC.rank,TC.op,h]
  have YV:TC.x_ x.s.op∈x.T->x.tk x.s.op=0:=fun h=>by
   cases e:x.tk x.s.op with
   |zero=>rfl
   |succ n=>
    have:=t.rt x.s.op (by omega) _ h;simp only[TC.rank] at this;omega
  refine⟨?_,?_,?_,?_,?_,?_,?_,?_,?_,?_,?_⟩
  ·refine dh t.so ?_ ?_
   ·refine List.Pairwise.imp_of_mem (R:=fun _ _=>True) ?_ (by simp[List.pairwise_iff_forall_sublist]);intro a a' ha Ml _;rcases Gf a ha with ⟨e,rfl,_⟩|⟨e,_,_,i,rfl,_⟩<;>rcases Gf a' Ml with ⟨e',rfl,_⟩|⟨e',_,_,i',rfl,_⟩<;>simp_all [TC.rank]
   ·intro a ha a' Ml;rcases Gf a' Ml with ⟨e,rfl,_⟩|⟨e,_,_,i,rfl,_⟩
    ·exact t.bo e a ha
    ·exact(t.bd a ha).2
  ·intro a ha;rcases List.mem_append.mp ha with ha|ha
   ·exact t.bd a ha
   ·obtain⟨h1,h2,h3,h4⟩:=rk a ha;exact⟨by rw[h3];exact h4,h2⟩
  ·intro e a ha;rcases List.mem_append.mp ha with ha|ha
   ·exact t.bo e a ha
   ·rcases Gf a ha with ⟨_,rfl,_⟩|⟨e',_⟩
    ·exact Nat.le_refl _
    ·have e2:x.s.st=.opening:=e;rw[e2] at e';cases e'
  ·intro o ho a ha;rcases List.mem_append.mp ha with ha|ha
   ·exact t.rt o ho a ha
   ·have hle:o<=x.s.op:=Nat.le_of_not_lt fun h=>by have:=c.tz o h;have:0<x.tk o:=ho;omega
    rcases Gf a ha with ⟨e,rfl,_⟩|⟨e,_,_,i,rfl,_⟩
    ·have:=(c.LN e).2.2.1;have Nv:o≠x.s.op:=fun q=>by rw[q] at ho;have:0<x.tk x.s.op:=ho;omega
     simp only[TC.rank];omega
    ·simp only[TC.rank];omega
  ·intro a ha;rcases List.mem_append.mp ha with ha|ha
   ·exact t.rh a ha
   ·have h1:=(rk a ha).1;have h2:=c.ho;show 2 * x.h.op<=_;omega
  ·intro he a ha;rcases List.mem_append.mp ha with ha|ha
   ·exact t.re he a ha
   ·have L5:x.h.early≠[]:=he;show 2 * x.h.op+1<=_;have h2:=c.ho;rcases Gf a ha with ⟨e,rfl,_⟩|⟨e,_,_,i,rfl,_⟩
    ·by_cases hq:x.h.op=x.s.op
     ·exact absurd ((c.LN e).2.2.2 hq) L5
     ·simp only[TC.rank];omega
    ·simp only[TC.rank];omega
  ·intro o i ha;rcases List.mem_append.mp ha with ha|ha
   ·exact t.r2 o i ha
   ·rcases Gf _ ha with ⟨e,q,_⟩|⟨e,_,hp,i',q,hi⟩
    ·cases q
    ·cases q;have:=(dN hi).2.2.1;rw[hp] at this;exact this
  ·intro o i h1 h2;rcases List.mem_append.mp h2 with h2|h2
   ·rcases List.mem_append.mp h1 with h1|h1
    ·exact t.r3 o i h1 h2
    ·rcases Gf _ h1 with ⟨e,q,_⟩|⟨e,_,_,i',q,_⟩
     ·cases q;have:=t.bo e _ h2;simp only[TC.rank] at this;omega
     ·cases q
   ·rcases Gf _ h2 with ⟨e,q,_⟩|⟨e,_,_,i',q,hi⟩
    ·cases q
    ·cases q;have hw:=dN hi;rcases List.mem_append.mp h1 with h1|h1
     ·have hb:=c.bt;rw[YV h1] at hb;show i<x.s.w;omega
     ·rcases Gf _ h1 with ⟨e',_,_⟩|⟨_,_,_,i',q,_⟩
      ·rw[e] at e';cases e'
      ·cases q
  ·intro i h;rcases List.mem_append.mp h with h|h
   ·exact t.r4 i h
   ·rcases Gf _ h with ⟨e,q,_⟩|⟨e,_,_,i',q,hi⟩
    ·cases q
    ·have q':TC.data x.h.op i=TC.data x.s.op i':=q
     injection q' with q1 q2
     subst q2;have hw:=dN hi;have P9:=c.hn;rw[q1] at P9;have h1:=c.bt;have h2:=c.tw;refine⟨?_,?_,fun e he=>?_⟩
     ·show i<x.h.nx+x.s.w;omega
     ·show x.h.nx<=i+x.s.w;omega
     ·have:=c.ek q1 e he;show e.1<i+x.s.w;omega
  ·refine dh t.r6 ?_ ?_
   ·refine List.Pairwise.imp_of_mem (R:=fun _ _=>True) ?_ (by simp[List.pairwise_iff_forall_sublist]);intro a a' ha Ml _ o i j e1 e2;rcases Gf a ha with ⟨e,q,_⟩|⟨e,_,_,i1,q,h1⟩
    ·rw[q] at e1;cases e1
    ·rcases Gf a' Ml with ⟨e',q',_⟩|⟨e',_,_,i2,q',h2⟩
     ·rw[q'] at e2;cases e2
     ·rw[q] at e1;rw[q'] at e2;cases e1;cases e2;have:=dN h1;have:=dN h2;show i<j+x.s.w;omega
   ·intro a ha a' Ml o i j e1 e2;rcases Gf a' Ml with ⟨e',q',_⟩|⟨e',_,_,i2,q',h2⟩
    ·rw[q'] at e2;cases e2
    ·rw[q'] at e2;cases e2;rw[e1] at ha;have:=t.r7 i ha;have:=dN h2;show i<j+x.s.w;omega
  ·intro i h;rcases List.mem_append.mp h with h|h
   ·exact t.r7 i h
   ·rcases Gf _ h with ⟨e,q,_⟩|⟨e,_,_,i',q,hi⟩
    ·cases q
    ·have q':TC.data x.s.op i=TC.data x.s.op i':=q
     injection q' with q1 q2
     subst q2;exact(dN hi).2.1
 ·unfold Sys.con;simp only[Sys.HG];refine congr (congr rfl ?_) rfl;show(x.T++x.Jm).map x.cT=x.T.map x.cT++x.s.tick;rw[List.map_append];congr 1;unfold Sys.Jm Sr.tick;cases e:x.s.st with
  |FL=>rfl
  |opening=>rfl
  |opened=>
   obtain⟨h1,_⟩:=c.ps (by rw[e];simp);simp only[List.map_map];refine List.map_congr_left fun i _=>?_
   show w_.data x.s.op (i % (2 * x.s.w)) ((x.P x.s.op).getD i (0,[]))=w_.data x.s.op (i % (2 * x.s.w)) (x.s.ps.getD i (0,[]));rw[h1]
end
end Lw
namespace Lw
open PySem L2 DL
structure En where
 c:w_
 x:Option (List Int)
def En.xs(e:En):List Int:=match e.x with
 |none=>Gn (aA e.c)
 |some xs=>xs
def gd(c:w_):En:=⟨c,none⟩
structure WW where
 s:Sr
 h:Hr
 T:List En
 B:List En
def eD(e:En)(place:Nat)(G8:Int):En:=match e.x with
 |some _=>e
 |none=>if G8 % 256=0 then e else ⟨e.c,some (e.xs.set (place % e.xs.length) ((e.xs.getD (place % e.xs.length) 0+G8) % 256))⟩
def gL(l:List En)(k place:Nat)(G8:Int):List En:=match l[k]? with
 |some e=>l.set k (eD e place G8)
 |none=>l
def oZ(l:List En)(k:Nat):List En:=match l[k]? with
 |some e=>l.insertIdx k e
 |none=>l
inductive Act where
 |hand (m:FN)|start|tick|step (r:Bool)|LO (r:Bool) (k:Nat)|dbl (r:Bool) (k:Nat)|Jn (r:Bool) (k place:Nat) (G8:Int)|Fp (r:Bool)
namespace WW
def new(w most:Nat):WW:=⟨Sr.new w most,Hr.new w,[],[]⟩
def road(w:WW)(r:Bool):List En:=if r then w.T else w.B
def Fm(w:WW)(r:Bool)(l:List En):WW:=if r then { w with T:=l } else { w with B:=l }
def Gj(w:WW)(r:Bool)(e:En):WW:=match e.x with
 |some _=>w
 |none=>if r then { w with h:=(w.h.j_ e.c).1,B:=w.B++(w.h.j_ e.c).2.map gd } else { w with s:=w.s.j_ e.c }
def step(w:WW)(r:Bool):WW:=match w.road r with
 |[]=>w
 |e :: l=>(w.Fm r l).Gj r e
def act(w:WW):Act->WW
 |.hand m=>{ w with s:=w.s.hand m }
 |.start=>{ w with s:=w.s.start }
 |.tick=>{ w with T:=w.T++w.s.tick.map gd }
 |.step r=>w.step r
 |.LO r k=>w.Fm r ((w.road r).eraseIdx k)
 |.dbl r k=>w.Fm r (oZ (w.road r) k)
 |.Jn r k place G8=>w.Fm r (gL (w.road r) k place G8)
 |.Fp r=>if r then { w with s:=w.s.Fp } else { w with h:=w.h.Fp }
end WW
def N2(m:FN):Prop:=∀x,x∈m->0<=x/\x<=255
def MC(N:Nat)(e:En):Prop:=IM e.c/\e.c.FI<=N/\e.xs.length<=100/\∀xs,e.x=some xs->∀c,IM c->Gn (aA c)≠xs
structure GO(N:Nat)(w:WW):Prop where
 sb:Sb N w.s
 bl:Bl w.s
 w0:0<w.s.w
 w7:w.s.w<=7
 m8:w.s.most<=8
 hw:w.h.w=w.s.w
 bd:Bd N w.h
 op:w.s.op<=N
 ho:w.h.op<=N
 gk:∀m,m∈w.s.msgs->N2 m
 pk:∀p,p∈w.s.ps->p.2.length<=8/\N2 p.2
 tk:∀e,e∈w.T->MC N e
 bk:∀e,e∈w.B->MC N e
 tl:w.T.length<=8 * N
 ql:w.B.length<=8 * N
theorem MC.mono{N M:Nat}{e:En}(h:MC N e)(hm:N<=M):MC M e:=⟨h.1,Nat.le_trans h.2.1 hm,h.2.2⟩
theorem uf{N:Nat}{c:w_}(h:IM c)(ho:c.FI<=N):MC N (gd c):=by
 have:=fJ h;refine⟨h,ho,?_,fun xs z=>by cases z⟩;show(Gn (aA c)).length<=100;rw[mT];omega
theorem GO.mono{N M:Nat}{w:WW}(a:GO N w)(h:N<=M):GO M w:=
 ⟨a.sb.mono h,a.bl,a.w0,a.w7,a.m8,a.hw,a.bd.mono h,Nat.le_trans a.op h,Nat.le_trans a.ho h,a.gk,a.pk,fun e he=>(a.tk e he).mono h,fun e he=>(a.bk e he).mono h,by have:=a.tl;omega,by have:=a.ql;omega⟩
theorem qf{k:Nat}:∀(n:Nat) (m:FN),m.length<=n->1<=k->∀p,p∈nj k n m->p.2.length<=k/\∀x,x∈p.2->x∈m
 |0,m,hm,hk,p,hp=>by
  have:m=[]:=List.eq_nil_of_length_eq_zero (by omega);subst this;simp[nj] at hp;subst hp;simp
 |n+1,m,hm,hk,p,hp=>by
  unfold nj at hp;split at hp
  ·rcases List.mem_cons.mp hp with rfl|hp
   ·exact⟨by rw[List.length_take];omega,fun x hx=>List.mem_of_mem_take hx⟩
   ·have:=qf n (m.drop k) (by rw[List.length_drop];omega) hk p hp;exact⟨this.1,fun x hx=>List.mem_of_mem_drop (this.2 x hx)⟩
  ·simp at hp;subst hp;exact⟨by show m.length<=k;omega,fun x hx=>hx⟩
theorem wN{k:Nat}(hk:1<=k)(h8:k<=8){m:FN}(hm:m.length<=40)(ho:N2 m):∀p,p∈fz k m->p.2.length<=8/\N2 p.2:=fun p hp=>by
 have:=qf 100 m (by omega) hk p hp;exact⟨by omega,fun x hx=>ho x (this.2 x hx)⟩
section
variable{N:Nat}{w:WW}
theorem BG{a b:Nat}(h1:0<a)(h2:a<=7)(h3:1<=b)(h4:b<=8):GO 0 (WW.new a b):=by
 refine⟨⟨h3,by simp[WW.new,Sr.new],by simp[WW.new,Sr.new],by simp[WW.new,Sr.new],by simp[WW.new,Sr.new],by simp[WW.new,Sr.new]⟩,Nat.zero_le _,h1,h2,h4,rfl,⟨by simp[WW.new,Hr.new],by simp[WW.new,Hr.new],by simp[WW.new,Hr.new]⟩,Nat.le_refl _,Nat.le_refl _,by simp[WW.new,Sr.new],by simp[WW.new,Sr.new],by simp[WW.new],by simp[WW.new],by simp[WW.new],by simp[WW.new]⟩
theorem zh(a:GO N w){m:FN}(hm:m.length<=40)(ho:N2 m):GO (N+1) (w.act (.hand m)):=by
 have a':=a.mono (Nat.le_succ N);refine⟨a.sb.hand hm,a.bl.hand m,a.w0,a.w7,a.m8,a.hw,a'.bd,a'.op,a'.ho,fun y hy=>?_,fun p hp=>?_,a'.tk,a'.bk,a'.tl,a'.ql⟩
 ·rcases List.mem_append.mp (show y∈w.s.msgs++[m] from hy) with hy|hy
  ·exact a.gk y hy
  ·rw[List.mem_singleton.mp hy];exact ho
 ·have hp':p∈(if w.s.st=.FL then w.s.ps else w.s.ps++fz w.s.most m):=hp;split at hp'
  ·exact a.pk p hp'
  ·rcases List.mem_append.mp hp' with hp'|hp'
   ·exact a.pk p hp'
   ·exact wN a.sb.most a.m8 hm ho p hp'
theorem xa(a:GO N w):∀p,p∈w.s.anew.ps->p.2.length<=8/\N2 p.2:=fun p hp=>by
 obtain⟨m,hm,hp⟩:=List.mem_flatMap.mp (show p∈(w.s.msgs.drop w.s.sure).flatMap (fz w.s.most) from hp);have WB:=List.mem_of_mem_drop hm;exact wN a.sb.most a.m8 (a.sb.NA m WB) (a.gk m WB) p hp
theorem xK(a:GO N w):GO (N+1) (w.act .start):=by
 have a':=a.mono (Nat.le_succ N);by_cases h:w.s.st=.FL
 ·have e:w.act .start = { w with s:=w.s.anew }:=by show({ w with s:=w.s.start }:WW)=_;unfold Sr.start;rw[if_pos h]
  have hb:Sb (N+1) w.s.anew:=by
   have:=(a.sb.start (s:=w.s)).mono (Nat.le_succ N);unfold Sr.start at this;rw[if_pos h] at this;exact this
  rw[e];exact⟨hb,Bl.anew,a.w0,a.w7,a.m8,a.hw,a'.bd,by have:=a.op;show w.s.op+1<=_;omega,a'.ho,a.gk,xa a,a'.tk,a'.bk,a'.tl,a'.ql⟩
 ·have e:w.act .start=w:=by show({ w with s:=w.s.start }:WW)=_;unfold Sr.start;rw[if_neg h]
  rw[e];exact a'
theorem vR(s:Sr):s.wanted.length<=s.w:=by
 unfold Sr.wanted;refine Nat.le_trans (List.length_filter_le _ _) ?_;rw[List.length_range'];omega
theorem xp(a:GO N w)(hN:N<=20000):(∀c,c∈w.s.tick->IM c/\c.FI<=N)/\w.s.tick.length<=7:=by
 have ho:=a.op;have hw:=a.w7;have h0:=a.w0;unfold Sr.tick;cases w.s.st with
 |FL=>exact⟨fun c hc=>by simp at hc,by simp⟩
 |opening=>exact⟨fun c hc=>by simp at hc;subst hc;exact⟨(show w.s.op<=65535 by omega),ho⟩,by simp⟩
 |opened=>
  refine⟨fun c hc=>?_,by rw[List.length_map];have:=vR w.s;omega⟩;obtain⟨i,hi,rfl⟩:=List.mem_map.mp hc;obtain⟨h1,h2,h3,h4⟩:=dN hi;have N0:w.s.ps.getD i (0,[])∈w.s.ps:=by
   rw[List.getD_eq_getElem?_getD,List.getElem?_eq_getElem h3];exact List.getElem_mem h3
  have hf:=a.sb.fg _ N0;have hp:=a.pk _ N0;have hm:=Nat.mod_lt i (show 0<2 * w.s.w by omega);exact⟨⟨by omega,by omega,by omega,hp.1,hp.2⟩,ho⟩
theorem zK(a:GO N w)(hN:N<=20000):GO (N+1) (w.act .tick):=by
 have a':=a.mono (Nat.le_succ N);obtain⟨h1,h2⟩:=xp a hN;refine⟨a'.sb,a'.bl,a.w0,a.w7,a.m8,a.hw,a'.bd,a'.op,a'.ho,a.gk,a.pk,fun e he=>?_,a'.bk,?_,a'.ql⟩
 ·rcases List.mem_append.mp (show e∈w.T++w.s.tick.map gd from he) with he|he
  ·exact a'.tk e he
  ·obtain⟨c,hc,rfl⟩:=List.mem_map.mp he;exact(uf (h1 c hc).1 (h1 c hc).2).mono (Nat.le_succ _)
 ·show(w.T++w.s.tick.map gd).length<=_;have:=a.tl;rw[List.length_append,List.length_map];omega
theorem GO.rd(a:GO N w)(r:Bool):∀e,e∈w.road r->MC N e:=by
 cases r with
 |true=>exact a.tk
 |false=>exact a.bk
theorem GO.rl(a:GO N w)(r:Bool):(w.road r).length<=8 * N:=by
 cases r with
 |true=>exact a.tl
 |false=>exact a.ql
theorem GO.Fm(a:GO N w)(r:Bool){l:List En}(h1:∀e,e∈l->MC N e)(h2:l.length<=8 * N):GO N (w.Fm r l):=by
 cases r with
 |true=>exact⟨a.sb,a.bl,a.w0,a.w7,a.m8,a.hw,a.bd,a.op,a.ho,a.gk,a.pk,h1,a.bk,h2,a.ql⟩
 |false=>exact⟨a.sb,a.bl,a.w0,a.w7,a.m8,a.hw,a.bd,a.op,a.ho,a.gk,a.pk,a.tk,h1,a.tl,h2⟩
theorem zY(a:GO N w)(r:Bool)(k:Nat):GO N (w.act (.LO r k)):=by
 refine a.Fm r (fun e he=>a.rd r e (List.mem_of_mem_eraseIdx he)) ?_;have:=List.length_eraseIdx_le (w.road r) k;have:=a.rl r;omega
theorem kD{α:Type}:∀{l:List α}{k:Nat}{x y:α},y∈l.insertIdx k x->y=x\/y∈l
 |l,0,x,y,h=>by simpa using h
 |[],k+1,x,y,h=>by simp at h
 |z :: l,k+1,x,y,h=>by
  rw[List.insertIdx_succ_cons] at h;rcases List.mem_cons.mp h with rfl|h
  ·exact .inr List.mem_cons_self
  ·rcases kD h with h|h
   ·exact .inl h
   ·exact .inr (List.mem_cons_of_mem _ h)
theorem BL(a:GO N w)(r:Bool)(k:Nat):GO (N+1) (w.act (.dbl r k)):=by
 have a':=a.mono (Nat.le_succ N);have hl:=a.rl r;refine a'.Fm r (fun e he=>?_) ?_
 ·unfold oZ at he;split at he
  ·rename_i e' h';rcases kD he with rfl|he
   ·exact a'.rd r e (List.mem_of_getElem? h')
   ·exact a'.rd r e he
  ·exact a'.rd r e he
 ·unfold oZ;split
  ·exact Nat.le_trans List.length_insertIdx_le_succ (by omega)
  ·omega
theorem uW(a:GO N w)(hN:N<=20000){c:w_}(hc:IM c)(WC:c.FI<=N):(∀d,d∈(w.h.j_ c).2->IM d/\d.FI<=N)/\(w.h.j_ c).2.length<=1/\(w.h.j_ c).1.op<=N:=by
 have ho:=a.ho;have hw:=a.hw;have h7:=a.w7;have h0:=a.w0;have N3:∀h:Hr,h.op<=N->h.w=w.s.w->IM h.note/\h.note.FI<=N:=by
  intro h h1 h2;refine⟨⟨by omega,?_,?_,fun x hx=>?_⟩,h1⟩
  ·have:=Nat.mod_lt h.nx (show 0<2 * h.w by omega);omega
  ·show h.bits.length<=7;unfold Hr.bits;rw[List.length_map,List.length_range];omega
  ·obtain⟨k,_,rfl⟩:=List.mem_map.mp (show x∈h.bits from hx);split<;>omega
 cases c with
 |x_ o=>
  have M5:o<=65535:=hc;have QZ:o<=N:=WC;dsimp only[Hr.j_];split
  ·exact⟨fun d hd=>by simp at hd,by simp,ho⟩
  ·split
   ·exact⟨fun d hd=>by simp at hd;subst hd;exact⟨M5,QZ⟩,by simp,QZ⟩
   ·exact⟨fun d hd=>by simp at hd;subst hd;exact⟨M5,QZ⟩,by simp,ho⟩
 |data o n p=>
  have M5:=hc.1;have QZ:o<=N:=WC;dsimp only[Hr.j_];split
  ·exact⟨fun d hd=>by simp at hd,by simp,ho⟩
  ·split
   ·exact⟨fun d hd=>by simp at hd;subst hd;exact⟨M5,QZ⟩,by simp,ho⟩
   ·have e1:(w.h.data n p).op=w.h.op:=by
     unfold Hr.data;have t:∀(k:Nat) (h:Hr),(Hr.ET k h).op=h.op:=by
      intro k
      induction k with
      |zero=>intro h;rfl
      |succ k ih=>
       intro h;unfold Hr.ET;split
       ·rfl
       ·rw[ih];unfold Hr.take;split<;>rfl
     rw[t];unfold Hr.keep;split<;>rfl
    have e2:=tf w.h n p;refine⟨fun d hd=>?_,by simp,by rw[e1];exact ho⟩;simp at hd;subst hd;exact N3 _ (by rw[e1];exact ho) (by rw[e2];exact hw)
 |s_ o=>exact⟨fun d hd=>by simp[Hr.j_] at hd,by simp[Hr.j_],ho⟩
 |Gk o=>exact⟨fun d hd=>by simp[Hr.j_] at hd,by simp[Hr.j_],ho⟩
 |note o n bs=>exact⟨fun d hd=>by simp[Hr.j_] at hd,by simp[Hr.j_],ho⟩
theorem IM.P8{c:w_}(h:IM c):P8 c:=by
 cases c with
 |data o n p=>exact Nat.le_trans h.2.2.2.1 (by decide)
 |_=>trivial
theorem IM.LL{c:w_}(h:IM c):LL c:=by
 cases c with
 |note o n bs=>exact h.2.2.1
 |_=>trivial
theorem mv(s:Sr)(n:Nat)(bs:List Int):(s.B_ n bs).ps=s.ps/\(s.B_ n bs).op=s.op/\(s.B_ n bs).msgs=s.msgs/\(s.B_ n bs).most=s.most:=by
 unfold Sr.B_;split
 ·have:=dj bs (s.G6 (ju n s.base s.w).toNat) 0;exact⟨this.2.2.2.2.2.2.1,this.2.2.2.2.1,this.2.2.1,this.2.1⟩
 ·exact⟨rfl,rfl,rfl,rfl⟩
theorem xO(a:GO N w)(c:w_):(∀p,p∈(w.s.j_ c).ps->p.2.length<=8/\N2 p.2)/\(w.s.j_ c).op<=N+1/\(w.s.j_ c).msgs=w.s.msgs/\(w.s.j_ c).most=w.s.most:=by
 have ho:=a.op;cases c with
 |s_ o=>
  dsimp only[Sr.j_];split
  ·exact⟨a.pk,by show w.s.op<=_;omega,rfl,rfl⟩
  ·exact⟨a.pk,by omega,rfl,rfl⟩
 |Gk o=>
  dsimp only[Sr.j_];split
  ·exact⟨xa a,by show w.s.op+1<=_;omega,rfl,rfl⟩
  ·exact⟨a.pk,by omega,rfl,rfl⟩
 |note o n bs=>
  dsimp only[Sr.j_];split
  ·obtain⟨e1,e2,e3,e4⟩:=mv w.s n bs;rw[e1,e2,e3,e4];exact⟨a.pk,by omega,rfl,rfl⟩
  ·exact⟨a.pk,by omega,rfl,rfl⟩
 |x_ o=>exact⟨a.pk,by show w.s.op<=_;omega,rfl,rfl⟩
 |data o n p=>exact⟨a.pk,by show w.s.op<=_;omega,rfl,rfl⟩
theorem vF(a:GO N w)(hN:N<=20000)(r:Bool){e:En}(he:MC N e):GO (N+1) (w.Gj r e):=by
 have a':=a.mono (Nat.le_succ N);obtain⟨c,x⟩:=e;cases x with
 |some xs=>exact a'
 |none=>
  cases r with
  |true=>
   obtain⟨k1,k2,k3⟩:=uW a hN he.1 he.2.1;refine⟨a'.sb,a'.bl,a.w0,a.w7,a.m8,(BF w.h c).trans a.hw,a.bd.j_ he.1.P8,a'.op,Nat.le_succ_of_le k3,a.gk,a.pk,a'.tk,fun d hd=>?_,a'.tl,?_⟩
   ·rcases List.mem_append.mp (show d∈w.B++(w.h.j_ c).2.map gd from hd) with hd|hd
    ·exact a'.bk d hd
    ·obtain⟨q,hq,rfl⟩:=List.mem_map.mp hd;exact(uf (k1 q hq).1 (k1 q hq).2).mono (Nat.le_succ _)
   ·show(w.B++(w.h.j_ c).2.map gd).length<=_;have:=a.ql;have NB:(w.h.j_ c).2.length<=1:=k2;rw[List.length_append,List.length_map];omega
  |false=>
   obtain⟨k1,k2,k3,k4⟩:=xO a c;have hw:=Ab w.s c;refine⟨a.sb.j_ he.1.LL,a.bl.j_ a.w0 c,by rw[show(w.Gj false ⟨c,none⟩).s=w.s.j_ c from rfl,hw];exact a.w0,by rw[show(w.Gj false ⟨c,none⟩).s=w.s.j_ c from rfl,hw];exact a.w7,by rw[show(w.Gj false ⟨c,none⟩).s=w.s.j_ c from rfl,k4];exact a.m8,by rw[show(w.Gj false ⟨c,none⟩).s=w.s.j_ c from rfl,hw];exact a.hw,a'.bd,k2,a'.ho,fun m hm=>a.gk m (by rw[<-k3];exact hm),k1,a'.tk,a'.bk,a'.tl,a'.ql⟩
theorem yq(w:WW)(r:Bool)(l:List En):(w.Fm r l).road r=l:=by cases r<;>rfl
theorem z6(a:GO N w)(hN:N<=20000)(r:Bool):GO (N+1) (w.act (.step r)):=by
 show GO (N+1) (w.step r);unfold WW.step;cases h:w.road r with
 |nil=>exact a.mono (Nat.le_succ N)
 |cons e l=>
  have h1:=a.rd r;have h2:=a.rl r;rw[h] at h1 h2;rw[List.length_cons] at h2;exact vF (a.Fm r (fun d hd=>h1 d (List.mem_cons_of_mem _ hd)) (by omega)) hN r (h1 e List.mem_cons_self)
theorem zN{e:En}(he:MC N e)(place:Nat)(G8:Int):MC N (eD e place G8):=by
 obtain⟨c,x⟩:=e;cases x with
 |some xs=>exact he
 |none=>
  unfold eD;dsimp only;split
  ·exact he
  ·rename_i hb;have Mz:3<=(aA c).length/\(aA c).length<=13:=fJ he.1;have Py:(⟨c,none⟩:En).xs=Gn (aA c):=rfl;have YW:=mT (aA c);refine⟨he.1,he.2.1,?_,?_⟩
   ·show(((⟨c,none⟩:En).xs).set _ _).length<=100;rw[List.length_set,Py,YW];omega
   ·intro xs hx c' Qj
    injection hx with hx
    rw[<-hx,Py];obtain⟨i,hi⟩:∃i,place % (Gn (aA c)).length=i:=⟨_,rfl⟩;have Hc:i<(Gn (aA c)).length:=by rw[<-hi];exact Nat.mod_lt _ (by omega)
    rw[hi];have HF:=Ae (rP he.1);obtain⟨a,ha⟩:∃a,(Gn (aA c))[i]?=some a:=⟨_,List.getElem?_eq_getElem Hc⟩;have YX:(Gn (aA c)).getD i 0=a:=by rw[List.getD_eq_getElem?_getD,ha];rfl
    rw[YX];exact CU ha (by omega) (aA c')
theorem xF(a:GO N w)(r:Bool)(k place:Nat)(G8:Int):GO N (w.act (.Jn r k place G8)):=by
 have hl:=a.rl r;refine a.Fm r (fun e he=>?_) ?_
 ·unfold gL at he;split at he
  ·rename_i e' h';rcases List.mem_or_eq_of_mem_set he with he|rfl
   ·exact a.rd r e he
   ·exact zN (a.rd r e' (List.mem_of_getElem? h')) place G8
  ·exact a.rd r e he
 ·unfold gL;split
  ·rw[List.length_set];exact hl
  ·exact hl
theorem za(a:GO N w)(r:Bool):GO N (w.act (.Fp r)):=by
 cases r with
 |true=>exact⟨a.sb.Fp,a.bl,a.w0,a.w7,a.m8,a.hw,a.bd,a.op,a.ho,a.gk,a.pk,a.tk,a.bk,a.tl,a.ql⟩
 |false=>exact⟨a.sb,a.bl,a.w0,a.w7,a.m8,a.hw,a.bd.begin_ 0,a.op,Nat.zero_le _,a.gk,a.pk,a.tk,a.bk,a.tl,a.ql⟩
def Act.ok:Act->Prop
 |.hand m=>m.length<=40/\N2 m
 |_=>True
theorem A9(a:GO N w)(hN:N<=20000)(t:Act)(ht:t.ok):GO (N+1) (w.act t):=by
 cases t with
 |hand m=>exact zh a ht.1 ht.2
 |start=>exact xK a
 |tick=>exact zK a hN
 |step r=>exact z6 a hN r
 |LO r k=>exact(zY a r k).mono (Nat.le_succ N)
 |dbl r k=>exact BL a r k
 |Jn r k p b=>exact(xF a r k p b).mono (Nat.le_succ N)
 |Fp r=>exact(za a r).mono (Nat.le_succ N)
end
end Lw
namespace Lw
open PySem L2 DL
structure Ad where
 n:Nat
 nS:Nat
 mS:Nat
 pS:Nat
 qS:Nat
 nH:Nat
 gH:Nat
 eH:Nat
 bH:Nat
 nR:Nat
 nT:Nat
 nB:Nat
def Ad.sf(a:Ad):List Nat:=[a.nS,a.mS,a.pS,a.qS]
def Ad.hf(a:Ad):List Nat:=[a.nH,a.gH,a.eH,a.bH]
def Ad.wf(a:Ad):List Nat:=[a.n,a.nR,a.nT,a.nB]
def Ad.fp(a:Ad):List Nat:=a.sf++a.hf++a.wf
def Ad.rn(a:Ad)(r:Bool):Nat:=if r then a.nT else a.nB
def bx(r:Bool):Str:=if r then "there" else "back"
def IT(e:En):D:=.tup [.tup (e.xs.map D.int),.bl e.x.isSome]
structure Hf(G:Cs)(S:List Cell)(a:Ad)(w:WW):Prop where
 ob:S[a.n]?=some (.ins G.World o_ [.ob a.nS,.ob a.nH,.ob a.nR])
 sr:Fc G S a.nS a.mS a.pS a.qS w.s
 hr:Fv G S a.nH a.gH a.eH a.bH w.h
 rd:S[a.nR]?=some (.Gu [(.inr "there",.ob a.nT),(.inr "back",.ob a.nB)])
 tt:S[a.nT]?=some (.lst (w.T.map IT))
 bb:S[a.nB]?=some (.lst (w.B.map IT))
 sh:∀i,i∈a.sf->∀j,j∈a.hf->i≠j
 sw:∀i,i∈a.sf->∀j,j∈a.wf->i≠j
 hw:∀i,i∈a.hf->∀j,j∈a.wf->i≠j
 tb:a.nT≠a.nB
structure G0(G:Cs)(a:Ad)(S:List Cell)(a':Ad)(S':List Cell)(w':WW):Prop where
 at_:Hf G S' a' w'
 fr:Fr a.fp S S'
 nn:a'.n=a.n
 ad:∀i,i∈a'.fp->i∈a.fp\/S.length<=i
section
variable{G:Cs}{S S' S1 S2:List Cell}{a a' a1 a2:Ad}{w w' w1 w2:WW}{N:Nat}
theorem qI{i p q r s:Nat}:i∈[p,q,r,s]↔i=p\/i=q\/i=r\/i=s:=by simp
theorem Hf.lt(A:Hf G S a w):∀i,i∈a.fp->i<S.length:=by
 intro i hi;simp only[Ad.fp,Ad.sf,Ad.hf,Ad.wf,List.mem_append,qI] at hi;rcases hi with ((rfl|rfl|rfl|rfl)|(rfl|rfl|rfl|rfl))|(rfl|rfl|rfl|rfl)
 ·exact bj A.sr.ob
 ·exact bj A.sr.ms
 ·exact bj A.sr.ps
 ·exact bj A.sr.nt
 ·exact bj A.hr.ob
 ·exact bj A.hr.gv
 ·exact bj A.hr.ea
 ·exact bj A.hr.be
 ·exact bj A.ob
 ·exact bj A.rd
 ·exact bj A.tt
 ·exact bj A.bb
theorem Ad.PA{a:Ad}{i:Nat}(h:i∈a.sf):i∈a.fp:=by simp only[Ad.fp,List.mem_append];exact .inl (.inl h)
theorem Ad.PB{a:Ad}{i:Nat}(h:i∈a.hf):i∈a.fp:=by simp only[Ad.fp,List.mem_append];exact .inl (.inr h)
theorem Ad.N4{a:Ad}{i:Nat}(h:i∈a.wf):i∈a.fp:=by simp only[Ad.fp,List.mem_append];exact .inr h
theorem Fc.fr{n m p q:Nat}{s:Sr}{fp:List Nat}(a:Fc G S n m p q s)(f:Fr fp S S')(h:∀i,i∈[n,m,p,q]->i∉fp):Fc G S' n m p q s:=
 ⟨f.get a.ob (h _ (by simp)),f.get a.ms (h _ (by simp)),f.get a.ps (h _ (by simp)),f.get a.nt (h _ (by simp)),a.mp⟩
theorem Hf.fr{fp:List Nat}(A:Hf G S a w)(f:Fr fp S S')(h:∀i,i∈a.fp->i∉fp):Hf G S' a w:=by
 have hs:∀i,i∈a.sf->i∉fp:=fun i hi=>h i (Ad.PA hi)
 have hh:∀i,i∈a.hf->i∉fp:=fun i hi=>h i (Ad.PB hi)
 have hw:∀i,i∈a.wf->i∉fp:=fun i hi=>h i (Ad.N4 hi)
 exact⟨f.get A.ob (hw _ (by simp[Ad.wf])),A.sr.fr f hs,A.hr.fr f (hh _ (by simp[Ad.hf])) (hh _ (by simp[Ad.hf])) (hh _ (by simp[Ad.hf])) (hh _ (by simp[Ad.hf])),f.get A.rd (hw _ (by simp[Ad.wf])),f.get A.tt (hw _ (by simp[Ad.wf])),f.get A.bb (hw _ (by simp[Ad.wf])),A.sh,A.sw,A.hw,A.tb⟩
theorem Hf.push(A:Hf G S a w)(c:List Cell):Hf G (S++c) a w:=A.fr (fp:=[]) Fr.push fun _ _ z=>nomatch z
theorem G0.refl(A:Hf G S a w):G0 G a S a S w:=⟨A,Fr.refl _ _,rfl,fun i hi=>.inl hi⟩
theorem G0.push(A:G0 G a S a' S' w')(c:List Cell):G0 G a S a' (S'++c) w':=⟨A.at_.push c,A.fr.tr Fr.push,A.nn,A.ad⟩
theorem G0.trans(A:G0 G a S a1 S1 w1)(C:G0 G a1 S1 a2 S2 w2):G0 G a S a2 S2 w2:=by
 have hl:=A.fr.1;refine⟨C.at_,A.fr.trans C.fr fun i hi hs=>?_,C.nn.trans A.nn,fun i hi=>?_⟩
 ·rcases A.ad i hi with h|h
  ·exact h
  ·omega
 ·rcases C.ad i hi with h|h
  ·exact A.ad i h
  ·exact .inr (by omega)
theorem Hf.snd(A:Hf G S a w){p' q':Nat}{s':Sr}(k:Gm G a.nS a.mS a.pS a.qS S p' q' S' s'):G0 G a S { a with pS:=p',qS:=q' } S' { w with s:=s' }:=by
 have TM:∀i,i∈a.wf->i<S.length:=fun i hi=>A.lt i (Ad.N4 hi)
 have YY:∀i,i∈a.hf->i<S.length:=fun i hi=>A.lt i (Ad.PB hi)
 have Gf:∀i,i∈[a.nS,a.mS,p',q']->i∈a.sf\/S.length<=i:=fun i hi=>by
  have h1:=k.p_;have h2:=k.q_;simp only[qI,Ad.sf] at hi ⊢;rcases hi with rfl|rfl|rfl|rfl
  ·exact .inl (.inl rfl)
  ·exact .inl (.inr (.inl rfl))
  ·rcases h1 with rfl|h1
   ·exact .inl (.inr (.inr (.inl rfl)))
   ·exact .inr h1
  ·rcases h2 with rfl|h2
   ·exact .inl (.inr (.inr (.inr rfl)))
   ·exact .inr h2
 have ow:∀j,j∈a.wf->j∉[a.nS,a.mS,a.pS,a.qS]:=fun j hj z=>A.sw j z j hj rfl
 have oh:∀j,j∈a.hf->j∉[a.nS,a.mS,a.pS,a.qS]:=fun j hj z=>A.sh j z j hj rfl
 refine⟨⟨k.fr.get A.ob (ow _ (by simp[Ad.wf])),k.at_,A.hr.fr k.fr (oh _ (by simp[Ad.hf])) (oh _ (by simp[Ad.hf])) (oh _ (by simp[Ad.hf])) (oh _ (by simp[Ad.hf])),k.fr.get A.rd (ow _ (by simp[Ad.wf])),k.fr.get A.tt (ow _ (by simp[Ad.wf])),k.fr.get A.bb (ow _ (by simp[Ad.wf])),fun i hi j hj=>?_,fun i hi j hj=>?_,A.hw,A.tb⟩,k.fr.mono (fun i hi _=>Ad.PA hi),rfl,fun i hi=>?_⟩
 ·rcases Gf i hi with h|h
  ·exact A.sh i h j hj
  ·have:=YY j hj;omega
 ·rcases Gf i hi with h|h
  ·exact A.sw i h j hj
  ·have:=TM j hj;omega
 ·simp only[Ad.fp,List.mem_append] at hi ⊢;rcases hi with (hi|hi)|hi
  ·rcases Gf i hi with h|h
   ·exact .inl (.inl (.inl h))
   ·exact .inr h
  ·exact .inl (.inl (.inr hi))
  ·exact .inl (.inr hi)
theorem Hf.WD(A:Hf G S a w){e' b':Nat}{h':Hr}(k:FQ G a.nH a.gH a.eH a.bH S e' b' S' h'):G0 G a S { a with eH:=e',bH:=b' } S' { w with h:=h' }:=by
 have TM:∀i,i∈a.wf->i<S.length:=fun i hi=>A.lt i (Ad.N4 hi)
 have YZ:∀i,i∈a.sf->i<S.length:=fun i hi=>A.lt i (Ad.PA hi)
 have Gf:∀i,i∈[a.nH,a.gH,e',b']->i∈a.hf\/S.length<=i:=fun i hi=>by
  have h1:=k.e_;have h2:=k.b_;simp only[qI,Ad.hf] at hi ⊢;rcases hi with rfl|rfl|rfl|rfl
  ·exact .inl (.inl rfl)
  ·exact .inl (.inr (.inl rfl))
  ·rcases h1 with rfl|h1
   ·exact .inl (.inr (.inr (.inl rfl)))
   ·exact .inr h1
  ·rcases h2 with rfl|h2
   ·exact .inl (.inr (.inr (.inr rfl)))
   ·exact .inr h2
 have ow:∀j,j∈a.wf->j∉[a.nH,a.gH,a.eH,a.bH]:=fun j hj z=>A.hw j z j hj rfl
 have os:∀j,j∈a.sf->j∉[a.nH,a.gH,a.eH,a.bH]:=fun j hj z=>A.sh j hj j z rfl
 refine⟨⟨k.fr.get A.ob (ow _ (by simp[Ad.wf])),A.sr.fr k.fr os,k.at_,k.fr.get A.rd (ow _ (by simp[Ad.wf])),k.fr.get A.tt (ow _ (by simp[Ad.wf])),k.fr.get A.bb (ow _ (by simp[Ad.wf])),fun i hi j hj=>?_,A.sw,fun i hi j hj=>?_,A.tb⟩,k.fr.mono (fun i hi _=>Ad.PB hi),rfl,fun i hi=>?_⟩
 ·rcases Gf j hj with h|h
  ·exact A.sh i hi j h
  ·have:=YZ i hi;omega
 ·rcases Gf i hi with h|h
  ·exact A.hw i h j hj
  ·have:=TM j hj;omega
 ·simp only[Ad.fp,List.mem_append] at hi ⊢;rcases hi with (hi|hi)|hi
  ·exact .inl (.inl (.inl hi))
  ·rcases Gf i hi with h|h
   ·exact .inl (.inl (.inr h))
   ·exact .inr h
  ·exact .inl (.inr hi)
theorem Hf.cell(A:Hf G S a w)(r:Bool):S[a.rn r]?=some (.lst ((w.road r).map IT)):=by
 cases r with
 |true=>exact A.tt
 |false=>exact A.bb
theorem Ad.Q0(a:Ad)(r:Bool):a.rn r∈a.wf:=by cases r<;>simp[Ad.rn,Ad.wf]
theorem Hf.Q2(A:Hf G S a w)(r:Bool){l:List En}(c:Ch (a.rn r) (.lst (l.map IT)) S S'):G0 G a S a S' (w.Fm r l):=by
 have hm:=a.Q0 r;have os:∀j,j∈a.sf->j∉[a.rn r]:=fun j hj z=>A.sw j hj _ hm (List.mem_singleton.mp z)
 have oh:∀j,j∈a.hf->j∉[a.rn r]:=fun j hj z=>A.hw j hj _ hm (List.mem_singleton.mp z)
 have nR:a.rn r≠a.nR:=dy (A.cell r) A.rd (by intro z;cases z);have nn:a.rn r≠a.n:=dy (A.cell r) A.ob (by intro z;cases z);refine⟨⟨?_,?_,?_,?_,?_,?_,A.sh,A.sw,A.hw,A.tb⟩,c.fr.mono (fun i hi _=>by rw[List.mem_singleton.mp hi];exact Ad.N4 hm),rfl,fun i hi=>.inl hi⟩
 ·exact c.old A.ob nn
 ·cases r<;>exact A.sr.fr c.fr os
 ·cases r<;>exact A.hr.fr c.fr (oh _ (by simp[Ad.hf])) (oh _ (by simp[Ad.hf])) (oh _ (by simp[Ad.hf])) (oh _ (by simp[Ad.hf]))
 ·exact c.old A.rd nR
 ·cases r with
  |true=>exact c.at_
  |false=>exact c.old A.tt (Ne.symm A.tb)
 ·cases r with
  |true=>exact c.old A.bb A.tb
  |false=>exact c.at_
theorem CW(A:Hf G S a w)(r:Bool):ik (.ob a.nR) (.str (bx r)) S=.ok (.ob (a.rn r)) S:=by
 unfold ik;have h:dA S a.nR=some [(.inr "there",.ob a.nT),(.inr "back",.ob a.nB)]:=by unfold dA;rw[A.rd]
 cases r with
 |true=>
  have:gO [(.inr "there",.ob a.nT),(.inr "back",.ob a.nB)] (.inr "there")=some (.ob a.nT):=by
   unfold gO;rw[List.find?_cons];simp
  simp only[gZ,h,bx,if_true,this];rfl
 |false=>
  have e:decide ((Sum.inr ("there":Str):Key)=Sum.inr ("back":Str))=false:=by decide +kernel
  have:gO [(.inr "there",.ob a.nT),(.inr "back",.ob a.nB)] (.inr "back")=some (.ob a.nB):=by
   unfold gO;rw[List.find?_cons,e];simp
  simp only[gZ,h,bx,this,Bool.false_eq_true,if_false];rfl
theorem py(A:Hf G S a w)(r:Bool)(rest:tB):g_ ik (aB G.World o_ 2 (aa 0)) (aa 1) (some (.ob a.n) :: some (.str (bx r)) :: rest) S=.ok (.ob (a.rn r)) S:=
 au (bU rfl A.ob rfl) rfl (CW A r)
theorem tF(A:Hf G S a w)(r:Bool)(k:Nat):aQ G [.ob a.n,.str (bx r),.int (k:Int)] S=.ok (.bl (decide (k<(w.road r).length))) S:=by
 show fin S (eM G [some (.ob a.n),some (.str (bx r)),some (.int (k:Int))] S)=_;unfold eM;have e1:al bq (ac (g_ ik (aB G.World o_ 2 (aa 0)) (aa 1)) ai) [some (.ob a.n),some (.str (bx r)),some (.int (k:Int))] S=.ok (.int ((w.road r).length:Int)) S:=by
  refine ax (ag (py A r _) aj) ?_;rw[gp (A.cell r),List.length_map]
 rw[aR (d:=.bl (decide (k<(w.road r).length))) (S1:=S)]
 ·rfl
 ·rw[z8,av];simp only[uJ];rw[av];show(((L6 (.int 0) (.int (k:Int))).bind O6).bind _) S=_;rw[av,av,xG,decide_eq_true (show(0:Int)<=(k:Int) by omega)];simp only[DG,if_true];rw[av,e1];simp only[oN];congr 2;rw[decide_eq_decide];omega
theorem wx(A:Hf G S a w)(r:Bool){l:Nat}{cs:List w_}(hl:S[l]?=some (.lst (cs.map l_)))(WE:l≠a.rn r)(hc:∀c,c∈cs->IM c)(hz:(w.road r).length+cs.length<=1000000) :
  ∃S',bS G [.ob a.n,.str (bx r),.ob l] S=.ok .EJ S'/\G0 G a S a S' (w.Fm r (w.road r++cs.map gd)):=by
 show ∃S',fin S (d5 G [some (.ob a.n),some (.str (bx r)),some (.ob l),none] S)=_/\_;unfold d5;have hw:Ip (aa 2) [some (.ob a.n),some (.str (bx r)),some (.ob l),none] S=.ok ⟨cs.map l_,some (l,cs.map l_)⟩ S:=by
  rw[oq,av];show lL (.ob l) S=_;simp only[lL,hl]
 obtain⟨r',S',q,x3,rfl,k,_⟩:=dR (g:=some (l,cs.map l_)) (tg:=gN 3) (b:=dI G)
  (fun i r' S'=>∃x3,r'=[some (.ob a.n),some (.str (bx r)),some (.ob l),x3]/\G0 G a S a S' (w.Fm r (w.road r++(cs.take i).map gd))/\S'[l]?=some (.lst (cs.map l_))) (cs.map l_) 0 [some (.ob a.n),some (.str (bx r)),some (.ob l),none] S
  (by
   rintro i y r' S' hy ⟨x3,rfl,k,N5⟩;rw[List.getElem?_map] at hy;cases hp:cs[i]? with
   |none=>rw[hp] at hy;cases hy
   |some c=>
    rw[hp] at hy;cases hy;rw[Nat.zero_add] at k ⊢;have OD:=(List.getElem?_eq_some_iff.mp hp).1;have EW:=hc c (List.mem_of_getElem? hp);have k':=k.at_;have Fo:=k'.cell r;rw[yq] at Fo;obtain⟨S2,e2,c2⟩:=tP (fo:=g_ ik (aB G.World o_ 2 (aa 0)) (aa 1)) (ft:=ac (cj (ac (al (jM G) (ac (aa 3) ai)) (ac (dC (.bl false)) ai))) ai) (r:=[some (.ob a.n),some (.str (bx r)),some (.ob l),some (l_ c)]) (d:=IT (gd c))
     (py k' r _) Fo (ag (bM (ag (ax (ag rfl aj) (vK EW _)) (ag rfl aj)) (by simp)) aj) (by rw[List.length_map,List.length_append,List.length_map,List.length_take];omega)
    have c3:Ch (a.rn r) (.lst ((w.road r++(cs.take (i+1)).map gd).map IT)) S' S2:=by
     have e:(w.road r++(cs.take (i+1)).map gd).map IT=(w.road r++(cs.take i).map gd).map IT++[IT (gd c)]:=by rw[List.take_add_one,hp];simp
     rw[e];exact c2
    have kk:=k.trans (k'.Q2 r c3);have Jc:(w.Fm r (w.road r++(cs.take i).map gd)).Fm r (w.road r++(cs.take (i+1)).map gd)=w.Fm r (w.road r++(cs.take (i+1)).map gd):=by cases r<;>rfl
    rw[Jc] at kk;refine⟨[some (.ob a.n),some (.str (bx r)),some (.ob l),some (l_ c)],[some (.ob a.n),some (.str (bx r)),some (.ob l),some (l_ c)],S2,rfl,?_,c3.old N5 (Ne.symm WE),some (l_ c),rfl,kk,c3.old N5 (Ne.symm WE)⟩;unfold dI;exact aZ e2)
  ⟨none,rfl,by
   have:w.Fm r (w.road r++(cs.take 0).map gd)=w:=by cases r<;>simp[WW.Fm,WW.road]
   rw[this];exact G0.refl A,hl⟩
 rw[show 0+(cs.map l_).length=cs.length by simp,List.take_length] at k;refine⟨S',?_,k⟩;rw[mh hw,q];rfl
theorem BH(A:Hf G S a w)(K:GO N w)(hN:N<20000){m:FN}(hm:m.length<=40):∃S' a',hV G [.ob a.n,EH m] S=.ok .EJ S'/\G0 G a S a' S' (w.act (.hand m)):=by
 obtain⟨S',e,k⟩:=As A.sr K.sb hN hm;refine⟨S',_,?_,A.snd k⟩;show fin S (jp G [some (.ob a.n),some (EH m)] S)=_;unfold jp;rw[aZ (ba (bU rfl A.ob rfl) A.sr.ob (ag rfl aj) e)];rfl
theorem yH(A:Hf G S a w)(K:GO N w)(hN:N<=20000):∃S' a',gc G [.ob a.n] S=.ok .EJ S'/\G0 G a S a' S' (w.act .start):=by
 obtain⟨S',p',q',e,k⟩:=zX A.sr K.sb hN;refine⟨S',_,?_,A.snd k⟩;show fin S (iJ G [some (.ob a.n)] S)=_;unfold iJ;rw[aZ (ba (bU rfl A.ob rfl) A.sr.ob aj e)];rfl
theorem Bo(A:Hf G S a w)(r:Bool):∃S' a',gW G [.ob a.n,.str (if r then "sender" else "hearer")] S=.ok .EJ S'/\G0 G a S a' S' (w.act (.Fp r)):=by
 cases r with
 |true=>
  obtain⟨S',e,k⟩:=Bg A.sr;refine⟨S',_,?_,A.snd k⟩;show fin S (eo G [some (.ob a.n),some (.str "sender")] S)=_;unfold eo;rw[aw (by rw[aT (az (au rfl rfl bg))];exact aZ (ba (bU rfl A.ob rfl) A.sr.ob aj e)),ay (az (au rfl rfl bg))];rfl
 |false=>
  obtain⟨S',e',b',e,k⟩:=Bq A.hr;refine⟨S',_,?_,A.WD k⟩;show fin S (eo G [some (.ob a.n),some (.str "hearer")] S)=_;unfold eo;rw[aw (by rw[ay (az (au rfl rfl bg))];rfl),aT (az (au rfl rfl bg)),aZ (ba (bU rfl A.ob rfl) A.hr.ob aj e)];rfl
theorem AS(A:Hf G S a w)(K:GO N w)(hN:N<=20000):∃S' a',gR G [.ob a.n] S=.ok .EJ S'/\G0 G a S a' S' (w.act .tick):=by
 have hp:=K.sb.pl;obtain⟨S1,l,e,k,hl,Gf⟩:=A4 A.sr K.w0 (by omega) (fun _=>K.bl);have k1:=A.snd k;obtain⟨t1,t2⟩:=xp K hN;have tl:=K.tl;have NC:l≠a.nT:=fun z=>by have:=bj A.tt;omega
 obtain⟨S2,e2,k2⟩:=wx k1.at_ true hl NC (fun c hc=>(t1 c hc).1) (by show w.T.length+_<=_;omega);refine⟨S2,_,?_,k1.trans k2⟩;show fin S (jn G [some (.ob a.n)] S)=_;unfold jn;rw[aZ (ba rfl A.ob (ag rfl (ag (ba (bU rfl A.ob rfl) A.sr.ob aj e) aj)) e2)];rfl
theorem yG(A:Hf G S a w)(K:GO N w)(hN:N<20000)(r:Bool){e:En}(he:MC N e):∃S' a',eQ G [.ob a.n,.str (bx r),.tup (e.xs.map D.int)] S=.ok .EJ S'/\G0 G a S a' S' (w.Gj r e):=by
 show ∃S' a',fin S (gB G [some (.ob a.n),some (.str (bx r)),some (.tup (e.xs.map D.int)),none] S)=_/\_;unfold gB;obtain⟨c,x⟩:=e;cases x with
 |some xs=>
  have O4:=Bf (G:=G) (xs:=xs) (Nat.le_trans he.2.2.1 (by decide)) (he.2.2.2 xs rfl) S;have t1:vU [G.FO] (cn (al (kA G) (ac (aa 2) ai)) (gN 3)) (cn (dC .EJ) (gN 3)) [some (.ob a.n),some (.str (bx r)),some (.tup (xs.map D.int)),none] S=some (.nx [some (.ob a.n),some (.str (bx r)),some (.tup (xs.map D.int)),some .EJ],S):=by
   have e3:cn (al (kA G) (ac (aa 2) ai)) (gN 3) [some (.ob a.n),some (.str (bx r)),some (.tup (xs.map D.int)),none] S=some (.xc G.FO [some (.ob a.n),some (.str (bx r)),some (.tup (xs.map D.int)),none],S):=by
    unfold cn;rw[tM,ax (ag rfl aj) O4]
   unfold vU;rw[e3];simp[Wn]
  have t2:∀(k:Str),de (ao (g_ mR (aa 3) (dC .EJ))) (ao (g_ EX (aa 1) (dC (.str k)))) [some (.ob a.n),some (.str (bx r)),some (.tup (xs.map D.int)),some .EJ] S=.ok false S:=fun k=>rfl
  refine⟨S,a,?_,G0.refl A⟩;show fin S (aI _ _ [some (.ob a.n),some (.str (bx r)),some (.tup (xs.map D.int)),none] S)=_;rw[aw t1,aw (by rw[ay (t2 _)];rfl),ay (t2 _)];rfl
 |none=>
  have EW:IM c:=he.1;have O4:=Av (G:=G) EW S;have t1:vU [G.FO] (cn (al (kA G) (ac (aa 2) ai)) (gN 3)) (cn (dC .EJ) (gN 3)) [some (.ob a.n),some (.str (bx r)),some (.tup ((Gn (aA c)).map D.int)),none] S=some (.nx [some (.ob a.n),some (.str (bx r)),some (.tup ((Gn (aA c)).map D.int)),some (l_ c)],S):=by
   unfold vU;rw[bw (ax (ag rfl aj) O4)];rfl
  have nn:∀T,ao (g_ mR (aa 3) (dC .EJ)) [some (.ob a.n),some (.str (bx r)),some (.tup ((Gn (aA c)).map D.int)),some (l_ c)] T=.ok true T:=fun T=>by cases c<;>rfl
  show ∃S' a',fin S (aI _ _ [some (.ob a.n),some (.str (bx r)),some (.tup ((Gn (aA c)).map D.int)),none] S)=_/\_;rw[aw t1];cases r with
  |true=>
   have y1:∀T,de (ao (g_ mR (aa 3) (dC .EJ))) (ao (g_ EX (aa 1) (dC (.str "there")))) [some (.ob a.n),some (.str (bx true)),some (.tup ((Gn (aA c)).map D.int)),some (l_ c)] T=.ok true T:=fun T=>by
    rw[cL,av,nn];exact az (au rfl rfl (show EX (.str "there") (.str "there") T=.ok (.bl true) T from bg))
   have y2:∀T,de (ao (g_ mR (aa 3) (dC .EJ))) (ao (g_ EX (aa 1) (dC (.str "back")))) [some (.ob a.n),some (.str (bx true)),some (.tup ((Gn (aA c)).map D.int)),some (l_ c)] T=.ok false T:=fun T=>by
    rw[cL,av,nn];exact az (au rfl rfl (show EX (.str "there") (.str "back") T=.ok (.bl false) T from bg))
   obtain⟨S1,e',b',l,q1,k1,o1⟩:=Ag A.hr (by rw[K.hw];exact K.w0) (by rw[K.hw];have:=K.w7;omega) K.bd hN EW.P8;have k2:=A.WD k1;obtain⟨h1,h2,h3⟩:=uW K (by omega) EW he.2.1;have ql:=K.ql;have NC:l≠a.nB:=fun z=>by have:=bj A.bb;have:=o1.new;omega
   obtain⟨S2,q2,k3⟩:=wx k2.at_ false o1.at_ NC (fun d hd=>(h1 d hd).1) (by show w.B.length+_<=_;omega);refine⟨S2,_,?_,k2.trans k3⟩;rw[aw (by rw[aT (y1 _)];exact aZ (ba rfl A.ob (ag rfl (ag (ba (bU rfl A.ob rfl) A.hr.ob (ag rfl aj) q1) aj)) q2)),ay (y2 _)];rfl
  |false=>
   have y1:∀T,de (ao (g_ mR (aa 3) (dC .EJ))) (ao (g_ EX (aa 1) (dC (.str "there")))) [some (.ob a.n),some (.str (bx false)),some (.tup ((Gn (aA c)).map D.int)),some (l_ c)] T=.ok false T:=fun T=>by
    rw[cL,av,nn];exact az (au rfl rfl (show EX (.str "back") (.str "there") T=.ok (.bl false) T from bg))
   have y2:∀T,de (ao (g_ mR (aa 3) (dC .EJ))) (ao (g_ EX (aa 1) (dC (.str "back")))) [some (.ob a.n),some (.str (bx false)),some (.tup ((Gn (aA c)).map D.int)),some (l_ c)] T=.ok true T:=fun T=>by
    rw[cL,av,nn];exact az (au rfl rfl (show EX (.str "back") (.str "back") T=.ok (.bl true) T from bg))
   obtain⟨S1,p',q',l,e1,k1,hl,Gf⟩:=zj A.sr K.sb (by omega) K.w0 EW.LL;have k2:=A.snd k1;have NC:l≠a.nT:=fun z=>by have:=bj A.tt;omega
   obtain⟨S2,q2,k3⟩:=wx (cs:=[]) k2.at_ true hl NC (fun d hd=>by simp at hd) (by have:=K.tl;show w.T.length+_<=_;simp;omega);refine⟨S2,{ a with pS:=p',qS:=q' },?_,?_⟩
   ·rw[aw (by rw[ay (y1 _)];rfl),aT (y2 _),aZ (ba rfl A.ob (ag rfl (ag (ba (bU rfl A.ob rfl) A.sr.ob (ag rfl aj) e1) aj)) q2)];rfl
   ·have k4:=k2.trans k3;have:({ w with s:=w.s.j_ c }:WW).Fm true (({ w with s:=w.s.j_ c }:WW).road true++([]:List w_).map gd)=w.Gj false ⟨c,none⟩:=by
     show({ s:=w.s.j_ c,h:=w.h,T:=w.T++[],B:=w.B }:WW)=_;rw[List.append_nil];rfl
    rw[this] at k4;exact k4
end
end Lw
namespace Lw
open PySem L2 DL
section
variable{G:Cs}{S S' S1 S2:List Cell}{a a' a1 a2:Ad}{w w' w1 w2:WW}{N:Nat}
theorem BW{n:Nat}{xs:List D}{k:Nat}{d:D}(hn:S[n]?=some (.lst xs))(hk:xs[k]?=some d):vM (.ob n) [.int (k:Int)] S=.ok d (S.set n (.lst (xs.eraseIdx k))):=by
 have Hc:=(List.getElem?_eq_some_iff.mp hk).1;unfold vM;simp only[bZ hn];rw[ci ⟨by omega,by omega⟩,Int.toNat_natCast];simp only[hk]
theorem AK(A:Hf G S a w)(K:GO N w)(hN:N<20000)(r:Bool):∃S' a',gS G [.ob a.n,.str (bx r)] S=.ok .EJ S'/\G0 G a S a' S' (w.act (.step r)):=by
 show ∃S' a',fin S (jh G [some (.ob a.n),some (.str (bx r))] S)=_/\G0 G a S a' S' (w.step r);unfold jh;have t1:bO (bh G.World o_ (aQ G) (aa 0) (ac (aa 1) (ac (dC (.int 0)) ai))) [some (.ob a.n),some (.str (bx r))] S=.ok (decide (0<(w.road r).length)) S:=by
  rw[cO,av,ba rfl A.ob (ag rfl (ag rfl aj)) (tF A r 0)];rfl
 unfold WW.step;cases hr:w.road r with
 |nil=>
  rw[hr] at t1;refine⟨S,a,?_,G0.refl A⟩;rw[ay t1];rfl
 |cons e l=>
  rw[hr,decide_eq_true (by simp)] at t1;have Fo:=A.cell r;rw[hr] at Fo;have hk:=K.rd r e (by rw[hr];exact List.mem_cons_self);have hp:=BW (k:=0) (d:=IT e) Fo rfl;have RP:((e :: l).map IT).eraseIdx 0=l.map IT:=rfl;rw[RP] at hp;have c1:Ch (a.rn r) (.lst (l.map IT)) S (S.set (a.rn r) (.lst (l.map IT))):=Ch.set Fo;have k1:=A.Q2 r c1;have K1:GO N (w.Fm r l):=by
   have h1:=K.rd r;have h2:=K.rl r;rw[hr] at h1 h2;rw[List.length_cons] at h2;exact K.Fm r (fun d hd=>h1 d (List.mem_cons_of_mem _ hd)) (by omega)
  obtain⟨S2,a2,e2,k2⟩:=yG k1.at_ K1 hN r hk;refine⟨S2,a2,?_,k1.trans k2⟩;have e1:g_ v_ (Ij vM (g_ ik (aB G.World o_ 2 (aa 0)) (aa 1)) (ac (dC (.int 0)) ai)) (dC (.int 0)) [some (.ob a.n),some (.str (bx r))] S=.ok (.tup (e.xs.map D.int)) (S.set (a.rn r) (.lst (l.map IT))):=
   au (lE (py A r _) Fo (ag rfl aj) hp) rfl (aS (i:=0) rfl)
  rw[aT t1,aZ (ba rfl A.ob (ag rfl (ag e1 aj)) e2)];rfl
theorem A5(A:Hf G S a w)(r:Bool)(k:Nat):∃S' a',gQ G [.ob a.n,.str (bx r),.int (k:Int)] S=.ok .EJ S'/\G0 G a S a' S' (w.act (.LO r k)):=by
 show ∃S' a',fin S (jd G [some (.ob a.n),some (.str (bx r)),some (.int (k:Int))] S)=_/\G0 G a S a' S' (w.Fm r ((w.road r).eraseIdx k));unfold jd;have t1:bO (bh G.World o_ (aQ G) (aa 0) (ac (aa 1) (ac (aa 2) ai))) [some (.ob a.n),some (.str (bx r)),some (.int (k:Int))] S=.ok (decide (k<(w.road r).length)) S:=by
  rw[cO,av,ba rfl A.ob (ag rfl (ag rfl aj)) (tF A r k)];rfl
 by_cases hk:k<(w.road r).length
 ·rw[decide_eq_true hk] at t1;have Fo:=A.cell r;obtain⟨e,he⟩:∃e,(w.road r)[k]?=some e:=⟨_,List.getElem?_eq_getElem hk⟩;have hp:=BW (k:=k) (d:=IT e) Fo (by rw[List.getElem?_map,he];rfl);rw[kX] at hp;have k1:=A.Q2 (l:=(w.road r).eraseIdx k) r (Ch.set Fo);refine⟨_,a,?_,k1⟩;rw[aT t1,aZ (lE (py A r _) Fo (ag rfl aj) hp)];rfl
 ·rw[decide_eq_false hk] at t1;refine⟨S,a,?_,?_⟩
  ·rw[ay t1];rfl
  ·rw[List.eraseIdx_of_length_le (by omega)];have:w.Fm r (w.road r)=w:=by cases r<;>rfl
   rw[this];exact G0.refl A
theorem mZ{α:Type}:∀(l:List α) (k:Nat) (x:α),k<=l.length->l.insertIdx k x=l.take k++x :: l.drop k
 |l,0,x,_=>by simp
 |[],k+1,x,h=>by simp at h
 |y :: l,k+1,x,h=>by
  rw[List.insertIdx_succ_cons,mZ l k x (by simpa using h)];rfl
theorem CD(A:Hf G S a w)(K:GO N w)(hN:N<=20000)(r:Bool)(k:Nat):∃S' a',eU G [.ob a.n,.str (bx r),.int (k:Int)] S=.ok .EJ S'/\G0 G a S a' S' (w.act (.dbl r k)):=by
 show ∃S' a',fin S (gz G [some (.ob a.n),some (.str (bx r)),some (.int (k:Int))] S)=_/\G0 G a S a' S' (w.Fm r (oZ (w.road r) k));unfold gz;have t1:bO (bh G.World o_ (aQ G) (aa 0) (ac (aa 1) (ac (aa 2) ai))) [some (.ob a.n),some (.str (bx r)),some (.int (k:Int))] S=.ok (decide (k<(w.road r).length)) S:=by
  rw[cO,av,ba rfl A.ob (ag rfl (ag rfl aj)) (tF A r k)];rfl
 have hl:=K.rl r;unfold oZ;by_cases hk:k<(w.road r).length
 ·rw[decide_eq_true hk] at t1;have Fo:=A.cell r;obtain⟨e,he⟩:∃e,(w.road r)[k]?=some e:=⟨_,List.getElem?_eq_getElem hk⟩;rw[he];have Q3:g_ v_ (g_ ik (aB G.World o_ 2 (aa 0)) (aa 1)) (aa 2) [some (.ob a.n),some (.str (bx r)),some (.int (k:Int))] S=.ok (IT e) S:=au (py A r _) rfl (iS Fo (by rw[List.getElem?_map,he];rfl));have HF:u6 (.ob (a.rn r)) [.int (k:Int),IT e] S=.ok .EJ (S.set (a.rn r) (.lst (((w.road r).insertIdx k e).map IT))):=by
   unfold u6;simp only[bZ Fo];rw[ci ⟨⟨by omega,by rw[List.length_map];omega⟩,by rw[List.length_map];exact Ny (show(w.road r).length<=1000000 by omega)⟩,Int.toNat_natCast,mZ _ _ _ (by omega),List.map_append,List.map_cons,List.map_take,List.map_drop]
  have k1:=A.Q2 (l:=(w.road r).insertIdx k e) r (Ch.set Fo);refine⟨_,a,?_,k1⟩;rw[aT t1,aZ (lE (py A r _) Fo (ag rfl (ag Q3 aj)) HF)];rfl
 ·rw[decide_eq_false hk] at t1;rw[List.getElem?_eq_none (by omega)];refine⟨S,a,?_,?_⟩
  ·rw[ay t1];rfl
  ·have:w.Fm r (w.road r)=w:=by cases r<;>rfl
   show G0 G a S a S (w.Fm r (w.road r));rw[this];exact G0.refl A
theorem wE{xs:List Int}(hx:0<xs.length)(hl:xs.length<=1000)(place:Nat)(G8:Int)(S:List Cell):jF [.tup (xs.map D.int),.int (place:Int),.int G8] S=.ok (.tup ((xs.set (place % xs.length) ((xs.getD (place % xs.length) 0+G8) % 256)).map D.int)) S:=by
 show cG S (lQ [some (.tup (xs.map D.int)),some (.int (place:Int)),some (.int G8),none,none] S)=_;unfold lQ;rw[aw (bw (d:=.ob S.length) (S1:=S++[.lst (xs.map D.int)]) (ax (ag rfl aj) rfl))];show cG S (aI _ _ [some (.tup (xs.map D.int)),some (.int (place:Int)),some (.int G8),some (.ob S.length),none] (S++[.lst (xs.map D.int)]))=_;obtain⟨i,hi⟩:∃i,place % xs.length=i:=⟨_,rfl⟩;have Hc:i<xs.length:=by rw[<-hi];exact Nat.mod_lt _ hx
 have e1:g_ kj (aa 1) (al bq (ac (aa 3) ai)) [some (.tup (xs.map D.int)),some (.int (place:Int)),some (.int G8),some (.ob S.length),none] (S++[.lst (xs.map D.int)])=.ok (.int (i:Int)) (S++[.lst (xs.map D.int)]):=by
  refine au rfl (ax (ag rfl aj) (gp bR)) ?_;rw[List.length_map,dc (by omega),<-hi];congr 2
 rw[aw (bw e1),hi];show cG S (aI _ _ [some (.tup (xs.map D.int)),some (.int (place:Int)),some (.int G8),some (.ob S.length),some (.int (i:Int))] (S++[.lst (xs.map D.int)]))=_;have hg:xs[i]?=some (xs.getD i 0):=by rw[List.getD_eq_getElem?_getD,List.getElem?_eq_getElem Hc];rfl
 obtain⟨v,hv⟩:∃v,(xs.getD i 0+G8) % 256=v:=⟨_,rfl⟩;have e2:g_ kj (g_ bN (g_ v_ (aa 3) (aa 4)) (aa 2)) (dC (.int 256)) [some (.tup (xs.map D.int)),some (.int (place:Int)),some (.int G8),some (.ob S.length),some (.int (i:Int))] (S++[.lst (xs.map D.int)])=.ok (.int v) (S++[.lst (xs.map D.int)]):=by
  refine au (au (au rfl rfl (iS bR (by rw[List.getElem?_map,hg];rfl))) rfl (cf _ _)) rfl ?_;rw[dc (by decide),hv]
 have Jc:∀a c:Cell,(S++[a]).set S.length c=S++[c]:=fun a c=>by rw[List.set_append_right _ _ (Nat.le_refl _)];simp
 have e3:n7 (.ob S.length) (.int (i:Int)) (.int v) (S++[.lst (xs.map D.int)])=some (S++[.lst ((xs.set i v).map D.int)]):=by
  have Q3:LX (xs.map D.int).length (i:Int)=some i:=by
   unfold LX;rw[List.length_map];simp;omega
  simp only[n7,bZ bR,Q3,Jc];rw[List.map_set]
 rw[hv,aw (tL e2 rfl rfl e3),aR (ax (ag rfl aj) (fC bR))];exact li (by unfold Gp;exact cY _ _)
theorem zM(A:Hf G S a w)(K:GO N w)(hN:N<=20000)(r:Bool)(k place:Nat)(G8:Int):∃S' a',fZ G [.ob a.n,.str (bx r),.int (k:Int),.int (place:Int),.int G8] S=.ok .EJ S'/\G0 G a S a' S' (w.act (.Jn r k place G8)):=by
 show ∃S' a',fin S (iq G [some (.ob a.n),some (.str (bx r)),some (.int (k:Int)),some (.int (place:Int)),some (.int G8)] S)=_/\G0 G a S a' S' (w.Fm r (gL (w.road r) k place G8));unfold iq;obtain⟨rr,P_⟩:∃rr:tB,[some (.ob a.n),some (.str (bx r)),some (.int (k:Int)),some (.int (place:Int)),some (.int G8)]=rr:=⟨_,rfl⟩;have t1:bO (bh G.World o_ (aQ G) (aa 0) (ac (aa 1) (ac (aa 2) ai))) rr S=.ok (decide (k<(w.road r).length)) S:=by
  rw[<-P_,cO,av,ba rfl A.ob (ag rfl (ag rfl aj)) (tF A r k)];rfl
 have same:w.Fm r (w.road r)=w:=by cases r<;>rfl
 have Fo:=A.cell r;have rd:g_ ik (aB G.World o_ 2 (aa 0)) (aa 1) rr S=.ok (.ob (a.rn r)) S:=by rw[<-P_];exact py A r _
 have v2:aa 2 rr S=.ok (.int (k:Int)) S:=by rw[<-P_];rfl
 have v3:aa 3 rr S=.ok (.int (place:Int)) S:=by rw[<-P_];rfl
 have v4:aa 4 rr S=.ok (.int G8) S:=by rw[<-P_];rfl
 rw[P_];unfold gL;by_cases hk:k<(w.road r).length
 ·rw[decide_eq_true hk] at t1;obtain⟨e,he⟩:∃e,(w.road r)[k]?=some e:=⟨_,List.getElem?_eq_getElem hk⟩;rw[he];have EW:=K.rd r e (List.mem_of_getElem? he);have ent:g_ v_ (g_ ik (aB G.World o_ 2 (aa 0)) (aa 1)) (aa 2) rr S=.ok (IT e) S:=au rd v2 (iS Fo (by rw[List.getElem?_map,he];rfl));have t2:bO (g_ v_ (g_ v_ (g_ ik (aB G.World o_ 2 (aa 0)) (aa 1)) (aa 2)) (dC (.int 1))) rr S=.ok e.x.isSome S:=by
   rw[cO,av,au ent rfl (aS (i:=1) rfl)];rfl
  have t3:ao (g_ Hm (g_ kj (aa 4) (dC (.int 256))) (dC (.int 0))) rr S=.ok (!decide (G8 % 256=0)) S:=az (au (au v4 rfl (dc (by decide))) rfl (iM _ _));have t4:de (bO (bh G.World o_ (aQ G) (aa 0) (ac (aa 1) (ac (aa 2) ai)))) (de (cV (bO (g_ v_ (g_ v_ (g_ ik (aB G.World o_ 2 (aa 0)) (aa 1)) (aa 2)) (dC (.int 1))))) (ao (g_ Hm (g_ kj (aa 4) (dC (.int 256))) (dC (.int 0))))) rr S=.ok (!e.x.isSome && !decide (G8 % 256=0)) S:=by
   rw[cL,av,t1];show de _ _ rr S=_;rw[cL,av,cN,av,t2];cases e.x.isSome with
   |true=>rfl
   |false=>exact t3
  obtain⟨c,x⟩:=e;cases x with
  |some xs=>
   refine⟨S,a,?_,?_⟩
   ·rw[ay t4];rfl
   ·have:(w.road r).set k (eD ⟨c,some xs⟩ place G8)=w.road r:=by
     show(w.road r).set k ⟨c,some xs⟩=_;obtain⟨h1,h2⟩:=List.getElem?_eq_some_iff.mp he;rw[<-h2,List.set_getElem_self]
    dsimp only;rw[this,same];exact G0.refl A
  |none=>
   by_cases hb:G8 % 256=0
   ·rw[decide_eq_true hb] at t4;refine⟨S,a,?_,?_⟩
    ·rw[ay t4];rfl
    ·have:(w.road r).set k (eD ⟨c,none⟩ place G8)=w.road r:=by
      unfold eD;dsimp only;rw[if_pos hb];obtain⟨h1,h2⟩:=List.getElem?_eq_some_iff.mp he;rw[<-h2,List.set_getElem_self]
     dsimp only;rw[this,same];exact G0.refl A
   ·rw[decide_eq_false hb] at t4;have Mz:=fJ EW.1;have Wx:0<((⟨c,none⟩:En).xs).length:=by show 0<(Gn (aA c)).length;rw[mT];omega
    have Np:eD ⟨c,none⟩ place G8=⟨c,some (((⟨c,none⟩:En).xs).set (place % ((⟨c,none⟩:En).xs).length) ((((⟨c,none⟩:En).xs).getD (place % ((⟨c,none⟩:En).xs).length) 0+G8) % 256))⟩:=by
     unfold eD;dsimp only;rw[if_neg hb]
    have Mv:=wE Wx (Nat.le_trans EW.2.2.1 (by decide)) place G8 S;have e5:cj (ac (al jF (ac (g_ v_ (g_ v_ (g_ ik (aB G.World o_ 2 (aa 0)) (aa 1)) (aa 2)) (dC (.int 0))) (ac (aa 3) (ac (aa 4) ai)))) (ac (dC (.bl true)) ai)) rr S=.ok (IT (eD ⟨c,none⟩ place G8)) S:=by
     rw[Np];exact bM (ag (ax (ag (au ent rfl (aS (i:=0) rfl)) (ag v3 (ag v4 aj))) Mv) (ag rfl aj)) (by simp)
    have e6:n7 (.ob (a.rn r)) (.int (k:Int)) (IT (eD ⟨c,none⟩ place G8)) S=some (S.set (a.rn r) (.lst (((w.road r).set k (eD ⟨c,none⟩ place G8)).map IT))):=by
     have Q3:LX ((w.road r).map IT).length (k:Int)=some k:=by
      unfold LX;rw[List.length_map];simp;omega
     simp only[n7,bZ Fo,Q3];rw[List.map_set]
    have k1:=A.Q2 (l:=(w.road r).set k (eD ⟨c,none⟩ place G8)) r (Ch.set Fo);refine⟨_,a,?_,k1⟩;rw[aT t4,tL e5 rd v2 e6];rfl
 ·rw[decide_eq_false hk] at t1;rw[List.getElem?_eq_none (by omega)];refine⟨S,a,?_,?_⟩
  ·rw[ay (by rw[cL,av,t1];rfl)];rfl
  ·dsimp only;rw[same];exact G0.refl A
end
end Lw
namespace Lw
open PySem L2 DL
def cv(ns:List Int)(k:Nat):Int:=ns.getD k 0
theorem tq{ns:List Int}{k:Nat}(S:List Cell):bL [.FP (ns.map D.int),.int k] S=.ok (.int (cv ns k)) S:=by
 unfold cv;by_cases h:k<ns.length
 ·have e1:KS (ns.map D.int) (k:Int)=some (.int (ns.getD k 0)):=tE (by simp[List.getD,h]);simp[bL,jS,bq,gw,v_,e1,h]
 ·have e1:ns.getD k 0=0:=by simp[List.getD,h]
  simp[bL,jS,bq,gw,v_,e1,h]
theorem DK{ns:List Int}(S:List Cell):bL [.FP (ns.map D.int),.int 0] S=.ok (.int (cv ns 0)) S:=tq (k:=0) S
theorem Dn{ns:List Int}(S:List Cell):bL [.FP (ns.map D.int),.int 1] S=.ok (.int (cv ns 1)) S:=tq (k:=1) S
theorem DM{ns:List Int}(S:List Cell):bL [.FP (ns.map D.int),.int 2] S=.ok (.int (cv ns 2)) S:=tq (k:=2) S
end Lw
namespace Lw
open PySem L2 DL
theorem Cg{a p m:Int}(hp:0<p)(hm:0<m)(S:List Cell):aF [.int a,.int p,.int m] S=.ok (.int (a * 48271 % p % m)) S:=by
 have h1:Mf a 48271:=.inr ⟨by decide,by decide⟩;simp[aF,og,hZ h1,dc hp,dc hm]
def mx(a:Int)(p m:Nat):Nat:=(a * 48271 % p % m).toNat
theorem lD(a:Int){p m:Nat}(hm:0<m):mx a p m<m:=by
 unfold mx;have h1:=Int.emod_nonneg (a * 48271 % p) (show(m:Int)≠0 by omega);have h2:=Int.emod_lt_of_pos (a * 48271 % p) (show(0:Int)<m by omega);omega
theorem xm(a:Int){p m:Nat}(hp:0<p)(hm:0<m)(S:List Cell):aF [.int a,.int (p:Int),.int (m:Int)] S=.ok (.int (mx a p m:Nat)) S:=by
 rw[Cg (by omega) (by omega)];unfold mx;have h1:=Int.emod_nonneg (a * 48271 % p) (show(m:Int)≠0 by omega);rw[Int.toNat_of_nonneg h1]
theorem jw{f:tB->M D}{r:tB}{S:List Cell}{a:Int}(p m:Nat)(hf:f r S=.ok (.int a) S)(hp:0<p:=by decide)(hm:0<m:=by decide):al aF (ac f (ac (dC (.int (p:Int))) (ac (dC (.int (m:Int))) ai))) r S=.ok (.int (mx a p m:Nat)) S:=
 ax (ag hf (ag rfl (ag rfl aj))) (xm a hp hm S)
end Lw
namespace Lw
open PySem L2 DL
def Ki(ns:List Int):Nat:=1+mx (cv ns 0) 9883 7
def KZ(ns:List Int):Nat:=1+mx (cv ns 1) 9871 8
theorem wL(ns:List Int):0<Ki ns:=by unfold Ki;omega
theorem Da(ns:List Int):Ki ns<=7:=by
 have:=lD (cv ns 0) (p:=9883) (m:=7) (by decide);unfold Ki;omega
theorem Bt(ns:List Int):1<=KZ ns:=by unfold KZ;omega
theorem CH(ns:List Int):KZ ns<=8:=by
 have:=lD (cv ns 1) (p:=9871) (m:=8) (by decide);unfold KZ;omega
theorem wp(ns:List Int)(S:List Cell):eN [.FP (ns.map D.int)] S=.ok (.tup [.int (Ki ns:Int),.int (KZ ns:Int)]) S:=by
 show fin S (gM [some (.FP (ns.map D.int)),none,none] S)=_;unfold gM;have w1:g_ bN (dC (.int 1)) (al aF (ac (al bL (ac (aa 0) (ac (dC (.int 0)) ai))) (ac (dC (.int 9883)) (ac (dC (.int 7)) ai)))) [some (.FP (ns.map D.int)),none,none] S=.ok (.int (Ki ns:Int)) S:=by
  refine au rfl (jw 9883 7 (ax (ag rfl (ag rfl aj)) (DK S))) ?_;rw[cf];unfold Ki;congr 2
 rw[aw (bw w1)];show fin S (aI _ _ [some (.FP (ns.map D.int)),some (.int (Ki ns:Int)),none] S)=_;have w2:g_ bN (dC (.int 1)) (al aF (ac (al bL (ac (aa 0) (ac (dC (.int 1)) ai))) (ac (dC (.int 9871)) (ac (dC (.int 8)) ai)))) [some (.FP (ns.map D.int)),some (.int (Ki ns:Int)),none] S=.ok (.int (KZ ns:Int)) S:=by
  refine au rfl (jw 9871 8 (ax (ag rfl (ag rfl aj)) (Dn S))) ?_;rw[cf];unfold KZ;congr 2
 rw[aw (bw w2),aR (bM (ag rfl (ag rfl aj)) (by simp))];rfl
theorem Ax{fe:tB->M D}{r:tB}{S S1:List Cell}{x y:D}{i j:Nat}(h:fe r S=.ok (.tup [x,y]) S1):cn fe (gT [i,j]) r S=some (.nx ((r.set i (some x)).set j (some y)),S1):=by
 unfold cn;rw[tM,h];rfl
def jz(c:Int)(L:Nat):FN:=(List.range (mx c 9973 (L+1))).map fun(k:Nat)=>((mx (c+31 * k) 9967 256:Nat):Int)
theorem sA(c:Int)(L:Nat):(jz c L).length<=L:=by
 have:=lD c (p:=9973) (m:=L+1) (by omega);unfold jz;rw[List.length_map,List.length_range];omega
theorem pj(c:Int)(L:Nat)(hL:L<=1000)(S:List Cell):cH [.int c,.int (L:Int)] S=.ok (EH (jz c L)) S:=by
 show cG S (gC [some (.int c),some (.int (L:Int)),none] S)=_;unfold gC;have m1:al aF (ac (aa 0) (ac (dC (.int 9973)) (ac (g_ bN (aa 1) (dC (.int 1))) ai))) [some (.int c),some (.int (L:Int)),none] S=.ok (.int (mx c 9973 (L+1):Nat)) S:=
  ax (ag rfl (ag rfl (ag (x:=.int ((L+1:Nat):Int)) (au rfl rfl (by rw[cf];congr 2)) aj))) (xm c (p:=9973) (m:=L+1) (by decide) (by omega) S)
 rw[aw (bw m1)];have Hc:=lD c (p:=9973) (m:=L+1) (by omega);obtain⟨z,hz⟩:∃z,mx c 9973 (L+1)=z:=⟨_,rfl⟩;have hm:jz c L=(List.range z).map fun(k:Nat)=>((mx (c+31 * k) 9967 256:Nat):Int):=by unfold jz;rw[hz]
 rw[hz] at Hc ⊢;show cG S (bK _ [some (.int c),some (.int (L:Int)),some (.int (z:Int))] S)=_;have q1:=iR (f:=sC (aa 2)) (tg:=gN 0) (ti:=lx) (fe:=al aF (ac (g_ bN (aa 1) (g_ gX (dC (.int 31)) (aa 0))) (ac (dC (.int 9967)) (ac (dC (.int 256)) ai)))) (own:=1) (caps:=[0])
  (r:=[some (.int c),some (.int (L:Int)),some (.int (z:Int))]) (S:=S) (S1:=S) (w:=⟨gP 0 1 z,none⟩) (fun _=>true) (fun x=>match x with
   |.int k=>.int (mx (c+31 * k) 9967 256:Nat)
   |_=>.EJ) (xi (by omega)) trivial (by simp[gP];omega) (by
   intro x hx;simp only[gP,List.mem_map,List.mem_range] at hx;obtain⟨k,_,rfl⟩:=hx;refine⟨_,rfl,fun _=>rfl,fun _ zs=>?_⟩;show al _ _ [some (.int (0+(k:Int) * 1)),some (.int c)] _=_;refine jw 9967 256 (au rfl (au rfl rfl (hZ (.inl ⟨by decide,by decide⟩))) (cf _ _)))
 have M4:((gP 0 1 z).filter fun _=>true).map (fun x=>match x with
   |.int k=>.int (mx (c+31 * k) 9967 256:Nat)
   |_=>.EJ)=(jz c L).map D.int:=by
  rw[List.filter_eq_self.mpr (by simp),hm];unfold gP;rw[List.map_map,List.map_map];refine List.map_congr_left fun k _=>?_
  have hk:0+(k:Int) * 1=(k:Int):=by omega
  simp only[Function.comp_def,hk]
 rw[M4] at q1;rw[aR (ax (ag q1 aj) (fC (aP rfl)))];exact li (CV _ _)
end Lw
namespace Lw
open PySem L2 DL
section
variable{G:Cs}{S S' S1 S2:List Cell}{a a' a1 a2:Ad}{w w' w1 w2:WW}{N:Nat}
theorem Bn(x y:Nat)(S:List Cell):∃S' a,ie G.World (cD G) [.int (x:Int),.int (y:Int)] S=.ok (.ob S.length) S'/\Hf G S' a (WW.new x y)/\Fr [] S S'/\a.n=S.length/\∀i,i∈a.fp->S.length<=i:=by
 obtain⟨n,hn⟩:∃n,n=S.length:=⟨_,rfl⟩;have s0:(S++[Cell.ins G.World [] []])[n]?=some (.ins G.World [] []):=aP hn;obtain⟨r,hr⟩:∃r:tB,r=[some (.ob n),some (.int (x:Int)),some (.int (y:Int))]:=⟨_,rfl⟩;have v0:∀S,aa 0 r S=.ok (.ob n) S:=fun S=>by rw[hr];rfl
 have v1:∀S,aa 1 r S=.ok (.int (x:Int)) S:=fun S=>by rw[hr];rfl
 have v2:∀S,aa 2 r S=.ok (.int (y:Int)) S:=fun S=>by rw[hr];rfl
 obtain⟨T0,RQ⟩:∃T0,S++[Cell.ins G.World [] []]=T0:=⟨_,rfl⟩;have l0:T0.length=S.length+1:=by rw[<-RQ];simp
 rw[RQ] at s0;obtain⟨U1,m,p,q,e1,k1,f1,g1,g2,g3⟩:=Bh (G:=G) x y T0;have u1:=f1.get s0 (by simp);obtain⟨T1,b1,c1⟩:=eB (f:="sender") (fo:=aa 0) (fe:=al (ie G.c_ (bW G)) (ac (aa 1) (ac (aa 2) ai))) (r:=r) (ax (ag (v1 _) (ag (v2 _) aj)) e1) (v0 _) u1;have Q4:Fc G T1 T0.length m p q (Sr.new x y):=k1.fr c1.fr fun i hi z=>by
  simp only[qI,List.mem_singleton] at hi z;omega
 have lf1:=f1.1;have lc1:=c1.len;obtain⟨U2,g,e,b,e2,k2,f2,g4,g5,g6⟩:=AF (G:=G) x T1;have u2:=f2.get c1.at_ (by simp);obtain⟨T2,b2,c2⟩:=eB (f:="hearer") (fo:=aa 0) (fe:=al (ie G.f_ (bQ G)) (ac (aa 1) ai)) (r:=r) (ax (ag (v1 _) aj) e2) (v0 _) u2;have lf2:=f2.1;have lc2:=c2.len;have hm:=bj Q4.ms;have hp:=bj Q4.ps;have hq:=bj Q4.nt;have hnS:=bj Q4.ob;have TN:Fc G T2 T0.length m p q (Sr.new x y):=(Q4.fr f2 (fun i hi z=>nomatch z)).fr c2.fr fun i hi z=>by
  simp only[qI,List.mem_singleton] at hi z;omega
 have NB:Fv G T2 T1.length g e b (Hr.new x):=k2.fr c2.fr (by simp;omega) (by simp;omega) (by simp;omega) (by simp;omega);have hg:=bj NB.gv;have he:=bj NB.ea;have hb:=bj NB.be;have hnH:=bj NB.ob;obtain⟨nR,Qa⟩:∃nR,nR=T2.length:=⟨_,rfl⟩;obtain⟨T3,LG⟩:∃T3,T2++[Cell.Gu [(.inr ("there":Str),.ob (nR+1)),(.inr ("back":Str),.ob (nR+2))]]++[.lst []]++[.lst []]=T3:=⟨_,rfl⟩;have dd:pH (iK (dC (.str "there")) (bT ai) (iK (dC (.str "back")) (bT ai) sm)) r T2=.ok (.ob nR) T3:=by
  unfold pH iK sm;simp only[av,uJ,jB];rw[bY aj (by decide)];simp only[av];rw[bY aj (by decide)];simp only[];have hd:dA (T2++[Cell.Gu []]++[.lst []]++[.lst []]) T2.length=some []:=by
   unfold dA;rw[aC (aC (aP rfl))]
  have hk:oj [(D.str "there",D.ob (T2++[Cell.Gu []]).length),(D.str "back",D.ob (T2++[Cell.Gu []]++[Cell.lst []]).length)]=some [(.inr ("there":Str),.ob (nR+1)),(.inr ("back":Str),.ob (nR+2))]:=by
   rw[Qa];simp[oj,gZ]
  rw[hd,hk];dsimp only;have e:decide ((Sum.inr ("there":Str):Key)=Sum.inr ("back":Str))=false:=by decide +kernel
  have hmg:tK [] [((.inr ("there":Str):Key),D.ob (nR+1)),(.inr ("back":Str),D.ob (nR+2))]=[(.inr ("there":Str),.ob (nR+1)),(.inr ("back":Str),.ob (nR+2))]:=by
   simp only[tK,List.foldl_cons,List.foldl_nil,qO,List.any_nil,List.any_cons,e,Bool.false_eq_true,if_false,List.nil_append,Bool.or_false];rfl
  rw[ci (by simp),hmg,<-LG,Qa];congr 1;rw[List.append_assoc,List.append_assoc,List.set_append_right _ _ (Nat.le_refl _)];simp
 have u3:T3[n]?=some (.ins G.World ["sender","hearer"] [.ob T0.length,.ob T1.length]):=by rw[<-LG];exact aC (aC (aC c2.at_))
 obtain⟨T4,b3,c3⟩:=eB (f:="roads") (fo:=aa 0) (fe:=pH (iK (dC (.str "there")) (bT ai) (iK (dC (.str "back")) (bT ai) sm))) (r:=r) dd (v0 _) u3;have l3:T3.length=nR+3:=by rw[<-LG,Qa];simp
 have lc3:=c3.len;have f3:Fr [] T2 T3:=by rw[<-LG,List.append_assoc,List.append_assoc];exact Fr.push
 have NC:n<T0.length:=by omega
 have r1:T3[nR]?=some (.Gu [(.inr ("there":Str),.ob (nR+1)),(.inr ("back":Str),.ob (nR+2))]):=by rw[<-LG];exact aC (aC (aP Qa))
 have r2:T3[nR+1]?=some (.lst []):=by rw[<-LG];exact aC (aP (by rw[Qa];simp))
 have r3:T3[nR+2]?=some (.lst []):=by rw[<-LG];exact aP (by rw[Qa];simp)
 have q1:n≠nR:=by omega
 have q2:n≠nR+1:=by omega
 have q3:n≠nR+2:=by omega
 refine⟨T4,⟨n,T0.length,m,p,q,T1.length,g,e,b,nR,nR+1,nR+2⟩,?_,⟨c3.at_,?_,?_,c3.old r1 q1,c3.old r2 q2,c3.old r3 q3,?_,?_,?_,by simp⟩,?_,hn,?_⟩
 ·unfold ie;have:cD G [.ob S.length,.int (x:Int),.int (y:Int)] (S++[.ins G.World [] []])=.ok .EJ T4:=by
   rw[RQ,<-hn];show fin T0 (dL G [some (.ob n),some (.int (x:Int)),some (.int (y:Int))] T0)=_;rw[<-hr];unfold dL;have Y0:cI G.World ["sender"] "hearer" (aa 0) (al (ie G.f_ (bQ G)) (ac (aa 1) ai)) r T1=some (.nx r,T2):=b2;rw[aw b1,aw Y0];rw[show cI G.World ["sender","hearer"] "roads" (aa 0) (pH (iK (dC (.str "there")) (bT ai) (iK (dC (.str "back")) (bT ai) sm))) r T2=some (.nx r,T4) from b3];rfl
  rw[this]
 ·exact(TN.fr f3 (fun i hi z=>nomatch z)).fr c3.fr fun i hi z=>by
   simp only[qI,List.mem_singleton] at hi z;omega
 ·exact(NB.fr f3 (by simp) (by simp) (by simp) (by simp)).fr c3.fr (by simp;omega) (by simp;omega) (by simp;omega) (by simp;omega)
 ·intro i hi j hj;simp only[Ad.sf,Ad.hf,qI] at hi hj;omega
 ·intro i hi j hj;simp only[Ad.sf,Ad.wf,qI] at hi hj;omega
 ·intro i hi j hj;simp only[Ad.hf,Ad.wf,qI] at hi hj;omega
 ·have fS:Fr [n] S T4:=(((((show Fr [n] S T0 by rw[<-RQ];exact Fr.push).tr (f1.mono fun i hi _=>nomatch hi)).tr c1.fr).tr (f2.mono fun i hi _=>nomatch hi)).tr c2.fr).tr ((f3.mono fun i hi _=>nomatch hi).tr c3.fr);exact⟨fS.1,fun i hi _=>fS.2 i hi (by simp;omega)⟩
 ·intro i hi;simp only[Ad.fp,Ad.sf,Ad.hf,Ad.wf,List.mem_append,qI] at hi;omega
inductive LA where
 |HX|hand (c:Int)|tick|step (r:Bool)|Fw (k:Nat) (r:Bool) (i:Nat) (c:Int)|Fp (r:Bool)
def Am:Nat->Str
 |0=>"lose"
 |1=>"double"
 |_=>"spoil"
def LA.kn:LA->Str
 |.HX=>"open"
 |.hand _=>"hand"
 |.tick=>"tick"
 |.step _=>"step"
 |.Fw k _ _ _=>Am k
 |.Fp _=>"fall"
def LA.d:LA->D
 |.HX=>.tup [.str "open"]
 |.hand c=>.tup [.str "hand",.int c]
 |.tick=>.tup [.str "tick"]
 |.step r=>.tup [.str "step",.str (bx r)]
 |.Fw k r i c=>.tup [.str (Am k),.str (bx r),.int (i:Int),.int c]
 |.Fp r=>.tup [.str "fall",.str (if r then "sender" else "hearer")]
def LA.act:LA->Act
 |.HX=>.start
 |.hand c=>.hand (jz c 12)
 |.tick=>.tick
 |.step r=>.step r
 |.Fw 0 r i _=>.LO r i
 |.Fw 1 r i _=>.dbl r i
 |.Fw _ r i c=>.Jn r i (mx c 9829 16) (mx c 9817 256:Nat)
 |.Fp r=>.Fp r
theorem Ap(c:Int)(L:Nat):N2 (jz c L):=fun x hx=>by
 unfold jz at hx;obtain⟨k,_,rfl⟩:=List.mem_map.mp hx;have:=lD (c+31 * k) (p:=9967) (m:=256) (by decide);omega
theorem LA.ok(t:LA):t.act.ok:=by
 cases t with
 |hand c=>exact⟨Nat.le_trans (sA c 12) (by decide),Ap c 12⟩
 |Fw k r i c=>
  match k with
  |0=>trivial
  |1=>trivial
  |_+2=>trivial
 |_=>trivial
theorem zJ(t:LA)(S:List Cell):v_ t.d (.int 0) S=.ok (.str t.kn) S:=by cases t<;>exact aS (i:=0) rfl
theorem Af(t:LA):(PyData.str t.kn).canLay0=true:=by
 cases t with
 |Fw k r i c=>
  match k with
  |0=>exact(by decide +kernel:(PyData.str "lose").canLay0=true)
  |1=>exact(by decide +kernel:(PyData.str "double").canLay0=true)
  |_+2=>exact(by decide +kernel:(PyData.str "spoil").canLay0=true)
 |HX=>exact(by decide +kernel:(PyData.str "open").canLay0=true)
 |hand c=>exact(by decide +kernel:(PyData.str "hand").canLay0=true)
 |tick=>exact(by decide +kernel:(PyData.str "tick").canLay0=true)
 |step r=>exact(by decide +kernel:(PyData.str "step").canLay0=true)
 |Fp r=>exact(by decide +kernel:(PyData.str "fall").canLay0=true)
theorem qA(t:LA)(k:Str)(hk:(PyData.str k).canLay0=true:=by decide +kernel)(r0:Option D)(S:List Cell):ao (g_ EX (g_ v_ (aa 1) (dC (.int 0))) (dC (.str k))) [r0,some t.d] S=.ok (decide (t.kn=k)) S:=
 az (au (au rfl rfl (zJ t S)) rfl (bg (Af t) hk rfl))
theorem DB(A:Hf G S a w)(K:GO N w)(hN:N<20000)(t:LA):∃S' a',lc G [.ob a.n,t.d] S=.ok .EJ S'/\G0 G a S a' S' (w.act t.act):=by
 show ∃S' a',fin S (lP G [some (.ob a.n),some t.d] S)=_/\_;unfold lP;have i1:=qA t "hand" (r0:=some (.ob a.n)) (S:=S);have i2:=qA t "tick" (r0:=some (.ob a.n)) (S:=S);have i3:=qA t "step" (r0:=some (.ob a.n)) (S:=S);have i4:=qA t "lose" (r0:=some (.ob a.n)) (S:=S);have i5:=qA t "double" (r0:=some (.ob a.n)) (S:=S);have i6:=qA t "spoil" (r0:=some (.ob a.n)) (S:=S);have i7:=qA t "fall" (r0:=some (.ob a.n)) (S:=S);have Pb:N<=20000:=by omega
 cases t with
 |hand c=>
  have hl:=sA c 12;obtain⟨S',a',e,k⟩:=BH A K hN (m:=jz c 12) (by omega);rw[show decide ((LA.hand c).kn=("hand":Str))=true from (by decide +kernel:decide (("hand":Str) = "hand")=true)] at i1;refine⟨S',a',?_,k⟩;rw[aT i1,aZ (ba rfl A.ob (ag (ax (ag (au rfl rfl (aS (i:=1) rfl)) (ag rfl aj)) (pj c 12 (by decide) S)) aj) e)];rfl
 |tick=>
  obtain⟨S',a',e,k⟩:=AS A K Pb;rw[show decide (LA.tick.kn=("hand":Str))=false by decide +kernel] at i1;rw[show decide (LA.tick.kn=("tick":Str))=true by decide +kernel] at i2;refine⟨S',a',?_,k⟩;rw[ay i1,aT i2,aZ (ba rfl A.ob aj e)];rfl
 |step r=>
  obtain⟨S',a',e,k⟩:=AK A K hN r;rw[show decide ((LA.step r).kn=("hand":Str))=false from (by decide +kernel:decide (("step":Str) = "hand")=false)] at i1;rw[show decide ((LA.step r).kn=("tick":Str))=false from (by decide +kernel:decide (("step":Str) = "tick")=false)] at i2;rw[show decide ((LA.step r).kn=("step":Str))=true from (by decide +kernel:decide (("step":Str) = "step")=true)] at i3;refine⟨S',a',?_,k⟩;rw[ay i1,ay i2,aT i3,aZ (ba rfl A.ob (ag (au rfl rfl (aS (i:=1) rfl)) aj) e)];rfl
 |Fw k r i c=>
  match k with
  |0=>
   obtain⟨S',a',e,k⟩:=A5 A r i;rw[show decide ((LA.Fw 0 r i c).kn=("hand":Str))=false from (by decide +kernel:decide (("lose":Str) = "hand")=false)] at i1;rw[show decide ((LA.Fw 0 r i c).kn=("tick":Str))=false from (by decide +kernel:decide (("lose":Str) = "tick")=false)] at i2;rw[show decide ((LA.Fw 0 r i c).kn=("step":Str))=false from (by decide +kernel:decide (("lose":Str) = "step")=false)] at i3;rw[show decide ((LA.Fw 0 r i c).kn=("lose":Str))=true from (by decide +kernel:decide (("lose":Str) = "lose")=true)] at i4;refine⟨S',a',?_,k⟩;rw[ay i1,ay i2,ay i3,aT i4,aZ (ba rfl A.ob (ag (au rfl rfl (aS (i:=1) rfl)) (ag (au rfl rfl (aS (i:=2) rfl)) aj)) e)];rfl
  |1=>
   obtain⟨S',a',e,k⟩:=CD A K Pb r i;rw[show decide ((LA.Fw 1 r i c).kn=("hand":Str))=false from (by decide +kernel:decide (("double":Str) = "hand")=false)] at i1;rw[show decide ((LA.Fw 1 r i c).kn=("tick":Str))=false from (by decide +kernel:decide (("double":Str) = "tick")=false)] at i2;rw[show decide ((LA.Fw 1 r i c).kn=("step":Str))=false from (by decide +kernel:decide (("double":Str) = "step")=false)] at i3;rw[show decide ((LA.Fw 1 r i c).kn=("lose":Str))=false from (by decide +kernel:decide (("double":Str) = "lose")=false)] at i4;rw[show decide ((LA.Fw 1 r i c).kn=("double":Str))=true from (by decide +kernel:decide (("double":Str) = "double")=true)] at i5;refine⟨S',a',?_,k⟩;rw[ay i1,ay i2,ay i3,ay i4,aT i5,aZ (ba rfl A.ob (ag (au rfl rfl (aS (i:=1) rfl)) (ag (au rfl rfl (aS (i:=2) rfl)) aj)) e)];rfl
  |j+2=>
   obtain⟨S',a',e,k⟩:=zM A K Pb r i (mx c 9829 16) (mx c 9817 256:Nat);rw[show decide ((LA.Fw (j+2) r i c).kn=("hand":Str))=false from (by decide +kernel:decide (("spoil":Str) = "hand")=false)] at i1;rw[show decide ((LA.Fw (j+2) r i c).kn=("tick":Str))=false from (by decide +kernel:decide (("spoil":Str) = "tick")=false)] at i2;rw[show decide ((LA.Fw (j+2) r i c).kn=("step":Str))=false from (by decide +kernel:decide (("spoil":Str) = "step")=false)] at i3;rw[show decide ((LA.Fw (j+2) r i c).kn=("lose":Str))=false from (by decide +kernel:decide (("spoil":Str) = "lose")=false)] at i4;rw[show decide ((LA.Fw (j+2) r i c).kn=("double":Str))=false from (by decide +kernel:decide (("spoil":Str) = "double")=false)] at i5;rw[show decide ((LA.Fw (j+2) r i c).kn=("spoil":Str))=true from (by decide +kernel:decide (("spoil":Str) = "spoil")=true)] at i6;refine⟨S',a',?_,k⟩;have x3:∀T,g_ v_ (aa 1) (dC (.int 3)) [some (.ob a.n),some (LA.Fw (j+2) r i c).d] T=.ok (.int c) T:=fun T=>au rfl rfl (aS (i:=3) rfl)
   have x1:∀T,g_ v_ (aa 1) (dC (.int 1)) [some (.ob a.n),some (LA.Fw (j+2) r i c).d] T=.ok (.str (bx r)) T:=fun T=>au rfl rfl (aS (i:=1) rfl)
   have x2:∀T,g_ v_ (aa 1) (dC (.int 2)) [some (.ob a.n),some (LA.Fw (j+2) r i c).d] T=.ok (.int (i:Int)) T:=fun T=>au rfl rfl (aS (i:=2) rfl)
   have y1:al aF (ac (g_ v_ (aa 1) (dC (.int 3))) (ac (dC (.int 9829)) (ac (dC (.int 16)) ai))) [some (.ob a.n),some (LA.Fw (j+2) r i c).d] S=.ok (.int (mx c 9829 16:Nat)) S:=jw 9829 16 (x3 _);have y2:al aF (ac (g_ v_ (aa 1) (dC (.int 3))) (ac (dC (.int 9817)) (ac (dC (.int 256)) ai))) [some (.ob a.n),some (LA.Fw (j+2) r i c).d] S=.ok (.int (mx c 9817 256:Nat)) S:=jw 9817 256 (x3 _);rw[ay i1,ay i2,ay i3,ay i4,ay i5,aT i6,aZ (ba rfl A.ob (ag (x1 _) (ag (x2 _) (ag y1 (ag y2 aj)))) e)];rfl
 |Fp r=>
  obtain⟨S',a',e,k⟩:=Bo A r;rw[show decide ((LA.Fp r).kn=("hand":Str))=false from (by decide +kernel:decide (("fall":Str) = "hand")=false)] at i1;rw[show decide ((LA.Fp r).kn=("tick":Str))=false from (by decide +kernel:decide (("fall":Str) = "tick")=false)] at i2;rw[show decide ((LA.Fp r).kn=("step":Str))=false from (by decide +kernel:decide (("fall":Str) = "step")=false)] at i3;rw[show decide ((LA.Fp r).kn=("lose":Str))=false from (by decide +kernel:decide (("fall":Str) = "lose")=false)] at i4;rw[show decide ((LA.Fp r).kn=("double":Str))=false from (by decide +kernel:decide (("fall":Str) = "double")=false)] at i5;rw[show decide ((LA.Fp r).kn=("spoil":Str))=false from (by decide +kernel:decide (("fall":Str) = "spoil")=false)] at i6;rw[show decide ((LA.Fp r).kn=("fall":Str))=true from (by decide +kernel:decide (("fall":Str) = "fall")=true)] at i7;refine⟨S',a',?_,k⟩;rw[ay i1,ay i2,ay i3,ay i4,ay i5,ay i6,aT i7,aZ (ba rfl A.ob (ag (au rfl rfl (aS (i:=1) rfl)) aj) e)];rfl
 |HX=>
  obtain⟨S',a',e,k⟩:=yH A K Pb;rw[show decide (LA.HX.kn=("hand":Str))=false by decide +kernel] at i1;rw[show decide (LA.HX.kn=("tick":Str))=false by decide +kernel] at i2;rw[show decide (LA.HX.kn=("step":Str))=false by decide +kernel] at i3;rw[show decide (LA.HX.kn=("lose":Str))=false by decide +kernel] at i4;rw[show decide (LA.HX.kn=("double":Str))=false by decide +kernel] at i5;rw[show decide (LA.HX.kn=("spoil":Str))=false by decide +kernel] at i6;rw[show decide (LA.HX.kn=("fall":Str))=false by decide +kernel] at i7;refine⟨S',a',?_,k⟩;rw[ay i1,ay i2,ay i3,ay i4,ay i5,ay i6,ay i7,aZ (ba rfl A.ob aj e)];rfl
end
end Lw
namespace Lw
open PySem L2 DL
theorem zV{xs:List D}(i k:Nat):fD xs (some (i:Int)) (some ((i:Int)+(k:Int)))=(xs.drop i).take k:=by
 unfold fD;have e:(i:Int)+(k:Int)=((i+k:Nat):Int):=by omega
 rw[e,HT.G_,HT.G_];by_cases h:i<=xs.length
 ·rw[Nat.min_eq_left h];by_cases h2:i+k<=xs.length
  ·rw[Nat.min_eq_left h2,show i+k-i=k by omega]
  ·rw[Nat.min_eq_right (by omega),List.take_of_length_le (by rw[List.length_drop];omega),List.take_of_length_le (by rw[List.length_drop];omega)]
 ·rw[Nat.min_eq_right (show xs.length<=i by omega),Nat.min_eq_right (show xs.length<=i+k by omega),List.drop_of_length_le (Nat.le_refl _),List.drop_of_length_le (by omega)];simp
theorem nQ{S:List Cell}{a b:Nat}{xs ys:List D}(h1:S[a]?=some (.lst xs))(h2:S[b]?=some (.lst ys))(hz:(xs++ys).length<=1000000):bN (.ob a) (.ob b) S=.ok (.ob S.length) (S++[.lst (xs++ys)]):=by
 simp only[bN,bZ h1,bZ h2,vi hz]
theorem xR{S:List Cell}{a:Nat}{xs:List D}{k:Nat}(h:S[a]?=some (.lst xs))(hz:xs.length * k<=1000000)(hk:k<=1000000):gX (.ob a) (.int (k:Int)) S=.ok (.ob S.length) (S++[.lst (List.replicate k xs).flatten]):=by
 unfold gX;simp only[bZ h];rw[ci ⟨⟨by omega,by omega⟩,by rw[Int.toNat_natCast];exact Nat.le_of_lt (Ny hz)⟩,Int.toNat_natCast]
end Lw
namespace Lw
open PySem L2 DL
section
variable{G:Cs}{S S' S1 S2:List Cell}{a a' a1 a2:Ad}{w w' w1 w2:WW}{N:Nat}
def j2(falls:Bool)(c:Int):List LA:=
 if mx c 9859 20<2 then [.hand c] else if mx c 9859 20<6 then [.tick] else if mx c 9859 20<14 then List.replicate (1+mx c 9851 4) (.step (decide (mx c 9857 2=0)))
 else if mx c 9859 20<17 then [.Fw (mx c 9859 20-14) (decide (mx c 9857 2=0)) (mx c 9839 6) c] else if mx c 9859 20=17/\falls=true then [.Fp (decide (mx c 9833 2=0))] else [.HX]
def je(falls:Bool)(ns:List Int):List LA:=[.HX,.hand (cv ns 2)]++((ns.drop 3).take 60).flatMap (j2 falls)
theorem zC(falls:Bool)(c:Int):(j2 falls c).length<=4:=by
 have:=lD c (p:=9851) (m:=4) (by decide);unfold j2;split
 ·simp
 ·split
  ·simp
  ·split
   ·rw[List.length_replicate];omega
   ·split
    ·simp
    ·split<;>simp
theorem nE(falls:Bool):∀l:List Int,(l.flatMap (j2 falls)).length<=4 * l.length
 |[]=>by simp
 |c :: l=>by
  have h1:=zC falls c;have h2:=nE falls l;rw[List.flatMap_cons,List.length_append,List.length_cons];omega
theorem z5(falls:Bool)(ns:List Int):(je falls ns).length<=242:=by
 have h1:=nE falls ((ns.drop 3).take 60);have h2:((ns.drop 3).take 60).length<=60:=by rw[List.length_take];omega
 unfold je;rw[List.length_append];simp only[List.length_cons,List.length_nil];omega
structure Row(S0 S:List Cell)(l:Nat)(xs:List LA):Prop where
 at_:S[l]?=some (.lst (xs.map LA.d))
 fr:Fr [] S0 S
 new:S0.length<=l
theorem uT{S0 S:List Cell}{l:Nat}{c:Cell}(f:Fr [] S0 S)(h:S0.length<=l):Fr [] S0 (S.set l c):=by
 refine⟨by rw[List.length_set];exact f.1,fun i hi _=>?_⟩;rw[List.getElem?_set_ne (by omega)];exact f.2 i hi (by simp)
theorem Row.app{S0:List Cell}{l:Nat}{xs:List LA}(R:Row S0 S l xs)(t:LA)(hz:xs.length<1000){ft:tB->M (List D)}{r:tB}(h2:aa 2 r S=.ok (.ob l) S)(h3:ft r S=.ok [t.d] S):∃S',bz (Ij j6 (aa 2) ft) r S=some (.nx r,S')/\Row S0 S' l (xs++[t])/\Fr [l] S S':=by
 have ee:=vg (n:=l) (d:=t.d) R.at_ (by rw[List.length_map];omega);refine⟨S.set l (.lst ((xs++[t]).map LA.d)),?_,⟨dz R.at_,uT R.fr R.new,R.new⟩,Fr.set (by simp)⟩;rw[aZ (lE h2 R.at_ h3 ee),List.map_append];rfl
theorem AU{ns:List Int}:fD (ns.map D.int) (some 3) (some 63)=((ns.drop 3).take 60).map D.int:=by
 have h:=zV (xs:=ns.map D.int) 3 60;rw[<-List.map_drop,<-List.map_take] at h;exact h
theorem pO{S0 S:List Cell}{l:Nat}{xs:List LA}(R:Row S0 S l xs)(c:List Cell):Row S0 (S++c) l xs:=⟨aC R.at_,R.fr.tr Fr.push,R.new⟩
theorem yw{S0:List Cell}{falls:Bool}{ns:List Int}{c:Int}{l kk:Nat}{xs:List LA}{x4 x5:Option D}{cs:List D}(R:Row S0 S l xs)(hz:xs.length<900)(hk:S[kk]?=some (.lst cs))(WG:kk≠l) :
  ∃S' l' y4 y5,eZ [some (.FP (ns.map D.int)),some (.bl falls),some (.ob l),some (.int c),x4,x5] S=some (.nx [some (.FP (ns.map D.int)),some (.bl falls),some (.ob l'),some (.int c),y4,y5],S')/\Row S0 S' l' (xs++j2 falls c)/\S'[kk]?=some (.lst cs)/\(l'=l\/S.length<=l'):=by
 unfold eZ;have t20:=lD c (p:=9859) (m:=20) (by decide);obtain⟨t,ht⟩:∃t,mx c 9859 20=t:=⟨_,rfl⟩;have m1:al aF (ac (aa 3) (ac (dC (.int 9859)) (ac (dC (.int 20)) ai))) [some (.FP (ns.map D.int)),some (.bl falls),some (.ob l),some (.int c),x4,x5] S=.ok (.int (t:Int)) S:=by
  rw[<-ht];exact jw 9859 20 rfl
 rw[aw (bw m1)];show ∃S' l' y4 y5,aI _ _ [some (.FP (ns.map D.int)),some (.bl falls),some (.ob l),some (.int c),some (.int (t:Int)),x5] S=_/\_;have t2:=lD c (p:=9857) (m:=2) (by decide);obtain⟨rd,O4⟩:∃rd,decide (mx c 9857 2=0)=rd:=⟨_,rfl⟩;obtain⟨T,hT⟩:∃T,S++[Cell.lst [.str "there",.str "back"]]=T:=⟨_,rfl⟩;have m2:g_ v_ (bT (ac (dC (.str "there")) (ac (dC (.str "back")) ai))) (al aF (ac (aa 3) (ac (dC (.int 9857)) (ac (dC (.int 2)) ai)))) [some (.FP (ns.map D.int)),some (.bl falls),some (.ob l),some (.int c),some (.int (t:Int)),x5] S=.ok (.str (bx rd)) T:=by
  rw[<-hT];have y:al aF (ac (aa 3) (ac (dC (.int 9857)) (ac (dC (.int 2)) ai))) [some (.FP (ns.map D.int)),some (.bl falls),some (.ob l),some (.int c),some (.int (t:Int)),x5] (S++[.lst [.str "there",.str "back"]])=.ok (.int (mx c 9857 2:Nat)) (S++[.lst [.str "there",.str "back"]]):=jw 9857 2 rfl;refine au (bY (ag rfl (ag rfl aj)) (by simp)) y (iS bR ?_);rw[<-O4];rcases (show mx c 9857 2=0\/mx c 9857 2=1 by omega) with h|h<;>rw[h]<;>rfl
 have R1:Row S0 T l xs:=by rw[<-hT];exact pO R _
 have RS:T[kk]?=some (.lst cs):=by rw[<-hT];exact aC hk
 have lT:T.length=S.length+1:=by rw[<-hT];simp
 rw[aw (bw m2)];show ∃S' l' y4 y5,FF _ _ _ [some (.FP (ns.map D.int)),some (.bl falls),some (.ob l),some (.int c),some (.int (t:Int)),some (.str (bx rd))] T=_/\_;obtain⟨r,hr⟩:∃r:tB,[some (.FP (ns.map D.int)),some (.bl falls),some (.ob l),some (.int c),some (.int (t:Int)),some (.str (bx rd))]=r:=⟨_,rfl⟩;have v1:∀S,aa 1 r S=.ok (.bl falls) S:=fun S=>by rw[<-hr];rfl
 have v2:∀S,aa 2 r S=.ok (.ob l) S:=fun S=>by rw[<-hr];rfl
 have v3:∀S,aa 3 r S=.ok (.int c) S:=fun S=>by rw[<-hr];rfl
 have v4:∀S,aa 4 r S=.ok (.int (t:Int)) S:=fun S=>by rw[<-hr];rfl
 have v5:∀S,aa 5 r S=.ok (.str (bx rd)) S:=fun S=>by rw[<-hr];rfl
 have lt:∀k:Nat,ao (g_ G2 (aa 4) (dC (.int (k:Int)))) r T=.ok (decide (t<k)) T:=fun k=>by
  refine az (au (v4 _) rfl ?_);rw[oN];congr 2;rw[decide_eq_decide];omega
 have RT:ao (g_ G2 (aa 4) (dC (.int 2))) r T=.ok (decide (t<2)) T:=lt 2;have RU:ao (g_ G2 (aa 4) (dC (.int 6))) r T=.ok (decide (t<6)) T:=lt 6;have N6:ao (g_ G2 (aa 4) (dC (.int 14))) r T=.ok (decide (t<14)) T:=lt 14;have N7:ao (g_ G2 (aa 4) (dC (.int 17))) r T=.ok (decide (t<17)) T:=lt 17;have TQ:ao (g_ EX (aa 4) (dC (.int 17))) r T=.ok (decide (t=17)) T:=by
  refine az (au (v4 _) rfl ?_);rw[iI];congr 2;rw[decide_eq_decide];omega
 rw[hr];have Jo:∀{b:E4}(la:LA) {ft:tB->M (List D)},b=bz (Ij j6 (aa 2) ft)->ft r T=.ok [la.d] T->j2 falls c=[la]->∃S' l' y4 y5,b r T=some (.nx [some (.FP (ns.map D.int)),some (.bl falls),some (.ob l'),some (.int c),y4,y5],S')/\Row S0 S' l' (xs++j2 falls c)/\S'[kk]?=some (.lst cs)/\(l'=l\/S.length<=l'):=by
  intro b la ft hb hf ht;obtain⟨S',e,R',f⟩:=R1.app la (by omega) (v2 _) hf;rw[ht,hb];exact⟨S',l,_,_,by rw[e,<-hr],R',f.get RS (by simpa using WG),.inl rfl⟩
 unfold j2 at *;rw[ht,O4] at *;by_cases h2:t<2
 ·rw[decide_eq_true h2] at RT;rw[aT RT];simp only[if_pos h2] at Jo ⊢;exact Jo (.hand c) rfl (ag (bM (ag rfl (ag (v3 _) aj)) (by simp)) aj) rfl
 ·rw[decide_eq_false h2] at RT;rw[ay RT];simp only[if_neg h2] at Jo ⊢;by_cases h6:t<6
  ·rw[decide_eq_true h6] at RU;rw[aT RU];simp only[if_pos h6] at Jo ⊢;exact Jo .tick rfl (ag (bM (ag rfl aj) (by simp)) aj) rfl
  ·rw[decide_eq_false h6] at RU;rw[ay RU];simp only[if_neg h6] at Jo ⊢;by_cases RV:t<14
   ·rw[decide_eq_true RV] at N6;rw[aT N6];simp only[if_pos RV];have t4:=lD c (p:=9851) (m:=4) (by decide);obtain⟨j,hj⟩:∃j,mx c 9851 4=j:=⟨_,rfl⟩;rw[hj] at t4 ⊢;obtain⟨U,hU⟩:∃U,T++[Cell.lst [LA.d (.step rd)]]++[.lst ((List.replicate (1+j) (LA.step rd)).map LA.d)]=U:=⟨_,rfl⟩;have y:∀T,g_ bN (dC (.int 1)) (al aF (ac (aa 3) (ac (dC (.int 9851)) (ac (dC (.int 4)) ai)))) r T=.ok (.int ((1+j:Nat):Int)) T:=fun T=>by
     have y0:al aF (ac (aa 3) (ac (dC (.int 9851)) (ac (dC (.int 4)) ai))) r T=.ok (.int (mx c 9851 4:Nat)) T:=jw 9851 4 (v3 _);refine au rfl y0 ?_;rw[cf,hj];congr 2
    have TR:(List.replicate (1+j) [LA.d (.step rd)]).flatten=(List.replicate (1+j) (LA.step rd)).map LA.d:=by
     rw[List.map_replicate]
     induction (1+j) with
     |zero=>rfl
     |succ k ih=>rw[List.replicate_succ,List.flatten_cons,ih,List.replicate_succ];rfl
    have mu:g_ gX (bT (ac (cj (ac (dC (.str "step")) (ac (aa 5) ai))) ai)) (g_ bN (dC (.int 1)) (al aF (ac (aa 3) (ac (dC (.int 9851)) (ac (dC (.int 4)) ai))))) r T=.ok (.ob (T.length+1)) U:=by
     refine au (bY (ag (bM (ag rfl (ag (v5 _) aj)) (by simp)) aj) (by simp)) (y _) ?_;rw[<-hU];rw[xR (aP rfl) (by simp;omega) (by omega)];have e:(List.replicate (1+j) [D.tup [D.str "step",D.str (bx rd)]]).flatten=(List.replicate (1+j) (LA.step rd)).map LA.d:=TR;rw[e];simp[LA.d]
    have Nq:U[l]?=some (.lst (xs.map LA.d)):=by rw[<-hU];exact aC (aC R1.at_)
    have TU:U[T.length+1]?=some (.lst ((List.replicate (1+j) (LA.step rd)).map LA.d)):=by rw[<-hU];exact aP (by simp)
    have ad:g_ bN (aa 2) (g_ gX (bT (ac (cj (ac (dC (.str "step")) (ac (aa 5) ai))) ai)) (g_ bN (dC (.int 1)) (al aF (ac (aa 3) (ac (dC (.int 9851)) (ac (dC (.int 4)) ai)))))) r T=.ok (.ob U.length) (U++[.lst ((xs++List.replicate (1+j) (LA.step rd)).map LA.d)]):=by
     refine au (v2 _) mu ?_;rw[List.map_append];exact nQ Nq TU (by simp;omega)
    have lU:T.length<=U.length:=by rw[<-hU];simp
    have fU:Fr [] T U:=by rw[<-hU,List.append_assoc];exact Fr.push
    have hs:=R1.fr.1;refine⟨_,U.length,some (.int (t:Int)),some (.str (bx rd)),?_,⟨bR,(R1.fr.tr fU).tr Fr.push,by omega⟩,aC (fU.get RS (by simp)),.inr (by omega)⟩;rw[bw ad,<-hr];rfl
   ·rw[decide_eq_false RV] at N6;rw[ay N6];simp only[if_neg RV] at Jo ⊢;by_cases RW:t<17
    ·rw[decide_eq_true RW] at N7;rw[aT N7];simp only[if_pos RW] at Jo ⊢;obtain⟨T2,LC⟩:∃T2,T++[Cell.lst [.str "lose",.str "double",.str "spoil"]]=T2:=⟨_,rfl⟩;have R2:Row S0 T2 l xs:=by rw[<-LC];exact pO R1 _
     have Qb:T2[kk]?=some (.lst cs):=by rw[<-LC];exact aC RS
     have sb:∀T,g_ rq (aa 4) (dC (.int 14)) r T=.ok (.int ((t-14:Nat):Int)) T:=fun T=>au (v4 _) rfl (by rw[sj];congr 2;omega)
     have kd:g_ v_ (bT (ac (dC (.str "lose")) (ac (dC (.str "double")) (ac (dC (.str "spoil")) ai)))) (g_ rq (aa 4) (dC (.int 14))) r T=.ok (.str (Am (t-14))) T2:=by
      rw[<-LC];refine au (bY (ag rfl (ag rfl (ag rfl aj))) (by simp)) (sb _) (iS bR ?_);rcases (show t-14=0\/t-14=1\/t-14=2 by omega) with h|h|h<;>rw[h]<;>rfl
     have mm:al aF (ac (aa 3) (ac (dC (.int 9839)) (ac (dC (.int 6)) ai))) r T2=.ok (.int (mx c 9839 6:Nat)) T2:=jw 9839 6 (v3 _);have ft:ac (cj (ac (g_ v_ (bT (ac (dC (.str "lose")) (ac (dC (.str "double")) (ac (dC (.str "spoil")) ai)))) (g_ rq (aa 4) (dC (.int 14)))) (ac (aa 5) (ac (al aF (ac (aa 3) (ac (dC (.int 9839)) (ac (dC (.int 6)) ai)))) (ac (aa 3) ai))))) ai r T=.ok [LA.d (.Fw (t-14) rd (mx c 9839 6) c)] T2:=
      ag (bM (ag kd (ag (v5 _) (ag mm (ag (v3 _) aj)))) (by simp)) aj
     have ee:=vg (S:=T2) (n:=l) (d:=LA.d (.Fw (t-14) rd (mx c 9839 6) c)) R2.at_ (by rw[List.length_map];omega);refine⟨T2.set l (.lst ((xs++[LA.Fw (t-14) rd (mx c 9839 6) c]).map LA.d)),l,some (.int (t:Int)),some (.str (bx rd)),?_,⟨dz R2.at_,uT R2.fr R2.new,R2.new⟩,cC Qb (Ne.symm WG),.inl rfl⟩;have:bz (Ij j6 (aa 2) (ac (cj (ac (g_ v_ (bT (ac (dC (.str "lose")) (ac (dC (.str "double")) (ac (dC (.str "spoil")) ai)))) (g_ rq (aa 4) (dC (.int 14)))) (ac (aa 5) (ac (al aF (ac (aa 3) (ac (dC (.int 9839)) (ac (dC (.int 6)) ai)))) (ac (aa 3) ai))))) ai)) r T=some (.nx r,T2.set l (.lst ((xs++[LA.Fw (t-14) rd (mx c 9839 6) c]).map LA.d))):=by
      refine aZ (d:=.EJ) ?_;rw[List.map_append];exact lE (v2 _) R1.at_ ft ee
     rw[this,<-hr]
    ·rw[decide_eq_false RW] at N7;rw[ay N7];simp only[if_neg RW] at Jo ⊢;have an:de (ao (g_ EX (aa 4) (dC (.int 17)))) (bO (aa 1)) r T=.ok (decide (t=17/\falls=true)) T:=by
      rw[cL,av,TQ];by_cases h:t=17
      ·rw[decide_eq_true h];show bO (aa 1) r T=_;rw[cO,av,v1];cases falls<;>simp[h]
      ·rw[decide_eq_false h];simp[h]
     by_cases hf:t=17/\falls=true
     ·rw[decide_eq_true hf] at an;rw[aT an];simp only[if_pos hf];have t2b:=lD c (p:=9833) (m:=2) (by decide);obtain⟨wh,WH⟩:∃wh,decide (mx c 9833 2=0)=wh:=⟨_,rfl⟩;rw[WH];obtain⟨U,hU⟩:∃U,T++[Cell.lst [.str "sender",.str "hearer"]]++[.lst [LA.d (.Fp wh)]]=U:=⟨_,rfl⟩;have y:∀T,al aF (ac (aa 3) (ac (dC (.int 9833)) (ac (dC (.int 2)) ai))) r T=.ok (.int (mx c 9833 2:Nat)) T:=fun T=>jw 9833 2 (v3 _)
      have wi:g_ v_ (bT (ac (dC (.str "sender")) (ac (dC (.str "hearer")) ai))) (al aF (ac (aa 3) (ac (dC (.int 9833)) (ac (dC (.int 2)) ai)))) r T=.ok (.str (if wh then "sender" else "hearer")) (T++[.lst [.str "sender",.str "hearer"]]):=by
       refine au (bY (ag rfl (ag rfl aj)) (by simp)) (y _) (iS bR ?_);rw[<-WH];rcases (show mx c 9833 2=0\/mx c 9833 2=1 by omega) with h|h<;>rw[h]<;>rfl
      have ls:bT (ac (cj (ac (dC (.str "fall")) (ac (g_ v_ (bT (ac (dC (.str "sender")) (ac (dC (.str "hearer")) ai))) (al aF (ac (aa 3) (ac (dC (.int 9833)) (ac (dC (.int 2)) ai))))) ai))) ai) r T=.ok (.ob (T.length+1)) U:=by
       rw[bY (ag (bM (ag rfl (ag wi aj)) (by simp)) aj) (by simp),<-hU];simp[LA.d]
      have Nq:U[l]?=some (.lst (xs.map LA.d)):=by rw[<-hU];exact aC (aC R1.at_)
      have TU:U[T.length+1]?=some (.lst [LA.d (.Fp wh)]):=by rw[<-hU];exact aP (by simp)
      have ad:g_ bN (aa 2) (bT (ac (cj (ac (dC (.str "fall")) (ac (g_ v_ (bT (ac (dC (.str "sender")) (ac (dC (.str "hearer")) ai))) (al aF (ac (aa 3) (ac (dC (.int 9833)) (ac (dC (.int 2)) ai))))) ai))) ai)) r T=.ok (.ob U.length) (U++[.lst ((xs++[LA.Fp wh]).map LA.d)]):=by
       refine au (v2 _) ls ?_;rw[List.map_append];exact nQ Nq TU (by simp;omega)
      have lU:T.length<=U.length:=by rw[<-hU];simp
      have fU:Fr [] T U:=by rw[<-hU,List.append_assoc];exact Fr.push
      have hs:=R1.fr.1;refine⟨_,U.length,some (.int (t:Int)),some (.str (bx rd)),?_,⟨bR,(R1.fr.tr fU).tr Fr.push,by omega⟩,aC (fU.get RS (by simp)),.inr (by omega)⟩;rw[bw ad,<-hr];rfl
     ·rw[decide_eq_false hf] at an;rw[ay an];simp only[if_neg hf] at Jo ⊢;exact Jo .HX rfl (ag (bM (ag rfl aj) (by simp)) aj) rfl
theorem BN(falls:Bool)(ns:List Int)(S:List Cell):∃S' l,gr [.FP (ns.map D.int),.bl falls] S=.ok (.ob l) S'/\Row S S' l (je falls ns):=by
 show ∃S' l,fin S (j9 [some (.FP (ns.map D.int)),some (.bl falls),none,none,none,none] S)=_/\_;unfold j9;have e1:bT (ac (cj (ac (dC (.str "open")) ai)) (ac (cj (ac (dC (.str "hand")) (ac (al bL (ac (aa 0) (ac (dC (.int 2)) ai))) ai))) ai)) [some (.FP (ns.map D.int)),some (.bl falls),none,none,none,none] S=.ok (.ob S.length) (S++[.lst ([LA.HX,.hand (cv ns 2)].map LA.d)]):=
  bY (ag (bM (ag rfl aj) (by simp)) (ag (bM (ag rfl (ag (ax (ag rfl (ag rfl aj)) (DM _)) aj)) (by simp)) aj)) (by simp)
 rw[aw (bw e1)];show ∃S' l,fin S (aI _ _ [some (.FP (ns.map D.int)),some (.bl falls),some (.ob S.length),none,none,none] (S++[.lst ([LA.HX,.hand (cv ns 2)].map LA.d)]))=_/\_;obtain⟨sl,OM⟩:∃sl,(ns.drop 3).take 60=sl:=⟨_,rfl⟩;have Y1:sl.length<=60:=by rw[<-OM,List.length_take];omega
 obtain⟨S1,MB⟩:∃S1,S++[Cell.lst ([LA.HX,.hand (cv ns 2)].map LA.d)]=S1:=⟨_,rfl⟩;have R0:Row S S1 S.length [LA.HX,.hand (cv ns 2)]:=by rw[<-MB];exact⟨bR,Fr.push,Nat.le_refl _⟩
 have l1:S1.length=S.length+1:=by rw[<-MB];simp
 rw[MB];have s1:Ip (Hb GD (aa 0) (bF (dC (.int 3))) (bF (dC (.int 63)))) [some (.FP (ns.map D.int)),some (.bl falls),some (.ob S.length),none,none,none] S1=.ok ⟨sl.map D.int,some (S1.length,sl.map D.int)⟩ (S1++[.lst (sl.map D.int)]):=by
  rw[oq,av];have:Hb GD (aa 0) (bF (dC (.int 3))) (bF (dC (.int 63))) [some (.FP (ns.map D.int)),some (.bl falls),some (.ob S.length),none,none,none] S1=.ok (.ob S1.length) (S1++[.lst (sl.map D.int)]):=by
   rw[<-OM,<-AU];rfl
  rw[this];simp only[lL,bR]
 obtain⟨r',S',q,l,x3,x4,x5,rfl,k,TV,WI⟩:=dR (g:=some (S1.length,sl.map D.int)) (tg:=gN 3) (b:=eZ)
  (fun i r' S'=>∃l x3 x4 x5,r'=[some (.FP (ns.map D.int)),some (.bl falls),some (.ob l),x3,x4,x5]/\Row S S' l ([LA.HX,.hand (cv ns 2)]++(sl.take i).flatMap (j2 falls))/\S'[S1.length]?=some (.lst (sl.map D.int))/\S1.length≠l) (sl.map D.int) 0 [some (.FP (ns.map D.int)),some (.bl falls),some (.ob S.length),none,none,none] (S1++[.lst (sl.map D.int)])
  (by
   rintro i y r' S' hy ⟨l,x3,x4,x5,rfl,k,TV,WI⟩;rw[List.getElem?_map] at hy;cases hp:sl[i]? with
   |none=>rw[hp] at hy;cases hy
   |some c=>
    rw[hp] at hy;cases hy;rw[Nat.zero_add] at k ⊢;have hlen:=nE falls (sl.take i);rw[List.length_take] at hlen;obtain⟨S2,l2,y4,y5,e2,k2,Qb,Nq⟩:=yw (falls:=falls) (ns:=ns) (c:=c) (x4:=x4) (x5:=x5) k (by rw[List.length_append];simp only[List.length_cons,List.length_nil];omega) TV WI;have Hc:=bj TV;refine⟨[some (.FP (ns.map D.int)),some (.bl falls),some (.ob l),some (.int c),x4,x5],_,S2,rfl,e2,Qb,l2,_,_,_,rfl,?_,Qb,by omega⟩;rw[List.take_add_one,hp,Option.toList_some,List.flatMap_append,<-List.append_assoc];simpa using k2)
  ⟨S.length,none,none,none,rfl,by simpa using pO R0 _,bR,by omega⟩
 rw[show 0+(sl.map D.int).length=sl.length by simp,List.take_length] at k;refine⟨S',l,?_,?_⟩
 ·rw[aw (by rw[mh s1];exact q),aR rfl];rfl
 ·unfold je;rw[OM];exact k
end
end Lw
namespace Lw
open PySem L2 DL
theorem zL{G:Cs}{S:List Cell}{a:Ad}{w:WW}(A:Hf G S a w):cw G [.ob a.n] S=.ok (.tup (w.h.given.map Kh)) S:=by
 show fin S (eI G [some (.ob a.n)] S)=_;unfold eI;rw[aR (ax (ag (bU (bU rfl A.ob rfl) A.hr.ob rfl) aj) (fC A.hr.gv))];rfl
end Lw
namespace Lw
open PySem L2 DL
section
variable{G:Cs}{S S' S1 S2:List Cell}{a a' a1 a2:Ad}{w w' w1 w2:WW}{N:Nat}
theorem G0.out(k:G0 G a S a' S' w'){j:Nat}{c:Cell}(hj:S[j]?=some c)(hn:j∉a.fp):S'[j]?=some c/\j∉a'.fp:=by
 refine⟨k.fr.get hj hn,fun z=>?_⟩;have:=bj hj;rcases k.ad j z with h|h
 ·exact hn h
 ·omega
end
end Lw
namespace Lw
theorem j1{l:List (Nat×Pc)}{k:Nat}{p:Pc}(h:l.lookup k=some p):(k,p)∈l:=by
 induction l with
 |nil=>simp at h
 |cons a r ih=>
  obtain⟨a1,a2⟩:=a;rw[List.lookup_cons] at h;cases e:k == a1 with
  |true=>
   rw[e] at h;simp at h;have:=beq_iff_eq.mp e;subst this h;simp
  |false=>
   rw[e] at h;exact List.mem_cons_of_mem _ (ih h)
theorem oA{l:List (Nat×Pc)}{k:Nat}(h:l.lookup k=none):k∉l.map (·.1):=by
 induction l with
 |nil=>simp
 |cons a r ih=>
  obtain⟨a1,a2⟩:=a;rw[List.lookup_cons] at h;cases e:k == a1 with
  |true=>rw[e] at h;simp at h
  |false=>
   rw[e] at h;have h1:k≠a1:=fun q=>by rw[q,beq_self_eq_true] at e;cases e
   simp only[List.map_cons,List.mem_cons,not_or];exact⟨h1,ih h⟩
structure Jp(Q:List Pc)(G:List (Nat×FN))(h:Hr):Prop where
 he:∀e,e∈h.early->Q[e.1]?=some e.2/\h.nx<=e.1
 hd:(h.early.map (·.1)).Nodup
 hb:h.begun=(Nz (Q.take h.nx)).2
 hg:h.given=G++(Nz (Q.take h.nx)).1.map fun m=>(h.op,m)
structure M7(h h':Hr):Prop where
 w:h'.w=h.w
 op:h'.op=h.op
 nx:h.nx<=h'.nx
 keys:∀k,h.nx<=k->k<h'.nx->k∈h.early.map (·.1)
 sub:∀e,e∈h'.early->e∈h.early
 Iq:∀k,k∈h.early.map (·.1)->h'.nx<=k->k∈h'.early.map (·.1)
theorem M7.refl(h:Hr):M7 h h:=⟨rfl,rfl,Nat.le_refl _,fun k a b=>by omega,fun _ q=>q,fun _ q _=>q⟩
theorem uw{l:List (Nat×Pc)}{n k:Nat}(hk:k∈l.map (·.1))(hn:k≠n):k∈(l.filter fun e=>decide (e.1≠n)).map (·.1):=by
 obtain⟨e,he,rfl⟩:=List.mem_map.mp hk;exact List.mem_map.mpr ⟨e,List.mem_filter.mpr ⟨he,decide_eq_true hn⟩,rfl⟩
theorem zZ{Q:List Pc}{G:List (Nat×FN)}{h:Hr}{p:Pc}(r:Jp Q G h)(hp:h.early.lookup h.nx=some p):Jp Q G (h.pop.take p)/\(h.pop.take p).early=h.early.filter (fun e=>decide (e.1≠h.nx))/\(h.pop.take p).nx=h.nx+1/\(h.pop.take p).w=h.w/\(h.pop.take p).op=h.op:=by
 have hq:=(r.he _ (j1 hp)).1;have ht:Q.take (h.nx+1)=Q.take h.nx++[p]:=by
  have hl:=(List.getElem?_eq_some_iff.mp hq);obtain⟨h1,h2⟩:=hl;rw[List.take_add_one,hq];rfl
 have e1:(h.pop.take p).early=h.early.filter (fun e=>decide (e.1≠h.nx)):=by unfold Hr.take Hr.pop;split<;>rfl
 have e2:(h.pop.take p).nx=h.nx+1:=by unfold Hr.take Hr.pop;split<;>rfl
 have e3:(h.pop.take p).w=h.w:=by unfold Hr.take Hr.pop;split<;>rfl
 have e4:(h.pop.take p).op=h.op:=by unfold Hr.take Hr.pop;split<;>rfl
 refine⟨⟨?_,?_,?_,?_⟩,e1,e2,e3,e4⟩
 ·intro e he;rw[e1] at he;obtain⟨a1,a2⟩:=List.mem_filter.mp he;have a3:=r.he e a1;have a4:e.1≠h.nx:=by simpa using a2
  rw[e2];exact⟨a3.1,by omega⟩
 ·rw[e1];exact r.hd.sublist ((List.filter_sublist).map _)
 ·rw[e2,ht,uK];unfold Hr.take qW;by_cases hl:p.1=1
  ·rw[if_pos hl,if_pos hl]
  ·rw[if_neg hl,if_neg hl];show h.begun++[p]=_;rw[r.hb]
 ·rw[e2,e4,ht,uK];unfold Hr.take qW;by_cases hl:p.1=1
  ·rw[if_pos hl,if_pos hl];show h.given++[(h.op,bc (h.begun++[p]))]=_;rw[r.hg,r.hb];simp
  ·rw[if_neg hl,if_neg hl];exact r.hg
theorem mH{Q:List Pc}{G:List (Nat×FN)}:∀(n:Nat) (h:Hr),h.early.length<=n->Jp Q G h->Jp Q G (Hr.ET n h)/\M7 h (Hr.ET n h)/\(Hr.ET n h).nx∉(Hr.ET n h).early.map (·.1)
 |0,h,hl,r=>by
  have:h.early=[]:=List.length_eq_zero_iff.mp (by omega);exact⟨r,M7.refl h,by unfold Hr.ET;rw[this];simp⟩
 |n+1,h,hl,r=>by
  unfold Hr.ET;cases e:h.early.lookup h.nx with
  |none=>exact⟨r,M7.refl h,oA e⟩
  |some p=>
   dsimp only;obtain⟨r',e1,e2,e3,e4⟩:=zZ r e;have hm:=j1 e;have Hc:(h.pop.take p).early.length<=n:=by
    rw[e1];have:(h.early.filter fun e=>decide (e.1≠h.nx)).length<h.early.length:=List.length_filter_lt_length_iff_exists.mpr ⟨_,hm,by simp⟩;omega
   obtain⟨a,b,c⟩:=mH n _ Hc r';refine⟨a,⟨b.w.trans e3,b.op.trans e4,by have:=b.nx;omega,?_,?_,?_⟩,c⟩
   ·intro k h1 h2;by_cases hk:k=h.nx
    ·rw[hk];exact List.mem_map.mpr ⟨_,hm,rfl⟩
    ·have:=b.keys k (by omega) h2;rw[e1] at this;obtain⟨q,hq,rfl⟩:=List.mem_map.mp this;exact List.mem_map.mpr ⟨q,(List.mem_filter.mp hq).1,rfl⟩
   ·intro q hq;have:=b.sub q hq;rw[e1] at this;exact(List.mem_filter.mp this).1
   ·intro k hk hn;have hb:=b.nx;exact b.Iq k (by rw[e1];exact uw hk (by omega)) hn
theorem vt{α:Type}{l:List α}{a:α}(h:l.Nodup)(ha:a∉l):(l++[a]).Nodup:=by
 rw[List.nodup_append];refine⟨h,by simp,fun x hx y hy=>?_⟩;simp at hy;subst hy;exact fun e=>ha (e ▸ hx)
theorem yu{Q:List Pc}{G:List (Nat×FN)}{h:Hr}{i:Nat}{p:Pc}(hw:0<h.w)(r:Jp Q G h)(h1:(h.nx:Int)-h.w<=i)(h2:i<h.nx+h.w)(hp:Q[i]?=some p) :
  Jp Q G (h.keep (i % (2 * h.w)) p)/\(h.keep (i % (2 * h.w)) p).w=h.w/\(h.keep (i % (2 * h.w)) p).op=h.op/\(h.keep (i % (2 * h.w)) p).nx=h.nx/\(∀e,e∈(h.keep (i % (2 * h.w)) p).early->e∈h.early\/e=(i,p))/\(∀e,e∈h.early->e∈(h.keep (i % (2 * h.w)) p).early)/\
   (h.nx<=i->i∈(h.keep (i % (2 * h.w)) p).early.map (·.1)):=by
 have hi:h.idx (i % (2 * h.w))=(i:Int):=by
  unfold Hr.idx;have:((i % (2 * h.w):Nat):Int)=(i:Int) % (2 * (h.w:Int)):=by push_cast;rfl
  rw[this];exact uM hw h1 (by omega)
 have Hc:i % (2 * h.w)<2 * h.w:=Nat.mod_lt _ (by omega);unfold Hr.keep;rw[hi];simp only[Int.toNat_natCast];by_cases hc:i % (2 * h.w)<2 * h.w/\(h.nx:Int)<=i/\h.early.lookup i=none
 ·rw[if_pos hc];obtain⟨_,c2,c3⟩:=hc;refine⟨⟨?_,?_,r.hb,r.hg⟩,rfl,rfl,rfl,?_,?_,?_⟩
  ·intro e he;rcases List.mem_append.mp he with he|he
   ·exact r.he e he
   ·have:=List.mem_singleton.mp he;subst this;exact⟨hp,by show h.nx<=i;omega⟩
  ·show(h.early++[(i,p)]).map (·.1) |>.Nodup;rw[List.map_append];exact vt r.hd (oA c3)
  ·intro e he;rcases List.mem_append.mp he with he|he
   ·exact .inl he
   ·exact .inr (List.mem_singleton.mp he)
  ·exact fun e he=>List.mem_append_left _ he
  ·intro _;show i∈(h.early++[(i,p)]).map (·.1);rw[List.map_append];exact List.mem_append_right _ (by simp)
 ·rw[if_neg hc];refine⟨r,rfl,rfl,rfl,fun e he=>.inl he,fun e he=>he,fun hn=>?_⟩;have:h.early.lookup i≠none:=fun q=>hc ⟨Hc,by omega,q⟩
  cases e:h.early.lookup i with
  |none=>exact absurd e this
  |some q=>exact List.mem_map.mpr ⟨_,j1 e,rfl⟩
end Lw
namespace Lw
def Cw.stepT(c:Cw):Cw:=match c.T with
 |[]=>c
 |a :: r=>{ c with h:=(c.h.j_ a).1,T:=r,B:=c.B++(c.h.j_ a).2 }
def Cw.FT(c:Cw):Cw:=match c.B with
 |[]=>c
 |a :: r=>{ c with s:=c.s.j_ a,B:=r }
section
variable{x:Sys}
theorem pM(b:Pz x){c:BC}(hb:1<=c.op/\c.op<=x.s.op)(hc:∀j bs,c≠.note x.s.op j bs):Pz (x.setB (x.B++[c])):=by
 have hm:∀j bs,BC.note x.s.op j bs∈x.B++[c]->BC.note x.s.op j bs∈x.B:=fun j bs h=>by
  rcases List.mem_append.mp h with h|h
  ·exact h
  ·exact absurd (List.mem_singleton.mp h).symm (hc j bs)
 refine⟨fun a ha=>?_,fun j bs h=>b.bn j bs (hm j bs h),?_,fun q=>⟨(b.m1 q).1,fun j bs k h=>(b.m1 q).2 j bs k (hm j bs h)⟩,fun k hk=>⟨(b.m2 k hk).1,fun j bs h=>(b.m2 k hk).2 j bs (hm j bs h)⟩,fun j bs h=>b.m4 j bs (hm j bs h),
  fun q j bs h=>b.nh q j bs (hm j bs h),b.nd⟩
 ·rcases List.mem_append.mp ha with ha|ha
  ·exact b.bb a ha
  ·rw[List.mem_singleton.mp ha];exact hb
 ·refine dh b.bp (by simp) fun a _ a' Ml j bs j' JN _ e2=>?_
  rw[List.mem_singleton.mp Ml] at e2;exact absurd e2 (hc j' JN)
theorem p0{y:Sys}{s:Sr}{h:Hr}{T B:List w_}(h1:y.s=s)(h2:y.h=h)(h3:y.T.map y.cT=T)(h4:y.B.map y.cB=B):y.con=⟨s,h,T,B⟩:=by
 unfold Sys.con;rw[h1,h2,h3,h4]
theorem Ac(v:Iv x){o:Nat}{r:List TC}(hT:x.T=.x_ o :: r):∃y:Sys,Iv y/\y.con=x.con.stepT/\y.s=x.s/\y.st=x.st:=by
 obtain⟨c,t,b⟩:=v;have HF:TC.x_ o∈x.T:=by rw[hT];simp
 obtain⟨PC,Mg⟩:=t.bd _ HF;have N8:(TC.x_ o).rank=2 * o:=rfl;have KY:(TC.x_ o).op=o:=rfl;rw[N8] at Mg;rw[KY] at PC;have QS:=t.rh _ HF;rw[N8] at QS;have so:=t.so;have r6:=t.r6;rw[hT] at so r6;obtain⟨TX,Q5⟩:=List.pairwise_cons.mp so;obtain⟨_,Q6⟩:=List.pairwise_cons.mp r6;have hm:∀cc,cc∈r->cc∈x.T:=fun cc h=>by rw[hT];exact List.mem_cons_of_mem _ h
 have Q7:o<=x.s.op:=by omega
 have t1:=o5 t hm Q5 Q6;have c1:=uh c r;have b1:=tV b r fun h=>.inl (hm _ h)
 have Lf:x.con.stepT=⟨x.s,(x.h.j_ (.x_ o)).1,r.map x.cT,x.B.map x.cB++(x.h.j_ (.x_ o)).2⟩:=by
  unfold Sys.con Cw.stepT;rw[hT];rfl
 have WJ:∀q,o<=q->x.tk q=0:=fun q hq=>by
  cases e:x.tk q with
  |zero=>rfl
  |succ n=>
   have:=t.rt q (by omega) _ HF;rw[N8] at this;omega
 by_cases he:x.h.op=o
 ·refine⟨(x.HG r).setB ((x.HG r).B++[.s_ o]),⟨rR c1 _,sg t1 _,pM (c:=.s_ o) b1 ⟨PC,Q7⟩ (fun _ _ q=>by cases q)⟩,?_,rfl,rfl⟩;rw[Lf];have e1:x.h.j_ (.x_ o)=(x.h,[.s_ o]):=by simp[Hr.j_,he]
  rw[e1];refine p0 rfl rfl rfl ?_;show(x.B++[BC.s_ o]).map x.cB=_;rw[List.map_append];rfl
 ·have Hc:x.h.op<o:=by omega
  have e1:x.h.j_ (.x_ o)=(x.h.begin_ o,[.s_ o]):=by
   simp only[Hr.j_];rw[if_neg (by omega),if_pos Hc]
  refine⟨{ x with h:=x.h.begin_ o,T:=r,B:=x.B++[.s_ o] },⟨?_,?_,?_⟩,?_,rfl,rfl⟩
  ·refine⟨c.w0,c.ww,c.ps,fun q=>⟨(c.LN q).1,(c.LN q).2.1,(c.LN q).2.2.1,fun _=>rfl⟩,c.su,c.sl,c.ch,c.s0,c.bt,c.tw,c.tl,c.tz,c.t0,Q7,fun _=>rfl,(WJ o (Nat.le_refl _)).symm,fun _ q hq=>WJ q (Nat.le_of_lt hq),?_,List.nodup_nil,rfl,c.hg,?_,c.n0⟩
   ·intro e q;have:e∈([]:List (Nat×Pc)):=q;simp at this
   ·intro _ e q;have:e∈([]:List (Nat×Pc)):=q;simp at this
  ·refine⟨Q5,t1.bd,t1.bo,t1.rt,?_,fun q=>absurd rfl q,t1.r2,t1.r3,?_,Q6,t1.r7⟩
   ·intro cc h;have:=TX cc h;rw[N8] at this;exact this
   ·intro i h;have:=t.r3 o i HF (hm _ h);refine⟨?_,Nat.zero_le _,fun e q=>?_⟩
    ·show i<0+x.s.w;omega
    ·have:e∈([]:List (Nat×Pc)):=q;simp at this
  ·have b2:=pM b1 (c:=.s_ o) ⟨PC,Q7⟩ (fun _ _ q=>by cases q);refine⟨b2.bb,b2.bn,b2.bp,fun q=>?_,b2.m2,b2.m4,b2.nh,b2.nd⟩;have q':o=x.s.op:=q;have Q8:TC.x_ x.s.op∈x.T:=q' ▸ HF;refine⟨fun k hk=>?_,fun j bs k hj _=>?_⟩
   ·have hk':k∈x.s.D_:=hk;rw[b.nd Q8] at hk';simp at hk'
   ·rcases List.mem_append.mp hj with hj|hj
    ·exact absurd hj (b.nh (.inl Q8) j bs)
    ·simp at hj
  ·rw[Lf,e1];refine p0 rfl rfl rfl ?_;show(x.B++[BC.s_ o]).map x.cB=_;rw[List.map_append];rfl
theorem uF(c:M6 x)(h:x.h.op≠0):x.h.given=(List.range x.h.op).flatMap x.run++x.run x.h.op:=by
 rw[c.hg];have e:x.s.op+1=x.h.op+1+(x.s.op-x.h.op):=by have:=c.ho;omega
 rw[e,List.range_add,List.flatMap_append,List.range_succ,List.flatMap_append];have z:((List.range (x.s.op-x.h.op)).map (x.h.op+1+·)).flatMap x.run=[]:=by
  rw[List.flatMap_eq_nil_iff];intro o ho;obtain⟨k,_,rfl⟩:=List.mem_map.mp ho;unfold Sys.run;rw[c.hl h _ (by omega)];simp[E7]
 rw[z];simp
theorem Bc(v:Iv x){o i:Nat}{r:List TC}(hT:x.T=.data o i :: r):∃y:Sys,Iv y/\y.con=x.con.stepT/\y.s=x.s/\y.st=x.st:=by
 obtain⟨c,t,b⟩:=v;have HF:TC.data o i∈x.T:=by rw[hT];simp
 obtain⟨PC,Mg⟩:=t.bd _ HF;have N8:(TC.data o i).rank=2 * o+1:=rfl;have KY:(TC.data o i).op=o:=rfl;rw[N8] at Mg;rw[KY] at PC;have QS:=t.rh _ HF;rw[N8] at QS;have so:=t.so;have r6:=t.r6;rw[hT] at so r6;obtain⟨TX,Q5⟩:=List.pairwise_cons.mp so;obtain⟨Y2,Q6⟩:=List.pairwise_cons.mp r6;have hm:∀cc,cc∈r->cc∈x.T:=fun cc h=>by rw[hT];exact List.mem_cons_of_mem _ h
 have Q7:o<=x.s.op:=by omega
 have t1:=o5 t hm Q5 Q6;have c1:=uh c r;have b1:=tV b r fun h=>.inl (hm _ h)
 have RX:∀cc,cc∈r->2 * o+1<=cc.rank:=fun cc h=>by have:=TX cc h;rw[N8] at this;exact this
 have hP:=t.r2 o i HF;obtain⟨p,hp⟩:∃p,(x.P o)[i]?=some p:=⟨(x.P o)[i],by simp[hP]⟩;have Wc:x.cT (.data o i)=.data o (i % (2 * x.s.w)) p:=by
  show w_.data o (i % (2 * x.s.w)) ((x.P o).getD i (0,[]))=_;simp[List.getD,hp]
 have Lf:x.con.stepT=⟨x.s,(x.h.j_ (.data o (i % (2 * x.s.w)) p)).1,r.map x.cT,x.B.map x.cB++(x.h.j_ (.data o (i % (2 * x.s.w)) p)).2⟩:=by
  unfold Sys.con Cw.stepT;rw[hT,List.map_cons,Wc]
 by_cases he:x.h.op=o
 rotate_left
 ·have Hc:x.h.op<o:=by omega
  refine⟨(x.HG r).setB ((x.HG r).B++[.Gk o]),⟨rR c1 _,sg t1 _,pM (c:=.Gk o) b1 ⟨PC,Q7⟩ (fun _ _ q=>by cases q)⟩,?_,rfl,rfl⟩;rw[Lf];have e1:x.h.j_ (.data o (i % (2 * x.s.w)) p)=(x.h,[.Gk o]):=by
   simp only[Hr.j_];rw[if_neg (by omega),if_pos Hc]
  rw[e1];refine p0 rfl rfl rfl ?_;show(x.B++[BC.Gk o]).map x.cB=_;rw[List.map_append];rfl
 ·subst he;have h0:x.h.op≠0:=by omega
  obtain⟨q1,q2,q3⟩:=t.r4 i HF;have hw:=c.ww;have NC:x.h.nx<=(x.P x.h.op).length:=by rw[c.hn];exact c.tl _
  have row:Jp (x.P x.h.op) ((List.range x.h.op).flatMap x.run) x.h:=by
   refine⟨fun e h=>⟨(c.he e h).1,Nat.le_of_lt (c.he e h).2⟩,c.hd,c.hb,?_⟩;rw[uF c h0];congr 1;unfold Sys.run;rw[c.hn,show x.P x.h.op=fl x.s.most (x.s.msgs.drop (x.st x.h.op)) from rfl,ug]
  obtain⟨k1,k2,k3,k4,k5,k6,k7⟩:=yu (h:=x.h) (i:=i) (p:=p) (by rw[hw];exact c.w0) row (by omega) (by omega) hp;rw[hw] at k1 k2 k3 k4 k5 k6 k7;obtain⟨a1,a2,a3⟩:=mH _ _ (Nat.le_refl _) k1;have e1:x.h.j_ (.data x.h.op (i % (2 * x.s.w)) p)=(x.h.data (i % (2 * x.s.w)) p,[(x.h.data (i % (2 * x.s.w)) p).note]):=by
   simp only[Hr.j_];rw[if_neg (Nat.lt_irrefl _),if_neg (Nat.lt_irrefl _)]
  have TY:x.h.data (i % (2 * x.s.w)) p=Hr.ET (x.h.keep (i % (2 * x.s.w)) p).early.length (x.h.keep (i % (2 * x.s.w)) p):=rfl;rw[<-TY] at a1 a2 a3;obtain⟨h',hh⟩:∃h',x.h.data (i % (2 * x.s.w)) p=h':=⟨_,rfl⟩;rw[hh] at a1 a2 a3 e1;have w':h'.w=x.s.w:=a2.w.trans k2;have KW:h'.op=x.h.op:=a2.op.trans k3;have WK:x.h.nx<=h'.nx:=by have:=a2.nx;rw[k4] at this;exact this
  have WL:∀e,e∈h'.early->e∈x.h.early\/e=(i,p):=fun e q=>k5 e (a2.sub e q)
  have key:∀k,k∈x.h.early.map (·.1)->h'.nx<=k->k∈h'.early.map (·.1):=fun k q hk=>by
   obtain⟨e,he,rfl⟩:=List.mem_map.mp q;exact a2.Iq _ (List.mem_map.mpr ⟨e,k6 e he,rfl⟩) hk
  have gap:∀k,x.h.nx<=k->k<h'.nx->k=i\/k∈x.h.early.map (·.1):=fun k h1 h2=>by
   have:=a2.keys k (by rw[k4];exact h1) h2;obtain⟨e,he,rfl⟩:=List.mem_map.mp this;rcases k5 e he with q|q
   ·exact .inr (List.mem_map.mpr ⟨e,q,rfl⟩)
   ·rw[q];exact .inl rfl
  have bound:∀M,(∀e,e∈x.h.early->e.1<M)->i<M->x.h.nx<=M->h'.nx<=M:=fun M m1 m2 m3=>by
   apply Nat.le_of_not_lt;intro Hc;rcases gap M m3 Hc with q|q
   ·omega
   ·obtain⟨e,he,q⟩:=List.mem_map.mp q;have:=m1 e he;omega
  have pl:h'.nx<=(x.P x.h.op).length:=bound _ (fun e he=>(List.getElem?_eq_some_iff.mp (c.he e he).1).1) hP NC;have strict:∀e,e∈h'.early->(x.P x.h.op)[e.1]?=some e.2/\h'.nx<e.1:=fun e q=>by
   obtain⟨z1,z2⟩:=a1.he e q;have:e.1≠h'.nx:=fun z=>a3 (z ▸ List.mem_map.mpr ⟨e,q,rfl⟩)
   exact⟨z1,by omega⟩
  have M8:x.s.st=.opening->x.h.op≠x.s.op:=fun q z=>by
   have:=t.bo q _ HF;rw[N8] at this;omega
  obtain⟨y,hy⟩:∃y:Sys,y = { x with h:=h',T:=r,B:=x.B++[.note x.h.op h'.nx h'.bits],tk:=fun q=>if q=x.h.op then h'.nx else x.tk q }:=⟨_,rfl⟩;have ys:y.s=x.s:=by rw[hy]
  have yh:y.h=h':=by rw[hy]
  have yT:y.T=r:=by rw[hy]
  have yB:y.B=x.B++[.note x.h.op h'.nx h'.bits]:=by rw[hy]
  have Lg:y.st=x.st:=by rw[hy]
  have Ju:∀q,q≠x.h.op->y.tk q=x.tk q:=fun q hq=>by rw[hy];exact if_neg hq
  have LP:y.tk x.h.op=h'.nx:=by rw[hy];exact if_pos rfl
  have yP:∀q,y.P q=x.P q:=fun q=>by unfold Sys.P;rw[ys,Lg]
  have N9:∀q,q≠x.h.op->y.run q=x.run q:=fun q hq=>by unfold Sys.run;rw[ys,Lg,yP,Ju q hq]
  have TZ:∀q,x.en q<=y.en q:=fun q=>by
   unfold Sys.en;rw[Lg,yP];by_cases hq:q=x.h.op
   ·rw[hq,LP];have:=qz (x.P x.h.op) WK;rw[c.hn] at this;omega
   ·rw[Ju q hq];exact Nat.le_refl _
  have WM:x.tk x.s.op<=y.tk x.s.op:=by
   by_cases hq:x.s.op=x.h.op
   ·rw[hq,LP,<-c.hn];exact WK
   ·rw[Ju _ hq];exact Nat.le_refl _
  refine⟨y,⟨?_,?_,?_⟩,?_,ys,Lg⟩
  ·refine⟨by rw[ys];exact c.w0,by rw[yh,ys];exact w',by rw[ys];intro q;rw[yP];exact c.ps q,?_,by rw[ys,Lg,yP];exact c.su,by rw[ys,Lg];exact c.sl,?_,by rw[Lg];exact c.s0,?_,?_,?_,?_,?_,by rw[yh,ys,KW];exact c.ho,?_,?_,?_,?_,?_,?_,?_,?_,by rw[ys];exact c.n0⟩
   ·rw[ys,yh,KW];intro q;refine⟨(c.LN q).1,(c.LN q).2.1,?_,fun z=>absurd z (M8 q)⟩;rw[Ju _ (fun z=>M8 q z.symm)];exact(c.LN q).2.2.1
   ·rw[ys,Lg];intro q h1 h2;obtain⟨q',h3,h4⟩:=c.ch q h1 h2;exact⟨q',h3,Nat.le_trans h4 (TZ q')⟩
   ·rw[ys];exact Nat.le_trans c.bt WM
   ·rw[ys];by_cases hq:x.s.op=x.h.op
    ·rw[hq,LP];refine bound _ (fun e he=>c.ek hq.symm e he) (t.r7 i (hq ▸ HF)) ?_;rw[c.hn,<-hq];exact c.tw
    ·rw[Ju _ hq];exact c.tw
   ·intro q;rw[yP];by_cases hq:q=x.h.op
    ·rw[hq,LP];exact pl
    ·rw[Ju q hq];exact c.tl q
   ·rw[ys];intro q hq;rw[Ju q (by have:=c.ho;omega)];exact c.tz q hq
   ·rw[Ju 0 (fun z=>h0 z.symm)];exact c.t0
   ·rw[yh,KW];exact fun z=>absurd z h0
   ·rw[yh,KW,LP]
   ·rw[yh,KW];intro _ q hq;rw[Ju q (by omega)];exact c.hl h0 q hq
   ·rw[yh,KW];intro e q;rw[yP];exact strict e q
   ·rw[yh];exact a1.hd
   ·rw[yh,KW,yP];exact a1.hb
   ·rw[yh,ys];have e3:x.s.op+1=x.h.op+1+(x.s.op-x.h.op):=by have:=c.ho;omega
    rw[e3,List.range_add,List.flatMap_append,List.range_succ,List.flatMap_append,a1.hg];have z:((List.range (x.s.op-x.h.op)).map (x.h.op+1+·)).flatMap y.run=[]:=by
     rw[List.flatMap_eq_nil_iff];intro o ho;obtain⟨k,_,rfl⟩:=List.mem_map.mp ho;rw[N9 _ (by omega)];unfold Sys.run;rw[c.hl h0 _ (by omega)];simp[E7]
    rw[z,List.append_nil,List.flatMap_cons,List.flatMap_nil,List.append_nil];congr 1
    ·exact iw fun q hq=>(N9 q (by have:=List.mem_range.mp hq;omega)).symm
    ·unfold Sys.run;rw[ys,Lg,yP,LP,KW,show x.P x.h.op=fl x.s.most (x.s.msgs.drop (x.st x.h.op)) from rfl,ug]
   ·rw[yh,KW,ys];intro q e he;rcases WL e he with z|z
    ·exact c.ek q e z
    ·rw[z];exact t.r7 i (q ▸ HF)
  ·refine⟨by rw[yT];exact Q5,by rw[yT,ys];exact t1.bd,by rw[yT,ys];exact t1.bo,?_,?_,?_,?_,by rw[yT,ys];exact t1.r3,?_,by rw[yT,ys];exact Q6,by rw[yT,ys];exact t1.r7⟩
   ·rw[yT];intro q hq cc h;by_cases z:q=x.h.op
    ·rw[z];exact RX cc h
    ·rw[Ju q z] at hq;exact t1.rt q hq cc h
   ·rw[yT,yh,KW];intro cc h;have:=RX cc h;omega
   ·rw[yT,yh,KW];exact fun _ cc h=>RX cc h
   ·rw[yT];intro q j h;rw[yP];exact t1.r2 q j h
   ·rw[yT,yh,KW,ys];intro j h;obtain⟨z1,z2,z3⟩:=t.r4 j (hm _ h);have z4:=Y2 _ h x.h.op i j rfl rfl;refine⟨by omega,bound _ z3 z4 z2,fun e he=>?_⟩;rcases WL e he with q|q
    ·exact z3 e q
    ·rw[q];exact z4
  ·have L9:∀k,x.h.op=x.s.op->(k<x.h.nx\/k∈x.h.early.map (·.1))->k≠h'.nx/\(k<h'.nx\/k∈h'.early.map (·.1)):=by
    intro k _ hk;rcases hk with hk|hk
    ·exact⟨by omega,.inl (by omega)⟩
    ·by_cases Hc:k<h'.nx
     ·exact⟨by omega,.inl Hc⟩
     ·have:=key k hk (by omega);exact⟨fun z=>a3 (z ▸ this),.inr this⟩
   have Lh:∀j bs,BC.note x.s.op j bs∈y.B->BC.note x.s.op j bs∈x.B\/(x.h.op=x.s.op/\j=h'.nx/\bs=h'.bits):=by
    intro j bs h;rw[yB] at h;rcases List.mem_append.mp h with h|h
    ·exact .inl h
    ·have:=List.mem_singleton.mp h
     injection this with z1 z2 z3
     exact .inr ⟨z1.symm,z2,z3⟩
   have WN:∀k,mk h'.nx h'.bits k->k∈h'.early.map (·.1):=by
    rintro k ⟨d,hd,rfl⟩;unfold Hr.bits at hd;rw[List.getElem?_map] at hd;cases e:(List.range h'.w)[d]? with
    |none=>rw[e] at hd;simp at hd
    |some d'=>
     rw[e] at hd;obtain⟨z1,z2⟩:=List.getElem?_eq_some_iff.mp e;rw[List.getElem_range] at z2;subst z2;cases e2:h'.early.lookup (h'.nx+d) with
     |none=>rw[Option.map_some,e2] at hd;simp at hd
     |some q=>exact List.mem_map.mpr ⟨_,j1 e2,rfl⟩
   refine⟨?_,?_,?_,?_,?_,?_,?_,?_⟩
   ·rw[yB,ys];intro a ha;rcases List.mem_append.mp ha with ha|ha
    ·exact b.bb a ha
    ·rw[List.mem_singleton.mp ha];exact⟨by show 1<=x.h.op;omega,c.ho⟩
   ·rw[ys];intro j bs h;rcases Lh j bs h with h|⟨z1,z2,_⟩
    ·exact⟨(b.bn j bs h).1,Nat.le_trans (b.bn j bs h).2 WM⟩
    ·subst z2;rw[<-z1,LP];refine⟨?_,Nat.le_refl _⟩;have h1:=c.bt;have h2:=c.hn;rw[z1] at h2;omega
   ·rw[yB,ys];refine dh b.bp (by simp) fun a ha a' Ml j bs j' JN e1 e2=>?_
    rw[List.mem_singleton.mp Ml] at e2
    injection e2 with z1 z2 z3
    subst z2;rw[e1] at ha;have h1:=(b.bn j bs ha).2;have h2:=c.hn;rw[z1] at h2;refine⟨by omega,fun hk=>?_⟩;exact(L9 h'.nx z1 ((b.m1 z1).2 j bs _ ha hk)).1 rfl
   ·rw[yh,KW,ys];intro q;refine⟨fun k hk=>(L9 k q ((b.m1 q).1 k hk)).2,fun j bs k hj hk=>?_⟩;rcases Lh j bs hj with h|⟨_,z2,z3⟩
    ·exact(L9 k q ((b.m1 q).2 j bs k h hk)).2
    ·subst z2 z3;exact .inr (WN k hk)
   ·rw[ys];intro k hk;refine⟨(b.m2 k hk).1,fun j bs hj=>?_⟩;rcases Lh j bs hj with h|⟨z1,z2,_⟩
    ·exact(b.m2 k hk).2 j bs h
    ·rw[z2];exact(L9 k z1 ((b.m1 z1).1 k hk)).1
   ·rw[ys];intro j bs hj;rcases Lh j bs hj with h|⟨z1,z2,z3⟩
    ·exact b.m4 j bs h
    ·subst z2 z3;exact fun hk=>a3 (WN _ hk)
   ·rw[yT,ys];intro q j bs hj;rcases Lh j bs hj with h|⟨z1,_,_⟩
    ·exact b1.nh q j bs h
    ·rcases q with q|q
     ·have:=RX _ q;have Qb:(TC.x_ x.s.op).rank=2 * x.s.op:=rfl;rw[Qb] at this;omega
     ·exact M8 q z1
   ·rw[yT,ys];exact b1.nd
  ·rw[Lf,e1];refine p0 ys yh ?_ ?_
   ·rw[yT];refine List.map_congr_left fun a _=>?_
    cases a with
    |x_ q=>rfl
    |data q j=>
     show w_.data q (j % (2 * y.s.w)) ((y.P q).getD j (0,[]))=w_.data q (j % (2 * x.s.w)) ((x.P q).getD j (0,[]));rw[ys,yP]
   ·rw[yB,List.map_append];congr 1
    ·refine List.map_congr_left fun a _=>?_
     cases a<;>simp[Sys.cB,ys]
    ·show [w_.note x.h.op (h'.nx % (2 * y.s.w)) h'.bits]=[h'.note];unfold Hr.note;rw[KW,w',ys]
theorem yU(v:Iv x):∃y:Sys,Iv y/\y.con=x.con.stepT/\y.s=x.s/\y.st=x.st:=by
 cases e:x.T with
 |nil=>
  refine⟨x,v,?_,rfl,rfl⟩;unfold Sys.con Cw.stepT;rw[e];rfl
 |cons a r=>
  cases a with
  |x_ o=>exact Ac v e
  |data o i=>exact Bc v e
end
end Lw
namespace Lw
section
variable{x:Sys}
theorem jN:∀(bs:List Int) (s:Sr) (k:Nat),(s.EV k bs).w=s.w/\(s.EV k bs).most=s.most/\(s.EV k bs).msgs=s.msgs/\(s.EV k bs).sure=s.sure/\(s.EV k bs).op=s.op/\(s.EV k bs).st=s.st/\(s.EV k bs).ps=s.ps/\(s.EV k bs).base=s.base/\∀t,t∈(s.EV k bs).D_->t∈s.D_\/∃i,bs[i]?=some 1/\t=s.base+(k+i)
 |[],s,k=>⟨rfl,rfl,rfl,rfl,rfl,rfl,rfl,rfl,fun t h=>.inl h⟩
 |b :: bs,s,k=>by
  unfold Sr.EV;by_cases hc:b=1/\s.base+k<s.ps.length/\s.base+k∉s.D_
  ·rw[if_pos hc];obtain⟨h1,h2,h3,h4,h5,h6,h7,h8,h9⟩:=jN bs { s with D_:=s.D_++[s.base+k] } (k+1);refine⟨h1,h2,h3,h4,h5,h6,h7,h8,fun t ht=>?_⟩;rcases h9 t ht with q|⟨i,q1,q2⟩
   ·have q':t∈s.D_++[s.base+k]:=q;rcases List.mem_append.mp q' with q'|q'
    ·exact .inl q'
    ·exact .inr ⟨0,by simp[hc.1],by have:=List.mem_singleton.mp q';omega⟩
   ·exact .inr ⟨i+1,by simpa using q1,by have:t=s.base+(k+1+i):=q2;omega⟩
  ·rw[if_neg hc];obtain⟨h1,h2,h3,h4,h5,h6,h7,h8,h9⟩:=jN bs s (k+1);refine⟨h1,h2,h3,h4,h5,h6,h7,h8,fun t ht=>?_⟩;rcases h9 t ht with q|⟨i,q1,q2⟩
   ·exact .inl q
   ·exact .inr ⟨i+1,by simpa using q1,by omega⟩
theorem yD(R:List Pc){b i:Nat}(h:b<=i):E7 (R.take b)+E7 ((R.take i).drop b)=E7 (R.take i):=by
 have:R.take i=R.take b++(R.take i).drop b:=by
  have h2:=(List.take_append_drop b (R.take i)).symm;rw[List.take_take,Nat.min_eq_left h] at h2;exact h2
 rw[this,dZ,<-this]
theorem tI(v:Iv x){c:BC}{r:List BC}(hB:x.B=c :: r)(hs:x.s.j_ (x.cB c)=x.s):∃y:Sys,Iv y/\y.con=x.con.FT:=by
 have bp:=v.b.bp;rw[hB] at bp;refine⟨x.setB r,⟨rR v.c r,sg v.t r,o8 v.b (fun a h=>by rw[hB];exact List.mem_cons_of_mem _ h) (List.pairwise_cons.mp bp).2⟩,?_⟩;unfold Sys.con Cw.FT;rw[hB,List.map_cons];dsimp only;rw[hs];rfl
theorem pA{c:BC}{r:List BC}(hB:x.B=c :: r):x.con.FT=⟨x.s.j_ (x.cB c),x.h,x.T.map x.cT,r.map x.cB⟩:=by
 unfold Sys.con Cw.FT;rw[hB];rfl
theorem vS(v:Iv x){r:List BC}(hB:x.B=.s_ x.s.op :: r)(Gz:x.s.st=.opening):∃y:Sys,Iv y/\y.con=x.con.FT:=by
 obtain⟨c,t,b⟩:=v;have bp:=b.bp;rw[hB] at bp;have hm:∀a,a∈r->a∈x.B:=fun a h=>by rw[hB];exact List.mem_cons_of_mem _ h
 have Ig:x.s.st≠.FL:=by rw[Gz];intro z;cases z
 have hs:x.s.j_ (x.cB (.s_ x.s.op)) = { x.s with st:=.opened }:=by
  show x.s.j_ (.s_ x.s.op)=_;unfold Sr.j_;exact if_pos ⟨rfl,Gz⟩
 refine⟨{ x with s:={ x.s with st:=.opened },B:=r },⟨?_,?_,?_⟩,?_⟩
 ·exact⟨c.w0,c.ww,fun _=>c.ps Ig,(fun q=>by cases q),c.su,c.sl,c.ch,c.s0,c.bt,c.tw,c.tl,c.tz,c.t0,c.ho,c.hz,c.hn,c.hl,c.he,c.hd,c.hb,c.hg,c.ek,c.n0⟩
 ·exact⟨t.so,t.bd,(fun q=>by cases q),t.rt,t.rh,t.re,t.r2,t.r3,t.r4,t.r6,t.r7⟩
 ·refine⟨fun a h=>b.bb a (hm a h),fun j bs h=>b.bn j bs (hm _ h),(List.pairwise_cons.mp bp).2,fun q=>⟨(b.m1 q).1,fun j bs k h=>(b.m1 q).2 j bs k (hm _ h)⟩,fun k hk=>⟨(b.m2 k hk).1,fun j bs h=>(b.m2 k hk).2 j bs (hm _ h)⟩,fun j bs h=>b.m4 j bs (hm _ h),?_,b.nd⟩;intro q j bs h;rcases q with q|q
  ·exact b.nh (.inl q) j bs (hm _ h)
  ·cases q
 ·rw[pA hB,hs];rfl
theorem CL(v:Iv x){r:List BC}(hB:x.B=.Gk x.s.op :: r)(Gz:x.s.st=.opened):∃y:Sys,Iv y/\y.con=x.con.FT:=by
 have hs:x.s.j_ (x.cB (.Gk x.s.op))=x.s.anew:=by
  show x.s.j_ (.Gk x.s.op)=_;unfold Sr.j_;exact if_pos ⟨rfl,Gz⟩
 have bp:=v.b.bp;rw[hB] at bp;have v1:Iv (x.setB r):=⟨rR v.c r,sg v.t r,o8 v.b (fun a h=>by rw[hB];exact List.mem_cons_of_mem _ h) (List.pairwise_cons.mp bp).2⟩;obtain⟨v2,e2⟩:=xu v1;refine⟨(x.setB r).anew,v2,?_⟩;rw[e2,pA hB,hs];rfl
theorem Bv(v:Iv x){j:Nat}{bs:List Int}{r:List BC}(hB:x.B=.note x.s.op j bs :: r)(Gz:x.s.st=.opened):∃y:Sys,Iv y/\y.con=x.con.FT:=by
 obtain⟨c,t,b⟩:=v;have bp:=b.bp;rw[hB] at bp;obtain⟨WO,Y3⟩:=List.pairwise_cons.mp bp;have hm:∀a,a∈r->a∈x.B:=fun a h=>by rw[hB];exact List.mem_cons_of_mem _ h
 have HF:BC.note x.s.op j bs∈x.B:=by rw[hB];simp
 have Ig:x.s.st≠.FL:=by rw[Gz];intro z;cases z
 obtain⟨RP,KY⟩:=c.ps Ig;obtain⟨Pw,QV⟩:=b.bn j bs HF;have htl:=c.tl x.s.op;have htw:=c.tw;have hw:=c.w0;have hn:ju (((j % (2 * x.s.w):Nat)):Int) (x.s.base:Int) x.s.w=(j:Int):=by
  have:((j % (2 * x.s.w):Nat):Int)=(j:Int) % (2 * (x.s.w:Int)):=by push_cast;rfl
  rw[this];exact uM hw (by omega) (by omega)
 have hs:x.s.j_ (x.cB (.note x.s.op j bs))=(x.s.G6 j).EV 0 bs:=by
  show x.s.j_ (.note x.s.op (j % (2 * x.s.w)) bs)=_;have h1:x.s.j_ (.note x.s.op (j % (2 * x.s.w)) bs)=x.s.B_ (j % (2 * x.s.w)) bs:=by unfold Sr.j_;exact if_pos ⟨rfl,Gz⟩
  rw[h1];unfold Sr.B_;rw[if_pos ⟨Nat.mod_lt _ (by omega),by rw[hn,RP];omega⟩,hn,Int.toNat_natCast]
 obtain⟨h1,h2,h3,h4,h5,h6,h7,h8,h9⟩:=jN bs (x.s.G6 j) 0;obtain⟨s',NR⟩:∃s',(x.s.G6 j).EV 0 bs=s':=⟨_,rfl⟩;rw[NR] at h1 h2 h3 h4 h5 h6 h7 h8 h9 hs;have k1:s'.w=x.s.w:=h1;have k2:s'.most=x.s.most:=h2;have k3:s'.msgs=x.s.msgs:=h3;have k4:s'.sure=x.s.sure+E7 ((x.s.ps.take j).drop x.s.base):=h4;have k5:s'.op=x.s.op:=h5;have k6:s'.st=x.s.st:=h6;have k7:s'.ps=x.s.ps:=h7;have k8:s'.base=j:=h8;obtain⟨y,hy⟩:∃y:Sys,y = { x with s:=s',B:=r }:=⟨_,rfl⟩;have ys:y.s=s':=by rw[hy]
 have yh:y.h=x.h:=by rw[hy]
 have yT:y.T=x.T:=by rw[hy]
 have yB:y.B=r:=by rw[hy]
 have Lg:y.st=x.st:=by rw[hy]
 have Ju:y.tk=x.tk:=by rw[hy]
 have yP:∀o,y.P o=x.P o:=fun o=>by unfold Sys.P;rw[ys,Lg,k2,k3]
 have TZ:∀o,y.en o=x.en o:=fun o=>by unfold Sys.en;rw[Lg,yP,Ju]
 have N9:y.run=x.run:=by funext o;unfold Sys.run;rw[ys,Lg,yP,Ju,k3]
 refine⟨y,⟨?_,?_,?_⟩,?_⟩
 ·refine⟨?_,?_,?_,?_,?_,?_,?_,?_,?_,?_,?_,?_,?_,?_,?_,?_,?_,?_,?_,?_,?_,?_,?_⟩
  ·rw[ys,k1];exact c.w0
  ·rw[ys,yh,k1];exact c.ww
  ·intro q;rw[ys,k7,yP,k5];exact c.ps Ig
  ·intro q;rw[ys,k6,Gz] at q;cases q
  ·rw[ys,k4,k5,k8,Lg,yP,c.su,RP,Nat.add_assoc,yD _ Pw]
  ·intro o ho;rw[ys,k5] at ho;rw[ys,k3,Lg];exact c.sl o ho
  ·intro o h1 h2;rw[ys,k5] at h2;obtain⟨o',q1,q2⟩:=c.ch o h1 h2;exact⟨o',q1,by rw[Lg,TZ];exact q2⟩
  ·rw[Lg];exact c.s0
  ·rw[ys,Ju,k8,k5];exact QV
  ·rw[ys,Ju,k8,k5,k1];omega
  ·intro o;rw[Ju,yP];exact c.tl o
  ·intro o ho;rw[ys,k5] at ho;rw[Ju];exact c.tz o ho
  ·rw[Ju];exact c.t0
  ·rw[yh,ys,k5];exact c.ho
  ·rw[yh];exact c.hz
  ·rw[yh,Ju];exact c.hn
  ·rw[yh,Ju];exact c.hl
  ·rw[yh,yP];exact c.he
  ·rw[yh];exact c.hd
  ·rw[yh,yP];exact c.hb
  ·rw[yh,ys,k5,N9];exact c.hg
  ·intro q e he;rw[yh,ys,k5] at q;rw[yh] at he;have:=c.ek q e he;rw[ys,k8,k1];omega
  ·intro q;rw[ys,k5] at q;omega
 ·refine⟨?_,?_,?_,?_,?_,?_,?_,?_,?_,?_,?_⟩
  ·rw[yT];exact t.so
  ·rw[yT,ys,k5];exact t.bd
  ·intro q;rw[ys,k6,Gz] at q;cases q
  ·rw[yT,Ju];exact t.rt
  ·rw[yT,yh];exact t.rh
  ·rw[yT,yh];exact t.re
  ·intro o i h;rw[yT] at h;rw[yP];exact t.r2 o i h
  ·rw[yT,ys,k1];exact t.r3
  ·rw[yT,yh,ys,k1];exact t.r4
  ·rw[yT,ys,k1];exact t.r6
  ·intro i h;rw[yT,ys,k5] at h;have:=t.r7 i h;rw[ys,k8,k1];omega
 ·have new:∀k,k∈s'.D_->k∈x.s.D_\/mk j bs k:=fun k hk=>by
   rcases h9 k hk with q|⟨i,q1,q2⟩
   ·exact .inl q
   ·exact .inr ⟨i,q1,by have:k=j+(0+i):=q2;omega⟩
  refine⟨?_,?_,?_,?_,?_,?_,?_,?_⟩
  ·intro a h;rw[yB] at h;rw[ys,k5];exact b.bb a (hm a h)
  ·intro j' JN h;rw[yB,ys,k5] at h;rw[ys,k8,Ju,k5];exact⟨(WO _ h j bs j' JN rfl rfl).1,(b.bn j' JN (hm _ h)).2⟩
  ·rw[yB,ys,k5];exact Y3
  ·intro q;rw[yh,ys,k5] at q;obtain⟨q1,q2⟩:=b.m1 q;rw[yB,ys,yh,k5];refine⟨fun k hk=>?_,fun j' JN k h=>q2 j' JN k (hm _ h)⟩;rcases new k hk with z|z
   ·exact q1 k z
   ·exact q2 j bs k HF z
  ·intro k hk;rw[ys] at hk;rw[yB,ys,k8,k5];rcases new k hk with z|z
   ·exact⟨(b.m2 k z).2 j bs HF,fun j' JN h=>(b.m2 k z).2 j' JN (hm _ h)⟩
   ·exact⟨fun e=>b.m4 j bs HF (e ▸ z),fun j' JN h e=>(WO _ h j bs j' JN rfl rfl).2 (e ▸ z)⟩
  ·intro j' JN h;rw[yB,ys,k5] at h;exact b.m4 j' JN (hm _ h)
  ·intro q j' JN h;rw[yB,ys,k5] at h;rw[yT,ys,k5,k6,Gz] at q;rcases q with q|q
   ·exact b.nh (.inl q) j' JN (hm _ h)
   ·cases q
  ·intro q;rw[yT,ys,k5] at q;exact absurd HF (b.nh (.inl q) j bs)
 ·rw[pA hB,hs];refine p0 ys yh ?_ ?_
  ·rw[yT];refine List.map_congr_left fun a _=>?_
   cases a with
   |x_ q=>rfl
   |data q i=>
    show w_.data q (i % (2 * y.s.w)) ((y.P q).getD i (0,[]))=w_.data q (i % (2 * x.s.w)) ((x.P q).getD i (0,[]));rw[ys,yP,k1]
  ·rw[yB];refine List.map_congr_left fun a _=>?_
   cases a<;>simp[Sys.cB,ys,k1]
theorem zu(v:Iv x):∃y:Sys,Iv y/\y.con=x.con.FT:=by
 cases e:x.B with
 |nil=>
  refine⟨x,v,?_⟩;unfold Sys.con Cw.FT;rw[e];rfl
 |cons a r=>
  cases a with
  |s_ o=>
   by_cases hc:o=x.s.op/\x.s.st=.opening
   ·obtain⟨rfl,Gz⟩:=hc;exact vS v e Gz
   ·exact tI v e (by show x.s.j_ (.s_ o)=_;unfold Sr.j_;exact if_neg hc)
  |Gk o=>
   by_cases hc:o=x.s.op/\x.s.st=.opened
   ·obtain⟨rfl,Gz⟩:=hc;exact CL v e Gz
   ·exact tI v e (by show x.s.j_ (.Gk o)=_;unfold Sr.j_;exact if_neg hc)
  |note o j bs=>
   by_cases hc:o=x.s.op/\x.s.st=.opened
   ·obtain⟨rfl,Gz⟩:=hc;exact Bv v e Gz
   ·exact tI v e (by show x.s.j_ (.note o (j % (2 * x.s.w)) bs)=_;unfold Sr.j_;exact if_neg hc)
def Sys.start(x:Sys):Sys:=if x.s.st=.FL then x.anew else x
theorem ur(v:Iv x):Iv x.start/\x.start.con = { x.con with s:=x.s.start }:=by
 unfold Sys.start Sr.start;by_cases h:x.s.st=.FL
 ·rw[if_pos h,if_pos h];exact xu v
 ·rw[if_neg h,if_neg h];exact⟨v,rfl⟩
end
end Lw
namespace Lw
def NF(c:Cw):Prop:=(c.s.op=0/\c.s.st=.FL/\c.T=[]/\c.B=[]/\c.h.op=0)\/
 (c.s.op=1/\c.s.st≠.FL/\(∀o,w_.Gk o∉c.B)/\((c.s.st=.opened\/(∃o,w_.s_ o∈c.B)\/∃o n p,w_.data o n p∈c.T)->c.h.op=1))
section
variable{x:Sys}
theorem NF.new(w most:Nat):NF (Sys.new w most).con:=.inl ⟨rfl,rfl,rfl,rfl,rfl⟩
theorem NF.hand(h:NF x.con)(m:FN):NF { x.con with s:=x.s.hand m }:=by
 rcases h with h|h
 ·exact .inl h
 ·exact .inr h
theorem NF.start(h:NF x.con):NF { x.con with s:=x.s.start }:=by
 unfold Sr.start;rcases h with ⟨h1,h2,h3,h4,h5⟩|h
 ·rw[if_pos (show x.s.st=.FL from h2)];refine .inr ⟨?_,?_,?_,?_⟩
  ·show x.s.op+1=1;have:x.s.op=0:=h1;omega
  ·intro z;cases z
  ·intro o z;have:w_.Gk o∈x.con.B:=z;rw[h4] at this;cases this
  ·rintro (z|⟨o,z⟩|⟨o,n,p,z⟩)
   ·cases z
   ·have:w_.s_ o∈x.con.B:=z;rw[h4] at this;cases this
   ·have:w_.data o n p∈x.con.T:=z;rw[h3] at this;cases this
 ·rw[if_neg (show ¬x.s.st=.FL from h.2.1)];exact .inr h
theorem NF.L_(h:NF x.con)(k:Nat):NF { x.con with T:=x.con.T.eraseIdx k }:=by
 rcases h with ⟨h1,h2,h3,h4,h5⟩|⟨h1,h2,h3,h4⟩
 ·exact .inl ⟨h1,h2,by show x.con.T.eraseIdx k=[];rw[h3];rfl,h4,h5⟩
 ·refine .inr ⟨h1,h2,h3,fun z=>h4 ?_⟩;rcases z with z|z|⟨o,n,p,z⟩
  ·exact .inl z
  ·exact .inr (.inl z)
  ·exact .inr (.inr ⟨o,n,p,List.mem_of_mem_eraseIdx z⟩)
theorem NF.Ma(h:NF x.con)(k:Nat):NF { x.con with B:=x.con.B.eraseIdx k }:=by
 rcases h with ⟨h1,h2,h3,h4,h5⟩|⟨h1,h2,h3,h4⟩
 ·exact .inl ⟨h1,h2,h3,by show x.con.B.eraseIdx k=[];rw[h4];rfl,h5⟩
 ·refine .inr ⟨h1,h2,fun o z=>h3 o (List.mem_of_mem_eraseIdx z),fun z=>h4 ?_⟩;rcases z with z|⟨o,z⟩|z
  ·exact .inl z
  ·exact .inr (.inl ⟨o,List.mem_of_mem_eraseIdx z⟩)
  ·exact .inr (.inr z)
theorem NF.PD(h:NF x.con)(k:Nat):NF { x.con with T:=dup x.con.T k }:=by
 rcases h with ⟨h1,h2,h3,h4,h5⟩|⟨h1,h2,h3,h4⟩
 ·exact .inl ⟨h1,h2,by show dup x.con.T k=[];rw[h3];simp[dup],h4,h5⟩
 ·refine .inr ⟨h1,h2,h3,fun z=>h4 ?_⟩;rcases z with z|z|⟨o,n,p,z⟩
  ·exact .inl z
  ·exact .inr (.inl z)
  ·exact .inr (.inr ⟨o,n,p,jT z⟩)
theorem NF.PF(h:NF x.con)(k:Nat):NF { x.con with B:=dup x.con.B k }:=by
 rcases h with ⟨h1,h2,h3,h4,h5⟩|⟨h1,h2,h3,h4⟩
 ·exact .inl ⟨h1,h2,h3,by show dup x.con.B k=[];rw[h4];simp[dup],h5⟩
 ·refine .inr ⟨h1,h2,fun o z=>h3 o (jT z),fun z=>h4 ?_⟩;rcases z with z|⟨o,z⟩|z
  ·exact .inl z
  ·exact .inr (.inl ⟨o,jT z⟩)
  ·exact .inr (.inr z)
theorem NF.tick(h:NF x.con):NF { x.con with T:=x.con.T++x.s.tick }:=by
 rcases h with ⟨h1,h2,h3,h4,h5⟩|⟨h1,h2,h3,h4⟩
 ·have e:x.s.tick=[]:=by
   have Y4:x.s.st=.FL:=h2;unfold Sr.tick;rw[Y4]
  exact .inl ⟨h1,h2,by show x.con.T++x.s.tick=[];rw[h3,e];rfl,h4,h5⟩
 ·refine .inr ⟨h1,h2,h3,fun z=>h4 ?_⟩;rcases z with z|z|⟨o,n,p,z⟩
  ·exact .inl z
  ·exact .inr (.inl z)
  ·rcases List.mem_append.mp z with z|z
   ·exact .inr (.inr ⟨o,n,p,z⟩)
   ·refine .inl ?_;show x.s.st=.opened;unfold Sr.tick at z;cases e:x.s.st with
    |FL=>rw[e] at z;simp at z
    |opening=>rw[e] at z;simp at z
    |opened=>rfl
theorem xS(s:Sr)(c:w_)(h:∀o,c≠.Gk o):(s.j_ c).op=s.op/\((s.j_ c).st=s.st\/((∃o,c=.s_ o)/\(s.j_ c).st=.opened/\s.st=.opening)):=by
 cases c with
 |x_ o=>exact⟨rfl,.inl rfl⟩
 |data o n p=>exact⟨rfl,.inl rfl⟩
 |Gk o=>exact absurd rfl (h o)
 |s_ o=>
  unfold Sr.j_;dsimp only;by_cases hc:o=s.op/\s.st=.opening
  ·rw[if_pos hc];exact⟨rfl,.inr ⟨⟨o,rfl⟩,rfl,hc.2⟩⟩
  ·rw[if_neg hc];exact⟨rfl,.inl rfl⟩
 |note o n bs=>
  unfold Sr.j_;dsimp only;split
  ·unfold Sr.B_;split
   ·obtain⟨_,_,_,_,h5,h6,_⟩:=jN bs (s.G6 (ju n s.base s.w).toNat) 0;exact⟨h5,.inl h6⟩
   ·exact⟨rfl,.inl rfl⟩
  ·exact⟨rfl,.inl rfl⟩
theorem NF.FT(h:NF x.con):NF x.con.FT:=by
 cases e:x.con.B with
 |nil=>
  have:x.con.FT=x.con:=by unfold Cw.FT;rw[e]
  rw[this];exact h
 |cons a r=>
  have Gz:x.con.FT = { x.con with s:=x.con.s.j_ a,B:=r }:=by unfold Cw.FT;rw[e]
  rw[Gz];rcases h with ⟨h1,h2,h3,h4,h5⟩|⟨h1,h2,h3,h4⟩
  ·rw[h4] at e;cases e
  ·have hw:∀o,a≠.Gk o:=fun o z=>h3 o (by rw[e,z];simp)
   have hm:∀b,b∈r->b∈x.con.B:=fun b hb=>by rw[e];exact List.mem_cons_of_mem _ hb
   obtain⟨q1,q2⟩:=xS x.con.s a hw;refine .inr ⟨q1.trans h1,?_,fun o z=>h3 o (hm _ z),fun z=>h4 ?_⟩
   ·rcases q2 with q2|⟨_,q2,_⟩
    ·show(x.con.s.j_ a).st≠.FL;rw[q2];exact h2
    ·show(x.con.s.j_ a).st≠.FL;rw[q2];intro z;cases z
   ·rcases z with z|⟨o,z⟩|z
    ·rcases q2 with q2|⟨⟨o,q0⟩,_,_⟩
     ·exact .inl (q2 ▸ z)
     ·exact .inr (.inl ⟨o,by rw[e,q0];simp⟩)
    ·exact .inr (.inl ⟨o,hm _ z⟩)
    ·exact .inr (.inr z)
theorem NF.stepT(v:Iv x)(h:NF x.con):NF x.con.stepT:=by
 cases e:x.con.T with
 |nil=>
  have:x.con.stepT=x.con:=by unfold Cw.stepT;rw[e]
  rw[this];exact h
 |cons a r=>
  have Gz:x.con.stepT = { x.con with h:=(x.con.h.j_ a).1,T:=r,B:=x.con.B++(x.con.h.j_ a).2 }:=by unfold Cw.stepT;rw[e]
  rw[Gz];rcases h with ⟨h1,h2,h3,h4,h5⟩|⟨h1,h2,h3,h4⟩
  ·rw[h3] at e;cases e
  ·have hm:∀b,b∈r->b∈x.con.T:=fun b hb=>by rw[e];exact List.mem_cons_of_mem _ hb
   have ha:a∈x.con.T:=by rw[e];simp
   obtain⟨tc,Y5,Qk⟩:=List.mem_map.mp (show a∈x.T.map x.cT from ha);have RY:=v.t.bd tc Y5;have Y6:x.s.op=1:=h1;have hho:x.h.op<=1:=by have:=v.c.ho;omega
   cases tc with
   |x_ o=>
    have ho:o=1:=by
     have q1:1<=o:=RY.1;have q2:2 * o<=2 * x.s.op+1:=RY.2;omega
    subst ho;have T_:a=.x_ 1:=Qk.symm;subst T_;have hh:((x.h.j_ (.x_ 1)).1.op=1)/\(x.h.j_ (.x_ 1)).2=[.s_ 1]:=by
     dsimp only[Hr.j_];rw[if_neg (by omega)];split
     ·exact⟨rfl,rfl⟩
     ·exact⟨by show x.h.op=1;omega,rfl⟩
    refine .inr ⟨h1,h2,fun o z=>?_,fun _=>hh.1⟩;have z':w_.Gk o∈x.con.B++(x.h.j_ (.x_ 1)).2:=z;rw[hh.2] at z';rcases List.mem_append.mp z' with z'|z'
    ·exact h3 o z'
    ·simp at z'
   |data o i=>
    have ho:o=1:=by
     have q1:1<=o:=RY.1;have q2:2 * o+1<=2 * x.s.op+1:=RY.2;omega
    subst ho;obtain⟨nn,pp,T_⟩:∃nn pp,a=.data 1 nn pp:=⟨_,_,Qk.symm⟩;subst T_;have Ua:x.h.op=1:=h4 (.inr (.inr ⟨1,nn,pp,ha⟩));have hh:((x.h.j_ (.data 1 nn pp)).1.op=1)/\(x.h.j_ (.data 1 nn pp)).2=[(x.h.data nn pp).note]:=by
     dsimp only[Hr.j_];rw[if_neg (by omega),if_neg (by omega)];refine⟨?_,rfl⟩;show(x.h.data nn pp).op=1;have:∀(k:Nat) (g:Hr),(Hr.ET k g).op=g.op:=by
      intro k
      induction k with
      |zero=>intro g;rfl
      |succ k ih=>
       intro g;unfold Hr.ET;cases g.early.lookup g.nx with
       |none=>rfl
       |some p=>dsimp only;rw[ih];unfold Hr.take;split<;>rfl
     unfold Hr.data;rw[this];unfold Hr.keep;split<;>exact Ua
    refine .inr ⟨h1,h2,fun o z=>?_,fun _=>hh.1⟩;have z':w_.Gk o∈x.con.B++(x.h.j_ (.data 1 nn pp)).2:=z;rw[hh.2] at z';rcases List.mem_append.mp z' with z'|z'
    ·exact h3 o z'
    ·simp[Hr.note] at z'
end
end Lw
namespace Lw
section
variable{x:Sys}
def Sys.outs(x:Sys)(k:Nat):List FN:=((List.range (k+1)).flatMap x.run).map (·.2)
theorem AG(x:Sys)(o:Nat):(x.run o).map (·.2)=(x.s.msgs.drop (x.st o)).take (E7 ((x.P o).take (x.tk o))):=by
 unfold Sys.run;rw[List.map_map];exact List.map_id' _
theorem rL(x:Sys)(k:Nat):x.outs (k+1)=x.outs k++(x.run (k+1)).map (·.2):=by
 unfold Sys.outs;rw[List.range_succ,List.flatMap_append,List.map_append];simp
theorem se(x:Sys):∀{j k:Nat},j<=k->(x.outs j).Sublist (x.outs k)
 |j,0,h=>by
  have:j=0:=by omega
  subst this;exact List.Sublist.refl _
 |j,k+1,h=>by
  by_cases e:j=k+1
  ·subst e;exact List.Sublist.refl _
  ·rw[rL];exact(se x (show j<=k by omega)).trans (List.sublist_append_left _ _)
theorem xB(x:Sys)(o:Nat):x.s.msgs.take (x.en o)=x.s.msgs.take (x.st o)++(x.run o).map (·.2):=by
 rw[AG];unfold Sys.en;rw[List.take_add]
theorem Cp(c:M6 x):∀o,o<=x.s.op->(x.s.msgs.take (x.en o)).Sublist (x.outs o):=by
 intro o
 induction o using Nat.strongRecOn with
 |ind o ih=>
  intro ho;cases o with
  |zero=>
   rw[xB,c.s0,List.take_zero,List.nil_append];show((x.run 0).map (·.2)).Sublist ((([0]:List Nat).flatMap x.run).map (·.2));simp
  |succ k=>
   obtain⟨o',q1,q2⟩:=c.ch (k+1) (by omega) ho;have h1:=ih o' q1 (by omega);have h2:(x.s.msgs.take (x.st (k+1))).Sublist (x.s.msgs.take (x.en o')):=(List.take_prefix_take_left q2).sublist;have h3:=(h2.trans h1).trans (se x (show o'<=k by omega));rw[xB,rL];exact h3.append (List.Sublist.refl _)
theorem zA(v:Iv x):(x.s.msgs.take x.s.sure).Sublist (x.h.given.map (·.2))/\x.s.sure<=x.s.msgs.length:=by
 have c:=v.c;have h1:=wJ c;have h2:(x.s.msgs.take x.s.sure).Sublist (x.s.msgs.take (x.en x.s.op)):=(List.take_prefix_take_left h1).sublist;refine⟨?_,Nat.le_trans h1 (B1 c (Nat.le_refl _))⟩;rw[c.hg];exact h2.trans (Cp c _ (Nat.le_refl _))
def io(hs:List FN):Nat->List FN->Nat
 |n,[]=>n
 |n,g :: gs=>io hs (if hs[n]?=some g then n+1 else n) gs
theorem k9:∀(gs hs:List FN) (n:Nat),n<=hs.length->(hs.drop n).Sublist gs->io hs n gs=hs.length
 |[],hs,n,hn,h=>by
  have:=List.eq_nil_of_sublist_nil h;have h2:(hs.drop n).length=0:=by rw[this];rfl
  rw[List.length_drop] at h2;show n=hs.length;omega
 |g :: gs,hs,n,hn,h=>by
  unfold io;by_cases hl:n<hs.length
  ·have hd:hs.drop n=hs[n] :: hs.drop (n+1):=List.drop_eq_getElem_cons hl;by_cases he:hs[n]?=some g
   ·rw[if_pos he];refine k9 gs hs (n+1) hl ?_;rw[hd] at h;have hg:hs[n]=g:=by rw[List.getElem?_eq_getElem hl] at he;exact Option.some.inj he
    rw[hg] at h;exact List.cons_sublist_cons.mp h
   ·rw[if_neg he];refine k9 gs hs n hn ?_;rw[hd] at h ⊢;cases h with
    |cons _ h=>exact h
    |cons_cons _ h=>exact absurd (List.getElem?_eq_getElem hl) he
  ·have:n=hs.length:=by omega
   subst this;rw[if_neg (by simp)];exact k9 gs hs _ (Nat.le_refl _) (by simp)
end
end Lw
namespace Lw
def bP(l:List En):List w_:=l.filterMap fun e=>match e.x with
 |none=>some e.c
 |some _=>none
def WW.con(w:WW):Cw:=⟨w.s,w.h,bP w.T,bP w.B⟩
theorem mU(a b:List En):bP (a++b)=bP a++bP b:=by simp[bP]
theorem uU(cs:List w_):bP (cs.map gd)=cs:=by
 unfold bP;rw[List.filterMap_map]
 induction cs with
 |nil=>rfl
 |cons c cs ih=>rw[List.filterMap_cons];simp only[Function.comp_def,gd] at ih ⊢;rw[ih]
theorem fP{c:w_}{l:List En}:bP (⟨c,none⟩ :: l)=c :: bP l:=rfl
theorem hW{c:w_}{xs:List Int}{l:List En}:bP (⟨c,some xs⟩ :: l)=bP l:=rfl
theorem iV:∀(l:List En) (k:Nat),bP (l.eraseIdx k)=bP l\/∃j,bP (l.eraseIdx k)=(bP l).eraseIdx j
 |[],k=>.inl rfl
 |⟨c,none⟩ :: l,0=>.inr ⟨0,rfl⟩
 |⟨c,some xs⟩ :: l,0=>.inl rfl
 |⟨c,none⟩ :: l,k+1=>by
  rw[List.eraseIdx_cons_succ,fP,fP];rcases iV l k with h|⟨j,h⟩
  ·exact .inl (by rw[h])
  ·exact .inr ⟨j+1,by rw[h];rfl⟩
 |⟨c,some xs⟩ :: l,k+1=>by
  rw[List.eraseIdx_cons_succ,hW,hW];exact iV l k
theorem rA(e:En)(l:List En)(k:Nat):oZ (e :: l) (k+1)=e :: oZ l k:=by
 unfold oZ;rw[List.getElem?_cons_succ];cases l[k]? with
 |none=>rfl
 |some x=>rfl
theorem lg:∀(l:List En) (k:Nat),bP (oZ l k)=bP l\/∃j,bP (oZ l k)=dup (bP l) j
 |[],k=>.inl rfl
 |⟨c,none⟩ :: l,0=>.inr ⟨0,rfl⟩
 |⟨c,some xs⟩ :: l,0=>.inl rfl
 |⟨c,none⟩ :: l,k+1=>by
  rw[rA,fP,fP];rcases lg l k with h|⟨j,h⟩
  ·exact .inl (by rw[h])
  ·exact .inr ⟨j+1,by rw[h];rfl⟩
 |⟨c,some xs⟩ :: l,k+1=>by
  rw[rA,hW,hW];exact lg l k
theorem oz(e:En)(l:List En)(k p:Nat)(b:Int):gL (e :: l) (k+1) p b=e :: gL l k p b:=by
 unfold gL;rw[List.getElem?_cons_succ];cases l[k]? with
 |none=>rfl
 |some x=>rfl
theorem iZ(p:Nat)(b:Int):∀(l:List En) (k:Nat),bP (gL l k p b)=bP l\/∃j,bP (gL l k p b)=(bP l).eraseIdx j
 |[],k=>.inl rfl
 |⟨c,none⟩ :: l,0=>by
  show bP (eD ⟨c,none⟩ p b :: l)=_\/∃j,bP (eD ⟨c,none⟩ p b :: l)=_;unfold eD;dsimp only;split
  ·exact .inl rfl
  ·exact .inr ⟨0,rfl⟩
 |⟨c,some xs⟩ :: l,0=>.inl rfl
 |⟨c,none⟩ :: l,k+1=>by
  rw[oz,fP,fP];rcases iZ p b l k with h|⟨j,h⟩
  ·exact .inl (by rw[h])
  ·exact .inr ⟨j+1,by rw[h];rfl⟩
 |⟨c,some xs⟩ :: l,k+1=>by
  rw[oz,hW,hW];exact iZ p b l k
inductive CS:Bool->Cw->Cw->Prop
 |same {f:Bool}(c:Cw):CS f c c
 |hand {f:Bool}(c:Cw) (m:FN):CS f c { c with s:=c.s.hand m }
 |start {f:Bool}(c:Cw):CS f c { c with s:=c.s.start }
 |tick {f:Bool}(c:Cw):CS f c { c with T:=c.T++c.s.tick }
 |stepT {f:Bool}(c:Cw):CS f c c.stepT
 |FT {f:Bool}(c:Cw):CS f c c.FT
 |L_ {f:Bool}(c:Cw) (k:Nat):CS f c { c with T:=c.T.eraseIdx k }
 |Ma {f:Bool}(c:Cw) (k:Nat):CS f c { c with B:=c.B.eraseIdx k }
 |PD {f:Bool}(c:Cw) (k:Nat):CS f c { c with T:=dup c.T k }
 |PF {f:Bool}(c:Cw) (k:Nat):CS f c { c with B:=dup c.B k }
 |Le (c:Cw):CS true c { c with s:=c.s.Fp }
 |Jl (c:Cw):CS true c { c with h:=c.h.Fp }
theorem jD{w:WW}{l:List En}{g:List w_}(h:bP l=g):(w.Fm true l).con = { w.con with T:=g }:=by subst h;rfl
theorem jH{w:WW}{l:List En}{g:List w_}(h:bP l=g):(w.Fm false l).con = { w.con with B:=g }:=by subst h;rfl
theorem yR(w:WW)(r:Bool)(f:Bool):CS f w.con (w.step r).con:=by
 unfold WW.step;cases r with
 |true=>
  cases hT:w.T with
  |nil=>
   have:w.road true=[]:=hT;rw[this];exact .same _
  |cons e l=>
   have hr:w.road true=e :: l:=hT;rw[hr];obtain⟨c,x⟩:=e;cases x with
   |some xs=>
    have:((w.Fm true l).Gj true ⟨c,some xs⟩).con=w.con:=by
     show(⟨w.s,w.h,bP l,bP w.B⟩:Cw)=⟨w.s,w.h,bP w.T,bP w.B⟩;rw[hT];rfl
    dsimp only;rw[this];exact .same _
   |none=>
    have:((w.Fm true l).Gj true ⟨c,none⟩).con=w.con.stepT:=by
     have ht:w.con.T=c :: bP l:=by show bP w.T=_;rw[hT];rfl
     unfold Cw.stepT;rw[ht];show(⟨w.s,(w.h.j_ c).1,bP l,bP (w.B++(w.h.j_ c).2.map gd)⟩:Cw)=_;rw[mU,uU];rfl
    dsimp only;rw[this];exact .stepT _
 |false=>
  cases hB:w.B with
  |nil=>
   have:w.road false=[]:=hB;rw[this];exact .same _
  |cons e l=>
   have hr:w.road false=e :: l:=hB;rw[hr];obtain⟨c,x⟩:=e;cases x with
   |some xs=>
    have:((w.Fm false l).Gj false ⟨c,some xs⟩).con=w.con:=by
     show(⟨w.s,w.h,bP w.T,bP l⟩:Cw)=⟨w.s,w.h,bP w.T,bP w.B⟩;rw[hB];rfl
    dsimp only;rw[this];exact .same _
   |none=>
    have:((w.Fm false l).Gj false ⟨c,none⟩).con=w.con.FT:=by
     have ht:w.con.B=c :: bP l:=by show bP w.B=_;rw[hB];rfl
     unfold Cw.FT;rw[ht];rfl
    dsimp only;rw[this];exact .FT _
def Act.falls:Act->Bool
 |.Fp _=>true
 |_=>false
theorem Bz(w:WW)(t:Act)(f:Bool)(hf:t.falls=true->f=true):CS f w.con (w.act t).con:=by
 cases t with
 |hand m=>exact .hand w.con m
 |start=>exact .start w.con
 |tick=>
  have:(w.act .tick).con = { w.con with T:=w.con.T++w.con.s.tick }:=by
   show(⟨w.s,w.h,bP (w.T++w.s.tick.map gd),bP w.B⟩:Cw)=_;rw[mU,uU];rfl
  rw[this];exact .tick _
 |step r=>exact yR w r f
 |LO r k=>
  cases r with
  |true=>
   show CS f w.con (w.Fm true (w.T.eraseIdx k)).con;rcases iV w.T k with h|⟨j,h⟩
   ·rw[jD h];exact .same _
   ·rw[jD h];exact .L_ _ j
  |false=>
   show CS f w.con (w.Fm false (w.B.eraseIdx k)).con;rcases iV w.B k with h|⟨j,h⟩
   ·rw[jH h];exact .same _
   ·rw[jH h];exact .Ma _ j
 |dbl r k=>
  cases r with
  |true=>
   show CS f w.con (w.Fm true (oZ w.T k)).con;rcases lg w.T k with h|⟨j,h⟩
   ·rw[jD h];exact .same _
   ·rw[jD h];exact .PD _ j
  |false=>
   show CS f w.con (w.Fm false (oZ w.B k)).con;rcases lg w.B k with h|⟨j,h⟩
   ·rw[jH h];exact .same _
   ·rw[jH h];exact .PF _ j
 |Jn r k p b=>
  cases r with
  |true=>
   show CS f w.con (w.Fm true (gL w.T k p b)).con;rcases iZ p b w.T k with h|⟨j,h⟩
   ·rw[jD h];exact .same _
   ·rw[jD h];exact .L_ _ j
  |false=>
   show CS f w.con (w.Fm false (gL w.B k p b)).con;rcases iZ p b w.B k with h|⟨j,h⟩
   ·rw[jH h];exact .same _
   ·rw[jH h];exact .Ma _ j
 |Fp r=>
  have:f=true:=hf rfl;subst this;cases r with
  |true=>exact .Le w.con
  |false=>exact .Jl w.con
def Gd(c:Cw):Prop:=∃x:Sys,Iv x/\x.con=c
theorem Dd{a b:Nat}(h:0<a):Gd (WW.new a b).con:=⟨Sys.new a b,Dc h,rfl⟩
theorem DR{f:Bool}{c c':Cw}(g:Gd c)(h:CS f c c'):Gd c':=by
 obtain⟨x,v,rfl⟩:=g;cases h with
 |same=>exact⟨x,v,rfl⟩
 |hand _ m=>exact⟨_,(xA v m).1,(xA v m).2⟩
 |start=>exact⟨_,(ur v).1,(ur v).2⟩
 |tick=>exact⟨_,(wM v).1,(wM v).2⟩
 |stepT=>obtain⟨y,h1,h2,_⟩:=yU v;exact⟨y,h1,h2⟩
 |FT=>obtain⟨y,h1,h2⟩:=zu v;exact⟨y,h1,h2⟩
 |L_ _ k=>exact⟨_,(uY v k).1,(uY v k).2⟩
 |Ma _ k=>exact⟨_,(ub v k).1,(ub v k).2⟩
 |PD _ k=>exact⟨_,(wT v k).1,(wT v k).2⟩
 |PF _ k=>exact⟨_,(wX v k).1,(wX v k).2⟩
 |Le=>exact⟨_,(u7 v).1,(u7 v).2⟩
 |Jl=>exact⟨_,(uB v).1,(uB v).2⟩
end Lw
namespace Lw
open PySem L2 DL
section
variable{G:Cs}{S S' S1 S2:List Cell}{a a' a1 a2:Ad}{w w' w1 w2:WW}{N:Nat}
theorem A3(A:Hf G S a w){j:Nat}(h:S.length<=j):j∉a.fp:=fun z=>by have:=A.lt j z;omega
def LA.msgs:LA->List FN
 |.hand c=>[jz c 12]
 |_=>[]
theorem Ao(w:WW)(t:LA):(w.act t.act).s.msgs=w.s.msgs++t.msgs:=by
 have hh:∀c,(w.s.j_ c).msgs=w.s.msgs:=by
  intro c;cases c with
  |s_ o=>dsimp only[Sr.j_];split<;>rfl
  |Gk o=>dsimp only[Sr.j_];split<;>rfl
  |note o n bs=>
   dsimp only[Sr.j_];split
   ·exact(mv w.s n bs).2.2.1
   ·rfl
  |x_ o=>rfl
  |data o n p=>rfl
 have hs:∀r,(w.step r).s.msgs=w.s.msgs:=by
  intro r;unfold WW.step;cases w.road r with
  |nil=>rfl
  |cons e l=>
   obtain⟨c,x⟩:=e;cases x with
   |some xs=>cases r<;>rfl
   |none=>
    cases r with
    |true=>rfl
    |false=>exact hh c
 cases t with
 |hand c=>rfl
 |HX=>
  show w.s.start.msgs=w.s.msgs++[];rw[List.append_nil];unfold Sr.start;split<;>rfl
 |tick=>exact(List.append_nil _).symm
 |step r=>exact(hs r).trans (List.append_nil _).symm
 |Fw k r i c=>
  match k with
  |0=>cases r<;>exact(List.append_nil _).symm
  |1=>cases r<;>exact(List.append_nil _).symm
  |_+2=>cases r<;>exact(List.append_nil _).symm
 |Fp r=>cases r<;>exact(List.append_nil _).symm
theorem yt(t:LA){l:Nat}(hl:S[l]?=some (.lst [t.d])):dB [.ob l] S=.ok (.ob S.length) (S++[.lst (t.msgs.map EH)]):=by
 show fin S (ia [some (.ob l)] S)=_;unfold ia;have hw:Ip (aa 0) [some (.ob l)] S=.ok ⟨[t.d],some (l,[t.d])⟩ S:=by
  rw[oq,av];show lL (.ob l) S=_;simp only[lL,hl]
 have q1:=iR (f:=Ip (aa 0)) (tg:=gN 0) (ti:=ao (g_ EX (g_ v_ (aa 0) (dC (.int 0))) (dC (.str "hand")))) (fe:=al cH (ac (g_ v_ (aa 0) (dC (.int 1))) (ac (dC (.int 12)) ai))) (own:=1) (caps:=[])
  (r:=[some (.ob l)]) (fun _=>decide (t.kn=("hand":Str))) (fun x=>match x with
   |.tup [_,.int c]=>EH (jz c 12)
   |_=>.EJ) hw hl (by simp) (by
   intro x hx;rw[List.mem_singleton.mp hx];refine⟨[some t.d],rfl,fun zs=>?_,fun hk zs=>?_⟩
   ·exact az (au (au rfl rfl (zJ t _)) rfl (bg (Af t) (by decide +kernel) rfl))
   ·cases t with
    |hand c=>exact ax (ag (au rfl rfl (aS (i:=1) rfl)) (ag rfl aj)) (pj c 12 (by decide) _)
    |HX=>exact absurd hk (by decide +kernel)
    |tick=>exact absurd hk (by decide +kernel)
    |step r=>exact absurd hk (by rw[show decide ((LA.step r).kn=("hand":Str))=false from (by decide +kernel:decide (("step":Str) = "hand")=false)];decide)
    |Fp r=>exact absurd hk (by rw[show decide ((LA.Fp r).kn=("hand":Str))=false from (by decide +kernel:decide (("fall":Str) = "hand")=false)];decide)
    |Fw k r i c=>
     match k with
     |0=>exact absurd hk (by rw[show decide ((LA.Fw 0 r i c).kn=("hand":Str))=false from (by decide +kernel:decide (("lose":Str) = "hand")=false)];decide)
     |1=>exact absurd hk (by rw[show decide ((LA.Fw 1 r i c).kn=("hand":Str))=false from (by decide +kernel:decide (("double":Str) = "hand")=false)];decide)
     |j+2=>exact absurd hk (by rw[show decide ((LA.Fw (j+2) r i c).kn=("hand":Str))=false from (by decide +kernel:decide (("spoil":Str) = "hand")=false)];decide))
 rw[aR q1];have e:([t.d].filter fun _=>decide (t.kn=("hand":Str))).map (fun x=>match x with
   |.tup [_,.int c]=>EH (jz c 12)
   |_=>.EJ)=t.msgs.map EH:=by
  cases t with
  |hand c=>
   rw[show decide ((LA.hand c).kn=("hand":Str))=true from (by decide +kernel:decide (("hand":Str) = "hand")=true)];rfl
  |HX=>rw[show decide (LA.HX.kn=("hand":Str))=false by decide +kernel];rfl
  |tick=>rw[show decide (LA.tick.kn=("hand":Str))=false by decide +kernel];rfl
  |step r=>rw[show decide ((LA.step r).kn=("hand":Str))=false from (by decide +kernel:decide (("step":Str) = "hand")=false)];rfl
  |Fp r=>rw[show decide ((LA.Fp r).kn=("hand":Str))=false from (by decide +kernel:decide (("fall":Str) = "hand")=false)];rfl
  |Fw k r i c=>
   match k with
   |0=>rw[show decide ((LA.Fw 0 r i c).kn=("hand":Str))=false from (by decide +kernel:decide (("lose":Str) = "hand")=false)];rfl
   |1=>rw[show decide ((LA.Fw 1 r i c).kn=("hand":Str))=false from (by decide +kernel:decide (("double":Str) = "hand")=false)];rfl
   |j+2=>rw[show decide ((LA.Fw (j+2) r i c).kn=("hand":Str))=false from (by decide +kernel:decide (("spoil":Str) = "hand")=false)];rfl
 rw[e];rfl
end
end Lw
namespace Lw
open PySem L2 DL
theorem xH{i:Int}(S:List Cell):dn [.int i] S=.ok (.bl true) S:=by
 simp[dn,lF,MP,Pg,uo]
end Lw
namespace Lw
open PySem L2 DL
theorem wv(s:Sr)(c:w_):s.sure<=(s.j_ c).sure:=by
 have hn:∀(bs:List Int) (s:Sr) (k:Nat),(s.EV k bs).sure=s.sure:=by
  intro bs
  induction bs with
  |nil=>intro s k;rfl
  |cons b bs ih=>
   intro s k;unfold Sr.EV;rw[ih];split<;>rfl
 cases c with
 |s_ o=>unfold Sr.j_;dsimp only;split<;>exact Nat.le_refl _
 |Gk o=>unfold Sr.j_;dsimp only;split<;>exact Nat.le_refl _
 |note o n bs=>
  unfold Sr.j_;dsimp only;split
  ·unfold Sr.B_;split
   ·rw[hn];exact Nat.le_add_right _ _
   ·exact Nat.le_refl _
  ·exact Nat.le_refl _
 |x_ o=>exact Nat.le_refl _
 |data o n p=>exact Nat.le_refl _
theorem zP(w:WW)(t:Act):w.s.sure<=(w.act t).s.sure:=by
 have hr:∀(r:Bool) (l:List En),(w.Fm r l).s=w.s:=fun r l=>by cases r<;>rfl
 cases t with
 |hand m=>
  show w.s.sure<=(w.s.hand m).sure;unfold Sr.hand;exact Nat.le_refl _
 |start=>
  show w.s.sure<=w.s.start.sure;unfold Sr.start;split<;>exact Nat.le_refl _
 |tick=>exact Nat.le_refl _
 |step r=>
  show w.s.sure<=(w.step r).s.sure;unfold WW.step;cases w.road r with
  |nil=>exact Nat.le_refl _
  |cons e l=>
   show w.s.sure<=((w.Fm r l).Gj r e).s.sure;unfold WW.Gj;cases e.x with
   |some _=>show w.s.sure<=(w.Fm r l).s.sure;rw[hr];exact Nat.le_refl _
   |none=>
    cases r with
    |true=>exact Nat.le_refl _
    |false=>exact wv w.s e.c
 |LO r k=>show w.s.sure<=(w.Fm r _).s.sure;rw[hr];exact Nat.le_refl _
 |dbl r k=>show w.s.sure<=(w.Fm r _).s.sure;rw[hr];exact Nat.le_refl _
 |Jn r k p b=>show w.s.sure<=(w.Fm r _).s.sure;rw[hr];exact Nat.le_refl _
 |Fp r=>cases r<;>exact Nat.le_refl _
theorem pY(hs:List FN)(g:FN):∀(l:List FN) (n:Nat),io hs n (l++[g])=if hs[io hs n l]?=some g then io hs n l+1 else io hs n l
 |[],n=>rfl
 |x :: l,n=>by
  show io hs _ (l++[g])=_;rw[pY hs g l];rfl
theorem vf(hs:List FN):∀(l:List FN) (n:Nat),n<=hs.length->io hs n l<=hs.length
 |[],n,h=>h
 |x :: l,n,h=>by
  show io hs _ l<=_;refine vf hs l _ ?_;split
  ·rename_i e;exact(List.getElem?_eq_some_iff.mp e).1
  ·exact h
section
variable{G:Cs}{S S' S1 S2:List Cell}{a a' a1 a2:Ad}{w w' w1 w2:WW}{N:Nat}
theorem Bk{l:Nat}{hs:List FN}{gs:List (Nat×FN)}(hl:S[l]?=some (.lst (hs.map EH)))(hz:hs.length<=100000)(h:hs.Sublist (gs.map (·.2))):da [.ob l,.tup (gs.map Kh)] S=.ok (.bl true) S:=by
 show fin S (gI [some (.ob l),some (.tup (gs.map Kh)),none,none,none] S)=_;unfold gI;rw[aw (bw rfl)];show fin S (aI _ _ [some (.ob l),some (.tup (gs.map Kh)),some (.int 0),none,none] S)=_;have hw:Ip (aa 1) [some (.ob l),some (.tup (gs.map Kh)),some (.int 0),none,none] S=.ok ⟨gs.map Kh,none⟩ S:=rfl;obtain⟨ms,Ub⟩:∃ms,gs.map (·.2)=ms:=⟨_,rfl⟩;obtain⟨r',S3,q,hI⟩:=dR (g:=none) (tg:=gT [3,4]) (b:=dJ)
  (fun i r S'=>S'=S/\∃x3 x4,r=[some (.ob l),some (.tup (gs.map Kh)),some (.int (io hs 0 (ms.take i):Nat)),x3,x4]) (gs.map Kh) 0 [some (.ob l),some (.tup (gs.map Kh)),some (.int 0),none,none] S
  (by
   rintro i y r S' hy ⟨rfl,x3,x4,rfl⟩;rw[List.getElem?_map] at hy;cases hp:gs[i]? with
   |none=>rw[hp] at hy;cases hy
   |some g=>
    rw[hp] at hy;cases hy;rw[Nat.zero_add];obtain⟨at_,Uc⟩:∃at_,io hs 0 (ms.take i)=at_:=⟨_,rfl⟩;have hle:at_<=hs.length:=by rw[<-Uc];exact vf hs _ 0 (Nat.zero_le _)
    have WQ:ms[i]?=some g.2:=by rw[<-Ub,List.getElem?_map,hp];rfl
    have P9:io hs 0 (ms.take (i+1))=if hs[at_]?=some g.2 then at_+1 else at_:=by
     have OD:=(List.getElem?_eq_some_iff.mp WQ);rw[List.take_succ,WQ];show io hs 0 (ms.take i++[g.2])=_;rw[pY,Uc]
    rw[Uc];have cond:de (ao (g_ G2 (aa 2) (al bq (ac (aa 0) ai)))) (ao (g_ EX (g_ v_ (aa 0) (aa 2)) (aa 4))) [some (.ob l),some (.tup (gs.map Kh)),some (.int (at_:Int)),some (.int (g.1:Int)),some (EH g.2)] S'=.ok (decide (hs[at_]?=some g.2)) S':=by
     have c1:ao (g_ G2 (aa 2) (al bq (ac (aa 0) ai))) [some (.ob l),some (.tup (gs.map Kh)),some (.int (at_:Int)),some (.int (g.1:Int)),some (EH g.2)] S'=.ok (decide (at_<hs.length)) S':=by
      refine az (au rfl (ax (ag rfl aj) (gp hl)) ?_);rw[oN,List.length_map];congr 2;rw[decide_eq_decide];omega
     rw[cL,av,c1];by_cases Hc:at_<hs.length
     ·rw[decide_eq_true Hc];obtain⟨x,hx⟩:∃x,hs[at_]?=some x:=⟨_,List.getElem?_eq_getElem Hc⟩;show ao _ _ S'=_;rw[hx];have:ao (g_ EX (g_ v_ (aa 0) (aa 2)) (aa 4)) [some (.ob l),some (.tup (gs.map Kh)),some (.int (at_:Int)),some (.int (g.1:Int)),some (EH g.2)] S'=.ok (decide (x=g.2)) S':=
       az (au (au rfl rfl (iS hl (by rw[List.getElem?_map,hx];rfl))) rfl (Al S' x g.2))
      rw[this];congr 1;rw[decide_eq_decide];exact⟨fun z=>by rw[z],fun z=>Option.some.inj z⟩
     ·rw[decide_eq_false Hc,List.getElem?_eq_none (by omega)];rfl
    by_cases hc:hs[at_]?=some g.2
    ·rw[decide_eq_true hc] at cond;rw[if_pos hc] at P9;refine⟨[some (.ob l),some (.tup (gs.map Kh)),some (.int (at_:Int)),some (.int (g.1:Int)),some (EH g.2)],[some (.ob l),some (.tup (gs.map Kh)),some (.int ((at_+1:Nat):Int)),some (.int (g.1:Int)),some (EH g.2)],S',rfl,?_,trivial,rfl,_,_,by rw[P9]⟩;unfold dJ;rw[aT cond];exact bw (i:=2) (au rfl rfl (by rw[cf];congr 2))
    ·rw[decide_eq_false hc] at cond;rw[if_neg hc] at P9;refine⟨[some (.ob l),some (.tup (gs.map Kh)),some (.int (at_:Int)),some (.int (g.1:Int)),some (EH g.2)],[some (.ob l),some (.tup (gs.map Kh)),some (.int (at_:Int)),some (.int (g.1:Int)),some (EH g.2)],S',rfl,?_,trivial,rfl,_,_,by rw[P9]⟩;unfold dJ;rw[ay cond];rfl)
  ⟨rfl,none,none,rfl⟩
 obtain⟨rfl,x3,x4,rfl⟩:=hI;rw[aw (by rw[mh hw];exact q)];have hf:io hs 0 (ms.take (0+(gs.map Kh).length))=hs.length:=by
  rw[List.take_of_length_le (by rw[<-Ub,List.length_map,List.length_map];omega)];exact k9 ms hs 0 (Nat.zero_le _) (by rw[List.drop_zero,<-Ub];exact h)
 rw[hf];have:g_ EX (aa 2) (al bq (ac (aa 0) ai)) [some (.ob l),some (.tup (gs.map Kh)),some (.int (hs.length:Nat)),x3,x4] S3=.ok (.bl true) S3:=by
  refine au rfl (ax (ag rfl aj) (gp hl)) ?_;rw[iI,List.length_map,decide_eq_true rfl]
 exact congrArg (fin S3) (aR this)
theorem Bm(A:Hf G S a w):eA G [.ob a.n] S=.ok (.int (w.s.sure:Int)) S:=by
 show fin S (fw G [some (.ob a.n)] S)=_;unfold fw;rw[aR (bU (bU rfl A.ob rfl) A.sr.ob rfl)];rfl
theorem y8(g:Gd w.con):(w.s.msgs.take w.s.sure).Sublist (w.h.given.map (·.2))/\w.s.sure<=w.s.msgs.length:=by
 obtain⟨x,v,e⟩:=g;have h1:x.h=w.h:=congrArg Cw.h e;have h2:x.s=w.s:=congrArg Cw.s e;have:=zA v;rw[h1,h2] at this;exact this
theorem CM(A:Hf G S a w)(K:GO N w)(hN:N<20000)(g:Gd w.con)(t:LA){hl:Nat}(hh:S[hl]?=some (.lst (w.s.msgs.map EH)))(ho:hl∉a.fp)(hz:w.s.msgs.length<=10000){d0 d1 d2 x7:Option D} :
  ∃S' a' N5 y7,mM G [d0,d1,d2,some (.ob a.n),some (.ob hl),some (.int (w.s.sure:Int)),some t.d,x7] S=some (.nx [d0,d1,d2,some (.ob a.n),some (.ob N5),some (.int ((w.act t.act).s.sure:Int)),some t.d,y7],S')/\G0 G a S a' S' (w.act t.act)/\Gd (w.act t.act).con/\S'[N5]?=some (.lst ((w.act t.act).s.msgs.map EH))/\N5∉a'.fp:=by
 unfold mM;obtain⟨S1,a1,e1,k1⟩:=DB A K hN t;have cs:=Bz w t.act true (fun _=>rfl);have g':=DR g cs;obtain⟨Ua,PC⟩:=k1.out hh ho;have hm:=Ao w t;have RM:=zP w t.act;obtain⟨v,hv⟩:∃v,w.act t.act=v:=⟨_,rfl⟩;rw[hv] at k1 g' hm RM ⊢;have Wo:t.msgs.length<=1:=by cases t<;>simp[LA.msgs]
 rw[aw (aZ (ax (ag rfl (ag rfl aj)) e1))];obtain⟨S2,NZ⟩:∃S2,S1++[Cell.lst [t.d]]=S2:=⟨_,rfl⟩;obtain⟨S3,OS⟩:∃S3,S2++[Cell.lst (t.msgs.map EH)]=S3:=⟨_,rfl⟩;have c1:al dB (ac (bT (ac (aa 6) ai)) ai) [d0,d1,d2,some (.ob a.n),some (.ob hl),some (.int (w.s.sure:Int)),some t.d,x7] S1=.ok (.ob S2.length) S3:=by
  rw[<-OS];refine ax (ag (bY (ag rfl aj) (by simp)) aj) ?_;rw[NZ];exact yt t (by rw[<-NZ];exact bR)
 have c2:g_ bN (aa 4) (al dB (ac (bT (ac (aa 6) ai)) ai)) [d0,d1,d2,some (.ob a.n),some (.ob hl),some (.int (w.s.sure:Int)),some t.d,x7] S1=.ok (.ob S3.length) (S3++[.lst (v.s.msgs.map EH)]):=by
  refine au rfl c1 ?_;rw[hm,List.map_append];exact nQ (by rw[<-OS,<-NZ];exact aC (aC Ua)) (by rw[<-OS];exact aP rfl) (by rw[List.length_append,List.length_map,List.length_map];omega)
 rw[aw (bw c2)];obtain⟨S4,Ud⟩:∃S4,S3++[Cell.lst (v.s.msgs.map EH)]=S4:=⟨_,rfl⟩;have p4:∃T,S4=S1++T:=⟨[Cell.lst [t.d]]++[Cell.lst (t.msgs.map EH)]++[Cell.lst (v.s.msgs.map EH)],by rw[<-Ud,<-OS,<-NZ];simp⟩;have h4:S4[S3.length]?=some (.lst (v.s.msgs.map EH)):=by rw[<-Ud];exact bR
 have l3:S1.length<=S3.length:=by rw[<-OS,<-NZ];simp
 have k4:G0 G a S a1 S4 v:=by obtain⟨T,e⟩:=p4;rw[e];exact k1.push T
 rw[Ud];show ∃S' a' N5 y7,aI _ _ [d0,d1,d2,some (.ob a.n),some (.ob S3.length),some (.int (w.s.sure:Int)),some t.d,x7] S4=_/\_;have WR:=Bm k4.at_;have WS:=k4.at_.ob;rw[k4.nn] at WR WS;rw[aw (bw (ba rfl WS aj WR))];show ∃S' a' N5 y7,aI _ _ [d0,d1,d2,some (.ob a.n),some (.ob S3.length),some (.int (w.s.sure:Int)),some t.d,some (.int (v.s.sure:Int))] S4=_/\_;obtain⟨Y7,hle⟩:=y8 g';have hvl:v.s.msgs.length<=10001:=by rw[hm,List.length_append];omega
 have w1:bO (al dn (ac (aa 7) ai)) [d0,d1,d2,some (.ob a.n),some (.ob S3.length),some (.int (w.s.sure:Int)),some t.d,some (.int (v.s.sure:Int))] S4=.ok true S4:=by
  rw[cO,av,ax (ag rfl aj) (xH _)];rfl
 have w2:ao (g_ G2 (aa 7) (aa 5)) [d0,d1,d2,some (.ob a.n),some (.ob S3.length),some (.int (w.s.sure:Int)),some t.d,some (.int (v.s.sure:Int))] S4=.ok false S4:=by
  refine az (au rfl rfl ?_);rw[oN,decide_eq_false (by omega)]
 have w3:ao (g_ MR (aa 7) (al bq (ac (aa 4) ai))) [d0,d1,d2,some (.ob a.n),some (.ob S3.length),some (.int (w.s.sure:Int)),some t.d,some (.int (v.s.sure:Int))] S4=.ok false S4:=by
  refine az (au rfl (ax (ag rfl aj) (gp h4)) ?_);rw[BK,List.length_map,decide_eq_false (by omega)]
 have t1:G7 (cV (bO (al dn (ac (aa 7) ai)))) (G7 (ao (g_ G2 (aa 7) (aa 5))) (ao (g_ MR (aa 7) (al bq (ac (aa 4) ai))))) [d0,d1,d2,some (.ob a.n),some (.ob S3.length),some (.int (w.s.sure:Int)),some t.d,some (.int (v.s.sure:Int))] S4=.ok false S4:=by
  rw[d4,av,cN,av,w1];show G7 _ _ _ S4=_;rw[d4,av,w2];exact w3
 rw[aw (by rw[ay t1];rfl),aw (bw rfl)];show ∃S' a' N5 y7,FF _ _ _ [d0,d1,d2,some (.ob a.n),some (.ob S3.length),some (.int (v.s.sure:Int)),some t.d,some (.int (v.s.sure:Int))] S4=_/\_;obtain⟨S5,RZ⟩:∃S5,S4++[Cell.lst ((v.s.msgs.take v.s.sure).map EH)]=S5:=⟨_,rfl⟩;have sl:Hb GD (aa 4) bE (bF (aa 5)) [d0,d1,d2,some (.ob a.n),some (.ob S3.length),some (.int (v.s.sure:Int)),some t.d,some (.int (v.s.sure:Int))] S4=.ok (.ob S4.length) S5:=by
  rw[kL,av];simp only[ja,List.getElem?_cons_succ,List.getElem?_cons_zero,av,dE,jB,eC];simp only[eT,jB,GD,bZ h4];rw[sG (by rw[List.length_map];exact hle),<-List.map_take,RZ]
 have k5:G0 G a S a1 S5 v:=by rw[<-RZ];exact k4.push _
 have WT:=zL k5.at_;have WU:=k5.at_.ob;rw[k5.nn] at WT WU;have u1:bO (al da (ac (Hb GD (aa 4) bE (bF (aa 5))) (ac (bh G.World o_ (cw G) (aa 3) ai) ai))) [d0,d1,d2,some (.ob a.n),some (.ob S3.length),some (.int (v.s.sure:Int)),some t.d,some (.int (v.s.sure:Int))] S4=.ok true S5:=by
  rw[cO,av,ax (ag sl (ag (ba rfl WU aj WT) aj)) (Bk (by rw[<-RZ];exact bR) (by rw[List.length_take];omega) Y7)];rfl
 have u2:cV (bO (al da (ac (Hb GD (aa 4) bE (bF (aa 5))) (ac (bh G.World o_ (cw G) (aa 3) ai) ai)))) [d0,d1,d2,some (.ob a.n),some (.ob S3.length),some (.int (v.s.sure:Int)),some t.d,some (.int (v.s.sure:Int))] S4=.ok false S5:=by
  rw[cN,av,u1];rfl
 rw[ay u2];refine⟨S5,a1,S3.length,_,rfl,k5,g',by rw[<-RZ];exact aC h4,fun z=>?_⟩;have:=k1.at_.lt _ z;omega
theorem zo(G:Cs):∀ns:List Int,ns.length<=63->∃S',BR G [.FP (ns.map D.int)] []=.ok (.bl true) S':=by
 intro ns Ig;show ∃S',fin [] (we G [some (.FP (ns.map D.int)),none,none,none,none,none,none,none] [])=_;unfold we;rw[aw (Ax (ax (ag rfl aj) (wp ns [])))];show ∃S',fin [] (aI _ _ [some (.FP (ns.map D.int)),some (.int (Ki ns:Int)),some (.int (KZ ns:Int)),none,none,none,none,none] [])=_;obtain⟨S1,a0,e1,A0,f0,Y8,PZ⟩:=Bn (G:=G) (Ki ns) (KZ ns) [];rw[aw (bw (ax (ag rfl (ag rfl aj)) e1)),<-Y8];show ∃S',fin [] (aI _ _ [some (.FP (ns.map D.int)),some (.int (Ki ns:Int)),some (.int (KZ ns:Int)),some (.ob a0.n),none,none,none,none] S1)=_;rw[aw (bw (bY aj (by decide))),aw (bw rfl)];show ∃S',fin [] (aI _ _ [some (.FP (ns.map D.int)),some (.int (Ki ns:Int)),some (.int (KZ ns:Int)),some (.ob a0.n),some (.ob S1.length),some (.int 0),none,none] (S1++[.lst []]))=_;obtain⟨S2,l,e2,R⟩:=BN true ns (S1++[.lst []]);have A2:Hf G S2 a0 (WW.new (Ki ns) (KZ ns)):=(A0.push [.lst []]).fr R.fr (fun i _ z=>nomatch z);have Nq:S2[S1.length]?=some (.lst []):=R.fr.get bR (by simp);have ll:l∉a0.fp:=fun z=>by have h1:=A0.lt l z;have h2:=R.new;rw[List.length_append] at h2;simp at h2;omega
 have lh:S1.length∉a0.fp:=A3 A0 (Nat.le_refl _);have hal:=z5 true ns;have hw:Ip (al gr (ac (aa 0) (ac (dC (.bl true)) ai))) [some (.FP (ns.map D.int)),some (.int (Ki ns:Int)),some (.int (KZ ns:Int)),some (.ob a0.n),some (.ob S1.length),some (.int 0),none,none] (S1++[.lst []])=.ok ⟨(je true ns).map LA.d,some (l,(je true ns).map LA.d)⟩ S2:=by
  rw[oq,av,ax (ag rfl (ag rfl aj)) e2];show lL (.ob l) S2=_;simp only[lL,R.at_]
 obtain⟨r',S',q,_⟩:=dR (g:=some (l,(je true ns).map LA.d)) (tg:=gN 6) (b:=mM G)
  (fun i r S'=>∃a w hl x6 x7,r=[some (.FP (ns.map D.int)),some (.int (Ki ns:Int)),some (.int (KZ ns:Int)),some (.ob a0.n),some (.ob hl),some (.int (w.s.sure:Int)),x6,x7]/\a.n=a0.n/\Hf G S' a w/\GO i w/\Gd w.con/\S'[hl]?=some (.lst (w.s.msgs.map EH))/\hl∉a.fp/\S'[l]?=some (.lst ((je true ns).map LA.d))/\l∉a.fp) ((je true ns).map LA.d) 0 [some (.FP (ns.map D.int)),some (.int (Ki ns:Int)),some (.int (KZ ns:Int)),some (.ob a0.n),some (.ob S1.length),some (.int 0),none,none] S2
  (by
   rintro i y r S' hy ⟨a,w,hl,x6,x7,rfl,hn,A,K,g,hh,ho,Y9,Rm⟩;rw[List.getElem?_map] at hy;cases hp:(je true ns)[i]? with
   |none=>rw[hp] at hy;cases hy
   |some t=>
    rw[hp] at hy;cases hy;rw[Nat.zero_add] at K ⊢;have OD:=(List.getElem?_eq_some_iff.mp hp).1;have Wo:=K.sb.ml;obtain⟨S3,a3,Y_,y7,e3,k3,g3,P6,Za⟩:=CM (d0:=some (.FP (ns.map D.int))) (d1:=some (.int (Ki ns:Int))) (d2:=some (.int (KZ ns:Int))) (x7:=x7) A K (by omega) g t hh ho (by omega);rw[hn] at e3;obtain⟨o1,o2⟩:=k3.out Y9 Rm;exact⟨[some (.FP (ns.map D.int)),some (.int (Ki ns:Int)),some (.int (KZ ns:Int)),some (.ob a0.n),some (.ob hl),some (.int (w.s.sure:Int)),some t.d,x7],_,S3,rfl,e3,o1,a3,_,Y_,_,y7,rfl,k3.nn.trans hn,k3.at_,A9 K (by omega) t.act t.ok,g3,P6,Za,o1,o2⟩)
  ⟨a0,WW.new (Ki ns) (KZ ns),S1.length,none,none,rfl,rfl,A2,BG (wL ns) (Da ns) (Bt ns) (CH ns),Dd (wL ns),Nq,lh,R.at_,ll⟩
 refine⟨S',?_⟩;rw[aw (by rw[mh hw];exact q),aR rfl];rfl
end
end Lw
namespace Lw
open PySem L2 DL
def nI(K:PySem.W.Frag)(x:Str)(f:Addr):Prop:=PySem.W.nsIn K mainGlobals x=some (some (.ref f))
def fI(K:PySem.W.Frag)(g:Addr)(x:Str)(f:Addr):Prop:=PySem.W.findIn K (.ref g) x=some (some (.ref f))
def iF(K:PySem.W.Frag)(f:Addr):Prop:=PySem.W.isFn K (.ref f)=true
def nN(K:PySem.W.Frag)(x:Str):Prop:=PySem.W.nsIn K mainGlobals x=some none
def fN(K:PySem.W.Frag)(g:Addr)(x:Str):Prop:=PySem.W.findIn K (.ref g) x=some none
def oF(K:PySem.W.Frag)(f:Addr)(x q:Str)(st:Stmt):Prop:=∃fd,Fz K x q st f fd
theorem oF_mk{K:PySem.W.Frag}{x qual:Str}{st:Stmt}{f:Addr}{oc:Value}{od an:Option Addr}{Mw:Array (Option Value)}{kV doc pm EU ct:Value}(l:K.lookup f=some ⟨oc,od,.func (PySem.W.fnOf x qual (FU st) (Fx st) (h_ st) .none kV doc pm an EU ct),Mw⟩)(c:PySem.W.codeIn K EU qual=true)(k:PySem.W.keepIn K (.ref f)=true):oF K f x qual st:=⟨_,CO l c k⟩
theorem cF{P:Program}{w:World}{K:PySem.W.Frag}{mg:Str->Option Value}{base h:Heap}(X:K.In h)(G:h.Ns mainGlobals mg){x x' q:Str}{st:Stmt}{f:Addr}{fd:FuncData}{k:Nat}{ps:List Str}{F:List D->M D}(a:nI K x f)(hF:Fz K x' q st f fd)(b:Binds K fd ps [])(o:FK P w K mg base (A_ P w) k f fd ps F):GZ P w K mg base (A_ P w) x k ps F:=⟨⟨f,_,PySem.W.mg_of X G a,hF.kp,b,o⟩⟩
theorem cM{P:Program}{w:World}{K:PySem.W.Frag}{mg:Str->Option Value}{base:Heap}{g:Addr}{x x' q:Str}{st:Stmt}{f:Addr}{fd:FuncData}{k:Nat}{ps:List Str}{F:List D->M D}(a:fI K g x f)(i:iF K f)(hF:Fz K x' q st f fd)(b:Binds K fd ps [])(o:FK P w K mg base (A_ P w) k f fd ps F):Fu P w K mg base (A_ P w) g x k ps F:=⟨⟨f,_,⟨a,i,hF.kp⟩,b,o⟩⟩
theorem IU{K:PySem.W.Frag}{x q:Str}{st:Stmt}{f:Addr}{fd:FuncData}{ps:List Str}(F:Fz K x q st f fd)(h:∀(kV doc pm:Value) (an:Option Addr) (EU ct u0:Value),bindArgs (PySem.W.fnOf x q (FU st) (Fx st) (h_ st) .none kV doc pm an EU ct) ⟨[u0],[]⟩=pure (ps.zip [u0]))(hp:ps.length=1:=by rfl):Binds K fd ps []:=F.binds fun a b c d e g us hl=>match us,hl.trans hp with|[u0],_=>h a b c d e g u0
theorem IV{K:PySem.W.Frag}{x q:Str}{st:Stmt}{f:Addr}{fd:FuncData}{ps:List Str}(F:Fz K x q st f fd)(h:∀(kV doc pm:Value) (an:Option Addr) (EU ct u0 u1:Value),bindArgs (PySem.W.fnOf x q (FU st) (Fx st) (h_ st) .none kV doc pm an EU ct) ⟨[u0,u1],[]⟩=pure (ps.zip [u0,u1]))(hp:ps.length=2:=by rfl):Binds K fd ps []:=F.binds fun a b c d e g us hl=>match us,hl.trans hp with|[u0,u1],_=>h a b c d e g u0 u1
theorem MD{K:PySem.W.Frag}{x q:Str}{st:Stmt}{f:Addr}{fd:FuncData}{ps:List Str}(F:Fz K x q st f fd)(h:∀(kV doc pm:Value) (an:Option Addr) (EU ct u0 u1 u2:Value),bindArgs (PySem.W.fnOf x q (FU st) (Fx st) (h_ st) .none kV doc pm an EU ct) ⟨[u0,u1,u2],[]⟩=pure (ps.zip [u0,u1,u2]))(hp:ps.length=3:=by rfl):Binds K fd ps []:=F.binds fun a b c d e g us hl=>match us,hl.trans hp with|[u0,u1,u2],_=>h a b c d e g u0 u1 u2
theorem Zb{K:PySem.W.Frag}{x q:Str}{st:Stmt}{f:Addr}{fd:FuncData}{ps:List Str}(F:Fz K x q st f fd)(h:∀(kV doc pm:Value) (an:Option Addr) (EU ct u0 u1 u2 u3:Value),bindArgs (PySem.W.fnOf x q (FU st) (Fx st) (h_ st) .none kV doc pm an EU ct) ⟨[u0,u1,u2,u3],[]⟩=pure (ps.zip [u0,u1,u2,u3]))(hp:ps.length=4:=by rfl):Binds K fd ps []:=F.binds fun a b c d e g us hl=>match us,hl.trans hp with|[u0,u1,u2,u3],_=>h a b c d e g u0 u1 u2 u3
theorem Zc{K:PySem.W.Frag}{x q:Str}{st:Stmt}{f:Addr}{fd:FuncData}{ps:List Str}(F:Fz K x q st f fd)(h:∀(kV doc pm:Value) (an:Option Addr) (EU ct u0 u1 u2 u3 u4:Value),bindArgs (PySem.W.fnOf x q (FU st) (Fx st) (h_ st) .none kV doc pm an EU ct) ⟨[u0,u1,u2,u3,u4],[]⟩=pure (ps.zip [u0,u1,u2,u3,u4]))(hp:ps.length=5:=by rfl):Binds K fd ps []:=F.binds fun a b c d e g us hl=>match us,hl.trans hp with|[u0,u1,u2,u3,u4],_=>h a b c d e g u0 u1 u2 u3 u4
theorem bn6{K:PySem.W.Frag}{x q:Str}{st:Stmt}{f:Addr}{fd:FuncData}{ps:List Str}(F:Fz K x q st f fd)(h:∀(kV doc pm:Value) (an:Option Addr) (EU ct u0 u1 u2 u3 u4 u5:Value),bindArgs (PySem.W.fnOf x q (FU st) (Fx st) (h_ st) .none kV doc pm an EU ct) ⟨[u0,u1,u2,u3,u4,u5],[]⟩=pure (ps.zip [u0,u1,u2,u3,u4,u5]))(hp:ps.length=6:=by rfl):Binds K fd ps []:=F.binds fun a b c d e g us hl=>match us,hl.trans hp with|[u0,u1,u2,u3,u4,u5],_=>h a b c d e g u0 u1 u2 u3 u4 u5
theorem all_mk{l:PySem.W.OpenLaw}{w:World}{K:PySem.W.Frag}{h:Heap}{mg:Str->Option Value}{fa:Addr}{EI:Addr}{z_:Addr}{E3:Addr}{HB:Addr}{Gs:Addr}{f0 f1 f2 f3 f4 f5 f6 f7 f8 f9 RK WV WX WY WZ W0 W2 W3 W4 Ue W5 Ug Uh Ui Uj Uk W6 W7 Ul Um W8 W9 Uo W_ Up Uq Ur Us Ut Uu Uv Uw Ux Uy Uz UA UB UC UD Xa UE UG UH UI UJ UK Xb UL Xc Xd Xe UM Xf:Addr}{Mb:Addr}{KG:Array Value}{N_:Nat}{Oa:Array (Option Value)}{HJ:Addr}{GX:Array Value}{JO:Nat}{JP:Array (Option Value)}{JQ:Tok}{KH:Tok}{LQ:Tok}{Hx:Tok}{Li:Tok}{KI:Tok}{JR:Tok}(X:K.In h)(G:h.Ns mainGlobals mg)(Zd:mg "law"=some (.ref fa))
  (M9:nI K "Hearer" EI)
  (M_:nI K "Sender" z_)
  (Ob:nI K "World" E3)
  (Na:nI K "NoCard" HB)
  (Mr:nI K "NoStrip" Gs)
  (a0:nI K "_law_mix" f0)
  (l0:oF K f0 "_law_mix" "_law_mix" lK)
  (a1:nI K "_law_cell" f1)
  (l1:oF K f1 "_law_cell" "_law_cell" kM)
  (a2:nI K "_law_setting" f2)
  (l2:oF K f2 "_law_setting" "_law_setting" iu)
  (a3:fI K z_ "__init__" f3)
  (i3:iF K f3)
  (l3:oF K f3 "__init__" "Sender.__init__" eS)
  (a4:fI K EI "__init__" f4)
  (i4:iF K f4)
  (l4:oF K f4 "__init__" "Hearer.__init__" eO)
  (a5:fI K E3 "__init__" f5)
  (i5:iF K f5)
  (l5:oF K f5 "__init__" "World.__init__" fK)
  (a6:nI K "_law_acts" f6)
  (l6:oF K f6 "_law_acts" "_law_acts" kC)
  (a7:nI K "pieces_of" f7)
  (l7:oF K f7 "pieces_of" "pieces_of" ku)
  (a8:fI K z_ "hand" f8)
  (i8:iF K f8)
  (l8:oF K f8 "hand" "Sender.hand" jv)
  (a9:fI K E3 "hand" f9)
  (i9:iF K f9)
  (l9:oF K f9 "hand" "World.hand" j5)
  (Ze:nI K "_law_message" RK)
  (Zf:oF K RK "_law_message" "_law_message" iC)
  (Zg:nI K "with_checks" WV)
  (Zh:oF K WV "with_checks" "with_checks" jx)
  (Zi:nI K "is_whole" WX)
  (Zj:oF K WX "is_whole" "is_whole" lO)
  (Zk:nI K "is_row" WY)
  (Zl:oF K WY "is_row" "is_row" qE)
  (Zm:nI K "is_piece" WZ)
  (Zn:oF K WZ "is_piece" "is_piece" lV)
  (Zo:nI K "are_bits" W0)
  (Zp:oF K W0 "are_bits" "are_bits" md)
  (Zq:nI K "is_card" W2)
  (Zr:oF K W2 "is_card" "is_card" nU)
  (Zs:nI K "cells_of" W3)
  (Zt:oF K W3 "cells_of" "cells_of" ma)
  (Zu:nI K "written" W4)
  (Zv:oF K W4 "written" "written" nM)
  (Zw:fI K E3 "put_behind" Ue)
  (Zx:iF K Ue)
  (Zy:oF K Ue "put_behind" "World.put_behind" eF)
  (Zz:nI K "number_of" W5)
  (ZA:oF K W5 "number_of" "number_of" kJ)
  (ZC:fI K z_ "data_of" Ug)
  (ZD:iF K Ug)
  (ZE:oF K Ug "data_of" "Sender.data_of" fM)
  (ZF:fI K z_ "wanted" Uh)
  (ZG:iF K Uh)
  (ZH:oF K Uh "wanted" "Sender.wanted" gJ)
  (ZI:fI K z_ "tick" Ui)
  (ZJ:iF K Ui)
  (ZK:oF K Ui "tick" "Sender.tick" jk)
  (ZL:fI K E3 "tick" Uj)
  (ZM:iF K Uj)
  (ZN:oF K Uj "tick" "World.tick" j3)
  (ZO:fI K E3 "has_strip" Uk)
  (ZP:iF K Uk)
  (ZQ:oF K Uk "has_strip" "World.has_strip" eW)
  (ZR:nI K "card_from" W6)
  (ZS:oF K W6 "card_from" "card_from" kR)
  (ZT:nI K "read" W7)
  (ZU:oF K W7 "read" "read" wz)
  (ZV:fI K EI "begin" Ul)
  (ZW:iF K Ul)
  (ZX:oF K Ul "begin" "Hearer.begin" ix)
  (ZY:fI K EI "hears_hello" Um)
  (ZZ:iF K Um)
  (Z0:oF K Um "hears_hello" "Hearer.hears_hello" dS)
  (Z1:nI K "goes_round" W8)
  (Z2:oF K W8 "goes_round" "goes_round" jR)
  (Z3:nI K "index_near" W9)
  (Z4:oF K W9 "index_near" "index_near" j8)
  (Z5:fI K EI "keep" Uo)
  (Z6:iF K Uo)
  (Z7:oF K Uo "keep" "Hearer.keep" jy)
  (Z8:nI K "letters_of" W_)
  (Z9:oF K W_ "letters_of" "letters_of" ke)
  (Z_:fI K EI "take" Up)
  (i34:iF K Up)
  (l34:oF K Up "take" "Hearer.take" jf)
  (a35:fI K EI "take_all" Uq)
  (i35:iF K Uq)
  (l35:oF K Uq "take_all" "Hearer.take_all" eP)
  (a36:fI K EI "note" Ur)
  (i36:iF K Ur)
  (l36:oF K Ur "note" "Hearer.note" jt)
  (a37:fI K EI "hears_data" Us)
  (i37:iF K Us)
  (l37:oF K Us "hears_data" "Hearer.hears_data" d9)
  (a38:fI K EI "hears" Ut)
  (i38:iF K Ut)
  (l38:oF K Ut "hears" "Hearer.hears" im)
  (a39:fI K z_ "open_anew" Uu)
  (i39:iF K Uu)
  (l39:oF K Uu "open_anew" "Sender.open_anew" eG)
  (a40:fI K z_ "move_base" Uv)
  (i40:iF K Uv)
  (l40:oF K Uv "move_base" "Sender.move_base" eE)
  (a41:fI K z_ "note_pieces" Uw)
  (i41:iF K Uw)
  (l41:oF K Uw "note_pieces" "Sender.note_pieces" dQ)
  (a42:fI K z_ "hears_note" Ux)
  (i42:iF K Ux)
  (l42:oF K Ux "hears_note" "Sender.hears_note" d8)
  (a43:fI K z_ "hears_own" Uy)
  (i43:iF K Uy)
  (l43:oF K Uy "hears_own" "Sender.hears_own" eL)
  (a44:fI K z_ "hears" Uz)
  (i44:iF K Uz)
  (l44:oF K Uz "hears" "Sender.hears" ic)
  (a45:fI K E3 "arrive" UA)
  (i45:iF K UA)
  (l45:oF K UA "arrive" "World.arrive" iD)
  (a46:fI K E3 "step" UB)
  (i46:iF K UB)
  (l46:oF K UB "step" "World.step" jX)
  (a47:fI K E3 "lose" UC)
  (i47:iF K UC)
  (l47:oF K UC "lose" "World.lose" kc)
  (a48:fI K E3 "double" UD)
  (i48:iF K UD)
  (l48:oF K UD "double" "World.double" iQ)
  (a49:nI K "changed" Xa)
  (l49:oF K Xa "changed" "changed" nK)
  (a50:fI K E3 "spoil" UE)
  (i50:iF K UE)
  (l50:oF K UE "spoil" "World.spoil" jo)
  (a51:fI K z_ "fall" UG)
  (i51:iF K UG)
  (l51:oF K UG "fall" "Sender.fall" jl)
  (a52:fI K EI "fall" UH)
  (i52:iF K UH)
  (l52:oF K UH "fall" "Hearer.fall" jq)
  (a53:fI K E3 "fall" UI)
  (i53:iF K UI)
  (l53:oF K UI "fall" "World.fall" jP)
  (a54:fI K z_ "start" UJ)
  (i54:iF K UJ)
  (l54:oF K UJ "start" "Sender.start" iB)
  (a55:fI K E3 "start" UK)
  (i55:iF K UK)
  (l55:oF K UK "start" "World.start" jm)
  (a56:nI K "_law_do" Xb)
  (l56:oF K Xb "_law_do" "_law_do" nL)
  (a57:fI K E3 "sure_of" UL)
  (i57:iF K UL)
  (l57:oF K UL "sure_of" "World.sure_of" gK)
  (a58:nI K "_law_handed" Xc)
  (l58:oF K Xc "_law_handed" "_law_handed" ji)
  (a59:nI K "_law_all_out" Xd)
  (l59:oF K Xd "_law_all_out" "_law_all_out" ij)
  (a60:nI K "_law_whole" Xe)
  (l60:oF K Xe "_law_whole" "_law_whole" jW)
  (a61:fI K E3 "given_out" UM)
  (i61:iF K UM)
  (l61:oF K UM "given_out" "World.given_out" eY)
  (a62:nI K "law" Xf)
  (l62:oF K Xf "law" "law" rE)
  (Nb:PySem.W.plainGet K EI Str.empty=true)
  (Nc:PySem.W.hasDictIn K EI=true)
  (Nd:PySem.W.plainOver K EI=true)
  (Nf:PySem.W.findIn K (.ref EI) "__setattr__"=some (some (.builtin "object.__setattr__")))
  (Ng:PySem.W.makesIn K EI=true)
  (Nh:PySem.W.keepIn K (.ref EI)=true)
  (Jq:fN K EI "window")
  (JS:fN K EI "given")
  (IP:fN K EI "opening")
  (HV:fN K EI "next_index")
  (JT:fN K EI "early")
  (JU:fN K EI "begun")
  (Ni:PySem.W.plainGet K z_ Str.empty=true)
  (Nj:PySem.W.hasDictIn K z_=true)
  (Nk:PySem.W.plainOver K z_=true)
  (Nl:PySem.W.findIn K (.ref z_) "__setattr__"=some (some (.builtin "object.__setattr__")))
  (Nm:PySem.W.makesIn K z_=true)
  (Nn:PySem.W.keepIn K (.ref z_)=true)
  (Jr:fN K z_ "window")
  (KJ:fN K z_ "most")
  (Iz:fN K z_ "messages")
  (KL:fN K z_ "sure")
  (IQ:fN K z_ "opening")
  (JV:fN K z_ "state")
  (Js:fN K z_ "pieces")
  (KN:fN K z_ "base")
  (JW:fN K z_ "noted")
  (Oc:PySem.W.plainGet K E3 Str.empty=true)
  (Od:PySem.W.hasDictIn K E3=true)
  (Oe:PySem.W.plainOver K E3=true)
  (Of:PySem.W.findIn K (.ref E3) "__setattr__"=some (some (.builtin "object.__setattr__")))
  (Og:PySem.W.makesIn K E3=true)
  (Oh:PySem.W.keepIn K (.ref E3)=true)
  (JX:fN K E3 "sender")
  (JY:fN K E3 "hearer")
  (KO:fN K E3 "roads")
  (Ms:PySem.W.excIn K HB [.type "ValueError",.type "Exception",.type "BaseException",.type "object"] "ValueError.__new__"=true)
  (LR:PySem.W.excIn K Gs [.type "ValueError",.type "Exception",.type "BaseException",.type "object"] "ValueError.__new__"=true)
  (Ga:PySem.W.subIn K (.ref Gs) (.ref Gs)=some true)
  (Q9:nN K "all")
  (PH:nN K "bool")
  (Lj:nN K "enumerate")
  (Q_:nN K "int")
  (KP:nN K "isinstance")
  (Ra:nN K "len")
  (PI:nN K "list")
  (Rb:nN K "max")
  (Rc:nN K "min")
  (Oi:nN K "range")
  (Rf:nN K "sum")
  (Oj:nN K "tuple")
  (Ol:nI K "KINDS" Mb)
  (Om:K.lookup Mb=some ⟨.type "tuple",none,.seq KG N_,Oa⟩)
  (Oo:(List.zip G4 KG.toList).all (fun p=>match p.2 with|.str x _=>x == p.1|_=>false)=true)
  (Oq:G4.length=KG.toList.length)
  (JZ:nI K "SHORT_KINDS" HJ)
  (J9:K.lookup HJ=some ⟨.type "tuple",none,.seq GX JO,JP⟩)
  (J_:(List.zip Gg GX.toList).all (fun p=>match p.2 with|.str x _=>x == p.1|_=>false)=true)
  (Ka:Gg.length=GX.toList.length)
  (Kb:PySem.W.nsIn K mainGlobals "TOP_OPENING"=some (some (.int 65535 JQ)))
  (KQ:PySem.W.nsIn K mainGlobals "TOP_NUMBER"=some (some (.int 13 KH)))
  (LS:PySem.W.nsIn K mainGlobals "TOP_CELL"=some (some (.int 255 LQ)))
  (Hy:PySem.W.nsIn K mainGlobals "MOST_PIECE_LETTERS"=some (some (.int 8 Hx)))
  (Lk:PySem.W.nsIn K mainGlobals "MOST_BITS"=some (some (.int 7 Li)))
  (KR:PySem.W.nsIn K mainGlobals "HEAD_CELLS"=some (some (.int 3 KI)))
  (Kc:PySem.W.nsIn K mainGlobals "CHECK_CELLS"=some (some (.int 2 JR)))
  : ∃fd:FuncData,(∀(s:Shared) (v:Value),BindsTo s fd ⟨[v],[]⟩ [("_law_script",v)])/\∀base:Heap,K.In base->base.Ns mainGlobals mg->Ia l.prog w K mg base (A_ l.prog w) 10 fa fd ["_law_script"] (xz K):=by
 have e:=Zd.symm.trans (PySem.W.mg_of X G a62);cases e;have T:Txt K mg (⟨EI,z_,E3,HB,Gs⟩:Cs):=⟨PySem.W.mg_none_of X G Q9,PySem.W.mg_none_of X G PH,PySem.W.mg_none_of X G Lj,PySem.W.mg_none_of X G Q_,PySem.W.mg_none_of X G KP,PySem.W.mg_none_of X G Ra,PySem.W.mg_none_of X G PI,PySem.W.mg_none_of X G Rb,PySem.W.mg_none_of X G Rc,PySem.W.mg_none_of X G Oi,PySem.W.mg_none_of X G Rf,PySem.W.mg_none_of X G Oj,⟨Nb,Nc,Nd,Nf⟩,Jq,JS,IP,HV,JT,JU,⟨Ni,Nj,Nk,Nl⟩,Jr,KJ,Iz,KL,IQ,JV,Js,KN,JW,⟨Oc,Od,Oe,Of⟩,JX,JY,KO,⟨PySem.W.mg_of X G Na,Ms⟩,⟨PySem.W.mg_of X G Mr,LR⟩,Ga,uv (PySem.W.mg_of X G Ol) Om Oo Oq (by decide),uv (PySem.W.mg_of X G JZ) J9 J_ Ka (by decide),⟨_,PySem.W.mg_of X G Kb,iL⟩,⟨_,PySem.W.mg_of X G KQ,iL⟩,⟨_,PySem.W.mg_of X G LS,iL⟩,⟨_,PySem.W.mg_of X G Hy,iL⟩,⟨_,PySem.W.mg_of X G Lk,iL⟩,⟨_,PySem.W.mg_of X G KR,iL⟩,⟨_,PySem.W.mg_of X G Kc,iL⟩⟩;obtain⟨_,F0⟩:=l0;obtain⟨_,F1⟩:=l1;obtain⟨_,F2⟩:=l2;obtain⟨_,F3⟩:=l3;obtain⟨_,F4⟩:=l4;obtain⟨_,F5⟩:=l5;obtain⟨_,F6⟩:=l6;obtain⟨_,F7⟩:=l7;obtain⟨_,F8⟩:=l8;obtain⟨_,F9⟩:=l9;obtain⟨_,UN⟩:=Zf;obtain⟨_,UO⟩:=Zh;obtain⟨_,UP⟩:=Zj;obtain⟨_,UQ⟩:=Zl;obtain⟨_,UR⟩:=Zn;obtain⟨_,US⟩:=Zp;obtain⟨_,UT⟩:=Zr;obtain⟨_,UU⟩:=Zt;obtain⟨_,UW⟩:=Zv;obtain⟨_,UX⟩:=Zy;obtain⟨_,UY⟩:=ZA;obtain⟨_,UZ⟩:=ZE;obtain⟨_,U0⟩:=ZH;obtain⟨_,U3⟩:=ZK;obtain⟨_,U4⟩:=ZN;obtain⟨_,U5⟩:=ZQ;obtain⟨_,U6⟩:=ZS;obtain⟨_,U7⟩:=ZU;obtain⟨_,U8⟩:=ZX;obtain⟨_,U9⟩:=Z0;obtain⟨_,U_⟩:=Z2;obtain⟨_,Va⟩:=Z4;obtain⟨_,Vb⟩:=Z7;obtain⟨_,Vc⟩:=Z9;obtain⟨_,Vd⟩:=l34;obtain⟨_,Ve⟩:=l35;obtain⟨_,Vf⟩:=l36;obtain⟨_,Vg⟩:=l37;obtain⟨_,Vh⟩:=l38;obtain⟨_,Vi⟩:=l39;obtain⟨_,Vj⟩:=l40;obtain⟨_,Vk⟩:=l41;obtain⟨_,Vl⟩:=l42;obtain⟨_,Vm⟩:=l43;obtain⟨_,Vn⟩:=l44;obtain⟨_,Vo⟩:=l45;obtain⟨_,Vp⟩:=l46;obtain⟨_,Vq⟩:=l47;obtain⟨_,Vr⟩:=l48;obtain⟨_,Vs⟩:=l49;obtain⟨_,Vt⟩:=l50;obtain⟨_,Vu⟩:=l51;obtain⟨_,Vv⟩:=l52;obtain⟨_,Vw⟩:=l53;obtain⟨_,Vx⟩:=l54;obtain⟨_,Vy⟩:=l55;obtain⟨_,Vz⟩:=l56;obtain⟨_,VA⟩:=l57;obtain⟨_,VB⟩:=l58;obtain⟨_,VC⟩:=l59;obtain⟨_,VD⟩:=l60;obtain⟨_,VE⟩:=l61;obtain⟨_,Xg⟩:=l62;obtain⟨oc,od,kV,doc,pm,an,EU,ct,Mw,rfl,lk,Lm⟩:=Xg.ex;refine⟨PySem.W.fnOf "law" "law" (FU rE) (Fx rE) (h_ rE) .none kV doc pm an EU ct,fun s v=>.of_eq rfl,fun base _ _=>?_⟩;have q:=@cF l.prog w K mg base h X G;have r:=@cM l.prog w K mg base;have C0:=q a0 F0 (MD F0 fun _ _ _ _ _ _ _ _ _=>rfl) (vn T  F0);have C1:=q a1 F1 (IV F1 fun _ _ _ _ _ _ _ _=>rfl) (tT T  F1);have C2:=q a2 F2 (IU F2 fun _ _ _ _ _ _ _=>rfl) (oO T C1 C0 F2);have C3:LF l.prog w K mg base (A_ l.prog w) "Sender" z_ 1 ["self","window","most"] (bW (⟨EI,z_,E3,HB,Gs⟩:Cs)):=⟨⟨f3,_,PySem.W.mg_of X G M_,⟨Nm,a3,i3,Nn⟩,(MD F3 fun _ _ _ _ _ _ _ _ _=>rfl),lI T  F3⟩⟩;have C4:LF l.prog w K mg base (A_ l.prog w) "Hearer" EI 1 ["self","window"] (bQ (⟨EI,z_,E3,HB,Gs⟩:Cs)):=⟨⟨f4,_,PySem.W.mg_of X G M9,⟨Ng,a4,i4,Nh⟩,(IV F4 fun _ _ _ _ _ _ _ _=>rfl),lW T  F4⟩⟩;have C5:LF l.prog w K mg base (A_ l.prog w) "World" E3 3 ["self","window","most"] (cD (⟨EI,z_,E3,HB,Gs⟩:Cs)):=⟨⟨f5,_,PySem.W.mg_of X G Ob,⟨Og,a5,i5,Oh⟩,(MD F5 fun _ _ _ _ _ _ _ _ _=>rfl),mQ T C3 C4 F5⟩⟩;have C6:=q a6 F6 (IV F6 fun _ _ _ _ _ _ _ _=>rfl) (tD T C1 C0 F6);have C7:=q a7 F7 (IV F7 fun _ _ _ _ _ _ _ _=>rfl) (tj T  F7);have C8:=r a8 i8 F8 (IV F8 fun _ _ _ _ _ _ _ _=>rfl) (pf T C7 F8);have C9:=r a9 i9 F9 (IV F9 fun _ _ _ _ _ _ _ _=>rfl) (rm T C8 F9)
 have Xh:=q Ze UN (IV UN fun _ _ _ _ _ _ _ _=>rfl) (oM T C0 UN);have Xi:=q Zg UO (IU UO fun _ _ _ _ _ _ _=>rfl) (qw T  UO);have VF:=q Zi UP (IV UP fun _ _ _ _ _ _ _ _=>rfl) (uR T  UP);have VG:=q Zk UQ (IV UQ fun _ _ _ _ _ _ _ _=>rfl) (xI T VF UQ);have C14:=q Zm UR (IU UR fun _ _ _ _ _ _ _=>rfl) (tX T VF VG UR);have C15:=q Zo US (IU US fun _ _ _ _ _ _ _=>rfl) (uk T VG US);have Xj:=q Zq UT (IU UT fun _ _ _ _ _ _ _=>rfl) (vT T VF C14 C15 UT);have C17:=q Zs UU (IU UU fun _ _ _ _ _ _ _=>rfl) (uS T  UU);have C18:=q Zu UW (IU UW fun _ _ _ _ _ _ _=>rfl) (vw T Xj C17 Xi UW);have Xk:=r Zw Zx UX (MD UX fun _ _ _ _ _ _ _ _ _=>rfl) (lv T C18 UX);have Xl:=q Zz UY (IV UY fun _ _ _ _ _ _ _ _=>rfl) (tU T  UY);have C21:=r ZC ZD UZ (IV UZ fun _ _ _ _ _ _ _ _=>rfl) (mW T Xl UZ);have C22:=r ZF ZG U0 (IU U0 fun _ _ _ _ _ _ _=>rfl) (nD T  U0);have C23:=r ZI ZJ U3 (IU U3 fun _ _ _ _ _ _ _=>rfl) (pE T C22 C21 U3);have C24:=r ZL ZM U4 (IU U4 fun _ _ _ _ _ _ _=>rfl) (rj T C23 Xk U4);have R3:=r ZO ZP U5 (MD U5 fun _ _ _ _ _ _ _ _ _=>rfl) (mn T  U5);have C26:=q ZR U6 (IU U6 fun _ _ _ _ _ _ _=>rfl) (tO T  U6);have C27:=q ZT U7 (IU U7 fun _ _ _ _ _ _ _=>rfl) (BM T VG Xi C26 Xj U7);have Xm:=r ZV ZW U8 (IV U8 fun _ _ _ _ _ _ _ _=>rfl) (oC T  U8);have C29:=r ZY ZZ U9 (IV U9 fun _ _ _ _ _ _ _ _=>rfl) (km T Xm U9);have Xn:=q Z1 U_ (IV U_ fun _ _ _ _ _ _ _ _=>rfl) (qQ T  U_);have Xo:=q Z3 Va (MD Va fun _ _ _ _ _ _ _ _ _=>rfl) (qU T  Va);have C32:=r Z5 Z6 Vb (MD Vb fun _ _ _ _ _ _ _ _ _=>rfl) (qF T Xn Xo Vb);have C33:=q Z8 Vc (IU Vc fun _ _ _ _ _ _ _=>rfl) (qM T  Vc);have C34:=r Z_ i34 Vd (IV Vd fun _ _ _ _ _ _ _ _=>rfl) (qa T C33 Vd);have C35:=r a35 i35 Ve (IU Ve fun _ _ _ _ _ _ _=>rfl) (mi T C34 Ve);have C36:=r a36 i36 Vf (IU Vf fun _ _ _ _ _ _ _=>rfl) (qc T Xl Vf);have C37:=r a37 i37 Vg (Zb Vg fun _ _ _ _ _ _ _ _ _ _=>rfl) (kF T C32 C35 C36 Vg);have C38:=r a38 i38 Vh (IV Vh fun _ _ _ _ _ _ _ _=>rfl) (oV T C29 C37 Vh);have Xp:=r a39 i39 Vi (IU Vi fun _ _ _ _ _ _ _=>rfl) (lB T C7 Vi);have C40:=r a40 i40 Vj (IV Vj fun _ _ _ _ _ _ _ _=>rfl) (lA T  Vj);have C41:=r a41 i41 Vk (IV Vk fun _ _ _ _ _ _ _ _=>rfl) (kh T  Vk);have C42:=r a42 i42 Vl (MD Vl fun _ _ _ _ _ _ _ _ _=>rfl) (kH T Xn Xo C40 C41 Vl);have C43:=r a43 i43 Vm (IV Vm fun _ _ _ _ _ _ _ _=>rfl) (lr T Xp C42 Vm);have C44:=r a44 i44 Vn (IV Vn fun _ _ _ _ _ _ _ _=>rfl) (oS T C43 Vn);have C45:=r a45 i45 Vo (MD Vo fun _ _ _ _ _ _ _ _ _=>rfl) (oG T C27 C38 Xk C44 Vo);have C46:=r a46 i46 Vp (IV Vp fun _ _ _ _ _ _ _ _=>rfl) (qR T R3 C45 Vp);have C47:=r a47 i47 Vq (MD Vq fun _ _ _ _ _ _ _ _ _=>rfl) (qJ T R3 Vq);have C48:=r a48 i48 Vr (MD Vr fun _ _ _ _ _ _ _ _ _=>rfl) (oU T R3 Vr);have C49:=q a49 Vs (MD Vs fun _ _ _ _ _ _ _ _ _=>rfl) (v6 T  Vs);have C50:=r a50 i50 Vt (Zc Vt fun _ _ _ _ _ _ _ _ _ _ _=>rfl) (qk T R3 C49 Vt);have C51:=r a51 i51 Vu (IU Vu fun _ _ _ _ _ _ _=>rfl) (qx T  Vu);have C52:=r a52 i52 Vv (IU Vv fun _ _ _ _ _ _ _=>rfl) (p6 T Xm Vv);have C53:=r a53 i53 Vw (IV Vw fun _ _ _ _ _ _ _ _=>rfl) (qK T C51 C52 Vw);have C54:=r a54 i54 Vx (IU Vx fun _ _ _ _ _ _ _=>rfl) (oK T Xp Vx);have C55:=r a55 i55 Vy (IU Vy fun _ _ _ _ _ _ _=>rfl) (qr T C54 Vy);have C56:=q a56 Vz (IV Vz fun _ _ _ _ _ _ _ _=>rfl) (vJ T Xh C9 C24 C46 C47 C48 C0 C50 C53 C55 Vz);have C57:=r a57 i57 VA (IU VA fun _ _ _ _ _ _ _=>rfl) (ny T  VA);have C58:=q a58 VB (IU VB fun _ _ _ _ _ _ _=>rfl) (pQ T Xh VB);have C59:=q a59 VC (IV VC fun _ _ _ _ _ _ _ _=>rfl) (oJ T  VC);have C60:=q a60 VD (IU VD fun _ _ _ _ _ _ _=>rfl) (qX T  VD);have C61:=r a61 i61 VE (IU VE fun _ _ _ _ _ _ _=>rfl) (lM T  VE);exact Ia.imp (B7 T C2 C5 C6 C56 C58 C57 C60 C61 C59 Xg) (zv (zo _))
theorem walk{l:PySem.W.OpenLaw}{q:Program}{loose:List Str}{XP:(Str->Option Value)->Heap->Prop}{YP:World->Heap->Prop}{d:DefRec}{K:Params->PySem.W.Frag}(hn:l.most=some 63)(Qu:d.params.defaults=[])
  (hY:∀(w:World) (h:Heap),YP w h->(K w.params).In h)
  (F:∀(w:World) (mg:Str->Option Value) (fa:Addr) (h:Heap),(K w.params).In h->h.Ns mainGlobals mg->mg d.name=some (.ref fa)->
   ∃fd:FuncData,(∀(s:Shared) (u:Value),BindsTo s fd ⟨[u],[]⟩ [("_law_script",u)])/\∀base:Heap,(K w.params).In base->base.Ns mainGlobals mg->Ia l.prog w (K w.params) mg base (A_ l.prog w) 10 fa fd ["_law_script"] (xz (K w.params))) :
  PySem.W.WalkO q loose XP YP l.row.toRowW d [] (fun f vs=>PySem.call f vs):=
 L2.NK (n:=63) (k:=10) (x:="_law_script") (CX:=fun w=>A_ l.prog w) (sp:=fun w=>xz (K w.params)) hn (by decide) Qu ⟨rfl,by decide,by decide⟩ hY F (fun _ _ a ns hl ho hS=>⟨a,ns,rfl,hS,hl,ho,fun _=>rfl⟩) fun _ _ _ _ _ z=>zp z
end Lw
end
open PySem PySem.W PyProof.Rows
set_option maxRecDepth 100000 in
set_option maxHeartbeats 0 in
theorem PySem.Challenge.cw_sureroad_k15_whole_sure_is_sure_holds : PySem.Challenge.rw_sureroad_k15_whole_sure_is_sure.Holds := by
 w_on;o_law;k_head;(case hw=>w_witness2)
 k_fill
 refine Lw.walk (l:=PySem.Challenge.rw_sureroad_k15_whole_sure_is_sure) rfl rfl (fun w h Y=>PySem.W.kIn_of Y) ?F
 case F=>
  intro w mg fa h KX G hmg;apply Lw.all_mk KX G hmg
  all_goals (first|k_is|(unfold Lw.nI;k_is)|(unfold Lw.fI;k_is)|(unfold Lw.iF;k_is)|(unfold Lw.nN;k_is)|(unfold Lw.fN;k_is)|(refine' Lw.oF_mk ?l ?c ?k;(case l=>k_is);(case c=>k_is);(case k=>k_is))|rfl|decide +kernel|k_exc)
