import PyProof.Rows.All
import Wide.All
import OpenK.AllK
import Wide.FinOn
import Lean
import PyProof.EqAt
import PyProof.EqKinds
import PyProof.TupleCall
import PyProof.P3Eq
import PyProof.NeKinds
import PyProof.StationsW
import PyProof.ExcClass3
import PyProof.NsDelKeeps
import PyProof.RulesAs
import PyProof.ListRange
import PyProof.ExcArgsOwn
import PyProof.IsiH_list
import PySem.Challenge.RW_sureroad_k18_whole_doubles_do_no_harm
set_option Elab.async false
set_option linter.all false
set_option maxRecDepth 100000
set_option maxHeartbeats 4000000
def PySem.W.Fast.tw9647064621278070418:=0
def PySem.W.Fast.tw6591096882640912914:=0
def PySem.W.Fast.tw7772136373875976407:=0
def PySem.W.Fast.tw17424466112067717169:=0
def PySem.W.Fast.tw9691192905874829346:=0
def PySem.W.Fast.tw12020099603891704517:=0
def PySem.W.Fast.tw1989077948563407668:=0
def PySem.W.Fast.tw13996929421555253399:=0
def PySem.W.Fast.tw6261484313015843203:=0
def PySem.W.Fast.tw16495546326375727654:=0
def PySem.W.Fast.tw8607763789661513122:=0
def PySem.W.Fast.tw9309514572736621212:=0
def PySem.W.Fast.tw7682436280963249482:=0
def PySem.W.Fast.tw4557065049814845539:=0
def PySem.W.Fast.tw5897121798762068683:=0
def PySem.W.Fast.tw4906559384687534274:=0
def PySem.W.Fast.tw1270852480097272172:=0
def PySem.W.Fast.tw12656340494893818712:=0
noncomputable section
namespace L2
open PySem PySem.Spec PyProof.Rows
abbrev Key:=Sum Int Str
def qZ:Key->Value->Bool
 |.inl k,v=>Value.isInt k v
 |.inr x,v=>Value.isStrOf x v
def Dy(w:World):Key->Int
 |.inl k=>hashInt k
 |.inr x=>hashStr w x
theorem cU:∀{k:Key}{v:Value},qZ k v=true->(∃i t,k=Sum.inl i/\v=Value.int i t)\/(∃x t,k=Sum.inr x/\v=Value.str x t)
 |.inl i,v,h=>by
  obtain⟨t,e⟩:=Value.isInt_shape (k:=i) (v:=v) h;exact .inl ⟨i,t,rfl,e⟩
 |.inr x,v,h=>by
  obtain⟨t,e⟩:=Value.isStrOf_shape (x:=x) (v:=v) h;exact .inr ⟨x,t,rfl,e⟩
theorem xu(i:Int)(t:Tok):qZ (.inl i) (.int i t)=true:=by simp[qZ,Value.isInt]
theorem xN(x:Str)(t:Tok):qZ (.inr x) (.str x t)=true:=by simp[qZ,Value.isStrOf]
theorem BI(a b:Int):decide ((Sum.inl a:Key)=Sum.inl b)=(a == b):=by
 by_cases e:a=b
 ·subst e;simp
 ·have h:¬(Sum.inl a:Key)=Sum.inl b:=fun q=>e (Sum.inl.inj q)
  rw[decide_eq_false h];exact(beq_eq_false_iff_ne.mpr e).symm
theorem Cf(a b:Str):decide ((Sum.inr a:Key)=Sum.inr b)=decide (a=b):=by
 by_cases e:a=b
 ·subst e;simp
 ·have h:¬(Sum.inr a:Key)=Sum.inr b:=fun q=>e (Sum.inr.inj q)
  rw[decide_eq_false h,decide_eq_false e]
theorem B5(a:Int)(b:Str):decide ((Sum.inl a:Key)=Sum.inr b)=false:=decide_eq_false (fun q=>nomatch q)
theorem B3(a:Str)(b:Int):decide ((Sum.inr a:Key)=Sum.inl b)=false:=decide_eq_false (fun q=>nomatch q)
def cW(prog:Program)(w:World):PySem.KeyKind prog w Key where
 is:=qZ
 hash:=Dy w
 inj:=fun v a b ha hb=>by
  rcases cU ha with ⟨i,t,rfl,rfl⟩|⟨x,t,rfl,rfl⟩
  ·rcases cU hb with ⟨j,u,rfl,e⟩|⟨y,u,rfl,e⟩
   ·injection e with e1 _;rw[e1]
   ·exact nomatch e
  ·rcases cU hb with ⟨j,u,rfl,e⟩|⟨y,u,rfl,e⟩
   ·exact nomatch e
   ·injection e with e1 _;rw[e1]
 byValue:=fun k v h=>by
  rcases cU h with ⟨i,t,rfl,rfl⟩|⟨x,t,rfl,rfl⟩<;>rfl
 pyHash:=fun hv h=>by
  rcases cU hv with ⟨i,t,rfl,rfl⟩|⟨x,t,rfl,rfl⟩
  ·exact wpAny_pyHash_int h
  ·exact wpAny_pyHash_str h
 eqBool:=fun hu hv h=>by
  rcases cU hu with ⟨i,t,rfl,rfl⟩|⟨x,t,rfl,rfl⟩
  ·rcases cU hv with ⟨j,u,rfl,rfl⟩|⟨y,u,rfl,rfl⟩
   ·rw[BI] at h;exact wpAny_eqBool_int h
   ·rw[B5] at h;exact SeqAt.EqAt.int_str i t y u _ _ _ _ h
  ·rcases cU hv with ⟨j,u,rfl,rfl⟩|⟨y,u,rfl,rfl⟩
   ·rw[B3] at h;exact SeqAt.EqAt.str_int x t j u _ _ _ _ h
   ·rw[Cf] at h;exact wpAny_eqBool_str h
 «strs»:=fun k x t v h=>by
  rcases cU h with ⟨i,u,rfl,e⟩|⟨y,u,rfl,e⟩
  ·exact nomatch e
  ·injection e with e1 _
   subst e1;cases v<;>rfl
theorem ur(prog:Program)(w:World)(i:Int)(t:Tok):(cW prog w).is (.inl i) (.int i t)=true:=xu i t
theorem uj(prog:Program)(w:World)(x:Str)(t:Tok):(cW prog w).is (.inr x) (.str x t)=true:=xN x t
end L2
namespace L2
open PySem PySem.Spec PyProof.Rows
inductive V where
 |non|bl (b:Bool)|int (i:Int)|str (x:Str)|byt (b:Array UInt8)|flt (b:UInt64)|ref (a:Addr)|ty (n:String)
 deriving DecidableEq
def RelV:V->Value->Prop
 |.non,u=>u=Value.none
 |.bl b,u=>u=Value.bool b
 |.int i,u=>∃t,u=Value.int i t
 |.str x,u=>∃t,u=Value.str x t
 |.byt b,u=>∃t,u=Value.bytes b t
 |.flt b,u=>∃t,u=Value.float b t
 |.ref a,u=>u=Value.ref a
 |.ty n,u=>u=Value.type n
abbrev Vals:List V->List Value->Prop:=Paired RelV
theorem Vals.length{xs:List V}{us:List Value}(r:Vals xs us):xs.length=us.length:=Paired.length r
theorem Vals.get:∀{xs:List V}{us:List Value}{i:Nat}{x:V},Vals xs us->xs[i]?=some x->∃u,us[i]?=some u/\RelV x u
 |_,_,_,_,.nil,e=>by simp at e
 |_,_,0,_,.cons r _,e=>by simp at e;subst e;exact⟨_,rfl,r⟩
 |_,_,i+1,x,.cons _ t,e=>by
  obtain⟨u,h1,h2⟩:=Vals.get (i:=i) (x:=x) t (by simpa using e);exact⟨u,by simpa using h1,h2⟩
theorem Vals.set{x:V}{u:Value}(r:RelV x u):∀{xs:List V}{us:List Value}(i:Nat),Vals xs us->Vals (xs.set i x) (us.set i u)
 |_,_,_,.nil=>.nil
 |_,_,0,.cons _ t=>.cons r t
 |_,_,i+1,.cons q t=>.cons q (Vals.set r i t)
theorem Vals.append:∀{xs ys:List V}{us ws:List Value},Vals xs us->Vals ys ws->Vals (xs++ys) (us++ws)
 |_,_,_,_,.nil,s=>s
 |_,_,_,_,.cons r t,s=>.cons r (Vals.append t s)
theorem Vals.take:∀{xs:List V}{us:List Value}(n:Nat),Vals xs us->Vals (xs.take n) (us.take n)
 |_,_,0,_=>.nil
 |_,_,_+1,.nil=>.nil
 |_,_,n+1,.cons r t=>.cons r (Vals.take n t)
theorem Vals.drop:∀{xs:List V}{us:List Value}(n:Nat),Vals xs us->Vals (xs.drop n) (us.drop n)
 |_,_,0,r=>r
 |_,_,_+1,.nil=>.nil
 |_,_,n+1,.cons _ t=>Vals.drop n t
theorem Vals.none_of:∀{xs:List V}{us:List Value}{i:Nat},Vals xs us->xs[i]?=none->us[i]?=none:=fun {xs us i} r e=>by
 have h1:=r.length;have h2:xs.length<=i:=List.getElem?_eq_none_iff.mp e;exact List.getElem?_eq_none_iff.mpr (by omega)
def RelO:Option V->Option Value->Prop
 |some v,some u=>RelV v u
 |none,none=>True
 |_,_=>False
def KV{κ:Type}:List (κ×V)->List (κ×Value)->Prop:=Paired fun(p:κ×V) (q:κ×Value)=>p.1=q.1/\RelV p.2 q.2
def kV:Key->V
 |.inl i=>.int i
 |.inr x=>.str x
inductive HO where
 |lst (xs:List V)
 |tup (xs:List V)
 |dK (kvs:List (Key×V))|dT (kvs:List (List Key×V))
 |set (S:Int->Bool) (n:Nat)
 |ins (C dx:Addr) (fs:List (Str×V))
 |own (x:Addr)
 |xd (fs:List (Str×V))
 |met (f x:Addr)
 |rng (lo hi:Int)
 |frz (o:Obj) (u:HO)
 |tbl (ps:Array Value)
 |ext (φ:Heap->Prop)
abbrev Hp:=Addr->Option HO
def upd(H:Hp)(a:Addr)(o:HO):Hp:=fun b=>if b=a then some o else H b
theorem bE{H:Hp}{a:Addr}{o:HO}:upd H a o a=some o:=by unfold upd;rw[if_pos rfl]
theorem br{H:Hp}{a b:Addr}{o:HO}(h:b≠a):upd H a o b=H b:=by unfold upd;rw[if_neg h]
theorem CM{H:Hp}{a b:Addr}{o u:HO}(h:H a=some o)(h':H b=some u)(d:o≠u):a≠b:=by
 intro e;subst e;rw[h] at h';exact d (Option.some.inj h')
theorem bi{H:Hp}{a b:Addr}{o:HO}(h:H a=some o)(h':H b=none):a≠b:=by
 intro e;subst e;rw[h] at h';cases h'
section
variable(P:Program)(w:World)
def ObjOk(H:Hp)(h:Heap)(a:Addr):HO->Prop
 |.lst xs=>xs.length<=sizeLine/\∃(its:List Value) (n:Nat),Vals xs its/\h.get? a=some { cls:=.type "list",data:=.seq its.toArray n }
 |.tup xs=>xs.length<=sizeLine/\∃its:List Value,Vals xs its/\IsTup h a its.toArray
 |.dK kvs=>kvs.length<=sizeLine/\(a == sysModules)=false/\∃vs,KV kvs vs/\h.DictOf (cW P w) a vs
 |.dT kvs=>kvs.length<=sizeLine/\(a == sysModules)=false/\∃xs:List (List Key×Addr×Value),
   Paired (fun(p:List Key×V) (q:List Key×Addr×Value)=>p.1=q.1/\H q.2.1=some (.tup (p.1.map kV))/\RelV p.2 q.2.2) kvs xs/\
   ∃o es ep,h.get? a=some o/\o.ExactDict/\o.data=.dict es ep/\es.toList=xs.map (entryOfKey (tupleKind (cW P w)))/\(xs.map (·.1)).Nodup
 |.set S n=>h.SetOf (intKind P w) a S n
 |.ins C dx fs=>H dx=some (.own a)/\fs.length<=1000/\dx≠a/\h.get? a=some (PySem.W.instObj C dx)/\
   ∃mA,h.Ns1 dx mA/\(∀f,RelO (fs.lookup f) (mA f))/\PySem.Within mA (fs.map (·.1))
 |.own _=>∃o,h.get? a=some o
 |.xd fs=>∃mA,h.Ns1 a mA/\∀f,RelO (fs.lookup f) (mA f)
 |.rng lo hi=>∃t u v,h.get? a=some { cls:=.type "range",data:=.fields #[.int lo t,.int hi u,.int 1 v] }
 |.frz o u=>h.get? a=some o/\ObjOk H h a u
 |.tbl ps=>h.get? a=some { cls:=.none,data:=.fields ps }
 |.met f x=>h.get? a=some (PySem.W.methodObj (.ref f) (.ref x))
 |.ext φ=>φ h/\(∃o,h.get? a=some o)/\∀h1 h2:Heap,φ h1->(∀o,h1.get? a=some o->h2.get? a=some o)->φ h2
def HOk(H:Hp)(h:Heap):Prop:=∀a o,H a=some o->ObjOk P w H h a o
end
section
variable{P:Program}{w:World}{H H':Hp}{h h':Heap}{a:Addr}{o:HO}
theorem ObjOk.lt(x:ObjOk P w H h a o):a<h.objs.size:=by
 cases o with
 |lst xs=>obtain⟨_,_,_,_,e⟩:=x;exact Heap.lt_size e
 |tup xs=>obtain⟨_,_,_,p⟩:=x;exact p.lt
 |dK kvs=>obtain⟨_,_,_,_,o,_,_,e,_⟩:=x;exact Heap.lt_size e
 |dT kvs=>obtain⟨_,_,_,_,o,_,_,e,_⟩:=x;exact Heap.lt_size e
 |set S n=>obtain⟨o,_,_,_,e,_⟩:=x;exact Heap.lt_size e
 |ins C dx fs=>obtain⟨_,_,_,e,_⟩:=x;exact Heap.lt_size e
 |own y=>obtain⟨_,e⟩:=x;exact Heap.lt_size e
 |xd fs=>obtain⟨_,⟨_,_,_,e,_⟩,_⟩:=x;exact Heap.lt_size e
 |rng lo hi=>obtain⟨_,_,_,e⟩:=x;exact Heap.lt_size e
 |frz ob u=>obtain⟨e,_⟩:=x;exact Heap.lt_size e
 |tbl ps=>exact Heap.lt_size (show h.get? a=some _ from x)
 |met f y=>exact Heap.lt_size (show h.get? a=some _ from x)
 |ext φ=>obtain⟨_,⟨_,e⟩,_⟩:=x;exact Heap.lt_size e
theorem Paired.mapP{α β:Type}{F G:α->β->Prop}:∀{l₁:List α}{l₂:List β},Paired F l₁ l₂->(∀a b,F a b->G a b)->Paired G l₁ l₂
 |_,_,.nil,_=>.nil
 |_,_,.cons r t,f=>.cons (f _ _ r) (Paired.mapP t f)
theorem ObjOk.stay(x:ObjOk P w H h a o)(k:∀b u,(b=a\/H b=some (.own a))->h.get? b=some u->h'.get? b=some u)
  (ho:∀b,H b=some (.own a)->H' b=some (.own a)) (ht:∀b xs,H b=some (.tup xs)->H' b=some (.tup xs)):ObjOk P w H' h' a o:=by
 induction o with
 |lst xs=>obtain⟨z,its,n,r,e⟩:=x;exact⟨z,its,n,r,k _ _ (.inl rfl) e⟩
 |tup xs=>obtain⟨z,its,r,ob,e,c⟩:=x;exact⟨z,its,r,ob,k _ _ (.inl rfl) e,c⟩
 |dK kvs=>obtain⟨z,y,vs,r,ob,es,ep,e,c⟩:=x;exact⟨z,y,vs,r,ob,es,ep,k _ _ (.inl rfl) e,c⟩
 |dT kvs=>
  obtain⟨z,y,xs,r,ob,es,ep,e,c⟩:=x;exact⟨z,y,xs,Paired.mapP r fun p q z=>⟨z.1,ht _ _ z.2.1,z.2.2⟩,ob,es,ep,k _ _ (.inl rfl) e,c⟩
 |set S n=>obtain⟨ob,es,ep,t,e,c⟩:=x;exact⟨ob,es,ep,t,k _ _ (.inl rfl) e,c⟩
 |ins C dx fs=>
  obtain⟨d,z,ne,e,mA,⟨od,es,ep,e2,c⟩,r⟩:=x;exact⟨ho _ d,z,ne,k _ _ (.inl rfl) e,mA,⟨od,es,ep,k _ _ (.inr d) e2,c⟩,r⟩
 |own y=>obtain⟨ob,e⟩:=x;exact⟨ob,k _ _ (.inl rfl) e⟩
 |xd fs=>obtain⟨mA,⟨od,es,ep,e,c⟩,r⟩:=x;exact⟨mA,⟨od,es,ep,k _ _ (.inl rfl) e,c⟩,r⟩
 |rng lo hi=>obtain⟨t,u,v,e⟩:=x;exact⟨t,u,v,k _ _ (.inl rfl) e⟩
 |frz ob u ih=>obtain⟨e,q⟩:=x;exact⟨k _ _ (.inl rfl) e,ih q⟩
 |tbl ps=>
  have e:h.get? a=some { cls:=.none,data:=.fields ps }:=x;show h'.get? a=some { cls:=.none,data:=.fields ps };exact k a _ (.inl rfl) e
 |met f y=>
  have e:h.get? a=some (PySem.W.methodObj (.ref f) (.ref y)):=x;show h'.get? a=some (PySem.W.methodObj (.ref f) (.ref y));exact k a _ (.inl rfl) e
 |ext φ=>obtain⟨p,⟨o,e⟩,st⟩:=x;exact⟨st _ _ p fun o q=>k _ _ (.inl rfl) q,⟨o,k _ _ (.inl rfl) e⟩,st⟩
theorem HOk.lt(x:HOk P w H h)(e:H a=some o):a<h.objs.size:=(x a o e).lt
theorem HOk.fresh(x:HOk P w H h)(e:h.objs.size<=a):H a=none:=by
 cases q:H a with
 |none=>rfl
 |some u=>exact absurd (Nat.lt_of_lt_of_le (x.lt q) e) (Nat.lt_irrefl _)
theorem HOk.kept(x:HOk P w H h)(k:∀b u,h.get? b=some u->h'.get? b=some u):HOk P w H h':=fun a o e=>
 (x a o e).stay (fun b u _ q=>k b u q) (fun _ q=>q) fun _ _ q=>q
theorem HOk.laid(x:HOk P w H h)(k:∀b u,h.get? b=some u->h'.get? b=some u)(hp:h.objs.size<=a)(new:ObjOk P w (upd H a o) h' a o):HOk P w (upd H a o) h':=fun b u e=>by
 have hn:=x.fresh hp;by_cases hb:b=a
 ·subst hb;rw[bE] at e;cases e;exact new
 ·rw[br hb] at e;exact(x b u e).stay (fun c v _ q=>k c v q) (fun c q=>by rw[br (bi q hn)];exact q) fun c xs q=>by rw[br (bi q hn)];exact q
end
def Rd(H:Hp)(a:Addr)(u:HO):Prop:=H a=some u\/∃o,H a=some (.frz o u)
theorem Rd.of{H:Hp}{a:Addr}{u:HO}(h:H a=some u):Rd H a u:=.inl h
theorem Rd.ok{P:Program}{w:World}{H:Hp}{h:Heap}{a:Addr}{u:HO}(r:Rd H a u)(x:HOk P w H h):ObjOk P w H h a u:=by
 rcases r with r|⟨o,r⟩
 ·exact x a u r
 ·obtain⟨_,q⟩:=x a _ r;exact q
def Mut:Option HO->Prop
 |some (.lst _)=>True
 |some (.dK _)=>True
 |some (.dT _)=>True
 |some (.set _ _)=>True
 |some (.ins _ _ _)=>True
 |some (.ext _)=>True
 |_=>False
section
variable{P:Program}{w:World}{H:Hp}{h h':Heap}{x e:Addr}{o':HO}
theorem HOk.write(ok:HOk P w H h)(mu:Mut (H x))(he:e=x\/H e=some (.own x))(k:∀b u,b≠e->h.get? b=some u->h'.get? b=some u)(heo:∃u,h'.get? e=some u)
  (new:ObjOk P w (upd H x o') h' x o'):HOk P w (upd H x o') h':=fun b u q=>by
 have nown:∀c y,H c=some (.own y)->c≠x:=fun c y r z=>by subst z;rw[r] at mu;exact mu
 have ntup:∀c xs,H c=some (.tup xs)->c≠x:=fun c xs r z=>by subst z;rw[r] at mu;exact mu
 by_cases hb:b=x
 ·subst hb;rw[bE] at q;cases q;exact new
 ·rw[br hb] at q;by_cases hbe:b=e
  ·have q':H b=some (.own x):=by
    rcases he with z|z
    ·exact absurd (hbe.trans z) hb
    ·rw[hbe];exact z
   rw[q] at q';cases q';obtain⟨v,hv⟩:=heo;exact⟨v,by rw[hbe];exact hv⟩
  ·refine(ok b u q).stay (fun c v hc r=>k c v ?_ r) (fun c r=>by rw[br (nown c b r)];exact r) fun c xs r=>by rw[br (ntup c xs r)];exact r
   rcases hc with rfl|hc
   ·exact hbe
   ·rintro rfl;rcases he with z|z
    ·exact nown c b hc z
    ·rw[hc] at z;cases z;exact hb rfl
end
structure Un(fs ex:List Addr)(H H':Hp)(h h':Heap):Prop where
 keep:∀b o,h.get? b=some o->H b=none->b∉fs->b∉ex->h'.get? b=some o
 slot:∀b o,h.get? b=some o->H b=none->b∈fs->b∉ex->∃sl,h'.get? b=some { o with slots:=sl }
 free:∀b o,h.get? b=some o->H b=none->b∉ex->H' b=none
 there:∀b o,h.get? b=some o->b∉ex->∃o',h'.get? b=some o'
 tups:∀b xs,H b=some (.tup xs)->H' b=some (.tup xs)
 frzs:∀b o u,H b=some (.frz o u)->H' b=some (.frz o u)
 tbls:∀b ps,H b=some (.tbl ps)->∃more,H' b=some (.tbl (ps++more))
section
variable{fs fs' ex ex':List Addr}{H H1 H2:Hp}{h h1 h2 h':Heap}{a x e:Addr}{o:HO}
theorem Un.any(u:Un fs ex H H1 h h1){b:Addr}{ob:Obj}(q:h.get? b=some ob)(n:H b=none)(hx:b∉ex):∃sl,h1.get? b=some { ob with slots:=sl }:=by
 by_cases hb:b∈fs
 ·exact u.slot b ob q n hb hx
 ·exact⟨ob.slots,u.keep b ob q n hb hx⟩
theorem Un.trans(a:Un fs ex H H1 h h1)(b:Un fs ex H1 H2 h1 h2):Un fs ex H H2 h h2 where
 keep:=fun c ob q n hc hx=>b.keep c ob (a.keep c ob q n hc hx) (a.free c ob q n hx) hc hx
 slot:=fun c ob q n hc hx=>by
  obtain⟨sl,e1⟩:=a.slot c ob q n hc hx;obtain⟨sl',e2⟩:=b.slot c _ e1 (a.free c ob q n hx) hc hx;exact⟨sl',e2⟩
 free:=fun c ob q n hx=>by
  obtain⟨o',e1⟩:=a.there c ob q hx;exact b.free c o' e1 (a.free c ob q n hx) hx
 there:=fun c ob q hx=>by
  obtain⟨o',e1⟩:=a.there c ob q hx;exact b.there c o' e1 hx
 tups:=fun c xs q=>b.tups c xs (a.tups c xs q)
 frzs:=fun c ob xs q=>b.frzs c ob xs (a.frzs c ob xs q)
 tbls:=fun c ps q=>by
  obtain⟨m1,e1⟩:=a.tbls c ps q;obtain⟨m2,e2⟩:=b.tbls c _ e1;exact⟨m1++m2,by rw[e2,Array.append_assoc]⟩
theorem Un.kept(k:∀b u,h.get? b=some u->h'.get? b=some u):Un fs ex H H h h':=
 ⟨fun b ob q _ _ _=>k b ob q,fun b ob q _ _ _=>⟨ob.slots,k b ob q⟩,fun _ _ _ n _=>n,fun b ob q _=>⟨ob,k b ob q⟩,fun _ _ q=>q,fun _ _ _ q=>q,fun _ ps q=>⟨#[],by rw[q];simp⟩⟩
theorem Un.refl:Un fs ex H H h h:=Un.kept fun _ _ q=>q
theorem Un.laid(k:∀b u,h.get? b=some u->h'.get? b=some u)(hp:h.objs.size<=a)(hn:H a=none):Un fs ex H (upd H a o) h h' where
 keep:=fun b u q _ _ _=>k b u q
 slot:=fun b u q _ _ _=>⟨u.slots,k b u q⟩
 free:=fun b u q n _=>by rw[br (Nat.ne_of_lt (Nat.lt_of_lt_of_le (Heap.lt_size q) hp))];exact n
 there:=fun b u q _=>⟨u,k b u q⟩
 tups:=fun b xs q=>by rw[br (bi q hn)];exact q
 frzs:=fun b u xs q=>by rw[br (bi q hn)];exact q
 tbls:=fun b ps q=>⟨#[],by rw[br (bi q hn),q];simp⟩
theorem Un.write(mu:Mut (H x))(he:e=x\/H e=some (.own x))(k:∀b u,b≠e->h.get? b=some u->h'.get? b=some u)(heo:∃u,h'.get? e=some u):Un fs ex H (upd H x o) h h':=by
 have hx:∀b,H b=none->b≠x:=fun b n z=>by subst z;rw[n] at mu;exact mu
 have hb:∀b,H b=none->b≠e:=fun b n z=>by
  subst z;rcases he with r|r
  ·exact hx b n r
  ·rw[n] at r;cases r
 have hm:∀b u,H b=some u->¬Mut (some u)->b≠x:=fun b u q nm z=>by subst z;rw[q] at mu;exact nm mu
 refine⟨fun b u q n _ _=>k b u (hb b n) q,fun b u q n _ _=>⟨u.slots,k b u (hb b n) q⟩,fun b u q n _=>by rw[br (hx b n)];exact n,fun b u q _=>?_,
  fun b xs q=>by rw[br (hm b _ q fun z=>z)];exact q,fun b u xs q=>by rw[br (hm b _ q fun z=>z)];exact q,fun b ps q=>⟨#[],by rw[br (hm b _ q fun z=>z),q];simp⟩⟩
 by_cases hbe:b=e
 ·subst hbe;exact heo
 ·exact⟨u,k b u hbe q⟩
theorem Un.mono(u:Un fs ex H H1 h h1)(hs:∀b∈fs,b∈fs')(hx:∀b∈ex,b∈ex'):Un fs' ex' H H1 h h1:=
 ⟨fun b ob q n hb he=>u.keep b ob q n (fun z=>hb (hs b z)) fun z=>he (hx b z),fun _ _ q n _ he=>u.any q n fun z=>he (hx _ z),fun b ob q n he=>u.free b ob q n fun z=>he (hx b z),fun b ob q he=>u.there b ob q fun z=>he (hx b z),u.tups,u.frzs,u.tbls⟩
end
def trk(h:Heap)(H:Hp):List Addr:=(List.range h.objs.size).filter fun a=>(H a).isSome
def tu(h:Heap)(H:Hp):Heap:=PySem.W.hideAll h (trk h H)
theorem xa(h:Heap)(H:Hp):(tu h H).objs.size=h.objs.size:=PySem.W.hideAll_size _ _
theorem yR{h:Heap}{H:Hp}{b:Addr}{o:Obj}(e:h.get? b=some o)(n:H b=none):(tu h H).get? b=some o:=
 PySem.W.hideAll_get _ e fun hm=>by
  have q:(H b).isSome=true:=(List.mem_filter.mp hm).2;rw[n] at q;simp at q
theorem AC{h:Heap}{H:Hp}{b:Addr}{o:Obj}(e:(tu h H).get? b=some o):h.get? b=some o/\H b=none:=by
 have e':h.get? b=some o:=PySem.W.of_hideAll (trk h H) e;refine⟨e',?_⟩;cases q:H b with
 |none=>rfl
 |some x=>
  have hm:b∈trk h H:=List.mem_filter.mpr ⟨List.mem_range.mpr (Heap.lt_size e'),by simp[q]⟩;have z:(tu h H).get? b=none:=PySem.W.hideAll_none (trk h H) hm;rw[z] at e;cases e
def zM(g h:Heap)(L:Addr):List (Addr×Obj):=(List.range h.objs.size).filterMap fun a=>if a=L\/(g.get? a).isSome=true then none else (h.get? a).map fun o=>(a,o)
def rest(g h:Heap)(L d:Addr):List (Addr×Obj):=(zM g h L).filter fun p=>decide (p.1≠d)
end L2
namespace L2
open PySem PySem.Spec PyProof.Rows
structure Mod(K:PySem.W.Frag)(mg:Str->Option Value)(base:Heap):Prop where
 kin:K.In base
 glob:base.Ns mainGlobals mg
 blt:∃mb,base.Ns builtinsNs mb/\∀x:Str,x≠"__name__"->mb x=bootBuiltins x
 nolimit:base.NoLimit
structure Cx where
 prog:Program
 w:World
 K:PySem.W.Frag
 mg:Str->Option Value
 base:Heap
 A:Around
 N:List Str
 s₀:Shared
 H₀:Hp
 env:Env
 outer:List Env
 stack:List Env
 ex:List Addr
 fn:Str->Bool
 calm:Bool
 pn:List (Addr×Obj)
 xe:Value->Shared->Prop
def frs(l:List Env):List Addr:=l.filterMap (·.frame)
abbrev Cx.fs(X:Cx):List Addr:=frs X.outer
def Vis(sc:Scope)(x:Str):Prop:=sc.names.lookup x=some .local\/sc.names.lookup x=some .cell\/sc.names.lookup x=some .free
def Loc(sc:Scope)(x:Str):Prop:=sc.names.lookup x=some .local\/sc.names.lookup x=some .cell
def Look(env:Env)(h:Heap)(m:Str->Option Value)(x:Str)(u:Value):Prop:=
 (env.kindOf x=some .local/\m x=some u)\/((env.kindOf x=some .cell\/env.kindOf x=some .free)/\∃c,env.cells.lookup x=some c/\h.IsCell c (some u))
structure Cx.Ok(X:Cx):Prop where
 mod:Mod X.K X.mg X.base
 kind:X.env.scope.kind=.function
 glob:X.env.globals=mainGlobals
 blt:X.env.builtins=builtinsNs
 above:X.s₀.heap.objs.size<=X.env.locals
 inj:∀x y c,X.env.cells.lookup x=some c->X.env.cells.lookup y=some c->x=y
 has:∀x,(X.env.kindOf x=some .cell\/X.env.kindOf x=some .free)->∃c,X.env.cells.lookup x=some c
 cab:∀x c,X.fn x=true->X.env.cells.lookup x=some c->X.s₀.heap.objs.size<=c
 hd:X.calm=true->X.A.handled=none
 frames:X.A.frames=some X.stack
 stk:X.stack=X.outer\/(X.stack=X.env :: X.outer/\X.env.frame=some X.env.locals)
 exf:∀b∈X.ex,b≠X.env.locals/\∀x c,X.env.cells.lookup x=some c->c≠b
 bs:∀b o,X.base.get? b=some o->X.s₀.heap.get? b=some o/\X.H₀ b=none
 bsz:X.base.objs.size<=X.s₀.heap.objs.size
 noex:∀b o,X.base.get? b=some o->b∉X.ex
 exfs:∀b∈X.ex,b∉X.fs
 funs:X.s₀.heap.FunFrames X.base X.outer
 frf:∀b∈X.fs,X.H₀ b=none
structure Inv(X:Cx)(pins:List (Addr×Obj))(σ:List (Option V))(H:Hp)(s:Shared):Prop where
 ok:X.Ok
 os:s.os=X.s₀.os
 bare:AllBare s.gens
 base:Un X.fs X.ex X.H₀ H X.s₀.heap s.heap
 loc:∃m,s.heap.Ns X.env.locals m/\∀(i:Nat) (x:Str) (v:V),X.N[i]?=some x->σ[i]?=some (some v)->Vis X.env.scope x->∃u,RelV v u/\Look X.env s.heap m x u
 cell:∀x c,X.env.cells.lookup x=some c->∃v,s.heap.IsCell c v
 free:H X.env.locals=none
 freeC:∀x c,X.env.cells.lookup x=some c->H c=none
 pin:∀p∈X.pn++pins,s.heap.get? p.1=some p.2/\H p.1=none/\p.1≠X.env.locals/\p.1∉X.fs/\∀v,p.2.data≠.cell v
 hok:HOk X.prog X.w H s.heap
 len:σ.length=X.N.length
section
variable{X:Cx}{pins:List (Addr×Obj)}{σ:List (Option V)}{H H':Hp}{s:Shared}{h':Heap}
theorem Cx.Ok.nofr(ok:X.Ok){b:Addr}{o:Obj}(e:X.base.get? b=some o):b∉X.fs:=fun hb=>by
 have:=(ok.funs.mem hb).1;rw[e] at this;cases this
theorem Inv.bs(I:Inv X pins σ H s):∀b o,X.base.get? b=some o->s.heap.get? b=some o/\H b=none:=fun b o e=>
 ⟨I.base.keep b o (I.ok.bs b o e).1 (I.ok.bs b o e).2 (I.ok.nofr e) (I.ok.noex b o e),I.base.free b o (I.ok.bs b o e).1 (I.ok.bs b o e).2 (I.ok.noex b o e)⟩
theorem Inv.bk(I:Inv X pins σ H s):∀b o,X.base.get? b=some o->s.heap.get? b=some o:=fun b o e=>(I.bs b o e).1
theorem Inv.mod(I:Inv X pins σ H s):Mod X.K X.mg X.base:=I.ok.mod
theorem Inv.kIn(I:Inv X pins σ H s):X.K.In s.heap:=I.ok.mod.kin.keeps I.bk
theorem Inv.nolimit(I:Inv X pins σ H s):s.heap.NoLimit:=I.ok.mod.nolimit.keeps I.bk
theorem Inv.fr(I:Inv X pins σ H s):∃m,Fr X.base X.env.locals s.heap m:=
 let ⟨m,hn,_⟩:=I.loc
 ⟨m,hn,I.bk,Nat.le_trans I.ok.bsz I.ok.above⟩
theorem Inv.lt(I:Inv X pins σ H s):X.env.locals<s.heap.objs.size:=let ⟨_,hn,_⟩:=I.loc;hn.lt
theorem Inv.sz(I:Inv X pins σ H s):X.s₀.heap.objs.size<=s.heap.objs.size:=Nat.le_trans I.ok.above (Nat.le_of_lt I.lt)
theorem Inv.nofs(I:Inv X pins σ H s){a:Addr}(h:s.heap.objs.size<=a):a∉X.fs:=fun hb=>by
 obtain⟨_,o,ho,_⟩:=I.ok.funs.mem hb;exact absurd (Nat.lt_of_lt_of_le (Heap.lt_size ho) (Nat.le_trans I.sz h)) (Nat.lt_irrefl _)
theorem Inv.cne(I:Inv X pins σ H s):∀x c,X.env.cells.lookup x=some c->c≠X.env.locals:=fun x c e z=>by
 obtain⟨v,o,ho,hd⟩:=I.cell x c e;obtain⟨m,⟨o',es,ep,ho',hd',_⟩,_⟩:=I.loc;rw[z,ho'] at ho;cases ho;rw[hd'] at hd;cases hd
theorem Inv.funs(I:Inv X pins σ H s):s.heap.FunFrames X.base X.outer:=by
 have all:∀(l:List Env),(∀b∈frs l,b∈X.fs)->X.s₀.heap.FunFrames X.base l->s.heap.FunFrames X.base l:=by
  intro l
  induction l with
  |nil=>intro _ _;trivial
  |cons env r ih=>
   intro hs hl;obtain⟨hk,⟨L,o,hf,hn,ho,hd⟩,hr⟩:=hl;have hL:L∈X.fs:=hs L (by unfold frs;rw[List.filterMap_cons,hf];exact List.mem_cons_self);obtain⟨sl,e⟩:=I.base.slot L o ho (I.ok.frf L hL) hL fun z=>I.ok.exfs L z hL
   exact⟨hk,⟨L,_,hf,hn,e,hd⟩,ih (fun b hb=>hs b (by unfold frs;rw[List.filterMap_cons,hf];exact List.mem_cons_of_mem _ hb)) hr⟩
 exact all X.outer (fun _ hb=>hb) I.ok.funs
theorem Inv.stack(I:Inv X pins σ H s):s.heap.FunFrames X.base X.stack:=by
 rcases I.ok.stk with e|⟨e,hf⟩
 ·rw[e];exact I.funs
 ·rw[e];obtain⟨m,hn,_⟩:=I.loc;refine .cons (by rw[I.ok.kind];decide) hf hn ?_ I.funs;exact Heap.get?_none_of_le (Nat.le_trans I.ok.bsz I.ok.above)
theorem Inv.stkSub(I:Inv X pins σ H s):∀b∈frs X.stack,b∈X.env.locals :: X.fs:=fun b hb=>by
 rcases I.ok.stk with e|⟨e,hf⟩
 ·rw[e] at hb;exact List.mem_cons_of_mem _ hb
 ·rw[e] at hb;unfold frs at hb;rw[List.filterMap_cons,hf] at hb;exact hb
theorem Inv.stkFree(I:Inv X pins σ H s):∀b∈frs X.stack,H b=none:=fun b hb=>by
 rcases List.mem_cons.mp (I.stkSub b hb) with e|hb
 ·rw[e];exact I.free
 ·obtain⟨_,o,ho,_⟩:=I.ok.funs.mem hb;exact I.base.free b o ho (I.ok.frf b hb) fun z=>I.ok.exfs b z hb
theorem Inv.step{g':Array GenState}{t':Nat}{d':Drawn}{ch:List Addr}(I:Inv X pins σ H s)
  (hch:∀b∈ch,(b∈X.ex\/X.s₀.heap.objs.size<=b)/\b≠X.env.locals/\(∀x c,X.env.cells.lookup x=some c->c≠b)/\∀p∈X.pn++pins,p.1≠b)
  (keep:∀b o,b≠X.env.locals->b∉X.fs->b∉ch->s.heap.get? b=some o->H b=none->h'.get? b=some o)
  (slot:∀b o,b≠X.env.locals->b∈X.fs->b∉ch->s.heap.get? b=some o->H b=none->∃sl,h'.get? b=some { o with slots:=sl }) (free:∀b o,b∉ch->s.heap.get? b=some o->H b=none->H' b=none)
  (there:∀b o,b∉ch->s.heap.get? b=some o->∃o',h'.get? b=some o')
  (tups:∀b xs,H b=some (.tup xs)->H' b=some (.tup xs)) (frzs:∀b o u,H b=some (.frz o u)->H' b=some (.frz o u)) (tbls:∀b ps,H b=some (.tbl ps)->∃more,H' b=some (.tbl (ps++more)))
  (ns:∀m,s.heap.Ns X.env.locals m->h'.Ns X.env.locals m) (hok:HOk X.prog X.w H' h') (hg:AllBare g') :
  Inv X pins σ H' { s with heap:=h',gens:=g',drawn:=d',toks:=t' }:=by
 have neL:∀b o,X.s₀.heap.get? b=some o->b≠X.env.locals:=fun b o e=>Nat.ne_of_lt (Nat.lt_of_lt_of_le (Heap.lt_size e) I.ok.above)
 have neC:∀b o,X.s₀.heap.get? b=some o->b∉X.ex->b∉ch:=fun b o e hx hb=>by
  rcases (hch b hb).1 with z|z
  ·exact hx z
  ·exact absurd (Nat.lt_of_lt_of_le (Heap.lt_size e) z) (Nat.lt_irrefl _)
 have cellK:∀x c,X.env.cells.lookup x=some c->∀v,s.heap.IsCell c v->h'.IsCell c v:=fun x c e v ⟨o,ho,hd⟩=>by
  have nch:c∉ch:=fun z=>(hch c z).2.2.1 x c e rfl
  by_cases hc:c∈X.fs
  ·obtain⟨sl,q⟩:=slot c o (I.cne x c e) hc nch ho (I.freeC x c e);exact⟨_,q,hd⟩
  ·exact⟨o,keep c o (I.cne x c e) hc nch ho (I.freeC x c e),hd⟩
 refine⟨I.ok,I.os,hg,⟨fun b o e n hb hx=>?_,fun b o e n hb hx=>?_,fun b o e n hx=>?_,fun b o e hx=>?_,fun b xs e=>tups b xs (I.base.tups b xs e),fun b o xs e=>frzs b o xs (I.base.frzs b o xs e),fun b ps e=>?_⟩,?_,fun x c e=>?_,?_,fun x c e=>?_,fun p hp=>?_,hok,I.len⟩
 ·exact keep b o (neL b o e) hb (neC b o e hx) (I.base.keep b o e n hb hx) (I.base.free b o e n hx)
 ·obtain⟨sl,e1⟩:=I.base.slot b o e n hb hx;obtain⟨sl',e2⟩:=slot b _ (neL b o e) hb (neC b o e hx) e1 (I.base.free b o e n hx);exact⟨sl',e2⟩
 ·obtain⟨o',e1⟩:=I.base.there b o e hx;exact free b o' (neC b o e hx) e1 (I.base.free b o e n hx)
 ·obtain⟨o',e1⟩:=I.base.there b o e hx;exact there b o' (neC b o e hx) e1
 ·obtain⟨m1,e1⟩:=I.base.tbls b ps e;obtain⟨m2,e2⟩:=tbls b _ e1;exact⟨m1++m2,by rw[e2,Array.append_assoc]⟩
 ·obtain⟨m,hn,hl⟩:=I.loc;refine⟨m,ns m hn,fun i x v e1 e2 e3=>?_⟩;obtain⟨u,r,l⟩:=hl i x v e1 e2 e3;refine⟨u,r,?_⟩;rcases l with l|⟨k,c,e,z⟩
  ·exact .inl l
  ·exact .inr ⟨k,c,e,cellK x c e _ z⟩
 ·obtain⟨v,z⟩:=I.cell x c e;exact⟨v,cellK x c e v z⟩
 ·obtain⟨m,⟨o,_,_,ho,_⟩,_⟩:=I.loc;exact free _ o (fun z=>(hch _ z).2.1 rfl) ho I.free
 ·obtain⟨v,o,ho,hd⟩:=I.cell x c e;exact free c o (fun z=>(hch c z).2.2.1 x c e rfl) ho (I.freeC x c e)
 ·obtain⟨e,n,ne,nf,d⟩:=I.pin p hp;have nch:p.1∉ch:=fun z=>(hch p.1 z).2.2.2 p hp rfl
  exact⟨keep p.1 p.2 ne nf nch e n,free p.1 p.2 nch e n,ne,nf,d⟩
theorem Inv.un{t':Nat}(I:Inv X pins σ H s)(u:Un X.fs [] H H' s.heap h')(hok:HOk X.prog X.w H' h'):Inv X pins σ H' { s with heap:=h',toks:=t' }:=by
 obtain⟨m,⟨o,es,ep,ho,r⟩,_⟩:=id I.loc;obtain⟨sl,hL⟩:=u.any ho I.free (by simp);exact I.step (g':=s.gens) (d':=s.drawn) (ch:=[]) (fun _ z=>nomatch z) (fun b o _ hb _ e n=>u.keep b o e n hb (by simp)) (fun b o _ hb _ e n=>u.slot b o e n hb (by simp)) (fun b o _ e n=>u.free b o e n (by simp)) (fun b o _ e=>u.there b o e (by simp)) u.tups u.frzs u.tbls (fun m' hm=>by
  obtain⟨o',es',ep',ho',r'⟩:=hm;rw[ho] at ho';cases ho';exact⟨_,es',ep',hL,r'⟩) hok I.bare
theorem Inv.call{g':Array GenState}{t':Nat}{d':Drawn}{ch:List Addr}(I:Inv X pins σ H s)(u:Un (frs X.stack) ch H H' s.heap h')(hok:HOk X.prog X.w H' h')(hg:AllBare g')
  (hch:∀b∈ch,(b∈X.ex\/X.s₀.heap.objs.size<=b)/\b≠X.env.locals/\(∀x c,X.env.cells.lookup x=some c->c≠b)/\∀p∈X.pn++pins,p.1≠b) :
  Inv X pins σ H' { s with heap:=h',gens:=g',drawn:=d',toks:=t' }:=by
 obtain⟨m,⟨o,es,ep,ho,r⟩,_⟩:=id I.loc;obtain⟨sl,hL⟩:=u.any ho I.free fun z=>(hch _ z).2.1 rfl
 exact I.step (ch:=ch) hch (fun b o hL hb hc e n=>u.keep b o e n (fun z=>(List.mem_cons.mp (I.stkSub b z)).elim hL hb) hc) (fun b o _ _ hc e n=>u.any e n hc) (fun b o hc e n=>u.free b o e n hc) (fun b o hc e=>u.there b o e hc) u.tups u.frzs u.tbls (fun m' hm=>by
  obtain⟨o',es',ep',ho',r'⟩:=hm;rw[ho] at ho';cases ho';exact⟨_,es',ep',hL,r'⟩) hok hg
theorem Inv.turned{t':Nat}{it:Addr}(I:Inv X pins σ H s)(k:∀b o,b≠it->s.heap.get? b=some o->h'.get? b=some o)(hn:H it=none)(hL:it≠X.env.locals)
  (h1:it∈X.ex\/X.s₀.heap.objs.size<=it) (h2:∀x c,X.env.cells.lookup x=some c->c≠it) (h3:∀p∈X.pn++pins,p.1≠it):Inv X pins σ H { s with heap:=h',toks:=t' }:=by
 have nit:∀b u,H b=some u->b≠it:=fun b u e z=>by rw[z,hn] at e;cases e
 refine I.step (g':=s.gens) (d':=s.drawn) (ch:=[it]) (fun b hb=>?_) (fun b o _ _ hc e _=>k b o (fun z=>hc (by simp[z])) e) (fun b o _ _ hc e _=>⟨o.slots,k b o (fun z=>hc (by simp[z])) e⟩) (fun _ _ _ _ n=>n)
  (fun b o hc e=>⟨o,k b o (fun z=>hc (by simp[z])) e⟩) (fun _ _ e=>e) (fun _ _ _ e=>e) (fun b ps e=>⟨#[],by rw[e];simp⟩) (fun m hm=>?_) (fun b u e=>?_) I.bare
 ·have e:b=it:=by simpa using hb
  subst e;exact⟨h1,hL,h2,h3⟩
 ·obtain⟨o,es,ep,ho,r⟩:=hm;exact⟨o,es,ep,k _ o (Ne.symm hL) ho,r⟩
 ·refine(I.hok b u e).stay (fun c v hc q=>k c v ?_ q) (fun _ q=>q) fun _ _ q=>q
  rcases hc with z|z
  ·rw[z];exact nit b u e
  ·exact nit c _ z
theorem Inv.tok(I:Inv X pins σ H s)(t:Nat):Inv X pins σ H { s with toks:=t }:=I.un (h':=s.heap) (t':=t) Un.refl I.hok
theorem Inv.kept{t':Nat}(I:Inv X pins σ H s)(k:∀b u,s.heap.get? b=some u->h'.get? b=some u):Inv X pins σ H { s with heap:=h',toks:=t' }:=I.un (Un.kept k) (I.hok.kept k)
theorem Inv.laid{a:Addr}{o:HO}{t':Nat}(I:Inv X pins σ H s)(k:∀b u,s.heap.get? b=some u->h'.get? b=some u)(hp:s.heap.objs.size<=a)(new:ObjOk X.prog X.w (upd H a o) h' a o) :
  Inv X pins σ (upd H a o) { s with heap:=h',toks:=t' }:=I.un (Un.laid k hp (I.hok.fresh hp)) (I.hok.laid k hp new)
theorem Inv.write{x e:Addr}{o:HO}{t':Nat}(I:Inv X pins σ H s)(mu:Mut (H x))(he:e=x\/H e=some (.own x))(k:∀b u,b≠e->s.heap.get? b=some u->h'.get? b=some u)(heo:∃u,h'.get? e=some u)
  (new:ObjOk X.prog X.w (upd H x o) h' x o):Inv X pins σ (upd H x o) { s with heap:=h',toks:=t' }:=I.un (Un.write mu he k heo) (I.hok.write mu he k heo new)
theorem Inv.pins_of{pins':List (Addr×Obj)}(I:Inv X pins σ H s)(h:∀p∈pins',s.heap.get? p.1=some p.2/\H p.1=none/\p.1≠X.env.locals/\p.1∉X.fs/\∀v,p.2.data≠.cell v):Inv X pins' σ H s:=
 ⟨I.ok,I.os,I.bare,I.base,I.loc,I.cell,I.free,I.freeC,fun p hp=>(List.mem_append.mp hp).elim (fun z=>I.pin p (List.mem_append_left _ z)) (h p),I.hok,I.len⟩
theorem tM{N:List Str}(hN:N.Nodup){i j:Nat}{x:Str}(a:N[i]?=some x)(b:N[j]?=some x):i=j:=by
 obtain⟨h1,e1⟩:=List.getElem?_eq_some_iff.mp a;obtain⟨h2,e2⟩:=List.getElem?_eq_some_iff.mp b;exact(List.getElem_inj hN).mp (e1.trans e2.symm)
theorem xC{M:Model}{A:Around}{E:Value->Shared->Prop}{i:Nat}{x:Str}{v:V}{u:Value}{Q:Unit->Shared->Prop}(I:Inv X pins σ H s)(hN:X.N.Nodup)(hi:X.N[i]?=some x)(hx:Loc X.env.scope x)(r:RelV v u)
  (h:∀s',Inv X pins (σ.set i (some v)) H s'->(∃a,Heap.SameBut a s.heap s'.heap/\(a=X.env.locals\/X.env.cells.lookup x=some a))->Q () s') (hf:X.fn x=true\/X.env.scope.names.lookup x=some .local:=by first|exact .inl rfl|exact .inr rfl|assumption):wpAny M A (storeName X.env x u) Q E s:=by
 obtain⟨m,hn,hl⟩:=id I.loc;have hcls:(X.env.scope.kind == .class || (X.env.scope.kind == .module && X.env.locals != X.env.globals))=false:=by rw[I.ok.kind];rfl
 have hiσ:i<σ.length:=by rw[I.len];exact(List.getElem?_eq_some_iff.mp hi).1
 have cne:=I.cne;have tracked:∀{a:Addr}{h':Heap},(∃o,s.heap.get? a=some o/\H a=none)->Heap.SameBut a s.heap h'->HOk X.prog X.w H h':=fun {a h'} ha hs b ob e=>by
  obtain⟨_,_,hfree⟩:=ha;refine(I.hok b ob e).stay (fun c w' hc q=>(hs.2 c ?_).trans q) (fun _ q=>q) fun _ _ q=>q
  rintro rfl;rcases hc with rfl|hc
  ·rw[hfree] at e;cases e
  ·rw[hfree] at hc;cases hc
 rcases hx with hk|hk
 ·refine wpAny_storeName_local hk hn (fun h' hn' hs=>?_) hcls;obtain⟨oL,_,_,hoL,_⟩:=id hn;refine h _ ⟨I.ok,I.os,I.bare,⟨fun b o e n hb hx=>?_,fun b o e n hb hx=>?_,I.base.free,fun b o e hx=>?_,I.base.tups,I.base.frzs,I.base.tbls⟩,⟨_,hn',fun j y v' e1 e2 e3=>?_⟩,fun y c e=>?_,I.free,I.freeC,fun p hp=>?_,tracked ⟨oL,hoL,I.free⟩ hs,by simpa using I.len⟩ ⟨_,hs,.inl rfl⟩
  ·exact(hs.2 b (Nat.ne_of_lt (Nat.lt_of_lt_of_le (Heap.lt_size e) I.ok.above))).trans (I.base.keep b o e n hb hx)
  ·obtain⟨sl,e1⟩:=I.base.slot b o e n hb hx;exact⟨sl,(hs.2 b (Nat.ne_of_lt (Nat.lt_of_lt_of_le (Heap.lt_size e) I.ok.above))).trans e1⟩
  ·obtain⟨o',e1⟩:=I.base.there b o e hx;exact⟨o',(hs.2 b (Nat.ne_of_lt (Nat.lt_of_lt_of_le (Heap.lt_size e) I.ok.above))).trans e1⟩
  ·by_cases hj:j=i
   ·subst hj;rw[hi] at e1;cases e1;rw[List.getElem?_set_self hiσ] at e2;cases e2;exact⟨u,r,.inl ⟨hk,by simp⟩⟩
   ·rw[List.getElem?_set_ne (Ne.symm hj)] at e2;obtain⟨u',r',q⟩:=hl j y v' e1 e2 e3;refine⟨u',r',?_⟩;rcases q with ⟨k,e⟩|⟨k,c,e,z⟩
    ·refine .inl ⟨k,?_⟩;have:y≠x:=fun e=>hj (tM hN e1 (e ▸ hi))
     simp[this,e]
    ·exact .inr ⟨k,c,e,z.sameBut hs (cne y c e)⟩
  ·obtain⟨w',z⟩:=I.cell y c e;exact⟨w',z.sameBut hs (cne y c e)⟩
  ·obtain⟨e,n,ne,nf,d⟩:=I.pin p hp;exact⟨(hs.2 p.1 ne).trans e,n,ne,nf,d⟩
 ·have hfn:X.fn x=true:=by
   rcases hf with z|z
   ·exact z
   ·rw[z] at hk;cases hk
  obtain⟨c,hc⟩:=I.ok.has x (.inl hk);obtain⟨w',z⟩:=I.cell x c hc;refine wpAny_storeName_cell I.ok.kind hk hc z (fun h' hc' hs=>?_);obtain⟨oc,hoc,hocd⟩:=id z;refine h { s with heap:=h' } ⟨I.ok,I.os,I.bare,⟨fun b o e n hb hx=>?_,fun b o e n hb hx=>?_,I.base.free,fun b o e hx=>?_,I.base.tups,I.base.frzs,I.base.tbls⟩,⟨m,hn.sameBut hs (Ne.symm (cne x c hc)),fun j y v' e1 e2 e3=>?_⟩,fun y c' e=>?_,I.free,I.freeC,fun p hp=>?_,tracked ⟨oc,hoc,I.freeC x c hc⟩ hs,by simpa using I.len⟩ ⟨c,hs,.inr hc⟩
  ·exact(hs.2 b (Nat.ne_of_lt (Nat.lt_of_lt_of_le (Heap.lt_size e) (I.ok.cab x c hfn hc)))).trans (I.base.keep b o e n hb hx)
  ·obtain⟨sl,e1⟩:=I.base.slot b o e n hb hx;exact⟨sl,(hs.2 b (Nat.ne_of_lt (Nat.lt_of_lt_of_le (Heap.lt_size e) (I.ok.cab x c hfn hc)))).trans e1⟩
  ·obtain⟨o',e1⟩:=I.base.there b o e hx;exact⟨o',(hs.2 b (Nat.ne_of_lt (Nat.lt_of_lt_of_le (Heap.lt_size e) (I.ok.cab x c hfn hc)))).trans e1⟩
  ·by_cases hj:j=i
   ·subst hj;rw[hi] at e1;cases e1;rw[List.getElem?_set_self hiσ] at e2;cases e2;exact⟨u,r,.inr ⟨.inl hk,c,hc,hc'⟩⟩
   ·rw[List.getElem?_set_ne (Ne.symm hj)] at e2;obtain⟨u',r',q⟩:=hl j y v' e1 e2 e3;refine⟨u',r',?_⟩;rcases q with q|⟨k,c',e,z'⟩
    ·exact .inl q
    ·refine .inr ⟨k,c',e,z'.sameBut hs ?_⟩;rintro rfl;exact hj (tM hN e1 (I.ok.inj _ _ _ e hc ▸ hi))
  ·by_cases hcc:c'=c
   ·subst hcc;exact⟨_,hc'⟩
   ·obtain⟨w2,z2⟩:=I.cell y c' e;exact⟨w2,z2.sameBut hs hcc⟩
  ·obtain⟨e,n,ne,nf,d⟩:=I.pin p hp;refine⟨(hs.2 p.1 ?_).trans e,n,ne,nf,d⟩;intro q;rw[q,hoc] at e;have q':oc=p.2:=Option.some.inj e;exact d w' (by rw[<-q'];exact hocd)
theorem ue{M:Model}{A:Around}{E:Value->Shared->Prop}{i:Nat}{x:Str}{v:V}{u:Value}{Q:Unit->Shared->Prop}(I:Inv X pins σ H s)(hN:X.N.Nodup)(hi:X.N[i]?=some x)(hx:Loc X.env.scope x)(r:RelV v u)
  (h:∀s',Inv X pins (σ.set i (some v)) H s'->Q () s') (hf:X.fn x=true\/X.env.scope.names.lookup x=some .local:=by first|exact .inl rfl|exact .inr rfl|assumption):wpAny M A (storeName X.env x u) Q E s:=
 xC I hN hi hx r (fun s' I' _=>h s' I') hf
theorem Inv.call'{s':Shared}{ch:List Addr}(I:Inv X pins σ H s)(ho:s'.os=s.os)(u:Un (frs X.stack) ch H H' s.heap s'.heap)(hok:HOk X.prog X.w H' s'.heap)(hg:AllBare s'.gens)
  (hch:∀b∈ch,(b∈X.ex\/X.s₀.heap.objs.size<=b)/\b≠X.env.locals/\(∀x c,X.env.cells.lookup x=some c->c≠b)/\∀p∈X.pn++pins,p.1≠b):Inv X pins σ H' s':=by
 obtain⟨h',g',d',t',o'⟩:=s';have e:o'=s.os:=ho;subst e;exact I.call (g':=g') (t':=t') (d':=d') u hok hg hch
end
abbrev XK:=Value->Option Addr->Hp->Prop
abbrev St:=List (Option V)
abbrev VK:=V->Hp->Prop
abbrev TE:=St->Hp->VK->Prop
abbrev TT:=St->Hp->(Bool->Hp->Prop)->Prop
structure Ends where
 nx:St->Hp->Prop
 rt:VK
 bk:St->Hp->Prop:=fun _ _=>False
 ct:St->Hp->Prop:=fun _ _=>False
abbrev TS:=Ends->St->Hp->Prop
def EP(X:Cx)(pins:List (Addr×Obj))(σ:St)(Q:VK)(u:Value)(s':Shared):Prop:=∃v H',Inv X pins σ H' s'/\RelV v u/\Q v H'
def TP(X:Cx)(pins:List (Addr×Obj))(σ:St)(Q:Bool->Hp->Prop)(b:Bool)(s':Shared):Prop:=∃H',Inv X pins σ H' s'/\Q b H'
def AP(X:Cx)(pins:List (Addr×Obj))(σ:St)(Q:List V->Hp->Prop)(us:List Value)(s':Shared):Prop:=∃vs H',Inv X pins σ H' s'/\Vals vs us/\Q vs H'
def SP(X:Cx)(pins:List (Addr×Obj))(D:Ends)(f:Flow)(s':Shared):Prop:=
 match f with
 |.next=>∃σ' H',Inv X pins σ' H' s'/\D.nx σ' H'
 |.brk=>∃σ' H',Inv X pins σ' H' s'/\D.bk σ' H'
 |.cont=>∃σ' H',Inv X pins σ' H' s'/\D.ct σ' H'
 |.ret u=>∃v σ' H',Inv X pins σ' H' s'/\RelV v u/\D.rt v H'
def PE(X:Cx)(e:Expr)(t:TE):Prop:=
 ∀(pins:List (Addr×Obj)) (s:Shared) (σ:St) (H:Hp) (Q:VK),Inv X pins σ H s->t σ H Q->wpAny (model X.prog X.w) X.A (eval e X.env) (EP X pins σ Q) X.xe s
def PT(X:Cx)(e:Expr)(t:TT):Prop:=
 ∀(pins:List (Addr×Obj)) (s:Shared) (σ:St) (H:Hp) (Q:Bool->Hp->Prop),Inv X pins σ H s->t σ H Q->wpAny (model X.prog X.w) X.A (isTrue e X.env (eval e X.env)) (TP X pins σ Q) X.xe s
def PW(X:Cx)(e:Expr)(t:TT):Prop:=
 ∀(whole:Sem Value) (pins:List (Addr×Obj)) (s:Shared) (σ:St) (H:Hp) (Q:Bool->Hp->Prop),Inv X pins σ H s->t σ H Q->wpAny (model X.prog X.w) X.A (isTrue e X.env whole) (TP X pins σ Q) X.xe s
theorem PW.pt{X:Cx}{e:Expr}{t:TT}(h:PW X e t):PT X e t:=h _
def PSs(X:Cx)(st:List Stmt)(t:TS):Prop:=
 ∀(pins:List (Addr×Obj)) (s:Shared) (σ:St) (H:Hp) (D:Ends),Inv X pins σ H s->t D σ H->wpAny (model X.prog X.w) X.A (execs st X.env) (SP X pins D) X.xe s
theorem thn{α:Type}{t:Sem α}{Q Q':α->Shared->Prop}{M:Model}{A:Around}{E:Value->Shared->Prop}{s:Shared}(h:wpAny M A t Q E s)(hQ:∀a s,Q a s->Q' a s):wpAny M A t Q' E s:=wpAny_mono h hQ fun _ _ x=>x
end L2
namespace L2
open PySem PySem.Spec PyProof.Rows
section
variable{X:Cx}
def Dk(i:Nat):TE:=fun σ H Q=>∃v,σ[i]?=some (some v)/\Q v H
theorem Cb{i:Nat}{x:Str}{pos:Pos}(hN:X.N[i]?=some x)(hv:Vis X.env.scope x)(hd:(x == ("__debug__":Str))=false:=by decide)(hcd:(x == ("__classdict__":Str))=false:=by decide):PE X (.Name x pos) (Dk i):=by
 intro pins s σ H Q I h;obtain⟨v,e,h⟩:=h;obtain⟨m,hn,hl⟩:=I.loc;obtain⟨u,r,l⟩:=hl i x v hN e hv;have fin:EP X pins σ Q u s:=⟨v,H,I,r,h⟩;rcases l with ⟨hk,hm⟩|⟨hk,c,hc,hcell⟩
 ·exact wpAny_Name (wpAny_loadName_local I.ok.kind hk hn hm fin) hd
 ·rcases hk with hk|hk
  ·exact wpAny_Name (wpAny_loadName_cell I.ok.kind hk hc hcell fin) hd
  ·exact wpAny_Name (wpAny_loadName_free I.ok.kind hk hc hcell fin hcd) hd
def Gl(X:Cx)(x:Str):Prop:=X.env.kindOf x=some .globalImplicit
theorem kK{E:Value->Shared->Prop}{pins:List (Addr×Obj)}{s:Shared}{σ:St}{H:Hp}{x:Str}{u:Value}{pos:Pos}{Q:Value->Shared->Prop}(I:Inv X pins σ H s)(hg:Gl X x)(hm:X.mg x=some u)(h:Q u s)
  (hd:(x == ("__debug__":Str))=false:=by decide):wpAny (model X.prog X.w) X.A (eval (.Name x pos) X.env) Q E s:=
 Calls.Name_function_global I.ok.kind hg (Calls.loadGlobal_global (by rw[I.ok.glob];exact I.mod.glob.keeps I.bk) hm h) hd
theorem kC{E:Value->Shared->Prop}{pins:List (Addr×Obj)}{s:Shared}{σ:St}{H:Hp}{x:Str}{u:Value}{pos:Pos}{Q:Value->Shared->Prop}(I:Inv X pins σ H s)(hg:Gl X x)(hm:X.mg x=none)(hv:bootBuiltins x=some u)(h:Q u s)
  (hn:x≠"__name__":=by decide) (hd:(x == ("__debug__":Str))=false:=by decide):wpAny (model X.prog X.w) X.A (eval (.Name x pos) X.env) Q E s:=by
 obtain⟨mb,h1,h2⟩:=I.mod.blt;exact Calls.Name_function_global I.ok.kind hg (Calls.loadGlobal_builtin (by rw[I.ok.glob];exact I.mod.glob.keeps I.bk) hm (by rw[I.ok.blt];exact h1.keeps I.bk) ((h2 x hn).trans hv) h) hd
variable{a b:Expr}{ta tb:TE}{pos:Pos}
theorem RelV.none_iff{x:V}{v:Value}(r:RelV x v):(v == Value.none)=decide (x=.non):=by
 cases x with
 |non=>cases r;rfl
 |bl _=>cases r;rfl
 |int _=>obtain⟨t,rfl⟩:=r;rfl
 |str _=>obtain⟨t,rfl⟩:=r;rfl
 |byt _=>obtain⟨t,rfl⟩:=r;rfl
 |flt _=>obtain⟨t,rfl⟩:=r;rfl
 |ref _=>cases r;rfl
 |ty _=>cases r;rfl
variable{tA tB':TT}{rest:List Expr}
end
end L2
namespace L2
open PySem PySem.Spec PyProof.Rows
def SqL(K:PySem.W.Frag)(H:Hp)(a:Addr)(xs:List V):Prop:=
 Rd H a (.lst xs)\/
  ∃(o:Obj) (its:Array Value) (n:Nat),K.lookup a=some o/\o.cls=.type "list"/\o.dict=none/\o.data=.seq its n/\its.size<=sizeLine/\Vals xs its.toList
def SqT(K:PySem.W.Frag)(H:Hp)(a:Addr)(xs:List V):Prop:=
 Rd H a (.tup xs)\/
  ∃(o:Obj) (its:Array Value) (n:Nat),K.lookup a=some o/\o.cls=.type "tuple"/\o.data=.seq its n/\its.size<=sizeLine/\Vals xs its.toList
def DD:Value->Option V
 |.none=>some .non
 |.bool b=>some (.bl b)
 |.int i _=>some (.int i)
 |.str x _=>some (.str x)
 |.bytes b _=>some (.byt b)
 |.float b _=>some (.flt b)
 |.ref a=>some (.ref a)
 |.type n=>some (.ty n)
 |_=>none
theorem RelV.abs{x:V}{u:Value}(r:RelV x u):DD u=some x:=by
 cases x with
 |non=>cases r;rfl
 |bl _=>cases r;rfl
 |int _=>obtain⟨t,rfl⟩:=r;rfl
 |str _=>obtain⟨t,rfl⟩:=r;rfl
 |byt _=>obtain⟨t,rfl⟩:=r;rfl
 |flt _=>obtain⟨t,rfl⟩:=r;rfl
 |ref _=>cases r;rfl
 |ty _=>cases r;rfl
theorem RelV.inj{x y:V}{u:Value}(r:RelV x u)(q:RelV y u):x=y:=Option.some.inj (r.abs.symm.trans q.abs)
theorem Vals.inj:∀{xs ys:List V}{us:List Value},Vals xs us->Vals ys us->xs=ys
 |_,_,_,.nil,.nil=>rfl
 |_,_,_,.cons r t,.cons r' t'=>by rw[r.inj r',Vals.inj t t']
section
variable{X:Cx}{pins:List (Addr×Obj)}{σ:St}{H:Hp}{s:Shared}{a:Addr}{xs ys:List V}
theorem SqL.of{K:PySem.W.Frag}(h:H a=some (.lst xs)):SqL K H a xs:=.inl (.inl h)
theorem SqT.of{K:PySem.W.Frag}(h:H a=some (.tup xs)):SqT K H a xs:=.inl (.inl h)
theorem Inv.list(I:Inv X pins σ H s)(h:SqL X.K H a xs):∃its:List Value,Vals xs its/\PlainL s.heap a its.toArray/\xs.length<=sizeLine:=by
 rcases h with h|⟨o,its,n,hk,hc,hd,hs,hz,r⟩
 ·obtain⟨z,its,n,r,e⟩:=h.ok I.hok;exact⟨its,r,⟨_,n,e,rfl,rfl,rfl⟩,z⟩
 ·refine⟨its.toList,r,⟨o,n,I.kIn a o hk,hc,hd,by simpa using hs⟩,?_⟩;have e:=r.length;simp only[Array.length_toList] at e;omega
theorem Inv.tuple(I:Inv X pins σ H s)(h:SqT X.K H a xs):∃its:List Value,Vals xs its/\IsTup s.heap a its.toArray/\xs.length<=sizeLine:=by
 rcases h with h|⟨o,its,n,hk,hc,hs,hz,r⟩
 ·obtain⟨z,its,r,p⟩:=h.ok I.hok;exact⟨its,r,p,z⟩
 ·refine⟨its.toList,r,⟨o,I.kIn a o hk,hc,n,by simpa using hs⟩,?_⟩;have e:=r.length;simp only[Array.length_toList] at e;omega
theorem Inv.list_inj(I:Inv X pins σ H s)(h:SqL X.K H a xs)(h':SqL X.K H a ys):xs=ys:=by
 obtain⟨its,r,⟨o,n,e,_,_,d⟩,_⟩:=I.list h;obtain⟨its',r',⟨o',n',e',_,_,d'⟩,_⟩:=I.list h';rw[e] at e';cases e';rw[d] at d'
 injection d' with d1 _
 have:its=its':=by simpa using congrArg Array.toList d1
 subst this;exact r.inj r'
theorem Inv.tuple_inj(I:Inv X pins σ H s)(h:SqT X.K H a xs)(h':SqT X.K H a ys):xs=ys:=by
 obtain⟨its,r,⟨o,e,_,n,d⟩,_⟩:=I.tuple h;obtain⟨its',r',⟨o',e',_,n',d'⟩,_⟩:=I.tuple h';rw[e] at e';cases e';rw[d] at d'
 injection d' with d1 _
 have:its=its':=by simpa using congrArg Array.toList d1
 subst this;exact r.inj r'
end
abbrev Cx.wish(X:Cx)(E:Value->Shared->Prop):Cx:={ X with xe:=E }
abbrev Cx.nox(X:Cx):Cx:=X.wish fun _ _=>False
theorem Cx.Ok.wish{X:Cx}(ok:X.Ok)(E:Value->Shared->Prop):(X.wish E).Ok:=
 ⟨ok.mod,ok.kind,ok.glob,ok.blt,ok.above,ok.inj,ok.has,ok.cab,ok.hd,ok.frames,ok.stk,ok.exf,ok.bs,ok.bsz,ok.noex,ok.exfs,ok.funs,ok.frf⟩
theorem Cx.Ok.unwish{X:Cx}{E:Value->Shared->Prop}(ok:(X.wish E).Ok):X.Ok:=
 ⟨ok.mod,ok.kind,ok.glob,ok.blt,ok.above,ok.inj,ok.has,ok.cab,ok.hd,ok.frames,ok.stk,ok.exf,ok.bs,ok.bsz,ok.noex,ok.exfs,ok.funs,ok.frf⟩
section
variable{X:Cx}{pins:List (Addr×Obj)}{σ:St}{H:Hp}{s:Shared}{E:Value->Shared->Prop}
theorem Inv.wish(I:Inv X pins σ H s)(E:Value->Shared->Prop):Inv (X.wish E) pins σ H s:=⟨I.ok.wish E,I.os,I.bare,I.base,I.loc,I.cell,I.free,I.freeC,I.pin,I.hok,I.len⟩
theorem Inv.unwish(I:Inv (X.wish E) pins σ H s):Inv X pins σ H s:=⟨I.ok.unwish,I.os,I.bare,I.base,I.loc,I.cell,I.free,I.freeC,I.pin,I.hok,I.len⟩
theorem SP.unwish{D:Ends}{f:Flow}{s':Shared}(h:SP (X.wish E) pins D f s'):SP X pins D f s':=by
 cases f with
 |next=>obtain⟨σ',H',I,q⟩:=h;exact⟨σ',H',I.unwish,q⟩
 |brk=>obtain⟨σ',H',I,q⟩:=h;exact⟨σ',H',I.unwish,q⟩
 |cont=>obtain⟨σ',H',I,q⟩:=h;exact⟨σ',H',I.unwish,q⟩
 |ret u=>obtain⟨v,σ',H',I,r,q⟩:=h;exact⟨v,σ',H',I.unwish,r,q⟩
theorem PE.nox{e:Expr}{t:TE}(h:PE X.nox e t):PE X e t:=fun pins s σ H Q I hw=>
 wpAny_mono (h pins s σ H Q (I.wish _) hw) (fun _ _ ⟨v,H',I',r,q⟩=>⟨v,H',I'.unwish,r,q⟩) fun _ _ z=>False.elim z
theorem PT.nox{e:Expr}{t:TT}(h:PT X.nox e t):PT X e t:=fun pins s σ H Q I hw=>
 wpAny_mono (h pins s σ H Q (I.wish _) hw) (fun _ _ ⟨H',I',q⟩=>⟨H',I'.unwish,q⟩) fun _ _ z=>False.elim z
theorem PSs.nox{st:List Stmt}{t:TS}(h:PSs X.nox st t):PSs X st t:=fun pins s σ H D I hw=>
 wpAny_mono (h pins s σ H D (I.wish _) hw) (fun _ _ q=>q.unwish) fun _ _ z=>False.elim z
end
section
variable{X:Cx}{st:Stmt}{rest:List Stmt}{t u:TS}{e:Expr}{te:TE}{pos:Pos}
theorem Inv.quiet{pins:List (Addr×Obj)}{σ:St}{H:Hp}{s:Shared}(I:Inv X pins σ H s):interactive X.env=false:=by simp[interactive,I.ok.kind]
end
abbrev TG:=V->St->Hp->(St->Hp->Prop)->Prop
def PG(X:Cx)(target:Expr)(t:TG):Prop:=
 ∀(pins:List (Addr×Obj)) (s:Shared) (σ:St) (H:Hp) (v:V) (u:Value) (Q:St->Hp->Prop),Inv X pins σ H s->RelV v u->t v σ H Q->
  wpAny (model X.prog X.w) X.A (assign target X.env u) (fun _ s'=>∃σ' H',Inv X pins σ' H' s'/\Q σ' H') X.xe s
abbrev Dg:=V->V->V->Hp->(Hp->Prop)->Prop
def DI(X:Cx)(t:Dg):Prop:=
 ∀(pins:List (Addr×Obj)) (s:Shared) (σ:St) (H:Hp) (o i v:V) (ov iv u:Value) (Q:Hp->Prop),Inv X pins σ H s->RelV o ov->RelV i iv->RelV v u->t o i v H Q->
  wpAny (model X.prog X.w) X.A (setItem ov iv u) (fun _ s'=>∃H',Inv X pins σ H' s'/\Q H') X.xe s
section
variable{X:Cx}{pos:Pos}
def Cr(i:Nat):TG:=fun v σ H Q=>Q (σ.set i (some v)) H
theorem AB{i:Nat}{x:Str}(hN:X.N.Nodup)(hi:X.N[i]?=some x)(hx:Loc X.env.scope x)(hf:X.fn x=true\/X.env.scope.names.lookup x=some .local:=by first|exact .inl rfl|exact .inr rfl|assumption):PG X (.Name x pos) (Cr i):=by
 intro pins s σ H v u Q I r h;exact wpAny_assign_Name (ue I hN hi hx r (fun s' I'=>⟨_,H,I',h⟩) hf)
end
section
variable{X:Cx}{pos:Pos}
end
structure It where
 go:Nat->Hp->Prop
 yld:Nat->Hp->V->Hp->Prop
 stop:Nat->Hp->Prop
def FpOk(X:Cx)(pins:List (Addr×Obj))(H:Hp)(b:Addr):Prop:=
 H b=none/\b≠X.env.locals/\b∉X.fs/\(b∈X.ex\/X.s₀.heap.objs.size<=b)/\(∀x c,X.env.cells.lookup x=some c->c≠b)/\∀p∈X.pn++pins,p.1≠b
theorem Inv.fpOk{X:Cx}{pins:List (Addr×Obj)}{σ:St}{H H':Hp}{s:Shared}{b:Addr}(I:Inv X pins σ H s)(hb:s.heap.objs.size<=b)(hn:H' b=none):FpOk X pins H' b:=by
 refine⟨hn,Nat.ne_of_gt (Nat.lt_of_lt_of_le I.lt hb),I.nofs hb,.inr (Nat.le_trans I.sz hb),fun x c e z=>?_,fun p hp z=>?_⟩
 ·obtain⟨v,q⟩:=I.cell x c e;exact absurd (Nat.lt_of_lt_of_le q.lt (by rw[z];exact hb)) (Nat.lt_irrefl _)
 ·exact absurd (Nat.lt_of_lt_of_le (Heap.lt_size (I.pin p hp).1) (by rw[z];exact hb)) (Nat.lt_irrefl _)
structure Turn(P:Program)(w:World)(K:PySem.W.Frag)(tg:Expr)(J:It)(fp:List Addr)(it:Addr)(tn:Nat->Heap->Prop):Prop where
 mem:it∈fp
 obj:∀i h,tn i h->∀b∈fp,∃o,h.get? b=some o/\∀v,o.data≠.cell v
 keep:∀i h h',tn i h->(∀b∈fp,∀o,h.get? b=some o->h'.get? b=some o)->tn i h'
 item:∀(X:Cx),X.prog=P->X.w=w->X.K=K->X.calm=true->∀(i:Nat) (pins:List (Addr×Obj)) (s:Shared) (σ:St) (H:Hp) (E:Value->Shared->Prop),Inv X pins σ H s->(∀b∈fp,FpOk X pins H b)->tn i s.heap->J.go i H->
  wpAny (model P w) X.A (pyNext (.ref it)) (fun r s1=>∃u,r=some u/\
   wpAny (model P w) X.A (letOwnedTupleGo tg (.ref it) u) (fun _ s2=>∃x H',Inv X pins σ H' s2/\RelV x u/\J.yld i H x H'/\tn (i+1) s2.heap/\∀b∈fp,H' b=none) E s1) E s
 done:∀(X:Cx),X.prog=P->X.w=w->X.K=K->X.calm=true->∀(i:Nat) (pins:List (Addr×Obj)) (s:Shared) (σ:St) (H:Hp) (E:Value->Shared->Prop),Inv X pins σ H s->(∀b∈fp,FpOk X pins H b)->tn i s.heap->J.stop i H->
  wpAny (model P w) X.A (pyNext (.ref it)) (fun r s1=>r=none/\Inv X pins σ H s1) E s
 self:∀(A:Around) (i:Nat) (s:Shared) (Q:Value->Shared->Prop) (E:Value->Shared->Prop),tn i s.heap->Q (.ref it) s->wpAny (model P w) A (pyIter (.ref it)) Q E s
def PIE(X:Cx)(pins:List (Addr×Obj))(σ:St)(tg:Expr)(R:It->Hp->Prop)(itv:Value)(s2:Shared):Prop:=
 ∃(it:Addr) (fp:List Addr) (tn:Nat->Heap->Prop) (J:It) (H':Hp),itv=.ref it/\Inv X pins σ H' s2/\Turn X.prog X.w X.K tg J fp it tn/\tn 0 s2.heap/\(∀b∈fp,FpOk X pins H' b)/\R J H'
theorem yG{M:Model}{A:Around}{E:Value->Shared->Prop}{s:Shared}{tg:Expr}{it:Addr}{u:Value}{o:Obj}{n:String}{vs:Array Value}{Q:Unit->Shared->Prop}(ho:s.heap.get? it=some o)(hc:o.cls=.type n)(hd:o.data=.fields vs)
  (hn:["enumerate","zip","dict_itemiterator","dict_reverseitemiterator","odict_iterator","itertools.zip_longest","itertools.pairwise"].contains n=false) (hQ:Q () s):wpAny M A (letOwnedTupleGo tg (.ref it) u) Q E s:=by
 unfold letOwnedTupleGo;cases tg<;>first
  |exact wpAny_pure hQ
  |(cases u<;>first
    |exact wpAny_pure hQ
    |(refine wpAny_bind (wpAny_load ho ?_)
      rw[hc,hd];show wpAny M A (if (["enumerate","zip","dict_itemiterator","dict_reverseitemiterator","odict_iterator","itertools.zip_longest","itertools.pairwise"].contains n && vs[0]? == some (rawInt _))=true then _ else _) Q E s;rw[if_neg (by intro h;rw[hn,Bool.false_and] at h;cases h)];exact wpAny_pure hQ))
def Itl(K:PySem.W.Frag)(a:Addr):It:=
 ⟨fun i H=>∃xs x,SqL K H a xs/\xs[i]?=some x,fun i H x H'=>H'=H/\∀xs,SqL K H a xs->xs[i]?=some x,fun i H=>∃xs,SqL K H a xs/\xs.length<=i⟩
def Itt(K:PySem.W.Frag)(a:Addr):It:=
 ⟨fun i H=>∃xs x,SqT K H a xs/\xs[i]?=some x,fun i H x H'=>H'=H/\∀xs,SqT K H a xs->xs[i]?=some x,fun i H=>∃xs,SqT K H a xs/\xs.length<=i⟩
theorem rK{P:Program}{w:World}{K:PySem.W.Frag}{tg:Expr}(a it:Addr):Turn P w K tg (Itl K a) [it] it (fun i h=>h.IsListIter it a i) where
 mem:=by simp
 obj:=fun i h st b hb=>by
  have e:b=it:=by simpa using hb
  subst e;obtain⟨o,e,c,d⟩:=st;exact⟨o,e,fun v z=>by rw[d] at z;cases z⟩
 keep:=fun i h h' st k=>st.at fun o e=>k it (by simp) o e
 item:=by
  intro X hP hw hK hc i pins s σ H E I hf st hg;subst hP hw hK;obtain⟨xs,x,hq,hx⟩:=hg;obtain⟨its,rv,p,hz⟩:=I.list hq;obtain⟨u,hu,ru⟩:=rv.get hx;obtain⟨f0,f1,f2,f3,f4,f5⟩:=hf it (by simp);refine wpAny_pyNext_list_item st p.isList (x:=u) (by simpa using hu) fun h' st' sb=>?_
  have I1:Inv X pins σ H { s with heap:=h' }:=I.turned (t':=s.toks) (fun b o hb e=>(sb.2 b hb).trans e) f0 f1 f3 f4 f5;obtain⟨o,e,c,d⟩:=id st';exact⟨u,rfl,yG (s:={ s with heap:=h' }) e c d (by decide) ⟨x,H,I1,ru,⟨rfl,fun ys hy=>by rw[I.list_inj hy hq];exact hx⟩,st',fun b hb=>(hf b hb).1⟩⟩
 done:=by
  intro X hP hw hK hc i pins s σ H E I hf st hg;subst hP hw hK;obtain⟨xs,hq,hx⟩:=hg;obtain⟨its,rv,p,hz⟩:=I.list hq;obtain⟨f0,f1,f2,f3,f4,f5⟩:=hf it (by simp);have hl:=rv.length;exact wpAny_pyNext_list_end (I.ok.hd hc) st p.isList (by simp;omega) fun h' eb=>⟨rfl,I.turned (t':=s.toks) (fun b o hb e=>eb b o hb e) f0 f1 f3 f4 f5⟩
 self:=fun _ _ _ _ _ st h=>wpAny_pyIter_listiter st h
theorem vG{P:Program}{w:World}{K:PySem.W.Frag}{tg:Expr}(a it:Addr):Turn P w K tg (Itt K a) [it] it (fun i h=>h.IsTupleIter it a i) where
 mem:=by simp
 obj:=fun i h st b hb=>by
  have e:b=it:=by simpa using hb
  subst e;obtain⟨o,e,c,d⟩:=st;exact⟨o,e,fun v z=>by rw[d] at z;cases z⟩
 keep:=fun i h h' st k=>st.at fun o e=>k it (by simp) o e
 item:=by
  intro X hP hw hK hc i pins s σ H E I hf st hg;subst hP hw hK;obtain⟨xs,x,hq,hx⟩:=hg;obtain⟨its,rv,p,hz⟩:=I.tuple hq;obtain⟨u,hu,ru⟩:=rv.get hx;obtain⟨f0,f1,f2,f3,f4,f5⟩:=hf it (by simp);refine wpAny_pyNext_tuple_item st (show s.heap.IsTuple a its.toArray from p) (x:=u) (by simpa using hu) fun h' st' sb=>?_
  have I1:Inv X pins σ H { s with heap:=h' }:=I.turned (t':=s.toks) (fun b o hb e=>(sb.2 b hb).trans e) f0 f1 f3 f4 f5;obtain⟨o,e,c,d⟩:=id st';exact⟨u,rfl,yG (s:={ s with heap:=h' }) e c d (by decide) ⟨x,H,I1,ru,⟨rfl,fun ys hy=>by rw[I.tuple_inj hy hq];exact hx⟩,st',fun b hb=>(hf b hb).1⟩⟩
 done:=by
  intro X hP hw hK hc i pins s σ H E I hf st hg;subst hP hw hK;obtain⟨xs,hq,hx⟩:=hg;obtain⟨its,rv,p,hz⟩:=I.tuple hq;obtain⟨f0,f1,f2,f3,f4,f5⟩:=hf it (by simp);have hl:=rv.length;exact wpAny_pyNext_tuple_end (I.ok.hd hc) st (show s.heap.IsTuple a its.toArray from p) (by simp;omega) fun h' eb=>⟨rfl,I.turned (t':=s.toks) (fun b o hb e=>eb b o hb e) f0 f1 f3 f4 f5⟩
 self:=fun _ _ _ _ _ st h=>wpAny_pyIter_tupleiter st h
end L2
namespace L2
open PySem PySem.Spec PyProof.Rows
section
variable{X:Cx}{tg:Expr}
def nj(fp:List Addr)(h:Heap):List (Addr×Obj):=fp.filterMap fun b=>(h.get? b).map fun o=>(b,o)
theorem jJ{fp:List Addr}{h:Heap}{b:Addr}{o:Obj}(hb:b∈fp)(e:h.get? b=some o):(b,o)∈nj fp h:=List.mem_filterMap.mpr ⟨b,hb,by rw[e];rfl⟩
theorem xz{fp:List Addr}{h:Heap}{p:Addr×Obj}(hp:p∈nj fp h):p.1∈fp/\h.get? p.1=some p.2:=by
 obtain⟨b,hb,e⟩:=List.mem_filterMap.mp hp;cases q:h.get? b with
 |none=>rw[q] at e;cases e
 |some o=>
  rw[q] at e;have e':(b,o)=p:=Option.some.inj e;subst e';exact⟨hb,q⟩
theorem Inv.pinned{pins:List (Addr×Obj)}{σ:St}{H:Hp}{s:Shared}{fp:List Addr}(I:Inv X pins σ H s)(hf:∀b∈fp,FpOk X pins H b)(ho:∀b∈fp,∃o,s.heap.get? b=some o/\∀v,o.data≠.cell v):Inv X (pins++nj fp s.heap) σ H s:=
 I.pins_of fun p hp=>(List.mem_append.mp hp).elim (fun z=>I.pin p (List.mem_append_right _ z)) fun z=>by
  obtain⟨hb,e⟩:=xz z;obtain⟨f0,f1,f2,_⟩:=hf p.1 hb;obtain⟨o,e',d⟩:=ho p.1 hb;rw[e] at e';cases e';exact⟨e,f0,f1,f2,d⟩
theorem Inv.unpinned{pins pl:List (Addr×Obj)}{σ:St}{H:Hp}{s:Shared}(I:Inv X (pins++pl) σ H s):Inv X pins σ H s:=I.pins_of fun p hp=>I.pin p (List.mem_append_right _ (List.mem_append_left _ hp))
end
end L2
namespace L2
open PySem PySem.Spec PyProof.Rows
abbrev R2:=V->V->Hp->VK->Prop
def OpR(X:Cx)(f:Value->Value->Sem Value)(r:R2):Prop:=
 ∀(pins:List (Addr×Obj)) (s:Shared) (σ:St) (H:Hp) (x y:V) (v u:Value) (Q:VK),Inv X pins σ H s->RelV x v->RelV y u->r x y H Q->
  wpAny (model X.prog X.w) X.A (f v u) (EP X pins σ Q) X.xe s
def UnR(X:Cx)(f:Value->Sem Value)(r:V->Hp->VK->Prop):Prop:=
 ∀(pins:List (Addr×Obj)) (s:Shared) (σ:St) (H:Hp) (x:V) (v:Value) (Q:VK),Inv X pins σ H s->RelV x v->r x H Q->
  wpAny (model X.prog X.w) X.A (f v) (EP X pins σ Q) X.xe s
def CallR(X:Cx)(f:Value)(r:List V->Hp->VK->Prop):Prop:=
 ∀(pins:List (Addr×Obj)) (s:Shared) (σ:St) (H:Hp) (xs:List V) (us:List Value) (Q:VK),Inv X pins σ H s->Vals xs us->r xs H Q->
  wpAny (model X.prog X.w) X.A (call f us) (EP X pins σ Q) X.xe s
def DC(X:Cx)(r:V->Hp->(Bool->Hp->Prop)->Prop):Prop:=
 ∀(pins:List (Addr×Obj)) (s:Shared) (σ:St) (H:Hp) (x:V) (v:Value) (Q:Bool->Hp->Prop),Inv X pins σ H s->RelV x v->r x H Q->
  wpAny (model X.prog X.w) X.A (truthy v) (TP X pins σ Q) X.xe s
def rI(C:Int->Int->Prop)(g:Int->Int->V):R2:=fun x y H Q=>∃i j,x=.int i/\y=.int j/\C i j/\Q (g i j) H
def rI0(g:Int->Int->V):R2:=fun x y H Q=>∃i j,x=.int i/\y=.int j/\Q (g i j) H
def rU(g:Int->V):V->Hp->VK->Prop:=fun x H Q=>∃i,x=.int i/\Q (g i) H
section
variable{X:Cx}{a b c:Expr}{ta tb tc:TE}{pos:Pos}
theorem opI{f:Value->Value->Sem Value}{C:Int->Int->Prop}{g:Int->Int->Int}
  (rule:∀(i j:Int) (t u:Tok) (s:Shared) (Q:Value->Shared->Prop) (E:Value->Shared->Prop),C i j->Q (.int (g i j) s.toks) { s with toks:=s.toks+1 }->wpAny (model X.prog X.w) X.A (f (.int i t) (.int j u)) Q E s) :
  OpR X f (rI C fun i j=>.int (g i j)):=by
 intro pins s σ H x y v u Q I rx ry h;obtain⟨i,j,rfl,rfl,hc,q⟩:=h;obtain⟨t,rfl⟩:=rx;obtain⟨t',rfl⟩:=ry;exact rule i j t t' s _ _ hc ⟨.int (g i j),H,I.tok _,⟨_,rfl⟩,q⟩
theorem AR{f:Value->Value->Sem Value}{g:Int->Int->Bool}
  (rule:∀(i j:Int) (t u:Tok) (s:Shared) (Q:Value->Shared->Prop) (E:Value->Shared->Prop),Q (.bool (g i j)) s->wpAny (model X.prog X.w) X.A (f (.int i t) (.int j u)) Q E s) :
  OpR X f (rI0 fun i j=>.bl (g i j)):=by
 intro pins s σ H x y v u Q I rx ry h;obtain⟨i,j,rfl,rfl,q⟩:=h;obtain⟨t,rfl⟩:=rx;obtain⟨t',rfl⟩:=ry;exact rule i j t t' s _ _ ⟨.bl (g i j),H,I,rfl,q⟩
def Bt(i j:Int):Prop:=0<j/\j<1073741824
def CMul(i j:Int):Prop:=(-(2 ^ 64)<i/\i<2 ^ 64)\/(-(2 ^ 64)<j/\j<2 ^ 64)
theorem CMul.ok{i j:Int}(h:CMul i j):IntMulOk i j:=by
 rcases h with ⟨h1,h2⟩|⟨h1,h2⟩
 ·exact .of_left (intBits_le_64 h1 h2)
 ·exact .of_right (intBits_le_64 h1 h2)
theorem op_mul:OpR X (binaryOp .Mult) (rI CMul fun i j=>.int (i * j)):=opI fun _ _ _ _ _ _ _ hc q=>mul_int q hc.ok
theorem AL:OpR X (binaryOp .FloorDiv) (rI Bt fun i j=>.int (i / j)):=opI fun i j _ _ _ _ _ hc q=>by
 have h1:(0:Int)<j:=hc.1;have h2:j<1073741824:=hc.2;exact floordiv_int (by omega) (by rw[Int.fdiv_eq_ediv_of_nonneg i (by omega)];exact q) (.inl (PyProof.noPylong_small (by omega)))
theorem B8:OpR X (binaryOp .Mod) (rI (fun _ j=>0<j) fun i j=>.int (i % j)):=opI fun i j _ _ _ _ _ hc q=>by
 have h1:(0:Int)<j:=hc;exact mod_int' (by omega) (by rw[Int.fmod_eq_emod_of_nonneg i (by omega)];exact q)
theorem unI{f:Value->Sem Value}{g:Int->Int}
  (rule:∀(i:Int) (t:Tok) (s:Shared) (Q:Value->Shared->Prop) (E:Value->Shared->Prop),Q (.int (g i) s.toks) { s with toks:=s.toks+1 }->wpAny (model X.prog X.w) X.A (f (.int i t)) Q E s) :
  UnR X f (rU fun i=>.int (g i)):=by
 intro pins s σ H x v Q I rx h;obtain⟨i,rfl,q⟩:=h;obtain⟨t,rfl⟩:=rx;exact rule i t s _ _ ⟨.int (g i),H,I.tok _,⟨_,rfl⟩,q⟩
theorem Bx:UnR X (unaryOp .USub) (rU fun i=>.int (-i)):=unI fun _ _ _ _ _ q=>neg_int q
end
section
variable{X:Cx}{a b c:Expr}{ta tb tc:TE}{pos:Pos}
theorem CI:OpR X (compareOp .Lt) (rI0 fun i j=>.bl (decide (i<j))):=AR fun _ _ _ _ _ _ _ q=>lt_int q
theorem Cm:OpR X (compareOp .LtE) (rI0 fun i j=>.bl (decide (i<=j))):=AR fun _ _ _ _ _ _ _ q=>le_int q
theorem CQ:OpR X (compareOp .Gt) (rI0 fun i j=>.bl (decide (j<i))):=AR fun _ _ _ _ _ _ _ q=>gt_int q
theorem Cu:OpR X (compareOp .GtE) (rI0 fun i j=>.bl (decide (j<=i))):=AR fun _ _ _ _ _ _ _ q=>ge_int q
theorem OpR.or{f:Value->Value->Sem Value}{r r':R2}(h:OpR X f r)(h':OpR X f r'):OpR X f (fun x y H Q=>r x y H Q\/r' x y H Q):=by
 intro pins s σ H x y v u Q I rx ry q;rcases q with q|q
 ·exact h pins s σ H x y v u Q I rx ry q
 ·exact h' pins s σ H x y v u Q I rx ry q
theorem aN(b:Expr){op:CmpOp}(h:op≠.In:=by decide)(h2:op≠.NotIn:=by decide):behindInMarks op b=false:=by
 have e1:(op == CmpOp.In)=false:=by cases op<;>first|rfl|exact absurd rfl h
 have e2:(op == CmpOp.NotIn)=false:=by cases op<;>first|rfl|exact absurd rfl h2
 cases b<;>simp[behindInMarks,e1,e2]
def CP(K:PySem.W.Frag)(x:V)(H:Hp)(k:Bool):Prop:=
 match x with
 |.non=>k=false
 |.bl b=>k=b
 |.int i=>k=(i != 0)
 |.str y=>y.length<=sizeLine/\k=((y.length:Int) != 0)
 |.byt y=>y.size<=sizeLine/\k=((y.size:Int) != 0)
 |.ref p=>(∃xs,SqL K H p xs/\k = !xs.isEmpty)\/(∃xs,SqT K H p xs/\k = !xs.isEmpty)\/∃kvs,H p=some (.dK kvs)/\k = !kvs.isEmpty
 |_=>False
theorem vN{κ:Type}{kvs:List (κ×V)}{vs:List (κ×Value)}(r:KV kvs vs):(!vs.isEmpty) = !kvs.isEmpty:=by
 cases r<;>rfl
theorem p0{xs:List V}{its:List Value}(r:Vals xs its):(!its.toArray.isEmpty) = !xs.isEmpty:=by
 cases r<;>simp
theorem ll:(sizeLine:Nat)<2 ^ 63:=by rw[sizeLine_eq];decide
theorem BN:DC X (fun x H Q=>∃k,CP X.K x H k/\Q k H):=by
 intro pins s σ H x v Q I rx h;obtain⟨k,e,q⟩:=h;have hl:=ll;have hs:sizeLine=16777216:=sizeLine_eq;cases x with
 |non=>
  cases rx;have e':k=false:=e;subst e';exact truthy_none ⟨H,I,q⟩
 |bl b=>
  cases rx;have e':k=b:=e;subst e';exact wpAny_truthy_bool ⟨H,I,q⟩
 |int i=>
  obtain⟨t,rfl⟩:=rx;have e':k=(i != 0):=e;subst e';exact PySem.P.truthy_int ⟨H,I,q⟩
 |str y=>
  obtain⟨t,rfl⟩:=rx;obtain⟨hy,e'⟩:y.length<=sizeLine/\k=((y.length:Int) != 0):=e;subst e';exact PySem.P.truthy_str (by omega) ⟨H,I.tok _,q⟩
 |byt y=>
  obtain⟨t,rfl⟩:=rx;obtain⟨hy,e'⟩:y.size<=sizeLine/\k=((y.size:Int) != 0):=e;subst e';exact PySem.W.truthy_bytes (by omega) ⟨H,I.tok _,q⟩
 |ref p=>
  cases rx;have e':(∃xs,SqL X.K H p xs/\k = !xs.isEmpty)\/(∃xs,SqT X.K H p xs/\k = !xs.isEmpty)\/∃kvs,H p=some (.dK kvs)/\k = !kvs.isEmpty:=e;rcases e' with ⟨xs,hx,e'⟩|⟨xs,hx,e'⟩|⟨kvs,hx,e'⟩
  ·subst e';obtain⟨its,r,pl,hz⟩:=I.list hx;have hlen:=r.length;exact wpAny_truthy_list pl.isList (by simp only[List.size_toArray];omega) ⟨H,I.tok _,by rw[p0 r];exact q⟩
  ·subst e';obtain⟨its,r,pl,hz⟩:=I.tuple hx;have hlen:=r.length;exact truthy_tuple pl (by simp only[List.size_toArray];omega) ⟨H,I.tok _,by rw[p0 r];exact q⟩
  ·subst e';obtain⟨hz,hS,vs,r,m⟩:kvs.length<=sizeLine/\(p == sysModules)=false/\∃vs,KV kvs vs/\s.heap.DictOf (cW X.prog X.w) p vs:=I.hok p _ hx;have hlen:kvs.length=vs.length:=Paired.length r;exact wpAny_truthy_dict hS m (by omega) ⟨H,I.tok _,by rw[vN r];exact q⟩
 |_=>exact(show False from e).elim
theorem zz{x:V}{us:List Value}(r:Vals [x] us):∃u,us=[u]/\RelV x u:=by
 cases r with
 |cons r1 r2=>cases r2;exact⟨_,rfl,r1⟩
theorem Bf{x y:V}{us:List Value}(r:Vals [x,y] us):∃u w',us=[u,w']/\RelV x u/\RelV y w':=by
 cases r with
 |cons r1 r2=>
  cases r2 with
  |cons r3 r4=>cases r4;exact⟨_,_,rfl,r1,r3⟩
theorem xF(hc:X.calm=true):CallR X (.builtin "max") (fun xs H Q=>∃i j,xs=[.int i,.int j]/\Q (.int (if j > i then j else i)) H):=by
 intro pins s σ H xs us Q I r h;obtain⟨i,j,rfl,q⟩:=h;obtain⟨u,w',rfl,⟨t,rfl⟩,⟨t',rfl⟩⟩:=Bf r;refine max_two_ints (I.ok.hd hc) fun h' tk k=>⟨_,H,I.kept k,?_,q⟩
 by_cases hj:j > i
 ·rw[if_pos hj,if_pos hj];exact⟨_,rfl⟩
 ·rw[if_neg hj,if_neg hj];exact⟨_,rfl⟩
theorem xq(hc:X.calm=true):CallR X (.builtin "min") (fun xs H Q=>∃i j,xs=[.int i,.int j]/\Q (.int (if j<i then j else i)) H):=by
 intro pins s σ H xs us Q I r h;obtain⟨i,j,rfl,q⟩:=h;obtain⟨u,w',rfl,⟨t,rfl⟩,⟨t',rfl⟩⟩:=Bf r;refine min_two_ints (I.ok.hd hc) fun h' tk k=>⟨_,H,I.kept k,?_,q⟩
 by_cases hj:j<i
 ·rw[if_pos hj,if_pos hj];exact⟨_,rfl⟩
 ·rw[if_neg hj,if_neg hj];exact⟨_,rfl⟩
end
end L2
namespace L2
open PySem PySem.Spec PyProof.Rows
structure ObjM(h:Heap)(x dx C:Addr)(mA:Str->Option Value):Prop where
 obj:h.get? x=some (PySem.W.instObj C dx)
 ns:h.Ns1 dx mA
 ne:dx≠x
theorem xr{h:Heap}{dx:Addr}{mA:Str->Option Value}(n:h.Ns1 dx mA):∃od,h.get? dx=some od/\∀name,PySem.W.lookIn name od=some (mA name):=by
 obtain⟨o,es,ep,ho,hd,hk,_,hm⟩:=n;refine⟨o,ho,fun name=>?_⟩;have e:=hm name;unfold nsFind findBy at e;rw[<-Array.find?_toList] at e;unfold PySem.W.lookIn;rw[hd];dsimp only;split
 ·rename_i y q;rw[q] at e;exact congrArg some e
 ·rename_i q;rw[q] at e;have a:es.toList.any (·.refKey)=false:=by
   rw[List.any_eq_false];intro y hy;obtain⟨z,t,hkey⟩:=hk y (Array.mem_toList_iff.mp hy);simp[DictEntry.refKey,hkey]
  have a':¬es.toList.any (·.refKey)=true:=by rw[a];exact Bool.false_ne_true
  rw[if_neg a'];exact congrArg some e
theorem ObjM.look{h:Heap}{x dx C:Addr}{mA:Str->Option Value}(I:ObjM h x dx C mA):∃od,PySem.W.InstAt h x (PySem.W.instObj C dx) C (some od)/\∀name,PySem.W.lookIn name od=some (mA name):=
 let ⟨od,ho,hl⟩:=xr I.ns
 ⟨od,⟨I.obj,rfl,rfl,ho⟩,hl⟩
section
variable{prog:Program}{w:World}{A:Around}{E:Value->Shared->Prop}{s:Shared}{K:PySem.W.Frag}{x dx C f:Addr}{mA:Str->Option Value}{name:Str}{v:Value}
theorem AN{expr:Bool}{Q:Value->Shared->Prop}(X:K.In s.heap)(I:ObjM s.heap x dx C mA)(hg:PySem.W.plainGet K C name=true)(hh:PySem.W.hasDictIn K C=true)
  (ha:PySem.W.findIn K (.ref C) name=some none) (hv:mA name=some v) (hv':PySem.W.handedIn v=true) (h:Q v { s with toks:=s.toks+1 }) :
  wpAny (model prog w) A (getAttr (.ref x) name expr) Q E s:=by
 obtain⟨od,J,hl⟩:=I.look;exact PySem.W.get_value X J (PySem.W.plainGet_of hg).1 (PySem.W.findObj_own hh ha rfl (by rw[hl,hv])) hv' h
theorem yD{pl:Sem Bool}{Q:Value×List Value->Shared->Prop}(X:K.In s.heap)(I:ObjM s.heap x dx C mA)(hg:PySem.W.plainGet K C name=true)
  (hf:PySem.W.findIn K (.ref C) name=some (some (.ref f))) (ht:PySem.W.isFn K (.ref f)=true) (hv:mA name=none) (h:Q (.ref f,[.ref x]) s) :
  wpAny (model prog w) A (getMethod (.ref x) name pl) Q E s:=by
 obtain⟨od,J,hl⟩:=I.look;exact PySem.W.method_fn X J (PySem.W.plainGet_of hg).1 (PySem.W.plainGet_of hg).2 hf (beq_iff_eq.mp ht) (by show(PySem.W.lookIn name od).map (·.isSome)=some false;rw[hl,hv];rfl) h
theorem Av{ns:List Str}{Q:Unit->Shared->Prop}(X:K.In s.heap)(I:ObjM s.heap x dx C mA)
  (hs:PySem.W.findIn K (.ref C) "__setattr__"=some (some (.builtin "object.__setattr__"))) (hp:PySem.W.plainOver K C=true) (ht:PySem.W.takerIn K C name=some none) (hh:PySem.W.hasDictIn K C=true)
  (hw:PySem.Within mA ns) (hsz:ns.length<=sizeLine)
  (h:∀h',ObjM h' x dx C (fun y=>if y=name then some v else mA y)->Heap.SameBut dx s.heap h'->Q () { s with heap:=h',toks:=s.toks+2 }) :
  wpAny (model prog w) A (setAttr (.ref x) name v) Q E s:=by
 obtain⟨od,J,hl⟩:=I.look;refine PySem.W.set_plain X J hs (PySem.W.osa_open (s:={ s with toks:=s.toks+1 }) (r:=none) X J hp ht fun b=>?_);obtain⟨cd,hc,hd'⟩:=PySem.W.any_some hh;have hx:s.heap.get? x=some ⟨.ref C,some dx,.plain,#[]⟩:=I.obj;refine wpAny_bind (wpAny_pure (wpAny_bind (wpAny_bind (wpAny_loadPart hx (wpAny_bind (PySem.W.Looks.here (s:={ s with toks:=s.toks+1 }) (PySem.W.looks_clsIn X hc) ?_))))));rw[hd'];refine wpAny_pure (a:=some dx) (wpAny_bind (wpAny_pure (wpAny_bind ?_)));refine wpAny_nsSet1 (s:={ s with toks:=s.toks+1 }) I.ns fun h' hn2 hs2=>?_
 obtain⟨oD,esD,epD,hoD,hdD,hcD⟩:=hn2.count (PySem.Within.cons name v hw);refine wpAny_bind (wpAny_lookBehind hoD (by rw[hdD];exact pastItsLine_dict (Nat.le_trans hcD (by rw[List.length_cons];omega))) ?_);exact wpAny_pure (h _ ⟨(hs2.2 _ (Ne.symm I.ne)).trans I.obj,hn2,I.ne⟩ hs2)
theorem xZ{R:Result->Shared->Prop}{vs:List Value}{kw:List (Str×Value)}(X:K.In s.heap)(hm:PySem.W.makesIn K C=true)
  (hi:PySem.W.findIn K (.ref C) "__init__"=some (some (.ref f))) (hf:PySem.W.typeIn K (.ref f)=some (.type "function"))
  (h:codeAny (model prog w) (A.under (.builtin "type.__call__" ⟨.ref C :: vs,kw⟩)) (.call (.ref f) ⟨.ref (s.heap.objs.size+1) :: vs,kw⟩) (PySem.W.InitBack (s.heap.objs.size+1) R)
   { s with heap:=(s.heap.push PySem.W.emptyDict).push (PySem.W.instObj C s.heap.objs.size) }) :
  codeAny (model prog w) A (.call (.ref C) ⟨vs,kw⟩) R s:=by
 obtain⟨hh,g,d,t,os⟩:=s;exact PySem.W.make_core (PySem.W.makes_of X hm) (PySem.W.looks_findIn X hi) (fun self=>PySem.W.bind_fn X self hf) (.inl rfl) h
end
def gw(f:Str)(v:V):List (Str×V)->List (Str×V)
 |[]=>[(f,v)]
 |(g,x) :: r=>if g=f then (g,v) :: r else (g,x) :: gw f v r
theorem nM(f g:Str)(v:V):∀fs:List (Str×V),(gw f v fs).lookup g=if g=f then some v else fs.lookup g
 |[]=>by
  show List.lookup g [(f,v)]=_;by_cases h:g=f
  ·have hb:(g == f)=true:=beq_iff_eq.mpr h;simp only[List.lookup,hb,if_pos h]
  ·have hb:(g == f)=false:=beq_eq_false_iff_ne.mpr h;simp only[List.lookup,hb,if_neg h]
 |(k,x) :: r=>by
  have ih:=nM f g v r;rw[show gw f v ((k,x) :: r)=(if k=f then (k,v) :: r else (k,x) :: gw f v r) from rfl];by_cases hk:k=f
  ·rw[if_pos hk];by_cases h:g=k
   ·have hb:(g == k)=true:=beq_iff_eq.mpr h;simp only[List.lookup,hb,if_pos (h.trans hk)]
   ·have hb:(g == k)=false:=beq_eq_false_iff_ne.mpr h;simp only[List.lookup,hb,if_neg (fun e:g=f=>h (e.trans hk.symm))]
  ·rw[if_neg hk];by_cases h:g=k
   ·have hb:(g == k)=true:=beq_iff_eq.mpr h;simp only[List.lookup,hb,if_neg (fun e:g=f=>hk (h.symm.trans e))]
   ·have hb:(g == k)=false:=beq_eq_false_iff_ne.mpr h;simp only[List.lookup,hb];exact ih
theorem nu(f:Str)(v:V):∀fs:List (Str×V),f∈(gw f v fs).map (·.1)/\∀g,g∈fs.map (·.1)->g∈(gw f v fs).map (·.1)
 |[]=>⟨by simp[gw],fun g h=>by simp at h⟩
 |(k,x) :: r=>by
  obtain⟨i1,i2⟩:=nu f v r;rw[show gw f v ((k,x) :: r)=(if k=f then (k,v) :: r else (k,x) :: gw f v r) from rfl];by_cases hk:k=f
  ·rw[if_pos hk];subst hk;exact⟨by simp,fun g h=>by simpa using h⟩
  ·rw[if_neg hk];refine⟨?_,fun g h=>?_⟩
   ·rw[List.map_cons];exact List.mem_cons_of_mem _ i1
   ·rw[List.map_cons] at h ⊢;rcases List.mem_cons.mp h with e|e
    ·exact List.mem_cons.mpr (.inl e)
    ·exact List.mem_cons_of_mem _ (i2 g e)
theorem nU(f:Str)(v:V):∀fs:List (Str×V),(gw f v fs).length<=fs.length+1
 |[]=>by simp[gw]
 |(k,x) :: r=>by
  have ih:=nU f v r;rw[show gw f v ((k,x) :: r)=(if k=f then (k,v) :: r else (k,x) :: gw f v r) from rfl];by_cases hk:k=f
  ·rw[if_pos hk,List.length_cons,List.length_cons];omega
  ·rw[if_neg hk,List.length_cons,List.length_cons];omega
theorem RelO.some_of{v:V}{o:Option Value}(r:RelO (some v) o):∃u,o=some u/\RelV v u:=by
 cases o with
 |none=>exact(show False from r).elim
 |some u=>exact⟨u,rfl,r⟩
theorem RelO.none_of{o:Option Value}(r:RelO none o):o=none:=by
 cases o with
 |none=>rfl
 |some u=>exact(show False from r).elim
theorem xB{v:V}{u:Value}(r:RelV v u):PySem.W.handedIn u=true:=by
 cases v with
 |non=>cases(show u=Value.none from r);rfl
 |bl b=>cases(show u=Value.bool b from r);rfl
 |int i=>obtain⟨t,e⟩:=(show ∃t,u=Value.int i t from r);cases e;rfl
 |str x=>obtain⟨t,e⟩:=(show ∃t,u=Value.str x t from r);cases e;rfl
 |byt b=>obtain⟨t,e⟩:=(show ∃t,u=Value.bytes b t from r);cases e;rfl
 |flt b=>obtain⟨t,e⟩:=(show ∃t,u=Value.float b t from r);cases e;rfl
 |ref a=>cases(show u=Value.ref a from r);rfl
 |ty n=>cases(show u=Value.type n from r);rfl
section
variable{P:Program}{w:World}{H H':Hp}{h h':Heap}{a C dx:Addr}{fs fs':List (Str×V)}
theorem sW(hok:HOk P w H h)(e:H a=some (.ins C dx fs)):∃mA,ObjM h a dx C mA/\(∀f,RelO (fs.lookup f) (mA f))/\PySem.Within mA (fs.map (·.1))/\fs.length<=1000/\H dx=some (.own a):=by
 obtain⟨d,z,ne,ob,mA,n,r,q⟩:=(show ObjOk P w H h a (.ins C dx fs) from hok a _ e);exact⟨mA,⟨ob,n,ne⟩,r,q,z,d⟩
end
structure Cls(K:PySem.W.Frag)(C:Addr):Prop where
 pg:PySem.W.plainGet K C Str.empty=true
 hd:PySem.W.hasDictIn K C=true
 po:PySem.W.plainOver K C=true
 sa:PySem.W.findIn K (.ref C) "__setattr__"=some (some (.builtin "object.__setattr__"))
theorem Cls.get{K:PySem.W.Frag}{C:Addr}(c:Cls K C)(f:Str):PySem.W.plainGet K C f=true:=c.pg
def NoAttr(K:PySem.W.Frag)(C:Addr)(f:Str):Prop:=PySem.W.findIn K (.ref C) f=some none
theorem NoAttr.taker{K:PySem.W.Frag}{C:Addr}{f:Str}(n:NoAttr K C f):PySem.W.takerIn K C f=some none:=by
 unfold PySem.W.takerIn;rw[show PySem.W.findIn K (.ref C) f=some none from n];rfl
structure Con(K:PySem.W.Frag)(C:Addr)(f:Str)(v:V)(u:Value):Prop where
 at_:PySem.W.findIn K (.ref C) f=some (some u)
 rel:RelV v u
 get:PySem.W.specialIn K u "__get__"=some none
 cp:PySem.W.copiedNames.contains f=false
structure Meth(K:PySem.W.Frag)(C:Addr)(m:Str)(f:Addr):Prop where
 at_:PySem.W.findIn K (.ref C) m=some (some (.ref f))
 fn:PySem.W.isFn K (.ref f)=true
 kp:PySem.W.keepIn K (.ref f)=true
section
variable{X:Cx}{pins:List (Addr×Obj)}{σ:St}{H:Hp}{s:Shared}{a C dx:Addr}{fs:List (Str×V)}{f:Str}{v:V}{A:Around}{E:Value->Shared->Prop}
theorem py{b:Bool}{Q:Value->Shared->Prop}(I:Inv X pins σ H s)(e:H a=some (.ins C dx fs))(c:Cls X.K C)(n:NoAttr X.K C f)(l:fs.lookup f=some v)
  (h:∀u s',Inv X pins σ H s'->RelV v u->Q u s'):wpAny (model X.prog X.w) A (getAttr (.ref a) f b) Q E s:=by
 obtain⟨mA,O,r,_,_,_⟩:=sW I.hok e;obtain⟨u,hu,ru⟩:=RelO.some_of (v:=v) (o:=mA f) (by rw[<-l];exact r f);exact AN I.kIn O (c.get f) c.hd n hu (xB ru) (h u _ (I.tok _) ru)
theorem pj{m:Str}{g:Addr}{pl:Sem Bool}{Q:Value×List Value->Shared->Prop}(I:Inv X pins σ H s)(e:H a=some (.ins C dx fs))(c:Cls X.K C)(k:Meth X.K C m g)(l:fs.lookup m=none)
  (h:Q (.ref g,[.ref a]) s):wpAny (model X.prog X.w) A (getMethod (.ref a) m pl) Q E s:=by
 obtain⟨mA,O,r,_,_,_⟩:=sW I.hok e;have hn:mA m=none:=RelO.none_of (by rw[<-l];exact r m);exact yD I.kIn O (c.get m) k.at_ k.fn hn h
theorem pa{y:V}{u:Value}{Q:Unit->Shared->Prop}(I:Inv X pins σ H s)(e:H a=some (.ins C dx fs))(c:Cls X.K C)(n:NoAttr X.K C f)(hl:fs.length<1000)(ry:RelV y u)
  (h:∀s',Inv X pins σ (upd H a (.ins C dx (gw f y fs))) s'->Q () s'):wpAny (model X.prog X.w) A (setAttr (.ref a) f u) Q E s:=by
 obtain⟨mA,O,r,wi,_,ho⟩:=sW I.hok e;have hz:(fs.map (·.1)).length<=sizeLine:=by rw[List.length_map,sizeLine_eq];omega
 refine Av I.kIn O c.sa c.po n.taker c.hd wi hz fun h' O' sb=>h _ ?_
 have hd:∃o,h'.get? dx=some o:=let ⟨o,_,_,e',_⟩:=O'.ns;⟨o,e'⟩
 refine I.write (x:=a) (e:=dx) (by rw[e];exact True.intro) (.inr ho) (fun b q hb z=>(sb.2 b hb).trans z) hd ?_;refine⟨by rw[br O.ne];exact ho,?_,O.ne,O'.obj,_,O'.ns,fun g=>?_,fun g hg=>?_⟩
 ·have:=nU f y fs;omega
 ·show RelO ((gw f y fs).lookup g) (if g=f then some u else mA g);rw[nM];by_cases q:g=f
  ·rw[if_pos q,if_pos q];exact ry
  ·rw[if_neg q,if_neg q];exact r g
 ·by_cases q:g=f
  ·rw[q];exact(nu f y fs).1
  ·refine(nu f y fs).2 g (wi g fun z=>hg ?_);show(if g=f then some u else mA g)=none;rw[if_neg q];exact z
theorem Inv.made(I:Inv X pins σ H s):Inv X pins σ (upd (upd H s.heap.objs.size (.own (s.heap.objs.size+1))) (s.heap.objs.size+1) (.ins C s.heap.objs.size []))
  { s with heap:=(s.heap.push PySem.W.emptyDict).push (PySem.W.instObj C s.heap.objs.size) }:=by
 have e1:(s.heap.push PySem.W.emptyDict).get? s.heap.objs.size=some PySem.W.emptyDict:=Heap.get?_push_size s.heap rfl;have e2:((s.heap.push PySem.W.emptyDict).push (PySem.W.instObj C s.heap.objs.size)).get? (s.heap.objs.size+1)=some (PySem.W.instObj C s.heap.objs.size):=by
  have:=Heap.get?_push_size (s.heap.push PySem.W.emptyDict) (o:=PySem.W.instObj C s.heap.objs.size) rfl;rwa[Heap.size_push] at this
 have e3:(s.heap.push PySem.W.emptyDict).Ns s.heap.objs.size (fun _=>none):=⟨PySem.W.emptyDict,#[],_,e1,rfl,(fun e he=>absurd he (by simp)),fun _=>rfl⟩;have I1:=I.laid (a:=s.heap.objs.size) (o:=.own (s.heap.objs.size+1)) (h':=s.heap.push PySem.W.emptyDict) (t':=s.toks) (fun b u q=>Heap.get?_push_of_some _ q) (Nat.le_refl _) ⟨_,e1⟩;refine I1.laid (a:=s.heap.objs.size+1) (o:=.ins C s.heap.objs.size []) (t':=s.toks) (fun b u q=>Heap.get?_push_of_some _ q) (Nat.le_of_eq (Heap.size_push _ _)) ?_;have ne:s.heap.objs.size≠s.heap.objs.size+1:=Nat.ne_of_lt (Nat.lt_succ_self _);refine⟨by rw[br ne,bE],Nat.zero_le _,ne,e2,fun _=>none,(Heap.Ns1.of_empty e3).at fun o q=>Heap.get?_push_of_some _ q,fun _=>True.intro,fun y hy=>absurd rfl hy⟩
theorem Aq{prog:Program}{w:World}{env:Env}{e:Expr}{f:Str}{pos:Pos}{s:Shared}{Q:Value->Shared->Prop}(hb:attributeBase e f env (eval e env)=eval e env)
  (h:wpAny (model prog w) A (eval e env) (fun o s₁=>wpAny (model prog w) A (getAttr o f true) Q E s₁) E s):wpAny (model prog w) A (eval (.Attribute e f pos) env) Q E s:=
 Attribute_any_ h (by rw[arm_eval_Attribute,hb])
end
def jE(K:PySem.W.Frag)(ta tv:TE)(f:Str):TS:=fun D σ H=>tv σ H fun y H1=>ta σ H1 fun x H2=>∃a C dx fs,x=.ref a/\H2 a=some (.ins C dx fs)/\Cls K C/\NoAttr K C f/\fs.length<1000/\
 D.nx σ (upd H2 a (.ins C dx (gw f y fs)))
section
variable{X:Cx}{o e value:Expr}{f:Str}{pos pos' tpos:Pos}{ta tv:TE}
end
section
variable{X:Cx}{pins:List (Addr×Obj)}{σ:St}{H:Hp}{s:Shared}{A:Around}{E:Value->Shared->Prop}{Q:Value->Shared->Prop}{c:Value}{b:Bool}
inductive TyOf(K:PySem.W.Frag)(H:Hp):V->Value->Prop where
 |non:TyOf K H .non (.type "NoneType")
 |bl (x:Bool):TyOf K H (.bl x) (.type "bool")
 |int (i:Int):TyOf K H (.int i) (.type "int")
 |str (x:Str):TyOf K H (.str x) (.type "str")
 |flt (x:UInt64):TyOf K H (.flt x) (.type "float")
 |lst {a:Addr}{xs:List V}(e:H a=some (.lst xs)):TyOf K H (.ref a) (.type "list")
 |frz {a:Addr}{o:Obj}{xs:List V}(e:H a=some (.frz o (.lst xs))):TyOf K H (.ref a) (.type "list")
 |tup {a:Addr}{xs:List V}(e:H a=some (.tup xs)):TyOf K H (.ref a) (.type "tuple")
 |dK {a:Addr}{kvs:List (Key×V)}(e:H a=some (.dK kvs)):TyOf K H (.ref a) (.type "dict")
 |dT {a:Addr}{kvs:List (List Key×V)}(e:H a=some (.dT kvs)):TyOf K H (.ref a) (.type "dict")
 |ins {a C dx:Addr}{fs:List (Str×V)}(e:H a=some (.ins C dx fs)) (cl:Cls K C) (ha:PySem.W.findIn K (.ref C) "__class__"=some (some (.builtin "object.__class__")))
   (hn:PySem.W.specialIn K (.builtin "object.__class__") "__get__"=some (some (.builtin "getset_descriptor.__get__"))) (htk:PySem.W.takesIn K (.builtin "object.__class__")=some true)
   (hm:PySem.W.mroIn K C (.type "object")=some true):TyOf K H (.ref a) (.ref C)
end
end L2
namespace L2
open PySem PySem.Spec PyProof.Rows
structure Room(k:Nat)(A:Around):Prop where
 hd:A.handled=none
 dp:A.depth+3 * k+5<recursionLimit
 un:A.units+16 * k+200<cLine
theorem Room.mono{j k:Nat}{A:Around}(r:Room k A)(h:j<=k):Room j A:=⟨r.hd,by have:=r.dp;omega,by have:=r.un;omega⟩
theorem Room.deeper{k:Nat}{A:Around}(r:Room (k+1) A)(env:Env):Room k (A.deeper env):=
 ⟨r.hd,by have:=r.dp;show A.depth+1+3 * k+5<_;omega,by have:=r.un;show A.units+3+16 * k+200<_;omega⟩
theorem Room.in1{k:Nat}{A:Around}(r:Room (k+1) A):Room k A.in1:=
 ⟨r.hd,by have:=r.dp;show A.depth+3 * k+5<_;omega,by have:=r.un;show A.units+1+16 * k+200<_;omega⟩
theorem uY{A:Around}{C:Addr}{us:List Value}{kw:List (Str×Value)}:(A.under (.builtin "type.__call__" ⟨.ref C :: us,kw⟩)).depth=A.depth+1:=by
 first|rfl|simp[Around.under,Code.weight,Code.isCreation,Code.isGuard,Code.isCaller,Code.frames,Code.isFrame,guardIds]
theorem wa{A:Around}{C:Addr}{us:List Value}{kw:List (Str×Value)}:(A.under (.builtin "type.__call__" ⟨.ref C :: us,kw⟩)).units=A.units+1:=by
 first|rfl|simp[Around.under,Code.cUnits,Code.frames,Code.isFrame]
theorem Room.make{k:Nat}{A:Around}(r:Room (k+1) A)(C:Addr)(us:List Value)(kw:List (Str×Value)):Room k (A.under (.builtin "type.__call__" ⟨.ref C :: us,kw⟩)):=
 ⟨r.hd,by have:=r.dp;rw[uY];omega,by have:=r.un;rw[wa];omega⟩
theorem Room.depth{k:Nat}{A:Around}(r:Room k A):A.depth<recursionLimit:=by have:=r.dp;omega
theorem Room.units{k:Nat}{A:Around}(r:Room k A):A.units+64<cLine:=by have:=r.un;omega
section
variable{X:Cx}{e:Expr}{es:List Expr}{te:TE}{t:TA}{pos:Pos}
end
abbrev Sp:=List V->Hp->VK->XK->Prop
abbrev CXT:=List Env->Hp->Shared->XK->Value->Shared->Prop
structure Env0(P:Program)(w:World)(K:PySem.W.Frag)(mg:Str->Option Value)(base:Heap)(A:Around)(outer:List Env)(s:Shared)(H:Hp):Prop where
 frames:A.frames=some outer
 mod:Mod K mg base
 bs:∀b o,base.get? b=some o->s.heap.get? b=some o/\H b=none
 bsz:base.objs.size<=s.heap.objs.size
 funs:s.heap.FunFrames base outer
 frf:∀b∈frs outer,H b=none
 hok:HOk P w H s.heap
 bare:AllBare s.gens
def CE(outer:List Env)(P:Program)(w:World)(H:Hp)(s:Shared)(Q:VK)(u:Value)(s':Shared):Prop:=
 ∃v H',s'.os=s.os/\AllBare s'.gens/\Un (frs outer) [] H H' s.heap s'.heap/\HOk P w H' s'.heap/\RelV v u/\Q v H'
def CR(CX:CXT)(outer:List Env)(P:Program)(w:World)(H:Hp)(s:Shared)(Q:VK)(E:XK)(r:Result)(s':Shared):Prop:=
 match r with
 |.ok (.ret u)=>CE outer P w H s Q u s'
 |.ok _=>False
 |.error e=>CX outer H s E e s'
structure FnOk(P:Program)(w:World)(K:PySem.W.Frag)(mg:Str->Option Value)(base:Heap)(CX:CXT)(k:Nat)(f:Addr)(fd:FuncData)(ps:List Str)(sp:Sp):Prop where
 len:∀vs H Q E,sp vs H Q E->vs.length=ps.length
 run:∀(A:Around) (outer:List Env) (s:Shared) (H:Hp) (args:Args) (us:List Value) (vs:List V) (Q:VK) (E:XK),Room k A->Env0 P w K mg base A outer s H->BindsTo s fd args (ps.zip us)->Vals vs us->sp vs H Q E->
  codeAny (model P w) A (.call (.ref f) args) (CR CX outer P w H s Q E) s
theorem FnOk.mono{P:Program}{w:World}{K:PySem.W.Frag}{mg:Str->Option Value}{base:Heap}{CX:CXT}{j k:Nat}{f:Addr}{fd:FuncData}{ps:List Str}{sp:Sp}(F:FnOk P w K mg base CX j f fd ps sp)(h:j<=k) :
  FnOk P w K mg base CX k f fd ps sp:=⟨F.len,fun A outer s H args us vs Q E hr=>F.run A outer s H args us vs Q E (hr.mono h)⟩
theorem FnOk.imp{P:Program}{w:World}{K:PySem.W.Frag}{mg:Str->Option Value}{base:Heap}{CX:CXT}{k:Nat}{f:Addr}{fd:FuncData}{ps:List Str}{sp sp':Sp}(F:FnOk P w K mg base CX k f fd ps sp)
  (h:∀vs H Q E,sp' vs H Q E->sp vs H Q E):FnOk P w K mg base CX k f fd ps sp':=
 ⟨fun vs H Q E q=>F.len vs H Q E (h _ _ _ _ q),fun A outer s H args us vs Q E hr he hb hv hs=>F.run A outer s H args us vs Q E hr he hb hv (h _ _ _ _ hs)⟩
theorem Env0.make{P:Program}{w:World}{K:PySem.W.Frag}{mg:Str->Option Value}{base:Heap}{A:Around}{outer:List Env}{s:Shared}{H:Hp}(e:Env0 P w K mg base A outer s H)(C:Addr)(us:List Value)(kw:List (Str×Value)) :
  Env0 P w K mg base (A.under (.builtin "type.__call__" ⟨.ref C :: us,kw⟩)) outer s H:=⟨by first|exact e.frames|(simpa[Around.under,Code.envs,Code.isFrame,pushEnvs] using e.frames),e.mod,e.bs,e.bsz,e.funs,e.frf,e.hok,e.bare⟩
theorem Env0.in1{P:Program}{w:World}{K:PySem.W.Frag}{mg:Str->Option Value}{base:Heap}{A:Around}{outer:List Env}{s:Shared}{H:Hp}(e:Env0 P w K mg base A outer s H) :
  Env0 P w K mg base A.in1 outer s H:=⟨e.frames,e.mod,e.bs,e.bsz,e.funs,e.frf,e.hok,e.bare⟩
section
variable{X:Cx}{pins:List (Addr×Obj)}{σ:St}{H:Hp}{s s':Shared}
theorem Inv.env0(I:Inv X pins σ H s):Env0 X.prog X.w X.K X.mg X.base X.A X.stack s H:=
 ⟨I.ok.frames,I.ok.mod,I.bs,Nat.le_trans I.ok.bsz I.sz,I.stack,I.stkFree,I.hok,I.bare⟩
theorem Inv.after{Q:VK}{u:Value}(I:Inv X pins σ H s)(h:CE X.stack X.prog X.w H s Q u s'):EP X pins σ Q u s':=by
 obtain⟨v,H',os,bare,un,hok,r,q⟩:=h;obtain⟨hh,g,d,t,os'⟩:=s';obtain rfl:os'=s.os:=os;exact⟨v,H',I.call (h':=hh) (g':=g) (d':=d) (t':=t) (ch:=[]) un hok bare (fun b z=>absurd z (by simp)),r,q⟩
end
def Binds(K:PySem.W.Frag)(fd:FuncData)(ps:List Str)(ds:List Value):Prop:=
 ∀(s:Shared) (us:List Value),K.In s.heap->(us++ds).length=ps.length->BindsTo s fd ⟨us,[]⟩ (ps.zip (us++ds))
theorem Binds.all{K:PySem.W.Frag}{fd:FuncData}{ps:List Str}(h:∀us:List Value,us.length=ps.length->bindArgs fd ⟨us,[]⟩=pure (ps.zip us)):Binds K fd ps []:=fun s us _ hl=>by
 rw[List.append_nil] at hl ⊢;exact .of_eq (h us hl)
section
variable{X:Cx}{CX:CXT}{k:Nat}{f C:Addr}{fd:FuncData}{ps:List Str}{sp:Sp}{dvs:List V}{ds:List Value}{E:XK}{x m:Str}{p pos apos:Pos}{e o:Expr}{es:List Expr}{ta:TE}{t:TA}
structure Mk(K:PySem.W.Frag)(C f:Addr):Prop where
 makes:PySem.W.makesIn K C=true
 init:PySem.W.findIn K (.ref C) "__init__"=some (some (.ref f))
 fn:PySem.W.isFn K (.ref f)=true
 kp:PySem.W.keepIn K (.ref C)=true
end
section
variable{X:Cx}{CX:CXT}{k:Nat}{f C:Addr}{fd:FuncData}{ps ks:List Str}{sp:Sp}{E:XK}{x m:Str}{p pos apos kpos:Pos}{e o:Expr}{es:List Expr}{kws:List Keyword}{te ta:TE}{t tk:TA}{nm:Option Str}
structure KBinds(K:PySem.W.Frag)(fd:FuncData)(ps ks:List Str)(g:List Value->List Value->List Value)(gV:List V->List V->List V):Prop where
 to:∀(s:Shared) (us ws:List Value),K.In s.heap->(g us ws).length=ps.length->BindsTo s fd ⟨us,ks.zip ws⟩ (ps.zip (g us ws))
 rel:∀{vs:List V}{us:List Value}{zs:List V}{ws:List Value},Vals vs us->Vals zs ws->Vals (gV vs zs) (g us ws)
variable{g:List Value->List Value->List Value}{gV:List V->List V->List V}
end
structure FnScope(N P:List Str)(sc:Scope):Prop where
 kind:sc.kind=.function
 co:sc.isCoroutine=false
 gen:sc.isGenerator=false
 nd:N.Nodup
 pre:N.take P.length=P
 par:∀x∈P,sc.names.lookup x=some .local\/sc.names.lookup x=some .cell
 nofree:∀y∈sc.names,y.2≠.free
theorem rF{kindOf:Str->Option NameKind}{x:Str}:∀{binds:List (Str×Value)}{m:Str->Option Value},(∀v,(x,v)∉binds)->bindL kindOf binds m x=m x
 |[],_,_=>rfl
 |(n,v) :: r,m,h=>by
  unfold bindL;rw[rF fun w hw=>h w (List.mem_cons_of_mem _ hw)];split
  ·have:x≠n:=by rintro rfl;exact h v List.mem_cons_self
   simp[this]
  ·rfl
theorem rN{kindOf:Str->Option NameKind}{x:Str}:∀{binds:List (Str×Value)}{m:Str->Option Value},(∀v,(x,v)∉binds)->bindC kindOf binds m x=m x
 |[],_,_=>rfl
 |(n,v) :: r,m,h=>by
  unfold bindC;rw[rN fun w hw=>h w (List.mem_cons_of_mem _ hw)];split
  ·rfl
  ·have:x≠n:=by rintro rfl;exact h v List.mem_cons_self
   simp[this]
theorem rZ{kindOf:Str->Option NameKind}{x:Str}{v:Value}:∀{P:List Str}{vs:List Value}{i:Nat}{m:Str->Option Value},P.Nodup->P[i]?=some x->vs[i]?=some v->kindOf x=some .local->
  bindL kindOf (P.zip vs) m x=some v
 |[],_,_,_,_,h,_,_=>by simp at h
 |_ :: _,[],_,_,_,_,h,_=>by simp at h
 |p :: P,w :: vs,0,m,nd,h1,h2,hk=>by
  simp at h1 h2;subst h1;subst h2;show bindL kindOf ((p,w) :: P.zip vs) m p=_;unfold bindL;rw[rF fun v hv=>(List.nodup_cons.mp nd).1 (List.of_mem_zip hv).1,if_pos hk];simp
 |p :: P,w :: vs,i+1,m,nd,h1,h2,hk=>by
  show bindL kindOf ((p,w) :: P.zip vs) m x=_;unfold bindL;exact rZ (i:=i) (List.nodup_cons.mp nd).2 (by simpa using h1) (by simpa using h2) hk
theorem rf{kindOf:Str->Option NameKind}{x:Str}{v:Value}:∀{P:List Str}{vs:List Value}{i:Nat}{m:Str->Option Value},P.Nodup->P[i]?=some x->vs[i]?=some v->kindOf x≠some .local->
  bindC kindOf (P.zip vs) m x=some v
 |[],_,_,_,_,h,_,_=>by simp at h
 |_ :: _,[],_,_,_,_,h,_=>by simp at h
 |p :: P,w :: vs,0,m,nd,h1,h2,hk=>by
  simp at h1 h2;subst h1;subst h2;show bindC kindOf ((p,w) :: P.zip vs) m p=_;unfold bindC;rw[rN fun v hv=>(List.nodup_cons.mp nd).1 (List.of_mem_zip hv).1,if_neg hk];simp
 |p :: P,w :: vs,i+1,m,nd,h1,h2,hk=>by
  show bindC kindOf ((p,w) :: P.zip vs) m x=_;unfold bindC;exact rf (i:=i) (List.nodup_cons.mp nd).2 (by simpa using h1) (by simpa using h2) hk
def start(N:List Str)(vs:List V):St:=vs.map some++List.replicate (N.length-vs.length) none
def ou(CX:CXT)(P:Program)(w:World)(K:PySem.W.Frag)(mg:Str->Option Value)(base:Heap)(N:List Str)(qual:Str)(scope:Scope)(f:Addr)(cd:Value)(A:Around)(outer:List Env)(s:Shared)(H:Hp)(E:XK):Cx where
 prog:=P
 w:=w
 K:=K
 mg:=mg
 base:=base
 A:=A.deeper (envOfC qual scope s.heap.objs.size f cd)
 N:=N
 s₀:=s
 H₀:=H
 env:=envOfC qual scope s.heap.objs.size f cd
 outer:=outer
 stack:=envOfC qual scope s.heap.objs.size f cd :: outer
 ex:=[]
 calm:=true
 fn:=fun _=>true
 pn:=[]
 xe:=fun e s'=>wpAny (model P w) (A.deeper (envOfC qual scope s.heap.objs.size f cd)) (leaving (envOfC qual scope s.heap.objs.size f cd) e) (fun _ s''=>CX outer H s E e s'') (fun e' s''=>CX outer H s E e' s'') s'
theorem ul{sc:Scope}{n:Nat}{x:Str}(h:sc.names.lookup x=some .cell):∃c,(cellsFrom n sc.names []).lookup x=some c:=by
 have q:=PySem.W.cellsFrom_some sc.names n [] (.inl h);exact Option.isSome_iff_exists.mp q
theorem xl{CX:CXT}{P:Program}{w:World}{K:PySem.W.Frag}{mg:Str->Option Value}{base:Heap}{N ps:List Str}{qual:Str}{scope:Scope}{f:Addr}{cd:Value}{A:Around}{outer:List Env}{s s1:Shared}{H:Hp}{E:XK}{us:List Value}{vs:List V}
  (S:FnScope N ps scope) (hd:A.handled=none) (e0:Env0 P w K mg base A outer s H) (hl:vs.length=ps.length) (r:Vals vs us)
  (x:InCallC s s.heap.objs.size (bindL (envOfC qual scope s.heap.objs.size f cd).kindOf (ps.zip us) fun _=>none) (cellsFrom (s.heap.objs.size+1) scope.names []) (bindC (envOfC qual scope s.heap.objs.size f cd).kindOf (ps.zip us) fun _=>none) s1) :
  Inv (ou CX P w K mg base N qual scope f cd A outer s H E) [] (start N vs) H s1:=by
 have hpl:ps.length<=N.length:=by have:=congrArg List.length S.pre;rw[List.length_take] at this;omega
 obtain⟨h1,tk,rfl,hk⟩:=x.done;have noA:∀b:Addr,b∉(ou CX P w K mg base N qual scope f cd A outer s H E).ex:=fun b z=>absurd (show b∈([]:List Addr) from z) (by simp)
 refine⟨⟨e0.mod,S.kind,rfl,rfl,Nat.le_refl _,fun y z c h1 h2=>?_,fun y hy=>?_,fun y c _ h=>?_,fun _=>hd,Around.frames_deeper e0.frames,.inr ⟨rfl,rfl⟩,fun b z=>absurd z (noA b),e0.bs,e0.bsz,fun b _ _=>noA b,fun b z=>absurd z (noA b),e0.funs,e0.frf⟩,
  rfl,e0.bare,Un.kept hk,⟨_,x.toInCall.ns,fun i y v h1 h2 h3=>?_⟩,fun y c h=>⟨_,x.cell y c h⟩,e0.hok.fresh (Nat.le_refl _),fun y c h=>?_,fun p hp=>absurd (show p∈([]:List (Addr×Obj)) from hp) (by simp),e0.hok.kept hk,?_⟩
 ·exact name_of_addr x.apart (PySem.mem_of_lookup h1) (PySem.mem_of_lookup h2)
 ·have hy:scope.names.lookup y=some .cell\/scope.names.lookup y=some .free:=hy;rcases hy with hy|hy
  ·exact ul hy
  ·exact absurd rfl (S.nofree _ (PySem.mem_of_lookup hy))
 ·exact Nat.le_of_lt (x.above y c (PySem.mem_of_lookup h))
 ·have hi:i<vs.length:=by
   unfold start at h2;by_cases hi:i<vs.length
   ·exact hi
   ·rw[List.getElem?_append_right (by simpa using hi)] at h2;rw[List.getElem?_replicate] at h2;split at h2<;>cases h2
  have ha:vs[i]?=some v:=by
   unfold start at h2;rw[List.getElem?_append_left (by simpa using hi),List.getElem?_map] at h2;cases e:vs[i]? with
   |none=>rw[e] at h2;cases h2
   |some a=>rw[e] at h2;cases h2;rfl
  obtain⟨u,hu,rv⟩:=r.get ha;have hp:ps[i]?=some y:=by
   rw[<-S.pre,List.getElem?_take_of_lt (by omega)];exact h1
  have ndP:ps.Nodup:=by rw[<-S.pre];exact S.nd.sublist (List.take_sublist _ _)
  refine⟨u,rv,?_⟩;rcases S.par y (List.mem_of_getElem? hp) with k|k
  ·exact .inl ⟨k,rZ ndP hp hu k⟩
  ·obtain⟨c,e⟩:=ul (n:=s.heap.objs.size+1) k;refine .inr ⟨.inl k,c,e,?_⟩;have q:=x.cell y c e;rw[rf ndP hp hu (by show scope.names.lookup y≠_;rw[k];decide)] at q;exact q
 ·exact e0.hok.fresh (Nat.le_of_lt (x.above y c (PySem.mem_of_lookup h)))
 ·unfold start;show _=N.length;rw[List.length_append,List.length_map,List.length_replicate];omega
theorem Be{CX:CXT}{P:Program}{w:World}{K:PySem.W.Frag}{mg:Str->Option Value}{base:Heap}{k:Nat}{f:Addr}{name qual:Str}{params:Arguments}{body:List Stmt}{scope:Scope}{dV kV doc pm cdv ct oc:Value}{an od:Option Addr}
  {osl:Array (Option Value)}{N ps:List Str}{sp:Sp}(lk:K.lookup f=some ⟨oc,od,.func (PySem.W.fnOf name qual params body scope dV kV doc pm an cdv ct),osl⟩) (hcd:PySem.W.codeIn K cdv qual=true) (S:FnScope N ps scope)
  (len:∀vs H Q E,sp vs H Q E->vs.length=ps.length)
  (hbody:∀(A:Around) (outer:List Env) (s:Shared) (H:Hp) (vs:List V) (Q:VK) (E:XK),Room k (A.deeper (envOfC qual scope s.heap.objs.size f cdv))->sp vs H Q E->
   ∃t,PSs (ou CX P w K mg base N qual scope f cdv A outer s H E) body t/\t { nx:=fun _ H'=>Q .non H',rt:=Q } (start N vs) H) :
  FnOk P w K mg base CX (k+1) f (PySem.W.fnOf name qual params body scope dV kV doc pm an cdv ct) ps sp:=by
 refine⟨len,fun A outer s H args us vs Q E hr e0 hb r hsp=>?_⟩;have hl:=len _ _ _ _ hsp;have KX:K.In s.heap:=e0.mod.kin.keeps fun b o e=>(e0.bs b o e).1
 have lim:s.heap.NoLimit:=e0.mod.nolimit.keeps fun b o e=>(e0.bs b o e).1
 have hkind:∀y∈ps.zip us,scope.names.lookup y.1=some .local\/(scope.names.lookup y.1=some .cell/\((cellsFrom (s.heap.objs.size+1) scope.names []).lookup y.1).isSome=true):=fun ⟨n,v⟩ hy=>by
  rcases S.par n (List.of_mem_zip hy).1 with q|q
  ·exact .inl q
  ·exact .inr ⟨q,PySem.W.cellsFrom_some _ _ _ (.inl q)⟩
 refine codeAny_call_function hr.depth (KX _ _ lk) rfl S.co S.gen rfl (PySem.W.codeRec_of KX hcd) (hb _ _ _ _ ?_);refine wpAny_newFunctionEnv_cells S.kind hkind fun env he s1 x=>?_
 subst he;refine⟨lim.keeps x.toInCall.keep,codeAny_func ?_⟩;obtain⟨t,ht,hq⟩:=hbody A outer s H vs Q E (hr.deeper _) hsp;have I:Inv (ou CX P w K mg base N qual scope f cdv A outer s H E) [] (start N vs) H s1:=xl S hr.hd e0 hl r x;refine wpAny_mono (ht [] s1 (start N vs) H _ I hq) (fun fl s' hs=>?_) fun e s' hs=>hs
 have fin:∀{σ':St}{H':Hp}{v:V}{u:Value},Inv (ou CX P w K mg base N qual scope f cdv A outer s H E) [] σ' H' s'->RelV v u->Q v H'->CE outer P w H s Q u s':=
  fun {σ' H' v u} J rv q=>⟨v,H',J.os,J.bare,J.base,J.hok,rv,q⟩
 cases fl with
 |ret u=>
  obtain⟨v,σ',H',J,rv,q⟩:=hs;exact fin J rv q
 |next=>
  obtain⟨σ',H',J,q⟩:=hs;exact fin (v:=V.non) (u:=Value.none) J rfl q
 |brk=>
  obtain⟨_,_,_,q⟩:=hs;exact False.elim q
 |cont=>
  obtain⟨_,_,_,q⟩:=hs;exact False.elim q
end L2
namespace L2
open PySem PySem.Spec PyProof.Rows
section
variable{X:Cx}{x:Str}{p pos:Pos}{e:Expr}{es:List Expr}{t:TA}{id T:String}{r:List V->Hp->VK->Prop}
end
end L2
namespace HT
open PySem PyProof.Rows
section
open PySem.SeqAt
open PySem.AutoSeq1 (wpAny_loadPart')
open PySem.MeetsSeq PySem.MeetsSeq2 PySem.MeetsSeq3
end
section
variable{prog:Program}{w:World}{A:Around}{E:Value->Shared->Prop}{s:Shared}
theorem cat_tup{t b:Addr}{vs ws:List Value}{Q:Value->Shared->Prop}(ht:IsTup s.heap t vs.toArray)(hb:IsTup s.heap b ws.toArray)(hv:vs≠[])
  (h1:ws=[]->Q (.ref t) s) (h2:ws≠[]->Q (.ref s.heap.objs.size) { s with heap:=s.heap.push { cls:=.type "tuple",data:=.seq (vs++ws).toArray } })
  (hsz:vs.length+ws.length<=sizeLine):wpAny (model prog w) A (binaryOp .Add (.ref t) (.ref b)) Q E s:=by
 obtain⟨⟨cls,dd,data,sl⟩,ho,hc,n,hd⟩:=id ht;obtain⟨⟨cls2,dd2,data2,sl2⟩,ho2,hc2,n2,hd2⟩:=id hb;simp only at hc hd hc2 hd2;subst hc hd hc2 hd2;have e:vs.toArray++ws.toArray=(vs++ws).toArray:=by simp
 by_cases hw:ws=[]
 ·exact concat_meets ⟨_,ho,rfl⟩ ⟨_,ho2,rfl⟩ noFill_tuple_add seq_tuple_add PySem.F.slot_tuple_add PySem.F.entry_tuple_add (PySem.F.args_tuple_add_2 _ _)
   (tuple_addW1 t b vs.toArray ws.toArray n n2 dd dd2 sl sl2 (by simpa using hv) (by simp[hw])) ⟨ho,ho2,h1 hw⟩
 ·refine concat_meets ⟨_,ho,rfl⟩ ⟨_,ho2,rfl⟩ noFill_tuple_add seq_tuple_add PySem.F.slot_tuple_add PySem.F.entry_tuple_add (PySem.F.args_tuple_add_2 _ _)
   (tuple_addW2 t b vs.toArray ws.toArray n n2 dd dd2 sl sl2 (by simpa using hv) (by simpa using hw) (by rw[List.size_toArray,List.size_toArray];exact hsz)) ⟨ho,ho2,?_⟩
  rw[e];exact h2 hw
def sIx(n d:Nat):Option Int->Nat
 |none=>d
 |some v=>if v<0 then (v+(n:Int)).toNat else min v.toNat n
theorem sIx_none(n d:Nat):sIx n d none=d:=rfl
theorem sIx_nat(n d k:Nat):sIx n d (some (k:Int))=min k n:=by
 show(if (k:Int)<0 then ((k:Int)+(n:Int)).toNat else min (k:Int).toNat n)=min k n;rw[if_neg (by omega),Int.toNat_natCast]
theorem BW(n d:Nat)(hd:d<=n)(o:Option Int):sIx n d o<=n:=by
 cases o with
 |none=>exact hd
 |some v=>
  show(if v<0 then (v+(n:Int)).toNat else min v.toNat n)<=n;by_cases hv:v<0
  ·rw[if_pos hv];omega
  ·rw[if_neg hv];exact Nat.min_le_right _ _
theorem wz(v:Int)(n d:Nat):(if v<0 then max (v+(n:Int)) 0 else min v (n:Int))=((sIx n d (some v):Nat):Int):=by
 show(if v<0 then max (v+(n:Int)) 0 else min v (n:Int))=(((if v<0 then (v+(n:Int)).toNat else min v.toNat n):Nat):Int);by_cases hv:v<0
 ·simp only[if_pos hv];omega
 ·simp only[if_neg hv];omega
theorem uU(lo hi:Option Int)(n:Nat):Builtin.Slice.sliceAdjust lo hi 1 (n:Int)=(((sIx n 0 lo:Nat):Int),((sIx n n hi:Nat):Int)):=by
 have h1:¬((1:Int)<0):=by omega
 unfold Builtin.Slice.sliceAdjust;simp only[h1,if_false];refine Prod.ext ?_ ?_
 ·cases lo with
  |none=>rfl
  |some v=>exact wz v n 0
 ·cases hi with
  |none=>rfl
  |some v=>exact wz v n n
theorem vL(i j:Nat):Builtin.Slice.slicePlaces (i:Int) (j:Int) 1=j-i:=by
 unfold Builtin.Slice.slicePlaces;have h1:(1:Int) > 0:=by omega
 simp only[h1,if_true,Int.ediv_one];split<;>omega
theorem pJ{v:Value}{o:Option Int}{Q:Option Int->Shared->Prop}(p:IsPart v o)(h:Q o s):wpAny (model prog w) A (Builtin.Slice.slicePartIndex v) Q E s:=by
 cases p with
 |none=>exact slicePart_none h
 |int i t=>exact slicePart_int h
theorem sliceApplied_gen{sl:Addr}{vl vu:Value}{lo hi:Option Int}{n:Nat}{Q:Int×Int×Nat->Shared->Prop}(hs:s.heap.IsSliceOf sl vl vu .none)(pl:IsPart vl lo)(pu:IsPart vu hi)
  (h:Q (((sIx n 0 lo:Nat):Int),1,sIx n n hi-sIx n 0 lo) s):wpAny (model prog w) A (Builtin.Slice.sliceApplied (.ref sl) (pure (n:Int))) Q E s:=by
 obtain⟨os,hos,hcs,hds⟩:=id hs;unfold Builtin.Slice.sliceApplied Builtin.Slice.sliceFields;refine wpAny_bind (wpAny_bind (wpAny_field hos hds (x:=vl) rfl (wpAny_bind (wpAny_field hos hds (x:=vu) rfl (wpAny_bind (wpAny_field hos hds (x:=.none) rfl (wpAny_pure ?_)))))));refine wpAny_bind (slicePart_none ?_);show wpAny _ _ (if ((1:Int) == 0)=true then _ else _) _ _ s;rw[if_neg (by decide)];refine wpAny_bind (pJ pl (wpAny_bind (pJ pu (wpAny_bind (wpAny_pure ?_)))));show wpAny _ _ (match Builtin.Slice.sliceAdjust lo hi 1 (n:Int) with|(lo,hi)=>pure (lo,(1:Int),Builtin.Slice.slicePlaces lo hi 1)) _ _ s;rw[uU lo hi n];show wpAny _ _ (pure (((sIx n 0 lo:Nat):Int),(1:Int),Builtin.Slice.slicePlaces ((sIx n 0 lo:Nat):Int) ((sIx n n hi:Nat):Int) 1)) _ _ s;rw[vL];exact wpAny_pure h
theorem zm(xs:Array Value)(i k:Nat):((List.range k).filterMap fun(m:Nat)=>xs[((i:Int)+(m:Int) * 1).toNat]?).toArray=((xs.toList.drop i).take k).toArray:=by
 have e:(fun(m:Nat)=>xs[((i:Int)+(m:Int) * 1).toNat]?)=fun m=>xs[i+m]?:=by
  funext m;have:((i:Int)+(m:Int) * 1).toNat=i+m:=by omega
  rw[this]
 rw[e];have:=pick_run xs i k;rw[List.filterMap_map] at this;have e2:((fun x=>xs[x]?) ∘ fun x=>i+x)=fun m=>xs[i+m]?:=rfl
 rw[e2] at this;rw[this]
theorem getItem_tuple_cut{t sl:Addr}{items:Array Value}{vl vu:Value}{lo hi:Option Int}{Q:Value->Shared->Prop}(ht:IsTup s.heap t items)(hs:s.heap.IsSliceOf sl vl vu .none)(pl:IsPart vl lo)(pu:IsPart vu hi)
  (hw:¬(sIx items.size 0 lo=0/\sIx items.size items.size hi=items.size))
  (h:Q (.ref s.heap.objs.size) { s with heap:=s.heap.push { cls:=.type "tuple",data:=.seq ((items.toList.drop (sIx items.size 0 lo)).take (sIx items.size items.size hi-sIx items.size 0 lo)).toArray } })
  (hsz:items.size<=sizeLine):wpAny (model prog w) A (getItem (.ref t) (.ref sl)) Q E s:=by
 have htake:sizeOk (.seq ((items.toList.drop (sIx items.size 0 lo)).take (sIx items.size items.size hi-sIx items.size 0 lo)).toArray):=by
  show((items.toList.drop (sIx items.size 0 lo)).take (sIx items.size items.size hi-sIx items.size 0 lo)).toArray.size<=sizeLine;rw[List.size_toArray,List.length_take,List.length_drop,Array.length_toList];omega
 have hj:sIx items.size items.size hi<=items.size:=BW _ _ (Nat.le_refl _) hi;obtain⟨os,hos,hcs,hds⟩:=id hs;have hTs:s.TypeIs (.ref sl) "slice":=⟨os,hos,hcs⟩;unfold getItem
 try with_reducible refine wpAny_holding ?_
 first|refine wpAny_bind (wpAny_pure ?_)|skip
 refine wpAny_bind (wpAny_sequenceKey ht.typeIs (by decide) ?_);refine wpAny_bind (wpAny_callSpecial?_slot (name:=Str.ofString "__getitem__") ht.typeIs PyProof.Rows.slot_tuple_getitem
  (wpAny_call_entry PyProof.Rows.slot_tuple_getitem ht.typeIs entry_tuple_getitem ?_ (args_tuple_getitem _ _)))
 show wpAny _ _ (Builtin.Tuple.tupleItemsOf (.ref t) >>= _) _ _ s;refine wpAny_bind (tupleItemsOf_ ht ?_);refine wpAny_bind (wpAny_typeOf hTs ?_);rw[if_pos (by decide)];refine wpAny_bind (sliceApplied_gen hs pl pu ?_);have hno:¬((((sIx items.size 0 lo:Nat):Int) == 0 && (1:Int) == 1 && (sIx items.size items.size hi-sIx items.size 0 lo) == items.size)=true):=by
  intro q;rw[Bool.and_eq_true,Bool.and_eq_true] at q;have q1:((sIx items.size 0 lo:Nat):Int)=0:=eq_of_beq q.1.1;have q2:sIx items.size items.size hi-sIx items.size 0 lo=items.size:=eq_of_beq q.2;exact hw ⟨by omega,by omega⟩
 show wpAny _ _ (if (((sIx items.size 0 lo:Nat):Int) == 0 && (1:Int) == 1 && (sIx items.size items.size hi-sIx items.size 0 lo) == items.size)=true then _ else _) _ _ s;rw[if_neg hno,zm]
 first
  |exact wpAny_bind (m:=Builtin.Tuple.tupleExact _) (wpAny_newObj_type (wpAny_pure ⟨_,rfl,wpAny_pure h⟩) htake)
  |exact wpAny_bind (m:=Builtin.Tuple.tupleExact _) (wpAny_newObj_type (wpAny_bind (wpAny_pure (wpAny_pure ⟨_,rfl,wpAny_pure h⟩))) htake)
  |exact wpAny_bind (wpAny_bind (m:=Builtin.Tuple.tupleExact _) (wpAny_newObj_type (wpAny_pure (wpAny_pure ⟨_,rfl,wpAny_pure h⟩)) htake))
  |exact wpAny_bind (wpAny_bind (m:=Builtin.Tuple.tupleExact _) (wpAny_newObj_type (wpAny_pure ⟨_,rfl,wpAny_pure h⟩) htake))
end
end HT
namespace L2
open PySem PySem.Spec PyProof.Rows
abbrev TO:=St->Hp->(Option Int->Hp->Prop)->Prop
theorem vK{ns:List Int}:∀{us:List Value},Vals (ns.map V.int) us->IntsAre us ns:=by
 induction ns with
 |nil=>intro us r;rw[List.map_nil] at r;cases r;exact .nil
 |cons n ns ih=>
  intro us r;rw[List.map_cons] at r;cases r with
  |cons r1 r2=>
   obtain⟨t,e⟩:=r1;subst e;exact .cons n t (ih r2)
section
variable{X:Cx}{e:Expr}{te:TE}{lo hi:Option Expr}{tl th:TO}{pos p2:Pos}
def SlR(X:Cx)(r:V->Option Int->Option Int->Hp->VK->Prop):Prop:=
 ∀(pins:List (Addr×Obj)) (s:Shared) (σ:St) (H:Hp) (x:V) (v vl vu:Value) (lo hi:Option Int) (sl:Addr) (Q:VK),Inv X pins σ H s->RelV x v->s.heap.IsSliceOf sl vl vu .none->IsPart vl lo->IsPart vu hi->r x lo hi H Q->
  ∃T id,typeLookup (.type T) "__getitem__"=pure (some (.builtin id))/\s.TypeIs v T/\wpAny (model X.prog X.w) X.A (getItem v (.ref sl)) (EP X pins σ Q) X.xe s
theorem SlR.or{r r':V->Option Int->Option Int->Hp->VK->Prop}(h:SlR X r)(h':SlR X r'):SlR X (fun x lo hi H Q=>r x lo hi H Q\/r' x lo hi H Q):=by
 intro pins s σ H x v vl vu lo hi sl Q I rx hs pl pu q;rcases q with q|q
 ·exact h pins s σ H x v vl vu lo hi sl Q I rx hs pl pu q
 ·exact h' pins s σ H x v vl vu lo hi sl Q I rx hs pl pu q
def vE(xs:List V)(lo hi:Option Int):List V:=(xs.drop (HT.sIx xs.length 0 lo)).take (HT.sIx xs.length xs.length hi-HT.sIx xs.length 0 lo)
theorem nV(xs:List V)(lo hi:Option Int):(vE xs lo hi).length<=xs.length:=by
 unfold vE;rw[List.length_take,List.length_drop];omega
theorem Vals.nil_iff{xs:List V}{us:List Value}(r:Vals xs us):us=[]↔xs=[]:=by
 cases r with
 |nil=>simp
 |cons _ _=>simp
end
end L2
namespace L2
open PySem PySem.Spec PyProof.Rows
def ixN(n:Nat)(i:Int):Option Nat:=if 0<=i then (if i<n then some i.toNat else none) else if -(n:Int)<=i then some (i+n).toNat else none
def atI{α:Type}(xs:List α)(i:Int):Option α:=(ixN xs.length i).bind fun j=>xs[j]?
theorem wL{n:Nat}{i:Int}{j:Nat}(h:ixN n i=some j):seqIndex? i n=some j/\j<n/\-(n:Int)<=i/\i<n:=by
 unfold ixN at h;by_cases h0:0<=i
 ·rw[if_pos h0] at h;by_cases h1:i<n
  ·rw[if_pos h1] at h;have e:i.toNat=j:=Option.some.inj h;exact⟨by rw[seqIndex_of h0 h1,e],by omega,by omega,h1⟩
  ·rw[if_neg h1] at h;cases h
 ·rw[if_neg h0] at h;by_cases h1:-(n:Int)<=i
  ·rw[if_pos h1] at h;have e:(i+n).toNat=j:=Option.some.inj h;exact⟨by rw[seqIndex_neg (by omega) h1,e],by omega,h1,by omega⟩
  ·rw[if_neg h1] at h;cases h
theorem wY{α:Type}{xs:List α}{i:Int}{v:α}(h:atI xs i=some v):∃j,seqIndex? i xs.length=some j/\xs[j]?=some v/\j<xs.length/\-(xs.length:Int)<=i/\i<xs.length:=by
 unfold atI at h;cases e:ixN xs.length i with
 |none=>rw[e] at h;cases h
 |some j=>
  rw[e] at h;obtain⟨h1,h2,h3,h4⟩:=wL e;exact⟨j,h1,h,h2,h3,h4⟩
theorem sN{α:Type}{xs:List α}{j:Nat}{v:α}(h:xs[j]?=some v):atI xs (j:Int)=some v:=by
 have hj:j<xs.length:=(List.getElem?_eq_some_iff.mp h).1;have e:ixN xs.length (j:Int)=some j:=by
  unfold ixN;rw[if_pos (by omega),if_pos (by omega)];simp
 unfold atI;rw[e];exact h
def AS(b:Expr):Prop:=∀o i,subscripted b false o i=operate [o,i] (getItem o i)
def IxR(X:Cx)(r:R2):Prop:=
 ∀(value slice:Expr) (pins:List (Addr×Obj)) (s:Shared) (σ:St) (H:Hp) (x y:V) (v u:Value) (Q:VK),Inv X pins σ H s->RelV x v->RelV y u->r x y H Q->
  subscripted slice false v u=operate [v,u] (getItem v u)->wpAny (model X.prog X.w) X.A (subscriptTail value slice v u) (EP X pins σ Q) X.xe s
def MtR(X:Cx)(id:String)(r:V->List V->Hp->VK->Prop):Prop:=
 ∀(pins:List (Addr×Obj)) (s:Shared) (σ:St) (H:Hp) (x:V) (xs:List V) (v:Value) (us:List Value) (Q:VK),Inv X pins σ H s->RelV x v->Vals xs us->r x xs H Q->
  wpAny (model X.prog X.w) X.A (call (.builtin id) (v :: us)) (EP X pins σ Q) X.xe s
section
variable{X:Cx}{a b:Expr}{ta tb:TE}{pos:Pos}
theorem IxR.or{r r':R2}(h:IxR X r)(h':IxR X r'):IxR X (fun x y H Q=>r x y H Q\/r' x y H Q):=by
 intro value slice pins s σ H x y v u Q I rx ry q hs;rcases q with q|q
 ·exact h value slice pins s σ H x y v u Q I rx ry q hs
 ·exact h' value slice pins s σ H x y v u Q I rx ry q hs
theorem MtR.or{id:String}{r r':V->List V->Hp->VK->Prop}(h:MtR X id r)(h':MtR X id r'):MtR X id (fun x xs H Q=>r x xs H Q\/r' x xs H Q):=by
 intro pins s σ H x xs v us Q I rx rs q;rcases q with q|q
 ·exact h pins s σ H x xs v us Q I rx rs q
 ·exact h' pins s σ H x xs v us Q I rx rs q
def Cl(K:PySem.W.Frag):R2:=fun x y H Q=>∃p xs i v,x=.ref p/\y=.int i/\SqL K H p xs/\atI xs i=some v/\Q v H
def CO(K:PySem.W.Frag):R2:=fun x y H Q=>∃p xs i v,x=.ref p/\y=.int i/\SqT K H p xs/\atI xs i=some v/\Q v H
theorem zI:IxR X (Cl X.K):=by
 intro value slice pins s σ H x y v u Q I rx ry h hs;obtain⟨p,xs,i,z,rfl,rfl,hq,he,q⟩:=h;cases rx;obtain⟨t,rfl⟩:=ry;obtain⟨its,r,pl,hz⟩:=I.list hq;obtain⟨j,h1,h2,h3,h4,h5⟩:=wY he;obtain⟨w,ew,rw'⟩:=r.get h2;have hl:=r.length;have hn:=ll;have fin:EP X pins σ Q w s:=⟨z,H,I,rw',q⟩;by_cases h0:0<=i
 ·have hj:i.toNat=j:=by
   rw[seqIndex_of h0 h5] at h1;exact Option.some.inj h1
  exact item_listR pl.isList h0 (by omega) (by rw[hj];simpa using ew) fin hs
 ·have hj:(i+(its.toArray.size:Int)).toNat=j:=by
   rw[seqIndex_neg (by omega) h4] at h1;rw[List.size_toArray,<-hl];exact Option.some.inj h1
  exact subscriptTail_builtinR (x:=w) pl.isList.typeIs slot_list_getitem.lookup
   (wpAny_getItem_list_neg (Q:=fun r s'=>r=w/\EP X pins σ Q r s') pl.isList (by omega) (by rw[List.size_toArray]<;>omega) (by omega) (by rw[hj];simpa using ew) ⟨rfl,fin⟩) hs
theorem B9:IxR X (CO X.K):=by
 intro value slice pins s σ H x y v u Q I rx ry h hs;obtain⟨p,xs,i,z,rfl,rfl,hq,he,q⟩:=h;cases rx;obtain⟨t,rfl⟩:=ry;obtain⟨its,r,pl,hz⟩:=I.tuple hq;obtain⟨j,h1,h2,h3,h4,h5⟩:=wY he;obtain⟨w,ew,rw'⟩:=r.get h2;have hl:=r.length;have hn:=ll;have fin:EP X pins σ Q w s:=⟨z,H,I,rw',q⟩;exact subscriptTail_builtinR (x:=w) pl.typeIs slot_tuple_getitem.lookup
  (getItem_tuple (j:=j) (Q:=fun r s'=>r=w/\EP X pins σ Q r s') pl (by omega) (by omega) (by rw[List.size_toArray,<-hl];exact h1) (by simpa using ew) ⟨rfl,fin⟩) hs
theorem vg(its:List Value)(n j:Nat)(u:Value):Obj.mapSeq (·.setIfInBounds j u) { cls:=.type "list",data:=.seq its.toArray n } = { cls:=.type "list",data:=.seq (its.set j u).toArray n }:=by
 simp[Obj.mapSeq]
theorem Inv.lst{pins:List (Addr×Obj)}{σ:St}{H:Hp}{s:Shared}{p:Addr}{xs:List V}(I:Inv X pins σ H s)(h:H p=some (.lst xs)) :
  ∃(its:List Value) (n:Nat),Vals xs its/\s.heap.get? p=some { cls:=.type "list",data:=.seq its.toArray n }/\xs.length<=sizeLine:=by
 obtain⟨z,its,n,r,e⟩:=I.hok p _ h;exact⟨its,n,r,e,z⟩
theorem Inv.lstUpd{pins:List (Addr×Obj)}{σ:St}{H:Hp}{s:Shared}{p:Addr}{xs ys:List V}{its its':List Value}{n n':Nat}{f:Obj->Obj}(I:Inv X pins σ H s)(h:H p=some (.lst xs))
  (ho:s.heap.get? p=some { cls:=.type "list",data:=.seq its.toArray n }) (hf:f { cls:=.type "list",data:=.seq its.toArray n } = { cls:=.type "list",data:=.seq its'.toArray n' }) (r:Vals ys its') (hz:ys.length<=sizeLine) (t:Nat) :
  Inv X pins σ (upd H p (.lst ys)) { s with heap:=s.heap.update p f,toks:=t }:=by
 have e:(s.heap.update p f).get? p=some { cls:=.type "list",data:=.seq its'.toArray n' }:=by
  rw[Heap.get?_update_self f ho (by rw[hf]<;>rfl),hf]
 refine I.write (x:=p) (e:=p) (by rw[h];trivial) (.inl rfl) (fun b u hb q=>(Heap.get?_update_other _ _ (Ne.symm hb)).trans q) ⟨_,e⟩ ?_;exact⟨hz,its',n',r,e⟩
def CJ:V->V->V->Hp->(Hp->Prop)->Prop:=fun o i v H Q=>∃p xs k j,o=.ref p/\i=.int k/\H p=some (.lst xs)/\ixN xs.length k=some j/\Q (upd H p (.lst (xs.set j v)))
theorem yt:DI X CJ:=by
 intro pins s σ H o i v ov iv u Q I ro ri rv h;obtain⟨p,xs,k,j,rfl,rfl,hp,hj,q⟩:=h;cases ro;obtain⟨t,rfl⟩:=ri;obtain⟨its,n,r,ho,hz⟩:=I.lst hp;obtain⟨h1,h2,h3,h4⟩:=wL hj;have hl:=r.length;have hn:=ll;have I':Inv X pins σ (upd H p (.lst (xs.set j v))) { s with heap:=s.heap.update p (Obj.mapSeq (·.setIfInBounds j u)) }:=
  I.lstUpd hp ho (vg its n j u) (r.set rv j) (by rw[List.length_set];exact hz) s.toks
 by_cases h0:0<=k
 ·have hk:k.toNat=j:=by
   rw[seqIndex_of h0 h4] at h1;exact Option.some.inj h1
  exact PySem.W.ki_setAt ho h0 (by omega) (by rw[List.size_toArray,<-hl];exact h4) (by rw[hk];exact⟨_,I',q⟩)
 ·have hk:(k+(its.toArray.size:Int)).toNat=j:=by
   rw[seqIndex_neg (by omega) h3] at h1;rw[List.size_toArray,<-hl];exact Option.some.inj h1
  exact PySem.W.ki_setBack ho (by omega) (by rw[List.size_toArray,<-hl];exact h3) (by omega) (by rw[hk];exact⟨_,I',q⟩)
theorem sJ(lo hi:Option Int)(n:Nat):(sliceBounds lo hi none n).1=((HT.sIx n 0 lo:Nat):Int)/\(sliceBounds lo hi none n).2.1=((HT.sIx n n hi:Nat):Int)/\(sliceBounds lo hi none n).2.2=1:=by
 refine⟨?_,?_,rfl⟩
 ·cases lo with
  |none=>simp[sliceBounds,HT.sIx]
  |some i=>
   simp only[sliceBounds,HT.sIx,Option.getD_none,show(1:Int) > 0 by decide,if_true];by_cases h:i<0
   ·simp only[h,if_true]<;>omega
   ·simp only[h,if_false]<;>omega
 ·cases hi with
  |none=>simp[sliceBounds,HT.sIx]
  |some i=>
   simp only[sliceBounds,HT.sIx,Option.getD_none,show(1:Int) > 0 by decide,if_true];by_cases h:i<0
   ·simp only[h,if_true]<;>omega
   ·simp only[h,if_false]<;>omega
theorem qI(its:List Value)(lo hi:Option Int):slicePick its.toArray lo hi none=((its.drop (HT.sIx its.length 0 lo)).take (HT.sIx its.length its.length hi-HT.sIx its.length 0 lo)).toArray:=by
 obtain⟨h1,h2,h3⟩:=sJ lo hi its.toArray.size;unfold slicePick;rw[h1,h2,h3];simp only[sliceRange_one,pick_run,List.size_toArray]<;>rfl
def Dr(K:PySem.W.Frag):V->Option Int->Option Int->Hp->VK->Prop:=fun x lo hi H Q=>∃a xs,x=.ref a/\SqL K H a xs/\∀p,H p=none->Q (.ref p) (upd H p (.lst (vE xs lo hi)))
theorem wI:SlR X (Dr X.K):=by
 intro pins s σ H x v vl vu lo hi sl Q I rx hs pl pu h;obtain⟨a,xs,rfl,hx,q⟩:=h;cases rx;obtain⟨its,r,ht,hz⟩:=I.list hx;have hlen:=r.length;refine⟨"list",_,slot_list_getitem.lookup,ht.isList.typeIs,?_⟩;refine wpAny_getItem_list_slice ht.isList hs pl pu .none (by simp) ?_ (by rw[List.size_toArray]<;>omega);rw[qI,<-hlen];refine⟨.ref s.heap.objs.size,_,I.laid (t':=s.toks) (o:=.lst (vE xs lo hi)) (fun b ob q=>Heap.get?_push_of_some _ q) (Nat.le_refl _) ?_,rfl,q _ (I.hok.fresh (Nat.le_refl _))⟩;exact⟨Nat.le_trans (nV xs lo hi) hz,_,0,(r.drop (HT.sIx xs.length 0 lo)).take (HT.sIx xs.length xs.length hi-HT.sIx xs.length 0 lo),Heap.get?_push_size _ rfl⟩
def jt:V->Bool
 |.non=>true
 |.bl _=>true
 |.int _=>true
 |.str _=>true
 |_=>false
def eqV:V->V->Bool
 |.non,.non=>true
 |.bl a,.bl b=>a == b
 |.bl a,.int b=>(if a then 1 else 0) == b
 |.int a,.bl b=>a == (if b then 1 else 0)
 |.int a,.int b=>a == b
 |.str a,.str b=>a == b
 |_,_=>false
theorem BP{A:Around}{s:Shared}{y x:V}{u v:Value}(ry:RelV y u)(rx:RelV x v)(fy:jt y=true)(fx:jt x=true):SeqAt.EqAt A s u v (eqV y x):=by
 cases y with
 |non=>
  cases ry;cases x with
  |non=>cases rx;exact SeqAt.EqAt.same _
  |bl b=>cases rx;exact SeqAt.EqAt.none_bool b
  |int b=>obtain⟨t,rfl⟩:=rx;exact SeqAt.EqAt.none_int b t
  |str b=>obtain⟨t,rfl⟩:=rx;exact SeqAt.EqAt.none_str b t
  |_=>exact absurd (show false=true from fx) Bool.false_ne_true
 |bl a=>
  cases ry;cases x with
  |non=>cases rx;exact SeqAt.EqAt.bool_none a
  |bl b=>cases rx;exact SeqAt.EqAt.bool_bool a b
  |int b=>obtain⟨t,rfl⟩:=rx;exact SeqAt.EqAt.bool_int a b t
  |str b=>obtain⟨t,rfl⟩:=rx;exact SeqAt.EqAt.bool_str a b t
  |_=>exact absurd (show false=true from fx) Bool.false_ne_true
 |int a=>
  obtain⟨t',rfl⟩:=ry;cases x with
  |non=>cases rx;exact SeqAt.EqAt.int_none a t'
  |bl b=>cases rx;exact SeqAt.EqAt.int_bool a t' b
  |int b=>obtain⟨t,rfl⟩:=rx;exact SeqAt.EqAt.int_int a t' b t
  |str b=>obtain⟨t,rfl⟩:=rx;exact SeqAt.EqAt.int_str a t' b t
  |_=>exact absurd (show false=true from fx) Bool.false_ne_true
 |str a=>
  obtain⟨t',rfl⟩:=ry;cases x with
  |non=>cases rx;exact SeqAt.EqAt.str_none a t'
  |bl b=>cases rx;exact SeqAt.EqAt.str_bool a t' b
  |int b=>obtain⟨t,rfl⟩:=rx;exact SeqAt.EqAt.str_int a t' b t
  |str b=>obtain⟨t,rfl⟩:=rx;exact SeqAt.EqAt.str_str a t' b t
  |_=>exact absurd (show false=true from fx) Bool.false_ne_true
 |_=>exact absurd (show false=true from fy) Bool.false_ne_true
def eqU(x:V)(u:Value):Bool:=match u with
 |.none=>eqV .non x
 |.bool b=>eqV (.bl b) x
 |.int i _=>eqV (.int i) x
 |.str z _=>eqV (.str z) x
 |_=>false
theorem vA{x y:V}{u:Value}(r:RelV y u)(f:jt y=true):eqU x u=eqV y x:=by
 cases y with
 |non=>cases r;rfl
 |bl b=>cases r;rfl
 |int i=>obtain⟨t,rfl⟩:=r;rfl
 |str z=>obtain⟨t,rfl⟩:=r;rfl
 |_=>exact absurd (show false=true from f) Bool.false_ne_true
theorem tp{x:V}:∀{xs:List V}{us:List Value},Vals xs us->xs.all jt=true->us.any (eqU x)=xs.any fun y=>eqV y x
 |_,_,.nil,_=>rfl
 |y :: xs,u :: us,.cons r t,f=>by
  rw[List.all_cons,Bool.and_eq_true] at f;rw[List.any_cons,List.any_cons,vA r f.1,tp t f.2]
theorem lW{A:Around}{s:Shared}{x:V}{v:Value}(rx:RelV x v)(fx:jt x=true):∀{xs:List V}{us:List Value},Vals xs us->xs.all jt=true->∀u∈us,SeqAt.EqAt A s u v (eqU x u)
 |_,_,.nil,_=>fun u hu=>by cases hu
 |y :: xs,u :: us,.cons r t,f=>fun u' hu=>by
  rw[List.all_cons,Bool.and_eq_true] at f;rcases List.mem_cons.mp hu with rfl|hu
  ·rw[vA r f.1];exact BP r rx f.1 fx
  ·exact lW rx fx t f.2 u' hu
def inV(x:V)(xs:List V):Bool:=xs.any fun y=>eqV y x
def rIn(K:PySem.W.Frag)(neg:Bool):R2:=fun x y H Q=>∃p xs,y=.ref p/\(SqL K H p xs\/SqT K H p xs)/\jt x=true/\xs.all jt=true/\Q (.bl (if neg then !inV x xs else inV x xs)) H
theorem w4:OpR X (compareOp .In) (rIn X.K false):=by
 intro pins s σ H x y v u Q I rx ry h;obtain⟨p,xs,rfl,hq,fx,fs,q⟩:=h;cases ry;rcases hq with hq|hq
 ·obtain⟨its,r,pl,hz⟩:=I.list hq;refine SeqAt.in_listAt (eqU x) pl.isList (fun w hw=>lW rx fx r fs w (by simpa using hw)) ⟨.bl _,H,I,rfl,?_⟩;rw[show its.toArray.any (eqU x)=its.any (eqU x) by simp,tp r fs];exact q
 ·obtain⟨its,r,pl,hz⟩:=I.tuple hq;refine SeqAt.in_tupleAt (eqU x) pl (fun w hw=>lW rx fx r fs w (by simpa using hw)) ⟨.bl _,H,I,rfl,?_⟩;rw[show its.toArray.any (eqU x)=its.any (eqU x) by simp,tp r fs];exact q
theorem sG:CallR X (.builtin "len") (fun xs H Q=>∃p ys,xs=[.ref p]/\(SqL X.K H p ys\/SqT X.K H p ys)/\Q (.int ys.length) H):=by
 intro pins s σ H xs us Q I r h;obtain⟨p,ys,rfl,hq,q⟩:=h;obtain⟨u,rfl,rx⟩:=zz r;cases rx;have hn:=ll;rcases hq with hq|hq
 ·obtain⟨its,r',pl,hz⟩:=I.list hq;have hlen:=r'.length;exact Calls.call_len_list pl.isList (by simp only[List.size_toArray]<;>omega) ⟨.int ys.length,H,I.tok _,⟨s.toks+1,by rw[List.size_toArray,hlen]⟩,q⟩
 ·obtain⟨its,r',pl,hz⟩:=I.tuple hq;have hlen:=r'.length;exact len_tuple pl (by simp only[List.size_toArray]<;>omega) ⟨.int ys.length,H,I.tok _,⟨s.toks+1,by rw[List.size_toArray,hlen]⟩,q⟩
theorem CallR.or{f:Value}{r r':List V->Hp->VK->Prop}(h:CallR X f r)(h':CallR X f r'):CallR X f (fun xs H Q=>r xs H Q\/r' xs H Q):=by
 intro pins s σ H xs us Q I rs q;rcases q with q|q
 ·exact h pins s σ H xs us Q I rs q
 ·exact h' pins s σ H xs us Q I rs q
theorem sj:CallR X (.type "list") (fun xs H Q=>∃p ys,xs=[.ref p]/\(SqL X.K H p ys\/SqT X.K H p ys)/\∀l,H l=none->Q (.ref l) (upd H l (.lst ys))):=by
 intro pins s σ H xs us Q I r h;obtain⟨p,ys,rfl,hq,q⟩:=h;obtain⟨u,rfl,rx⟩:=zz r;cases rx;have fin:∀(its:List Value),Vals ys its->ys.length<=sizeLine->∀(h':Heap) (c':Nat),(∀b o',s.heap.get? b=some o'->h'.get? b=some o')->
   h'.get? s.heap.objs.size=some { cls:=.type "list",dict:=none,data:=.seq its.toArray c',slots:=#[] }->EP X pins σ Q (.ref s.heap.objs.size) { s with heap:=h' }:=fun its r' hz h' c' kp e=>
  ⟨.ref s.heap.objs.size,_,I.laid (t':=s.toks) kp (Nat.le_refl _) (show ObjOk X.prog X.w _ h' _ (.lst ys) from ⟨hz,its,c',r',e⟩),rfl,q _ (I.hok.fresh (Nat.le_refl _))⟩
 rcases hq with hq|hq
 ·obtain⟨its,r',pl,hz⟩:=I.list hq;have hlen:=r'.length;obtain⟨o,ho,hc,n,hd⟩:=pl.isList;exact call_list_seq p (.inl rfl) ho hc hd (fun h' c' kp e=>fin its r' hz h' c' kp e) (by simp only[List.size_toArray]<;>omega)
 ·obtain⟨its,r',pl,hz⟩:=I.tuple hq;have hlen:=r'.length;obtain⟨o,ho,hc,n,hd⟩:=pl;exact call_list_seq p (.inr rfl) ho hc hd (fun h' c' kp e=>fin its r' hz h' c' kp e) (by simp only[List.size_toArray]<;>omega)
theorem qU:CallR X (.type "tuple") (fun xs H Q=>∃p ys,xs=[.ref p]/\((SqL X.K H p ys/\∀l,H l=none->Q (.ref l) (upd H l (.tup ys)))\/(SqT X.K H p ys/\Q (.ref p) H))):=by
 intro pins s σ H xs us Q I r h;obtain⟨p,ys,rfl,h⟩:=h;obtain⟨u,rfl,rx⟩:=zz r;cases rx;rcases h with ⟨hq,q⟩|⟨hq,q⟩
 ·obtain⟨its,r',pl,hz⟩:=I.list hq;have hlen:=r'.length;refine call_tuple_list pl.isList (fun h' kp=>?_) (by simp only[List.size_toArray]<;>omega);have I1:Inv X pins σ H { s with heap:=h' }:=I.kept (t':=s.toks) kp;have I2:Inv X pins σ (upd H h'.objs.size (.tup ys)) { s with heap:=h'.push { cls:=.type "tuple",data:=.seq its.toArray } }:=
   I1.laid (t':=s.toks) (fun b o e=>Heap.get?_push_of_some _ e) (Nat.le_refl _) (show ObjOk X.prog X.w _ _ _ (.tup ys) from ⟨hz,its,r',IsTup.new _ _⟩)
  exact⟨.ref h'.objs.size,_,I2,rfl,q _ (I1.hok.fresh (Nat.le_refl _))⟩
 ·obtain⟨its,r',pl,hz⟩:=I.tuple hq;exact call_tuple_same pl ⟨.ref p,H,I,rfl,q⟩
def tyV(K:PySem.W.Frag)(T:String)(x:V)(H:Hp):Prop:=match x with
 |.str _=>T = "str"
 |.int _=>T = "int"
 |.ref p=>(T = "list"/\∃xs,SqL K H p xs)\/(T = "tuple"/\∃o,K.lookup p=some o/\o.cls=.type "tuple"/\o.dict=none)\/
   (T = "dict"/\((∃kvs,H p=some (.dK kvs))\/∃kvs,H p=some (.dT kvs)))\/(T = "set"/\∃S n,H p=some (.set S n))
 |_=>False
theorem Bg{pins:List (Addr×Obj)}{σ:St}{H:Hp}{s:Shared}{T:String}{x:V}{v:Value}(I:Inv X pins σ H s)(r:RelV x v)(ty:tyV X.K T x H) :
  s.TypeIs v T/\∀a,v=.ref a->∃ob,s.heap.get? a=some ob/\ob.dict=none:=by
 cases x with
 |str z=>
  obtain⟨t,rfl⟩:=r;cases(show T = "str" from ty);exact⟨typeIs_str s z t,fun _ e=>nomatch e⟩
 |int i=>
  obtain⟨t,rfl⟩:=r;cases(show T = "int" from ty);exact⟨typeIs_int s i t,fun _ e=>nomatch e⟩
 |ref p=>
  cases r;rcases ty with ⟨rfl,xs,hq⟩|⟨rfl,o,hk,hc,hd⟩|⟨rfl,hk⟩|⟨rfl,S,n,hk⟩
  ·obtain⟨its,_,pl,_⟩:=I.list hq;refine⟨pl.isList.typeIs,fun a e=>?_⟩;cases e;obtain⟨o,n,e,c,hd,_⟩:=pl;exact⟨o,e,hd⟩
  ·refine⟨⟨o,I.kIn p o hk,hc⟩,fun a e=>?_⟩;cases e;exact⟨o,I.kIn _ o hk,hd⟩
  ·have z:∃o,s.heap.get? p=some o/\o.ExactDict:=by
    rcases hk with ⟨kvs,hk⟩|⟨kvs,hk⟩
    ·obtain⟨_,_,_,_,o,_,_,e,ex,_⟩:=I.hok p _ hk;exact⟨o,e,ex⟩
    ·obtain⟨_,_,_,_,o,_,_,e,ex,_⟩:=I.hok p _ hk;exact⟨o,e,ex⟩
   obtain⟨o,e,ex⟩:=z;refine⟨⟨o,e,ex.1⟩,fun a e2=>?_⟩;cases e2;exact⟨o,e,ex.2.1⟩
  ·obtain⟨o,_,_,_,e,ex,_⟩:=I.hok p _ hk;refine⟨⟨o,e,ex.1⟩,fun a e2=>?_⟩;cases e2;exact⟨o,e,ex.2.1⟩
 |_=>exact False.elim ty
variable{o e:Expr}{es:List Expr}{to:TE}{t:TA}{name:Str}{apos cpos:Pos}{T id:String}{r:V->List V->Hp->VK->Prop}
end
end L2
namespace L2
open PySem PySem.Spec PyProof.Rows
def MtM(X:Cx)(id:String)(r:V->List V->Hp->VK->Prop):Prop:=
 ∀(pins:List (Addr×Obj)) (s:Shared) (σ:St) (H:Hp) (x:V) (xs:List V) (v:Value) (us:List Value) (Q:VK),Inv X pins σ H s->RelV x v->Vals xs us->r x xs H Q->
  wpAny (model X.prog X.w) X.A (call (.builtin id) (v :: us)) (EP X pins σ Q) X.xe s
theorem Vals.one:∀{x:V}{us:List Value},Vals [x] us->∃u,us=[u]/\RelV x u
 |_,_,.cons r .nil=>⟨_,rfl,r⟩
theorem Vals.two:∀{x y:V}{us:List Value},Vals [x,y] us->∃u v,us=[u,v]/\RelV x u/\RelV y v
 |_,_,_,.cons r (.cons q .nil)=>⟨_,_,rfl,r,q⟩
theorem Vals.zero:∀{us:List Value},Vals [] us->us=[]
 |_,.nil=>rfl
theorem Vals.eraseIdx:∀{xs:List V}{us:List Value}(i:Nat),Vals xs us->Vals (xs.eraseIdx i) (us.eraseIdx i)
 |_,_,_,.nil=>.nil
 |_,_,0,.cons _ t=>t
 |_,_,i+1,.cons r t=>.cons r (Vals.eraseIdx i t)
theorem Vals.rep{xs:List V}{us:List Value}(h:Vals xs us):∀k:Nat,Vals (List.replicate k xs).flatten (List.replicate k us).flatten
 |0=>.nil
 |k+1=>by
  rw[List.replicate_succ,List.replicate_succ,List.flatten_cons,List.flatten_cons];exact Vals.append h (Vals.rep h k)
theorem rJ{α:Type}:∀(l:List α) (i:Nat),(l.eraseIdx i).length<=l.length
 |[],_=>Nat.le_refl _
 |_ :: _,0=>Nat.le_succ _
 |_ :: r,i+1=>Nat.succ_le_succ (rJ r i)
theorem rH(its:List Value):∀(k:Nat) (acc:List Value),
  List.foldl (fun x1 x2=>x1++x2) acc.toArray (List.replicate k its.toArray)=(acc++(List.replicate k its).flatten).toArray
 |0,acc=>by simp
 |k+1,acc=>by
  have e:acc.toArray++its.toArray=(acc++its).toArray:=by simp
  have e2:(acc++its)++(List.replicate k its).flatten=acc++(List.replicate (k+1) its).flatten:=by
   rw[List.replicate_succ,List.flatten_cons,List.append_assoc]
  rw[<-e2,<-rH its k (acc++its),<-e,List.replicate_succ,List.foldl_cons]
section
variable{X:Cx}{pins:List (Addr×Obj)}{σ:St}{H:Hp}{s:Shared}{l b:Addr}{xs ys zs:List V}
theorem Inv.lset{its its':List Value}{n:Nat}{f:Array Value->Array Value}{t':Nat}(I:Inv X pins σ H s)(hH:H l=some (.lst xs))
  (e:s.heap.get? l=some { cls:=.type "list",data:=.seq its.toArray n }) (hf:f its.toArray=its'.toArray) (hv:Vals ys its') (hz:ys.length<=sizeLine) :
  Inv X pins σ (upd H l (.lst ys)) { s with heap:=s.heap.update l (Obj.mapSeq f),toks:=t' }:=by
 have q:=PySem.IsL.update e f;rw[hf] at q;refine I.write (x:=l) (e:=l) (by rw[hH];exact trivial) (.inl rfl) (fun b' u hb hu=>(Heap.get?_update_other s.heap (Obj.mapSeq f) (Ne.symm hb)).trans hu) ⟨_,q⟩ ?_;exact⟨hz,its',_,hv,q⟩
theorem Inv.lnew{its:List Value}{t':Nat}(I:Inv X pins σ H s)(hv:Vals ys its)(hz:ys.length<=sizeLine) :
  Inv X pins σ (upd H s.heap.objs.size (.lst ys)) { s with heap:=s.heap.push { cls:=.type "list",data:=.seq its.toArray },toks:=t' }:=
 I.laid (fun _ _ q=>Heap.get?_push_of_some _ q) (Nat.le_refl _) ⟨hz,its,0,hv,Heap.get?_push_size _ rfl⟩
theorem Inv.fresh(I:Inv X pins σ H s):H s.heap.objs.size=none:=I.hok.fresh (Nat.le_refl _)
theorem Inv.lstM(I:Inv X pins σ H s)(hH:H l=some (.lst xs)):xs.length<=sizeLine/\∃(its:List Value) (n:Nat),Vals xs its/\xs.length=its.length/\s.heap.get? l=some { cls:=.type "list",data:=.seq its.toArray n }:=by
 obtain⟨z,its,n,r,e⟩:=I.hok l _ hH;exact⟨z,its,n,r,r.length,e⟩
theorem uf{n:Nat}(h:n<=sizeLine):Builtin.List.listTooLong n=false:=by
 unfold Builtin.List.listTooLong;exact decide_eq_false (by omega)
end
section
variable{X:Cx}
def AI:V->List V->Hp->VK->Prop:=fun x vs H Q=>∃l xs y,x=.ref l/\vs=[y]/\H l=some (.lst xs)/\xs.length<sizeLine/\Q .non (upd H l (.lst (xs++[y])))
theorem rV:MtM X "list.append" AI:=by
 intro pins s σ H x vs v us Q I rx rv h;obtain⟨l,xs,y,rfl,rfl,hH,hz,q⟩:=h;cases rx;obtain⟨u,rfl,ru⟩:=rv.one;obtain⟨z,its,n,r,hl,e⟩:=I.lstM hH;refine call_meets F.slot_list_append ⟨_,e,rfl⟩ F.entry_list_append (F.args_list_append_2 _ _) (PySem.list_append l its.toArray n u (by rw[List.size_toArray];omega)) ⟨e,?_⟩;refine⟨.non,_,I.lset (its':=its++[u]) hH e (by simp) (r.append (.cons ru .nil)) ?_,rfl,q⟩;rw[List.length_append,List.length_singleton];omega
def Bm:V->List V->Hp->VK->Prop:=fun x vs H Q=>∃l xs i k y,x=.ref l/\vs=[.int i]/\H l=some (.lst xs)/\-(2 ^ 63)<=i/\i<2 ^ 63/\seqIndex? i xs.length=some k/\xs[k]?=some y/\Q y (upd H l (.lst (xs.eraseIdx k)))
theorem zD:MtM X "list.pop" Bm:=by
 intro pins s σ H x vs v us Q I rx rv h;obtain⟨l,xs,i,k,y,rfl,rfl,hH,h1,h2,hk,hy,q⟩:=h;cases rx;obtain⟨u,rfl,ru⟩:=rv.one;obtain⟨t,rfl⟩:=ru;obtain⟨z,its,n,r,hl,e⟩:=I.lstM hH;obtain⟨w,hw,rw'⟩:=r.get hy;refine call_meets F.slot_list_pop ⟨_,e,rfl⟩ F.entry_list_pop (F.args_list_pop_2 _ _)
  (MeetsSeq.list_pop_at l its.toArray n i t k w (fitsIndex_both h1 h2) (by rw[List.size_toArray,<-hl];exact hk) (by rw[<-Array.getElem?_toList];exact hw) (by rw[List.size_toArray];omega)) ⟨e,?_⟩
 refine⟨y,_,I.lset (its':=its.eraseIdx k) hH e ?_ (r.eraseIdx k) ?_,rw',q⟩
 ·show its.toArray.eraseIdxIfInBounds k=(its.eraseIdx k).toArray;rw[List.eraseIdxIfInBounds_toArray]
 ·have:=rJ xs k;omega
def DM:R2:=fun x y H Q=>∃l b xs zs,x=.ref l/\y=.ref b/\H l=some (.lst xs)/\H b=some (.lst zs)/\xs.length+zs.length<=sizeLine/\∀p,H p=none->Q (.ref p) (upd H p (.lst (xs++zs)))
theorem BY:OpR X (binaryOp .Add) DM:=by
 intro pins s σ H x y v u Q I rx ry h;obtain⟨l,b,xs,zs,rfl,rfl,hH,hB,hz,q⟩:=h;cases rx;cases ry;obtain⟨z,its,n,r,hl,e⟩:=I.lstM hH;obtain⟨z2,its2,n2,r2,hl2,e2⟩:=I.lstM hB;refine PySem.P.add_list e e2 ?_ (by rw[List.size_toArray,List.size_toArray];omega);have ea:its.toArray++its2.toArray=(its++its2).toArray:=by simp
 rw[ea];exact⟨.ref _,_,I.lnew (t':=s.toks) (r.append r2) (by rw[List.length_append];omega),rfl,q _ I.fresh⟩
def Dn:R2:=fun x y H Q=>∃l k xs,x=.ref l/\y=.int k/\H l=some (.lst xs)/\-(2 ^ 63)<=k/\k<2 ^ 63/\xs.length * k.toNat<=sizeLine/\
 ∀p,H p=none->Q (.ref p) (upd H p (.lst (List.replicate k.toNat xs).flatten))
theorem zQ{α:Type}(xs:List α)(k:Nat):(List.replicate k xs).flatten.length=k * xs.length:=by
 induction k with
 |zero=>simp
 |succ k ih=>rw[List.replicate_succ,List.flatten_cons,List.length_append,ih,Nat.succ_mul,Nat.add_comm]
theorem BV:OpR X (binaryOp .Mult) Dn:=by
 intro pins s σ H x y v u Q I rx ry h;obtain⟨l,k,xs,rfl,rfl,hH,h1,h2,hz,q⟩:=h;cases rx;obtain⟨t,rfl⟩:=ry;obtain⟨z,its,n,r,hl,e⟩:=I.lstM hH;have hlen:its.toArray.size * k.toNat<=sizeLine:=by rw[List.size_toArray,<-hl];exact hz
 have hcap:¬its.toArray.size * k.toNat > (2 ^ 63-1) / 8:=by
  have:(sizeLine:Nat)<=(2 ^ 63-1) / 8:=by decide
  omega
 have hfit:¬(!Builtin.List.listFitsIndex k)=true:=by
  rw[fitsIndex_both h1 h2];exact Bool.false_ne_true
 have hlong:¬Builtin.List.listTooLong (its.toArray.size * k.toNat)=true:=by
  rw[uf hlen];exact Bool.false_ne_true
 have hnew:List.foldl (fun x1 x2=>x1++x2) #[] (List.replicate (if its.toArray.isEmpty=true then 0 else k.toNat) its.toArray)=(List.replicate k.toNat its).flatten.toArray:=by
  have f0:∀m:Nat,List.foldl (fun x1 x2=>x1++x2) #[] (List.replicate m its.toArray)=(List.replicate m its).flatten.toArray:=fun m=>by
   have:=rH its m [];rw[List.nil_append] at this;exact this
  rw[f0];cases its with
  |nil=>simp
  |cons a r'=>rw[if_neg (by simp)]
 refine wpAny_binaryOp_repeat_ref (T:="list") (U:="int") (by decide) ⟨_,e,rfl⟩ (fun s'=>typeIs_int s' k t) noFill_list_mul F.fills_int_mul F.slot_int_rmul repeat_list F.slot_int_index.lookup
  (call_meets F.slot_int_rmul (typeIs_int s k t) F.entry_int_rmul (F.args_int_rmul_2 _ _) (int___rmul___int_list k t l its.toArray n)
   ⟨e,rfl,⟨_,e,rfl⟩,call_meets F.slot_list_mul ⟨_,e,rfl⟩ F.entry_list_mul (F.args_list_mul_2 _ _) (AutoListH.list___mul___list_int_3 l its.toArray n k t hfit hcap hlong) ⟨e,?_⟩⟩)
 rw[hnew];exact⟨.ref _,_,I.lnew (t':=s.toks) (r.rep k.toNat) (by rw[zQ,Nat.mul_comm];exact hz),rfl,q _ I.fresh⟩
end
section
variable{prog:Program}{w:World}{A:Around}{E:Value->Shared->Prop}{s:Shared}
end
section
variable{X:Cx}
end
end L2
namespace Att
open PySem PySem.W PySem.Calls PyProof.Rows
theorem ox{P:Params}{h:Heap}:∀(ns:List Int) (vs:List Value),WellAll P h vs (ns.map WData.int)->IntsAre vs ns:=by
 intro ns
 induction ns with
 |nil=>
  intro vs w;rw[List.map_nil] at w;cases w;exact .nil
 |cons n ns ih=>
  intro vs w;rw[List.map_cons] at w;cases w with
  |cons a b=>
   cases a;exact .cons _ _ (ih _ b)
theorem xx{l:OpenLaw}{n:Nat}(hn:l.most=some n){P:Params}{h:Heap}{args:List WData}{vals:List Value}
  (hpre:l.row.toRowW.claim.pre args=true) (hwl:WellAll P h vals args) :
  ∃a vs ns,vals=[Value.ref a]/\args=[WData.list (ns.map WData.int)]/\h.get? a=some { cls:=.type "list",data:=.seq vs.toArray }/\IntsAre vs ns/\ns.length<=n:=by
 have hsh:WShape.hasAll [] args [.list .int]=true:=(pre_splitW hpre).1;have hc:l.pre.holds [] { args:=args }=true:=(pre_splitW hpre).2;obtain⟨d,r,rfl,h1,h2⟩:=hasAllW_cons hsh;obtain rfl:=hasAllW_nil h2;obtain⟨xs,rfl,h3⟩:=hasW_list h1;obtain⟨ns,rfl⟩:=items_int h3;have hlen:ns.length<=n:=by
  unfold OpenLaw.pre at hc;have h4:(WTm.not (.lt (.lit (.int (n:Int))) (.len (.arg 0)))).holds [] { args:=[.list (ns.map .int)] }=true:=by
   have h4:=(holds_andW hc).1;rw[hn] at h4;exact h4
  have h5:=condW_of h4 (w_not (w_lt w_lit (w_len_list (w_arg rfl))));rw[List.length_map] at h5;refine Nat.le_of_not_lt fun q=>?_
  have q':(n:Int)<((ns.length:Nat):Int):=by omega
  first
   |(rw[decide_eq_true q'] at h5;exact absurd h5 (by decide))
   |(simp at h5;omega)
 cases hwl with
 |cons w1 w2=>
  cases w2;cases w1 with
  |list ho hall=>exact⟨_,_,ns,rfl,rfl,ho,ox ns _ hall,hlen⟩
theorem xH(l:OpenLaw)(args:List WData):l.row.toRowW.claim.post args (.bool true) args=true:=
 postW_of (r:=l.row.toRowW) (X:=(true == true))
  (show WShape.has [] (.bool true) .bool=true by first|rfl|decide|simp[WShape.has,WShape.arms,WShape.armsAll])
  (show(WTm.eq .res (.lit (.bool true))).value [] { args:=args,res:=some (.bool true),after:=args }=some (.bool (true == true)) from w_eq_bool (w_res rfl) w_lit) rfl
theorem attach_call{l:OpenLaw}{n:Nat}{q:Program}{loose:List Str}{XP:(Str->Option Value)->Heap->Prop}{YP:World->Heap->Prop}{d:DefRec}
  (hn:l.most=some n) (hdf:d.params.defaults=[])
  (call:∀(w:World) (s₀ s₁:Shared) (mg mb:Str->Option Value) (fa:Addr) (o:Obj) (pm cd doc:Value) (a:Addr) (vs:List Value) (ns:List Int),
   Ground q loose [] XP w s₀ mg mb s₁.heap->YP w s₁.heap->
   s₁.heap.get? fa=some o->o.data=.func (docDef d.name d.params d.body d.scope pm cd doc)->s₁.heap.CodeRec cd d.name->mg d.name=some (.ref fa)->
   s₁.heap.get? a=some { cls:=.type "list",data:=.seq vs.toArray }->IntsAre vs ns->ns.length<=n->s₁.gens = #[]->
   codeAny (model l.prog w) callerA (.call (.ref fa) ⟨[.ref a],[]⟩) (fun r s'=>r=.ok (.ret (.bool true))/\OldK s₁.heap s'.heap/\s'.os=s₁.os/\AllBare s'.gens) s₁) :
  WalkO q loose XP YP l.row.toRowW d [] (fun f vs=>PySem.call f vs):=by
 intro w s₀ s₁ mg mb G Y fa o pm cd doc dV kV ho hd hcd hD hmg hg args vals as hpre hlay hrd hwl hlo;obtain rfl:dV=.none:=Dflts.none hD hdf;obtain rfl:kV=.none:=Dflts.noKw hD;obtain⟨a,vs,ns,rfl,rfl,hobj,hints,hlen⟩:=xx hn hpre hwl;refine enter_call (codeAny_mono (call w s₀ s₁ mg mb fa o pm cd doc a vs ns G Y ho (fd_plain hd) hcd hmg hobj hints hlen hg) fun r s' hq=>?_);obtain⟨rfl,h2,h3,h4⟩:=hq;exact⟨.inl ⟨.bool true,.bool true,[],rfl,fun _=>rfl,.bool true,xH l _,fun _=>⟨List.Pairwise.nil,fun _ hm=>(nomatch hm)⟩⟩,h2,h3,h4⟩
section
variable{prog:Program}{w:World}{A:Around}{E:Value->Shared->Prop}{s:Shared}{K:Frag}
end
end Att
namespace L2
open PySem PySem.Spec PyProof.Rows
theorem kP:∀{vs:List Value}{ns:List Int},IntsAre vs ns->Vals (ns.map V.int) vs
 |_,_,.nil=>.nil
 |_,_,.cons n t h=>.cons ⟨t,rfl⟩ (kP h)
def Ac(H:Hp):Prop:=∀b,H b=none\/∃o xs,H b=some (.frz o (.lst xs))
theorem yg{P:Program}{w:World}{K:PySem.W.Frag}{mg mb:Str->Option Value}{CX:CXT}{k:Nat}{fa a:Addr}{fd:FuncData}{x:Str}{sp:Sp}{s₁:Shared}{vs:List Value}{ns:List Int}
  (KX:K.In s₁.heap) (hns:s₁.heap.Ns mainGlobals mg) (hb:s₁.heap.Ns builtinsNs mb) (hbb:∀x:Str,x≠"__name__"->mb x=bootBuiltins x) (hlim:s₁.heap.NoLimit) (hg:s₁.gens = #[])
  (ha:s₁.heap.get? a=some { cls:=.type "list",data:=.seq vs.toArray }) (hi:IntsAre vs ns) (hl:ns.length<=sizeLine) (hr:Room k callerA)
  (F:∀base:Heap,K.In base->base.Ns mainGlobals mg->FnOk P w K mg base CX k fa fd [x] sp) (hbind:∀(s:Shared) (u:Value),BindsTo s fd ⟨[u],[]⟩ [(x,u)])
  (hsp:∀H:Hp,Ac H->SqL K H a (ns.map V.int)->sp [.ref a] H (fun v _=>v=.bl true) fun _ _ _=>False)
  (hCX:∀H e s',CX [] H s₁ (fun _ _ _=>False) e s'->False) :
  codeAny (model P w) callerA (.call (.ref fa) ⟨[.ref a],[]⟩) (fun r s'=>r=.ok (.ret (.bool true))/\OldK s₁.heap s'.heap/\s'.os=s₁.os/\AllBare s'.gens) s₁:=by
 have rv:=kP hi;have lenV:=hi.length;have core:∀H:Hp,Ac H->SqL K H a (ns.map V.int)->HOk P w H s₁.heap->(∀b,H b≠none->b=a)->(H a≠none->K.lookup a=none)->
   codeAny (model P w) callerA (.call (.ref fa) ⟨[.ref a],[]⟩) (fun r s'=>r=.ok (.ret (.bool true))/\OldK s₁.heap s'.heap/\s'.os=s₁.os/\AllBare s'.gens) s₁:=by
  intro H hO hS hok hA hK;have base_of:∀{b:Addr}{o:Obj},s₁.heap.get? b=some o->H b=none->(tu s₁.heap H).get? b=some o:=fun e n=>yR e n
  have noA:∀{b:Addr}{o:Obj}{es:Array DictEntry}{ep:Nat},s₁.heap.get? b=some o->o.data=.dict es ep->H b=none:=fun {b o es ep} e d=>by
   cases q:H b with
   |none=>rfl
   |some u=>
    have e':b=a:=hA b (by rw[q];simp);subst e';rw[ha] at e;cases e;have d':Data.seq vs.toArray _=Data.dict es ep:=d;cases d'
  have nsK:∀{b:Addr}{m:Str->Option Value},s₁.heap.Ns b m->(tu s₁.heap H).Ns b m:=fun {b m} ⟨o,es,ep,e,d,r⟩=>⟨o,es,ep,base_of e (noA e d),d,r⟩
  have hKb:K.In (tu s₁.heap H):=fun b o e=>base_of (KX b o e) (by
   cases q:H b with
   |none=>rfl
   |some u=>
    have e':b=a:=hA b (by rw[q];simp);subst e';rw[hK (by rw[q];simp)] at e;cases e)
  have hM:Mod K mg (tu s₁.heap H):=⟨hKb,nsK hns,⟨mb,nsK hb,hbb⟩,let ⟨mc,h1,h2⟩:=hlim;⟨mc,nsK h1,h2⟩⟩;have e0:Env0 P w K mg (tu s₁.heap H) callerA [] s₁ H:=⟨rfl,hM,fun b o e=>AC e,Nat.le_of_eq (xa _ _),trivial,fun b hb=>absurd (show b∈([]:List Addr) from hb) (by simp),hok,.of_eq hg⟩;refine codeAny_mono ((F _ hKb (nsK hns)).run callerA [] s₁ H ⟨[.ref a],[]⟩ [.ref a] [.ref a] _ _ hr e0 (hbind s₁ (.ref a)) (.cons rfl .nil) (hsp H hO hS)) fun r s' h=>?_
  cases r with
  |error e=>exact(hCX H e s' h).elim
  |ok fl=>
   cases fl with
   |next=>exact False.elim h
   |brk=>exact False.elim h
   |cont=>exact False.elim h
   |ret u=>
    obtain⟨v,H',os,bare,un,hok',r',q⟩:=h;have q':v=.bl true:=q;subst q';obtain rfl:u=Value.bool true:=r';refine⟨rfl,OldK.of_keep fun b o e=>?_,os,bare⟩;cases q:H b with
    |none=>exact un.keep b o e q (by intro z;exact absurd (show b∈([]:List Addr) from z) (by simp)) (by simp)
    |some u=>
     rcases hO b with z|⟨ob,xs,z⟩
     ·rw[q] at z;cases z
     ·have z2:=un.frzs b ob _ z;obtain⟨e1,_⟩:=hok b _ z;obtain⟨e2,_⟩:=hok' b _ z2;rw[e] at e1;cases e1;exact e2
 cases hk:K.lookup a with
 |some o=>
  have e:=KX a o hk;rw[ha] at e;cases e;refine core (fun _=>none) (fun _=>.inl rfl) (.inr ⟨_,vs.toArray,_,hk,rfl,rfl,rfl,by rw[List.size_toArray,lenV];exact hl,by simpa using rv⟩) (fun b u z=>by have z':(none:Option HO)=some u:=z;cases z') (fun b z=>absurd rfl z) fun z=>absurd rfl z
 |none=>
  refine core (fun b=>if b=a then some (.frz { cls:=.type "list",data:=.seq vs.toArray } (.lst (ns.map V.int))) else none) (fun b=>?_) (.inl (.inr ⟨{ cls:=.type "list",data:=.seq vs.toArray },if_pos rfl⟩)) (fun b u z=>?_) (fun b z=>?_) fun _=>hk
  ·by_cases hb:b=a
   ·exact .inr ⟨_,_,if_pos hb⟩
   ·exact .inl (if_neg hb)
  ·by_cases hb:b=a
   ·have z':=(if_pos hb).symm.trans z;cases z';subst hb;exact⟨ha,by rw[List.length_map];exact hl,vs,_,rv,ha⟩
   ·have z':=(if_neg hb).symm.trans z;cases z'
  ·by_cases hb:b=a
   ·exact hb
   ·exact absurd (if_neg hb) z
end L2
namespace L2
open PySem PySem.Spec PyProof.Rows
theorem walk_of{l:PySem.W.OpenLaw}{n k:Nat}{q:Program}{loose:List Str}{XP:(Str->Option Value)->Heap->Prop}{YP:World->Heap->Prop}{d:DefRec}{K:Params->PySem.W.Frag}{CX:World->CXT}{sp:World->Sp}{x:Str}
  (hn:l.most=some n) (hn2:n<=sizeLine) (hdf:d.params.defaults=[]) (hr:Room k callerA)
  (hY:∀(w:World) (h:Heap),YP w h->(K w.params).In h)
  (F:∀(w:World) (mg:Str->Option Value) (fa:Addr) (h:Heap),(K w.params).In h->h.Ns mainGlobals mg->mg d.name=some (.ref fa)->
   ∃fd:FuncData,(∀(s:Shared) (u:Value),BindsTo s fd ⟨[u],[]⟩ [(x,u)])/\
    ∀base:Heap,(K w.params).In base->base.Ns mainGlobals mg->FnOk l.prog w (K w.params) mg base (CX w) k fa fd [x] (sp w))
  (hsp:∀(w:World) (H:Hp) (a:Addr) (ns:List Int),ns.length<=n->Ac H->SqL (K w.params) H a (ns.map V.int)->sp w [.ref a] H (fun v _=>v=.bl true) fun _ _ _=>False)
  (hCX:∀(w:World) (H:Hp) (s:Shared) (e:Value) (s':Shared),CX w [] H s (fun _ _ _=>False) e s'->False) :
  PySem.W.WalkO q loose XP YP l.row.toRowW d [] (fun f vs=>PySem.call f vs):=by
 refine Att.attach_call hn hdf fun w s₀ s₁ mg mb fa o pm cd doc a vs ns G Y ho hd hcd hmg hobj hints hlen hg=>?_
 have KX:=hY w _ Y;obtain⟨fd,hb,hF⟩:=F w mg fa _ KX G.T.g hmg;exact yg KX G.T.g G.T.b G.T.builtins G.T.nolimit hg hobj hints (Nat.le_trans hlen hn2) hr hF hb (fun H hO hS=>hsp w H a ns hlen hO hS) fun H e s'=>hCX w H s₁ e s'
end L2
namespace L2
open PySem PySem.Spec PyProof.Rows
def bq(s:Stmt)(j:Nat):Stmt:=match s with
 |.ClassDef _ _ _ body _ _ _ _ _ _ _=>body.getD j (.Pass ⟨0,0,0,0⟩)
 |_=>.Pass ⟨0,0,0,0⟩
def defArgs(s:Stmt):Arguments:=match s with
 |.FunctionDef _ a _ _ _ _ _ _ _ _=>a
 |_=>{ posonlyargs:=[],args:=[],vararg:=none,kwonlyargs:=[],kw_defaults:=[],kwarg:=none,defaults:=[] }
def defBody(s:Stmt):List Stmt:=match s with
 |.FunctionDef _ _ b _ _ _ _ _ _ _=>b
 |_=>[]
def defScope(s:Stmt):Scope:=match s with
 |.FunctionDef _ _ _ _ _ _ sc _ _ _=>sc
 |_=>{ kind:=.function,names:=[],isGenerator:=false,isCoroutine:=false }
abbrev CX0:CXT:=fun _ _ _ _ _ _=>False
abbrev E0:XK:=fun _ _ _=>False
structure Fun(K:PySem.W.Frag)(x qual:Str)(st:Stmt)(f:Addr)(fd:FuncData):Prop where
 ex:∃(oc:Value) (od:Option Addr) (kV doc pm:Value) (an:Option Addr) (cdv ct:Value) (osl:Array (Option Value)),
  fd=PySem.W.fnOf x qual (defArgs st) (defBody st) (defScope st) .none kV doc pm an cdv ct/\K.lookup f=some ⟨oc,od,.func fd,osl⟩/\PySem.W.codeIn K cdv qual=true
 kp:PySem.W.keepIn K (.ref f)=true
section
variable{P:Program}{w:World}{K:PySem.W.Frag}{mg:Str->Option Value}{base:Heap}
theorem Fun.ok{x qual:Str}{st:Stmt}{f:Addr}{fd:FuncData}{N ps:List Str}{k:Nat}{sp:Sp}(F:Fun K x qual st f fd)(S:FnScope N ps (defScope st))(len:∀vs H Q E,sp vs H Q E->vs.length=ps.length)
  (hbody:∀(cdv:Value) (A:Around) (outer:List Env) (s:Shared) (H:Hp) (vs:List V) (Q:VK) (E:XK),Room k (A.deeper (envOfC qual (defScope st) s.heap.objs.size f cdv))->sp vs H Q E->
   ∃t,PSs (ou CX0 P w K mg base N qual (defScope st) f cdv A outer s H E).nox (defBody st) t/\t { nx:=fun _ H'=>Q .non H',rt:=Q } (start N vs) H):FnOk P w K mg base CX0 (k+1) f fd ps sp:=by
 obtain⟨oc,od,kV,doc,pm,an,cdv,ct,osl,rfl,lk,hcd⟩:=F.ex;refine Be lk hcd S len fun A outer s H vs Q E hr hsp=>?_
 obtain⟨t,h,q⟩:=hbody cdv A outer s H vs Q E hr hsp;exact⟨t,h.nox,q⟩
theorem Fun.binds{x qual:Str}{st:Stmt}{f:Addr}{fd:FuncData}{ps:List Str}(F:Fun K x qual st f fd)
  (h:∀(kV doc pm:Value) (an:Option Addr) (cdv ct:Value) (us:List Value),us.length=ps.length->bindArgs (PySem.W.fnOf x qual (defArgs st) (defBody st) (defScope st) .none kV doc pm an cdv ct) ⟨us,[]⟩=pure (ps.zip us)):Binds K fd ps []:=by
 obtain⟨oc,od,kV,doc,pm,an,cdv,ct,osl,rfl,lk,hcd⟩:=F.ex;exact .all (h kV doc pm an cdv ct)
theorem Bq{x qual:Str}{st:Stmt}{f:Addr}{oc:Value}{od an:Option Addr}{osl:Array (Option Value)}{kV doc pm cdv ct:Value}(l:K.lookup f=some ⟨oc,od,.func (PySem.W.fnOf x qual (defArgs st) (defBody st) (defScope st) .none kV doc pm an cdv ct),osl⟩)
  (c:PySem.W.codeIn K cdv qual=true) (k:PySem.W.keepIn K (.ref f)=true):Fun K x qual st f (PySem.W.fnOf x qual (defArgs st) (defBody st) (defScope st) .none kV doc pm an cdv ct):=⟨⟨oc,od,kV,doc,pm,an,cdv,ct,osl,rfl,l,c⟩,k⟩
end
section
variable{X:Cx}
end
def Same(H H':Hp):Prop:=∀b o,H b=some o->H' b=some o
theorem Same.refl(H:Hp):Same H H:=fun _ _ h=>h
theorem Same.trans{H H1 H2:Hp}(a:Same H H1)(b:Same H1 H2):Same H H2:=fun c o h=>b c o (a c o h)
theorem Same.free{H H':Hp}(e:Same H H'){l:Addr}(h:H' l=Option.none):H l=Option.none:=by
 cases q:H l with
 |none=>rfl
 |some o=>
  rw[e l o q] at h;cases h
theorem Same.seq{K:PySem.W.Frag}{H H':Hp}{a:Addr}{xs:List V}(e:Same H H')(h:SqL K H a xs):SqL K H' a xs:=by
 rcases h with (h|⟨o,h⟩)|h
 ·exact .inl (.inl (e _ _ h))
 ·exact .inl (.inr ⟨o,e _ _ h⟩)
 ·exact .inr h
end L2
namespace DL
open PySem PySem.Spec PyProof.Rows L2
inductive D where
 |non|bl (b:Bool)|int (i:Int)|str (x:Str)|tup (xs:List D)|rol (xs:List D)|ob (n:Nat)|xn (c:Addr)
inductive Cell where
 |lst (xs:List D)|dic (kvs:List (Key×D))|ins (C:Addr) (ns:List Str) (ds:List D)
inductive R(α:Type) where
 |ok (a:α) (S:List Cell)|exc (c:Addr) (S:List Cell)|bad
abbrev M(α:Type):=List Cell->R α
abbrev DSt:=List (Option D)
def M.bind{α β:Type}(m:M α)(k:α->M β):M β:=fun S=>match m S with
 |.ok a S'=>k a S'
 |.exc c S'=>.exc c S'
 |.bad=>.bad
def M.ret{α:Type}(a:α):M α:=fun S=>.ok a S
def M.bad{α:Type}:M α:=fun _=>.bad
def cif{α:Type}(P:Prop)(a b:α):α:=@ite α P (Classical.propDecidable P) a b
theorem cq{α:Type}{P:Prop}{a b:α}(h:P):cif P a b=a:=by unfold cif;exact if_pos h
theorem wn{α:Type}{P:Prop}{a b:α}(h:¬P):cif P a b=b:=by unfold cif;exact if_neg h
def RoL(K:PySem.W.Frag)(H:Hp)(a:Addr)(xs:List V):Prop:=
 (∃o,H a=some (.frz o (.lst xs)))\/
  ∃(o:Obj) (its:Array Value) (n:Nat),K.lookup a=some o/\o.cls=.type "list"/\o.dict=none/\o.data=.seq its n/\its.size<=sizeLine/\Vals xs its.toList
theorem RoL.sq{K:PySem.W.Frag}{H:Hp}{a:Addr}{xs:List V}(h:RoL K H a xs):SqL K H a xs:=by
 rcases h with ⟨o,h⟩|h
 ·exact .inl (.inr ⟨o,h⟩)
 ·exact .inr h
def XO(a c:Addr):HO:=.ext fun h=>∃o,h.get? a=some o/\o.cls=.ref c
mutual
def RepV(K:PySem.W.Frag)(H:Hp)(J:List Addr):D->V->Prop
 |.non,v=>v=.non
 |.bl b,v=>v=.bl b
 |.int i,v=>v=.int i
 |.str x,v=>v=.str x
 |.tup xs,v=>∃a vs,v=.ref a/\SqT K H a vs/\RepVs K H J xs vs
 |.rol xs,v=>∃a vs,v=.ref a/\RoL K H a vs/\RepVs K H J xs vs
 |.ob n,v=>∃a,v=.ref a/\J[n]?=some a
 |.xn c,v=>∃a,v=.ref a/\H a=some (XO a c)
def RepVs(K:PySem.W.Frag)(H:Hp)(J:List Addr):List D->List V->Prop
 |[],vs=>vs=[]
 |x :: xs,vs=>∃v r,vs=v :: r/\RepV K H J x v/\RepVs K H J xs r
end
def Stb:HO->Bool
 |.tup _=>true
 |.frz _ _=>true
 |.ext _=>true
 |_=>false
structure Ext(H:Hp)(J:List Addr)(H':Hp)(J':List Addr):Prop where
 st:∀b o,H b=some o->Stb o=true->H' b=some o
 pre:∃more,J'=J++more
theorem Ext.refl(H:Hp)(J:List Addr):Ext H J H J:=⟨fun _ _ e _=>e,[],by simp⟩
theorem Ext.trans{H H1 H2:Hp}{J J1 J2:List Addr}(a:Ext H J H1 J1)(b:Ext H1 J1 H2 J2):Ext H J H2 J2:=by
 obtain⟨m1,e1⟩:=a.pre;obtain⟨m2,e2⟩:=b.pre;exact⟨fun c o e st=>b.st c o (a.st c o e st) st,m1++m2,by rw[e2,e1,List.append_assoc]⟩
theorem Ext.new{H:Hp}{J:List Addr}{p:Addr}{o:HO}(h:H p=none):Ext H J (upd H p o) J:=
 ⟨fun b u e _=>by rw[br (bi e h)];exact e,[],by simp⟩
theorem Ext.snoc{H H':Hp}{J J':List Addr}(a:Ext H J H' J')(m:List Addr):Ext H J H' (J'++m):=by
 obtain⟨m1,e1⟩:=a.pre;exact⟨a.st,m1++m,by rw[e1,List.append_assoc]⟩
theorem Ext.write{H:Hp}{J:List Addr}{p:Addr}{o u:HO}(h:H p=some u)(hs:Stb u=false):Ext H J (upd H p o) J:=
 ⟨fun b w e st=>by
  have:b≠p:=by
   rintro rfl;rw[h] at e;cases e;rw[hs] at st;cases st
  rw[br this];exact e,[],by simp⟩
section
variable{K:PySem.W.Frag}{H H':Hp}{J J':List Addr}
theorem SqT.ext{a:Addr}{vs:List V}(e:Ext H J H' J')(h:SqT K H a vs):SqT K H' a vs:=by
 rcases h with (h|⟨o,h⟩)|h
 ·exact .inl (.inl (e.st _ _ h rfl))
 ·exact .inl (.inr ⟨o,e.st _ _ h rfl⟩)
 ·exact .inr h
theorem RoL.ext{a:Addr}{vs:List V}(e:Ext H J H' J')(h:RoL K H a vs):RoL K H' a vs:=by
 rcases h with ⟨o,h⟩|h
 ·exact .inl ⟨o,e.st _ _ h rfl⟩
 ·exact .inr h
mutual
theorem RepV.ext(e:Ext H J H' J'):∀{d:D}{v:V},RepV K H J d v->RepV K H' J' d v
 |.non,_,h=>by unfold RepV at h ⊢;exact h
 |.bl _,_,h=>by unfold RepV at h ⊢;exact h
 |.int _,_,h=>by unfold RepV at h ⊢;exact h
 |.str _,_,h=>by unfold RepV at h ⊢;exact h
 |.tup xs,v,h=>by
  unfold RepV at h ⊢;obtain⟨a,vs,h1,h2,h3⟩:=h;exact⟨a,vs,h1,SqT.ext e h2,RepVs.ext e h3⟩
 |.rol xs,v,h=>by
  unfold RepV at h ⊢;obtain⟨a,vs,h1,h2,h3⟩:=h;exact⟨a,vs,h1,RoL.ext e h2,RepVs.ext e h3⟩
 |.ob n,v,h=>by
  unfold RepV at h ⊢;obtain⟨a,h1,h2⟩:=h;obtain⟨m,em⟩:=e.pre;refine⟨a,h1,?_⟩;rw[em,List.getElem?_append_left (List.getElem?_eq_some_iff.mp h2).1];exact h2
 |.xn c,v,h=>by
  unfold RepV at h ⊢;obtain⟨a,h1,h2⟩:=h;exact⟨a,h1,e.st _ _ h2 rfl⟩
theorem RepVs.ext(e:Ext H J H' J'):∀{xs:List D}{vs:List V},RepVs K H J xs vs->RepVs K H' J' xs vs
 |[],_,h=>by unfold RepVs at h ⊢;exact h
 |x :: xs,vs,h=>by
  unfold RepVs at h ⊢;obtain⟨v,r,h1,h2,h3⟩:=h;exact⟨v,r,h1,RepV.ext e h2,RepVs.ext e h3⟩
end
theorem RepVs.length:∀{xs:List D}{vs:List V},RepVs K H J xs vs->vs.length=xs.length
 |[],_,h=>by unfold RepVs at h;rw[h];rfl
 |x :: xs,vs,h=>by
  unfold RepVs at h;obtain⟨v,r,h1,_,h3⟩:=h;rw[h1,List.length_cons,List.length_cons,RepVs.length h3]
theorem RepVs.get:∀{xs:List D}{vs:List V}{i:Nat}{x:D},RepVs K H J xs vs->xs[i]?=some x->∃v,vs[i]?=some v/\RepV K H J x v
 |[],_,_,_,_,e=>by simp at e
 |y :: xs,vs,0,x,h,e=>by
  unfold RepVs at h;obtain⟨v,r,h1,h2,_⟩:=h;simp at e;subst e h1;exact⟨v,rfl,h2⟩
 |y :: xs,vs,i+1,x,h,e=>by
  unfold RepVs at h;obtain⟨v,r,h1,_,h3⟩:=h;subst h1;exact RepVs.get (i:=i) h3 (by simpa using e)
theorem RepVs.append:∀{xs ys:List D}{vs ws:List V},RepVs K H J xs vs->RepVs K H J ys ws->RepVs K H J (xs++ys) (vs++ws)
 |[],_,_,_,h,g=>by unfold RepVs at h;rw[h];exact g
 |x :: xs,ys,vs,ws,h,g=>by
  unfold RepVs at h;obtain⟨v,r,h1,h2,h3⟩:=h;subst h1;rw[List.cons_append,List.cons_append];unfold RepVs;exact⟨v,_,rfl,h2,RepVs.append h3 g⟩
theorem RepVs.nil:RepVs K H J [] []:=by unfold RepVs;rfl
theorem RepVs.cons{x:D}{xs:List D}{v:V}{vs:List V}(h:RepV K H J x v)(t:RepVs K H J xs vs):RepVs K H J (x :: xs) (v :: vs):=by
 unfold RepVs;exact⟨v,vs,rfl,h,t⟩
theorem RepVs.one{x:D}{v:V}(h:RepV K H J x v):RepVs K H J [x] [v]:=.cons h .nil
theorem RepVs.take:∀{xs:List D}{vs:List V}(n:Nat),RepVs K H J xs vs->RepVs K H J (xs.take n) (vs.take n)
 |_,_,0,_=>by simp;exact .nil
 |[],_,n+1,h=>by unfold RepVs at h;subst h;simp;exact .nil
 |x :: xs,vs,n+1,h=>by
  unfold RepVs at h;obtain⟨v,r,h1,h2,h3⟩:=h;subst h1;exact .cons h2 (RepVs.take n h3)
theorem RepVs.drop:∀{xs:List D}{vs:List V}(n:Nat),RepVs K H J xs vs->RepVs K H J (xs.drop n) (vs.drop n)
 |_,_,0,h=>by simpa using h
 |[],_,n+1,h=>by unfold RepVs at h;subst h;simp;exact .nil
 |x :: xs,vs,n+1,h=>by
  unfold RepVs at h;obtain⟨v,r,h1,h2,h3⟩:=h;subst h1;exact RepVs.drop n h3
theorem RepVs.set{d:D}{w:V}(hd:RepV K H J d w):∀{xs:List D}{vs:List V}(n:Nat),RepVs K H J xs vs->RepVs K H J (xs.set n d) (vs.set n w)
 |[],_,n,h=>by unfold RepVs at h;subst h;simp;exact .nil
 |x :: xs,vs,0,h=>by
  unfold RepVs at h;obtain⟨v,r,h1,h2,h3⟩:=h;subst h1;exact .cons hd h3
 |x :: xs,vs,n+1,h=>by
  unfold RepVs at h;obtain⟨v,r,h1,h2,h3⟩:=h;subst h1;exact .cons h2 (RepVs.set hd n h3)
theorem RepVs.nil_iff{xs:List D}{vs:List V}(h:RepVs K H J xs vs):vs=[]↔xs=[]:=by
 have:=h.length;constructor
 ·intro e;subst e;exact List.length_eq_zero_iff.mp (by simpa using this.symm)
 ·intro e;subst e;exact List.length_eq_zero_iff.mp (by simpa using this)
theorem RepVs.ints(ns:List Int):RepVs K H J (ns.map D.int) (ns.map V.int):=by
 induction ns with
 |nil=>exact .nil
 |cons n r ih=>exact .cons (by unfold RepV;rfl) ih
end
def RepPs{κ:Type}(K:PySem.W.Frag)(H:Hp)(J:List Addr):List (κ×D)->List (κ×V)->Prop
 |[],ws=>ws=[]
 |(k,d) :: r,ws=>∃v t,ws=(k,v) :: t/\RepV K H J d v/\RepPs K H J r t
section
variable{κ:Type}{K:PySem.W.Frag}{H H':Hp}{J J':List Addr}
theorem RepPs.ext(e:Ext H J H' J'):∀{xs:List (κ×D)}{ws:List (κ×V)},RepPs K H J xs ws->RepPs K H' J' xs ws
 |[],_,h=>h
 |(k,d) :: r,ws,h=>by
  obtain⟨v,t,h1,h2,h3⟩:=h;exact⟨v,t,h1,h2.ext e,RepPs.ext e h3⟩
theorem RepPs.length:∀{xs:List (κ×D)}{ws:List (κ×V)},RepPs K H J xs ws->ws.length=xs.length
 |[],_,h=>by
  have h':_=[]:=h;rw[h'];rfl
 |(k,d) :: r,ws,h=>by
  obtain⟨v,t,h1,h2,h3⟩:=h;rw[h1,List.length_cons,List.length_cons,RepPs.length h3]
end
def RepC(K:PySem.W.Frag)(H:Hp)(J:List Addr):Cell->Addr->Prop
 |.lst xs,a=>∃vs,H a=some (.lst vs)/\RepVs K H J xs vs
 |.dic kvs,a=>∃ws,H a=some (.dK ws)/\RepPs K H J kvs ws
 |.ins C ns ds,a=>∃dx ws,H a=some (.ins C dx ws)/\ws.map (·.1)=ns/\RepVs K H J ds (ws.map (·.2))
structure RepS(K:PySem.W.Frag)(H:Hp)(J:List Addr)(S:List Cell):Prop where
 len:J.length=S.length
 nd:J.Nodup
 at_:∀(n:Nat) c a,S[n]?=some c->J[n]?=some a->RepC K H J c a
section
variable{K:PySem.W.Frag}{H H':Hp}{J J':List Addr}{S:List Cell}{a p:Addr}{c c':Cell}{n:Nat}{o o':HO}
theorem RepC.some_(h:RepC K H J c a):∃o,H a=some o/\Stb o=false:=by
 cases c with
 |lst xs=>obtain⟨vs,h,_⟩:=h;exact⟨_,h,rfl⟩
 |dic xs=>obtain⟨vs,h,_⟩:=h;exact⟨_,h,rfl⟩
 |ins C ns ds=>obtain⟨dx,vs,h,_⟩:=h;exact⟨_,h,rfl⟩
theorem RepC.keep(h:RepC K H J c a)(e:Ext H J H' J')(he:H' a=H a):RepC K H' J' c a:=by
 cases c with
 |lst xs=>obtain⟨vs,h,r⟩:=h;exact⟨vs,he.trans h,r.ext e⟩
 |dic xs=>obtain⟨vs,h,r⟩:=h;exact⟨vs,he.trans h,r.ext e⟩
 |ins C ns ds=>obtain⟨dx,vs,h,q,r⟩:=h;exact⟨dx,vs,he.trans h,q,r.ext e⟩
theorem RepS.cell(h:RepS K H J S)(hn:S[n]?=some c):∃a,J[n]?=some a/\RepC K H J c a:=by
 have hi:=(List.getElem?_eq_some_iff.mp hn).1;have hl:=h.len;exact⟨J[n]'(by omega),by simp,h.at_ n c _ hn (by simp)⟩
theorem RepS.cellA(h:RepS K H J S)(hn:J[n]?=some a):∃c,S[n]?=some c/\RepC K H J c a:=by
 have hi:=(List.getElem?_eq_some_iff.mp hn).1;have hl:=h.len;exact⟨S[n]'(by omega),by simp,h.at_ n _ _ (by simp) hn⟩
theorem RepS.held(h:RepS K H J S)(ha:a∈J):∃o,H a=some o/\Stb o=false:=by
 obtain⟨n,hn⟩:=List.mem_iff_getElem?.mp ha;obtain⟨c,_,hc⟩:=h.cellA hn;exact hc.some_
theorem RepS.new(h:RepS K H J S)(hp:H p=none):RepS K (upd H p o) J S where
 len:=h.len
 nd:=h.nd
 at_:=fun n c a hc ha=>by
  have r:=h.at_ n c a hc ha;obtain⟨u,hu,_⟩:=r.some_;exact r.keep (Ext.new hp) (br (bi hu hp))
theorem RepS.push(h:RepS K H J S)(hp:H p=none)(hc:RepC K (upd H p o) (J++[p]) c p):RepS K (upd H p o) (J++[p]) (S++[c]) where
 len:=by simp[h.len]
 nd:=by
  rw[List.nodup_append];refine⟨h.nd,by simp,?_⟩;intro a ha b hb;simp at hb;subst hb;obtain⟨u,hu,_⟩:=h.held ha;exact bi hu hp
 at_:=fun n c1 a h1 ha=>by
  have hl:=h.len;by_cases hn:n<S.length
  ·rw[List.getElem?_append_left hn] at h1;rw[List.getElem?_append_left (by omega)] at ha;have r:=h.at_ n c1 a h1 ha;obtain⟨u,hu,_⟩:=r.some_;exact r.keep ((Ext.new hp).snoc _) (br (bi hu hp))
  ·have hn':=(List.getElem?_eq_some_iff.mp h1).1;have e:n=S.length:=by rw[List.length_append] at hn';simp at hn';omega
   subst e;rw[List.getElem?_append_right (Nat.le_refl _)] at h1;rw[List.getElem?_append_right (by omega)] at ha;simp at h1;rw[<-hl] at ha;simp at ha;subst h1 ha;exact hc
theorem RepS.write(h:RepS K H J S)(hn:J[n]?=some a)(hc:RepC K (upd H a o) J c' a):RepS K (upd H a o) J (S.set n c') where
 len:=by rw[List.length_set];exact h.len
 nd:=h.nd
 at_:=fun m c1 b h1 hb=>by
  obtain⟨c0,_,r0⟩:=h.cellA hn;obtain⟨u0,hu0,hs0⟩:=r0.some_;by_cases e:m=n
  ·subst e;rw[hn] at hb;cases hb;rw[List.getElem?_set] at h1;simp at h1;obtain⟨_,h1⟩:=h1;subst h1;exact hc
  ·rw[List.getElem?_set_ne (Ne.symm e)] at h1;have r:=h.at_ m c1 b h1 hb;have hab:b≠a:=by
    rintro rfl;exact e ((List.getElem?_inj (List.getElem?_eq_some_iff.mp hb).1 h.nd).mp (hb.trans hn.symm))
   exact r.keep (Ext.write hu0 hs0) (br hab)
end
structure RepL(K:PySem.W.Frag)(H:Hp)(J:List Addr)(r:DSt)(σ:L2.St):Prop where
 len:r.length=σ.length
 at_:∀(i:Nat) d,r[i]?=some (some d)->∃v,σ[i]?=some (some v)/\RepV K H J d v
section
variable{K:PySem.W.Frag}{H H':Hp}{J J':List Addr}{r:DSt}{σ:L2.St}
theorem RepL.ext(h:RepL K H J r σ)(e:Ext H J H' J'):RepL K H' J' r σ:=⟨h.len,fun i d q=>let ⟨v,a,b⟩:=h.at_ i d q;⟨v,a,b.ext e⟩⟩
theorem RepL.set(h:RepL K H J r σ){i:Nat}{d:D}{v:V}(hd:RepV K H J d v):RepL K H J (r.set i (some d)) (σ.set i (some v)) where
 len:=by simp[h.len]
 at_:=fun j d' q=>by
  by_cases e:j=i
  ·subst e;rw[List.getElem?_set] at q;simp at q;obtain⟨hj,q⟩:=q;subst q;refine⟨v,?_,hd⟩;rw[List.getElem?_set];simp[<-h.len,hj]
  ·rw[List.getElem?_set_ne (Ne.symm e)] at q ⊢;exact h.at_ j d' q
end
theorem RepL.start{K:PySem.W.Frag}{H:Hp}{J:List Addr}{N:List Str}{xs:List D}{vs:List V}(h:RepVs K H J xs vs) :
  RepL K H J (xs.map some++List.replicate (N.length-xs.length) none) (L2.start N vs) where
 len:=by unfold L2.start;simp[h.length]
 at_:=fun i d q=>by
  have hl:=h.length;unfold L2.start;by_cases hi:i<xs.length
  ·rw[List.getElem?_append_left (by simpa using hi)] at q;rw[List.getElem?_append_left (by simp;omega)];rw[List.getElem?_map] at q ⊢;cases e:xs[i]? with
   |none=>rw[e] at q;simp at q
   |some x=>
    rw[e] at q;simp at q;subst q;obtain⟨v,h1,h2⟩:=h.get e;exact⟨v,by rw[h1];rfl,h2⟩
  ·rw[List.getElem?_append_right (by simpa using hi)] at q;rw[List.getElem?_replicate] at q;split at q<;>simp at q
end DL
namespace DL
open PySem PySem.Spec PyProof.Rows L2
abbrev Pins:=List (Addr×Obj)
def TO(T:Addr):HO:=.ext fun h=>∃o,h.get? T=some o
def CF(h:Heap)(a c:Addr):Prop:=∃oe vs a0,h.get? a=some oe/\oe.cls=.ref c/\oe.data=.fields vs/\vs[0]?=some a0/\vs[1]?=some .none
def Tr(h:Heap)(a c T:Addr):Prop:=∃oe vs oT ts a0,h.get? a=some oe/\oe.cls=.ref c/\oe.data=.fields vs/\vs[0]?=some a0/\vs[1]?=some (.ref T)/\T≠a/\h.get? T=some oT/\oT.data=.fields ts/\ts[3]?=some .none
def XF(X:Cx)(H:Hp)(e:Value)(c:Addr)(h:Heap):Prop:=∃a,e=.ref a/\H a=some (XO a c)/\(CF h a c\/∃T,H T=some (TO T)/\Tr h a c T)
structure XInv(X:Cx)(pins:Pins)(σ:L2.St)(H:Hp)(s:Shared)(e:Value)(c:Addr):Prop where
 inv:Inv X pins σ H s
 fly:XF X H e c s.heap
def Got(K:PySem.W.Frag)(H:Hp)(J:List Addr)(d:D)(S:List Cell):VK:=fun v H'=>∃J',Ext H J H' J'/\RepS K H' J' S/\RepV K H' J' d v
def Gots(K:PySem.W.Frag)(H:Hp)(J:List Addr)(ds:List D)(S:List Cell)(vs:List V)(H':Hp):Prop:=∃J',Ext H J H' J'/\RepS K H' J' S/\RepVs K H' J' ds vs
def Gone(K:PySem.W.Frag)(H:Hp)(J:List Addr)(S:List Cell)(H':Hp):Prop:=∃J',Ext H J H' J'/\RepS K H' J' S
def XP(X:Cx)(pins:Pins)(σ:L2.St)(c:Addr)(G:Hp->Prop)(e:Value)(s':Shared):Prop:=∃H',XInv X pins σ H' s' e c/\G H'
def Mt(X:Cx)(pins:Pins)(σ:L2.St)(H:Hp)(J:List Addr)(r:R D)(Q:Value->Shared->Prop)(E:Value->Shared->Prop):Prop:=match r with
 |.ok d S'=>∀u s',EP X pins σ (Got X.K H J d S') u s'->Q u s'
 |.exc c S'=>∀e s',XP X pins σ c (Gone X.K H J S') e s'->E e s'
 |.bad=>False
def MtB(X:Cx)(pins:Pins)(σ:L2.St)(H:Hp)(J:List Addr)(r:R Bool)(Q:Bool->Shared->Prop)(E:Value->Shared->Prop):Prop:=match r with
 |.ok b S'=>∀s',TP X pins σ (fun _=>Gone X.K H J S') b s'->Q b s'
 |.exc c S'=>∀e s',XP X pins σ c (Gone X.K H J S') e s'->E e s'
 |.bad=>False
def MtA(X:Cx)(pins:Pins)(σ:L2.St)(H:Hp)(J:List Addr)(r:R (List D))(Q:List Value->Shared->Prop)(E:Value->Shared->Prop):Prop:=match r with
 |.ok ds S'=>∀us s',AP X pins σ (Gots X.K H J ds S') us s'->Q us s'
 |.exc c S'=>∀e s',XP X pins σ c (Gone X.K H J S') e s'->E e s'
 |.bad=>False
section
variable{X:Cx}{pins:Pins}{σ:L2.St}{H H1:Hp}{J J1:List Addr}
theorem Got.ext{K:PySem.W.Frag}{d:D}{S:List Cell}{v:V}{H':Hp}(e:Ext H J H1 J1)(h:Got K H1 J1 d S v H'):Got K H J d S v H':=let ⟨J',a,b,c⟩:=h;⟨J',e.trans a,b,c⟩
theorem Gots.ext{K:PySem.W.Frag}{d:List D}{S:List Cell}{v:List V}{H':Hp}(e:Ext H J H1 J1)(h:Gots K H1 J1 d S v H'):Gots K H J d S v H':=let ⟨J',a,b,c⟩:=h;⟨J',e.trans a,b,c⟩
theorem Gone.ext{K:PySem.W.Frag}{S:List Cell}{H':Hp}(e:Ext H J H1 J1)(h:Gone K H1 J1 S H'):Gone K H J S H':=let ⟨J',a,b⟩:=h;⟨J',e.trans a,b⟩
theorem XP.ext{c:Addr}{S:List Cell}{u:Value}{s':Shared}(e:Ext H J H1 J1)(h:XP X pins σ c (Gone X.K H1 J1 S) u s'):XP X pins σ c (Gone X.K H J S) u s':=let ⟨H',a,b⟩:=h;⟨H',a,b.ext e⟩
theorem Mt.ext{r:R D}{Q E:Value->Shared->Prop}(e:Ext H J H1 J1)(h:Mt X pins σ H J r Q E):Mt X pins σ H1 J1 r Q E:=by
 cases r with
 |ok d S=>exact fun u s' ⟨v,H',I,rv,g⟩=>h u s' ⟨v,H',I,rv,g.ext e⟩
 |exc c S=>exact fun u s' x=>h u s' (x.ext e)
 |bad=>exact h
theorem MtB.ext{r:R Bool}{Q:Bool->Shared->Prop}{E:Value->Shared->Prop}(e:Ext H J H1 J1)(h:MtB X pins σ H J r Q E):MtB X pins σ H1 J1 r Q E:=by
 cases r with
 |ok d S=>exact fun s' ⟨H',I,g⟩=>h s' ⟨H',I,g.ext e⟩
 |exc c S=>exact fun u s' x=>h u s' (x.ext e)
 |bad=>exact h
theorem MtA.ext{r:R (List D)}{Q:List Value->Shared->Prop}{E:Value->Shared->Prop}(e:Ext H J H1 J1)(h:MtA X pins σ H J r Q E):MtA X pins σ H1 J1 r Q E:=by
 cases r with
 |ok d S=>exact fun u s' ⟨v,H',I,rv,g⟩=>h u s' ⟨v,H',I,rv,g.ext e⟩
 |exc c S=>exact fun u s' x=>h u s' (x.ext e)
 |bad=>exact h
end
structure At(X:Cx)(pins:Pins)(σ:L2.St)(H:Hp)(J:List Addr)(r:DSt)(S:List Cell)(s:Shared):Prop where
 inv:Inv X pins σ H s
 loc:RepL X.K H J r σ
 st:RepS X.K H J S
def PEd(X:Cx)(e:Expr)(f:DSt->M D):Prop:=∀(pins:Pins) (s:Shared) (σ:L2.St) (H:Hp) (J:List Addr) (r:DSt) (S:List Cell) (Q E:Value->Shared->Prop),
 At X pins σ H J r S s->Mt X pins σ H J (f r S) Q E->wpAny (model X.prog X.w) X.A (eval e X.env) Q E s
def PTd(X:Cx)(e:Expr)(f:DSt->M Bool):Prop:=∀(pins:Pins) (s:Shared) (σ:L2.St) (H:Hp) (J:List Addr) (r:DSt) (S:List Cell) (Q:Bool->Shared->Prop) (E:Value->Shared->Prop),
 At X pins σ H J r S s->MtB X pins σ H J (f r S) Q E->wpAny (model X.prog X.w) X.A (isTrue e X.env (eval e X.env)) Q E s
def PWd(X:Cx)(e:Expr)(f:DSt->M Bool):Prop:=∀(whole:Sem Value) (pins:Pins) (s:Shared) (σ:L2.St) (H:Hp) (J:List Addr) (r:DSt) (S:List Cell) (Q:Bool->Shared->Prop) (E:Value->Shared->Prop),
 At X pins σ H J r S s->MtB X pins σ H J (f r S) Q E->wpAny (model X.prog X.w) X.A (isTrue e X.env whole) Q E s
theorem PWd.pt{X:Cx}{e:Expr}{f:DSt->M Bool}(h:PWd X e f):PTd X e f:=h _
def PAd(X:Cx)(es:List Expr)(f:DSt->M (List D)):Prop:=∀(pos:Pos) (pins:Pins) (s:Shared) (σ:L2.St) (H:Hp) (J:List Addr) (r:DSt) (S:List Cell) (Q:List Value->Shared->Prop) (E:Value->Shared->Prop),
 At X pins σ H J r S s->MtA X pins σ H J (f r S) Q E->wpAny (model X.prog X.w) X.A (spliced (backTo pos (starEach es X.env))) Q E s
def OpD(X:Cx)(f:Value->Value->Sem Value)(g:D->D->M D):Prop:=∀(pins:Pins) (s:Shared) (σ:L2.St) (H:Hp) (J:List Addr) (S:List Cell) (x y:D) (vx vy:V) (v u:Value) (Q E:Value->Shared->Prop),
 Inv X pins σ H s->RepS X.K H J S->RepV X.K H J x vx->RepV X.K H J y vy->RelV vx v->RelV vy u->Mt X pins σ H J (g x y S) Q E->wpAny (model X.prog X.w) X.A (f v u) Q E s
def UnD(X:Cx)(f:Value->Sem Value)(g:D->M D):Prop:=∀(pins:Pins) (s:Shared) (σ:L2.St) (H:Hp) (J:List Addr) (S:List Cell) (x:D) (vx:V) (v:Value) (Q E:Value->Shared->Prop),
 Inv X pins σ H s->RepS X.K H J S->RepV X.K H J x vx->RelV vx v->Mt X pins σ H J (g x S) Q E->wpAny (model X.prog X.w) X.A (f v) Q E s
def CallD(X:Cx)(f:Value)(g:List D->M D):Prop:=∀(pins:Pins) (s:Shared) (σ:L2.St) (H:Hp) (J:List Addr) (S:List Cell) (xs:List D) (vs:List V) (us:List Value) (Q E:Value->Shared->Prop),
 Inv X pins σ H s->RepS X.K H J S->RepVs X.K H J xs vs->Vals vs us->Mt X pins σ H J (g xs S) Q E->wpAny (model X.prog X.w) X.A (call f us) Q E s
section
variable{X:Cx}{a b c:Expr}{fa fb fc:DSt->M D}{pos:Pos}
theorem EP.unwish{pins:Pins}{σ:L2.St}{E:Value->Shared->Prop}{Q:VK}{u:Value}{s':Shared}(h:EP (X.wish E) pins σ Q u s'):EP X pins σ Q u s':=let ⟨v,H',I,r,q⟩:=h;⟨v,H',I.unwish,r,q⟩
theorem OpD.of{f:Value->Value->Sem Value}{r:R2}{g:D->D->M D}(h:∀E,OpR (X.wish E) f r)
  (hg:∀(H:Hp) (J:List Addr) (S:List Cell) (x y:D) (vx vy:V) (d:D) (S':List Cell),RepS X.K H J S->RepV X.K H J x vx->RepV X.K H J y vy->g x y S=.ok d S'->r vx vy H (Got X.K H J d S'))
  (hn:∀x y S c S',g x y S≠.exc c S'):OpD X f g:=by
 intro pins s σ H J S x y vx vy v u Q E I rs rx ry rv ru m;cases e:g x y S with
 |ok d S'=>
  rw[e] at m;exact wpAny_mono (h E pins s σ H vx vy v u _ (I.wish E) rv ru (hg H J S x y vx vy d S' rs rx ry e)) (fun u s' q=>m u s' (EP.unwish q)) fun _ _ z=>z
 |exc c S'=>exact absurd e (hn _ _ _ _ _)
 |bad=>rw[e] at m;exact m.elim
theorem UnD.of{f:Value->Sem Value}{r:V->Hp->VK->Prop}{g:D->M D}(h:∀E,UnR (X.wish E) f r)
  (hg:∀(H:Hp) (J:List Addr) (S:List Cell) (x:D) (vx:V) (d:D) (S':List Cell),RepS X.K H J S->RepV X.K H J x vx->g x S=.ok d S'->r vx H (Got X.K H J d S'))
  (hn:∀x S c S',g x S≠.exc c S'):UnD X f g:=by
 intro pins s σ H J S x vx v Q E I rs rx rv m;cases e:g x S with
 |ok d S'=>
  rw[e] at m;exact wpAny_mono (h E pins s σ H vx v _ (I.wish E) rv (hg H J S x vx d S' rs rx e)) (fun u s' q=>m u s' (EP.unwish q)) fun _ _ z=>z
 |exc c S'=>exact absurd e (hn _ _ _ _)
 |bad=>rw[e] at m;exact m.elim
theorem CallD.of{f:Value}{r:List V->Hp->VK->Prop}{g:List D->M D}(h:∀E,CallR (X.wish E) f r)
  (hg:∀(H:Hp) (J:List Addr) (S:List Cell) (xs:List D) (vs:List V) (d:D) (S':List Cell),RepS X.K H J S->RepVs X.K H J xs vs->g xs S=.ok d S'->r vs H (Got X.K H J d S'))
  (hn:∀xs S c S',g xs S≠.exc c S'):CallD X f g:=by
 intro pins s σ H J S xs vs us Q E I rs rx rv m;cases e:g xs S with
 |ok d S'=>
  rw[e] at m;exact wpAny_mono (h E pins s σ H vs us _ (I.wish E) rv (hg H J S xs vs d S' rs rx e)) (fun u s' q=>m u s' (EP.unwish q)) fun _ _ z=>z
 |exc c S'=>exact absurd e (hn _ _ _ _)
 |bad=>rw[e] at m;exact m.elim
theorem go2(ha:PEd X a fa)(hb:PEd X b fb){f:Value->Value->Sem Value}{g:D->D->M D}(ho:OpD X f g){Q E:Value->Shared->Prop}{pins:Pins}{s:Shared}{σ:L2.St}{H:Hp}{J:List Addr}{r:DSt}{S:List Cell}
  (I:At X pins σ H J r S s) (m:Mt X pins σ H J ((fa r).bind (fun x=>(fb r).bind fun y=>g x y) S) Q E) :
  wpAny (model X.prog X.w) X.A (eval a X.env) (fun v s₁=>wpAny (model X.prog X.w) X.A (eval b X.env) (fun u s₂=>wpAny (model X.prog X.w) X.A (f v u) Q E s₂) E s₁) E s:=by
 refine ha pins s σ H J r S _ E I ?_;unfold M.bind at m;cases e:fa r S with
 |bad=>rw[e] at m;exact m
 |exc c S1=>rw[e] at m;exact m
 |ok x S1=>
  rw[e] at m;intro u s' ⟨vx,H1,I1,r1,J1,ex,rs,rv⟩;refine hb pins s' σ H1 J1 r S1 _ E ⟨I1,I.loc.ext ex,rs⟩ ?_;dsimp only at m;cases e2:fb r S1 with
  |bad=>rw[e2] at m;exact m
  |exc c S2=>rw[e2] at m;exact Mt.ext (r:=.exc c S2) (Q:=fun _ _=>True) ex m
  |ok y S2=>
   rw[e2] at m;intro u2 s2 ⟨vy,H2,I2,r2,J2,ex2,rs2,rv2⟩;exact ho pins s2 σ H2 J2 S2 x y vx vy u u2 Q E I2 rs2 (rv.ext ex2) rv2 r1 r2 (Mt.ext (ex.trans ex2) m)
def dOp(g:D->D->M D)(fa fb:DSt->M D):DSt->M D:=fun r=>(fa r).bind fun x=>(fb r).bind fun y=>g x y
theorem bJ{op:Operator}{g:D->D->M D}(ho:OpD X (binaryOp op) g)(ha:PEd X a fa)(hb:PEd X b fb):PEd X (.BinOp a op b pos) (dOp g fa fb):=
 fun pins s σ H J r S Q E I m=>wpAny_BinOp (go2 ha hb ho I m)
theorem pO{op:CmpOp}{g:D->D->M D}(ho:OpD X (compareOp op) g)(ha:PEd X a fa)(hb:PEd X b fb)(hm:behindInMarks op b=false):PEd X (.Compare a [op] [b] pos) (dOp g fa fb):=
 fun pins s σ H J r S Q E I m=>wpAny_Compare1 (go2 ha hb ho I m) hm
def aa(i:Nat):DSt->M D:=fun r S=>match r[i]? with
 |some (some d)=>.ok d S
 |_=>.bad
def dC(d:D):DSt->M D:=fun _ S=>.ok d S
theorem Mt.ok_{pins:Pins}{s:Shared}{σ:L2.St}{H:Hp}{J:List Addr}{S:List Cell}{d:D}{v:V}{u:Value}{Q E:Value->Shared->Prop}(m:Mt X pins σ H J (.ok d S) Q E)(I:Inv X pins σ H s)(rs:RepS X.K H J S)(rv:RepV X.K H J d v)(r:RelV v u):Q u s:=
 m u s ⟨v,H,I,r,J,Ext.refl _ _,rs,rv⟩
theorem af(i:Nat){x:Str}(hN:X.N[i]?=some x:=by rfl)(hv:Vis X.env.scope x:=by first|exact Or.inl rfl|exact Or.inr (Or.inl rfl)|exact Or.inr (Or.inr rfl))(hd:(x == ("__debug__":Str))=false:=by decide)
  (hcd:(x == ("__classdict__":Str))=false:=by decide):PEd X (.Name x pos) (aa i):=by
 intro pins s σ H J r S Q E I m;unfold aa at m;cases e:r[i]? with
 |none=>rw[e] at m;exact m.elim
 |some o=>
  cases o with
  |none=>rw[e] at m;exact m.elim
  |some d=>
   rw[e] at m;obtain⟨v,h1,h2⟩:=I.loc.at_ i d e;exact wpAny_mono (Cb (X:=X.wish E) hN hv hd hcd pins s σ H (Got X.K H J d S) (I.inv.wish E) ⟨v,h1,J,Ext.refl _ _,I.st,h2⟩) (fun u s' q=>m u s' (EP.unwish q)) fun _ _ z=>z
theorem ar{i j pos}:PEd X (.Constant (.int i) j pos) (dC (.int i)):=fun pins s σ H J r S Q E I m=>
 wpAny_Constant_int (m.ok_ (I.inv.tok _) I.st (v:=.int i) (by unfold RepV;rfl) ⟨_,rfl⟩)
theorem li{i j pos}:PEd X (.Constant (.bool i) j pos) (dC (.bl i)):=fun pins s σ H J r S Q E I m=>
 Constant_bool (m.ok_ I.inv I.st (v:=.bl i) (by unfold RepV;rfl) rfl)
theorem vw{j pos}:PEd X (.Constant .none j pos) (dC .non):=fun pins s σ H J r S Q E I m=>
 Constant_none (m.ok_ I.inv I.st (v:=.non) (by unfold RepV;rfl) rfl)
theorem aL{i j pos}:PEd X (.Constant (.str i) j pos) (dC (.str i)):=fun pins s σ H J r S Q E I m=>
 Calls.Constant_str (m.ok_ (I.inv.tok _) I.st (v:=.str i) (by unfold RepV;rfl) ⟨_,rfl⟩)
def KRep(K:PySem.W.Frag)(d:D)(u:Value):Prop:=∀H J,∃v,RelV v u/\RepV K H J d v
theorem zG{x:Str}{d:D}{u:Value}{pos:Pos}(hg:Gl X x)(hm:X.mg x=some u)(kr:KRep X.K d u)(hd:(x == ("__debug__":Str))=false:=by decide):PEd X (.Name x pos) (dC d):=by
 intro pins s σ H J r S Q E I m;obtain⟨v,h1,h2⟩:=kr H J;exact kK I.inv hg hm (m.ok_ I.inv I.st h2 h1) hd
def bof:D->M Bool
 |.bl b=>fun S=>.ok b S
 |_=>fun _=>.bad
def ao(f:DSt->M D):DSt->M Bool:=fun r=>(f r).bind bof
theorem RepV.bl_{K:PySem.W.Frag}{H:Hp}{J:List Addr}{b:Bool}{v:V}(h:RepV K H J (.bl b) v):v=.bl b:=by unfold RepV at h;exact h
theorem RepV.int_{K:PySem.W.Frag}{H:Hp}{J:List Addr}{b:Int}{v:V}(h:RepV K H J (.int b) v):v=.int b:=by unfold RepV at h;exact h
theorem RepV.str_{K:PySem.W.Frag}{H:Hp}{J:List Addr}{b:Str}{v:V}(h:RepV K H J (.str b) v):v=.str b:=by unfold RepV at h;exact h
theorem RepV.non_{K:PySem.W.Frag}{H:Hp}{J:List Addr}{v:V}(h:RepV K H J .non v):v=.non:=by unfold RepV at h;exact h
theorem RepV.tup_{K:PySem.W.Frag}{H:Hp}{J:List Addr}{xs:List D}{v:V}(h:RepV K H J (.tup xs) v):∃a vs,v=.ref a/\SqT K H a vs/\RepVs K H J xs vs:=by unfold RepV at h;exact h
theorem RepV.rol_{K:PySem.W.Frag}{H:Hp}{J:List Addr}{xs:List D}{v:V}(h:RepV K H J (.rol xs) v):∃a vs,v=.ref a/\RoL K H a vs/\RepVs K H J xs vs:=by unfold RepV at h;exact h
theorem RepV.ob_{K:PySem.W.Frag}{H:Hp}{J:List Addr}{n:Nat}{v:V}(h:RepV K H J (.ob n) v):∃a,v=.ref a/\J[n]?=some a:=by unfold RepV at h;exact h
theorem RepV.xn_{K:PySem.W.Frag}{H:Hp}{J:List Addr}{n:Nat}{v:V}(h:RepV K H J (.xn n) v):∃a,v=.ref a/\H a=some (XO a n):=by unfold RepV at h;exact h
theorem RepV.int(K:PySem.W.Frag)(H:Hp)(J:List Addr)(b:Int):RepV K H J (.int b) (.int b):=by unfold RepV;rfl
theorem RepV.bl(K:PySem.W.Frag)(H:Hp)(J:List Addr)(b:Bool):RepV K H J (.bl b) (.bl b):=by unfold RepV;rfl
theorem RepV.str(K:PySem.W.Frag)(H:Hp)(J:List Addr)(b:Str):RepV K H J (.str b) (.str b):=by unfold RepV;rfl
theorem RepV.non(K:PySem.W.Frag)(H:Hp)(J:List Addr):RepV K H J .non .non:=by unfold RepV;rfl
theorem RepV.tup{K:PySem.W.Frag}{H:Hp}{J:List Addr}{xs:List D}{a:Addr}{vs:List V}(h:SqT K H a vs)(g:RepVs K H J xs vs):RepV K H J (.tup xs) (.ref a):=by unfold RepV;exact⟨a,vs,rfl,h,g⟩
theorem RepV.ob{K:PySem.W.Frag}{H:Hp}{J:List Addr}{n:Nat}{a:Addr}(h:J[n]?=some a):RepV K H J (.ob n) (.ref a):=by unfold RepV;exact⟨a,rfl,h⟩
theorem MtB.of_test{pins:Pins}{σ:L2.St}{H:Hp}{J:List Addr}{rd:R D}{S:List Cell}{f:DSt->M D}{r:DSt}{Q:Bool->Shared->Prop}{E:Value->Shared->Prop}(m:MtB X pins σ H J (ao f r S) Q E) :
  Mt X pins σ H J (f r S) (fun v s'=>wpAny (model X.prog X.w) X.A (truthy v) Q E s') E:=by
 unfold ao M.bind at m;cases e:f r S with
 |bad=>rw[e] at m;exact m
 |exc c S1=>rw[e] at m;exact m
 |ok x S1=>
  rw[e] at m;intro u s' ⟨vx,H1,I1,r1,J1,ex,rs,rv⟩;cases x with
  |bl b=>
   cases rv.bl_;cases r1;exact wpAny_truthy_bool (m s' ⟨H1,I1,J1,ex,rs⟩)
  |_=>exact m.elim
theorem aH{op:CmpOp}{g:D->D->M D}(ho:OpD X (compareOp op) g)(ha:PEd X a fa)(hb:PEd X b fb)(hm:behindInMarks op b=false):PTd X (.Compare a [op] [b] pos) (ao (dOp g fa fb)):=by
 intro pins s σ H J r S Q E I m;refine wpAny_isTrue_Compare1 ?_ hm;have m':=MtB.of_test (rd:=.bad) m;have:=go2 ha hb ho I m';exact this
def dr(t u:DSt->M Bool):DSt->M Bool:=fun r=>(t r).bind fun c=>if c=true then u r else M.ret false
def dOr(t u:DSt->M Bool):DSt->M Bool:=fun r=>(t r).bind fun c=>if c=true then M.ret true else u r
def dh(t:DSt->M Bool):DSt->M Bool:=fun r=>(t r).bind fun c=>M.ret (!c)
variable{tA tB':DSt->M Bool}{rest:List Expr}
theorem goB{t:Sem Bool}{f:M Bool}{k:Bool->M Bool}{pins:Pins}{s:Shared}{σ:L2.St}{H:Hp}{J:List Addr}{r:DSt}{S:List Cell}{Q:Bool->Shared->Prop}{Q':Bool->Shared->Prop}{E:Value->Shared->Prop}(I:At X pins σ H J r S s)
  (ha:∀Q1,MtB X pins σ H J (f S) Q1 E->wpAny (model X.prog X.w) X.A t Q1 E s) (m:MtB X pins σ H J (f.bind k S) Q E)
  (hk:∀c S1 s1 H1 J1,At X pins σ H1 J1 r S1 s1->MtB X pins σ H1 J1 (k c S1) Q E->Q' c s1):wpAny (model X.prog X.w) X.A t Q' E s:=by
 refine ha _ ?_;unfold M.bind at m;cases e:f S with
 |bad=>rw[e] at m;exact m
 |exc c S1=>rw[e] at m;exact m
 |ok x S1=>
  rw[e] at m;intro s' ⟨H1,I1,J1,ex,rs⟩;exact hk x S1 s' H1 J1 ⟨I1,I.loc.ext ex,rs⟩ (MtB.ext ex m)
theorem dU(ha:PTd X a tA):PWd X (.BoolOp .And [a] pos) tA:=by
 intro wh pins s σ H J r S Q E I m;refine isTrue_and (ha pins s σ H J r S _ E I ?_);cases e:tA r S with
 |bad=>rw[e] at m;exact m
 |exc c S1=>rw[e] at m;exact m
 |ok x S1=>
  rw[e] at m;intro s' h;cases x with
  |true=>exact isTrue_and_nil (m s' h)
  |false=>exact m s' h
theorem mB(ha:PTd X a tA):PWd X (.BoolOp .Or [a] pos) tA:=by
 intro wh pins s σ H J r S Q E I m;refine isTrue_or (ha pins s σ H J r S _ E I ?_);cases e:tA r S with
 |bad=>rw[e] at m;exact m
 |exc c S1=>rw[e] at m;exact m
 |ok x S1=>
  rw[e] at m;intro s' h;cases x with
  |false=>exact isTrue_or_nil (m s' h)
  |true=>exact m s' h
theorem MtB.ok_{pins:Pins}{s:Shared}{σ:L2.St}{H:Hp}{J:List Addr}{r:DSt}{S:List Cell}{b:Bool}{Q:Bool->Shared->Prop}{E:Value->Shared->Prop}(m:MtB X pins σ H J (.ok b S) Q E)(I:At X pins σ H J r S s):Q b s:=
 m s ⟨H,I.inv,J,Ext.refl _ _,I.st⟩
theorem eB(ha:PTd X a tA)(hb:PWd X (.BoolOp .And (b :: rest) pos) tB'):PWd X (.BoolOp .And (a :: b :: rest) pos) (dr tA tB'):=by
 intro wh pins s σ H J r S Q E I m;refine isTrue_and (goB (r:=r) I (fun Q1=>ha pins s σ H J r S Q1 E I) m fun c S1 s1 H1 J1 I1 m1=>?_);cases c with
 |true=>exact hb wh pins s1 σ H1 J1 r S1 Q E I1 m1
 |false=>exact m1.ok_ I1
theorem lJ(ha:PTd X a tA)(hb:PWd X (.BoolOp .Or (b :: rest) pos) tB'):PWd X (.BoolOp .Or (a :: b :: rest) pos) (dOr tA tB'):=by
 intro wh pins s σ H J r S Q E I m;refine isTrue_or (goB (r:=r) I (fun Q1=>ha pins s σ H J r S Q1 E I) m fun c S1 s1 H1 J1 I1 m1=>?_);cases c with
 |false=>exact hb wh pins s1 σ H1 J1 r S1 Q E I1 m1
 |true=>exact m1.ok_ I1
theorem hV(ha:PTd X a tA):PTd X (.UnaryOp .Not a pos) (dh tA):=by
 intro pins s σ H J r S Q E I m;exact isTrue_not (goB (r:=r) I (fun Q1=>ha pins s σ H J r S Q1 E I) m fun c S1 s1 H1 J1 I1 m1=>m1.ok_ I1)
def j1(fa fb:DSt->M D):DSt->M D:=fun r=>(ao fa r).bind fun c=>if c=true then fb r else M.ret (.bl false)
def DG(fa fb:DSt->M D):DSt->M D:=fun r=>(ao fa r).bind fun c=>if c=true then M.ret (.bl true) else fb r
def y8(fa:DSt->M D):DSt->M D:=fun r=>(ao fa r).bind fun c=>M.ret (.bl (!c))
theorem goV(ha:PEd X a fa){k:Bool->M D}{pins:Pins}{s:Shared}{σ:L2.St}{H:Hp}{J:List Addr}{r:DSt}{S:List Cell}{Q Q':Value->Shared->Prop}{E:Value->Shared->Prop}(I:At X pins σ H J r S s)
  (m:Mt X pins σ H J ((ao fa r).bind k S) Q E) (hk:∀c S1 s1 H1 J1,At X pins σ H1 J1 r S1 s1->Mt X pins σ H1 J1 (k c S1) Q E->Q' (.bool c) s1):wpAny (model X.prog X.w) X.A (eval a X.env) Q' E s:=by
 refine ha pins s σ H J r S _ E I ?_;unfold ao M.bind at m;cases e:fa r S with
 |bad=>rw[e] at m;exact m
 |exc c S1=>rw[e] at m;exact m
 |ok x S1=>
  rw[e] at m;intro u s' ⟨vx,H1,I1,r1,J1,ex,rs,rv⟩;cases x with
  |bl b=>
   cases rv.bl_;cases r1;exact hk b S1 s' H1 J1 ⟨I1,I.loc.ext ex,rs⟩ (Mt.ext ex m)
  |_=>exact m.elim
theorem pP{op}(h:PEd X a fa):PEd X (.BoolOp op [a] pos) fa:=fun pins s σ H J r S Q E I m=>BoolOp_one (h pins s σ H J r S Q E I m)
theorem lL(ha:PEd X a fa)(hb:PEd X (.BoolOp .And (b :: rest) pos) fb):PEd X (.BoolOp .And (a :: b :: rest) pos) (j1 fa fb):=by
 intro pins s σ H J r S Q E I m;refine BoolOp_and (goV ha I m fun c S1 s1 H1 J1 I1 m1=>wpAny_truthy_bool ?_);cases c with
 |true=>exact hb pins s1 σ H1 J1 r S1 Q E I1 m1
 |false=>exact m1.ok_ I1.inv I1.st (RepV.bl _ _ _ false) rfl
theorem BJ(ha:PEd X a fa):PEd X (.UnaryOp .Not a pos) (y8 fa):=by
 intro pins s σ H J r S Q E I m;exact UnaryOp_ (goV ha I m fun c S1 s1 H1 J1 I1 m1=>not_of (wpAny_truthy_bool (m1.ok_ I1.inv I1.st (RepV.bl _ _ _ (!c)) rfl)))
def dIf(t:DSt->M Bool)(fa fb:DSt->M D):DSt->M D:=fun r=>(t r).bind fun c=>if c=true then fa r else fb r
theorem Dh{t:Sem Bool}{f:M Bool}{k:Bool->M D}{pins:Pins}{s:Shared}{σ:L2.St}{H:Hp}{J:List Addr}{r:DSt}{S:List Cell}{Q:Value->Shared->Prop}{Q':Bool->Shared->Prop}{E:Value->Shared->Prop}(I:At X pins σ H J r S s)
  (ha:∀Q1,MtB X pins σ H J (f S) Q1 E->wpAny (model X.prog X.w) X.A t Q1 E s) (m:Mt X pins σ H J (f.bind k S) Q E)
  (hk:∀c S1 s1 H1 J1,At X pins σ H1 J1 r S1 s1->Mt X pins σ H1 J1 (k c S1) Q E->Q' c s1):wpAny (model X.prog X.w) X.A t Q' E s:=by
 refine ha _ ?_;unfold M.bind at m;cases e:f S with
 |bad=>rw[e] at m;exact m
 |exc c S1=>rw[e] at m;exact m
 |ok x S1=>
  rw[e] at m;intro s' ⟨H1,I1,J1,ex,rs⟩;exact hk x S1 s' H1 J1 ⟨I1,I.loc.ext ex,rs⟩ (Mt.ext ex m)
theorem uN{c:Expr}(hc:PTd X c tA)(ha:PEd X a fa)(hb:PEd X b fb):PEd X (.IfExp c a b pos) (dIf tA fa fb):=by
 intro pins s σ H J r S Q E I m;refine wpAny_IfExp (Dh (r:=r) I (fun Q1=>hc pins s σ H J r S Q1 E I) m fun d S1 s1 H1 J1 I1 m1=>?_);cases d with
 |true=>exact ha pins s1 σ H1 J1 r S1 Q E I1 m1
 |false=>exact hb pins s1 σ H1 J1 r S1 Q E I1 m1
def nz(g g':D->D->M D)(fa fb fc:DSt->M D):DSt->M D:=fun r=>(fa r).bind fun x=>(fb r).bind fun y=>((g x y).bind bof).bind fun k=>if k=true then (fc r).bind fun z=>g' y z else M.ret (.bl false)
end
end DL
namespace DL
open PySem PySem.Spec PyProof.Rows L2
section
variable{X:Cx}{a b c:Expr}{fa fb fc:DSt->M D}{pos:Pos}
theorem qe{op op':CmpOp}{g g':D->D->M D}(ho:OpD X (compareOp op) g)(ho':OpD X (compareOp op') g')(ha:PEd X a fa)(hb:PEd X b fb)(hc:PEd X c fc)
  (hm:lastMarks [op,op'] [b,c]=false:=by with_unfolding_all rfl):PEd X (.Compare a [op,op'] [b,c] pos) (nz g g' fa fb fc):=by
 intro pins s σ H J r S Q E I m;refine Compare_chain (ha pins s σ H J r S _ E I ?_) hm;unfold nz M.bind at m;cases e1:fa r S with
 |bad=>rw[e1] at m;exact m
 |exc c S1=>rw[e1] at m;exact m
 |ok x S1=>
  rw[e1] at m;intro v s1 ⟨vx,H1,I1,r1,J1,ex1,rs1,rv1⟩;refine chain_link (hb pins s1 σ H1 J1 r S1 _ E ⟨I1,I.loc.ext ex1,rs1⟩ ?_);have m:=Mt.ext ex1 m;dsimp only at m;cases e2:fb r S1 with
  |bad=>rw[e2] at m;exact m
  |exc c S2=>rw[e2] at m;exact m
  |ok y S2=>
   rw[e2] at m;intro u s2 ⟨vy,H2,I2,r2,J2,ex2,rs2,rv2⟩;have m:=Mt.ext ex2 m;dsimp only at m;refine ho pins s2 σ H2 J2 S2 x y vx vy v u _ E I2 rs2 (rv1.ext ex2) rv2 r1 r2 ?_;cases e3:g x y S2 with
   |bad=>rw[e3] at m;exact m
   |exc c S3=>rw[e3] at m;exact m
   |ok z S3=>
    rw[e3] at m;intro w s3 ⟨vz,H3,I3,r3,J3,ex3,rs3,rv3⟩;have m:=Mt.ext ex3 m;dsimp only at m;cases z with
    |bl k=>
     cases rv3.bl_;cases r3;refine wpAny_truthy_bool ?_;cases k with
     |false=>exact ite_ff (m.ok_ I3 rs3 (RepV.bl _ _ _ false) rfl)
     |true=>
      refine ite_tt (chain_last (hc pins s3 σ H3 J3 r S3 _ E ⟨I3,((I.loc.ext ex1).ext ex2).ext ex3,rs3⟩ ?_));simp only[bof,if_true,M.bind] at m;cases e4:fc r S3 with
      |bad=>rw[e4] at m;exact m
      |exc c S4=>rw[e4] at m;exact m
      |ok z S4=>
       rw[e4] at m;intro w s4 ⟨vz,H4,I4,r4,J4,ex4,rs4,rv4⟩;exact ho' pins s4 σ H4 J4 S4 y z vy vz u w _ E I4 rs4 ((rv2.ext ex3).ext ex4) rv4 r2 r4 (Mt.ext ex4 m)
    |_=>exact m.elim
def aj:DSt->M (List D):=fun _=>M.ret []
def ac(f:DSt->M D)(g:DSt->M (List D)):DSt->M (List D):=fun r=>(f r).bind fun x=>(g r).bind fun xs=>M.ret (x :: xs)
variable{e:Expr}{es:List Expr}{fe:DSt->M D}{ft:DSt->M (List D)}
theorem ah:PAd X [] aj:=fun _ pins s σ H J r S Q E I m=>Calls.spliced_nil (m [] s ⟨[],H,I.inv,.nil,J,Ext.refl _ _,I.st,.nil⟩)
theorem ae(ha:PEd X e fe)(hr:PAd X es ft)(hs:starEach (e :: es) X.env=(false,eval e X.env) :: starEach es X.env:=by rfl):PAd X (e :: es) (ac fe ft):=by
 intro pos pins s σ H J r S Q E I m;rw[hs];show wpAny _ _ (spliced ((false,eval e X.env) :: backTo pos (starEach es X.env))) _ _ s;refine Calls.spliced_cons (ha pins s σ H J r S _ E I ?_);unfold ac M.bind at m;cases e1:fe r S with
 |bad=>rw[e1] at m;exact m
 |exc c S1=>rw[e1] at m;exact m
 |ok x S1=>
  rw[e1] at m;intro v s1 ⟨vx,H1,I1,r1,J1,ex1,rs1,rv1⟩;refine hr pos pins s1 σ H1 J1 r S1 _ E ⟨I1,I.loc.ext ex1,rs1⟩ ?_;have m:=MtA.ext ex1 m;dsimp only at m;cases e2:ft r S1 with
  |bad=>rw[e2] at m;exact m
  |exc c S2=>rw[e2] at m;exact m
  |ok xs S2=>
   rw[e2] at m;intro us s2 ⟨vs,H2,I2,r2,J2,ex2,rs2,rv2⟩;exact m (v :: us) s2 ⟨vx :: vs,H2,I2,.cons r1 r2,J2,ex2,rs2,.cons (rv1.ext ex2) rv2⟩
theorem goA(h:PAd X es ft){k:List D->M D}{pins:Pins}{s:Shared}{σ:L2.St}{H:Hp}{J:List Addr}{r:DSt}{S:List Cell}{Q E:Value->Shared->Prop}{Q':List Value->Shared->Prop}(I:At X pins σ H J r S s)
  (m:Mt X pins σ H J ((ft r).bind k S) Q E) (hk:∀xs S1 s1 H1 J1 vs us,At X pins σ H1 J1 r S1 s1->RepVs X.K H1 J1 xs vs->Vals vs us->Mt X pins σ H1 J1 (k xs S1) Q E->Q' us s1) (pos:Pos) :
  wpAny (model X.prog X.w) X.A (spliced (backTo pos (starEach es X.env))) Q' E s:=by
 refine h pos pins s σ H J r S _ E I ?_;unfold M.bind at m;cases e1:ft r S with
 |bad=>rw[e1] at m;exact m
 |exc c S1=>rw[e1] at m;exact m
 |ok x S1=>
  rw[e1] at m;intro us s1 ⟨vs,H1,I1,r1,J1,ex1,rs1,rv1⟩;exact hk x S1 s1 H1 J1 vs us ⟨I1,I.loc.ext ex1,rs1⟩ rv1 r1 (Mt.ext ex1 m)
def lx(xs:List D):M D:=fun S=>cif (xs.length<=sizeLine) (.ok (.tup xs) S) .bad
def nr(xs:List D):M D:=fun S=>cif (xs.length<=sizeLine) (.ok (.ob S.length) (S++[.lst xs])) .bad
theorem Got.tup{K:PySem.W.Frag}{H:Hp}{J:List Addr}{S:List Cell}{xs:List D}{vs:List V}{p:Addr}(rs:RepS K H J S)(rv:RepVs K H J xs vs)(hp:H p=none):Got K H J (.tup xs) S (.ref p) (upd H p (.tup vs)):=
 ⟨J,Ext.new hp,rs.new hp,.tup (SqT.of bE) (rv.ext (Ext.new hp))⟩
theorem Got.lst{K:PySem.W.Frag}{H:Hp}{J:List Addr}{S:List Cell}{xs:List D}{vs:List V}{p:Addr}(rs:RepS K H J S)(rv:RepVs K H J xs vs)(hp:H p=none):Got K H J (.ob S.length) (S++[.lst xs]) (.ref p) (upd H p (.lst vs)):=
 ⟨J++[p],(Ext.new hp).snoc _,rs.push hp ⟨vs,bE,rv.ext ((Ext.new hp).snoc _)⟩,.ob (by rw[<-rs.len];simp)⟩
theorem Mt.val{pins:Pins}{s:Shared}{σ:L2.St}{H H':Hp}{J:List Addr}{S:List Cell}{d:D}{v:V}{u:Value}{Q E:Value->Shared->Prop}(m:Mt X pins σ H J (.ok d S) Q E)(I:Inv X pins σ H' s)(r:RelV v u)(g:Got X.K H J d S v H'):Q u s:=
 m u s ⟨v,H',I,r,g⟩
def cf(ft:DSt->M (List D)):DSt->M D:=fun r=>(ft r).bind lx
def bW(ft:DSt->M (List D)):DSt->M D:=fun r=>(ft r).bind nr
theorem bX{x1}(h:PAd X es ft):PEd X (.Tuple es x1 pos) (cf ft):=by
 intro pins s σ H J r S Q E I m;refine wpAny_Tuple_spliced (goA h I m (fun xs S1 s1 H1 J1 vs us I1 rv r1 m1=>?_) pos);unfold lx cif at m1;split at m1
 ·rename_i z;have z':vs.length<=sizeLine:=by rw[rv.length];exact z
  refine⟨by rw[<-r1.length];exact z',?_⟩;have hf:H1 s1.heap.objs.size=none:=I1.inv.hok.fresh (Nat.le_refl _);refine m1.val (H':=upd H1 s1.heap.objs.size (.tup vs)) (v:=.ref s1.heap.objs.size) (I1.inv.laid (t':=s1.toks) (fun b u e=>Heap.get?_push_of_some _ e) (Nat.le_refl _) ?_) rfl (Got.tup I1.st rv hf);exact⟨z',us,r1,⟨_,Heap.get?_push_size _ rfl,rfl,_,rfl⟩⟩
 ·exact m1.elim
theorem cb(h:PAd X es ft):PEd X (.List es pos) (bW ft):=by
 intro pins s σ H J r S Q E I m;refine wpAny_List_spliced (goA h I m (fun xs S1 s1 H1 J1 vs us I1 rv r1 m1=>?_) pos);unfold nr cif at m1;split at m1
 ·rename_i z;have z':vs.length<=sizeLine:=by rw[rv.length];exact z
  refine⟨by rw[<-r1.length];exact z',?_⟩;have hf:H1 s1.heap.objs.size=none:=I1.inv.hok.fresh (Nat.le_refl _);refine m1.val (H':=upd H1 s1.heap.objs.size (.lst vs)) (v:=.ref s1.heap.objs.size) (I1.inv.laid (t':=s1.toks) (fun b u e=>Heap.get?_push_of_some _ e) (Nat.le_refl _) ?_) rfl (Got.lst I1.st rv hf);exact⟨z',us,0,r1,Heap.get?_push_size _ rfl⟩
 ·exact m1.elim
def IxD(X:Cx)(g:D->D->M D):Prop:=∀(value slice:Expr) (pins:Pins) (s:Shared) (σ:L2.St) (H:Hp) (J:List Addr) (S:List Cell) (x y:D) (vx vy:V) (v u:Value) (Q E:Value->Shared->Prop),
 Inv X pins σ H s->RepS X.K H J S->RepV X.K H J x vx->RepV X.K H J y vy->RelV vx v->RelV vy u->subscripted slice false v u=operate [v,u] (getItem v u)->Mt X pins σ H J (g x y S) Q E->wpAny (model X.prog X.w) X.A (subscriptTail value slice v u) Q E s
theorem IxD.of{r:R2}{g:D->D->M D}(h:∀E,IxR (X.wish E) r)
  (hg:∀(H:Hp) (J:List Addr) (S:List Cell) (x y:D) (vx vy:V) (d:D) (S':List Cell),RepS X.K H J S->RepV X.K H J x vx->RepV X.K H J y vy->g x y S=.ok d S'->r vx vy H (Got X.K H J d S'))
  (hn:∀x y S c S',g x y S≠.exc c S'):IxD X g:=by
 intro value slice pins s σ H J S x y vx vy v u Q E I rs rx ry rv ru hs m;cases e:g x y S with
 |ok d S'=>
  rw[e] at m;exact wpAny_mono (h E value slice pins s σ H vx vy v u _ (I.wish E) rv ru (hg H J S x y vx vy d S' rs rx ry e) hs) (fun u s' q=>m u s' (EP.unwish q)) fun _ _ z=>z
 |exc c S'=>exact absurd e (hn _ _ _ _ _)
 |bad=>rw[e] at m;exact m.elim
theorem aM{g:D->D->M D}(hr:IxD X g)(ha:PEd X a fa)(hb:PEd X b fb)(hs:AS b):PEd X (.Subscript a b pos) (dOp g fa fb):=by
 intro pins s σ H J r S Q E I m;refine Subscript_ (ha pins s σ H J r S _ E I ?_);unfold dOp M.bind at m;cases e:fa r S with
 |bad=>rw[e] at m;exact m
 |exc c S1=>rw[e] at m;exact m
 |ok x S1=>
  rw[e] at m;intro u s' ⟨vx,H1,I1,r1,J1,ex,rs,rv⟩;refine hb pins s' σ H1 J1 r S1 _ E ⟨I1,I.loc.ext ex,rs⟩ ?_;dsimp only at m;have m:=Mt.ext ex m;cases e2:fb r S1 with
  |bad=>rw[e2] at m;exact m
  |exc c S2=>rw[e2] at m;exact m
  |ok y S2=>
   rw[e2] at m;intro u2 s2 ⟨vy,H2,I2,r2,J2,ex2,rs2,rv2⟩;exact hr a b pins s2 σ H2 J2 S2 x y vx vy u u2 Q E I2 rs2 (rv.ext ex2) rv2 r1 r2 (hs _ _) (Mt.ext ex2 m)
def MtO(X:Cx)(pins:Pins)(σ:L2.St)(H:Hp)(J:List Addr)(r:R (Option Int))(Q:Value->Shared->Prop)(E:Value->Shared->Prop):Prop:=match r with
 |.ok o S'=>∀u s' H',Inv X pins σ H' s'->Gone X.K H J S' H'->IsPart u o->Q u s'
 |.exc c S'=>∀e s',XP X pins σ c (Gone X.K H J S') e s'->E e s'
 |.bad=>False
def POd(X:Cx)(e:Option Expr)(f:DSt->M (Option Int)):Prop:=∀(pins:Pins) (s:Shared) (σ:L2.St) (H:Hp) (J:List Addr) (r:DSt) (S:List Cell) (Q E:Value->Shared->Prop),
 At X pins σ H J r S s->MtO X pins σ H J (f r S) Q E->wpAny (model X.prog X.w) X.A (evalPart e X.env) Q E s
def bN:DSt->M (Option Int):=fun _=>M.ret none
def yr:D->M (Option Int)
 |.int i=>M.ret (some i)
 |_=>M.bad
def bQ(f:DSt->M D):DSt->M (Option Int):=fun r=>(f r).bind yr
theorem fz:POd X none bN:=by
 intro pins s σ H J r S Q E I m;rw[evalPart_none];exact wpAny_pure (m .none s H I.inv ⟨J,Ext.refl _ _,I.st⟩ .none)
theorem di(h:PEd X e fe):POd X (some e) (bQ fe):=by
 intro pins s σ H J r S Q E I m;rw[evalPart_some];refine h pins s σ H J r S _ E I ?_;unfold bQ M.bind at m;cases e1:fe r S with
 |bad=>rw[e1] at m;exact m
 |exc c S1=>rw[e1] at m;exact m
 |ok x S1=>
  rw[e1] at m;intro u s' ⟨vx,H1,I1,r1,J1,ex,rs,rv⟩;cases x with
  |int i=>
   cases rv.int_;obtain⟨t,rfl⟩:=r1;exact m _ s' H1 I1 ⟨J1,ex,rs⟩ (.int i t)
  |_=>exact m.elim
def SlD(X:Cx)(g:D->Option Int->Option Int->M D):Prop:=∀(pins:Pins) (s:Shared) (σ:L2.St) (H:Hp) (J:List Addr) (S:List Cell) (x:D) (vx:V) (v vl vu:Value) (lo hi:Option Int) (sl:Addr) (Q E:Value->Shared->Prop),
 Inv X pins σ H s->RepS X.K H J S->RepV X.K H J x vx->RelV vx v->s.heap.IsSliceOf sl vl vu .none->IsPart vl lo->IsPart vu hi->Mt X pins σ H J (g x lo hi S) Q E->
  ∃T id,typeLookup (.type T) "__getitem__"=pure (some (.builtin id))/\s.TypeIs v T/\wpAny (model X.prog X.w) X.A (getItem v (.ref sl)) Q E s
def dSl(g:D->Option Int->Option Int->M D)(fe:DSt->M D)(fl fh:DSt->M (Option Int)):DSt->M D:=fun r=>(fe r).bind fun x=>(fl r).bind fun l=>(fh r).bind fun h=>g x l h
theorem dR{g:D->Option Int->Option Int->M D}{lo hi:Option Expr}{fl fh:DSt->M (Option Int)}{p2:Pos}(hr:SlD X g)(he:PEd X e fe)(hl:POd X lo fl)(hu:POd X hi fh):PEd X (.Subscript e (.Slice lo hi none p2) pos) (dSl g fe fl fh):=by
 intro pins s σ H J r S Q E I m;refine Subscript_ (he pins s σ H J r S _ E I ?_);unfold dSl M.bind at m;cases e1:fe r S with
 |bad=>rw[e1] at m;exact m
 |exc c S1=>rw[e1] at m;exact m
 |ok x S1=>
  rw[e1] at m;intro v s1 ⟨vx,H1,I1,r1,J1,ex1,rs1,rv1⟩;refine wpAny_Slice (hl pins s1 σ H1 J1 r S1 _ E ⟨I1,I.loc.ext ex1,rs1⟩ ?_);have m:=Mt.ext ex1 m;dsimp only at m;cases e2:fl r S1 with
  |bad=>rw[e2] at m;exact m
  |exc c S2=>rw[e2] at m;exact m
  |ok l S2=>
   rw[e2] at m;intro vl s2 H2 I2 ⟨J2,ex2,rs2⟩ pl;have m:=Mt.ext ex2 m;dsimp only at m;refine hu pins s2 σ H2 J2 r S2 _ E ⟨I2,(I.loc.ext ex1).ext ex2,rs2⟩ ?_;cases e3:fh r S2 with
   |bad=>rw[e3] at m;exact m
   |exc c S3=>rw[e3] at m;exact m
   |ok u S3=>
    rw[e3] at m;intro vu s3 H3 I3 ⟨J3,ex3,rs3⟩ pu;have m:=Mt.ext ex3 m;rw[evalPart_none];refine wpAny_pure ?_;have I4:Inv X pins σ H3 { s3 with heap:=s3.heap.push { cls:=.type "slice",data:=.fields #[vl,vu,.none] } }:=I3.kept (t':=s3.toks) fun b ob q=>Heap.get?_push_of_some _ q
    obtain⟨T,id,hT,ht,hg⟩:=hr pins { s3 with heap:=s3.heap.push { cls:=.type "slice",data:=.fields #[vl,vu,.none] } } σ H3 J3 S3 x vx v vl vu l u s3.heap.objs.size Q E I4 rs3 ((rv1.ext ex2).ext ex3) r1 (Heap.IsSliceOf.new ..) pl pu m;show wpAny (model X.prog X.w) X.A (subscriptTail e (.Slice lo hi none p2) v (.ref s3.heap.objs.size)) Q E { s3 with heap:=s3.heap.push { cls:=.type "slice",data:=.fields #[vl,vu,.none] } };exact tail_any (ops:=[.ref s3.heap.objs.size,v]) ht hT hg (by with_unfolding_all rfl)
def am(g:List D->M D)(ft:DSt->M (List D)):DSt->M D:=fun r=>(ft r).bind g
theorem bG{x:Str}{p:Pos}{id:String}{g:List D->M D}(hc:CallD X (.builtin id) g)(hg:Gl X x)(hm:X.mg x=none)(hv:bootBuiltins x=some (.builtin id))(ha:PAd X (e :: es) ft)(hn:x≠"__name__":=by decide)(hdb:(x == ("__debug__":Str))=false:=by decide)
  (he:starEach (e :: es) X.env=(false,eval e X.env) :: starEach es X.env:=by rfl) (hpl:(backTo pos (starEach es X.env)).any (·.1)=false:=by rfl):PEd X (.Call (.Name x p) (e :: es) [] pos) (am g ft):=by
 intro pins s σ H J r S Q E I m;refine wpAny_Call_Name_kw (kC I.inv hg hm hv ?_ hn hdb);exact PyProof.Rows.callWith_builtin1 (goA ha I m (fun xs S1 s1 H1 J1 vs us I1 rv r1 m1=>hc pins s1 σ H1 J1 S1 xs vs us Q E I1.inv I1.st rv r1 m1) pos) he hpl
theorem eP{x:Str}{p:Pos}{T:String}{g:List D->M D}(hc:CallD X (.type T) g)(hg:Gl X x)(hm:X.mg x=none)(hv:bootBuiltins x=some (.type T))(ha:PAd X (e :: es) ft)(hn:x≠"__name__":=by decide)(hdb:(x == ("__debug__":Str))=false:=by decide)
  (he:starEach (e :: es) X.env=(false,eval e X.env) :: starEach es X.env:=by rfl) (hpl:(backTo pos (starEach es X.env)).any (·.1)=false:=by rfl):PEd X (.Call (.Name x p) (e :: es) [] pos) (am g ft):=by
 intro pins s σ H J r S Q E I m;refine wpAny_Call_Name_kw (kC I.inv hg hm hv ?_ hn hdb);exact PyProof.Rows.callWith_type1 (goA ha I m (fun xs S1 s1 H1 J1 vs us I1 rv r1 m1=>hc pins s1 σ H1 J1 S1 xs vs us Q E I1.inv I1.st rv r1 m1) pos) he hpl
def spD(K:PySem.W.Frag)(n:Nat)(F:List D->M D):Sp:=fun vs H Q E=>vs.length=n/\∃J xs S,RepVs K H J xs vs/\RepS K H J S/\match F xs S with
 |.ok d S'=>∀v H',Got K H J d S' v H'->Q v H'
 |.exc c S'=>∀H',Gone K H J S' H'->E (.ref c) none H'
 |.bad=>False
def nX(CX:CXT)(X:Cx):Prop:=∀(E0:XK) (pins:Pins) (σ:L2.St) (H:Hp) (s:Shared) (e:Value) (s':Shared),Inv X pins σ H s->CX X.stack H s E0 e s'->∃c H',XInv X pins σ H' s' e c/\E0 (.ref c) none H'
abbrev FnD(P:Program)(w:World)(K:PySem.W.Frag)(mg:Str->Option Value)(base:Heap)(CX:CXT)(k:Nat)(f:Addr)(fd:FuncData)(ps:List Str)(F:List D->M D):Prop:=FnOk P w K mg base CX k f fd ps (spD K ps.length F)
theorem tI{CX:CXT}{k:Nat}{f:Addr}{fd:FuncData}{ps:List Str}{F:List D->M D}{pins:Pins}{σ:L2.St}{H:Hp}{J:List Addr}{S:List Cell}{s:Shared}{Q E:Value->Shared->Prop}{xs:List D}{vs:List V}{us:List Value}
  (hF:FnD X.prog X.w X.K X.mg X.base CX k f fd ps F) (hr:Room k X.A) (hb:Binds X.K fd ps []) (hx:nX CX X) (I:Inv X pins σ H s) (rs:RepS X.K H J S) (rx:RepVs X.K H J xs vs) (rv:Vals vs us) (hl:xs.length=ps.length)
  (m:Mt X pins σ H J (F xs S) Q E):wpAny (model X.prog X.w) X.A (call (.ref f) us) Q E s:=by
 have hlen:(us++[]).length=ps.length:=by rw[List.append_nil,<-rv.length,rx.length];exact hl
 have hbs:=hb s us I.kIn hlen;rw[List.append_nil] at hbs;refine wpAny_call (codeAny_mono (hF.run X.A X.stack s H ⟨us,[]⟩ us vs (fun v H'=>∃d S',F xs S=.ok d S'/\Got X.K H J d S' v H') (fun cl _ H'=>∃c S',F xs S=.exc c S'/\cl=.ref c/\Gone X.K H J S' H') hr I.env0 hbs rv ?_) fun rr s' hq=>?_)
 ·refine⟨by rw[rx.length];exact hl,J,xs,S,rx,rs,?_⟩;cases e:F xs S with
  |ok d S'=>exact fun v H' g=>⟨d,S',rfl,g⟩
  |exc c S'=>exact fun H' g=>⟨c,S',rfl,rfl,g⟩
  |bad=>rw[e] at m;exact m
 ·cases rr with
  |error e=>
   obtain⟨c,H',XI,c',S',e1,e2,g⟩:=hx _ pins σ H s e s' I hq;cases e2;rw[e1] at m;exact m e s' ⟨H',XI,g⟩
  |ok fl=>
   cases fl with
   |ret u=>
    obtain⟨v,H',I',r',d,S',e1,g⟩:=I.after hq;rw[e1] at m;exact m u s' ⟨v,H',I',r',g⟩
   |next=>exact False.elim hq
   |brk=>exact False.elim hq
   |cont=>exact False.elim hq
theorem Am{CX:CXT}{k:Nat}{f:Addr}{fd:FuncData}{ps:List Str}{F:List D->M D}{x:Str}{p:Pos}(hF:FnD X.prog X.w X.K X.mg X.base CX k f fd ps F)(hr:Room k X.A)(hg:Gl X x)(hm:X.mg x=some (.ref f))(hk:PySem.W.keepIn X.K (.ref f)=true)
  (hb:Binds X.K fd ps []) (hx:nX CX X) (ha:PAd X (e :: es) ft) (hl:∀r S xs S',ft r S=.ok xs S'->xs.length=ps.length)
  (hdb:(x == ("__debug__":Str))=false:=by decide) (he:starEach (e :: es) X.env=(false,eval e X.env) :: starEach es X.env:=by rfl) (hpl:(backTo pos (starEach es X.env)).any (·.1)=false:=by rfl) :
  PEd X (.Call (.Name x p) (e :: es) [] pos) (am F ft):=by
 intro pins s σ H J r S Q E I m;refine wpAny_Call_Name_kw (kK I.inv hg hm ?_ hdb);refine PySem.W.callWith_K (h₀:=X.base) I.inv.ok.mod.kin hk ?_ he hpl;refine ha pos pins s σ H J r S _ E I ?_;unfold am M.bind at m;cases e1:ft r S with
 |bad=>rw[e1] at m;exact m
 |exc c S1=>rw[e1] at m;exact m
 |ok xs S1=>
  rw[e1] at m;intro us s1 ⟨vs,H1,I1,r1,J1,ex1,rs1,rv1⟩;exact⟨I1.kIn,tI hF hr hb hx I1 rs1 rv1 r1 (hl r S xs S1 e1) (Mt.ext ex1 m)⟩
end
end DL
namespace DL
open PySem PySem.Spec PyProof.Rows L2
inductive Fl where
 |nx (r:DSt)|rt (d:D)|bk (r:DSt)|ct (r:DSt)|xc (c:Addr) (r:DSt)
abbrev RSt:=Option (Fl×List Cell)
abbrev TSt:=DSt->List Cell->RSt
def MtS(X:Cx)(pins:Pins)(H:Hp)(J:List Addr)(x:RSt)(Q:Flow->Shared->Prop)(E:Value->Shared->Prop):Prop:=match x with
 |none=>False
 |some (.nx r',S')=>∀s' σ' H' J',At X pins σ' H' J' r' S' s'->Ext H J H' J'->Q .next s'
 |some (.bk r',S')=>∀s' σ' H' J',At X pins σ' H' J' r' S' s'->Ext H J H' J'->Q .brk s'
 |some (.ct r',S')=>∀s' σ' H' J',At X pins σ' H' J' r' S' s'->Ext H J H' J'->Q .cont s'
 |some (.rt d,S')=>∀u s' σ',EP X pins σ' (Got X.K H J d S') u s'->Q (.ret u) s'
 |some (.xc c r',S')=>∀e s' σ' H' J',XInv X pins σ' H' s' e c->RepL X.K H' J' r' σ'->RepS X.K H' J' S'->Ext H J H' J'->E e s'
theorem MtS.ext{X:Cx}{pins:Pins}{H H1:Hp}{J J1:List Addr}{x:RSt}{Q:Flow->Shared->Prop}{E:Value->Shared->Prop}(e:Ext H J H1 J1)(h:MtS X pins H J x Q E):MtS X pins H1 J1 x Q E:=by
 match x,h with
 |none,h=>exact h
 |some (.nx r',S'),h=>exact fun s' σ' H' J' a x=>h s' σ' H' J' a (e.trans x)
 |some (.bk r',S'),h=>exact fun s' σ' H' J' a x=>h s' σ' H' J' a (e.trans x)
 |some (.ct r',S'),h=>exact fun s' σ' H' J' a x=>h s' σ' H' J' a (e.trans x)
 |some (.rt d,S'),h=>exact fun u s' σ' ⟨v,H',I,rv,g⟩=>h u s' σ' ⟨v,H',I,rv,g.ext e⟩
 |some (.xc c r',S'),h=>exact fun u s' σ' H' J' a b c x=>h u s' σ' H' J' a b c (e.trans x)
def PSd(X:Cx)(st:Stmt)(t:TSt):Prop:=∀(pins:Pins) (s:Shared) (σ:L2.St) (H:Hp) (J:List Addr) (r:DSt) (S:List Cell) (Q:Flow->Shared->Prop) (E:Value->Shared->Prop),
 At X pins σ H J r S s->MtS X pins H J (t r S) Q E->wpAny (model X.prog X.w) X.A (exec st X.env) Q E s
def mL(X:Cx)(st:List Stmt)(t:TSt):Prop:=∀(pins:Pins) (s:Shared) (σ:L2.St) (H:Hp) (J:List Addr) (r:DSt) (S:List Cell) (Q:Flow->Shared->Prop) (E:Value->Shared->Prop),
 At X pins σ H J r S s->MtS X pins H J (t r S) Q E->wpAny (model X.prog X.w) X.A (execs st X.env) Q E s
def cx{α:Type}(m:M α)(r:DSt)(k:α->List Cell->RSt):List Cell->RSt:=fun S=>match m S with
 |.ok a S'=>k a S'
 |.exc c S'=>some (.xc c r,S')
 |.bad=>none
def bF:TSt:=fun r S=>some (.nx r,S)
def aJ(t u:TSt):TSt:=fun r S=>match t r S with
 |some (.nx r',S')=>u r' S'
 |o=>o
section
variable{X:Cx}{st:Stmt}{rest:List Stmt}{t u:TSt}{e:Expr}{fe:DSt->M D}{pos:Pos}
theorem bg:mL X [] bF:=fun pins s σ H J r S Q E I m=>wpAny_execs_nil (m s σ H J I (Ext.refl _ _))
theorem aq(h1:PSd X st t)(h2:mL X rest u):mL X (st :: rest) (aJ t u):=by
 intro pins s σ H J r S Q E I m;refine wpAny_execs_cons (h1 pins s σ H J r S _ E I ?_);unfold aJ at m
 match e:t r S with
 |none=>rw[e] at m;exact m
 |some (.nx r',S')=>
  rw[e] at m;exact fun s' σ' H' J' a x=>h2 pins s' σ' H' J' r' S' Q E a (MtS.ext x m)
 |some (.bk r',S')=>rw[e] at m;exact m
 |some (.ct r',S')=>rw[e] at m;exact m
 |some (.rt d,S')=>rw[e] at m;exact m
 |some (.xc c r',S')=>rw[e] at m;exact m
theorem al(h1:PSd X st t):mL X [st] t:=by
 intro pins s σ H J r S Q E I m;refine wpAny_execs_cons (h1 pins s σ H J r S _ E I ?_)
 match e:t r S with
 |none=>rw[e] at m;exact m
 |some (.nx r',S')=>rw[e] at m;exact fun s' σ' H' J' a x=>wpAny_execs_nil (m s' σ' H' J' a x)
 |some (.bk r',S')=>rw[e] at m;exact m
 |some (.ct r',S')=>rw[e] at m;exact m
 |some (.rt d,S')=>rw[e] at m;exact m
 |some (.xc c r',S')=>rw[e] at m;exact m
theorem goS(he:PEd X e fe){k:D->List Cell->RSt}{pins:Pins}{s:Shared}{σ:L2.St}{H:Hp}{J:List Addr}{r:DSt}{S:List Cell}{Q:Flow->Shared->Prop}{E:Value->Shared->Prop}{Q':Value->Shared->Prop}(I:At X pins σ H J r S s)
  (m:MtS X pins H J (cx (fe r) r k S) Q E) (hk:∀x S1 v s1 vx H1 J1,At X pins σ H1 J1 r S1 s1->RepV X.K H1 J1 x vx->RelV vx v->MtS X pins H1 J1 (k x S1) Q E->Q' v s1) :
  wpAny (model X.prog X.w) X.A (eval e X.env) Q' E s:=by
 refine he pins s σ H J r S _ E I ?_;unfold cx at m;cases e1:fe r S with
 |bad=>rw[e1] at m;exact m
 |exc c S1=>
  rw[e1] at m;exact fun x s' ⟨H',XI,J',ex,rs⟩=>m x s' σ H' J' XI (I.loc.ext ex) rs ex
 |ok x S1=>
  rw[e1] at m;exact fun v s1 ⟨vx,H1,I1,r1,J1,ex,rs,rv⟩=>hk x S1 v s1 vx H1 J1 ⟨I1,I.loc.ext ex,rs⟩ rv r1 (MtS.ext ex m)
theorem Ds{te:DSt->M Bool}(he:PTd X e te){k:Bool->List Cell->RSt}{pins:Pins}{s:Shared}{σ:L2.St}{H:Hp}{J:List Addr}{r:DSt}{S:List Cell}{Q:Flow->Shared->Prop}{E:Value->Shared->Prop}{Q':Bool->Shared->Prop}(I:At X pins σ H J r S s)
  (m:MtS X pins H J (cx (te r) r k S) Q E) (hk:∀b S1 s1 H1 J1,At X pins σ H1 J1 r S1 s1->MtS X pins H1 J1 (k b S1) Q E->Q' b s1) :
  wpAny (model X.prog X.w) X.A (isTrue e X.env (eval e X.env)) Q' E s:=by
 refine he pins s σ H J r S _ E I ?_;unfold cx at m;cases e1:te r S with
 |bad=>rw[e1] at m;exact m
 |exc c S1=>
  rw[e1] at m;exact fun x s' ⟨H',XI,J',ex,rs⟩=>m x s' σ H' J' XI (I.loc.ext ex) rs ex
 |ok x S1=>
  rw[e1] at m;exact fun s1 ⟨H1,I1,J1,ex,rs⟩=>hk x S1 s1 H1 J1 ⟨I1,I.loc.ext ex,rs⟩ (MtS.ext ex m)
def bz(fe:DSt->M D):TSt:=fun r=>cx (fe r) r fun _ S=>some (.nx r,S)
theorem aU(he:PEd X e fe)(hs:swapsWith e none pos.line X.env=pure false:=by rfl):PSd X (.Expr e pos) (bz fe):=by
 intro pins s σ H J r S Q E I m;exact wpAny_Expr_any (goS he I m fun x S1 v s1 vx H1 J1 I1 rv r1 m1=>m1 s1 σ H1 J1 I1 (Ext.refl _ _)) I.inv.quiet hs
def bM(fe:DSt->M D):TSt:=fun r=>cx (fe r) r fun d S=>some (.rt d,S)
theorem bc(he:PEd X e fe):PSd X (.Return (some e) pos) (bM fe):=by
 intro pins s σ H J r S Q E I m;exact wpAny_Return_some (goS he I m fun x S1 v s1 vx H1 J1 I1 rv r1 m1=>m1 v s1 σ ⟨vx,H1,I1.inv,r1,J1,Ext.refl _ _,I1.st,rv⟩)
def sIf(c:DSt->M Bool)(t u:TSt):TSt:=fun r=>cx (c r) r fun b S=>if b=true then t r S else u r S
theorem bA{c:Expr}{a b:List Stmt}{tc:DSt->M Bool}(hc:PTd X c tc)(ha:mL X a t)(hb:mL X b u):PSd X (.If c a b pos) (sIf tc t u):=by
 intro pins s σ H J r S Q E I m;refine wpAny_If (Ds hc I m fun d S1 s1 H1 J1 I1 m1=>?_);cases d with
 |true=>exact ha pins s1 σ H1 J1 r S1 Q E I1 m1
 |false=>exact hb pins s1 σ H1 J1 r S1 Q E I1 m1
abbrev TGd:=D->DSt->Option DSt
def PGd(X:Cx)(tg:Expr)(t:TGd):Prop:=∀(pins:Pins) (s:Shared) (σ:L2.St) (H:Hp) (J:List Addr) (r:DSt) (S:List Cell) (d:D) (v:V) (u:Value) (Q:Unit->Shared->Prop) (E:Value->Shared->Prop) (r':DSt),
 At X pins σ H J r S s->RepV X.K H J d v->RelV v u->t d r=some r'->(∀s' σ' H' J',At X pins σ' H' J' r' S s'->Ext H J H' J'->Q () s')->wpAny (model X.prog X.w) X.A (assign tg X.env u) Q E s
def gN(i:Nat):TGd:=fun d r=>some (r.set i (some d))
theorem cO{i:Nat}{x:Str}(hN:X.N.Nodup)(hi:X.N[i]?=some x:=by rfl)(hx:Loc X.env.scope x:=by first|exact Or.inl rfl|exact Or.inr rfl)(hf:X.fn x=true\/X.env.scope.names.lookup x=some .local:=by first|exact .inl rfl|exact .inr rfl|assumption):PGd X (.Name x pos) (gN i):=by
 intro pins s σ H J r S d v u Q E r' I rv ru e k;cases e;refine wpAny_mono (AB (X:=X.wish E) hN hi hx hf pins s σ H v u (fun σ' H'=>σ'=σ.set i (some v)/\H'=H) (I.inv.wish E) ru ⟨rfl,rfl⟩) (fun _ s' q=>?_) fun _ _ z=>z
 obtain⟨σ',H',I',rfl,rfl⟩:=q;exact k s' _ _ J ⟨I'.unwish,I.loc.set rv,I.st⟩ (Ext.refl _ _)
def gNs:List Nat->List D->DSt->Option DSt
 |[],[],r=>some r
 |i :: is,d :: ds,r=>gNs is ds (r.set i (some d))
 |_,_,_=>none
def gT(is:List Nat):TGd:=fun d r=>match d with
 |.tup ds=>gNs is ds r
 |_=>none
def zR(X:Cx)(ts:List Expr)(is:List Nat):Prop:=∀(pins:Pins) (s:Shared) (σ:L2.St) (H:Hp) (J:List Addr) (r:DSt) (S:List Cell) (ds:List D) (vs:List V) (us:List Value) (Q:Unit->Shared->Prop) (E:Value->Shared->Prop) (r':DSt),
 At X pins σ H J r S s->RepVs X.K H J ds vs->Vals vs us->gNs is ds r=some r'->(∀s' σ' H' J',At X pins σ' H' J' r' S s'->Ext H J H' J'->Q () s')->wpAny (model X.prog X.w) X.A (assignInOrder ((assignEach ts X.env).map (·.2)) us) Q E s
theorem sB:zR X [] []:=by
 intro pins s σ H J r S ds vs us Q E r' I rv ru e k;cases ds with
 |nil=>
  cases e;unfold RepVs at rv;subst rv;cases ru;rw[show(assignEach [] X.env).map (·.2)=[] from rfl];exact assignInOrder_nil (k s σ H J I (Ext.refl _ _))
 |cons d ds=>cases e
theorem jz{ex:Expr}{es:List Expr}{i:Nat}{is:List Nat}(h1:PGd X ex (gN i))(h2:zR X es is)
  (hs:(assignEach (ex :: es) X.env).map (·.2)=assign ex X.env :: (assignEach es X.env).map (·.2):=by rfl):zR X (ex :: es) (i :: is):=by
 intro pins s σ H J r S ds vs us Q E r' I rv ru e k;cases ds with
 |nil=>cases e
 |cons d ds=>
  unfold RepVs at rv;obtain⟨v,vr,rfl,rv1,rv2⟩:=rv;cases ru with
  |cons q1 q2=>
   rw[hs];refine assignInOrder_cons (h1 pins s σ H J r S d v _ _ E _ I rv1 q1 rfl fun s1 σ1 H1 J1 I1 x1=>?_);exact h2 pins s1 σ1 H1 J1 _ S ds vr _ Q E r' I1 (rv2.ext x1) q2 e fun s' σ' H' J' a x=>k s' σ' H' J' a (x1.trans x)
theorem wd:∀{is:List Nat}{ds:List D}{r r':DSt},gNs is ds r=some r'->ds.length=is.length
 |[],[],_,_,_=>rfl
 |i :: is,d :: ds,r,r',h=>by
  rw[List.length_cons,List.length_cons,wd (show gNs is ds (r.set i (some d))=some r' from h)]
 |[],d :: ds,r,r',h=>by cases h
 |i :: is,[],r,r',h=>by cases h
end
end DL
namespace DL
open PySem PySem.Spec PyProof.Rows L2
section
variable{X:Cx}{st:Stmt}{rest:List Stmt}{t u:TSt}{e:Expr}{fe:DSt->M D}{pos:Pos}
theorem vC{es:List Expr}{k:Nat}{is:List Nat}(hc:X.calm=true)(h:zR X es is)(hn:(assignEach es X.env).length=is.length:=by rfl)(hst:(assignEach es X.env).findIdx? (·.1)=none:=by rfl):PGd X (.Tuple es k pos) (gT is):=by
 intro pins s σ H J r S d v u Q E r' I rv ru e k;cases d with
 |tup ds=>
  obtain⟨a,vs,rfl,hq,rvs⟩:=rv.tup_;cases ru;obtain⟨its,rel,ht,hz⟩:=I.inv.tuple hq;have e':gNs is ds r=some r':=e;have hl:=wd e';refine assign_Tuple_tuple (I.inv.ok.hd hc) ht (by simp[hn,<-hl,<-rvs.length,rel.length]) hst fun h' hx=>?_
  have I1:Inv X pins σ H { s with heap:=h' }:=I.inv.kept (t':=s.toks) fun b o e=>hx b o (Nat.ne_of_lt (Heap.lt_size e)) e
  exact h pins _ σ H J r S ds vs _ Q E r' ⟨I1,I.loc,I.st⟩ rvs (by simpa using rel) e' k
 |_=>cases e
def cB(fe:DSt->M D)(g:TGd):TSt:=fun r=>cx (fe r) r fun d S=>match g d r with
 |some r'=>some (.nx r',S)
 |none=>none
theorem bI{i:Nat}{x:Str}{pos':Pos}(hN:X.N.Nodup)(he:PEd X e fe)(hi:X.N[i]?=some x:=by rfl)(hx:Loc X.env.scope x:=by first|exact Or.inl rfl|exact Or.inr rfl)(hs:swapsWith e (some (.Name x pos')) pos.line X.env=pure false:=by rfl)
  (hf:X.fn x=true\/X.env.scope.names.lookup x=some .local:=by first|exact .inl rfl|exact .inr rfl|assumption):PSd X (.Assign [.Name x pos'] e pos) (cB fe (gN i)):=by
 intro pins s σ H J r S Q E I m;refine wpAny_Assign_Name (goS he I m fun d S1 v s1 vx H1 J1 I1 rv r1 m1=>?_) hs;exact ue I1.inv hN hi hx r1 (fun s2 I2=>m1 s2 _ H1 J1 ⟨I2,I1.loc.set rv,I1.st⟩ (Ext.refl _ _)) hf
theorem Bn{tg:Expr}{g:TGd}(he:PEd X e fe)(hg:PGd X tg g)(hs:swapsWithSole [tg] e pos.line X.env=pure false:=by rfl)(hw:swappedStores [tg] e X.env=pure none:=by rfl)
  (h1:(assignEach [tg] X.env).map (·.2)=[assign tg X.env]:=by rfl):PSd X (.Assign [tg] e pos) (cB fe g):=by
 intro pins s σ H J r S Q E I m;refine wpAny_Assign_stores (goS he I m fun d S1 v s1 vx H1 J1 I1 rv r1 m1=>?_) hs hw;rw[h1];cases eg:g d r with
 |none=>rw[eg] at m1;exact m1.elim
 |some r'=>
  rw[eg] at m1;exact hg pins s1 σ H1 J1 r S1 d vx v _ E r' I1 rv r1 eg fun s' σ' H' J' a x=>m1 s' σ' H' J' a x
def fM(c:DSt->M Bool)(b:TSt):Nat->TSt
 |0=>fun _ _=>none
 |n+1=>fun r S=>match c r S with
  |.ok true S1=>(match b r S1 with
   |some (.nx r',S')=>fM c b n r' S'
   |some (.ct r',S')=>fM c b n r' S'
   |some (.bk r',S')=>some (.nx r',S')
   |some (.rt d,S')=>some (.rt d,S')
   |_=>none)
  |.ok false S1=>some (.nx r,S1)
  |_=>none
theorem tX{c:Expr}{body:List Stmt}{tc:DSt->M Bool}{tb:TSt}(n:Nat)(hc:PTd X c tc)(hb:mL X body tb):PSd X (.While c body [] pos) (fM tc tb n):=by
 intro pins s σ H J r S Q E I m;refine wpAny_While (codeAny_whileLoop (fun k s'=>∃σ' H' J' r' S',At X pins σ' H' J' r' S' s'/\Ext H J H' J'/\MtS X pins H J (fM tc tb k r' S') Q E) ?_ n ⟨σ,H,J,r,S,I,Ext.refl _ _,m⟩);rintro k s1 ⟨σ1,H1,J1,r1,S1,I1,x1,m1⟩;cases k with
 |zero=>exact m1.elim
 |succ k=>
  refine hc pins s1 σ1 H1 J1 r1 S1 _ _ I1 ?_;unfold fM at m1;cases ec:tc r1 S1 with
  |bad=>rw[ec] at m1;exact m1.elim
  |exc c S2=>rw[ec] at m1;exact m1.elim
  |ok k2 S2=>
   rw[ec] at m1;rintro s2 ⟨H2,I2,J2,x2,rs2⟩;cases k2 with
   |false=>
    rw[if_neg Bool.false_ne_true];exact wpAny_execs_nil (m1 s2 σ1 H2 J2 ⟨I2,I1.loc.ext x2,rs2⟩ (x1.trans x2))
   |true=>
    rw[if_pos rfl];refine hb pins s2 σ1 H2 J2 r1 S2 _ _ ⟨I2,I1.loc.ext x2,rs2⟩ ?_;dsimp only at m1
    match eb:tb r1 S2 with
    |none=>rw[eb] at m1;exact m1.elim
    |some (.nx r',S')=>
     rw[eb] at m1;exact fun s' σ' H' J' a x=>⟨k,Nat.lt_succ_self _,σ',H',J',r',S',a,(x1.trans x2).trans x,m1⟩
    |some (.ct r',S')=>
     rw[eb] at m1;exact fun s' σ' H' J' a x=>⟨k,Nat.lt_succ_self _,σ',H',J',r',S',a,(x1.trans x2).trans x,m1⟩
    |some (.bk r',S')=>
     rw[eb] at m1;exact fun s' σ' H' J' a x=>m1 s' σ' H' J' a ((x1.trans x2).trans x)
    |some (.rt d,S')=>
     rw[eb] at m1;exact fun u s' σ' ⟨v,H',I',rv,g⟩=>m1 u s' σ' ⟨v,H',I',rv,g.ext (x1.trans x2)⟩
    |some (.xc c r',S')=>rw[eb] at m1;exact m1.elim
structure Wk where
 items:List D
 guard:Option (Nat×List D):=none
def gok:Option (Nat×List D)->List Cell->Prop
 |none,_=>True
 |some (n,xs),S=>S[n]?=some (.lst xs)
def ItOk(K:PySem.W.Frag)(it:It)(w:Wk)(H0:Hp)(J0:List Addr):Prop:=∀(H:Hp) (J:List Addr) (S:List Cell),Ext H0 J0 H J->RepS K H J S->gok w.guard S->
 (∀i,i<w.items.length->it.go i H)/\it.stop w.items.length H/\
 ∀i x H',it.yld i H x H'->∀d,w.items[i]?=some d->∃J',Ext H J H' J'/\RepS K H' J' S/\RepV K H' J' d x
def MtW(X:Cx)(pins:Pins)(σ:L2.St)(H:Hp)(J:List Addr)(tg:Expr)(x:R Wk)(Q:Value->Shared->Prop)(E:Value->Shared->Prop):Prop:=match x with
 |.ok w S'=>∀itv s2,PIE X pins σ tg (fun it H1=>∃J1,Ext H J H1 J1/\RepS X.K H1 J1 S'/\gok w.guard S'/\ItOk X.K it w H1 J1) itv s2->Q itv s2
 |.exc c S'=>∀e s',XP X pins σ c (Gone X.K H J S') e s'->E e s'
 |.bad=>False
def PId(X:Cx)(tg iter:Expr)(f:DSt->M Wk):Prop:=∀(pins:Pins) (s:Shared) (σ:L2.St) (H:Hp) (J:List Addr) (r:DSt) (S:List Cell) (Q E:Value->Shared->Prop),
 At X pins σ H J r S s->MtW X pins σ H J tg (f r S) Q E->wpAny (model X.prog X.w) X.A (eval iter X.env) (fun v s1=>wpAny (model X.prog X.w) X.A (pyIter v) Q E s1) E s
open Classical in
def ix(g:Option (Nat×List D))(tg:TGd)(b:TSt):List D->TSt
 |[],r,S=>some (.nx r,S)
 |x :: xs,r,S=>match tg x r with
  |none=>none
  |some r1=>match b r1 S with
   |some (.nx r',S')=>if gok g S' then ix g tg b xs r' S' else none
   |some (.ct r',S')=>if gok g S' then ix g tg b xs r' S' else none
   |some (.bk r',S')=>some (.nx r',S')
   |some (.rt d,S')=>some (.rt d,S')
   |_=>none
def qC(f:DSt->M Wk)(tg:TGd)(b:TSt):TSt:=fun r=>cx (f r) r fun w S=>ix w.guard tg b w.items r S
theorem mW{tg iter:Expr}{body:List Stmt}{f:DSt->M Wk}{g:TGd}{tb:TSt}(hc:X.calm=true)(hi:PId X tg iter f)(hg:PGd X tg g)(hb:mL X body tb)
  (hs:∀x,foldedSetIterable iter X.env x=pure x:=by intro _;rfl):PSd X (.For tg iter body [] pos) (qC f g tb):=by
 intro pins s σ H J r S Q E I m;refine wpAny_For (hi pins s σ H J r S _ E I ?_) hs;unfold qC cx at m;cases ef:f r S with
 |bad=>rw[ef] at m;exact m
 |exc c S1=>
  rw[ef] at m;exact fun x s' ⟨H',XI,J',ex,rs⟩=>m x s' σ H' J' XI (I.loc.ext ex) rs ex
 |ok w S1=>
  rw[ef] at m;dsimp only at m;rintro itv s2 ⟨it,fp,tn,it0,H2,rfl,I2,T,st2,f2,J2,x2,rs2,gk,ok⟩;have stat:∀{H':Hp},(∀b∈fp,H' b=none)->∀b∈fp,FpOk X pins H' b:=fun hn b hb=>⟨hn b hb,(f2 b hb).2⟩
  refine codeAny_forLoop_any (fun n s'=>∃i σ' H' J' r' S',At X pins σ' H' J' r' S' s'/\Ext H2 J2 H' J'/\tn i s'.heap/\(∀b∈fp,H' b=none)/\gok w.guard S'/\n=w.items.length-i/\i<=w.items.length/\
   MtS X pins H J (ix w.guard g tb (w.items.drop i) r' S') Q E) ?_ w.items.length ⟨0,σ,H2,J2,r,S1,⟨I2,I.loc.ext x2,rs2⟩,Ext.refl _ _,st2,fun b hb=>(f2 b hb).1,gk,by simp,Nat.zero_le _,by simpa using m⟩
  rintro n s3 ⟨i,σ3,H3,J3,r3,S3,I3,x3,st3,fr3,gk3,rfl,hil,m3⟩;obtain⟨hgo,hstop,hyld⟩:=ok H3 J3 S3 x3 I3.st gk3;by_cases hi':i<w.items.length
  ·obtain⟨d,hd⟩:∃d,w.items[i]?=some d:=⟨w.items[i],by simp[hi']⟩;rw[List.drop_eq_getElem_cons hi'] at m3;have hd':w.items[i]=d:=by
    rw[List.getElem?_eq_getElem hi'] at hd;exact Option.some.inj hd
   rw[hd'] at m3;unfold ix at m3;cases eg:g d r3 with
   |none=>rw[eg] at m3;exact m3.elim
   |some r4=>
    rw[eg] at m3;dsimp only at m3;refine thn (T.item X rfl rfl rfl hc i pins s3 σ3 H3 _ I3.inv (stat fr3) st3 (hgo i hi')) fun rr s4 ⟨u,hr,h4⟩=>?_
    subst hr;refine thn h4 fun _ s5 ⟨x,H5,I5,r5,y5,st5,fr5⟩=>?_
    obtain⟨J5,x5,rs5,rv5⟩:=hyld i x H5 y5 d hd;have I5':=I5.pinned (stat fr5) (T.obj _ _ st5);refine hg _ s5 σ3 H5 J5 r3 S3 d x u _ _ r4 ⟨I5',I3.loc.ext x5,rs5⟩ rv5 r5 eg fun s6 σ6 H6 J6 I6 x6=>?_
    refine hb _ s6 σ6 H6 J6 r4 S3 _ _ I6 ?_;have again:∀{r7:DSt}{S7:List Cell}{σ7:L2.St}{H7:Hp}{J7:List Addr}{s7:Shared},At X (pins++nj fp s5.heap) σ7 H7 J7 r7 S7 s7->Ext H6 J6 H7 J7->gok w.guard S7->MtS X pins H J (ix w.guard g tb (w.items.drop (i+1)) r7 S7) Q E->
      ∃m,m<w.items.length-i/\∃i σ' H' J' r' S',At X pins σ' H' J' r' S' s7/\Ext H2 J2 H' J'/\tn i s7.heap/\(∀b∈fp,H' b=none)/\gok w.guard S'/\m=w.items.length-i/\i<=w.items.length/\MtS X pins H J (ix w.guard g tb (w.items.drop i) r' S') Q E:=by
     intro r7 S7 σ7 H7 J7 s7 I7 x7 gk7 m7;refine⟨w.items.length-(i+1),by omega,i+1,σ7,H7,J7,r7,S7,⟨I7.inv.unpinned,I7.loc,I7.st⟩,((x3.trans x5).trans x6).trans x7,T.keep _ _ _ st5 fun b hb o e=>(I7.inv.pin (b,o) (List.mem_append_right _ (List.mem_append_right _ (jJ hb e)))).1,fun b hb=>?_,gk7,rfl,hi',m7⟩;obtain⟨o,e,d⟩:=T.obj _ _ st5 b hb;exact(I7.inv.pin (b,o) (List.mem_append_right _ (List.mem_append_right _ (jJ hb e)))).2.1
    match eb:tb r4 S3 with
    |none=>rw[eb] at m3;exact m3.elim
    |some (.nx r',S')=>
     rw[eb] at m3;dsimp only at m3;by_cases gk':gok w.guard S'
     ·rw[if_pos gk'] at m3;exact fun s' σ' H' J' a x=>again a x gk' m3
     ·rw[if_neg gk'] at m3;exact m3.elim
    |some (.ct r',S')=>
     rw[eb] at m3;dsimp only at m3;by_cases gk':gok w.guard S'
     ·rw[if_pos gk'] at m3;exact fun s' σ' H' J' a x=>again a x gk' m3
     ·rw[if_neg gk'] at m3;exact m3.elim
    |some (.bk r',S')=>
     rw[eb] at m3;exact fun s' σ' H' J' a x=>m3 s' σ' H' J' ⟨a.inv.unpinned,a.loc,a.st⟩ ((((x2.trans x3).trans x5).trans x6).trans x)
    |some (.rt d',S')=>
     rw[eb] at m3;exact fun u s' σ' ⟨v,H',I',rv,g'⟩=>m3 u s' σ' ⟨v,H',I'.unpinned,rv,g'.ext (((x2.trans x3).trans x5).trans x6)⟩
    |some (.xc c r',S')=>rw[eb] at m3;exact m3.elim
  ·have e:i=w.items.length:=by omega
   subst e;rw[List.drop_length] at m3;refine thn (T.done X rfl rfl rfl hc _ pins s3 σ3 H3 _ I3.inv (stat fr3) st3 hstop) fun rr s4 ⟨hr,I4⟩=>?_
   subst hr;exact wpAny_execs_nil (m3 s4 σ3 H3 J3 ⟨I4,I3.loc,I3.st⟩ (x2.trans x3))
end
end DL
namespace DL
open PySem PySem.Spec PyProof.Rows L2
section
variable{X:Cx}{tg:Expr}{e:Expr}{fe:DSt->M D}{pos:Pos}
def lr:D->M Wk
 |.tup xs=>M.ret ⟨xs,none⟩
 |.rol xs=>M.ret ⟨xs,none⟩
 |.ob n=>fun S=>match S[n]? with
  |some (.lst xs)=>.ok ⟨xs,some (n,xs)⟩ S
  |_=>.bad
 |_=>M.bad
def dWk(f:DSt->M D):DSt->M Wk:=fun r=>(f r).bind lr
theorem ItOk.tup{K:PySem.W.Frag}{H:Hp}{J:List Addr}{a:Addr}{vs:List V}{xs:List D}{X:Cx}{pins:Pins}{σ:L2.St}{s:Shared}(I:Inv X pins σ H s)(hK:X.K=K)(hq:SqT K H a vs)(rv:RepVs K H J xs vs):ItOk K (Itt K a) ⟨xs,none⟩ H J:=by
 intro H1 J1 S x rs _;have hq1:=SqT.ext x hq;have rv1:=rv.ext x;have hl:=rv1.length;refine⟨fun i hi=>⟨vs,vs[i]'(by rw[hl];exact hi),hq1,by simp⟩,⟨vs,hq1,by rw[hl];exact Nat.le_refl _⟩,?_⟩;rintro i y H' ⟨rfl,hy⟩ d hd;obtain⟨v,h1,h2⟩:=rv1.get hd;have:=hy vs hq1;rw[h1] at this;cases this;exact⟨J1,Ext.refl _ _,rs,h2⟩
theorem ItOk.rol{K:PySem.W.Frag}{H:Hp}{J:List Addr}{a:Addr}{vs:List V}{xs:List D}(hq:RoL K H a vs)(rv:RepVs K H J xs vs):ItOk K (Itl K a) ⟨xs,none⟩ H J:=by
 intro H1 J1 S x rs _;have hq1:=(RoL.ext x hq).sq;have rv1:=rv.ext x;have hl:=rv1.length;refine⟨fun i hi=>⟨vs,vs[i]'(by rw[hl];exact hi),hq1,by simp⟩,⟨vs,hq1,by rw[hl];exact Nat.le_refl _⟩,?_⟩;rintro i y H' ⟨rfl,hy⟩ d hd;obtain⟨v,h1,h2⟩:=rv1.get hd;have:=hy vs hq1;rw[h1] at this;cases this;exact⟨J1,Ext.refl _ _,rs,h2⟩
theorem ItOk.lst{K:PySem.W.Frag}{H:Hp}{J:List Addr}{a:Addr}{n:Nat}{xs:List D}(hn:J[n]?=some a):ItOk K (Itl K a) ⟨xs,some (n,xs)⟩ H J:=by
 intro H1 J1 S x rs gk;have hn1:J1[n]?=some a:=by
  obtain⟨m,em⟩:=x.pre;rw[em,List.getElem?_append_left (List.getElem?_eq_some_iff.mp hn).1];exact hn
 obtain⟨vs,h1,rv1⟩:=rs.at_ n _ a gk hn1;have hq1:SqL K H1 a vs:=SqL.of h1;have hl:=rv1.length;refine⟨fun i hi=>⟨vs,vs[i]'(by rw[hl];exact hi),hq1,by simp⟩,⟨vs,hq1,by rw[hl];exact Nat.le_refl _⟩,?_⟩;rintro i y H' ⟨rfl,hy⟩ d hd;obtain⟨v,h1,h2⟩:=rv1.get hd;have:=hy vs hq1;rw[h1] at this;cases this;exact⟨J1,Ext.refl _ _,rs,h2⟩
theorem gQ(he:PEd X e fe):PId X tg e (dWk fe):=by
 intro pins s σ H J r S Q E I m;refine he pins s σ H J r S _ E I ?_;unfold dWk M.bind at m;cases e1:fe r S with
 |bad=>rw[e1] at m;exact m
 |exc c S1=>rw[e1] at m;exact m
 |ok x S1=>
  rw[e1] at m;dsimp only at m;rintro v s1 ⟨vx,H1,I1,r1,J1,ex,rs,rv⟩;cases x with
  |tup xs=>
   obtain⟨a,vs,rfl,hq,rvs⟩:=rv.tup_;cases r1;obtain⟨its,rl,p,hz⟩:=I1.tuple hq;refine wpAny_pyIter_tuple (show s1.heap.IsTuple a its.toArray from p) (m _ _ ?_);refine⟨s1.heap.objs.size,[s1.heap.objs.size],_,_,H1,rfl,I1.kept (t':=s1.toks) fun b o e=>Heap.get?_push_of_some _ e,vG a _,⟨_,Heap.get?_push_size _ rfl,rfl,rfl⟩,fun b hb=>?_,J1,ex,rs,trivial,ItOk.tup I1 rfl hq rvs⟩;have e:b=s1.heap.objs.size:=by simpa using hb
   subst e;exact I1.fpOk (Nat.le_refl _) (I1.hok.fresh (Nat.le_refl _))
  |rol xs=>
   obtain⟨a,vs,rfl,hq,rvs⟩:=rv.rol_;cases r1;obtain⟨its,rl,p,hz⟩:=I1.list hq.sq;refine wpAny_pyIter_list p.isList (m _ _ ?_);refine⟨s1.heap.objs.size,[s1.heap.objs.size],_,_,H1,rfl,I1.kept (t':=s1.toks) fun b o e=>Heap.get?_push_of_some _ e,rK a _,⟨_,Heap.get?_push_size _ rfl,rfl,rfl⟩,fun b hb=>?_,J1,ex,rs,trivial,ItOk.rol hq rvs⟩;have e:b=s1.heap.objs.size:=by simpa using hb
   subst e;exact I1.fpOk (Nat.le_refl _) (I1.hok.fresh (Nat.le_refl _))
  |ob n=>
   obtain⟨a,rfl,hn⟩:=rv.ob_;cases r1;obtain⟨c,hc,rc⟩:=rs.cellA hn;simp only[lr] at m;rw[hc] at m;cases c with
   |lst xs=>
    obtain⟨vs,h1,rvs⟩:=rc;obtain⟨its,rl,p,hz⟩:=I1.list (SqL.of h1);refine wpAny_pyIter_list p.isList (m _ _ ?_);refine⟨s1.heap.objs.size,[s1.heap.objs.size],_,_,H1,rfl,I1.kept (t':=s1.toks) fun b o e=>Heap.get?_push_of_some _ e,rK a _,⟨_,Heap.get?_push_size _ rfl,rfl,rfl⟩,fun b hb=>?_,J1,ex,rs,hc,ItOk.lst hn⟩;have e:b=s1.heap.objs.size:=by simpa using hb
    subst e;exact I1.fpOk (Nat.le_refl _) (I1.hok.fresh (Nat.le_refl _))
   |_=>exact m.elim
  |_=>exact m.elim
def hW(lo c:Int)(n:Nat):List D:=(List.range n).map fun(i:Nat)=>D.int (lo+(i:Int) * c)
def zF(lo c:Int)(n:Nat):It:=⟨fun i _=>i<n,fun i H x H'=>H'=H/\x=.int (lo+(i:Int) * c),fun i _=>n<=i⟩
theorem yT{lo c:Int}{n i:Nat}{d:D}(h:(hW lo c n)[i]?=some d):d=.int (lo+(i:Int) * c):=by
 unfold hW at h;rw[List.getElem?_map] at h;cases e:(List.range n)[i]? with
 |none=>rw[e] at h;cases h
 |some k=>
  rw[e] at h;obtain⟨h2,h3⟩:=List.getElem?_eq_some_iff.mp e;rw[List.getElem_range] at h3;subst h3;cases h;rfl
theorem ItOk.rng{K:PySem.W.Frag}{H:Hp}{J:List Addr}(lo c:Int)(n:Nat):ItOk K (zF lo c n) ⟨hW lo c n,none⟩ H J:=by
 intro H1 J1 S x rs _;have hl:(hW lo c n).length=n:=by simp[hW]
 refine⟨fun i hi=>by rw[hl] at hi;exact hi,by show n<=_;rw[hl];exact Nat.le_refl _,?_⟩;rintro i y H' ⟨rfl,rfl⟩ d hd;refine⟨J1,Ext.refl _ _,rs,?_⟩;rw[yT hd];exact RepV.int _ _ _ _
theorem xp{P:Program}{w:World}{K:PySem.W.Frag}{tg:Expr}(it:Addr)(lo c:Int)(n:Nat):Turn P w K tg (zF lo c n) [it] it (fun i h=>IsRangeIter h it (lo+(i:Nat) * c) ((n:Int)-(i:Nat)) c) where
 mem:=by simp
 obj:=fun i h st b hb=>by
  have e:b=it:=by simpa using hb
  subst e;exact⟨_,st,fun v z=>by
   have z':Data.fields _=Data.cell v:=z;cases z'⟩
 keep:=fun i h h' st k=>k it (by simp) _ st
 item:=by
  intro X hP hw hK hc i pins s σ H E I hf st hg;subst hP hw hK;obtain⟨f0,f1,f2,f3,f4,f5⟩:=hf it (by simp);have W:=Walks.range (prog:=X.prog) (w:=X.w) (I.ok.hd hc) it lo c n;refine W.item i s _ _ hg st fun v h' tk hv st' kk=>?_
  obtain⟨t,rfl⟩:=hv;have I1:Inv X pins σ H { s with heap:=h',toks:=tk }:=I.turned (fun b o hb e=>kk b o (by simpa using hb) e) f0 f1 f3 f4 f5;exact⟨_,rfl,yG (s:={ s with heap:=h',toks:=tk }) (n:="range_iterator") st' rfl rfl (by decide) ⟨.int (lo+i * c),H,I1,⟨t,rfl⟩,⟨rfl,rfl⟩,st',fun b hb=>(hf b hb).1⟩⟩
 done:=by
  intro X hP hw hK hc i pins s σ H E I hf st hg;subst hP hw hK;obtain⟨f0,f1,f2,f3,f4,f5⟩:=hf it (by simp);exact wpAny_pyNext_range_end (I.ok.hd hc) st (by have:n<=i:=hg;omega) fun h' eb=>⟨rfl,I.turned (t':=s.toks) (fun b o hb e=>eb b o hb e) f0 f1 f3 f4 f5⟩
 self:=fun _ _ _ _ _ st h=>wpAny_pyIter_rangeiter st h
theorem zb{pins:Pins}{σ:L2.St}{H:Hp}{s:Shared}{Rr:It->Hp->Prop}{E:Value->Shared->Prop}{lo hi c:Int}{t u v:Tok}{tk:Nat}(I:Inv X pins σ H s)(hc:0<c)(hsm:Builtin.Range.small lo hi c=true)
  (q:Rr (zF lo c (Builtin.Range.rangeSize lo hi c).toNat) H):wpAny (model X.prog X.w) X.A (pyIter (.ref s.heap.objs.size)) (PIE X pins σ tg Rr) E { s with heap:=s.heap.push { cls:=.type "range",data:=.fields #[.int lo t,.int hi u,.int c v] },toks:=tk }:=by
 refine wpAny_pyIter_range (IsRange.new ..) hsm ?_;have I1:Inv X pins σ H { s with heap:=s.heap.push { cls:=.type "range",data:=.fields #[.int lo t,.int hi u,.int c v] },toks:=tk }:=I.kept fun b o e=>Heap.get?_push_of_some _ e
 refine⟨(s.heap.push { cls:=.type "range",data:=.fields #[.int lo t,.int hi u,.int c v] }).objs.size,[(s.heap.push { cls:=.type "range",data:=.fields #[.int lo t,.int hi u,.int c v] }).objs.size],_,_,H,rfl,
  I1.kept (t':=tk) fun b o e=>Heap.get?_push_of_some _ e,xp _ lo c (Builtin.Range.rangeSize lo hi c).toNat,?_,fun b hb=>?_,q⟩
 ·have e1:lo+((0:Nat):Int) * c=lo:=by simp
  have e2:(((Builtin.Range.rangeSize lo hi c).toNat:Nat):Int)-((0:Nat):Int)=Builtin.Range.rangeSize lo hi c:=by
   have:0<=Builtin.Range.rangeSize lo hi c:=by
    unfold Builtin.Range.rangeSize;rw[if_pos hc];split
    ·have:=Int.ediv_nonneg (a:=hi-lo-1) (b:=c) (by omega) (by omega);omega
    ·omega
   omega
  show IsRangeIter _ _ (lo+((0:Nat):Int) * c) ((((Builtin.Range.rangeSize lo hi c).toNat:Nat):Int)-((0:Nat):Int)) c;rw[e1,e2];exact Heap.get?_push_size _ rfl
 ·have e:b=(s.heap.push { cls:=.type "range",data:=.fields #[.int lo t,.int hi u,.int c v] }).objs.size:=by simpa using hb
  subst e;exact I1.fpOk (Nat.le_refl _) (I1.hok.fresh (Nat.le_refl _))
def uc(lo hi c:Int):M Wk:=fun S=>cif ((0<c/\c<1073741824)/\Builtin.Range.small lo hi c=true) (.ok ⟨hW lo c (Builtin.Range.rangeSize lo hi c).toNat,none⟩ S) .bad
def wc:D->M Wk
 |.int j=>uc 0 j 1
 |_=>M.bad
def uE:D->D->M Wk
 |.int i,.int j=>uc i j 1
 |_,_=>M.bad
def rM(fa:DSt->M D):DSt->M Wk:=fun r=>(fa r).bind wc
def wC(fa fb:DSt->M D):DSt->M Wk:=fun r=>(fa r).bind fun x=>(fb r).bind fun y=>uE x y
theorem MtW.ext{pins:Pins}{σ:L2.St}{H H1:Hp}{J J1:List Addr}{x:R Wk}{Q:Value->Shared->Prop}{E:Value->Shared->Prop}(e:Ext H J H1 J1)(h:MtW X pins σ H J tg x Q E):MtW X pins σ H1 J1 tg x Q E:=by
 cases x with
 |ok w S=>exact fun itv s2 ⟨it,fp,tn,it0,H2,a,b,c,d,f,J2,x2,g⟩=>h itv s2 ⟨it,fp,tn,it0,H2,a,b,c,d,f,J2,e.trans x2,g⟩
 |exc c S=>exact fun u s' x=>h u s' (x.ext e)
 |bad=>exact h
theorem goR{es:List Expr}{ft:DSt->M (List D)}(ha:PAd X es ft){k:List D->M Wk}{pins:Pins}{s:Shared}{σ:L2.St}{H:Hp}{J:List Addr}{r:DSt}{S:List Cell}{Q E:Value->Shared->Prop}{Q':List Value->Shared->Prop}(I:At X pins σ H J r S s)
  (m:MtW X pins σ H J tg ((ft r).bind k S) Q E) (hk:∀xs S1 s1 H1 J1 vs us,At X pins σ H1 J1 r S1 s1->RepVs X.K H1 J1 xs vs->Vals vs us->MtW X pins σ H1 J1 tg (k xs S1) Q E->Q' us s1) (pos:Pos) :
  wpAny (model X.prog X.w) X.A (spliced (backTo pos (starEach es X.env))) Q' E s:=by
 refine ha pos pins s σ H J r S _ E I ?_;unfold M.bind at m;cases e1:ft r S with
 |bad=>rw[e1] at m;exact m
 |exc c S1=>rw[e1] at m;exact m
 |ok x S1=>
  rw[e1] at m;intro us s1 ⟨vs,H1,I1,r1,J1,ex1,rs1,rv1⟩;exact hk x S1 s1 H1 J1 vs us ⟨I1,I.loc.ext ex1,rs1⟩ rv1 r1 (MtW.ext ex1 m)
def tE{α:Type}(f:D->M α):List D->M α
 |[x]=>f x
 |_=>M.bad
def AA{α:Type}(f:D->D->M α):List D->M α
 |[x,y]=>f x y
 |_=>M.bad
theorem RepVs.one_{K:PySem.W.Frag}{H:Hp}{J:List Addr}{x:D}{vs:List V}(h:RepVs K H J [x] vs):∃v,vs=[v]/\RepV K H J x v:=by
 unfold RepVs at h;obtain⟨v,t,rfl,h1,h2⟩:=h;unfold RepVs at h2;subst h2;exact⟨v,rfl,h1⟩
theorem RepVs.two_{K:PySem.W.Frag}{H:Hp}{J:List Addr}{x y:D}{vs:List V}(h:RepVs K H J [x,y] vs):∃v w,vs=[v,w]/\RepV K H J x v/\RepV K H J y w:=by
 unfold RepVs at h;obtain⟨v,t,rfl,h1,h2⟩:=h;obtain⟨w,rfl,h3⟩:=RepVs.one_ h2;exact⟨v,w,rfl,h1,h3⟩
theorem wm{pins:Pins}{σ:L2.St}{H:Hp}{J:List Addr}{S:List Cell}{lo hi c:Int}{Q E:Value->Shared->Prop}(m:MtW X pins σ H J tg (uc lo hi c S) Q E)(rs:RepS X.K H J S) :
  (0<c/\c<1073741824)/\Builtin.Range.small lo hi c=true/\∀itv s2,PIE X pins σ tg (fun it H1=>it=zF lo c (Builtin.Range.rangeSize lo hi c).toNat/\H1=H) itv s2->Q itv s2:=by
 unfold uc cif at m;split at m
 ·rename_i h;refine⟨h.1,h.2,fun itv s2 ⟨it,fp,tn,it0,H2,a,b,c,d,f,e1,e2⟩=>?_⟩;subst e1 e2;exact m itv s2 ⟨it,fp,tn,_,_,a,b,c,d,f,J,Ext.refl _ _,rs,trivial,ItOk.rng _ _ _⟩
 ·exact m.elim
theorem pW{a:Expr}{p:Pos}{fa:DSt->M D}(hg:Gl X "range")(hm:X.mg "range"=none)(ha:PEd X a fa)(hs:starEach [a] X.env=[(false,eval a X.env)]:=by rfl):PId X tg (.Call (.Name "range" p) [a] [] pos) (rM fa):=by
 intro pins s σ H J r S Q E I m;have m':MtW X pins σ H J tg ((ac fa aj r).bind (tE wc) S) Q E:=by
  unfold rM M.bind at m;unfold ac aj M.bind M.ret;cases e1:fa r S<;>(rw[e1] at m;exact m)
 refine Call_ (kC I.inv hg hm boot_range (PyProof.Rows.callWith_type1 (goR (ae ha ah (by rw[hs];rfl)) I m' (fun xs S1 s1 H1 J1 vs us I1 rv r1 m1=>?_) pos) hs rfl))
 match xs,m1,rv with
 |[.int j],m1,rv=>
  obtain⟨v,rfl,h1⟩:=rv.one_;cases h1.int_;cases r1 with
  |cons q qq=>
   cases qq;obtain⟨t,rfl⟩:=q;obtain⟨hc,hsm,k⟩:=wm m1 I1.st;exact call_range_1 (thn (zb I1.inv hc.1 hsm ⟨rfl,rfl⟩) k)
 |[],m1,rv=>exact m1.elim
 |[.non],m1,rv=>exact m1.elim
 |[.bl _],m1,rv=>exact m1.elim
 |[.str _],m1,rv=>exact m1.elim
 |[.tup _],m1,rv=>exact m1.elim
 |[.rol _],m1,rv=>exact m1.elim
 |[.ob _],m1,rv=>exact m1.elim
 |[.xn _],m1,rv=>exact m1.elim
 |_ :: _ :: _,m1,rv=>exact m1.elim
theorem ve{a b:Expr}{p:Pos}{fa fb:DSt->M D}(hg:Gl X "range")(hm:X.mg "range"=none)(ha:PEd X a fa)(hb:PEd X b fb)(hs:starEach [a,b] X.env=[(false,eval a X.env),(false,eval b X.env)]:=by rfl)
  (hs2:starEach [b] X.env=[(false,eval b X.env)]:=by rfl):PId X tg (.Call (.Name "range" p) [a,b] [] pos) (wC fa fb):=by
 intro pins s σ H J r S Q E I m;have m':MtW X pins σ H J tg ((ac fa (ac fb aj) r).bind (AA uE) S) Q E:=by
  unfold wC M.bind at m;unfold ac aj M.bind M.ret;cases e1:fa r S with
  |ok x S1=>
   rw[e1] at m;dsimp only at m ⊢;cases e2:fb r S1<;>(rw[e2] at m;exact m)
  |exc c S1=>rw[e1] at m;exact m
  |bad=>rw[e1] at m;exact m
 refine Call_ (kC I.inv hg hm boot_range (PyProof.Rows.callWith_type1 (goR (ae ha (ae hb ah (by rw[hs2];rfl)) (by rw[hs,hs2])) I m' (fun xs S1 s1 H1 J1 vs us I1 rv r1 m1=>?_) pos) (by rw[hs,hs2]) (by rw[hs2];rfl)))
 match xs,m1,rv with
 |[x,y],m1,rv=>
  obtain⟨v,w,rfl,h1,h2⟩:=rv.two_;cases x with
  |int i=>
   cases y with
   |int j=>
    cases h1.int_;cases h2.int_;obtain⟨u1,u2,rfl,q1,q2⟩:=Vals.two r1;obtain⟨t,rfl⟩:=q1;obtain⟨t',rfl⟩:=q2;obtain⟨hc,hsm,k⟩:=wm m1 I1.st;exact call_range_2 (thn (zb I1.inv hc.1 hsm ⟨rfl,rfl⟩) k)
   |_=>exact m1.elim
  |_=>exact m1.elim
 |[],m1,rv=>exact m1.elim
 |[_],m1,rv=>exact m1.elim
 |_ :: _ :: _ :: _,m1,rv=>exact m1.elim
end
end DL
namespace DL
open PySem PySem.Spec PyProof.Rows L2
def blk(X:Cx)(scope:Scope)(N':List Str)(cl:List (Str×Addr))(C:Addr)(s2:Shared)(H2:Hp)(fp:List Addr):Cx where
 prog:=X.prog
 w:=X.w
 K:=X.K
 mg:=X.mg
 base:=X.base
 A:=X.A
 N:=N'
 s₀:=s2
 H₀:=H2
 env:=compEnvC scope cl C X.env
 outer:=X.stack
 stack:=X.stack
 ex:=fp
 fn:=fun _=>false
 calm:=X.calm
 pn:=[]
 xe:=fun _ _=>False
def iq{α:Type}(own:Nat)(caps:List Nat)(r:List (Option α)):List (Option α):=List.replicate own none++caps.map fun j=>(r[j]?).join
def CapOk(X:Cx)(scope:Scope)(cl:List (Str×Addr)):List Nat->List Str->Prop
 |[],[]=>True
 |j :: js,x :: xs=>(X.N[j]?=some x/\(X.env.kindOf x=some .cell\/X.env.kindOf x=some .free)/\((relabel scope X.env).names.lookup x=some .cell\/(relabel scope X.env).names.lookup x=some .free)/\cl.lookup x=X.env.cells.lookup x)/\CapOk X scope cl js xs
 |_,_=>False
theorem CapOk.get{X:Cx}{scope:Scope}{cl:List (Str×Addr)}:∀{js:List Nat}{xs:List Str}{k:Nat}{j:Nat},CapOk X scope cl js xs->js[k]?=some j->∃x,xs[k]?=some x/\X.N[j]?=some x/\
  (X.env.kindOf x=some .cell\/X.env.kindOf x=some .free)/\((relabel scope X.env).names.lookup x=some .cell\/(relabel scope X.env).names.lookup x=some .free)/\cl.lookup x=X.env.cells.lookup x
 |[],_,_,_,_,e=>by simp at e
 |_ :: _,[],_,_,h,_=>h.elim
 |j :: js,x :: xs,0,j',h,e=>by
  simp at e;subst e;obtain⟨⟨a,b,c,d⟩,_⟩:=h;exact⟨x,rfl,a,b,c,d⟩
 |j :: js,x :: xs,k+1,j',h,e=>by
  obtain⟨_,h⟩:=h;obtain⟨y,a,b⟩:=CapOk.get (k:=k) h (by simpa using e);exact⟨y,by simpa using a,b⟩
theorem CapOk.len{X:Cx}{scope:Scope}{cl:List (Str×Addr)}:∀{js:List Nat}{xs:List Str},CapOk X scope cl js xs->xs.length=js.length
 |[],[],_=>rfl
 |[],_ :: _,h=>h.elim
 |_ :: _,[],h=>h.elim
 |j :: js,x :: xs,h=>by rw[List.length_cons,List.length_cons,CapOk.len h.2]
theorem RepL.cap{K:PySem.W.Frag}{H:Hp}{J:List Addr}{r:DSt}{σ:L2.St}(h:RepL K H J r σ)(own:Nat)(caps:List Nat):RepL K H J (iq own caps r) (iq own caps σ) where
 len:=by simp[iq]
 at_:=fun i d q=>by
  unfold iq at q ⊢;by_cases hi:i<own
  ·rw[List.getElem?_append_left (by simpa using hi),List.getElem?_replicate] at q;split at q<;>cases q
  ·rw[List.getElem?_append_right (by simpa using hi)] at q ⊢;simp only[List.length_replicate] at q ⊢;rw[List.getElem?_map] at q ⊢;cases e:caps[i-own]? with
   |none=>rw[e] at q;cases q
   |some j=>
    rw[e] at q;simp only[Option.map_some,Option.some.injEq] at q ⊢;obtain⟨v,h1,h2⟩:=h.at_ j d (by
     cases e2:r[j]? with
     |none=>rw[e2] at q;cases q
     |some o=>rw[e2] at q;simp at q;rw[q])
    exact⟨v,by rw[h1];rfl,h2⟩
theorem nk{X:Cx}{cl:List (Str×Addr)}(hcl:∀p∈cl,X.env.cells.lookup p.1=some p.2){x:Str}{c:Addr}(h:cl.lookup x=some c):X.env.cells.lookup x=some c:=by
 induction cl with
 |nil=>simp at h
 |cons p r ih=>
  obtain⟨y,b⟩:=p;rw[List.lookup_cons] at h;cases e:x == y with
  |true=>
   rw[e] at h;simp at h;subst h;have:=beq_iff_eq.mp e;subst this;exact hcl (x,b) (by simp)
  |false=>
   rw[e] at h;exact ih (fun p hp=>hcl p (List.mem_cons_of_mem _ hp)) h
theorem ma{scope:Scope}{env:Env}{x:Str}{k:NameKind}(hk:k=.cell\/k=.free)(hcell:∀y∈scope.names,y.2≠.cell)(h:(relabel scope env).names.lookup x=some k):∃p∈scope.names,p.1=x/\p.2=.free:=by
 unfold relabel at h;dsimp only at h
 generalize scope.names=ns at h hcell
 induction ns with
 |nil=>simp at h
 |cons p r ih=>
  obtain⟨n,kk⟩:=p;rw[List.map_cons] at h;by_cases hc:(kk == NameKind.free && env.scope.kind == .function && env.kindOf n == some .cell)=true
  ·simp only[hc,if_true,List.lookup_cons] at h;cases e:x == n with
   |true=>
    have hx:=beq_iff_eq.mp e;simp only[Bool.and_eq_true,beq_iff_eq] at hc;exact⟨(n,kk),by simp,hx.symm,hc.1.1⟩
   |false=>
    rw[e] at h;obtain⟨p,hp,q⟩:=ih h fun y hy=>hcell y (List.mem_cons_of_mem _ hy)
    exact⟨p,List.mem_cons_of_mem _ hp,q⟩
  ·rw[if_neg hc,List.lookup_cons] at h;cases e:x == n with
   |true=>
    rw[e] at h;simp at h;have hx:=beq_iff_eq.mp e;rcases hk with rfl|rfl
    ·exact absurd h (hcell (n,kk) (by simp))
    ·exact⟨(n,kk),by simp,hx.symm,h⟩
   |false=>
    rw[e] at h;obtain⟨p,hp,q⟩:=ih h fun y hy=>hcell y (List.mem_cons_of_mem _ hy)
    exact⟨p,List.mem_cons_of_mem _ hp,q⟩
section
variable{X:Cx}{pins:Pins}{σ:L2.St}{H2:Hp}{s2:Shared}{scope:Scope}{own:List Str}{capN:List Str}{caps:List Nat}{cl:List (Str×Addr)}{fp:List Addr}
structure BlkOk(X:Cx)(scope:Scope)(own capN:List Str)(caps:List Nat)(cl:List (Str×Addr)):Prop where
 clos:closureFor scope X.env=pure cl
 cells:∀p∈cl,X.env.cells.lookup p.1=some p.2
 frees:scope.names.all (fun p=>p.2 != .free || (cl.lookup p.1).isSome)=true
 nocell:∀y∈scope.names,y.2≠.cell
 kind:scope.kind=.function
 names:∀x∈scope.names,x.2=.local->scope.names.lookup x.1=some .local
 cap:CapOk X scope cl caps capN
 nd:(own++capN).Nodup
theorem xb(B:BlkOk X scope own capN caps cl)(I:Inv X pins σ H2 s2)(hf:∀b∈fp,FpOk X pins H2 b)(ho:∀b∈fp,∃o,s2.heap.get? b=some o){h':Heap}{tk:Nat}
  (hns:h'.Ns (s2.heap.objs.size+1) fun _=>none) (hlst:h'.get? s2.heap.objs.size=some { cls:=.type "list",data:=.seq #[] }) (keep:∀b o,s2.heap.get? b=some o->h'.get? b=some o) :
  Inv (blk X scope (own++capN) cl (s2.heap.objs.size+1) s2 H2 fp) [] (iq own.length caps σ) (upd H2 s2.heap.objs.size (.lst [])) { s2 with heap:=h',toks:=tk }:=by
 have hacc:H2 s2.heap.objs.size=none:=I.hok.fresh (Nat.le_refl _);have lt_of:∀{b:Addr}{o:Obj},s2.heap.get? b=some o->b<s2.heap.objs.size:=fun e=>Heap.lt_size e
 have cexist:∀x c,X.env.cells.lookup x=some c->c<s2.heap.objs.size:=fun x c e=>by
  obtain⟨v,hv⟩:=I.cell x c e;obtain⟨o,ho,_⟩:=hv;exact lt_of ho
 have hok3:HOk X.prog X.w (upd H2 s2.heap.objs.size (.lst [])) h':=I.hok.laid keep (Nat.le_refl _) ⟨Nat.zero_le _,[],0,.nil,hlst⟩;refine⟨?_,rfl,I.bare,?_,?_,?_,?_,?_,?_,hok3,?_⟩
 ·refine⟨I.ok.mod,B.kind,I.ok.glob,I.ok.blt,Nat.le_succ _,?_,?_,?_,I.ok.hd,I.ok.frames,.inl rfl,?_,I.bs,Nat.le_trans I.ok.bsz I.sz,?_,?_,I.stack,I.stkFree⟩
  ·exact fun x y c h1 h2=>I.ok.inj x y c (nk B.cells h1) (nk B.cells h2)
  ·intro x hx;have:∃p∈scope.names,p.1=x/\p.2=.free:=by
    rcases hx with hx|hx
    ·exact ma (.inl rfl) B.nocell hx
    ·exact ma (.inr rfl) B.nocell hx
   obtain⟨p,hp,rfl,hfree⟩:=this;have:=(List.all_eq_true.mp B.frees) p hp;rw[hfree] at this;simp only[bne_self_eq_false,Bool.false_or] at this;exact Option.isSome_iff_exists.mp this
  ·exact fun x c h=>by cases h
  ·intro b hb;obtain⟨o,hbo⟩:=ho b hb;refine⟨Nat.ne_of_lt (Nat.lt_succ_of_lt (lt_of hbo)),fun x c h=>(hf b hb).2.2.2.2.1 x c (nk B.cells h)⟩
  ·intro b o hb hbf;obtain⟨_,_,_,hx,_⟩:=hf b hbf;rcases hx with hx|hx
   ·exact I.ok.noex b o hb hx
   ·exact absurd (Nat.lt_of_lt_of_le (Heap.lt_size hb) (Nat.le_trans I.ok.bsz hx)) (Nat.lt_irrefl _)
  ·intro b hb hbs;obtain⟨_,hl,hfs,_⟩:=hf b hb;rcases List.mem_cons.mp (I.stkSub b hbs) with e|e
   ·exact hl e
   ·exact hfs e
 ·exact(Un.laid (o:=.lst []) keep (Nat.le_refl _) hacc)
 ·refine⟨_,hns,fun i x v hN hs hv=>?_⟩;unfold iq at hs;by_cases hi:i<own.length
  ·rw[List.getElem?_append_left (by simpa using hi),List.getElem?_replicate] at hs;split at hs<;>cases hs
  ·rw[List.getElem?_append_right (by simpa using hi)] at hs;have hN':(own++capN)[i]?=some x:=hN;rw[List.getElem?_append_right (by omega)] at hN';simp only[List.length_replicate] at hs;rw[List.getElem?_map] at hs;cases e:caps[i-own.length]? with
   |none=>rw[e] at hs;cases hs
   |some j=>
    rw[e] at hs;simp only[Option.map_some,Option.some.injEq] at hs;obtain⟨y,hy,hNj,hko,hkn,hcl⟩:=B.cap.get e;rw[hN'] at hy;cases hy;have hσ:σ[j]?=some (some v):=by
     cases e2:σ[j]? with
     |none=>rw[e2] at hs;cases hs
     |some o=>rw[e2] at hs;simp at hs;rw[hs]
    obtain⟨m,hm,hl⟩:=I.loc;obtain⟨u,ru,look⟩:=hl j x v hNj hσ (.inr hko);rcases look with ⟨hk,_⟩|⟨_,c,hc,hcell⟩
    ·rcases hko with hk'|hk'<;>(rw[hk] at hk';cases hk')
    ·refine⟨u,ru,.inr ⟨hkn,c,hcl.trans hc,?_⟩⟩;obtain⟨o,ho,hd⟩:=hcell;exact⟨o,keep c o ho,hd⟩
 ·intro x c h;obtain⟨v,o,ho,hd⟩:=I.cell x c (nk B.cells h);exact⟨v,o,keep c o ho,hd⟩
 ·show upd H2 s2.heap.objs.size (.lst []) (s2.heap.objs.size+1)=none;rw[br (Nat.succ_ne_self _)];exact I.hok.fresh (Nat.le_succ _)
 ·intro x c h;have h1:=nk B.cells h;rw[br (Nat.ne_of_lt (cexist x c h1))];exact I.freeC x c h1
 ·intro p hp;cases hp
 ·unfold iq;simp only[List.length_append,List.length_replicate,List.length_map];show own.length+caps.length=(own++capN).length;rw[List.length_append,B.cap.len]
end
end DL
namespace DL
open PySem PySem.Spec PyProof.Rows L2
def PFd(X:Cx)(ifs:List Expr)(f:DSt->M Bool):Prop:=∀(pins:Pins) (s:Shared) (σ:L2.St) (H:Hp) (J:List Addr) (r:DSt) (S:List Cell) (Q:Bool->Shared->Prop) (E:Value->Shared->Prop),
 At X pins σ H J r S s->MtB X pins σ H J (f r S) Q E->wpAny (model X.prog X.w) X.A (forIn ifs true fun c b=>if b=true then do let ok <-isTrue c X.env (eval c X.env);pure (ForInStep.yield ok) else pure (ForInStep.yield b)) Q E s
theorem lI{X:Cx}:PFd X [] (fun _=>M.ret true):=fun pins s σ H J r S Q E I m=>wpAny_tests_nil (m.ok_ I)
theorem BT{X:Cx}{c:Expr}{f:DSt->M Bool}(h:PTd X c f):PFd X [c] f:=fun pins s σ H J r S Q E I m=>wpAny_tests_one (h pins s σ H J r S Q E I m)
open Classical in
def fT(tg:TGd)(ti:DSt->M Bool)(fe:DSt->M D)(n:Nat)(g:Option (Nat×List D))(r0:DSt):List D->List Cell->R Unit
 |[],S=>.ok () S
 |x :: xs,S=>match tg x r0 with
  |none=>.bad
  |some r1=>match ti r1 S with
   |.ok false S1=>if gok g S1 then fT tg ti fe n g r0 xs S1 else .bad
   |.ok true S1=>(match fe r1 S1 with
    |.ok d S2=>(match S2[n]? with
     |some (.lst ys)=>cif (ys.length<sizeLine/\gok g (S2.set n (.lst (ys++[d])))) (fT tg ti fe n g r0 xs (S2.set n (.lst (ys++[d])))) .bad
     |_=>.bad)
    |_=>.bad)
   |_=>.bad
def iy(f:DSt->M Wk)(tg:TGd)(ti:DSt->M Bool)(fe:DSt->M D)(own:Nat)(caps:List Nat):DSt->M D:=fun r=>(f r).bind fun w S=>match fT tg ti fe S.length w.guard (iq own caps r) w.items (S++[.lst []]) with
 |.ok _ S'=>.ok (.ob S.length) S'
 |_=>.bad
def rL(own:Nat)(tg:TGd):Prop:=∀d r r',tg d r=some r'->r'.length=r.length/\∀i,own<=i->r'[i]?=r[i]?
theorem jP{own i:Nat}(h:i<own):rL own (gN i):=fun d r r' e=>by
 cases e;exact⟨by simp,fun j hj=>by rw[List.getElem?_set_ne (by omega)]⟩
theorem uS{own:Nat}:∀{is:List Nat},(∀i∈is,i<own)->∀{ds:List D}{r r':DSt},gNs is ds r=some r'->r'.length=r.length/\∀i,own<=i->r'[i]?=r[i]?
 |[],_,[],r,r',e=>by cases e;exact⟨rfl,fun _ _=>rfl⟩
 |[],_,_ :: _,r,r',e=>by cases e
 |i :: is,h,[],r,r',e=>by cases e
 |i :: is,h,d :: ds,r,r',e=>by
  obtain⟨a,b⟩:=uS (is:=is) (fun j hj=>h j (List.mem_cons_of_mem _ hj)) (show gNs is ds (r.set i (some d))=some r' from e);refine⟨by rw[a];simp,fun j hj=>?_⟩;have:=h i (by simp);rw[b j hj,List.getElem?_set_ne (by omega)]
theorem AH{own:Nat}{is:List Nat}(h:∀i∈is,i<own):rL own (gT is):=fun d r r' e=>by
 cases d with
 |tup ds=>exact uS h e
 |_=>cases e
theorem RepL.own{K:PySem.W.Frag}{H:Hp}{J:List Addr}{own:Nat}{caps:List Nat}{r r1:DSt}{σ:L2.St}{tg:TGd}{d:D}(ho:rL own tg)(e:tg d (iq own caps r)=some r1)(h:RepL K H J r1 σ):RepL K H J (iq own caps r) σ:=by
 obtain⟨a,b⟩:=ho _ _ _ e;refine⟨by rw[<-a];exact h.len,fun i d' q=>?_⟩;by_cases hi:i<own
 ·unfold iq at q;rw[List.getElem?_append_left (by simpa using hi),List.getElem?_replicate] at q;split at q<;>cases q
 ·exact h.at_ i d' (by rw[b i (by omega)];exact q)
section
variable{X:Cx}{elt target iter:Expr}{ifs:List Expr}{scope:Scope}{pos:Pos}{tg:TGd}{ti:DSt->M Bool}{fe:DSt->M D}{own:Nat}{caps:List Nat}
theorem xA(hc:X.calm=true)(hg:PGd X target tg)(ht:PFd X ifs ti)(he:PEd X elt fe)(hown:rL own tg){r:DSt}{w:Wk}{it:Addr}{fp:List Addr}{tn:Nat->Heap->Prop}{it0:It}{H0:Hp}{J0:List Addr}{n:Nat}{acc:Addr}
  (T:Turn X.prog X.w X.K target it0 fp it tn) (ok:ItOk X.K it0 w H0 J0) (hacc:J0[n]?=some acc) {RR:Result->Shared->Prop}{σ:L2.St}{S:List Cell}{s:Shared}{S':List Cell}(I:At X [] σ H0 J0 (iq own caps r) S s)
  (hfp:∀b∈fp,FpOk X [] H0 b) (st:tn 0 s.heap) (gk:gok w.guard S) (hr:fT tg ti fe n w.guard (iq own caps r) w.items S=.ok () S')
  (hR:∀s' σ' H' J',Inv X [] σ' H' s'->RepS X.K H' J' S'->Ext H0 J0 H' J'->RR (.ok .next) s') :
  codeAny (model X.prog X.w) X.A (.compLoop (.ListComp elt [⟨target,iter,ifs,0⟩] scope pos) 0 (.ref it) (.ref acc) X.env) RR s:=by
 have stat:∀{H':Hp},(∀b∈fp,H' b=none)->∀b∈fp,FpOk X [] H' b:=fun hn b hb=>⟨hn b hb,(hfp b hb).2⟩
 refine codeAny_loop rfl (fun k s'=>∃i σ' H' J' S1,At X [] σ' H' J' (iq own caps r) S1 s'/\Ext H0 J0 H' J'/\tn i s'.heap/\(∀b∈fp,H' b=none)/\gok w.guard S1/\k=w.items.length-i/\i<=w.items.length/\
  fT tg ti fe n w.guard (iq own caps r) (w.items.drop i) S1=.ok () S') ?_ w.items.length ⟨0,σ,H0,J0,S,I,Ext.refl _ _,st,fun b hb=>(hfp b hb).1,gk,by simp,Nat.zero_le _,by simpa using hr⟩
 rintro k s3 ⟨i,σ3,H3,J3,S3,I3,x3,st3,fr3,gk3,rfl,hil,m3⟩;show wpAny _ X.A ((compTurn (.ListComp elt [⟨target,iter,ifs,0⟩] scope pos) 0 (.ref it) (.ref acc) X.env).onRaise (fun x=>do noteFrame x X.env;theTreesLotGoes x)) _ _ s3;refine wpAny_noted ?_;rw[compTurn_list];refine wpAny_bind (wpAny_standAt (wpAny_bind ?_));obtain⟨hgo,hstop,hyld⟩:=ok H3 J3 S3 x3 I3.st gk3;by_cases hi':i<w.items.length
 ·obtain⟨d,hd⟩:∃d,w.items[i]?=some d:=⟨w.items[i],by simp[hi']⟩;rw[List.drop_eq_getElem_cons hi'] at m3;have hd':w.items[i]=d:=by
   rw[List.getElem?_eq_getElem hi'] at hd;exact Option.some.inj hd
  rw[hd'] at m3;unfold fT at m3;cases eg:tg d (iq own caps r) with
  |none=>rw[eg] at m3;cases m3
  |some r4=>
   rw[eg] at m3;dsimp only at m3;refine thn (T.item X rfl rfl rfl hc i [] s3 σ3 H3 _ I3.inv (stat fr3) st3 (hgo i hi')) fun rr s4 ⟨u,hr,h4⟩=>?_
   subst hr;refine wpAny_bind (thn h4 fun _ s5 ⟨x,H5,I5,r5,y5,st5,fr5⟩=>?_);obtain⟨J5,x5,rs5,rv5⟩:=hyld i x H5 y5 d hd;have I5':=I5.pinned (stat fr5) (T.obj _ _ st5);refine wpAny_bind (hg _ s5 σ3 H5 J5 (iq own caps r) S3 d x u _ _ r4 ⟨I5',I3.loc.ext x5,rs5⟩ rv5 r5 eg fun s6 σ6 H6 J6 I6 x6=>?_);have back:∀{σ7:L2.St}{H7:Hp}{J7:List Addr}{S7:List Cell}{s7:Shared},At X ([]++nj fp s5.heap) σ7 H7 J7 r4 S7 s7->Ext H6 J6 H7 J7->gok w.guard S7->fT tg ti fe n w.guard (iq own caps r) (w.items.drop (i+1)) S7=.ok () S'->
     ∃m,m<w.items.length-i/\∃i σ' H' J' S1,At X [] σ' H' J' (iq own caps r) S1 s7/\Ext H0 J0 H' J'/\tn i s7.heap/\(∀b∈fp,H' b=none)/\gok w.guard S1/\m=w.items.length-i/\i<=w.items.length/\
      fT tg ti fe n w.guard (iq own caps r) (w.items.drop i) S1=.ok () S':=by
    intro σ7 H7 J7 S7 s7 I7 x7 gk7 m7;refine⟨w.items.length-(i+1),by omega,i+1,σ7,H7,J7,S7,⟨I7.inv.unpinned,RepL.own hown eg I7.loc,I7.st⟩,((x3.trans x5).trans x6).trans x7,T.keep _ _ _ st5 fun b hb o e=>(I7.inv.pin (b,o) (List.mem_append_right _ (List.mem_append_right _ (jJ hb e)))).1,fun b hb=>?_,gk7,rfl,hi',m7⟩;obtain⟨o,e,d⟩:=T.obj _ _ st5 b hb;exact(I7.inv.pin (b,o) (List.mem_append_right _ (List.mem_append_right _ (jJ hb e)))).2.1
   refine wpAny_bind (ht _ s6 σ6 H6 J6 r4 S3 _ _ I6 ?_);cases et:ti r4 S3 with
   |bad=>rw[et] at m3;cases m3
   |exc c S4=>rw[et] at m3;cases m3
   |ok b S4=>
    rw[et] at m3;rintro s7 ⟨H7,I7,J7,x7,rs7⟩;have A7:At X ([]++nj fp s5.heap) σ6 H7 J7 r4 S4 s7:=⟨I7,I6.loc.ext x7,rs7⟩;cases b with
    |false=>
     dsimp only at m3;by_cases g4:gok w.guard S4
     ·rw[if_pos g4] at m3;exact wpAny_pure ⟨rfl,back A7 x7 g4 m3⟩
     ·rw[if_neg g4] at m3;cases m3
    |true=>
     dsimp only at m3;refine wpAny_bind (wpAny_bind (he _ s7 σ6 H7 J7 r4 S4 _ _ A7 ?_));cases ee:fe r4 S4 with
     |bad=>rw[ee] at m3;cases m3
     |exc c S5=>rw[ee] at m3;cases m3
     |ok dv S5=>
      rw[ee] at m3;rintro v s8 ⟨vx,H8,I8,r8,J8,x8,rs8,rv8⟩;dsimp only at m3;have hacc8:J8[n]?=some acc:=by
       obtain⟨m1,e1⟩:=((((x3.trans x5).trans x6).trans x7).trans x8).pre;rw[e1,List.getElem?_append_left (List.getElem?_eq_some_iff.mp hacc).1];exact hacc
      obtain⟨c8,hc8,rc8⟩:=rs8.cellA hacc8;rw[hc8] at m3;cases c8 with
      |lst ys=>
       dsimp only at m3;by_cases g5:ys.length<sizeLine/\gok w.guard (S5.set n (.lst (ys++[dv])))
       ·rw[cq g5] at m3;obtain⟨vs,hvs,rvs⟩:=rc8;refine wpAny_bind (wpAny_mono (rV (X:=X.wish (notedBy (model X.prog X.w) X.A X.env fun e s'=>RR (.error e) s')) _ s8 σ6 H8 (.ref acc) [vx] (.ref acc) [v] (fun v' H9=>v'=.non/\H9=upd H8 acc (.lst (vs++[vx]))) (I8.wish _) rfl (.cons r8 .nil)
         ⟨acc,vs,vx,rfl,rfl,hvs,by rw[rvs.length];exact g5.1,rfl,rfl⟩) (fun v' s9 q=>?_) fun _ _ z=>z)
        obtain⟨v9,H9,I9,r9,rfl,rfl⟩:=q;have x9:Ext H8 J8 (upd H8 acc (.lst (vs++[vx]))) J8:=Ext.write hvs rfl;have rs9:RepS X.K (upd H8 acc (.lst (vs++[vx]))) J8 (S5.set n (.lst (ys++[dv]))):=rs8.write hacc8 ⟨_,bE,(rvs.ext x9).append (.one (rv8.ext x9))⟩;exact wpAny_pure (wpAny_pure ⟨rfl,back ⟨I9.unwish,(A7.loc.ext x8).ext x9,rs9⟩ ((x7.trans x8).trans x9) g5.2 m3⟩)
       ·rw[wn g5] at m3;cases m3
      |_=>cases m3
 ·have e:i=w.items.length:=by omega
  subst e;rw[List.drop_length] at m3;cases m3;refine thn (T.done X rfl rfl rfl hc _ [] s3 σ3 H3 _ I3.inv (stat fr3) st3 hstop) fun rr s4 ⟨hr,I4⟩=>?_
  subst hr;exact wpAny_pure (hR s4 σ3 H3 J3 I4 I3.st x3)
end
section
variable{X:Cx}{elt target iter:Expr}{ifs:List Expr}{scope:Scope}{pos:Pos}{f:DSt->M Wk}{tg:TGd}{ti:DSt->M Bool}{fe:DSt->M D}{own capN:List Str}{caps:List Nat}{cl:List (Str×Addr)}
structure CompEnd(X:Cx)(pins:Pins)(σ:L2.St)(H:Hp)(J:List Addr)(n:Nat)(S':List Cell)(D C:Addr)(s':Shared):Prop where
 ex:∃H' J',Inv X pins σ H' s'/\Ext H J H' J'/\RepS X.K H' J' S'/\J'[n]?=some D/\H' C=none/\C≠X.env.locals/\X.s₀.heap.objs.size<=C/\(∀x c,X.env.cells.lookup x=some c->c≠C)/\∀p∈X.pn++pins,p.1≠C
 ns:∃m,s'.heap.Ns C m
theorem w8(B:BlkOk X scope own capN caps cl)(hc:X.calm=true)(hown:rL own.length tg)
  (hB:∀(C:Addr) (s2:Shared) (H2:Hp) (fp:List Addr),PGd (blk X scope (own++capN) cl C s2 H2 fp) target tg/\PFd (blk X scope (own++capN) cl C s2 H2 fp) ifs ti/\PEd (blk X scope (own++capN) cl C s2 H2 fp) elt fe)
  {pins:Pins}{s2:Shared}{σ:L2.St}{H2:Hp}{J2:List Addr}{r:DSt}{S:List Cell}{w:Wk}{S':List Cell}{RR:Value->Addr->Result->Shared->Prop}{E:Value->Shared->Prop}
  {it:Addr}{fp:List Addr}{tn:Nat->Heap->Prop}{it0:It}(I2:At X pins σ H2 J2 r S s2) (T:Turn X.prog X.w X.K target it0 fp it tn) (ok:ItOk X.K it0 w H2 J2) (hfp:∀b∈fp,FpOk X pins H2 b) (st:tn 0 s2.heap) (gk:gok w.guard S)
  (hr:fT tg ti fe S.length w.guard (iq own.length caps r) w.items (S++[.lst []])=.ok () S')
  (hR:∀D C s',CompEnd X pins σ H2 J2 S.length S' D C s'->RR (.ref D) C (.ok .next) s') :
  wpAny (model X.prog X.w) X.A (newList []) (fun acc s₃=>wpAny (model X.prog X.w) X.A (newFunctionEnv scope X.env.globals cl [] X.env.qual none .none (some X.env)) (fun cenv s₄=>
   codeAny (model X.prog X.w) X.A (.compStart (.ListComp elt [⟨target,iter,ifs,0⟩] scope pos) 0 (.ref it) acc { cenv with scope:=relabel scope X.env }) (RR acc cenv.locals) s₄) E s₃) E s2:=by
 refine wpAny_newObj_type (wpAny_newFunctionEnv B.nocell (by intro y hy;simp at hy) (fun h₁ hns₁ hsb₁=>?_) B.kind);dsimp only at hns₁ hsb₁ ⊢;have hsz:(s2.heap.push { cls:=.type "list",dict:=none,data:=.seq ([]:List Value).toArray }).objs.size=s2.heap.objs.size+1:=by rw[Heap.size_push]
 rw[hsz] at hns₁ hsb₁ ⊢;have keep:∀b o,s2.heap.get? b=some o->h₁.get? b=some o:=fun b o e=>
  hsb₁.extBut b o (Nat.ne_of_lt (Nat.lt_succ_of_lt (Heap.lt_size e))) (Heap.get?_push_of_some _ (Heap.get?_push_of_some _ e))
 have hl:h₁.get? s2.heap.objs.size=some { cls:=.type "list",data:=.seq #[] }:=hsb₁.extBut _ _ (Nat.ne_of_lt (Nat.lt_succ_self _)) (Heap.get?_push_of_some _ (Heap.get?_push_size _ rfl));have fpo:∀b∈fp,∃o,s2.heap.get? b=some o:=fun b hb=>let ⟨o,e,_⟩:=T.obj _ _ st b hb;⟨o,e⟩
 have hf0:H2 s2.heap.objs.size=none:=I2.inv.hok.fresh (Nat.le_refl _);have IB:=xb (tk:=s2.toks+([]:List (Str×Value)).length) B I2.inv hfp fpo (by simpa using hns₁) hl keep;have st1:tn 0 h₁:=T.keep _ _ _ st fun b hb o e=>keep b o e
 obtain⟨hg,ht,he⟩:=hB (s2.heap.objs.size+1) s2 H2 fp;have x0:Ext H2 J2 (upd H2 s2.heap.objs.size (.lst [])) (J2++[s2.heap.objs.size]):=(Ext.new hf0).snoc _;have rs0:RepS X.K (upd H2 s2.heap.objs.size (.lst [])) (J2++[s2.heap.objs.size]) (S++[.lst []]):=I2.st.push hf0 ⟨[],bE,.nil⟩;have loop:codeAny (model X.prog X.w) X.A (.compLoop (.ListComp elt [⟨target,iter,ifs,0⟩] scope pos) 0 (.ref it) (.ref s2.heap.objs.size) (compEnvC scope cl (s2.heap.objs.size+1) X.env)) (RR (.ref s2.heap.objs.size) (s2.heap.objs.size+1))
   { s2 with heap:=h₁,toks:=s2.toks+([]:List (Str×Value)).length }:=by
  refine xA (X:=blk X scope (own++capN) cl (s2.heap.objs.size+1) s2 H2 fp) (own:=own.length) (caps:=caps) (r:=r) (w:=w) (n:=S.length) hc hg ht he hown (H0:=upd H2 s2.heap.objs.size (.lst [])) (J0:=J2++[s2.heap.objs.size]) (it0:=it0) (fp:=fp) (tn:=tn) T
   ?_ ?_ (S:=S++[Cell.lst []]) ⟨IB,(I2.loc.ext x0).cap _ _,rs0⟩ ?_ st1 ?_ hr ?_
  ·exact fun H J S1 x rs g=>ok H J S1 (x0.trans x) rs g
  ·rw[<-I2.st.len];simp
  ·intro b hb;obtain⟨o,hbo⟩:=fpo b hb;obtain⟨f0,f1,f2,f3,f4,f5⟩:=hfp b hb;refine⟨by rw[br (Nat.ne_of_lt (Heap.lt_size hbo))];exact f0,Nat.ne_of_lt (Nat.lt_succ_of_lt (Heap.lt_size hbo)),?_,.inl hb,fun x c h=>f4 x c (nk B.cells h),fun p hp=>by cases hp⟩;intro hbs;rcases List.mem_cons.mp (I2.inv.stkSub b hbs) with e|e
   ·exact f1 e
   ·exact f2 e
  ·cases eg:w.guard with
   |none=>trivial
   |some q=>
    obtain⟨k,xs⟩:=q;rw[eg] at gk;show(S++[Cell.lst []])[k]?=_;rw[List.getElem?_append_left (List.getElem?_eq_some_iff.mp gk).1];exact gk
  ·intro s' σ' H' J' I' rs' x';refine hR _ _ s' ⟨⟨H',J',?_,x0.trans x',rs',?_,I'.free,?_,?_,?_,?_⟩,?_⟩
   ·refine I2.inv.call' (ch:=fp) I'.os I'.base I'.hok I'.bare fun b hb=>?_
    obtain⟨f0,f1,f2,f3,f4,f5⟩:=hfp b hb;exact⟨f3,f1,f4,f5⟩
   ·obtain⟨m,em⟩:=x'.pre;rw[em,List.getElem?_append_left (by rw[List.length_append,I2.st.len];simp),<-I2.st.len];simp
   ·exact(Nat.ne_of_lt (Nat.lt_succ_of_lt I2.inv.lt)).symm
   ·exact Nat.le_trans I2.inv.sz (Nat.le_succ _)
   ·intro x c h;obtain⟨v,o,ho,_⟩:=I2.inv.cell x c h;exact Nat.ne_of_lt (Nat.lt_succ_of_lt (Heap.lt_size ho))
   ·intro p hp;obtain⟨h1,_⟩:=I2.inv.pin p hp;exact Nat.ne_of_lt (Nat.lt_succ_of_lt (Heap.lt_size h1))
   ·obtain⟨m,hm,_⟩:=I'.loc;exact⟨m,hm⟩
 exact codeAny_compStart_list loop (T.self _ 0 _ _ _ st1 loop)
theorem CompEnd.let_go{pins:Pins}{σ:L2.St}{H:Hp}{J:List Addr}{n:Nat}{S':List Cell}{D C:Addr}{s':Shared}(h:CompEnd X pins σ H J n S' D C s'){h':Heap}(hs:Heap.SameBut C s'.heap h') :
  ∃H' J',Inv X pins σ H' { s' with heap:=h' }/\Ext H J H' J'/\RepS X.K H' J' S'/\J'[n]?=some D:=by
 obtain⟨H',J',I,x,rs,hn,f0,f1,f2,f3,f4⟩:=h.ex;exact⟨H',J',I.turned (t':=s'.toks) (fun b o hb e=>(hs.2 b hb).trans e) f0 f1 (.inr f2) f3 f4,x,rs,hn⟩
theorem iV(B:BlkOk X scope own capN caps cl)(hc:X.calm=true)(hi:PId X target iter f)(hown:rL own.length tg)
  (hB:∀(C:Addr) (s2:Shared) (H2:Hp) (fp:List Addr),PGd (blk X scope (own++capN) cl C s2 H2 fp) target tg/\PFd (blk X scope (own++capN) cl C s2 H2 fp) ifs ti/\PEd (blk X scope (own++capN) cl C s2 H2 fp) elt fe)
  (hs:∀x,foldedSetIterable iter X.env x=pure x:=by intro _;rfl) :
  PEd X (.ListComp elt [⟨target,iter,ifs,0⟩] scope pos) (iy f tg ti fe own.length caps):=by
 intro pins s σ H J r S Q E I m;rw[eval_ListComp];refine wpAny_comprehension_free (use:=none) rfl hs B.clos B.kind B.names (hi pins s σ H J r S _ E I ?_);unfold iy M.bind at m;cases ef:f r S with
 |bad=>rw[ef] at m;exact m
 |exc c S1=>rw[ef] at m;exact m
 |ok w S1=>
  rw[ef] at m;dsimp only at m;rintro itv s2 ⟨it,fp,tn,it0,H2,rfl,I2,T,st2,f2,J2,x2,rs2,gk,ok⟩;cases er:fT tg ti fe S1.length w.guard (iq own.length caps r) w.items (S1++[.lst []]) with
  |bad=>rw[er] at m;exact m.elim
  |exc c S3=>rw[er] at m;exact m.elim
  |ok uu S'=>
   rw[er] at m;refine w8 (RR:=fun acc C=>compPost (model X.prog X.w) X.A E none Q acc C) B hc hown hB ⟨I2,I.loc.ext x2,rs2⟩ T ok f2 st2 gk er fun D C s' ce=>?_
   obtain⟨mC,hmC⟩:=ce.ns;refine⟨mC,hmC,fun h' hs'=>?_⟩;obtain⟨H',J',I',x',rs',hn⟩:=ce.let_go hs';exact m _ _ ⟨.ref D,H',I',rfl,J',x2.trans x',rs',.ob hn⟩
end
end DL
namespace DL
open PySem PySem.Spec PyProof.Rows L2
mutual
def wfD(n:Nat):D->Prop
 |.tup xs=>iZ n xs
 |.rol xs=>iZ n xs
 |.ob k=>k<n
 |_=>True
def iZ(n:Nat):List D->Prop
 |[]=>True
 |x :: xs=>wfD n x/\iZ n xs
end
section
variable{K:PySem.W.Frag}{H:Hp}{J m:List Addr}
mutual
theorem RepV.wf:∀{d:D}{v:V},RepV K H J d v->wfD J.length d
 |.non,_,_=>by unfold wfD;trivial
 |.bl _,_,_=>by unfold wfD;trivial
 |.int _,_,_=>by unfold wfD;trivial
 |.str _,_,_=>by unfold wfD;trivial
 |.xn _,_,_=>by unfold wfD;trivial
 |.tup xs,_,h=>by
  obtain⟨a,vs,_,_,h⟩:=h.tup_;unfold wfD;exact RepVs.wf h
 |.rol xs,_,h=>by
  obtain⟨a,vs,_,_,h⟩:=h.rol_;unfold wfD;exact RepVs.wf h
 |.ob k,_,h=>by
  obtain⟨a,_,h⟩:=h.ob_;unfold wfD;exact(List.getElem?_eq_some_iff.mp h).1
theorem RepVs.wf:∀{xs:List D}{vs:List V},RepVs K H J xs vs->iZ J.length xs
 |[],_,_=>by unfold iZ;trivial
 |x :: xs,_,h=>by
  unfold RepVs at h;obtain⟨v,r,_,h1,h2⟩:=h;unfold iZ;exact⟨RepV.wf h1,RepVs.wf h2⟩
end
mutual
theorem RepV.shrink:∀{d:D}{v:V},wfD J.length d->RepV K H (J++m) d v->RepV K H J d v
 |.non,_,_,h=>by unfold RepV at h ⊢;exact h
 |.bl _,_,_,h=>by unfold RepV at h ⊢;exact h
 |.int _,_,_,h=>by unfold RepV at h ⊢;exact h
 |.str _,_,_,h=>by unfold RepV at h ⊢;exact h
 |.xn _,_,_,h=>by unfold RepV at h ⊢;exact h
 |.tup xs,_,w,h=>by
  unfold wfD at w;unfold RepV at h ⊢;obtain⟨a,vs,h1,h2,h3⟩:=h;exact⟨a,vs,h1,h2,RepVs.shrink w h3⟩
 |.rol xs,_,w,h=>by
  unfold wfD at w;unfold RepV at h ⊢;obtain⟨a,vs,h1,h2,h3⟩:=h;exact⟨a,vs,h1,h2,RepVs.shrink w h3⟩
 |.ob k,_,w,h=>by
  unfold wfD at w;unfold RepV at h ⊢;obtain⟨a,h1,h2⟩:=h;rw[List.getElem?_append_left w] at h2;exact⟨a,h1,h2⟩
theorem RepVs.shrink:∀{xs:List D}{vs:List V},iZ J.length xs->RepVs K H (J++m) xs vs->RepVs K H J xs vs
 |[],_,_,h=>by unfold RepVs at h ⊢;exact h
 |x :: xs,_,w,h=>by
  unfold iZ at w;unfold RepVs at h ⊢;obtain⟨v,r,h1,h2,h3⟩:=h;exact⟨v,r,h1,RepV.shrink w.1 h2,RepVs.shrink w.2 h3⟩
end
def BH{κ:Type}(n:Nat)(xs:List (κ×D)):Prop:=∀p∈xs,wfD n p.2
theorem RepPs.wf{κ:Type}:∀{xs:List (κ×D)}{ws:List (κ×V)},RepPs K H J xs ws->BH J.length xs
 |[],_,_=>fun p hp=>by cases hp
 |(k,d) :: r,ws,h=>by
  obtain⟨v,t,_,h1,h2⟩:=h;intro p hp;rcases List.mem_cons.mp hp with rfl|hp
  ·exact h1.wf
  ·exact RepPs.wf h2 p hp
theorem RepPs.shrink{κ:Type}:∀{xs:List (κ×D)}{ws:List (κ×V)},BH J.length xs->RepPs K H (J++m) xs ws->RepPs K H J xs ws
 |[],_,_,h=>h
 |(k,d) :: r,ws,w,h=>by
  obtain⟨v,t,h0,h1,h2⟩:=h;exact⟨v,t,h0,h1.shrink (w (k,d) (by simp)),RepPs.shrink (fun p hp=>w p (List.mem_cons_of_mem _ hp)) h2⟩
def wfC(n:Nat):Cell->Prop
 |.lst xs=>iZ n xs
 |.dic kvs=>BH n kvs
 |.ins _ _ ds=>iZ n ds
theorem RepC.wf{c:Cell}{a:Addr}(h:RepC K H J c a):wfC J.length c:=by
 cases c with
 |lst xs=>obtain⟨vs,_,r⟩:=h;exact r.wf
 |dic xs=>obtain⟨vs,_,r⟩:=h;exact r.wf
 |ins C ns ds=>obtain⟨dx,vs,_,_,r⟩:=h;exact r.wf
theorem RepC.shrink{c:Cell}{a:Addr}(w:wfC J.length c)(h:RepC K H (J++m) c a):RepC K H J c a:=by
 cases c with
 |lst xs=>obtain⟨vs,e,r⟩:=h;exact⟨vs,e,r.shrink w⟩
 |dic xs=>obtain⟨vs,e,r⟩:=h;exact⟨vs,e,r.shrink w⟩
 |ins C ns ds=>obtain⟨dx,vs,e,q,r⟩:=h;exact⟨dx,vs,e,q,r.shrink w⟩
theorem RepS.wf{S:List Cell}(h:RepS K H J S){n:Nat}{c:Cell}(hn:S[n]?=some c):wfC S.length c:=by
 obtain⟨a,_,r⟩:=h.cell hn;rw[<-h.len];exact r.wf
theorem RepS.shrink{S G:List Cell}{J':List Addr}(h:RepS K H J' (S++G))(hw:∀(n:Nat) c,S[n]?=some c->wfC S.length c):RepS K H (J'.take S.length) S:=by
 have hl:=h.len;rw[List.length_append] at hl;have hj:(J'.take S.length).length=S.length:=by rw[List.length_take];omega
 refine⟨hj,h.nd.sublist (List.take_sublist _ _),fun n c a hc ha=>?_⟩;have hn:=(List.getElem?_eq_some_iff.mp hc).1;have ha':J'[n]?=some a:=by
  rw[List.getElem?_take] at ha;rw[if_pos hn] at ha;exact ha
 have r:=h.at_ n c a (by rw[List.getElem?_append_left hn];exact hc) ha';have w:=hw n c hc;rw[<-hj] at w;rw[<-List.take_append_drop S.length J'] at r;exact r.shrink w
theorem Got.drop{H':Hp}{S0 S G:List Cell}{d:D}{v:V}(h:Got K H J d (S++G) v H')(r0:RepS K H J S0)(hl:S0.length<=S.length)(hd:wfD S.length d)(hw:∀(n:Nat) c,S[n]?=some c->wfC S.length c):Got K H J d S v H':=by
 obtain⟨J',x,rs,rv⟩:=h;have hlen:=rs.len;rw[List.length_append] at hlen;have hj:(J'.take S.length).length=S.length:=by rw[List.length_take];omega
 refine⟨J'.take S.length,⟨x.st,?_⟩,rs.shrink hw,?_⟩
 ·obtain⟨more,e⟩:=x.pre;refine⟨more.take (S.length-J.length),?_⟩;rw[e,List.take_append,List.take_of_length_le (by rw[r0.len];exact hl)]
 ·rw[<-hj] at hd;rw[<-List.take_append_drop S.length J'] at rv;exact rv.shrink hd
end
def BD(S0:List Cell)(x:RSt)(y:R D):Prop:=match y with
 |.ok d S'=>∃G,(G=[]\/(S0.length<=S'.length/\wfD S'.length d/\(S'=S0\/∀(n:Nat) c,S'[n]?=some c->wfC S'.length c)))/\(x=some (.rt d,S'++G)\/(d=.non/\∃r',x=some (.nx r',S'++G)))
 |.exc c S'=>∃r',x=some (.xc c r',S')
 |.bad=>True
def ze(CX:CXT)(X:Cx)(E:XK):Prop:=∀(σ:L2.St) (H':Hp) (s':Shared) (e:Value) (c:Addr),XInv X [] σ H' s' e c->(∀p o,H' p=none->E (.ref c) none (upd H' p o))->X.xe e s'
section
variable{P:Program}{w:World}{K:PySem.W.Frag}{mg:Str->Option Value}{base:Heap}{CX:CXT}
theorem pE{x qual:Str}{st:Stmt}{f:Addr}{fd:FuncData}{N ps:List Str}{k:Nat}{F:List D->M D}(hF:Fun K x qual st f fd)(S:FnScope N ps (defScope st))
  (hleave:∀(cdv:Value) (A:Around) (outer:List Env) (s:Shared) (H:Hp) (E:XK),ze CX (ou CX P w K mg base N qual (defScope st) f cdv A outer s H E) E)
  (hbody:∀(cdv:Value) (A:Around) (outer:List Env) (s:Shared) (H:Hp) (E:XK),Room k (A.deeper (envOfC qual (defScope st) s.heap.objs.size f cdv))->
   ∃t,mL (ou CX P w K mg base N qual (defScope st) f cdv A outer s H E) (defBody st) t/\∀xs S0,xs.length=ps.length->BD S0 (t (xs.map some++List.replicate (N.length-xs.length) none) S0) (F xs S0)) :
  FnD P w K mg base CX (k+1) f fd ps F:=by
 obtain⟨oc,od,kV,doc,pm,an,cdv,ct,osl,rfl,lk,hcd⟩:=hF.ex;refine Be lk hcd S (fun vs H Q E h=>h.1) (fun A outer s H vs Q E hr h=>?_);obtain⟨hlen,J,xs,S0,rx,rs,h⟩:=h;obtain⟨t,ht,hend⟩:=hbody cdv A outer s H E hr;have hl:xs.length=ps.length:=by rw[<-rx.length];exact hlen
 have he:=hend xs S0 hl;refine⟨fun D σ H'=>D = { nx:=fun _ H'=>Q .non H',rt:=Q }/\σ=L2.start N vs/\H'=H,?_,rfl,rfl,rfl⟩;rintro pins s1 σ1 H1 D1 I1 ⟨rfl,rfl,rfl⟩;refine ht pins s1 _ _ J _ S0 _ _ ⟨I1,RepL.start rx,rs⟩ ?_;have wf0:∀(n:Nat) c,S0[n]?=some c->wfC S0.length c:=fun n c h=>rs.wf h
 cases ef:F xs S0 with
 |bad=>rw[ef] at h;exact h.elim
 |ok d S'=>
  rw[ef] at he h;dsimp only at h;obtain⟨G,hG,hx⟩:=he;have fin:∀{v:V}{H':Hp},Got K H1 J d (S'++G) v H'->Q v H':=fun {v H'} g=>by
   rcases hG with rfl|⟨h1,h2,h3⟩
   ·rw[List.append_nil] at g;exact h v H' g
   ·refine h v H' (g.drop rs h1 h2 ?_);rcases h3 with rfl|h3
    ·exact wf0
    ·exact h3
  rcases hx with hx|⟨rfl,r',hx⟩
  ·rw[hx];exact fun u s' σ' ⟨v,H',I',rv,g⟩=>⟨v,σ',H',I',rv,fin g⟩
  ·rw[hx];exact fun s' σ' H' J' a x=>⟨σ',H',a.inv,fin ⟨J',x,a.st,RepV.non _ _ _⟩⟩
 |exc c S'=>
  rw[ef] at he h;dsimp only at h;obtain⟨r',hx⟩:=he;rw[hx];exact fun e s' σ' H' J' XI rl rs' x=>hleave cdv A outer s H1 E σ' H' s' e c ⟨XI.inv.pins_of (fun p hp=>(nomatch hp)),XI.fly⟩ (fun p o hp=>h (upd H' p o) ⟨J',x.trans (Ext.new hp),rs'.new hp⟩)
end
end DL
namespace DL
open PySem PySem.Spec PyProof.Rows L2
mutual
def pD(S:List Cell):Nat->D->Option PyData
 |0,_=>none
 |n+1,.non=>some .none
 |n+1,.bl b=>some (.bool b)
 |n+1,.int i=>some (.int i)
 |n+1,.str x=>if PyData.canLay0 (.str x)=true then some (.str x) else none
 |n+1,.tup xs=>(pDs S n xs).map .tuple
 |n+1,.rol xs=>(pDs S n xs).map .list
 |n+1,.ob k=>match S[k]? with
  |some (.lst xs)=>(pDs S n xs).map .list
  |_=>none
 |n+1,.xn _=>none
def pDs(S:List Cell)(n:Nat):List D->Option (List PyData)
 |[]=>some []
 |x :: xs=>match pD S n x,pDs S n xs with
  |some p,some ps=>some (p :: ps)
  |_,_=>none
end
section
variable{X:Cx}{pins:Pins}{σ:L2.St}{H:Hp}{J:List Addr}{S:List Cell}{s:Shared}
mutual
theorem kj(I:Inv X pins σ H s)(rs:RepS X.K H J S):∀{n:Nat}{d:D}{v:V}{u:Value}{p:PyData},RepV X.K H J d v->RelV v u->pD S n d=some p->(∃as,Reads s.heap u p as)/\p.canLay0=true/\p.depth<=n
 |0,_,_,_,_,_,_,e=>by unfold pD at e;cases e
 |n+1,.non,_,_,_,rv,r,e=>by
  cases rv.non_;cases r;unfold pD at e;cases e;exact⟨⟨_,.none⟩,rfl,Nat.zero_le _⟩
 |n+1,.bl b,_,_,_,rv,r,e=>by
  cases rv.bl_;cases r;unfold pD at e;cases e;exact⟨⟨_,.bool b⟩,rfl,Nat.zero_le _⟩
 |n+1,.int i,_,_,_,rv,r,e=>by
  cases rv.int_;obtain⟨t,rfl⟩:=r;unfold pD at e;cases e;exact⟨⟨_,.int i t⟩,rfl,Nat.zero_le _⟩
 |n+1,.str x,_,_,_,rv,r,e=>by
  cases rv.str_;obtain⟨t,rfl⟩:=r;unfold pD at e;split at e
  ·rename_i h;cases e;exact⟨⟨_,.str x t⟩,h,Nat.zero_le _⟩
  ·cases e
 |n+1,.tup xs,_,_,_,rv,r,e=>by
  obtain⟨a,vs,rfl,hq,rvs⟩:=rv.tup_;cases r;obtain⟨its,rl,⟨o,ho,hc,k,hd⟩,hz⟩:=I.tuple hq;unfold pD at e;cases ep:pDs S n xs with
  |none=>rw[ep] at e;cases e
  |some ps=>
   rw[ep] at e;cases e;obtain⟨⟨as,h1⟩,h2,h3⟩:=iQ I rs rvs rl ep;exact⟨⟨_,.tuple ho hc hd (by simpa using h1)⟩,h2,Nat.succ_le_succ h3⟩
 |n+1,.rol xs,_,_,_,rv,r,e=>by
  obtain⟨a,vs,rfl,hq,rvs⟩:=rv.rol_;cases r;obtain⟨its,rl,pl,hz⟩:=I.list hq.sq;obtain⟨o,ho,hc,k,hd⟩:=pl.isList;unfold pD at e;cases ep:pDs S n xs with
  |none=>rw[ep] at e;cases e
  |some ps=>
   rw[ep] at e;cases e;obtain⟨⟨as,h1⟩,h2,h3⟩:=iQ I rs rvs rl ep;exact⟨⟨_,.list ho hc hd (by simpa using h1)⟩,h2,Nat.succ_le_succ h3⟩
 |n+1,.ob k,_,_,_,rv,r,e=>by
  obtain⟨a,rfl,hn⟩:=rv.ob_;cases r;obtain⟨c,hc,rc⟩:=rs.cellA hn;unfold pD at e;rw[hc] at e;cases c with
  |lst xs=>
   obtain⟨vs,hv,rvs⟩:=rc;obtain⟨its,rl,pl,hz⟩:=I.list (SqL.of hv);obtain⟨o,ho,hc,k,hd⟩:=pl.isList;dsimp only at e;cases ep:pDs S n xs with
   |none=>rw[ep] at e;cases e
   |some ps=>
    rw[ep] at e;cases e;obtain⟨⟨as,h1⟩,h2,h3⟩:=iQ I rs rvs rl ep;exact⟨⟨_,.list ho hc hd (by simpa using h1)⟩,h2,Nat.succ_le_succ h3⟩
  |_=>cases e
 |n+1,.xn c,_,_,_,_,_,e=>by unfold pD at e;cases e
theorem iQ(I:Inv X pins σ H s)(rs:RepS X.K H J S):∀{n:Nat}{xs:List D}{vs:List V}{us:List Value}{ps:List PyData},RepVs X.K H J xs vs->Vals vs us->pDs S n xs=some ps->(∃as,ReadsAll s.heap us ps as)/\PyData.canLayAll0 ps=true/\PyData.depthAll ps<=n
 |n,[],_,_,_,rv,r,e=>by
  unfold RepVs at rv;subst rv;cases r;unfold pDs at e;cases e;exact⟨⟨_,.nil⟩,rfl,Nat.zero_le _⟩
 |n,x :: xs,_,_,_,rv,r,e=>by
  unfold RepVs at rv;obtain⟨v,t,rfl,h1,h2⟩:=rv;cases r with
  |cons q qs=>
   unfold pDs at e;cases e1:pD S n x with
   |none=>rw[e1] at e;cases e
   |some p=>
    cases e2:pDs S n xs with
    |none=>rw[e1,e2] at e;cases e
    |some ps=>
     rw[e1,e2] at e;cases e;obtain⟨⟨as,a1⟩,a2,a3⟩:=kj I rs h1 q e1;obtain⟨⟨bs,b1⟩,b2,b3⟩:=iQ I rs h2 qs e2;refine⟨⟨_,.cons a1 b1⟩,?_,?_⟩
     ·simp[PyData.canLayAll0,a2,b2]
     ·simp only[PyData.depthAll];exact Nat.max_le.mpr ⟨a3,b3⟩
end
end
def eqD(x y:D):M D:=fun S=>match pD S 30 x,pD S 30 y with
 |some p,some q=>.ok (.bl (PyData.eqv p q)) S
 |_,_=>.bad
def neD(x y:D):M D:=fun S=>match pD S 30 x,pD S 30 y with
 |some p,some q=>.ok (.bl (!PyData.eqv p q)) S
 |_,_=>.bad
section
variable{X:Cx}
theorem cw(hu:X.A.units+64<cLine):OpD X (compareOp .Eq) eqD:=by
 intro pins s σ H J S x y vx vy v u Q E I rs rx ry rv ru m;unfold eqD at m;cases e1:pD S 30 x with
 |none=>rw[e1] at m;exact m.elim
 |some p=>
  cases e2:pD S 30 y with
  |none=>rw[e1,e2] at m;exact m.elim
  |some q=>
   rw[e1,e2] at m;obtain⟨⟨as,a1⟩,a2,a3⟩:=kj I rs rx rv e1;obtain⟨⟨bs,b1⟩,b2,b3⟩:=kj I rs ry ru e2;exact SeqAt.compareEq_reads a1 b1 a2 b2 (by have:=Nat.min_le_left p.depth q.depth;omega) (m.ok_ I rs (RepV.bl _ _ _ _) rfl)
theorem nO(hu:X.A.units+64<cLine):OpD X (compareOp .NotEq) neD:=by
 intro pins s σ H J S x y vx vy v u Q E I rs rx ry rv ru m;unfold neD at m;cases e1:pD S 30 x with
 |none=>rw[e1] at m;exact m.elim
 |some p=>
  cases e2:pD S 30 y with
  |none=>rw[e1,e2] at m;exact m.elim
  |some q=>
   rw[e1,e2] at m;obtain⟨⟨as,a1⟩,a2,a3⟩:=kj I rs rx rv e1;obtain⟨⟨bs,b1⟩,b2,b3⟩:=kj I rs ry ru e2;exact SeqAt.compareNe_reads a1 b1 a2 b2 (by have:=Nat.min_le_left p.depth q.depth;omega) (m.ok_ I rs (RepV.bl _ _ _ _) rfl)
def iOp(C:Int->Int->Prop)(g:Int->Int->D):D->D->M D
 |.int i,.int j=>fun S=>cif (C i j) (.ok (g i j) S) .bad
 |_,_=>M.bad
theorem vD{f:Value->Value->Sem Value}{C:Int->Int->Prop}{g:Int->Int->Int}(h:∀E,OpR (X.wish E) f (rI C fun i j=>.int (g i j))):OpD X f (iOp C fun i j=>.int (g i j)):=by
 refine OpD.of h (fun H J S x y vx vy d S' rs rx ry e=>?_) (fun x y S c S' e=>?_)
 ·cases x with
  |int i=>
   cases y with
   |int j=>
    cases rx.int_;cases ry.int_;simp only[iOp,cif] at e;split at e
    ·rename_i hc;cases e;exact⟨i,j,rfl,rfl,hc,J,Ext.refl _ _,rs,RepV.int _ _ _ _⟩
    ·cases e
   |_=>cases e
  |_=>cases e
 ·cases x with
  |int i=>
   cases y with
   |int j=>
    simp only[iOp,cif] at e;split at e<;>cases e
   |_=>cases e
  |_=>cases e
def sx(p:Int->Int->Bool):D->D->M D
 |.int i,.int j=>fun S=>.ok (.bl (p i j)) S
 |_,_=>M.bad
theorem sP{f:Value->Value->Sem Value}{p:Int->Int->Bool}(h:∀E,OpR (X.wish E) f (rI0 fun i j=>.bl (p i j))):OpD X f (sx p):=by
 refine OpD.of h (fun H J S x y vx vy d S' rs rx ry e=>?_) (fun x y S c S' e=>?_)
 ·cases x with
  |int i=>
   cases y with
   |int j=>
    cases rx.int_;cases ry.int_;cases e;exact⟨i,j,rfl,rfl,J,Ext.refl _ _,rs,RepV.bl _ _ _ _⟩
   |_=>cases e
  |_=>cases e
 ·cases x with
  |int i=>
   cases y with
   |int j=>cases e
   |_=>cases e
  |_=>cases e
def qx:D->D->M D:=iOp (fun _ _=>True) fun i j=>.int (i-j)
def ye:D->D->M D:=iOp Bt fun i j=>.int (i / j)
def iP:D->D->M D:=iOp (fun _ j=>0<j) fun i j=>.int (i % j)
theorem vM:OpD X (binaryOp .Sub) qx:=vD (C:=fun _ _=>True) (g:=fun i j=>i-j) fun E=>opI fun _ _ _ _ _ _ _ _ q=>sub_int q
theorem zE:OpD X (binaryOp .FloorDiv) ye:=vD fun E=>AL
theorem gJ:OpD X (binaryOp .Mod) iP:=vD fun E=>B8
theorem j2:OpD X (compareOp .Lt) (sx fun i j=>decide (i<j)):=sP fun E=>CI
theorem pR:OpD X (compareOp .LtE) (sx fun i j=>decide (i<=j)):=sP fun E=>Cm
theorem yS:OpD X (compareOp .Gt) (sx fun i j=>decide (j<i)):=sP fun E=>CQ
theorem wW:OpD X (compareOp .GtE) (sx fun i j=>decide (j<=i)):=sP fun E=>Cu
theorem yA{t b:Addr}{vs ws:List Value}{A:Around}{s:Shared}{prog:Program}{w:World}{Q E:Value->Shared->Prop}(ht:IsTup s.heap t vs.toArray)(hb:IsTup s.heap b ws.toArray)(hv:vs=[])(h1:Q (.ref b) s) :
  wpAny (model prog w) A (binaryOp .Add (.ref t) (.ref b)) Q E s:=by
 obtain⟨⟨cls,dd,data,sl⟩,ho,hc,n,hd⟩:=id ht;obtain⟨⟨cls2,dd2,data2,sl2⟩,ho2,hc2,n2,hd2⟩:=id hb;simp only at hc hd hc2 hd2;subst hc hd hc2 hd2;exact concat_meets ⟨_,ho,rfl⟩ ⟨_,ho2,rfl⟩ noFill_tuple_add seq_tuple_add PySem.F.slot_tuple_add PySem.F.entry_tuple_add (PySem.F.args_tuple_add_2 _ _)
  (tuple_addW0 t b vs.toArray ws.toArray n n2 dd dd2 sl sl2 (by simp[hv])) ⟨ho,ho2,h1⟩
def cQ(S:List Cell)(n:Nat):Option (List D):=match S[n]? with
 |some (.lst xs)=>some xs
 |_=>none
def bP:D->D->M D
 |.int i,.int j=>fun S=>.ok (.int (i+j)) S
 |.tup xs,.tup ys=>lx (xs++ys)
 |.ob n,.ob m=>fun S=>match cQ S n,cQ S m with
  |some xs,some ys=>nr (xs++ys) S
  |_,_=>.bad
 |_,_=>M.bad
theorem pF{S:List Cell}{n:Nat}{xs:List D}(h:cQ S n=some xs):S[n]?=some (.lst xs):=by
 unfold cQ at h;split at h
 ·rename_i e;rw[e];cases h;rfl
 ·cases h
theorem RepS.lst{K:PySem.W.Frag}{H:Hp}{J:List Addr}{S:List Cell}{n:Nat}{xs:List D}{a:Addr}(rs:RepS K H J S)(h:cQ S n=some xs)(hn:J[n]?=some a):∃vs,H a=some (.lst vs)/\RepVs K H J xs vs:=rs.at_ n _ a (pF h) hn
theorem cA:OpD X (binaryOp .Add) bP:=by
 intro pins s σ H J S x y vx vy v u Q E I rs rx ry rv ru m;cases x with
 |int i=>
  cases y with
  |int j=>
   cases rx.int_;cases ry.int_;obtain⟨t,rfl⟩:=rv;obtain⟨t',rfl⟩:=ru;exact add_int (m.ok_ (I.tok _) rs (RepV.int _ _ _ _) ⟨_,rfl⟩)
  |_=>exact m.elim
 |tup xs=>
  cases y with
  |tup ys=>
   obtain⟨a,vs,rfl,ha,rvs⟩:=rx.tup_;obtain⟨b,ws,rfl,hb,rws⟩:=ry.tup_;cases rv;cases ru;obtain⟨its,r1,p1,_⟩:=I.tuple ha;obtain⟨its2,r2,p2,_⟩:=I.tuple hb;simp only[bP,lx,cif] at m;split at m
   ·rename_i hz;rw[List.length_append] at hz;by_cases h0:its=[]
    ·have e0:xs=[]:=rvs.nil_iff.mp (r1.nil_iff.mp h0);subst e0;exact yA p1 p2 h0 (m.ok_ (v:=.ref b) I rs (by rw[List.nil_append];exact .tup hb rws) rfl)
    ·refine HT.cat_tup p1 p2 h0 (fun z=>?_) (fun z=>?_) (by rw[<-r1.length,<-r2.length,rvs.length,rws.length];exact hz)
     ·have e0:ys=[]:=rws.nil_iff.mp (r2.nil_iff.mp z);subst e0;exact m.ok_ (v:=.ref a) I rs (by rw[List.append_nil];exact .tup ha rvs) rfl
     ·have hf:H s.heap.objs.size=none:=I.hok.fresh (Nat.le_refl _);refine m.val (H':=upd H s.heap.objs.size (.tup (vs++ws))) (v:=.ref s.heap.objs.size) (I.laid (t':=s.toks) (fun b u e=>Heap.get?_push_of_some _ e) (Nat.le_refl _) ?_) rfl (Got.tup rs (rvs.append rws) hf);exact⟨by rw[List.length_append,rvs.length,rws.length];exact hz,_,r1.append r2,IsTup.new _ _⟩
   ·exact m.elim
  |_=>exact m.elim
 |ob n=>
  cases y with
  |ob k=>
   obtain⟨a,rfl,hn⟩:=rx.ob_;obtain⟨b,rfl,hk⟩:=ry.ob_;simp only[bP] at m;cases e1:cQ S n with
   |none=>rw[e1] at m;exact m.elim
   |some xs=>
    cases e2:cQ S k with
    |none=>rw[e1,e2] at m;exact m.elim
    |some ys=>
     rw[e1,e2] at m;obtain⟨vs,hv,rvs⟩:=rs.lst e1 hn;obtain⟨ws,hw,rws⟩:=rs.lst e2 hk;simp only[nr,cif] at m;split at m
     ·rename_i hz;rw[List.length_append] at hz;refine wpAny_mono (BY (X:=X.wish E) pins s σ H (.ref a) (.ref b) v u (Got X.K H J (.ob S.length) (S++[.lst (xs++ys)])) (I.wish E) rv ru ⟨a,b,vs,ws,rfl,rfl,hv,hw,by rw[rvs.length,rws.length];exact hz,fun p hp=>?_⟩) (fun u s' q=>m u s' (EP.unwish q)) fun _ _ z=>z
      exact Got.lst rs (rvs.append rws) hp
     ·exact m.elim
  |_=>exact m.elim
 |_=>exact m.elim
end
end DL
namespace DL
open PySem PySem.Spec PyProof.Rows L2
section
variable{X:Cx}
def gX:D->D->M D
 |.int i,.int j=>fun S=>cif (CMul i j) (.ok (.int (i * j)) S) .bad
 |.ob n,.int k=>fun S=>match cQ S n with
  |some xs=>cif ((-(2 ^ 63)<=k/\k<2 ^ 63)/\xs.length * k.toNat<=sizeLine) (.ok (.ob S.length) (S++[.lst (List.replicate k.toNat xs).flatten])) .bad
  |none=>.bad
 |_,_=>M.bad
theorem RepVs.rep{K:PySem.W.Frag}{H:Hp}{J:List Addr}{xs:List D}{vs:List V}(h:RepVs K H J xs vs):∀k:Nat,RepVs K H J (List.replicate k xs).flatten (List.replicate k vs).flatten
 |0=>.nil
 |k+1=>by
  rw[List.replicate_succ,List.replicate_succ,List.flatten_cons,List.flatten_cons];exact h.append (RepVs.rep h k)
theorem ko:OpD X (binaryOp .Mult) gX:=by
 refine OpD.of (fun E=>op_mul.or BV) (fun H J S x y vx vy d S' rs rx ry e=>?_) (fun x y S c S' e=>?_)
 ·cases x with
  |int i=>
   cases y with
   |int j=>
    cases rx.int_;cases ry.int_;simp only[gX,cif] at e;split at e
    ·rename_i hc;cases e;exact .inl ⟨i,j,rfl,rfl,hc,J,Ext.refl _ _,rs,RepV.int _ _ _ _⟩
    ·cases e
   |_=>cases e
  |ob n=>
   cases y with
   |int k=>
    obtain⟨a,rfl,hn⟩:=rx.ob_;cases ry.int_;simp only[gX,cif] at e;cases e1:cQ S n with
    |none=>rw[e1] at e;cases e
    |some xs=>
     rw[e1] at e;dsimp only at e;split at e
     ·rename_i hz;cases e;obtain⟨vs,hv,rvs⟩:=rs.lst e1 hn;exact .inr ⟨a,k,vs,rfl,rfl,hv,hz.1.1,hz.1.2,by rw[rvs.length];exact hz.2,fun p hp=>Got.lst rs (rvs.rep _) hp⟩
     ·cases e
   |_=>cases e
  |_=>cases e
 ·cases x with
  |int i=>
   cases y with
   |int j=>
    simp only[gX,cif] at e;split at e<;>cases e
   |_=>cases e
  |ob n=>
   cases y with
   |int k=>
    simp only[gX,cif] at e;split at e
    ·split at e<;>cases e
    ·cases e
   |_=>cases e
  |_=>cases e
def gu(S:List Cell):D->Option (List D)
 |.tup xs=>some xs
 |.rol xs=>some xs
 |.ob n=>cQ S n
 |_=>none
def ixD:D->D->M D
 |x,.int i=>fun S=>match gu S x with
  |some xs=>(match atI xs i with
   |some d=>.ok d S
   |none=>.bad)
  |none=>.bad
 |_,_=>M.bad
theorem RepVs.atI{K:PySem.W.Frag}{H:Hp}{J:List Addr}{xs:List D}{vs:List V}{i:Int}{d:D}(h:RepVs K H J xs vs)(e:L2.atI xs i=some d):∃v,L2.atI vs i=some v/\RepV K H J d v:=by
 unfold L2.atI at e ⊢;rw[h.length];cases e1:ixN xs.length i with
 |none=>rw[e1] at e;cases e
 |some j=>
  rw[e1] at e;exact h.get (show xs[j]?=some d from e)
theorem ixd:IxD X ixD:=by
 refine IxD.of (r:=fun x y H Q=>Cl X.K x y H Q\/CO X.K x y H Q) (fun E=>(zI (X:=X.wish E)).or (B9 (X:=X.wish E))) (fun H J S x y vx vy d S' rs rx ry e=>?_) (fun x y S c S' e=>?_)
 ·cases y with
  |int i=>
   cases ry.int_;simp only[ixD] at e;cases x with
   |tup xs=>
    obtain⟨a,vs,rfl,hq,rvs⟩:=rx.tup_;simp only[gu] at e;cases e1:atI xs i with
    |none=>rw[e1] at e;cases e
    |some d=>
     rw[e1] at e;cases e;obtain⟨v,h1,h2⟩:=rvs.atI e1;exact .inr ⟨a,vs,i,v,rfl,rfl,hq,h1,J,Ext.refl _ _,rs,h2⟩
   |rol xs=>
    obtain⟨a,vs,rfl,hq,rvs⟩:=rx.rol_;simp only[gu] at e;cases e1:atI xs i with
    |none=>rw[e1] at e;cases e
    |some d=>
     rw[e1] at e;cases e;obtain⟨v,h1,h2⟩:=rvs.atI e1;exact .inl ⟨a,vs,i,v,rfl,rfl,hq.sq,h1,J,Ext.refl _ _,rs,h2⟩
   |ob n=>
    obtain⟨a,rfl,hn⟩:=rx.ob_;simp only[gu] at e;cases e0:cQ S n with
    |none=>rw[e0] at e;cases e
    |some xs=>
     rw[e0] at e;dsimp only at e;obtain⟨vs,hv,rvs⟩:=rs.lst e0 hn;cases e1:atI xs i with
     |none=>rw[e1] at e;cases e
     |some d=>
      rw[e1] at e;cases e;obtain⟨v,h1,h2⟩:=rvs.atI e1;exact .inl ⟨a,vs,i,v,rfl,rfl,SqL.of hv,h1,J,Ext.refl _ _,rs,h2⟩
   |_=>cases e
  |_=>cases e
 ·cases y with
  |int i=>
   simp only[ixD] at e;split at e
   ·split at e<;>cases e
   ·cases e
  |_=>cases e
def eu(xs:List D)(lo hi:Option Int):List D:=(xs.drop (HT.sIx xs.length 0 lo)).take (HT.sIx xs.length xs.length hi-HT.sIx xs.length 0 lo)
theorem RepVs.cut{K:PySem.W.Frag}{H:Hp}{J:List Addr}{xs:List D}{vs:List V}(h:RepVs K H J xs vs)(lo hi:Option Int):RepVs K H J (eu xs lo hi) (vE vs lo hi):=by
 unfold eu vE;rw[h.length];exact(h.drop _).take _
def slD:D->Option Int->Option Int->M D
 |.tup xs,lo,hi=>M.ret (.tup (eu xs lo hi))
 |.rol xs,lo,hi=>fun S=>.ok (.ob S.length) (S++[.lst (eu xs lo hi)])
 |.ob n,lo,hi=>fun S=>match cQ S n with
  |some xs=>.ok (.ob S.length) (S++[.lst (eu xs lo hi)])
  |none=>.bad
 |_,_,_=>M.bad
theorem mt{prog:Program}{w:World}{A:Around}{E:Value->Shared->Prop}{s:Shared}{t sl:Addr}{items:Array Value}{vl vu:Value}{lo hi:Option Int}{Q:Value->Shared->Prop}(ht:IsTup s.heap t items)(hs:s.heap.IsSliceOf sl vl vu .none)
  (pl:IsPart vl lo) (pu:IsPart vu hi) (hw:HT.sIx items.size 0 lo=0/\HT.sIx items.size items.size hi=items.size) (h:Q (.ref t) s):wpAny (model prog w) A (getItem (.ref t) (.ref sl)) Q E s:=by
 obtain⟨os,hos,hcs,hds⟩:=id hs;have hTs:s.TypeIs (.ref sl) "slice":=⟨os,hos,hcs⟩;unfold getItem
 try with_reducible refine wpAny_holding ?_
 first|refine wpAny_bind (wpAny_pure ?_)|skip
 refine wpAny_bind (wpAny_sequenceKey ht.typeIs (by decide) ?_);refine wpAny_bind (wpAny_callSpecial?_slot (name:=Str.ofString "__getitem__") ht.typeIs PyProof.Rows.slot_tuple_getitem
  (wpAny_call_entry PyProof.Rows.slot_tuple_getitem ht.typeIs entry_tuple_getitem ?_ (args_tuple_getitem _ _)))
 show wpAny _ _ (Builtin.Tuple.tupleItemsOf (.ref t) >>= _) _ _ s;refine wpAny_bind (tupleItemsOf_ ht ?_);refine wpAny_bind (wpAny_typeOf hTs ?_);rw[if_pos (by decide)];refine wpAny_bind (HT.sliceApplied_gen hs pl pu ?_);have hyes:((((HT.sIx items.size 0 lo:Nat):Int) == 0 && (1:Int) == 1 && (HT.sIx items.size items.size hi-HT.sIx items.size 0 lo) == items.size)=true):=by
  rw[hw.1,hw.2];simp
 show wpAny _ _ (if (((HT.sIx items.size 0 lo:Nat):Int) == 0 && (1:Int) == 1 && (HT.sIx items.size items.size hi-HT.sIx items.size 0 lo) == items.size)=true then _ else _) _ _ s;rw[if_pos hyes];refine wpAny_bind (m:=Builtin.Tuple.tupleIsExact _) (wpAny_bind (wpAny_typeOf ht.typeIs (wpAny_pure ?_)));rw[if_pos (by decide)]
 first
  |exact wpAny_bind (wpAny_rule (wpAny_pure ⟨_,rfl,wpAny_pure h⟩))
  |exact wpAny_bind (wpAny_rule (wpAny_bind (wpAny_pure (wpAny_pure ⟨_,rfl,wpAny_pure h⟩))))
theorem sld:SlD X slD:=by
 intro pins s σ H J S x vx v vl vu lo hi sl Q E I rs rx rv hs pl pu m;cases x with
 |tup xs=>
  obtain⟨a,vs,rfl,hq,rvs⟩:=rx.tup_;cases rv;obtain⟨its,r,ht,hz⟩:=I.tuple hq;have hlen:its.toArray.size=xs.length:=by rw[List.size_toArray,<-r.length,rvs.length]
  refine⟨"tuple",_,PyProof.Rows.slot_tuple_getitem.lookup,ht.typeIs,?_⟩;by_cases hw:HT.sIx xs.length 0 lo=0/\HT.sIx xs.length xs.length hi=xs.length
  ·refine mt ht hs pl pu (by rw[hlen];exact hw) (m.ok_ (v:=.ref a) I rs ?_ rfl);have e:eu xs lo hi=xs:=by
    unfold eu;rw[hw.1,hw.2];simp
   rw[e];exact .tup hq rvs
  ·refine HT.getItem_tuple_cut ht hs pl pu (by rw[hlen];exact hw) ?_ (by rw[List.size_toArray,<-r.length];exact hz);have hf:H s.heap.objs.size=none:=I.hok.fresh (Nat.le_refl _);refine m.val (H':=upd H s.heap.objs.size (.tup (vE vs lo hi))) (v:=.ref s.heap.objs.size) (I.laid (t':=s.toks) (fun b ob q=>Heap.get?_push_of_some _ q) (Nat.le_refl _) ?_) rfl (Got.tup rs (rvs.cut lo hi) hf);have hl2:its.toArray.size=vs.length:=by rw[List.size_toArray];exact r.length.symm
   rw[hl2];exact⟨Nat.le_trans (nV vs lo hi) hz,_,(r.drop (HT.sIx vs.length 0 lo)).take (HT.sIx vs.length vs.length hi-HT.sIx vs.length 0 lo),IsTup.new _ _⟩
 |rol xs=>
  obtain⟨a,vs,rfl,hq,rvs⟩:=rx.rol_;obtain⟨T,id,h1,h2,h3⟩:=wI (X:=X.wish E) pins s σ H (.ref a) v vl vu lo hi sl (Got X.K H J (.ob S.length) (S++[.lst (eu xs lo hi)])) (I.wish E) rv hs pl pu ⟨a,vs,rfl,hq.sq,fun p hp=>Got.lst rs (rvs.cut lo hi) hp⟩;exact⟨T,id,h1,h2,wpAny_mono h3 (fun u s' q=>m u s' (EP.unwish q)) fun _ _ z=>z⟩
 |ob n=>
  obtain⟨a,rfl,hn⟩:=rx.ob_;simp only[slD] at m;cases e0:cQ S n with
  |none=>rw[e0] at m;exact m.elim
  |some xs=>
   rw[e0] at m;obtain⟨vs,hv,rvs⟩:=rs.lst e0 hn;obtain⟨T,id,h1,h2,h3⟩:=wI (X:=X.wish E) pins s σ H (.ref a) v vl vu lo hi sl (Got X.K H J (.ob S.length) (S++[.lst (eu xs lo hi)])) (I.wish E) rv hs pl pu ⟨a,vs,rfl,SqL.of hv,fun p hp=>Got.lst rs (rvs.cut lo hi) hp⟩;exact⟨T,id,h1,h2,wpAny_mono h3 (fun u s' q=>m u s' (EP.unwish q)) fun _ _ z=>z⟩
 |_=>exact m.elim
def bC:List D->M D
 |[x]=>fun S=>match gu S x with
  |some xs=>.ok (.int xs.length) S
  |none=>.bad
 |_=>M.bad
theorem kO{K:PySem.W.Frag}{H:Hp}{J:List Addr}{S:List Cell}{x:D}{v:V}{xs:List D}(rs:RepS K H J S)(rx:RepV K H J x v)(e:gu S x=some xs):∃a vs,v=.ref a/\(SqL K H a vs\/SqT K H a vs)/\RepVs K H J xs vs:=by
 cases x with
 |tup xs=>
  obtain⟨a,vs,rfl,hq,rvs⟩:=rx.tup_;cases e;exact⟨a,vs,rfl,.inr hq,rvs⟩
 |rol xs=>
  obtain⟨a,vs,rfl,hq,rvs⟩:=rx.rol_;cases e;exact⟨a,vs,rfl,.inl hq.sq,rvs⟩
 |ob n=>
  obtain⟨a,rfl,hn⟩:=rx.ob_;obtain⟨vs,hv,rvs⟩:=rs.lst e hn;exact⟨a,vs,rfl,.inl (SqL.of hv),rvs⟩
 |_=>cases e
theorem dI:CallD X (.builtin "len") bC:=by
 refine CallD.of (r:=fun xs H Q=>∃p ys,xs=[.ref p]/\(SqL X.K H p ys\/SqT X.K H p ys)/\Q (.int ys.length) H) (fun E=>sG (X:=X.wish E)) (fun H J S xs vs d S' rs rx e=>?_) (fun xs S c S' e=>?_)
 ·match xs,rx,e with
  |[x],rx,e=>
   obtain⟨v,rfl,h1⟩:=rx.one_;simp only[bC] at e;cases e1:gu S x with
   |none=>rw[e1] at e;cases e
   |some ys=>
    rw[e1] at e;cases e;obtain⟨a,ws,rfl,hq,rvs⟩:=kO rs h1 e1;exact⟨a,ws,rfl,hq,J,Ext.refl _ _,rs,by rw[rvs.length];exact RepV.int _ _ _ _⟩
  |[],rx,e=>cases e
  |_ :: _ :: _,rx,e=>cases e
 ·match xs,e with
  |[x],e=>
   simp only[bC] at e;split at e<;>cases e
  |[],e=>cases e
  |_ :: _ :: _,e=>cases e
def uM(g:Int->Int->Int):List D->M D
 |[.int i,.int j]=>M.ret (.int (g i j))
 |_=>M.bad
theorem wT{g:Int->Int->Int}{xs:List D}{S S':List Cell}{d:D}(e:uM g xs S=.ok d S'):∃i j,xs=[.int i,.int j]/\d=.int (g i j)/\S'=S:=by
 unfold uM at e;split at e
 ·rename_i i j;cases e;exact⟨i,j,rfl,rfl,rfl⟩
 ·cases e
theorem wR{g:Int->Int->Int}{xs:List D}{S S':List Cell}{c:Addr}:uM g xs S≠.exc c S':=by
 intro e;unfold uM at e;split at e<;>cases e
theorem BQ(hc:X.calm=true):CallD X (.builtin "max") (uM fun i j=>if j > i then j else i):=by
 refine CallD.of (fun E=>xF (X:=X.wish E) hc) (fun H J S xs vs d S' rs rx e=>?_) (fun xs S c S'=>wR);obtain⟨i,j,rfl,rfl,rfl⟩:=wT e;obtain⟨v,w,rfl,h1,h2⟩:=rx.two_;cases h1.int_;cases h2.int_;exact⟨i,j,rfl,J,Ext.refl _ _,rs,RepV.int _ _ _ _⟩
theorem yc(hc:X.calm=true):CallD X (.builtin "min") (uM fun i j=>if j<i then j else i):=by
 refine CallD.of (fun E=>xq (X:=X.wish E) hc) (fun H J S xs vs d S' rs rx e=>?_) (fun xs S c S'=>wR);obtain⟨i,j,rfl,rfl,rfl⟩:=wT e;obtain⟨v,w,rfl,h1,h2⟩:=rx.two_;cases h1.int_;cases h2.int_;exact⟨i,j,rfl,J,Ext.refl _ _,rs,RepV.int _ _ _ _⟩
def fH:List D->M D
 |[x]=>fun S=>match gu S x with
  |some xs=>.ok (.tup xs) S
  |none=>.bad
 |_=>M.bad
theorem iC:CallD X (.type "tuple") fH:=by
 refine CallD.of (r:=fun xs H Q=>∃p ys,xs=[.ref p]/\((SqL X.K H p ys/\∀l,H l=none->Q (.ref l) (upd H l (.tup ys)))\/(SqT X.K H p ys/\Q (.ref p) H))) (fun E=>qU (X:=X.wish E)) (fun H J S xs vs d S' rs rx e=>?_) (fun xs S c S' e=>?_)
 ·unfold fH at e;split at e
  ·obtain⟨v,rfl,h1⟩:=rx.one_;split at e
   ·rename_i e1;cases e;obtain⟨a,ws,rfl,hq,rvs⟩:=kO rs h1 e1;refine⟨a,ws,rfl,?_⟩;rcases hq with hq|hq
    ·exact .inl ⟨hq,fun l hl=>Got.tup rs rvs hl⟩
    ·exact .inr ⟨hq,J,Ext.refl _ _,rs,.tup hq rvs⟩
   ·cases e
  ·cases e
 ·unfold fH at e;split at e
  ·split at e<;>cases e
  ·cases e
def wG:List D->M D
 |[x]=>fun S=>match gu S x with
  |some xs=>.ok (.ob S.length) (S++[.lst xs])
  |none=>.bad
 |_=>M.bad
theorem zH:CallD X (.type "list") wG:=by
 refine CallD.of (r:=fun xs H Q=>∃p ys,xs=[.ref p]/\(SqL X.K H p ys\/SqT X.K H p ys)/\∀l,H l=none->Q (.ref l) (upd H l (.lst ys))) (fun E=>sj (X:=X.wish E)) (fun H J S xs vs d S' rs rx e=>?_) (fun xs S c S' e=>?_)
 ·unfold wG at e;split at e
  ·obtain⟨v,rfl,h1⟩:=rx.one_;split at e
   ·rename_i e1;cases e;obtain⟨a,ws,rfl,hq,rvs⟩:=kO rs h1 e1;exact⟨a,ws,rfl,hq,fun l hl=>Got.lst rs rvs hl⟩
   ·cases e
  ·cases e
 ·unfold wG at e;split at e
  ·split at e<;>cases e
  ·cases e
def tyN(S:List Cell):D->Option String
 |.non=>some "NoneType"
 |.bl _=>some "bool"
 |.int _=>some "int"
 |.str _=>some "str"
 |.tup _=>some "tuple"
 |.rol _=>some "list"
 |.ob n=>match S[n]? with
  |some (.lst _)=>some "list"
  |some (.dic _)=>some "dict"
  |_=>none
 |.xn _=>none
def wq(t T:String):Bool:=t == T || (t == "bool" && T == "int")
def isD(T:String)(x:D):M D:=fun S=>match tyN S x with
 |some t=>.ok (.bl (wq t T)) S
 |none=>.bad
def tV(K:PySem.W.Frag)(T:String):Prop:=∀t∈["NoneType","bool","int","str","tuple","list","dict"],PySem.W.kitOne K (.type t) (.type T)=some (wq t T)
theorem Au(K:PySem.W.Frag):tV K "int":=by
 intro t ht;simp only[List.mem_cons,List.not_mem_nil,or_false] at ht;rcases ht with rfl|rfl|rfl|rfl|rfl|rfl|rfl<;>rfl
theorem zC(K:PySem.W.Frag):tV K "bool":=by
 intro t ht;simp only[List.mem_cons,List.not_mem_nil,or_false] at ht;rcases ht with rfl|rfl|rfl|rfl|rfl|rfl|rfl<;>rfl
theorem nw(K:PySem.W.Frag):tV K "tuple":=by
 intro t ht;simp only[List.mem_cons,List.not_mem_nil,or_false] at ht;rcases ht with rfl|rfl|rfl|rfl|rfl|rfl|rfl<;>rfl
theorem yQ{T:String}{pins:Pins}{s:Shared}{σ:L2.St}{H:Hp}{J:List Addr}{S:List Cell}{x:D}{vx:V}{v:Value}{Q E:Value->Shared->Prop}(hk:tV X.K T)(I:Inv X pins σ H s)(rs:RepS X.K H J S)(rx:RepV X.K H J x vx)(rv:RelV vx v)
  (m:Mt X pins σ H J (isD T x S) Q E):wpAny (model X.prog X.w) X.A (call (.builtin "isinstance") [v,.type T]) Q E s:=by
 unfold isD at m;cases x with
 |non=>
  cases rx.non_;cases rv;exact PySem.W.kia_one PySem.W.kitx_none I.kIn True.intro (hk "NoneType" (by simp)) (fun z=>nomatch z) fun tk=>m.ok_ (I.tok tk) rs (RepV.bl _ _ _ _) rfl
 |bl b=>
  cases rx.bl_;cases rv;exact PySem.W.kia_one PySem.W.kitx_bool I.kIn True.intro (hk "bool" (by simp)) (fun z=>nomatch z) fun tk=>m.ok_ (I.tok tk) rs (RepV.bl _ _ _ _) rfl
 |int i=>
  cases rx.int_;obtain⟨t,rfl⟩:=rv;exact PySem.W.kia_one PySem.W.kitx_int I.kIn True.intro (hk "int" (by simp)) (fun z=>nomatch z) fun tk=>m.ok_ (I.tok tk) rs (RepV.bl _ _ _ _) rfl
 |str i=>
  cases rx.str_;obtain⟨t,rfl⟩:=rv;exact PySem.W.kia_one PySem.W.kitx_str I.kIn True.intro (hk "str" (by simp)) (fun z=>nomatch z) fun tk=>m.ok_ (I.tok tk) rs (RepV.bl _ _ _ _) rfl
 |tup xs=>
  obtain⟨a,vs,rfl,hq,rvs⟩:=rx.tup_;cases rv;obtain⟨its,r,⟨o,h1,h2,_⟩,hz⟩:=I.tuple hq;exact PySem.W.kia_one PySem.W.kitx_tuple I.kIn ⟨o,h1,h2⟩ (hk "tuple" (by simp)) (fun z=>nomatch z) fun tk=>m.ok_ (I.tok tk) rs (RepV.bl _ _ _ _) rfl
 |rol xs=>
  obtain⟨a,vs,rfl,hq,rvs⟩:=rx.rol_;cases rv;obtain⟨its,r,pl,hz⟩:=I.list hq.sq;obtain⟨o,h1,h2,_⟩:=pl.isList;exact PySem.W.kia_one PySem.W.kitx_list I.kIn ⟨o,h1,h2⟩ (hk "list" (by simp)) (fun z=>nomatch z) fun tk=>m.ok_ (I.tok tk) rs (RepV.bl _ _ _ _) rfl
 |ob n=>
  obtain⟨a,rfl,hn⟩:=rx.ob_;cases rv;simp only[tyN] at m;obtain⟨c,hc,rc⟩:=rs.cellA hn;rw[hc] at m;cases c with
  |lst xs=>
   obtain⟨vs,hv,rvs⟩:=rc;obtain⟨its,r,pl,hz⟩:=I.list (SqL.of hv);obtain⟨o,h1,h2,_⟩:=pl.isList;exact PySem.W.kia_one PySem.W.kitx_list I.kIn ⟨o,h1,h2⟩ (hk "list" (by simp)) (fun z=>nomatch z) fun tk=>m.ok_ (I.tok tk) rs (RepV.bl _ _ _ _) rfl
  |dic kvs=>
   obtain⟨ws,hv,_⟩:=rc;obtain⟨_,_,vs,_,p⟩:=(show ObjOk X.prog X.w H s.heap a (.dK ws) from I.hok a _ hv);obtain⟨o,es,ep,h1,h2,_⟩:=p;exact PySem.W.kia_one PySem.W.kitx_dict I.kIn ⟨o,h1,h2.1⟩ (hk "dict" (by simp)) (fun z=>nomatch z) fun tk=>m.ok_ (I.tok tk) rs (RepV.bl _ _ _ _) rfl
  |ins C ns ds=>exact m.elim
 |xn c=>exact m.elim
def dIs(T:String)(fe:DSt->M D):DSt->M D:=fun r=>(fe r).bind (isD T)
variable{e:Expr}{fe:DSt->M D}{pos:Pos}
theorem jx{x:Str}{T:String}{p p2:Pos}(he:PEd X e fe)(hg:Gl X "isinstance")(hm:X.mg "isinstance"=none)(hgT:Gl X x)(hmT:X.mg x=none)(hbT:bootBuiltins x=some (.type T))(hk:tV X.K T)
  (hs:starEach [e,.Name x p2] X.env=[(false,eval e X.env),(false,eval (.Name x p2) X.env)]:=by rfl) (hs2:starEach [.Name x p2] X.env=[(false,eval (.Name x p2) X.env)]:=by rfl) (hn:x≠"__name__":=by decide) (hd:(x == ("__debug__":Str))=false:=by decide) :
  PEd X (.Call (.Name "isinstance" p) [e,.Name x p2] [] pos) (dIs T fe):=by
 intro pins s σ H J r S Q E I m;refine wpAny_Call_Name_kw (kC I.inv hg hm boot_isinstance ?_);refine PyProof.Rows.callWith_builtin1 ?_ (by rw[hs,hs2]) (by rw[hs2];rfl);rw[hs];show wpAny _ _ (spliced ((false,eval e X.env) :: backTo pos [(false,eval (.Name x p2) X.env)])) _ _ s;refine Calls.spliced_cons (he pins s σ H J r S _ E I ?_);unfold dIs M.bind at m;cases e1:fe r S with
 |bad=>rw[e1] at m;exact m
 |exc c S1=>rw[e1] at m;exact m
 |ok d S1=>
  rw[e1] at m;dsimp only at m;rintro v s1 ⟨vx,H1,I1,r1,J1,ex,rs,rv⟩;show wpAny _ _ (spliced ((false,eval (.Name x p2) X.env) :: backTo pos [])) _ _ s1;refine Calls.spliced_cons (kC I1 hgT hmT hbT ?_ hn hd);exact Calls.spliced_nil (yQ hk I1 rs rv r1 (Mt.ext ex m))
end
end DL
namespace DL
open PySem PySem.Spec PyProof.Rows L2
open AutoSeq1 (wpAny_loadPart')
section
variable{prog:Program}{w:World}{A:Around}{E:Value->Shared->Prop}{s:Shared}
theorem vI{it t:Addr}{i:Nat}{items:Array Value}{x:Value}{Q:Value->Shared->Prop}(hi:s.heap.IsTupleIter it t i)(ht:s.heap.IsTuple t items)(hx:items[i]?=some x)
  (hQ:∀h',h'.IsTupleIter it t (i+1)->Heap.SameBut it s.heap h'->Q x { s with heap:=h' }):wpAny (model prog w) A (Builtin.SmallTypes.nextOf (.ref it)) Q E s:=by
 obtain⟨oi,hoi,hci,hdi⟩:=id hi;obtain⟨ot,hot,_,nt,hdt⟩:=ht;unfold Builtin.SmallTypes.nextOf;refine wpAny_bind (wpAny_callSpecial?_slot (name:=Str.ofString "__next__") hi.typeIs slot_tupleiter_next
  (wpAny_call_entry slot_tupleiter_next hi.typeIs entry_tupleiter_next ?_ (args_tupleiter_next _)))
 show wpAny _ _ (field (.ref it) 0 >>= _) _ _ s;refine wpAny_bind (wpAny_field hoi hdi (x:=.ref t) rfl ?_);show wpAny _ _ (if (Value.ref t == Value.none)=true then _ else _) _ _ s;rw[if_neg (show ¬((Value.ref t == Value.none)=true) from Bool.false_ne_true)];show wpAny _ _ (field (.ref it) 1 >>= _) _ _ s;refine wpAny_bind (wpAny_field hoi hdi (x:=.int i 0) rfl ?_);show wpAny _ _ (seqItems? (.ref t) >>= _) _ _ s;refine wpAny_bind (wpAny_seqItems hot hdt ?_);simp only[Int.toNat_natCast,hx];refine wpAny_bind (wpAny_setField hoi hdi (by simp) (wpAny_pure ⟨x,rfl,wpAny_pure (hQ _ ?_ (Heap.SameBut.update ..))⟩));exact⟨_,Heap.get?_update_self _ hoi (Obj.isFreed_of_fields (Obj.data_mapFields hdi _)),(Obj.cls_mapFields ..).trans hci,by
  rw[Obj.data_mapFields hdi];simp[rawInt]⟩
theorem kf{it t:Addr}{i:Nat}{items:Array Value}{Q:Value->Shared->Prop}(hh:A.handled=none)(hi:s.heap.IsTupleIter it t i)(ht:s.heap.IsTuple t items)(hx:items[i]?=none)
  (hE:∀h' e,Heap.ExtBut it s.heap h'->(∃o,h'.get? e=some o/\o.cls=.type "StopIteration")->E (.ref e) { s with heap:=h' }):wpAny (model prog w) A (Builtin.SmallTypes.nextOf (.ref it)) Q E s:=by
 obtain⟨oi,hoi,hci,hdi⟩:=id hi;obtain⟨ot,hot,_,nt,hdt⟩:=ht;unfold Builtin.SmallTypes.nextOf;refine wpAny_bind (wpAny_callSpecial?_slot (name:=Str.ofString "__next__") hi.typeIs slot_tupleiter_next
  (wpAny_call_entry slot_tupleiter_next hi.typeIs entry_tupleiter_next ?_ (args_tupleiter_next _)))
 show wpAny _ _ (field (.ref it) 0 >>= _) _ _ s;refine wpAny_bind (wpAny_field hoi hdi (x:=.ref t) rfl ?_);show wpAny _ _ (if (Value.ref t == Value.none)=true then _ else _) _ _ s;rw[if_neg (show ¬((Value.ref t == Value.none)=true) from Bool.false_ne_true)];show wpAny _ _ (field (.ref it) 1 >>= _) _ _ s;refine wpAny_bind (wpAny_field hoi hdi (x:=.int i 0) rfl ?_);show wpAny _ _ (seqItems? (.ref t) >>= _) _ _ s;refine wpAny_bind (wpAny_seqItems hot hdt ?_);simp only[Int.toNat_natCast,hx];refine wpAny_bind (wpAny_rule (wpAny_bind (wpAny_setField hoi hdi (by simp) ?_)));show wpAny _ _ (newExc (.type "StopIteration") [] >>= _) _ _ _;refine wpAny_bind ?_;simp only[newExc,newTuple];refine wpAny_bind (wpAny_newObj_type ?_ (by size_fits));refine wpAny_bind (m:=firstArgMember _ _) (wpAny_of_eq (a:=Value.none) (by first|rfl|(simp only[firstArgMember];rfl)) ?_);refine wpAny_newObj_type ?_ (by size_fits);simp only[raiseNew];refine wpAny_bind (wpAny_handled ?_)
 first|rw[show A.in1.handled=none from hh]|rw[hh]
 refine wpAny_bind (wpAny_pure (wpAny_throw ?_));exact hE _ _ (((Heap.SameBut.update ..).extBut.push _).push _) ⟨_,Heap.get?_push_size _ rfl,rfl⟩
end
theorem xK{prog:Program}{w:World}{A:Around}(hh:A.handled=none)(it t:Addr)(hne:t≠it)(items:Array Value) :
  Draws prog w A it [it,t] items.size (fun i v=>items[i]?=some v) (fun i h=>h.IsTupleIter it t i/\h.IsTuple t items) where
 live:=fun _ _ st=>let ⟨o,ho,_⟩:=st.1;⟨o,ho⟩
 frame:=fun _ _ _ st hk=>⟨st.1.at fun o e=>hk it (by simp) o e,let ⟨o,ho,q⟩:=st.2;⟨o,hk t (by simp) o ho,q⟩⟩
 item:=fun i s Q E hi st hQ=>by
  refine vI st.1 st.2 (x:=items[i]) (by simp[hi]) fun h' hit' hs'=>?_
  obtain⟨o,ho,q⟩:=st.2;exact hQ _ h' s.toks (by simp[hi]) ⟨hit',⟨o,hs'.extBut t o hne ho,q⟩⟩ hs'
 done:=fun s Q E st hE=>kf hh st.1 st.2 (by simp) hE
theorem qb{prog:Program}{w:World}{A:Around}{it:Addr}{fp:List Addr}{n:Nat}{P:Nat->Value->Prop}{St:Nat->Heap->Prop}(D:Draws prog w A it fp n P St)(c:Nat) :
  Draws prog w A it fp (n+c) (fun i v=>c<=i/\P (i-c) v) (fun i h=>c<=i/\St (i-c) h) where
 live:=fun i h st=>D.live _ h st.2
 frame:=fun i h h' st hk=>⟨st.1,D.frame _ h h' st.2 hk⟩
 item:=fun i s Q E hi st hQ=>D.item (i-c) s Q E (by have:=st.1;omega) st.2 fun x h' tk hp hs hb=>hQ x h' tk ⟨st.1,hp⟩ ⟨by have:=st.1;omega,by rw[show i+1-c=i-c+1 by have:=st.1;omega];exact hs⟩ hb
 done:=fun s Q E st hE=>D.done s Q E (by have:=st.2;rw[show n+c-c=n by omega] at this;exact this) hE
theorem qj(l:Addr)(items:Array Value)(n:Nat)(dct:Option Addr)(sl:Array (Option Value)) :
  Meets (Builtin.«enumerate.__new__» ⟨[.type "enumerate",.ref l],[]⟩) (fun _ R s=>s.heap.get? l=some { cls:=.type "tuple",dict:=dct,data:=.seq items n,slots:=sl }/\
   R (.ok (.ret (.ref (s.heap.push { cls:=.type "tuple_iterator",data:=.fields #[.ref l,.int 0 0] }).objs.size)))
    { s with heap:=(s.heap.push { cls:=.type "tuple_iterator",data:=.fields #[.ref l,.int 0 0] }).push { cls:=.type "enumerate",data:=.fields #[.none,.bool false,.ref s.heap.objs.size,rawInt 0,.none,.none] } }):=
 .of_wp fun prog w A R s h=>by
  obtain⟨hp,g,d,tk,os⟩:=s;obtain⟨hl,h⟩:=h;have hsub:=sub_enumerate;have hT:Heap.IsTuple (Shared.heap ⟨hp,g,d,tk,os⟩) l items:=⟨_,hl,rfl,n,rfl⟩
  wp_walk using wpAny_loadPart' hl
  refine wpAny_stack_any fun st=>wpAny_pure ?_
  split
  ·rename_i c _ _ _ _ _;cases(c == Value.type "enumerate")
   ·wp_walk using wpAny_loadPart' hl,wpAny_pyIter_tuple hT
    exact⟨_,rfl,h⟩
   ·wp_walk using wpAny_loadPart' hl,wpAny_pyIter_tuple hT
    exact⟨_,rfl,h⟩
  ·wp_walk using wpAny_loadPart' hl,wpAny_pyIter_tuple hT
   exact⟨_,rfl,h⟩
end DL
namespace DL
open PySem PySem.Spec PyProof.Rows L2
theorem HOk.other{P:Program}{w:World}{H:Hp}{h h':Heap}{ch:List Addr}(x:HOk P w H h)(hn:∀b∈ch,H b=none)(k:∀b u,b∉ch->h.get? b=some u->h'.get? b=some u):HOk P w H h':=fun a o e=>
 (x a o e).stay (fun b u hb q=>k b u (fun hm=>by
  rcases hb with rfl|hb
  ·rw[hn b hm] at e;cases e
  ·rw[hn b hm] at hb;cases hb) q) (fun _ q=>q) fun _ _ q=>q
theorem HOk.add{P:Program}{w:World}{H:Hp}{h:Heap}{p:Addr}{o:HO}(x:HOk P w H h)(hp:H p=none)(new:ObjOk P w (upd H p o) h p o):HOk P w (upd H p o) h:=fun a u e=>by
 by_cases ha:a=p
 ·subst ha;rw[bE] at e;cases e;exact new
 ·rw[br ha] at e;exact(x a u e).stay (fun _ _ _ q=>q) (fun b q=>by rw[br (bi q hp)];exact q) fun b xs q=>by rw[br (bi q hp)];exact q
theorem Inv.turnNew{X:Cx}{pins:Pins}{σ:L2.St}{H:Hp}{s:Shared}{ch:List Addr}{h':Heap}{tk:Nat}{p:Addr}{o:HO}(I:Inv X pins σ H s)(hf:∀b∈ch,FpOk X pins H b)(k:∀b u,b∉ch->s.heap.get? b=some u->h'.get? b=some u)
  (hp:s.heap.objs.size<=p) (new:ObjOk X.prog X.w (upd H p o) h' p o):Inv X pins σ (upd H p o) { s with heap:=h',toks:=tk }:=by
 have hpn:H p=none:=I.hok.fresh hp;have hlt:∀{b:Addr}{u:Obj},s.heap.get? b=some u->b≠p:=fun e=>Nat.ne_of_lt (Nat.lt_of_lt_of_le (Heap.lt_size e) hp)
 refine I.call' (ch:=ch) rfl ⟨?_,?_,?_,?_,?_,?_,?_⟩ (HOk.add (HOk.other I.hok (fun b hb=>(hf b hb).1) k) hpn new) I.bare fun b hb=>?_
 ·exact fun b u q _ _ hx=>k b u hx q
 ·exact fun b u q _ _ hx=>⟨u.slots,by rw[k b u hx q]⟩
 ·exact fun b u q n hx=>by rw[br (hlt q)];exact n
 ·exact fun b u q hx=>⟨u,k b u hx q⟩
 ·exact fun b xs q=>by rw[br (bi q hpn)];exact q
 ·exact fun b ob u q=>by rw[br (bi q hpn)];exact q
 ·exact fun b ps q=>⟨#[],by rw[br (bi q hpn)];simpa using q⟩
 ·obtain⟨_,f1,_,f3,f4,f5⟩:=hf b hb;exact⟨f3,f1,f4,f5⟩
theorem jr{prog:Program}{w:World}{A:Around}{E:Value->Shared->Prop}{s:Shared}{e it a:Addr}{i:Nat}{c:Int}{old:Value}{items:Array Value}{Q:Option Value->Shared->Prop}(hh:A.handled=none)(he:IsEnum s.heap e it c old)(hit:s.heap.IsTupleIter it a i)
  (ot:s.heap.IsTuple a items) (ha:a≠it) (hx:items.size<=i) (hQ:∀h',Heap.ExtBut it s.heap h'->Q none { s with heap:=h' }):wpAny (model prog w) A (pyNext (.ref e)) Q E s:=by
 have hT:s.TypeIs (.ref e) "enumerate":=⟨_,he,rfl⟩;unfold pyNext;refine wpAny_bind (wpAny_attempt (wpAny_callSpecial?_slot (name:=Str.ofString "__next__") hT F.slot_enumerate_next
  (wpAny_call_entry F.slot_enumerate_next hT F.entry_enumerate_next ?_ (F.args_enumerate_next_1 _))))
 show wpAny _ _ (field (.ref e) 2 >>= _) _ _ _;refine wpAny_bind (wpAny_field he rfl (x:=.ref it) rfl ?_);refine wpAny_bind (kf hh hit ot (by simpa using hx) fun h' x he' hx'=>?_);obtain⟨o,ho,hc⟩:=hx';refine wpAny_bind (wpAny_isInstance (T:="StopIteration") (b:=true) ⟨o,ho,hc⟩ isSubtype_stop ?_);exact wpAny_pure (hQ _ he')
def Cv(K:PySem.W.Frag)(a:Addr)(c:Nat):It:=
 ⟨fun i H=>∃vs x,SqT K H a vs/\vs[i]?=some x,fun i H x H'=>∃p v,H p=none/\H'=upd H p (.tup [.int ((c+i:Nat):Int),v])/\x=.ref p/\∀vs,SqT K H a vs->vs[i]?=some v,fun i H=>∃vs,SqT K H a vs/\vs.length<=i⟩
theorem pc{P:Program}{w:World}{K:PySem.W.Frag}{elts:List Expr}{k1:Nat}{pos:Pos}(a it e:Addr)(c:Nat)(hei:e≠it) :
  Turn P w K (.Tuple elts k1 pos) (Cv K a c) [e,it] e (fun i h=>(∃old,IsEnum h e it ((c+i:Nat):Int) old)/\h.IsTupleIter it a i) where
 mem:=by simp
 obj:=fun i h st b hb=>by
  obtain⟨⟨old,he⟩,hit⟩:=st;simp at hb;rcases hb with rfl|rfl
  ·exact⟨_,he,fun v z=>by
    have z':Data.fields _=Data.cell v:=z;cases z'⟩
  ·obtain⟨o,ho,hc,hd⟩:=hit;exact⟨o,ho,fun v z=>by rw[hd] at z;cases z⟩
 keep:=fun i h h' st k=>by
  obtain⟨⟨old,he⟩,hit⟩:=st;exact⟨⟨old,k e (by simp) _ he⟩,hit.at fun o ho=>k it (by simp) o ho⟩
 item:=by
  intro X hP hw hK hc i pins s σ H E I hf st hg;subst hP hw hK;obtain⟨⟨old,he⟩,hit⟩:=st;obtain⟨vs,x,hq,hx⟩:=hg;obtain⟨its,rv,pl,hz⟩:=I.tuple hq;have ot:s.heap.IsTuple a its.toArray:=pl;have ha1:a≠it:=by
   rintro rfl;obtain⟨o1,h1,h2,_⟩:=ot;obtain⟨o2,h3,h4,_⟩:=hit;rw[h1] at h3;cases h3;rw[h2] at h4;exact absurd h4 (by simp)
  have ha2:e≠a:=by
   rintro rfl;obtain⟨o1,h1,h2,_⟩:=ot;rw[he] at h1;cases h1;exact absurd h2 (by simp)
  have hlen:=rv.length;have hil:i<its.length:=by
   have:=(List.getElem?_eq_some_iff.mp hx).1;omega
  have Dw:=qb (xK (prog:=X.prog) (w:=X.w) (A:=X.A.in1) (I.ok.hd hc) it a ha1 its.toArray) c;refine wpAny_pyNext_enum_itemD Dw (i:=c+i) he ⟨Nat.le_add_right _ _,by rw[show c+i-c=i by omega];exact⟨hit,ot⟩⟩ (by simp;omega) hei (by simp;exact⟨hei,ha2⟩) fun y h1 tk hP hout hst hT hsz hk=>?_
  obtain⟨_,hP⟩:=hP;rw[show c+i-c=i by omega] at hP;have hy:its[i]?=some y:=by simpa using hP
  obtain⟨_,hst⟩:=hst;rw[show c+i+1-c=i+1 by omega] at hst;refine⟨_,rfl,?_⟩;refine wpAny_letOwnedTupleGo_enum hout fun h2 he2 hs2=>?_
  obtain⟨u,hu,ru⟩:=rv.get hx;rw[hy] at hu;cases hu;have hfr:H s.heap.objs.size=none:=I.hok.fresh (Nat.le_refl _);have hes:e≠s.heap.objs.size:=Nat.ne_of_lt (Heap.lt_size he);have keep2:∀b u,b∉[e,it]->s.heap.get? b=some u->h2.get? b=some u:=fun b u hb q=>by
   simp at hb;exact hs2.extBut b u hb.1 (hk b u hb.1 hb.2 q)
  have hT2:h2.get? s.heap.objs.size=some { cls:=.type "tuple",data:=.seq #[.int ((c+i:Nat):Int) tk,y] }:=hs2.extBut _ _ (Ne.symm hes) hT;refine⟨.ref s.heap.objs.size,upd H s.heap.objs.size (.tup [.int ((c+i:Nat):Int),x]),Inv.turnNew (s:=s) (h':=h2) (tk:=tk+1) I hf keep2 (Nat.le_refl _) ⟨by show 2<=sizeLine;decide,[.int ((c+i:Nat):Int) tk,y],.cons ⟨_,rfl⟩ (.cons ru .nil),_,hT2,rfl,_,rfl⟩,rfl,
   ⟨s.heap.objs.size,x,hfr,rfl,rfl,fun ws hw=>by rw[I.tuple_inj hw hq];exact hx⟩,⟨⟨y,?_⟩,?_⟩,?_⟩
  ·rw[show((c+(i+1):Nat):Int)=((c+i:Nat):Int)+1 by push_cast;omega];exact he2
  ·exact hst.1.extBut hs2.extBut (Ne.symm hei)
  ·intro b hb;obtain⟨f0,_⟩:=hf b hb;have:∃o,s.heap.get? b=some o:=by
    simp at hb;rcases hb with rfl|rfl
    ·exact⟨_,he⟩
    ·obtain⟨o,ho,_⟩:=hit;exact⟨o,ho⟩
   obtain⟨o,ho⟩:=this;rw[br (Nat.ne_of_lt (Heap.lt_size ho))];exact f0
 done:=by
  intro X hP hw hK hc i pins s σ H E I hf st hg;subst hP hw hK;obtain⟨⟨old,he⟩,hit⟩:=st;obtain⟨vs,hq,hx⟩:=hg;obtain⟨its,rv,pl,hz⟩:=I.tuple hq;have ot:s.heap.IsTuple a its.toArray:=pl;have ha1:a≠it:=by
   rintro rfl;obtain⟨o1,h1,h2,_⟩:=ot;obtain⟨o2,h3,h4,_⟩:=hit;rw[h1] at h3;cases h3;rw[h2] at h4;exact absurd h4 (by simp)
  have hlen:=rv.length;obtain⟨f0,f1,f2,f3,f4,f5⟩:=hf it (by simp);refine jr (I.ok.hd hc) he hit ot ha1 (by simp;omega) fun h' eb=>⟨rfl,I.turned (t':=s.toks) (fun b o hb e=>eb b o hb e) f0 f1 f3 f4 f5⟩
 self:=fun A i s Q E st h=>by
  obtain⟨⟨old,he⟩,hit⟩:=st;exact wpAny_pyIter_enum he h
theorem ItOk.enumT{K:PySem.W.Frag}{H:Hp}{J:List Addr}{a:Addr}{c:Nat}{xs:List D}{g:Option (Nat×List D)}(hok:∀(H1:Hp) (J1:List Addr) (S:List Cell),Ext H J H1 J1->RepS K H1 J1 S->gok g S->∃vs,SqT K H1 a vs/\RepVs K H1 J1 xs vs) :
  ItOk K (Cv K a c) ⟨xs.zipIdx.map fun p=>.tup [.int ((c+p.2:Nat):Int),p.1],g⟩ H J:=by
 intro H1 J1 S x rs gk;obtain⟨vs,hq,rvs⟩:=hok H1 J1 S x rs gk;have hl:=rvs.length;have hlen:(xs.zipIdx.map fun(p:D×Nat)=>D.tup [.int ((c+p.2:Nat):Int),p.1]).length=xs.length:=by simp
 refine⟨fun i hi=>⟨vs,vs[i]'(by rw[hl];simpa using hi),hq,by simp⟩,⟨vs,hq,by rw[hl];simp⟩,?_⟩;rintro i y H' ⟨p,v,hp,rfl,rfl,hv⟩ d hd;have hd':(xs.zipIdx.map fun(p:D×Nat)=>D.tup [.int ((c+p.2:Nat):Int),p.1])[i]?=some d:=hd;rw[List.getElem?_map,List.getElem?_zipIdx] at hd';cases e:xs[i]? with
 |none=>rw[e] at hd';cases hd'
 |some z=>
  rw[e] at hd';simp only[Option.map_some,Option.some.injEq,Nat.zero_add] at hd';subst hd';obtain⟨v',h1,h2⟩:=rvs.get e;have:=hv vs hq;rw[h1] at this;cases this;obtain⟨J',x',rs',rv'⟩:=Got.tup (p:=p) rs (RepVs.cons (RepV.int K H1 J1 ((c+i:Nat):Int)) (.one h2)) hp;exact⟨J',x',rs',rv'⟩
theorem jy{prog:Program}{w:World}{A:Around}{E:Value->Shared->Prop}{s:Shared}{e it a:Addr}{i:Nat}{c:Int}{old:Value}{items:Array Value}{Q:Option Value->Shared->Prop}(hh:A.handled=none)(he:IsEnum s.heap e it c old)(hit:s.heap.IsListIter it a i)
  (ot:s.heap.IsList a items) (ha:a≠it) (hx:items.size<=i) (hQ:∀h',Heap.ExtBut it s.heap h'->Q none { s with heap:=h' }):wpAny (model prog w) A (pyNext (.ref e)) Q E s:=by
 have hT:s.TypeIs (.ref e) "enumerate":=⟨_,he,rfl⟩;unfold pyNext;refine wpAny_bind (wpAny_attempt (wpAny_callSpecial?_slot (name:=Str.ofString "__next__") hT F.slot_enumerate_next
  (wpAny_call_entry F.slot_enumerate_next hT F.entry_enumerate_next ?_ (F.args_enumerate_next_1 _))))
 show wpAny _ _ (field (.ref e) 2 >>= _) _ _ _;refine wpAny_bind (wpAny_field he rfl (x:=.ref it) rfl ?_);refine wpAny_bind (wpAny_nextOf_list_end hh hit ot (by simpa using hx) fun h' x he' hx'=>?_);obtain⟨o,ho,hc⟩:=hx';refine wpAny_bind (wpAny_isInstance (T:="StopIteration") (b:=true) ⟨o,ho,hc⟩ isSubtype_stop ?_);exact wpAny_pure (hQ _ he')
def Ck(K:PySem.W.Frag)(a:Addr)(c:Nat):It:=
 ⟨fun i H=>∃vs x,SqL K H a vs/\vs[i]?=some x,fun i H x H'=>∃p v,H p=none/\H'=upd H p (.tup [.int ((c+i:Nat):Int),v])/\x=.ref p/\∀vs,SqL K H a vs->vs[i]?=some v,fun i H=>∃vs,SqL K H a vs/\vs.length<=i⟩
theorem vJ{P:Program}{w:World}{K:PySem.W.Frag}{elts:List Expr}{k1:Nat}{pos:Pos}(a it e:Addr)(c:Nat)(hei:e≠it) :
  Turn P w K (.Tuple elts k1 pos) (Ck K a c) [e,it] e (fun i h=>(∃old,IsEnum h e it ((c+i:Nat):Int) old)/\h.IsListIter it a i) where
 mem:=by simp
 obj:=fun i h st b hb=>by
  obtain⟨⟨old,he⟩,hit⟩:=st;simp at hb;rcases hb with rfl|rfl
  ·exact⟨_,he,fun v z=>by
    have z':Data.fields _=Data.cell v:=z;cases z'⟩
  ·obtain⟨o,ho,hc,hd⟩:=hit;exact⟨o,ho,fun v z=>by rw[hd] at z;cases z⟩
 keep:=fun i h h' st k=>by
  obtain⟨⟨old,he⟩,hit⟩:=st;exact⟨⟨old,k e (by simp) _ he⟩,hit.at fun o ho=>k it (by simp) o ho⟩
 item:=by
  intro X hP hw hK hc i pins s σ H E I hf st hg;subst hP hw hK;obtain⟨⟨old,he⟩,hit⟩:=st;obtain⟨vs,x,hq,hx⟩:=hg;obtain⟨its,rv,pl,hz⟩:=I.list hq;have ot:s.heap.IsList a its.toArray:=pl.isList;have ha1:a≠it:=by
   rintro rfl;obtain⟨o1,h1,h2,_⟩:=ot;obtain⟨o2,h3,h4,_⟩:=hit;rw[h1] at h3;cases h3;rw[h2] at h4;exact absurd h4 (by simp)
  have ha2:e≠a:=by
   rintro rfl;obtain⟨o1,h1,h2,_⟩:=ot;rw[he] at h1;cases h1;exact absurd h2 (by simp)
  have hlen:=rv.length;have hil:i<its.length:=by
   have:=(List.getElem?_eq_some_iff.mp hx).1;omega
  have Dw:=qb (Draws.list (prog:=X.prog) (w:=X.w) (A:=X.A.in1) (I.ok.hd hc) it a ha1 its.toArray) c;refine wpAny_pyNext_enum_itemD Dw (i:=c+i) he ⟨Nat.le_add_right _ _,by rw[show c+i-c=i by omega];exact⟨hit,ot⟩⟩ (by simp;omega) hei (by simp;exact⟨hei,ha2⟩) fun y h1 tk hP hout hst hT hsz hk=>?_
  obtain⟨_,hP⟩:=hP;rw[show c+i-c=i by omega] at hP;have hy:its[i]?=some y:=by simpa using hP
  obtain⟨_,hst⟩:=hst;rw[show c+i+1-c=i+1 by omega] at hst;refine⟨_,rfl,?_⟩;refine wpAny_letOwnedTupleGo_enum hout fun h2 he2 hs2=>?_
  obtain⟨u,hu,ru⟩:=rv.get hx;rw[hy] at hu;cases hu;have hfr:H s.heap.objs.size=none:=I.hok.fresh (Nat.le_refl _);have hes:e≠s.heap.objs.size:=Nat.ne_of_lt (Heap.lt_size he);have keep2:∀b u,b∉[e,it]->s.heap.get? b=some u->h2.get? b=some u:=fun b u hb q=>by
   simp at hb;exact hs2.extBut b u hb.1 (hk b u hb.1 hb.2 q)
  have hT2:h2.get? s.heap.objs.size=some { cls:=.type "tuple",data:=.seq #[.int ((c+i:Nat):Int) tk,y] }:=hs2.extBut _ _ (Ne.symm hes) hT;refine⟨.ref s.heap.objs.size,upd H s.heap.objs.size (.tup [.int ((c+i:Nat):Int),x]),Inv.turnNew (s:=s) (h':=h2) (tk:=tk+1) I hf keep2 (Nat.le_refl _) ⟨by show 2<=sizeLine;decide,[.int ((c+i:Nat):Int) tk,y],.cons ⟨_,rfl⟩ (.cons ru .nil),_,hT2,rfl,_,rfl⟩,rfl,
   ⟨s.heap.objs.size,x,hfr,rfl,rfl,fun ws hw=>by rw[I.list_inj hw hq];exact hx⟩,⟨⟨y,?_⟩,?_⟩,?_⟩
  ·rw[show((c+(i+1):Nat):Int)=((c+i:Nat):Int)+1 by push_cast;omega];exact he2
  ·exact hst.1.extBut hs2.extBut (Ne.symm hei)
  ·intro b hb;obtain⟨f0,_⟩:=hf b hb;have:∃o,s.heap.get? b=some o:=by
    simp at hb;rcases hb with rfl|rfl
    ·exact⟨_,he⟩
    ·obtain⟨o,ho,_⟩:=hit;exact⟨o,ho⟩
   obtain⟨o,ho⟩:=this;rw[br (Nat.ne_of_lt (Heap.lt_size ho))];exact f0
 done:=by
  intro X hP hw hK hc i pins s σ H E I hf st hg;subst hP hw hK;obtain⟨⟨old,he⟩,hit⟩:=st;obtain⟨vs,hq,hx⟩:=hg;obtain⟨its,rv,pl,hz⟩:=I.list hq;have ot:s.heap.IsList a its.toArray:=pl.isList;have ha1:a≠it:=by
   rintro rfl;obtain⟨o1,h1,h2,_⟩:=ot;obtain⟨o2,h3,h4,_⟩:=hit;rw[h1] at h3;cases h3;rw[h2] at h4;exact absurd h4 (by simp)
  have hlen:=rv.length;obtain⟨f0,f1,f2,f3,f4,f5⟩:=hf it (by simp);refine jy (I.ok.hd hc) he hit ot ha1 (by simp;omega) fun h' eb=>⟨rfl,I.turned (t':=s.toks) (fun b o hb e=>eb b o hb e) f0 f1 f3 f4 f5⟩
 self:=fun A i s Q E st h=>by
  obtain⟨⟨old,he⟩,hit⟩:=st;exact wpAny_pyIter_enum he h
theorem ItOk.enumL{K:PySem.W.Frag}{H:Hp}{J:List Addr}{a:Addr}{c:Nat}{xs:List D}{g:Option (Nat×List D)}(hok:∀(H1:Hp) (J1:List Addr) (S:List Cell),Ext H J H1 J1->RepS K H1 J1 S->gok g S->∃vs,SqL K H1 a vs/\RepVs K H1 J1 xs vs) :
  ItOk K (Ck K a c) ⟨xs.zipIdx.map fun p=>.tup [.int ((c+p.2:Nat):Int),p.1],g⟩ H J:=by
 intro H1 J1 S x rs gk;obtain⟨vs,hq,rvs⟩:=hok H1 J1 S x rs gk;have hl:=rvs.length;have hlen:(xs.zipIdx.map fun(p:D×Nat)=>D.tup [.int ((c+p.2:Nat):Int),p.1]).length=xs.length:=by simp
 refine⟨fun i hi=>⟨vs,vs[i]'(by rw[hl];simpa using hi),hq,by simp⟩,⟨vs,hq,by rw[hl];simp⟩,?_⟩;rintro i y H' ⟨p,v,hp,rfl,rfl,hv⟩ d hd;have hd':(xs.zipIdx.map fun(p:D×Nat)=>D.tup [.int ((c+p.2:Nat):Int),p.1])[i]?=some d:=hd;rw[List.getElem?_map,List.getElem?_zipIdx] at hd';cases e:xs[i]? with
 |none=>rw[e] at hd';cases hd'
 |some z=>
  rw[e] at hd';simp only[Option.map_some,Option.some.injEq,Nat.zero_add] at hd';subst hd';obtain⟨v',h1,h2⟩:=rvs.get e;have:=hv vs hq;rw[h1] at this;cases this;obtain⟨J',x',rs',rv'⟩:=Got.tup (p:=p) rs (RepVs.cons (RepV.int K H1 J1 ((c+i:Nat):Int)) (.one h2)) hp;exact⟨J',x',rs',rv'⟩
end DL
namespace DL
open PySem PySem.Spec PyProof.Rows L2
section
variable{prog:Program}{w:World}{A:Around}{E:Value->Shared->Prop}{s:Shared}
theorem qz{l:Addr}{items:Array Value}{Q:Value->Shared->Prop}(hL:s.heap.IsTuple l items)
  (h:∀h',IsEnum h' (s.heap.objs.size+1) s.heap.objs.size 0 .none->h'.IsTupleIter s.heap.objs.size l 0->(∀b o,s.heap.get? b=some o->h'.get? b=some o)->Q (.ref (s.heap.objs.size+1)) { s with heap:=h' }) :
  wpAny (model prog w) A (call (.type "enumerate") [.ref l]) Q E s:=by
 obtain⟨⟨c,dct,dt,sl⟩,hl,hc,n,hd⟩:=hL;simp only at hc hd;subst hc hd;refine callType_new F.called_enumerate (by decide) (F.typeCall_enumerate_1 _) (F.newCall_enumerate_1 _) (fun obj=>F.args_object_init_2 obj _) F.entry_enumerate_new (qj l items n dct sl) ⟨hl,?_⟩;have hz:(s.heap.push { cls:=.type "tuple_iterator",data:=.fields #[.ref l,.int 0 0] }).objs.size=s.heap.objs.size+1:=Heap.size_push ..;show _/\_;rw[hz];have he:IsEnum ((s.heap.push { cls:=.type "tuple_iterator",data:=.fields #[.ref l,.int 0 0] }).push { cls:=.type "enumerate",data:=.fields #[.none,.bool false,.ref s.heap.objs.size,rawInt 0,.none,.none] }) (s.heap.objs.size+1) s.heap.objs.size 0 .none:=by
  have q:=Heap.get?_push_size (s.heap.push { cls:=.type "tuple_iterator",data:=.fields #[.ref l,.int 0 0] }) (o:={ cls:=.type "enumerate",data:=.fields #[.none,.bool false,.ref s.heap.objs.size,rawInt 0,.none,.none] }) rfl;rw[hz] at q;exact q
 exact⟨⟨_,he,rfl⟩,h _ he ⟨_,Heap.get?_push_of_some _ (Heap.get?_push_size _ rfl),rfl,rfl⟩ fun b o x=>Heap.get?_push_of_some _ (Heap.get?_push_of_some _ x)⟩
end
def iW(c:Nat)(xs:List D):List D:=xs.zipIdx.map fun p=>.tup [.int ((c+p.2:Nat):Int),p.1]
def wV(c:Nat):D->M Wk
 |.tup xs=>M.ret ⟨iW c xs,none⟩
 |.ob n=>fun S=>match cQ S n with
  |some xs=>.ok ⟨iW c xs,some (n,xs)⟩ S
  |none=>.bad
 |_=>M.bad
def wF(c:Nat)(fe:DSt->M D):DSt->M Wk:=fun r=>(fe r).bind (wV c)
section
variable{X:Cx}{e:Expr}{fe:DSt->M D}{pos:Pos}{elts:List Expr}{k1:Nat}{tpos:Pos}
theorem sV{pins:Pins}{σ:L2.St}{H:Hp}{s:Shared}(I:Inv X pins σ H s):∀b∈[s.heap.objs.size+1,s.heap.objs.size],FpOk X pins H b:=fun b hb=>by
 simp at hb;rcases hb with rfl|rfl
 ·exact I.fpOk (Nat.le_succ _) (I.hok.fresh (Nat.le_succ _))
 ·exact I.fpOk (Nat.le_refl _) (I.hok.fresh (Nat.le_refl _))
theorem zr{p:Pos}(hg:Gl X "enumerate")(hm:X.mg "enumerate"=none)(he:PEd X e fe)(hs:starEach [e] X.env=[(false,eval e X.env)]:=by rfl):PId X (.Tuple elts k1 tpos) (.Call (.Name "enumerate" p) [e] [] pos) (wF 0 fe):=by
 intro pins s σ H J r S Q E I m;have m':MtW X pins σ H J (.Tuple elts k1 tpos) ((ac fe aj r).bind (tE (wV 0)) S) Q E:=by
  unfold wF M.bind at m;unfold ac aj M.bind M.ret;cases e1:fe r S<;>(rw[e1] at m;exact m)
 refine Call_ (kC I.inv hg hm boot_enumerate (PyProof.Rows.callWith_type1 (goR (ae he ah (by rw[hs];rfl)) I m' (fun xs S1 s1 H1 J1 vs us I1 rv r1 m1=>?_) pos) hs rfl))
 match xs,m1,rv with
 |[],m1,rv=>exact m1.elim
 |_ :: _ :: _,m1,rv=>exact m1.elim
 |[x],m1,rv=>
  obtain⟨v,rfl,h1⟩:=rv.one_;obtain⟨u,rfl,ru⟩:=Vals.one r1
  change MtW X pins σ H1 J1 (.Tuple elts k1 tpos) (wV 0 x S1) Q E at m1
  cases x with
  |tup ys=>
   obtain⟨a,ws,rfl,hq,rvs⟩:=h1.tup_;cases ru;obtain⟨its,rl,pl,hz⟩:=I1.inv.tuple hq;refine qz pl fun h' he' hi' hk'=>wpAny_pyIter_enum he' ?_
   refine m1 _ _ ⟨s1.heap.objs.size+1,[s1.heap.objs.size+1,s1.heap.objs.size],_,_,H1,rfl,I1.inv.kept (t':=s1.toks) hk',pc a s1.heap.objs.size (s1.heap.objs.size+1) 0 (Nat.succ_ne_self _),⟨⟨_,he'⟩,hi'⟩,sV I1.inv,J1,Ext.refl _ _,I1.st,trivial,?_⟩;exact ItOk.enumT fun H2 J2 S2 x2 rs2 _=>⟨ws,SqT.ext x2 hq,rvs.ext x2⟩
  |ob n=>
   obtain⟨a,rfl,hn⟩:=h1.ob_;cases ru;simp only[wV] at m1;cases e1:cQ S1 n with
   |none=>rw[e1] at m1;exact m1.elim
   |some ys=>
    rw[e1] at m1;obtain⟨ws,hv,rvs⟩:=I1.st.lst e1 hn;obtain⟨its,rl,pl,hz⟩:=I1.inv.list (SqL.of hv);refine call_enumerate_list pl.isList fun h' he' hi' hz' hk'=>wpAny_pyIter_enum he' ?_
    refine m1 _ _ ⟨s1.heap.objs.size+1,[s1.heap.objs.size+1,s1.heap.objs.size],_,_,H1,rfl,I1.inv.kept (t':=s1.toks) hk',vJ a s1.heap.objs.size (s1.heap.objs.size+1) 0 (Nat.succ_ne_self _),⟨⟨_,he'⟩,hi'⟩,sV I1.inv,J1,Ext.refl _ _,I1.st,pF e1,?_⟩;refine ItOk.enumL fun H2 J2 S2 x2 rs2 gk=>?_
    have hn2:J2[n]?=some a:=by
     obtain⟨m,em⟩:=x2.pre;rw[em,List.getElem?_append_left (List.getElem?_eq_some_iff.mp hn).1];exact hn
    obtain⟨vs2,h2,rv2⟩:=rs2.at_ n _ a gk hn2;exact⟨vs2,SqL.of h2,rv2⟩
  |_=>exact m1.elim
def MtD(X:Cx)(id:String)(g:D->List D->M D):Prop:=∀(pins:Pins) (s:Shared) (σ:L2.St) (H:Hp) (J:List Addr) (S:List Cell) (x:D) (xs:List D) (vx:V) (vs:List V) (v:Value) (us:List Value) (Q E:Value->Shared->Prop),
 Inv X pins σ H s->RepS X.K H J S->RepV X.K H J x vx->RepVs X.K H J xs vs->RelV vx v->Vals vs us->Mt X pins σ H J (g x xs S) Q E->wpAny (model X.prog X.w) X.A (call (.builtin id) (v :: us)) Q E s
theorem Br{es:List Expr}{ft:DSt->M (List D)}(h:PAd X es ft){k:List D->M D}{pins:Pins}{s:Shared}{σ:L2.St}{H:Hp}{J:List Addr}{r:DSt}{S:List Cell}{Q E:Value->Shared->Prop}{Q':List Value->Shared->Prop}(I:At X pins σ H J r S s)
  (m:Mt X pins σ H J ((ft r).bind k S) Q E) (hk:∀xs S1 s1 H1 J1 vs us,At X pins σ H1 J1 r S1 s1->Ext H J H1 J1->RepVs X.K H1 J1 xs vs->Vals vs us->Mt X pins σ H1 J1 (k xs S1) Q E->Q' us s1) (pos:Pos) :
  wpAny (model X.prog X.w) X.A (spliced (backTo pos (starEach es X.env))) Q' E s:=by
 refine h pos pins s σ H J r S _ E I ?_;unfold M.bind at m;cases e1:ft r S with
 |bad=>rw[e1] at m;exact m
 |exc c S1=>rw[e1] at m;exact m
 |ok x S1=>
  rw[e1] at m;intro us s1 ⟨vs,H1,I1,r1,J1,ex1,rs1,rv1⟩;exact hk x S1 s1 H1 J1 vs us ⟨I1,I.loc.ext ex1,rs1⟩ ex1 rv1 r1 (Mt.ext ex1 m)
def As(x:D):M Unit:=fun S=>match x with
 |.ob n=>(match cQ S n with
  |some _=>.ok () S
  |none=>.bad)
 |_=>.bad
def dBM(g:D->List D->M D)(fo:DSt->M D)(ft:DSt->M (List D)):DSt->M D:=fun r=>(fo r).bind fun x=>(As x).bind fun _=>(ft r).bind fun xs=>g x xs
theorem d9{o:Expr}{es:List Expr}{fo:DSt->M D}{ft:DSt->M (List D)}{name:Str}{apos cpos:Pos}{id:String}{g:D->List D->M D}(slot:Slot "list" name id)(hty:typeOf (.builtin id)=pure (.type "method_descriptor"))(hm:MtD X id g)
  (ho:PEd X o fo) (ha:PAd X (e :: es) ft)
  (hbase:attributeBase o name X.env (eval o X.env)=eval o X.env:=by rfl)
  (hfew:((backTo cpos (starEach (e :: es) X.env)).all (fun x=>!x.1) && (backToKw cpos (keywordEach [] X.env)).all (fun x=>x.1.isSome)
   && decide ((e :: es).length+([]:List Keyword).length+(if ([]:List Keyword).isEmpty then 0 else 1)<30))=true:=by rfl)
  (hline:(apos.endLine == cpos.line)=true:=by rfl) (hs:starEach (e :: es) X.env=(false,eval e X.env) :: starEach es X.env:=by rfl) (hplain:(backTo cpos (starEach es X.env)).any (·.1)=false:=by rfl) :
  PEd X (.Call (.Attribute o name apos) (e :: es) [] cpos) (dBM g fo ft):=by
 intro pins s σ H J r S Q E I m;refine wpAny_Call_method_late hbase hfew hline rfl (ho pins s σ H J r S _ E I ?_);unfold dBM M.bind at m;cases e1:fo r S with
 |bad=>rw[e1] at m;exact m
 |exc c S1=>rw[e1] at m;exact m
 |ok x S1=>
  rw[e1] at m;dsimp only at m;rintro v s1 ⟨vx,H1,I1,r1,J1,ex1,rs1,rv1⟩;cases x with
  |ob n=>
   obtain⟨a,rfl,hn⟩:=rv1.ob_;simp only[As] at m;cases e2:cQ S1 n with
   |none=>rw[e2] at m;exact m.elim
   |some xs=>
    rw[e2] at m;obtain⟨ws,hv,rvs⟩:=rs1.lst e2 hn;obtain⟨h1,h2⟩:=Bg I1 r1 (T:="list") (.inl ⟨rfl,ws,SqL.of hv⟩);refine⟨"list",id,PySem.F.plainAttrs_list,slot,hty,h1,h2,?_⟩;have m:=Mt.ext ex1 m;have hA:=Br (k:=fun xs=>g (.ob n) xs) (Q':=fun us s2=>wpAny (model X.prog X.w) X.A (call (.builtin id) (v :: us)) Q E s2) ha ⟨I1,I.loc.ext ex1,rs1⟩ m (fun xs S2 s2 H2 J2 vs us I2 x2 rv r2 m2=>?_) cpos
    ·rw[hs] at hA ⊢;exact Calls.callWith_builtin (by show(false || (backTo cpos (starEach es X.env)).any (·.1))=false;rw[hplain]<;>rfl) (Calls.evalArgs_plain hA)
    ·exact hm pins s2 σ H2 J2 S2 (.ob n) xs (.ref a) vs v us Q E I2.inv I2.st (rv1.ext x2) rv r1 r2 m2
  |_=>exact m.elim
def jO:D->List D->M D
 |.ob n,[y]=>fun S=>match cQ S n with
  |some xs=>cif (xs.length<sizeLine) (.ok .non (S.set n (.lst (xs++[y])))) .bad
  |none=>.bad
 |_,_=>M.bad
theorem dE:MtD X "list.append" jO:=by
 intro pins s σ H J S x xs vx vs v us Q E I rs rx rxs rv rvs m
 match x,xs,m,rx,rxs with
 |.ob n,[y],m,rx,rxs=>
  obtain⟨a,rfl,hn⟩:=rx.ob_;obtain⟨w,rfl,rw'⟩:=rxs.one_;simp only[jO,cif] at m;cases e1:cQ S n with
  |none=>rw[e1] at m;exact m.elim
  |some xs=>
   rw[e1] at m;dsimp only at m;obtain⟨ws,hv,rws⟩:=rs.lst e1 hn;split at m
   ·rename_i hz;refine wpAny_mono (rV (X:=X.wish E) pins s σ H (.ref a) [w] v us (Got X.K H J .non (S.set n (.lst (xs++[y])))) (I.wish E) rv rvs ⟨a,ws,w,rfl,rfl,hv,by rw[rws.length];exact hz,?_⟩) (fun u s' q=>m u s' (EP.unwish q)) fun _ _ z=>z
    have x9:Ext H J (upd H a (.lst (ws++[w]))) J:=Ext.write hv rfl;exact⟨J,x9,rs.write hn ⟨_,bE,(rws.ext x9).append (.one (rw'.ext x9))⟩,RepV.non _ _ _⟩
   ·exact m.elim
 |.ob n,[],m,_,_=>exact m.elim
 |.ob n,_ :: _ :: _,m,_,_=>exact m.elim
 |.non,xs,m,_,_=>cases xs<;>exact m.elim
 |.bl _,xs,m,_,_=>cases xs<;>exact m.elim
 |.int _,xs,m,_,_=>cases xs<;>exact m.elim
 |.str _,xs,m,_,_=>cases xs<;>exact m.elim
 |.tup _,xs,m,_,_=>cases xs<;>exact m.elim
 |.rol _,xs,m,_,_=>cases xs<;>exact m.elim
 |.xn _,xs,m,_,_=>cases xs<;>exact m.elim
end
end DL
namespace DL
open PySem PySem.Spec PyProof.Rows L2
structure Cal(P:Program)(w:World)(K:PySem.W.Frag)(mg:Str->Option Value)(base:Heap)(CX:CXT)(x:Str)(k:Nat)(ps:List Str)(F:List D->M D):Prop where
 ex:∃f fd,mg x=some (.ref f)/\PySem.W.keepIn K (.ref f)=true/\Binds K fd ps []/\FnD P w K mg base CX k f fd ps F
theorem aQ{X:Cx}{CX:CXT}{k:Nat}{ps:List Str}{F:List D->M D}{x:Str}{p pos:Pos}{e:Expr}{es:List Expr}{ft:DSt->M (List D)}(h:Cal X.prog X.w X.K X.mg X.base CX x k ps F)(hr:Room k X.A)(hg:Gl X x)(hx:nX CX X)(ha:PAd X (e :: es) ft)
  (hl:∀r S xs S',ft r S=.ok xs S'->xs.length=ps.length)
  (hdb:(x == ("__debug__":Str))=false:=by decide) (he:starEach (e :: es) X.env=(false,eval e X.env) :: starEach es X.env:=by rfl) (hpl:(backTo pos (starEach es X.env)).any (·.1)=false:=by rfl) :
  PEd X (.Call (.Name x p) (e :: es) [] pos) (am F ft):=by
 obtain⟨f,fd,hm,hk,hb,hF⟩:=h.ex;exact Am hF hr hg hm hk hb hx ha hl hdb he hpl
theorem aC:∀(r:DSt) (S:List Cell) (xs:List D) (S':List Cell),aj r S=.ok xs S'->xs.length=0:=by
 intro r S xs S' e;cases e;rfl
theorem ak{n:Nat}{f:DSt->M D}{g:DSt->M (List D)}(h:∀(r:DSt) (S:List Cell) (xs:List D) (S':List Cell),g r S=.ok xs S'->xs.length=n):∀(r:DSt) (S:List Cell) (xs:List D) (S':List Cell),ac f g r S=.ok xs S'->xs.length=n+1:=by
 intro r S xs S' e;unfold ac M.bind at e;cases e1:f r S with
 |bad=>rw[e1] at e;cases e
 |exc c S1=>rw[e1] at e;cases e
 |ok x S1=>
  rw[e1] at e;dsimp only at e;cases e2:g r S1 with
  |bad=>rw[e2] at e;cases e
  |exc c S1=>rw[e2] at e;cases e
  |ok ys S2=>
   rw[e2] at e;have e':R.ok (x :: ys) S2=R.ok xs S':=e
   injection e' with e3 e4
   rw[<-e3,List.length_cons,h r S1 ys S2 e2]
def fin(S0:List Cell):RSt->R D
 |some (.rt d,S')=>.ok d S'
 |some (.nx _,S')=>.ok .non S'
 |some (.xc c _,S')=>.exc c S'
 |_=>.bad
theorem lZ{S0:List Cell}{x:RSt}:BD S0 x (fin S0 x):=by
 match x with
 |none=>trivial
 |some (.rt d,S')=>exact⟨[],.inl rfl,.inl (by rw[List.append_nil])⟩
 |some (.nx r,S')=>exact⟨[],.inl rfl,.inr ⟨rfl,r,by rw[List.append_nil]⟩⟩
 |some (.xc c r,S')=>exact⟨r,rfl⟩
 |some (.bk r,S')=>trivial
 |some (.ct r,S')=>trivial
open Classical in
def cN(S0:List Cell):RSt->R D
 |some (.rt d,S')=>if (∃G,S'=S0++G)/\wfD S0.length d then .ok d S0 else .bad
 |some (.nx _,S')=>if ∃G,S'=S0++G then .ok .non S0 else .bad
 |some (.xc c _,S')=>.exc c S'
 |_=>.bad
theorem w5{S0:List Cell}{x:RSt}:BD S0 x (cN S0 x):=by
 match x with
 |none=>trivial
 |some (.rt d,S')=>
  simp only[cN];by_cases h:(∃G,S'=S0++G)/\wfD S0.length d
  ·rw[if_pos h];obtain⟨⟨G,rfl⟩,hd⟩:=h;exact⟨G,.inr ⟨Nat.le_refl _,hd,.inl rfl⟩,.inl rfl⟩
  ·rw[if_neg h];trivial
 |some (.nx r,S')=>
  simp only[cN];by_cases h:∃G,S'=S0++G
  ·rw[if_pos h];obtain⟨G,rfl⟩:=h;exact⟨G,.inr ⟨Nat.le_refl _,by unfold wfD;trivial,.inl rfl⟩,.inr ⟨rfl,r,rfl⟩⟩
  ·rw[if_neg h];trivial
 |some (.xc c r,S')=>exact⟨r,rfl⟩
 |some (.bk r,S')=>trivial
 |some (.ct r,S')=>trivial
def j6:DSt->M Bool:=fun _=>M.ret true
def ltD:D->D->M D:=sx fun i j=>decide (i<j)
def leD:D->D->M D:=sx fun i j=>decide (i<=j)
def gtD:D->D->M D:=sx fun i j=>decide (j<i)
def geD:D->D->M D:=sx fun i j=>decide (j<=i)
def B2:List D->M D:=uM fun i j=>if j > i then j else i
def xR:List D->M D:=uM fun i j=>if j<i then j else i
def dUn(g:D->M D)(fa:DSt->M D):DSt->M D:=fun r=>(fa r).bind g
theorem CH{X:Cx}{a:Expr}{fa:DSt->M D}{pos:Pos}{op:UnaryOp}{g:D->M D}(ho:UnD X (unaryOp op) g)(ha:PEd X a fa):PEd X (.UnaryOp op a pos) (dUn g fa):=by
 intro pins s σ H J r S Q E I m;refine UnaryOp_ (ha pins s σ H J r S _ E I ?_);unfold dUn M.bind at m;cases e1:fa r S with
 |bad=>rw[e1] at m;exact m
 |exc c S1=>rw[e1] at m;exact m
 |ok x S1=>
  rw[e1] at m;rintro v s1 ⟨vx,H1,I1,r1,J1,ex,rs,rv⟩;exact ho pins s1 σ H1 J1 S1 x vx v Q E I1 rs rv r1 (Mt.ext ex m)
def AU:D->M D
 |.int i=>M.ret (.int (-i))
 |_=>M.bad
theorem By{X:Cx}:UnD X (unaryOp .USub) AU:=by
 refine UnD.of (fun E=>Bx) (fun H J S x vx d S' rs rx e=>?_) (fun x S c S' e=>?_)
 ·cases x with
  |int i=>
   cases rx.int_;cases e;exact⟨i,rfl,J,Ext.refl _ _,rs,RepV.int _ _ _ _⟩
  |_=>cases e
 ·cases x with
  |int i=>cases e
  |_=>cases e
def qD(x:D):M Bool:=fun S=>match x with
 |.non=>.ok false S
 |.bl b=>.ok b S
 |.int i=>.ok (i != 0) S
 |.tup xs=>.ok (!xs.isEmpty) S
 |.rol xs=>.ok (!xs.isEmpty) S
 |.ob n=>(match S[n]? with
  |some (.lst xs)=>.ok (!xs.isEmpty) S
  |some (.dic kvs)=>.ok (!kvs.isEmpty) S
  |_=>.bad)
 |_=>.bad
def bU(f:DSt->M D):DSt->M Bool:=fun r=>(f r).bind qD
theorem RepVs.isEmpty{K:PySem.W.Frag}{H:Hp}{J:List Addr}{xs:List D}{vs:List V}(h:RepVs K H J xs vs):vs.isEmpty=xs.isEmpty:=by
 have:=h.length;cases xs with
 |nil=>cases vs with
  |nil=>rfl
  |cons _ _=>cases this
 |cons _ _=>cases vs with
  |nil=>cases this
  |cons _ _=>rfl
theorem RepPs.isEmpty{κ:Type}{K:PySem.W.Frag}{H:Hp}{J:List Addr}{xs:List (κ×D)}{vs:List (κ×V)}(h:RepPs K H J xs vs):vs.isEmpty=xs.isEmpty:=by
 have:=h.length;cases xs with
 |nil=>cases vs with
  |nil=>rfl
  |cons _ _=>cases this
 |cons _ _=>cases vs with
  |nil=>cases this
  |cons _ _=>rfl
theorem db{X:Cx}{a:Expr}{fa:DSt->M D}(ha:PEd X a fa)(he:∀whole,isTrue a X.env whole=(do let v <-whole;standAt a.pos;holding [v] (truthy v)):=by intro _;rfl):PTd X a (bU fa):=by
 intro pins s σ H J r S Q E I m;refine isTrue_plain (ha pins s σ H J r S _ E I ?_) (he _);unfold bU M.bind at m;cases e1:fa r S with
 |bad=>rw[e1] at m;exact m
 |exc c S1=>rw[e1] at m;exact m
 |ok x S1=>
  rw[e1] at m;rintro v s1 ⟨vx,H1,I1,r1,J1,ex,rs,rv⟩;have fin:∀k,CP X.K vx H1 k->qD x S1=.ok k S1->wpAny (model X.prog X.w) X.A (truthy v) Q E s1:=fun k ht hk=>by
   dsimp only at m;rw[hk] at m;exact wpAny_mono (BN (X:=X.wish E) pins s1 σ H1 vx v (fun b H'=>b=k/\H'=H1) (I1.wish E) r1 ⟨k,ht,rfl,rfl⟩) (fun b s2 ⟨H2,I2,hb,hH⟩=>by subst hb hH;exact m s2 ⟨_,I2.unwish,J1,ex,rs⟩) fun _ _ z=>z
  cases x with
  |non=>cases rv.non_;exact fin false rfl rfl
  |bl b=>cases rv.bl_;exact fin b rfl rfl
  |int i=>cases rv.int_;exact fin _ rfl rfl
  |tup xs=>
   obtain⟨a,vs,rfl,hq,rvs⟩:=rv.tup_;exact fin _ (.inr (.inl ⟨vs,hq,by rw[rvs.isEmpty]⟩)) rfl
  |rol xs=>
   obtain⟨a,vs,rfl,hq,rvs⟩:=rv.rol_;exact fin _ (.inl ⟨vs,hq.sq,by rw[rvs.isEmpty]⟩) rfl
  |ob n=>
   obtain⟨a,rfl,hn⟩:=rv.ob_;obtain⟨c,hc,rc⟩:=rs.cellA hn;cases c with
   |lst xs=>
    obtain⟨vs,hv,rvs⟩:=rc;exact fin (!xs.isEmpty) (.inl ⟨vs,SqL.of hv,by rw[rvs.isEmpty]⟩) (by simp only[qD,hc])
   |dic xs=>
    obtain⟨vs,hv,rvs⟩:=rc;exact fin (!xs.isEmpty) (.inr (.inr ⟨vs,hv,by rw[rvs.isEmpty]⟩)) (by simp only[qD,hc])
   |ins C ns ds=>
    dsimp only[qD] at m;rw[hc] at m;exact m.elim
  |_=>exact m.elim
def ClOk(X:Cx):List (Str×Addr)->Prop
 |[]=>True
 |p :: r=>X.env.cells.lookup p.1=some p.2/\ClOk X r
theorem ClOk.all{X:Cx}:∀{cl:List (Str×Addr)},ClOk X cl->∀p∈cl,X.env.cells.lookup p.1=some p.2
 |[],_,p,hp=>by cases hp
 |q :: r,h,p,hp=>by
  rcases List.mem_cons.mp hp with rfl|hp
  ·exact h.1
  ·exact ClOk.all h.2 p hp
def wS(K:PySem.W.Frag):Sp:=fun vs H Q _=>∃(a:Addr) (ns:List Int),vs=[.ref a]/\SqL K H a (ns.map V.int)/\ns.length<=63/\Ac H/\∀H',Q (.bl true) H'
theorem yZ{K:PySem.W.Frag}{F:List D->M D}(hF:∀ns:List Int,ns.length<=63->∃S',F [.rol (ns.map D.int)] []=.ok (.bl true) S'):∀vs H Q E,wS K vs H Q E->spD K 1 F vs H Q E:=by
 rintro vs H Q E ⟨a,ns,rfl,hS,hl,ho,k⟩;refine⟨rfl,[],[.rol (ns.map D.int)],[],?_,⟨rfl,List.nodup_nil,fun n c a h=>by simp at h⟩,?_⟩
 ·refine .one ?_;unfold RepV;refine⟨a,ns.map V.int,rfl,?_,RepVs.ints ns⟩;rcases hS with (h|⟨o,h⟩)|h
  ·rcases ho a with e|⟨o,xs,e⟩
   ·rw[h] at e;cases e
   ·rw[h] at e;cases e
  ·exact .inl ⟨o,h⟩
  ·exact .inr h
 ·obtain⟨S',e⟩:=hF ns hl;rw[e];rintro v H' ⟨J',_,_,rv⟩;rw[rv.bl_];exact k H'
end DL
namespace DL
open PySem PySem.Spec PyProof.Rows L2
@[simp] theorem Cq{α:Type}{a b:α}:cif True a b=a:=cq trivial
@[simp] theorem Cj{α:Type}{a b:α}:cif False a b=b:=wn (fun h=>h)
theorem eN{g:Option (Nat×List D)}{tg:TGd}{b:TSt}(Iv:Nat->DSt->List Cell->Prop):∀(items:List D) (k:Nat) (r:DSt) (S:List Cell),
  (∀i x r S,items[i]?=some x->Iv (k+i) r S->∃r1 r2 S2,tg x r=some r1/\b r1 S=some (.nx r2,S2)/\gok g S2/\Iv (k+i+1) r2 S2)->Iv k r S->
  ∃r' S',ix g tg b items r S=some (.nx r',S')/\Iv (k+items.length) r' S'
 |[],k,r,S,_,h=>⟨r,S,rfl,by simpa using h⟩
 |x :: xs,k,r,S,hs,h=>by
  obtain⟨r1,r2,S2,h1,h2,h3,h4⟩:=hs 0 x r S rfl h;obtain⟨r',S',e1,e2⟩:=eN Iv xs (k+1) r2 S2 (fun i y r S hy hi=>by
   have:=hs (i+1) y r S (by simpa using hy) (by rw[show k+(i+1)=k+1+i by omega];exact hi);rw[show k+(i+1)+1=k+1+i+1 by omega] at this;exact this) h4
  refine⟨r',S',?_,by rw[List.length_cons,show k+(xs.length+1)=k+1+xs.length by omega];exact e2⟩;unfold ix;rw[h1];dsimp only;rw[h2];dsimp only;rw[if_pos h3];exact e1
theorem tP(S:List Cell)(n:Nat):∀is:List Int,pDs S (n+1) (is.map D.int)=some (is.map PyData.int)
 |[]=>by simp[pDs]
 |i :: is=>by simp[pDs,pD,tP S n is]
theorem p8(S:List Cell)(n:Nat)(is:List Int):pD S (n+2) (.tup (is.map D.int))=some (.tuple (is.map PyData.int)):=by
 simp[pD,tP]
theorem nW:∀is js:List Int,PyData.eqvAll (is.map PyData.int) (js.map PyData.int)=decide (is=js)
 |[],[]=>by simp[PyData.eqvAll]
 |[],_ :: _=>by simp[PyData.eqvAll]
 |_ :: _,[]=>by simp[PyData.eqvAll]
 |i :: is,j :: js=>by
  simp only[List.map_cons,PyData.eqvAll,PyData.eqv,nW is js,List.cons.injEq];by_cases h1:i=j<;>by_cases h2:is=js<;>simp[h1,h2]
theorem zj(S:List Cell)(is js:List Int):neD (.tup (is.map D.int)) (.tup (js.map D.int)) S=.ok (.bl (!decide (is=js))) S:=by
 simp only[neD,p8 S 28,PyData.eqv,nW]
theorem z7(S:List Cell)(i j:Int):eqD (.int i) (.int j) S=.ok (.bl (decide (i=j))) S:=by
 have e:(i == j)=decide (i=j):=by
  by_cases h:i=j<;>simp[h]
 simp only[eqD,pD,PyData.eqv,e]
theorem Ab(S:List Cell)(i j:Int):neD (.int i) (.int j) S=.ok (.bl (!decide (i=j))) S:=by
 have e:(i == j)=decide (i=j):=by
  by_cases h:i=j<;>simp[h]
 simp only[neD,pD,PyData.eqv,e]
theorem vB{S:List Cell}{n:Nat}(h:n<=1000000):uc 0 (n:Int) 1 S=.ok ⟨hW 0 1 n,none⟩ S:=by
 have hs:Builtin.Range.small 0 (n:Int) 1=true:=small_one (by omega) (by omega) (by omega) (by omega);unfold uc;have e:(if (0:Int)<(n:Int) then (n:Int)-0 else 0).toNat=n:=by split<;>omega
 rw[cq ⟨⟨by omega,by omega⟩,hs⟩,rangeSize_one,e]
theorem rm{xs:List D}{k:Nat}(h:k<=xs.length):eu xs none (some (k:Int))=xs.take k:=by
 unfold eu;rw[HT.sIx_none,HT.sIx_nat,Nat.min_eq_left h];simp
theorem eR{xs:List D}{k:Nat}(h:k<=xs.length):eu xs (some (k:Int)) none=xs.drop k:=by
 unfold eu;rw[HT.sIx_none,HT.sIx_nat,Nat.min_eq_left h];rw[List.take_of_length_le];simp
end DL
namespace DL
open PySem PySem.Spec PyProof.Rows L2
open AutoSeq1 (wpAny_loadPart')
open SeqAt
theorem jv{prog:Program}{w:World}{A:Around}{items:Array Value}{x:Value}{e:Value->Bool}{j:Nat}(hj:j<items.size)(hit:e items[j]=true)(hno:∀m (hm:m<items.size),m<j->e items[m]=false){s:Shared}
  (he:∀y,y∈items->EqAt A s y x (e y)) {Q:Option PySem.Fin×PUnit->Shared->Prop}{E:Value->Shared->Prop}(hQ:Q (some (.done (.ret (.int j s.toks))),()) { s with toks:=s.toks+1 }):∀(k pre:Nat),pre+k=items.size->pre<=j->
  wpAny (model prog w) A (forIn (List.range' pre k) ((none,()):Option PySem.Fin×PUnit) fun(i:Nat) (_:Option PySem.Fin×PUnit)=>match items[i]? with
      |some y=>do
       let b <-eqBool y x
       if b=true then do
         let r <-retInt ((i:Nat):Int)
         pure (ForInStep.done (some r,()))
        else pure (ForInStep.yield (none,()))
      |_=>pure (ForInStep.yield (none,()))) Q E s
 |0,pre,h1,h2=>by omega
 |k+1,pre,h1,h2=>by
  rw[List.range'_succ,List.forIn_cons];have hp:pre<items.size:=by omega
  have hg:items[pre]?=some items[pre]:=by simp[hp]
  rw[hg];dsimp only;refine wpAny_bind (wpAny_bind (he _ (Array.getElem_mem hp) prog w E _ ?_));by_cases hpj:pre=j
  ·subst hpj;rw[hit,if_pos rfl];refine wpAny_bind (m:=retInt _) (wpAny_bind (wpAny_mkInt (wpAny_pure ?_)));exact wpAny_pure (wpAny_pure hQ)
  ·rw[hno pre hp (by omega),if_neg (by decide)];exact wpAny_pure (jv hj hit hno he hQ k (pre+1) (by omega) (by omega))
theorem mG(l:Addr)(items:Array Value)(n:Nat)(dd:Option Addr)(sl:Array (Option Value))(x:Value)(e:Value->Bool)(j:Nat)(hj:j<items.size)
  (hit:e items[j]=true) (hno:∀m (hm:m<items.size),m<j->e items[m]=false) :
  Meets (Builtin.«tuple.index» ⟨[.ref l,x],[]⟩)
   (fun A R s=>s.heap.get? l=some { cls:=.type "tuple",dict:=dd,data:=.seq items n,slots:=sl }/\(∀y,y∈items->EqAt A.in1 s y x (e y))/\R (.ok (.ret (.int j s.toks))) { s with toks:=s.toks+1 }):=by
 refine .of_wp fun prog w A R s h=>?_
 obtain⟨hp,g,d,tk,os⟩:=s;obtain⟨hl,he,h⟩:=h;unfold Builtin.«tuple.index»;simp only[Std.Legacy.Range.forIn_eq_forIn_range']
 wp_walk using wpAny_loadPart' hl
 refine jv (s:=⟨hp,g,d,tk,os⟩) hj hit hno he ?_ _ 0 ?_ (Nat.zero_le _)
 ·exact wpAny_pure ⟨_,rfl,h⟩
 ·simp[Std.Legacy.Range.size]
def fv:D->Option V
 |.non=>some .non
 |.bl b=>some (.bl b)
 |.int i=>some (.int i)
 |.str x=>some (.str x)
 |_=>none
def fvs:List D->Option (List V)
 |[]=>some []
 |x :: xs=>match fv x,fvs xs with
  |some v,some vs=>some (v :: vs)
  |_,_=>none
theorem vn{K:PySem.W.Frag}{H:Hp}{J:List Addr}{d:D}{v w:V}(h:fv d=some w)(r:RepV K H J d v):v=w/\jt w=true:=by
 cases d with
 |non=>cases h;exact⟨r.non_,rfl⟩
 |bl b=>cases h;exact⟨r.bl_,rfl⟩
 |int b=>cases h;exact⟨r.int_,rfl⟩
 |str b=>cases h;exact⟨r.str_,rfl⟩
 |_=>cases h
theorem sT{K:PySem.W.Frag}{H:Hp}{J:List Addr}:∀{xs:List D}{vs ws:List V},fvs xs=some ws->RepVs K H J xs vs->vs=ws/\ws.all jt=true
 |[],vs,ws,h,r=>by
  cases h;unfold RepVs at r;exact⟨r,rfl⟩
 |x :: xs,vs,ws,h,r=>by
  unfold RepVs at r;obtain⟨v,t,rfl,r1,r2⟩:=r;unfold fvs at h;cases e1:fv x with
  |none=>rw[e1] at h;cases h
  |some w=>
   cases e2:fvs xs with
   |none=>rw[e1,e2] at h;cases h
   |some ws'=>
    rw[e1,e2] at h;cases h;obtain⟨rfl,h1⟩:=vn e1 r1;obtain⟨rfl,h2⟩:=sT e2 r2;exact⟨rfl,by simp[h1,h2]⟩
def inD(x y:D):M D:=fun S=>match fv x,gu S y with
 |some w,some ys=>(match fvs ys with
  |some ws=>.ok (.bl (inV w ws)) S
  |none=>.bad)
 |_,_=>.bad
section
variable{X:Cx}
theorem Cn(hu:X.A.units+64<cLine):OpD X (compareOp .In) inD:=by
 intro pins s σ H J S x y vx vy v u Q E I rs rx ry rv ru m;unfold inD at m;cases e1:fv x with
 |none=>rw[e1] at m;exact m.elim
 |some w=>
  cases e2:gu S y with
  |none=>rw[e1,e2] at m;exact m.elim
  |some ys=>
   rw[e1,e2] at m;dsimp only at m;cases e3:fvs ys with
   |none=>rw[e3] at m;exact m.elim
   |some ws=>
    rw[e3] at m;obtain⟨rfl,h1⟩:=vn e1 rx;obtain⟨a,vs,rfl,hq,rvs⟩:=kO rs ry e2;obtain⟨rfl,h2⟩:=sT e3 rvs;exact wpAny_mono (w4 (X:=X.wish E) pins s σ H vx (.ref a) v u (Got X.K H J (.bl (inV vx vs)) S) (I.wish E) rv ru ⟨a,vs,rfl,hq,h1,h2,J,Ext.refl _ _,rs,RepV.bl _ _ _ _⟩) (fun u s' q=>m u s' (EP.unwish q)) fun _ _ z=>z
def km:List D->Option (List Int)
 |[]=>some []
 |.int i :: xs=>(km xs).map (i :: ·)
 |_ :: _=>none
def nZ:List D->Option (List Bool)
 |[]=>some []
 |.bl i :: xs=>(nZ xs).map (i :: ·)
 |_ :: _=>none
theorem pQ:∀{xs:List D}{is:List Int},km xs=some is->xs=is.map D.int
 |[],is,h=>by cases h;rfl
 |x :: xs,is,h=>by
  cases x with
  |int i=>
   simp only[km] at h;cases e:km xs with
   |none=>rw[e] at h;cases h
   |some js=>
    rw[e] at h;cases h;rw[pQ e];rfl
  |_=>cases h
theorem rQ:∀{xs:List D}{is:List Bool},nZ xs=some is->xs=is.map D.bl
 |[],is,h=>by cases h;rfl
 |x :: xs,is,h=>by
  cases x with
  |bl i=>
   simp only[nZ] at h;cases e:nZ xs with
   |none=>rw[e] at h;cases h
   |some js=>
    rw[e] at h;cases h;rw[rQ e];rfl
  |_=>cases h
theorem iT:∀is:List Int,km (is.map D.int)=some is
 |[]=>rfl
 |i :: is=>by simp[km,iT is]
theorem sd:∀is:List Bool,nZ (is.map D.bl)=some is
 |[]=>rfl
 |i :: is=>by simp[nZ,sd is]
def nA:List D->M D
 |[x]=>fun S=>match gu S x with
  |some xs=>(match km xs with
   |some is=>.ok (.int is.sum) S
   |none=>.bad)
  |none=>.bad
 |_=>M.bad
def yv:List D->M D
 |[x]=>fun S=>match gu S x with
  |some xs=>(match nZ xs with
   |some is=>.ok (.bl (is.all id)) S
   |none=>.bad)
  |none=>.bad
 |_=>M.bad
theorem nP(is:List Int):∀n,n<=is.length->preSum (fun i=>is.getD i 0) n=(is.take n).sum
 |0,_=>by simp[preSum]
 |n+1,h=>by
  rw[preSum,nP is n (by omega),List.take_add_one,List.sum_append];have hg:is[n]?=some (is.getD n 0):=by simp[List.getD,List.getElem?_eq_getElem (show n<is.length by omega)]
  rw[hg];simp
theorem xY(is:List Bool):(List.range is.length).all (fun i=>is.getD i true)=is.all id:=by
 rw[Bool.eq_iff_iff,List.all_eq_true,List.all_eq_true];constructor
 ·intro h b hb;obtain⟨i,hi,rfl⟩:=List.mem_iff_getElem.mp hb;have:=h i (List.mem_range.mpr hi);simpa[List.getD,List.getElem?_eq_getElem hi] using this
 ·intro h i hi;have hi:=List.mem_range.mp hi;have:=h _ (List.getElem_mem hi);simpa[List.getD,List.getElem?_eq_getElem hi] using this
theorem qf{α:Type}{f:α->D}{g:α->V}{K:PySem.W.Frag}{H:Hp}{J:List Addr}(hfg:∀a v,RepV K H J (f a) v->v=g a):∀{as:List α}{vs:List V},RepVs K H J (as.map f) vs->vs=as.map g
 |[],vs,h=>by unfold RepVs at h;simpa using h
 |a :: as,vs,h=>by
  rw[List.map_cons] at h;unfold RepVs at h;obtain⟨v,r,rfl,h1,h2⟩:=h;rw[hfg a v h1,qf hfg h2];rfl
theorem uo{pins:Pins}{σ:L2.St}{H:Hp}{s:Shared}{a:Addr}{vs:List V}(hc:X.calm=true)(I:Inv X pins σ H s)(hq:SqL X.K H a vs\/SqT X.K H a vs){Q E:Value->Shared->Prop}
  (h:∀(it:Addr) (fp:List Addr) (St:Nat->Heap->Prop) (its:List Value) (s2:Shared),Vals vs its->Walks X.prog X.w X.A.in1 it fp [it] its.length (fun i v=>its[i]?=some v) St->St 0 s2.heap->(∀b∈fp,b<s2.heap.objs.size)->s2.toks=s.toks->
   (∀h' tk,(∀b o,b∉[it]->s2.heap.get? b=some o->h'.get? b=some o)->Inv X pins σ H { s2 with heap:=h',toks:=tk })->Q (.ref it) s2):wpAny (model X.prog X.w) X.A.in1 (pyIter (.ref a)) Q E s:=by
 rcases hq with hq|hq
 ·obtain⟨its,rl,pl,hz⟩:=I.list hq;have hlt:a<s.heap.objs.size:=by
   obtain⟨o,ho,_⟩:=pl.isList;exact Heap.lt_size ho
  refine wpAny_pyIter_list pl.isList (h s.heap.objs.size [s.heap.objs.size,a] (fun i h=>h.IsListIter s.heap.objs.size a i/\h.IsList a its.toArray) its _ rl (by simpa using Walks.list (prog:=X.prog) (w:=X.w) (A:=X.A.in1) (I.ok.hd hc) s.heap.objs.size a (Nat.ne_of_lt hlt) its.toArray) ⟨⟨_,Heap.get?_push_size _ rfl,rfl,rfl⟩,pl.isList.at fun o e=>Heap.get?_push_of_some _ e⟩ (fun b hb=>?_) rfl fun h' tk hk=>?_)
  ·simp at hb;rw[Heap.size_push];rcases hb with rfl|rfl
   ·exact Nat.lt_succ_self _
   ·exact Nat.lt_succ_of_lt hlt
  ·exact I.kept fun b o e=>hk b o (by simp;exact Nat.ne_of_lt (Heap.lt_size e)) (Heap.get?_push_of_some _ e)
 ·obtain⟨its,rl,pl,hz⟩:=I.tuple hq;have hT:s.heap.IsTuple a its.toArray:=pl;have hlt:a<s.heap.objs.size:=by
   obtain⟨o,ho,_⟩:=hT;exact Heap.lt_size ho
  refine wpAny_pyIter_tuple hT (h s.heap.objs.size [s.heap.objs.size,a] (fun i h=>h.IsTupleIter s.heap.objs.size a i/\h.IsTuple a its.toArray) its _ rl (by simpa using Walks.tuple (prog:=X.prog) (w:=X.w) (A:=X.A.in1) (I.ok.hd hc) s.heap.objs.size a (Nat.ne_of_lt hlt) its.toArray) ⟨⟨_,Heap.get?_push_size _ rfl,rfl,rfl⟩,hT.at fun o e=>Heap.get?_push_of_some _ e⟩ (fun b hb=>?_) rfl fun h' tk hk=>?_)
  ·simp at hb;rw[Heap.size_push];rcases hb with rfl|rfl
   ·exact Nat.lt_succ_self _
   ·exact Nat.lt_succ_of_lt hlt
  ·exact I.kept fun b o e=>hk b o (by simp;exact Nat.ne_of_lt (Heap.lt_size e)) (Heap.get?_push_of_some _ e)
theorem vF(hc:X.calm=true):CallD X (.builtin "sum") nA:=by
 intro pins s σ H J S xs vs us Q E I rs rx rv m
 match xs,m,rx with
 |[],m,rx=>exact m.elim
 |_ :: _ :: _,m,rx=>exact m.elim
 |[x],m,rx=>
  obtain⟨v,rfl,h1⟩:=rx.one_;obtain⟨u,rfl,ru⟩:=Vals.one rv;simp only[nA] at m;cases e1:gu S x with
  |none=>rw[e1] at m;exact m.elim
  |some ys=>
   rw[e1] at m;dsimp only at m;cases e2:km ys with
   |none=>rw[e2] at m;exact m.elim
   |some is=>
    rw[e2] at m;cases pQ e2;obtain⟨a,ws,rfl,hq,rvs⟩:=kO rs h1 e1;cases ru;have ew:=qf (g:=V.int) (fun i v h=>h.int_) rvs;subst ew;refine call_sum_walkG (uo hc I hq fun it fp St its s2 rl W st hf htk hI=>?_);have hi:=vK rl;have hlen:its.length=is.length:=by have:=rl.length;simpa using this.symm
    refine⟨it,fp,[it],its.length,_,St,(fun i=>is.getD i 0),rfl,W,st,hf,?_,?_⟩
    ·intro i v hv;obtain⟨x,hx,rx⟩:∃x,(is.map V.int)[i]?=some x/\RelV x v:=by
      have hlt:=(List.getElem?_eq_some_iff.mp hv).1;obtain⟨u,hu,ru⟩:=Vals.get (x:=.int (is.getD i 0)) rl (i:=i) (by simp[List.getD,List.getElem?_eq_getElem (show i<is.length by omega)]);rw[hv] at hu;cases hu;exact⟨_,by simp[List.getD,List.getElem?_eq_getElem (show i<is.length by omega)],ru⟩
     rw[List.getElem?_map] at hx;cases e:is[i]? with
     |none=>rw[e] at hx;cases hx
     |some k=>
      rw[e] at hx;cases hx;obtain⟨t,rfl⟩:=rx;exact⟨t,by simp[List.getD,e]⟩
    ·intro h' tk t' hk;rw[hlen,nP is _ (Nat.le_refl _),List.take_length];exact m.ok_ (hI h' tk hk) rs (RepV.int _ _ _ _) ⟨_,rfl⟩
theorem BU(hc:X.calm=true):CallD X (.builtin "all") yv:=by
 intro pins s σ H J S xs vs us Q E I rs rx rv m
 match xs,m,rx with
 |[],m,rx=>exact m.elim
 |_ :: _ :: _,m,rx=>exact m.elim
 |[x],m,rx=>
  obtain⟨v,rfl,h1⟩:=rx.one_;obtain⟨u,rfl,ru⟩:=Vals.one rv;simp only[yv] at m;cases e1:gu S x with
  |none=>rw[e1] at m;exact m.elim
  |some ys=>
   rw[e1] at m;dsimp only at m;cases e2:nZ ys with
   |none=>rw[e2] at m;exact m.elim
   |some is=>
    rw[e2] at m;cases rQ e2;obtain⟨a,ws,rfl,hq,rvs⟩:=kO rs h1 e1;cases ru;have ew:=qf (g:=V.bl) (fun i v h=>h.bl_) rvs;subst ew;refine call_all_walk (uo hc I hq fun it fp St its s2 rl W st hf htk hI=>?_);have hlen:its.length=is.length:=by have:=rl.length;simpa using this.symm
    refine⟨it,fp,[it],its.length,_,St,(fun i=>is.getD i true),rfl,W,st,?_,?_⟩
    ·intro i v s Q E hv hQ;have hlt:=(List.getElem?_eq_some_iff.mp hv).1;obtain⟨u,hu,ru⟩:=Vals.get (x:=.bl (is.getD i true)) rl (i:=i) (by simp[List.getD,List.getElem?_eq_getElem (show i<is.length by omega)]);rw[hv] at hu;cases hu;cases ru;exact wpAny_truthy_bool hQ
    ·intro h' tk hk;rw[hlen,xY];exact m.ok_ (hI h' tk hk) rs (RepV.bl _ _ _ _) rfl
def qt(w:V):List V->Option Nat
 |[]=>none
 |y :: ys=>if eqV y w=true then some 0 else (qt w ys).map (·+1)
theorem wJ{w:V}:∀{ys:List V}{j:Nat},qt w ys=some j->∃h:j<ys.length,eqV ys[j] w=true/\∀m (hm:m<ys.length),m<j->eqV ys[m] w=false
 |[],j,h=>by cases h
 |y :: ys,j,h=>by
  unfold qt at h;split at h
  ·rename_i e;cases h;exact⟨by simp,e,fun m hm h0=>absurd h0 (Nat.not_lt_zero _)⟩
  ·rename_i e;cases e2:qt w ys with
   |none=>rw[e2] at h;cases h
   |some k=>
    rw[e2] at h;cases h;obtain⟨h1,h2,h3⟩:=wJ e2;refine⟨by simp;omega,by simpa using h2,fun m hm hk=>?_⟩;cases m with
    |zero=>simpa using e
    |succ m=>simpa using h3 m (by simpa using hm) (Nat.lt_of_succ_lt_succ hk)
def xM(ys:List D)(x:D):M D:=fun S=>match fv x,fvs ys with
 |some w,some ws=>(match qt w ws with
  |some j=>.ok (.int j) S
  |none=>.bad)
 |_,_=>.bad
theorem xy{A:Around}{s:Shared}{x:V}{v:Value}(rx:RelV x v)(fx:jt x=true){ws:List V}{its:List Value}(rl:Vals ws its)(hf:ws.all jt=true):∀y,y∈its.toArray->SeqAt.EqAt A s y v (eqU x y):=fun y hy=>
 lW rx fx rl hf y (by simpa using hy)
theorem wN{x:V}{ws:List V}{its:List Value}(rl:Vals ws its)(hf:ws.all jt=true){m:Nat}(h1:m<ws.length)(h2:m<its.toArray.size):eqU x its.toArray[m]=eqV ws[m] x:=by
 obtain⟨u,hu,ru⟩:=rl.get (i:=m) (x:=ws[m]) (by simp);have e:its.toArray[m]=u:=by
  have h3:m<its.length:=by simpa using h2
  rw[List.getElem?_eq_getElem h3] at hu;simpa using Option.some.inj hu
 rw[e];exact vA ru (List.all_eq_true.mp hf _ (List.getElem_mem h1))
theorem xf{pins:Pins}{s:Shared}{σ:L2.St}{H:Hp}{J:List Addr}{S:List Cell}{a:Addr}{ys:List D}{vs:List V}{x:D}{vx:V}{v:Value}{Q E:Value->Shared->Prop}(I:Inv X pins σ H s)(rs:RepS X.K H J S)(hq:SqT X.K H a vs)(rvs:RepVs X.K H J ys vs)
  (rx:RepV X.K H J x vx) (rv:RelV vx v) (m:Mt X pins σ H J (xM ys x S) Q E):wpAny (model X.prog X.w) X.A (call (.builtin "tuple.index") [.ref a,v]) Q E s:=by
 unfold xM at m;cases e1:fv x with
 |none=>rw[e1] at m;exact m.elim
 |some w=>
  cases e2:fvs ys with
  |none=>rw[e1,e2] at m;exact m.elim
  |some ws=>
   rw[e1,e2] at m;dsimp only at m;cases e3:qt w ws with
   |none=>rw[e3] at m;exact m.elim
   |some j=>
    rw[e3] at m;obtain⟨rfl,h1⟩:=vn e1 rx;obtain⟨rfl,h2⟩:=sT e2 rvs;obtain⟨hj,hit,hno⟩:=wJ e3;obtain⟨its,rl,⟨o,ho,hc,n,hd⟩,hz⟩:=I.tuple hq;obtain⟨cls,dd,data,sl⟩:=o;simp only at hc hd;subst hc hd;have hl:=rl.length;refine call_meets PySem.F.slot_tuple_index ⟨_,ho,rfl⟩ PySem.F.entry_tuple_index (PySem.F.args_tuple_index_2 _ _)
     (mG a its.toArray n dd sl v (eqU vx) j (by simp;omega) (by rw[wN rl h2 hj];exact hit) (fun m hm hmj=>by rw[wN rl h2 (by omega)];exact hno m (by omega) hmj)) ⟨ho,xy rv h1 rl h2,?_⟩
    exact m.ok_ (I.tok _) rs (RepV.int _ _ _ _) ⟨_,rfl⟩
structure KTup(K:PySem.W.Frag)(u:Value)(vs:List V):Prop where
 ex:∃(a:Addr) (o:Obj) (its:Array Value) (n:Nat),u=.ref a/\K.lookup a=some o/\o.cls=.type "tuple"/\o.dict=none/\o.data=.seq its n/\its.size<=sizeLine/\Vals vs its.toList
theorem KTup.rep{K:PySem.W.Frag}{u:Value}{vs:List V}{ds:List D}(h:KTup K u vs)(hd:∀H J,RepVs K H J ds vs):KRep K (.tup ds) u:=by
 obtain⟨a,o,its,n,rfl,h1,h2,h3,h4,h5,h6⟩:=h.ex;exact fun H J=>⟨.ref a,rfl,.tup (.inr ⟨o,its,n,h1,h2,h4,h5,h6⟩) (hd H J)⟩
def mH(k:D)(ft:DSt->M (List D)):DSt->M D:=fun r=>(ft r).bind fun xs=>match k,xs with
 |.tup ys,[x]=>xM ys x
 |_,_=>M.bad
theorem xJ{x:Str}{e:Expr}{np apos cpos:Pos}{u:Value}{vs:List V}{ds:List D}{ft:DSt->M (List D)}(hg:Gl X x)(hm:X.mg x=some u)(hk:KTup X.K u vs)(hds:∀H J,RepVs X.K H J ds vs)(ha:PAd X [e] ft)(hd:(x == ("__debug__":Str))=false:=by decide)
  (hbase:attributeBase (.Name x np) "index" X.env (eval (.Name x np) X.env)=eval (.Name x np) X.env:=by rfl)
  (hfew:((backTo cpos (starEach [e] X.env)).all (fun x=>!x.1) && (backToKw cpos (keywordEach [] X.env)).all (fun x=>x.1.isSome)
   && decide ([e].length+([]:List Keyword).length+(if ([]:List Keyword).isEmpty then 0 else 1)<30))=true:=by rfl)
  (hline:(apos.endLine == cpos.line)=true:=by rfl) (hs:starEach [e] X.env=[(false,eval e X.env)]:=by rfl) :
  PEd X (.Call (.Attribute (.Name x np) "index" apos) [e] [] cpos) (mH (.tup ds) ft):=by
 intro pins s σ H J r S Q E I m;obtain⟨a,o,its,n,rfl,h1,h2,h3,h4,h5,h6⟩:=hk.ex;refine wpAny_Call_method_late hbase hfew hline rfl (kK I.inv hg hm ?_ hd);have ho:=I.inv.kIn a o h1;refine⟨"tuple","tuple.index",PySem.F.plainAttrs_tuple,PySem.F.slot_tuple_index,PySem.F.type_tuple_index,⟨o,ho,h2⟩,fun b hb=>?_,?_⟩
 ·cases hb;exact⟨o,ho,h3⟩
 ·have hA:=Br (k:=fun xs=>match D.tup ds,xs with|.tup ys,[x]=>xM ys x|_,_=>M.bad) (Q':=fun us s2=>wpAny (model X.prog X.w) X.A (call (.builtin "tuple.index") (.ref a :: us)) Q E s2) ha I m (fun xs S2 s2 H2 J2 ws us I2 x2 rv r2 m2=>?_) cpos
  ·rw[hs] at hA ⊢;exact Calls.callWith_builtin rfl (Calls.evalArgs_plain hA)
  ·match xs,m2,rv with
   |[],m2,rv=>exact m2.elim
   |_ :: _ :: _,m2,rv=>exact m2.elim
   |[y],m2,rv=>
    obtain⟨w,rfl,hw⟩:=rv.one_;obtain⟨uu,rfl,ru⟩:=Vals.one r2;exact xf I2.inv I2.st (.inr ⟨o,its,n,h1,h2,h4,h5,h6⟩) (hds H2 J2) hw ru m2
end
end DL
namespace DL
open PySem PySem.Spec PyProof.Rows L2
theorem nF{f:Str}{v:V}:∀{ws:List (Str×V)}{i:Nat},(ws.map (·.1)).Nodup->(ws.map (·.1))[i]?=some f->(ws.map (·.2))[i]?=some v->ws.lookup f=some v
 |[],_,_,h,_=>by simp at h
 |(g,x) :: r,0,nd,h,h2=>by
  simp at h h2;subst h h2;simp[List.lookup_cons]
 |(g,x) :: r,i+1,nd,h,h2=>by
  simp only[List.map_cons,List.nodup_cons] at nd;simp only[List.map_cons,List.getElem?_cons_succ] at h h2;have hm:f∈r.map (·.1):=List.mem_of_getElem? h;have hb:(f == g)=false:=beq_eq_false_iff_ne.mpr fun e=>nd.1 (e ▸ hm)
  rw[List.lookup_cons,hb];exact nF nd.2 h h2
theorem nG{f:Str}:∀{ws:List (Str×V)},f∉ws.map (·.1)->ws.lookup f=none
 |[],_=>rfl
 |(g,x) :: r,h=>by
  simp only[List.map_cons,List.mem_cons,not_or] at h;have hb:(f == g)=false:=beq_eq_false_iff_ne.mpr h.1;rw[List.lookup_cons,hb];exact nG h.2
theorem mQ(f g:Str)(y x:V)(r:List (Str×V)):gw f y ((g,x) :: r)=if g=f then (g,y) :: r else (g,x) :: gw f y r:=rfl
theorem wt{f:Str}{y:V}:∀{ws:List (Str×V)}{i:Nat},(ws.map (·.1)).Nodup->(ws.map (·.1))[i]?=some f->(gw f y ws).map (·.1)=ws.map (·.1)/\(gw f y ws).map (·.2)=(ws.map (·.2)).set i y
 |[],_,_,h=>by simp at h
 |(g,x) :: r,0,nd,h=>by
  simp at h;subst h;rw[mQ,if_pos rfl];exact⟨rfl,rfl⟩
 |(g,x) :: r,i+1,nd,h=>by
  simp only[List.map_cons,List.nodup_cons] at nd;simp only[List.map_cons,List.getElem?_cons_succ] at h;have hm:f∈r.map (·.1):=List.mem_of_getElem? h;have hb:¬g=f:=fun e=>nd.1 (e ▸ hm)
  rw[mQ,if_neg hb];obtain⟨h1,h2⟩:=wt (y:=y) nd.2 h;exact⟨by rw[List.map_cons,List.map_cons,h1],by rw[List.map_cons,List.map_cons,List.set_cons_succ,h2]⟩
theorem tR{f:Str}{y:V}:∀{ws:List (Str×V)},f∉ws.map (·.1)->gw f y ws=ws++[(f,y)]
 |[],_=>rfl
 |(g,x) :: r,h=>by
  simp only[List.map_cons,List.mem_cons,not_or] at h;rw[mQ,if_neg (fun e=>h.1 e.symm),tR h.2];rfl
def ir(C:Addr)(ns:List Str)(x:D):M (Nat×List D):=fun S=>match x with
 |.ob n=>(match S[n]? with
  |some (.ins C' ns' ds)=>cif (C'=C/\ns'=ns) (.ok (n,ds) S) .bad
  |_=>.bad)
 |_=>.bad
theorem kI{C:Addr}{ns:List Str}{n:Nat}{ds:List D}{S:List Cell}(h:S[n]?=some (.ins C ns ds)):ir C ns (.ob n) S=.ok (n,ds) S:=by
 simp only[ir,h]
 first
  |exact cq ⟨rfl,rfl⟩
  |exact cq ⟨trivial,trivial⟩
theorem jW{C:Addr}{ns:List Str}{x:D}{S S':List Cell}{p:Nat×List D}(h:ir C ns x S=.ok p S'):S'=S/\x=.ob p.1/\S[p.1]?=some (.ins C ns p.2):=by
 unfold ir at h;cases x with
 |ob n=>
  dsimp only at h;cases e:S[n]? with
  |none=>rw[e] at h;cases h
  |some c=>
   rw[e] at h;cases c with
   |ins C' ns' ds=>
    dsimp only at h;unfold cif at h;split at h
    ·rename_i q;obtain⟨rfl,rfl⟩:=q
     injection h with h1 h2
     subst h1 h2;exact⟨rfl,rfl,e⟩
    ·cases h
   |_=>cases h
 |_=>cases h
theorem jC{C:Addr}{ns:List Str}{x:D}{S S':List Cell}{c:Addr}:ir C ns x S≠.exc c S':=by
 intro h;unfold ir at h;cases x with
 |ob n=>
  dsimp only at h;cases e:S[n]? with
  |none=>rw[e] at h;cases h
  |some c=>
   rw[e] at h;cases c with
   |ins C' ns' ds=>
    dsimp only at h;unfold cif at h;split at h<;>cases h
   |_=>cases h
 |_=>cases h
def Ae(o:Option D):M D:=fun S=>match o with
 |some d=>.ok d S
 |none=>.bad
section
variable{X:Cx}{o e:Expr}{es:List Expr}{fo fe:DSt->M D}{ft:DSt->M (List D)}{pos tpos apos:Pos}{C:Addr}{ns:List Str}{i:Nat}{f:Str}
def aB(C:Addr)(ns:List Str)(i:Nat)(fo:DSt->M D):DSt->M D:=fun r=>(fo r).bind fun x=>(ir C ns x).bind fun p=>Ae p.2[i]?
theorem aD(c:Cls X.K C)(na:NoAttr X.K C f)(nd:ns.Nodup)(ho:PEd X o fo)(hi:ns[i]?=some f:=by rfl)(hb:attributeBase o f X.env (eval o X.env)=eval o X.env:=by rfl):PEd X (.Attribute o f pos) (aB C ns i fo):=by
 intro pins s σ H J r S Q E I m;refine Aq hb (ho pins s σ H J r S _ E I ?_);unfold aB M.bind at m;cases e1:fo r S with
 |bad=>rw[e1] at m;exact m
 |exc c S1=>rw[e1] at m;exact m
 |ok x S1=>
  rw[e1] at m;dsimp only at m;rintro v s1 ⟨vx,H1,I1,r1,J1,ex1,rs1,rv1⟩
  replace m:=Mt.ext ex1 m
  cases e2:ir C ns x S1 with
  |bad=>rw[e2] at m;exact m.elim
  |exc c S2=>exact absurd e2 jC
  |ok p S2=>
   rw[e2] at m;obtain⟨n,ds⟩:=p;obtain⟨rfl,rfl,hc⟩:=jW e2;obtain⟨a,rfl,hn⟩:=rv1.ob_;obtain⟨dx,ws,hv,hns,rds⟩:=rs1.at_ n _ a hc hn;dsimp only[Ae] at m;cases e3:ds[i]? with
   |none=>rw[e3] at m;exact m.elim
   |some d=>
    rw[e3] at m;obtain⟨w,hw,rw'⟩:=rds.get e3;cases r1;exact py I1 hv c na (nF (hns ▸ nd) (hns ▸ hi) hw) fun u s2 I2 ru=>m.ok_ I2 rs1 rw' ru
theorem Ext.ins{K:PySem.W.Frag}{H:Hp}{J:List Addr}{a dx:Addr}{ws ws':List (Str×V)}(h:H a=some (.ins C dx ws)):Ext H J (upd H a (.ins C dx ws')) J:=Ext.write h rfl
def jE(C:Addr)(ns:List Str)(i:Nat)(fo fe:DSt->M D):TSt:=fun r=>cx (fe r) r fun d=>cx (fo r) r fun x S1=>match ir C ns x S1 with
 |.ok p S2=>some (.nx r,S2.set p.1 (.ins C ns (p.2.set i d)))
 |_=>none
theorem sU(he:PEd X e fe){k:D->List Cell->RSt}{pins:Pins}{s:Shared}{σ:L2.St}{H:Hp}{J:List Addr}{r:DSt}{S:List Cell}{Q:Flow->Shared->Prop}{E:Value->Shared->Prop}{Q':Value->Shared->Prop}(I:At X pins σ H J r S s)
  (m:MtS X pins H J (cx (fe r) r k S) Q E) (hk:∀x S1 v s1 vx H1 J1,At X pins σ H1 J1 r S1 s1->Ext H J H1 J1->RepV X.K H1 J1 x vx->RelV vx v->MtS X pins H1 J1 (k x S1) Q E->Q' v s1) :
  wpAny (model X.prog X.w) X.A (eval e X.env) Q' E s:=by
 refine he pins s σ H J r S _ E I ?_;unfold cx at m;cases e1:fe r S with
 |bad=>rw[e1] at m;exact m
 |exc c S1=>
  rw[e1] at m;exact fun x s' ⟨H',XI,J',ex,rs⟩=>m x s' σ H' J' XI (I.loc.ext ex) rs ex
 |ok x S1=>
  rw[e1] at m;exact fun v s1 ⟨vx,H1,I1,r1,J1,ex,rs,rv⟩=>hk x S1 v s1 vx H1 J1 ⟨I1,I.loc.ext ex,rs⟩ ex rv r1 (MtS.ext ex m)
theorem ub{pins:Pins}{s:Shared}{σ:L2.St}{H:Hp}{J:List Addr}{r:DSt}{S:List Cell}{n:Nat}{ds:List D}{d:D}{vd:V}{u:Value}{a:Addr}{Q:Flow->Shared->Prop}{E:Value->Shared->Prop}
  (c:Cls X.K C) (na:NoAttr X.K C f) (nd:ns.Nodup) (hz:ns.length<1000) (hi:ns[i]?=some f) (I:At X pins σ H J r S s) (hc:S[n]?=some (.ins C ns ds)) (hn:J[n]?=some a) (rd:RepV X.K H J d vd) (ru:RelV vd u)
  (m:MtS X pins H J (some (.nx r,S.set n (.ins C ns (ds.set i d)))) Q E):wpAny (model X.prog X.w) X.A (setAttr (.ref a) f u) (fun _ s'=>Q .next s') E s:=by
 obtain⟨dx,ws,hv,hns,rds⟩:=I.st.at_ n _ a hc hn;refine pa I.inv hv c na (by rw[<-List.length_map (f:=(·.1)),hns];exact hz) ru fun s3 I3=>?_
 have x3:Ext H J (upd H a (.ins C dx (gw f vd ws))) J:=Ext.write hv rfl;obtain⟨p1,p2⟩:=wt (y:=vd) (hns ▸ nd) (hns ▸ hi);refine m s3 σ _ J ⟨I3,I.loc.ext x3,I.st.write hn ⟨dx,_,bE,p1.trans hns,?_⟩⟩ x3;rw[p2];exact RepVs.set (rd.ext x3) i (rds.ext x3)
theorem gC{pos':Pos}(c:Cls X.K C)(na:NoAttr X.K C f)(nd:ns.Nodup)(hz:ns.length<1000)(ho:PEd X o fo)(he:PEd X e fe)(hi:ns[i]?=some f:=by rfl)
  (hs:swapsWith e (some (.Attribute o f pos')) pos.line X.env=pure false:=by rfl):PSd X (.Assign [.Attribute o f pos'] e pos) (jE C ns i fo fe):=by
 intro pins s σ H J r S Q E I m;refine plainObj_wpAny_Assign_Attribute (sU he I m fun d S1 u s1 vd H1 J1 I1 x1 rd ru m1=>sU ho I1 m1 fun x S2 v s2 vx H2 J2 I2 x2 rx rv m2=>?_) hs;cases e2:ir C ns x S2 with
 |bad=>rw[e2] at m2;exact m2.elim
 |exc c S2=>exact absurd e2 jC
 |ok p S3=>
  rw[e2] at m2;obtain⟨n,ds⟩:=p;obtain⟨rfl,rfl,hc⟩:=jW e2;obtain⟨a,rfl,hn⟩:=rx.ob_;cases rv;exact ub c na nd hz hi I2 hc hn (rd.ext x2) ru m2
def cL(C:Addr)(ns:List Str)(f:Str)(fo fe:DSt->M D):TSt:=fun r=>cx (fe r) r fun d=>cx (fo r) r fun x S1=>match ir C ns x S1 with
 |.ok p S2=>some (.nx r,S2.set p.1 (.ins C (ns++[f]) (p.2++[d])))
 |_=>none
theorem cP{pos':Pos}(c:Cls X.K C)(na:NoAttr X.K C f)(hz:ns.length<1000)(hf:f∉ns)(ho:PEd X o fo)(he:PEd X e fe)
  (hs:swapsWith e (some (.Attribute o f pos')) pos.line X.env=pure false:=by rfl):PSd X (.Assign [.Attribute o f pos'] e pos) (cL C ns f fo fe):=by
 intro pins s σ H J r S Q E I m;refine plainObj_wpAny_Assign_Attribute (sU he I m fun d S1 u s1 vd H1 J1 I1 x1 rd ru m1=>sU ho I1 m1 fun x S2 v s2 vx H2 J2 I2 x2 rx rv m2=>?_) hs;cases e2:ir C ns x S2 with
 |bad=>rw[e2] at m2;exact m2.elim
 |exc c S2=>exact absurd e2 jC
 |ok p S3=>
  rw[e2] at m2;obtain⟨n,ds⟩:=p;obtain⟨rfl,rfl,hc⟩:=jW e2;obtain⟨a,rfl,hn⟩:=rx.ob_;cases rv;obtain⟨dx,ws,hv,hns,rds⟩:=I2.st.at_ n _ a hc hn;refine pa I2.inv hv c na (by rw[<-List.length_map (f:=(·.1)),hns];exact hz) ru fun s3 I3=>?_
  have x3:Ext H2 J2 (upd H2 a (.ins C dx (gw f vd ws))) J2:=Ext.write hv rfl;have pn:gw f vd ws=ws++[(f,vd)]:=tR (hns ▸ hf);have pn2:(gw f vd ws).map (·.2)=ws.map (·.2)++[vd]:=by rw[pn,List.map_append];rfl
  refine m2 s3 σ _ J2 ⟨I3,I2.loc.ext x3,I2.st.write hn ⟨dx,_,bE,by rw[pn,List.map_append,hns];rfl,?_⟩⟩ x3;rw[pn2];exact(rds.ext x3).append (.one ((rd.ext x2).ext x3))
def n7(C:Addr)(ns:List Str)(i:Nat)(fo fe:DSt->M D):TSt:=fun r=>cx (fo r) r fun x S1=>match ir C ns x S1 with
 |.ok p S2=>(match p.2[i]? with
  |some (.int a)=>cx (fe r) r (fun y S3=>match y with
   |.int b=>(match ir C ns x S3 with
    |.ok q S4=>some (.nx r,S4.set q.1 (.ins C ns (q.2.set i (.int (a+b)))))
    |_=>none)
   |_=>none) S2
  |_=>none)
 |_=>none
theorem sK(c:Cls X.K C)(na:NoAttr X.K C f)(nd:ns.Nodup)(hz:ns.length<1000)(ho:PEd X o fo)(he:PEd X e fe)(hi:ns[i]?=some f:=by rfl) :
  PSd X (.AugAssign (.Attribute o f tpos) .Add e pos) (n7 C ns i fo fe):=by
 intro pins s σ H J r S Q E I m;refine wpAny_AugAssign_AttributeAny (sU ho I m fun x S1 v s1 vx H1 J1 I1 x1 rx rv m1=>?_);cases e2:ir C ns x S1 with
 |bad=>rw[e2] at m1;exact m1.elim
 |exc c S2=>exact absurd e2 jC
 |ok p S2=>
  rw[e2] at m1;obtain⟨n,ds⟩:=p;obtain⟨rfl,rfl,hc⟩:=jW e2;obtain⟨a,rfl,hn⟩:=rx.ob_;cases rv;dsimp only at m1;cases e3:ds[i]? with
  |none=>rw[e3] at m1;exact m1.elim
  |some d=>
   rw[e3] at m1;cases d with
   |int j=>
    obtain⟨dx,ws,hv,hns,rds⟩:=I1.st.at_ n _ a hc hn;obtain⟨w,hw,rw'⟩:=rds.get e3;cases rw'.int_;refine py I1.inv hv c na (nF (hns ▸ nd) (hns ▸ hi) hw) fun u s2 I2 ru=>?_
    refine sU he ⟨I2,I1.loc,I1.st⟩ m1 fun y S3 v3 s3 vy H3 J3 I3 x3 ry rv3 m3=>?_
    cases y with
    |int k=>
     dsimp only at m3;cases e4:ir C ns (.ob n) S3 with
     |bad=>rw[e4] at m3;exact m3.elim
     |exc c S2=>exact absurd e4 jC
     |ok q S4=>
      rw[e4] at m3;obtain⟨n',ds'⟩:=q;obtain⟨rfl,hnn,hc'⟩:=jW e4
      injection hnn with hnn
      subst hnn;cases ry.int_;obtain⟨t1,rfl⟩:=ru;obtain⟨t2,rfl⟩:=rv3;have hn3:J3[n]?=some a:=by
       obtain⟨mm,em⟩:=x3.pre;rw[em,List.getElem?_append_left (List.getElem?_eq_some_iff.mp hn).1];exact hn
      exact PyProof.Rows.iadd_int (ub c na nd hz hi ⟨I3.inv.tok _,I3.loc,I3.st⟩ hc' hn3 (RepV.int _ _ _ (j+k)) ⟨_,rfl⟩ m3)
    |_=>exact m3.elim
   |_=>exact m1.elim
structure CalM(P:Program)(w:World)(K:PySem.W.Frag)(mg:Str->Option Value)(base:Heap)(CX:CXT)(C:Addr)(m:Str)(k:Nat)(ps:List Str)(F:List D->M D):Prop where
 ex:∃f fd,Meth K C m f/\Binds K fd ps []/\FnD P w K mg base CX k f fd ps F
def aP(C:Addr)(ns:List Str)(F:List D->M D)(fo:DSt->M D)(ft:DSt->M (List D)):DSt->M D:=fun r=>(fo r).bind fun x=>(ir C ns x).bind fun _=>(ft r).bind fun xs=>F (x :: xs)
theorem bh{CX:CXT}{k:Nat}{ps:List Str}{F:List D->M D}{m:Str}{pl:Sem Bool}(h:CalM X.prog X.w X.K X.mg X.base CX C m k ps F)(hr:Room k X.A)(c:Cls X.K C)(hm:m∉ns)(hx:nX CX X)(ho:PEd X o fo)(ha:PAd X (e :: es) ft)
  (hl:∀r S xs S',ft r S=.ok xs S'->xs.length+1=ps.length)
  (hst:starEach (e :: es) X.env=(false,eval e X.env) :: starEach es X.env:=by rfl) (hpl:(backTo pos (starEach es X.env)).any (·.1)=false:=by rfl)
  (ht:eval (.Call (.Attribute o m apos) (e :: es) [] pos) X.env=(do
   let ov <-eval o X.env
   standAt apos.atName
   let (f,first) <-holding [ov] (getMethod ov m pl)
   callWith pos f first (backTo pos (starEach (e :: es) X.env)) (backToKw pos (keywordEach [] X.env))):=by rfl) :
  PEd X (.Call (.Attribute o m apos) (e :: es) [] pos) (aP C ns F fo ft):=by
 obtain⟨f,fd,hM,hb,hF⟩:=h.ex;intro pins s σ H J r S Q E I mm;refine PySem.W.methodCall_KW (pl:=pl) (ho pins s σ H J r S _ E I ?_) ht;unfold aP M.bind at mm;cases e1:fo r S with
 |bad=>rw[e1] at mm;exact mm
 |exc c S1=>rw[e1] at mm;exact mm
 |ok x S1=>
  rw[e1] at mm;dsimp only at mm;rintro v s1 ⟨vx,H1,I1,r1,J1,ex1,rs1,rv1⟩
  replace mm:=Mt.ext ex1 mm
  cases e2:ir C ns x S1 with
  |bad=>rw[e2] at mm;exact mm.elim
  |exc c S2=>exact absurd e2 jC
  |ok p S2=>
   rw[e2] at mm;obtain⟨n,ds⟩:=p;obtain⟨rfl,rfl,hc⟩:=jW e2;obtain⟨a,rfl,hn⟩:=rv1.ob_;cases r1;obtain⟨dx,ws,hv,hns,rds⟩:=rs1.at_ n _ a hc hn;refine pj I1 hv c hM (nG (hns ▸ hm)) ?_;refine PySem.W.callWith_K (first:=[.ref a]) (h₀:=X.base) I1.ok.mod.kin hM.kp ?_ hst hpl;refine ha pos pins s1 σ H1 J1 r _ _ E ⟨I1,I.loc.ext ex1,rs1⟩ ?_;dsimp only at mm;cases e3:ft r S2 with
   |bad=>rw[e3] at mm;exact mm
   |exc c S3=>rw[e3] at mm;exact mm
   |ok xs S3=>
    rw[e3] at mm;intro us s2 ⟨vs,H2,I2,r2,J2,ex2,rs2,rv2⟩;exact⟨I2.kIn,tI (us:=.ref a :: us) (vs:=.ref a :: vs) (xs:=.ob n :: xs) hF hr hb hx I2 rs2 (.cons (rv1.ext ex2) rv2) (.cons rfl r2) (by rw[List.length_cons];exact hl r _ xs S3 e3) (Mt.ext ex2 mm)⟩
theorem cT{CX:CXT}{k:Nat}{ps:List Str}{F:List D->M D}{m:Str}{pl:Sem Bool}(h:CalM X.prog X.w X.K X.mg X.base CX C m k ps F)(hr:Room k X.A)(c:Cls X.K C)(hm:m∉ns)(hx:nX CX X)(ho:PEd X o fo)
  (hl:1=ps.length:=by rfl)
  (ht:eval (.Call (.Attribute o m apos) [] [] pos) X.env=(do
   let ov <-eval o X.env
   standAt apos.atName
   let (f,first) <-holding [ov] (getMethod ov m pl)
   callWith pos f first (backTo pos (starEach [] X.env)) (backToKw pos (keywordEach [] X.env))):=by rfl) :
  PEd X (.Call (.Attribute o m apos) [] [] pos) (aP C ns F fo aj):=by
 obtain⟨f,fd,hM,hb,hF⟩:=h.ex;intro pins s σ H J r S Q E I mm;refine PySem.W.methodCall_KW (pl:=pl) (ho pins s σ H J r S _ E I ?_) ht;unfold aP M.bind at mm;cases e1:fo r S with
 |bad=>rw[e1] at mm;exact mm
 |exc c S1=>rw[e1] at mm;exact mm
 |ok x S1=>
  rw[e1] at mm;dsimp only at mm;rintro v s1 ⟨vx,H1,I1,r1,J1,ex1,rs1,rv1⟩
  replace mm:=Mt.ext ex1 mm
  cases e2:ir C ns x S1 with
  |bad=>rw[e2] at mm;exact mm.elim
  |exc c S2=>exact absurd e2 jC
  |ok p S2=>
   rw[e2] at mm;obtain⟨n,ds⟩:=p;obtain⟨rfl,rfl,hc⟩:=jW e2;obtain⟨a,rfl,hn⟩:=rv1.ob_;cases r1;obtain⟨dx,ws,hv,hns,rds⟩:=rs1.at_ n _ a hc hn;refine pj I1 hv c hM (nG (hns ▸ hm)) ?_;exact PySem.W.callWith_K0 (first:=[.ref a]) I1.kIn hM.kp (tI (us:=[.ref a]) (vs:=[.ref a]) (xs:=[.ob n]) hF hr hb hx I1 rs1 (.one rv1) (.cons rfl .nil) hl mm)
structure CalI(P:Program)(w:World)(K:PySem.W.Frag)(mg:Str->Option Value)(base:Heap)(CX:CXT)(x:Str)(C:Addr)(k:Nat)(ps:List Str)(F:List D->M D):Prop where
 ex:∃f fd,mg x=some (.ref C)/\Mk K C f/\Binds K fd ps []/\FnD P w K mg base CX k f fd ps F
def gO(C:Addr)(F:List D->M D)(xs:List D):M D:=fun S=>match F (.ob S.length :: xs) (S++[.ins C [] []]) with
 |.ok .non S'=>.ok (.ob S.length) S'
 |_=>.bad
theorem xw{CX:CXT}{k:Nat}{fI:Addr}{fd:FuncData}{ps:List Str}{F:List D->M D}{pins:Pins}{σ:L2.St}{H:Hp}{J:List Addr}{S:List Cell}{s:Shared}{Q E:Value->Shared->Prop}{xs:List D}{vs:List V}{us:List Value}
  (hM:Mk X.K C fI) (hF:FnD X.prog X.w X.K X.mg X.base CX k fI fd ps F) (hr:Room (k+1) X.A) (hb:Binds X.K fd ps []) (hx:nX CX X) (I:Inv X pins σ H s) (rs:RepS X.K H J S) (rx:RepVs X.K H J xs vs) (rv:Vals vs us) (hl:xs.length+1=ps.length)
  (m:Mt X pins σ H J (gO C F xs S) Q E):wpAny (model X.prog X.w) X.A (call (.ref C) us) Q E s:=by
 have hf0:H s.heap.objs.size=none:=I.hok.fresh (Nat.le_refl _);have hf1:H (s.heap.objs.size+1)=none:=I.hok.fresh (Nat.le_succ _);have ne:s.heap.objs.size+1≠s.heap.objs.size:=Nat.succ_ne_self _;have I2:=Inv.made (C:=C) I;have hf1':upd H s.heap.objs.size (.own (s.heap.objs.size+1)) (s.heap.objs.size+1)=none:=by rw[br ne];exact hf1
 have x1:Ext H J (upd H s.heap.objs.size (.own (s.heap.objs.size+1))) J:=Ext.new hf0;have x2:Ext (upd H s.heap.objs.size (.own (s.heap.objs.size+1))) J (upd (upd H s.heap.objs.size (.own (s.heap.objs.size+1))) (s.heap.objs.size+1) (.ins C s.heap.objs.size [])) (J++[s.heap.objs.size+1]):=(Ext.new hf1').snoc _;have x12:=x1.trans x2;have rs2:RepS X.K (upd (upd H s.heap.objs.size (.own (s.heap.objs.size+1))) (s.heap.objs.size+1) (.ins C s.heap.objs.size [])) (J++[s.heap.objs.size+1]) (S++[.ins C [] []]):=
  (rs.new hf0).push hf1' ⟨s.heap.objs.size,[],bE,rfl,.nil⟩
 have ro:RepV X.K (upd (upd H s.heap.objs.size (.own (s.heap.objs.size+1))) (s.heap.objs.size+1) (.ins C s.heap.objs.size [])) (J++[s.heap.objs.size+1]) (.ob S.length) (.ref (s.heap.objs.size+1)):=.ob (by rw[<-rs.len];simp);have rx2:RepVs X.K (upd (upd H s.heap.objs.size (.own (s.heap.objs.size+1))) (s.heap.objs.size+1) (.ins C s.heap.objs.size [])) (J++[s.heap.objs.size+1]) (.ob S.length :: xs) (.ref (s.heap.objs.size+1) :: vs):=.cons ro (rx.ext x12);have rv2:Vals (V.ref (s.heap.objs.size+1) :: vs) (Value.ref (s.heap.objs.size+1) :: us):=.cons rfl rv;have hlen:(Value.ref (s.heap.objs.size+1) :: us++[]).length=ps.length:=by
  rw[List.append_nil,<-rv2.length,rx2.length];exact hl
 have hbs:=hb _ (Value.ref (s.heap.objs.size+1) :: us) I2.kIn hlen;rw[List.append_nil] at hbs;unfold gO at m;cases e:F (.ob S.length :: xs) (S++[.ins C [] []]) with
 |bad=>rw[e] at m;exact m.elim
 |exc c S'=>rw[e] at m;exact m.elim
 |ok d S'=>
  rw[e] at m;cases d with
  |non=>
   dsimp only at m;refine wpAny_call (xZ (f:=fI) I.kIn hM.makes hM.init (beq_iff_eq.mp hM.fn) (codeAny_mono (hF.run _ X.stack _ _ ⟨Value.ref (s.heap.objs.size+1) :: us,[]⟩ (Value.ref (s.heap.objs.size+1) :: us) _
    (fun v H'=>Got X.K (upd (upd H s.heap.objs.size (.own (s.heap.objs.size+1))) (s.heap.objs.size+1) (.ins C s.heap.objs.size [])) (J++[s.heap.objs.size+1]) .non S' v H') (fun _ _ _=>False) (hr.make C us []) (I2.env0.make C us []) hbs rv2 ?_) fun rr s' hq=>?_))
   ·refine⟨by rw[rx2.length];exact hl,J++[s.heap.objs.size+1],_,_,rx2,rs2,?_⟩;rw[e];exact fun v H' g=>g
   ·cases rr with
    |error er=>
     obtain⟨c,H',XI,z⟩:=hx _ pins σ _ _ er s' I2 hq;exact z.elim
    |ok fl=>
     cases fl with
     |ret u=>
      obtain⟨v,H',I3,rv3,J3,x3,rs3,rv4⟩:=I2.after hq;cases rv4.non_;exact⟨rv3,m _ s' ⟨V.ref (s.heap.objs.size+1),H',I3,rfl,J3,x12.trans x3,rs3,ro.ext x3⟩⟩
     |next=>exact False.elim hq
     |brk=>exact False.elim hq
     |cont=>exact False.elim hq
  |_=>exact m.elim
theorem oN{CX:CXT}{k:Nat}{ps:List Str}{F:List D->M D}{x:Str}{p:Pos}(h:CalI X.prog X.w X.K X.mg X.base CX x C k ps F)(hr:Room (k+1) X.A)(hg:Gl X x)(hx:nX CX X)(ha:PAd X (e :: es) ft)
  (hl:∀r S xs S',ft r S=.ok xs S'->xs.length+1=ps.length)
  (hdb:(x == ("__debug__":Str))=false:=by decide) (he:starEach (e :: es) X.env=(false,eval e X.env) :: starEach es X.env:=by rfl) (hpl:(backTo pos (starEach es X.env)).any (·.1)=false:=by rfl) :
  PEd X (.Call (.Name x p) (e :: es) [] pos) (am (gO C F) ft):=by
 obtain⟨f,fd,hm,hM,hb,hF⟩:=h.ex;intro pins s σ H J r S Q E I m;refine wpAny_Call_Name_kw (kK I.inv hg hm ?_ hdb);refine PySem.W.callWith_K (h₀:=X.base) I.inv.ok.mod.kin hM.kp ?_ he hpl;refine ha pos pins s σ H J r S _ E I ?_;unfold am M.bind at m;cases e1:ft r S with
 |bad=>rw[e1] at m;exact m
 |exc c S1=>rw[e1] at m;exact m
 |ok xs S1=>
  rw[e1] at m;intro us s1 ⟨vs,H1,I1,r1,J1,ex1,rs1,rv1⟩;exact⟨I1.kIn,xw hM hF hr hb hx I1 rs1 rv1 r1 (hl r S xs S1 e1) (Mt.ext ex1 m)⟩
end
end DL
namespace L2
open PySem PySem.Spec PyProof.Rows
section
variable{κ:Type}[DecidableEq κ]
def jZ(kvs:List (κ×V))(k:κ):Option V:=(kvs.find? fun kv=>decide (kv.1=k)).map (·.2)
def ju(kvs:List (κ×V))(k:κ)(v:V):List (κ×V):=
 if (kvs.any fun kv=>decide (kv.1=k))=true then kvs.map (fun kv=>if kv.1=k then (kv.1,v) else kv) else kvs++[(k,v)]
def pd(kvs:List (κ×V))(k:κ):List (κ×V):=kvs.filter fun kv=>decide (kv.1≠k)
theorem lS{p:κ×V}{r:List (κ×V)}{k:κ}(e:p.1=k):jZ (p :: r) k=some p.2:=by simp[jZ,List.find?_cons,e]
theorem lX{p:κ×V}{r:List (κ×V)}{k:κ}(e:¬p.1=k):jZ (p :: r) k=jZ r k:=by simp[jZ,List.find?_cons,e]
theorem ui(k:κ):∀kvs:List (κ×V),(kvs.any fun kv=>decide (kv.1=k))=(jZ kvs k).isSome
 |[]=>rfl
 |p :: r=>by
  rw[List.any_cons];by_cases e:p.1=k
  ·simp only[lS e,decide_eq_true e,Bool.true_or,Option.isSome_some]
  ·rw[lX e,decide_eq_false e,Bool.false_or];exact ui k r
theorem kB(kvs:List (κ×V))(k:κ)(v:V):(ju kvs k v).length<=kvs.length+1:=by
 unfold ju;split
 ·rw[List.length_map];omega
 ·rw[List.length_append,List.length_cons,List.length_nil];omega
theorem RelO.isSome_eq{o:Option V}{u:Option Value}(r:RelO o u):o.isSome=u.isSome:=by
 cases o with
 |none=>cases u with
  |none=>rfl
  |some _=>exact(show False from r).elim
 |some _=>cases u with
  |none=>exact(show False from r).elim
  |some _=>rfl
theorem RelO.getD{o:Option V}{u:Option Value}{d:V}{d':Value}(r:RelO o u)(rd:RelV d d'):RelV (o.getD d) (u.getD d'):=by
 cases o with
 |none=>cases u with
  |none=>exact rd
  |some _=>exact(show False from r).elim
 |some _=>cases u with
  |none=>exact(show False from r).elim
  |some _=>exact r
theorem KV.val{kvs:List (κ×V)}{vs:List (κ×Value)}(r:KV kvs vs)(k:κ):RelO (jZ kvs k) (valueAt vs k):=by
 unfold KV at r
 induction r with
 |nil=>exact True.intro
 |@cons p q ps qs h t ih=>
  obtain⟨h1,h2⟩:=h;by_cases e:p.1=k
  ·have e':q.1=k:=h1.symm.trans e;have b:valueAt (q :: qs) k=some q.2:=by simp[valueAt,List.find?_cons,e']
   rw[lS e,b];exact h2
  ·have e':¬q.1=k:=fun z=>e (h1.trans z)
   have b:valueAt (q :: qs) k=valueAt qs k:=by simp[valueAt,List.find?_cons,e']
   rw[lX e,b];exact ih
theorem KV.any{kvs:List (κ×V)}{vs:List (κ×Value)}(r:KV kvs vs)(k:κ):(kvs.any fun kv=>decide (kv.1=k))=vs.any fun kv=>decide (kv.1=k):=by
 unfold KV at r
 induction r with
 |nil=>rfl
 |cons h t ih=>rw[List.any_cons,List.any_cons,ih,h.1]
theorem KV.repl{kvs:List (κ×V)}{vs:List (κ×Value)}(r:KV kvs vs)(k:κ){y:V}{u:Value}(ry:RelV y u) :
  KV (kvs.map fun kv=>if kv.1=k then (kv.1,y) else kv) (vs.map fun kv=>if kv.1=k then (kv.1,u) else kv):=by
 unfold KV at r ⊢
 induction r with
 |nil=>exact .nil
 |@cons p q ps qs h t ih=>
  rw[List.map_cons,List.map_cons];refine .cons ?_ ih;obtain⟨h1,h2⟩:=h;by_cases e:p.1=k
  ·rw[if_pos e,if_pos (h1.symm.trans e)];exact⟨h1,ry⟩
  ·rw[if_neg e,if_neg (fun z=>e (h1.trans z))];exact⟨h1,h2⟩
theorem KV.put{kvs:List (κ×V)}{vs:List (κ×Value)}(r:KV kvs vs)(k:κ){y:V}{u:Value}(ry:RelV y u):KV (ju kvs k y) (stored vs k u):=by
 unfold ju stored;rw[r.any k];by_cases e:(vs.any fun kv=>decide (kv.1=k))=true
 ·rw[if_pos e,if_pos e];exact r.repl k ry
 ·rw[if_neg e,if_neg e];exact Paired.snoc r ⟨rfl,ry⟩
theorem KV.drop{kvs:List (κ×V)}{vs:List (κ×Value)}(r:KV kvs vs)(k:κ):KV (pd kvs k) (without vs k):=by
 unfold KV at r ⊢;unfold pd without
 induction r with
 |nil=>exact .nil
 |@cons p q ps qs h t ih=>
  obtain⟨h1,h2⟩:=h;rw[List.filter_cons,List.filter_cons];by_cases e:p.1=k
  ·have a:¬decide (p.1≠k)=true:=by simp[e]
   have b:¬decide (q.1≠k)=true:=by simp[h1.symm.trans e]
   rw[if_neg a,if_neg b];exact ih
  ·have e':¬q.1=k:=fun z=>e (h1.trans z)
   have a:decide (p.1≠k)=true:=by simp[e]
   have b:decide (q.1≠k)=true:=by simp[e']
   rw[if_pos a,if_pos b];exact .cons ⟨h1,h2⟩ ih
theorem KV.keys{kvs:List (κ×V)}{vs:List (κ×Value)}(r:KV kvs vs):kvs.map (·.1)=vs.map (·.1):=by
 unfold KV at r
 induction r with
 |nil=>rfl
 |cons h t ih=>rw[List.map_cons,List.map_cons,ih,h.1]
theorem KV.length{kvs:List (κ×V)}{vs:List (κ×Value)}(r:KV kvs vs):kvs.length=vs.length:=Paired.length r
theorem zx(kvs:List (κ×V))(k:κ):(pd kvs k).length<=kvs.length:=List.length_filter_le _ _
end
theorem pp{P:Program}{w:World}{k:Key}{u:Value}(r:RelV (kV k) u):(cW P w).is k u=true:=by
 cases k with
 |inl i=>obtain⟨t,e⟩:=(show ∃t,u=Value.int i t from r);subst e;exact ur P w i t
 |inr x=>obtain⟨t,e⟩:=(show ∃t,u=Value.str x t from r);subst e;exact uj P w x t
theorem rS{P:Program}{w:World}:∀{ks:List Key}{us:List Value},Vals (ks.map kV) us->ItemsAre (cW P w) ks us
 |[],_,r=>by rw[List.map_nil] at r;cases r;exact .nil
 |k :: ks,_,r=>by
  rw[List.map_cons] at r;cases r with
  |cons h t=>exact .cons (pp h) (rS t)
abbrev KT(H:Hp):List (List Key×V)->List (List Key×Addr×Value)->Prop:=Paired fun p q=>p.1=q.1/\H q.2.1=some (.tup (p.1.map kV))/\RelV p.2 q.2.2
theorem KT.val{H:Hp}{kvs:List (List Key×V)}{xs:List (List Key×Addr×Value)}(r:KT H kvs xs)(k:List Key):RelO (jZ kvs k) ((atKey xs k).map (·.2)):=by
 induction r with
 |nil=>exact True.intro
 |@cons p q ps qs h t ih=>
  obtain⟨h1,_,h2⟩:=h;by_cases e:p.1=k
  ·have e':q.1=k:=h1.symm.trans e;have b:atKey (q :: qs) k=some q.2:=by simp[atKey,List.find?_cons,e']
   rw[lS e,b];exact h2
  ·have e':¬q.1=k:=fun z=>e (h1.trans z)
   have b:atKey (q :: qs) k=atKey qs k:=by simp[atKey,List.find?_cons,e']
   rw[lX e,b];exact ih
theorem KT.repl{H:Hp}{kvs:List (List Key×V)}{xs:List (List Key×Addr×Value)}(r:KT H kvs xs)(k:List Key){y:V}{u:Value}(ry:RelV y u) :
  KT H (kvs.map fun kv=>if kv.1=k then (kv.1,y) else kv) (xs.map (putAt k u)):=by
 induction r with
 |nil=>exact .nil
 |@cons p q ps qs h t ih=>
  rw[List.map_cons,List.map_cons];refine .cons ?_ ih;obtain⟨h1,h2,h3⟩:=h;unfold putAt;by_cases e:p.1=k
  ·rw[if_pos e,if_pos (h1.symm.trans e)];exact⟨h1,h2,ry⟩
  ·rw[if_neg e,if_neg (fun z=>e (h1.trans z))];exact⟨h1,h2,h3⟩
theorem KT.put{H:Hp}{kvs:List (List Key×V)}{xs:List (List Key×Addr×Value)}(r:KT H kvs xs)(k:List Key){b:Addr}{y:V}{u:Value}(hb:H b=some (.tup (k.map kV)))(ry:RelV y u) :
  KT H (ju kvs k y) (storedH xs k b u):=by
 have e:(kvs.any fun kv=>decide (kv.1=k))=(atKey xs k).isSome:=by
  rw[ui,(r.val k).isSome_eq,Option.isSome_map]
 unfold ju storedH;rw[e];by_cases q:(atKey xs k).isSome=true
 ·rw[if_pos q,if_pos q];exact r.repl k ry
 ·rw[if_neg q,if_neg q];exact Paired.snoc r ⟨rfl,hb,ry⟩
theorem KT.keeps{H H':Hp}{kvs:List (List Key×V)}{xs:List (List Key×Addr×Value)}(r:KT H kvs xs)(ht:∀b ys,H b=some (.tup ys)->H' b=some (.tup ys)):KT H' kvs xs:=
 Paired.mapP r fun _ _ z=>⟨z.1,ht _ _ z.2.1,z.2.2⟩
section
variable{P:Program}{w:World}{H:Hp}{h:Heap}{a:Addr}
theorem Bc{u:HO}(ok:HOk P w H h)(e:Rd H a u):ObjOk P w H h a u:=e.ok ok
theorem rO{kvs:List (Key×V)}(ok:HOk P w H h)(e:Rd H a (.dK kvs)):kvs.length<=sizeLine/\(a == sysModules)=false/\∃vs,KV kvs vs/\h.DictOf (cW P w) a vs:=
 show ObjOk P w H h a (.dK kvs) from Bc ok e
theorem y7{kvs:List (Key×V)}(ok:HOk P w H h)(e:H a=some (.dK kvs)):kvs.length<=sizeLine/\(a == sysModules)=false/\∃vs,KV kvs vs/\h.DictOf (cW P w) a vs:=rO ok (.inl e)
theorem qp{ks:List Key}(ok:HOk P w H h)(e:H a=some (.tup (ks.map kV))):(tupleKind (cW P w)).is h ks a:=by
 obtain⟨_,its,r,o,h1,h2,n,h3⟩:=(show ObjOk P w H h a (.tup (ks.map kV)) from ok a _ e);exact⟨o,its.toArray,n,h1,h2,h3,by simpa using rS r⟩
theorem rB{kvs:List (List Key×V)}(ok:HOk P w H h)(e:Rd H a (.dT kvs)):kvs.length<=sizeLine/\(a == sysModules)=false/\
  ∃xs,KT H kvs xs/\h.DictOfH (tupleKind (cW P w)) a xs:=by
 obtain⟨z,y,xs,r,o,es,ep,h1,h2,h3,h4,h5⟩:=(show ObjOk P w H h a (.dT kvs) from Bc ok e);refine⟨z,y,xs,r,o,es,ep,h1,h2,h3,h4,fun x hx=>?_,h5⟩;have all:∀{l:List (List Key×V)}{m:List (List Key×Addr×Value)},KT H l m->∀x∈m,(tupleKind (cW P w)).is h x.1 x.2.1:=by
  intro l m q
  induction q with
  |nil=>intro x hx;exact nomatch hx
  |@cons p q ps qs hq t ih=>
   intro x hx;rcases List.mem_cons.mp hx with e|hx
   ·subst e;exact qp ok (by rw[<-hq.1];exact hq.2.1)
   ·exact ih x hx
 exact all r x hx
theorem CG{kvs:List (List Key×V)}(ok:HOk P w H h)(e:H a=some (.dT kvs)):kvs.length<=sizeLine/\(a == sysModules)=false/\
  ∃xs,KT H kvs xs/\h.DictOfH (tupleKind (cW P w)) a xs:=rB ok (.inl e)
end
def DGet(H:Hp)(a:Addr)(y:V)(r:Option V):Prop:=
 (∃kvs k,Rd H a (.dK kvs)/\y=kV k/\r=jZ kvs k)\/∃kvs k b,Rd H a (.dT kvs)/\y=.ref b/\H b=some (.tup (k.map kV))/\r=jZ kvs k
def DPut(H:Hp)(a:Addr)(y v:V)(H':Hp):Prop:=
 (∃kvs k,H a=some (.dK kvs)/\y=kV k/\kvs.length<sizeLine/\H'=upd H a (.dK (ju kvs k v)))\/
 ∃kvs k b,H a=some (.dT kvs)/\y=.ref b/\H b=some (.tup (k.map kV))/\kvs.length<sizeLine/\H'=upd H a (.dT (ju kvs k v))
theorem DGet.k{H:Hp}{a:Addr}{kvs:List (Key×V)}{k:Key}(e:H a=some (.dK kvs)):DGet H a (kV k) (jZ kvs k):=.inl ⟨kvs,k,.inl e,rfl,rfl⟩
theorem DGet.t{H:Hp}{a b:Addr}{kvs:List (List Key×V)}{k:List Key}(e:H a=some (.dT kvs))(eb:H b=some (.tup (k.map kV))):DGet H a (.ref b) (jZ kvs k):=.inr ⟨kvs,k,b,.inl e,rfl,eb,rfl⟩
theorem DPut.k{H:Hp}{a:Addr}{kvs:List (Key×V)}{k:Key}{v:V}(e:H a=some (.dK kvs))(hl:kvs.length<sizeLine):DPut H a (kV k) v (upd H a (.dK (ju kvs k v))):=.inl ⟨kvs,k,e,rfl,hl,rfl⟩
theorem DPut.t{H:Hp}{a b:Addr}{kvs:List (List Key×V)}{k:List Key}{v:V}(e:H a=some (.dT kvs))(eb:H b=some (.tup (k.map kV)))(hl:kvs.length<sizeLine) :
  DPut H a (.ref b) v (upd H a (.dT (ju kvs k v))):=.inr ⟨kvs,k,b,e,rfl,eb,hl,rfl⟩
section
variable{X:Cx}{pins:List (Addr×Obj)}{σ:St}{H:Hp}{s:Shared}{a:Addr}{y v:V}{u r:Value}{o:Option V}{A:Around}{E:Value->Shared->Prop}
theorem Inv.big(I:Inv X pins σ H s):sysModules<s.heap.objs.size:=by
 have h:mainGlobals<s.heap.objs.size:=(I.mod.glob.keeps I.bk).lt;exact Nat.lt_trans (by decide) h
theorem xU{Q:Value->Shared->Prop}(hu:A.units+1<cLine)(I:Inv X pins σ H s)(g:DGet H a y (some v))(ry:RelV y u)(h:∀w' s',Inv X pins σ H s'->RelV v w'->Q w' s') :
  wpAny (model X.prog X.w) A (getItem (.ref a) u) Q E s:=by
 rcases g with ⟨kvs,k,e,ey,l⟩|⟨kvs,k,b,e,ey,eb,l⟩
 ·subst ey;obtain⟨z,hd,vs,rel,dd⟩:=rO I.hok e;obtain⟨w',hw,rw'⟩:=RelO.some_of (v:=v) (o:=valueAt vs k) (by rw[l];exact rel.val k);exact wpAny_getItem_of (pp ry) dd.mapOf hw (h w' _ (I.tok _) rw')
 ·subst ey;cases(show u=Value.ref b from ry);obtain⟨z,hd,xs,rel,dd⟩:=rB I.hok e;obtain⟨w',hw,rw'⟩:=RelO.some_of (v:=v) (o:=(atKey xs k).map (·.2)) (by rw[l];exact rel.val k);obtain⟨p,hp,hp2⟩:=Option.map_eq_some_iff.mp hw;refine wpAny_getItem_heap (tupleKind_room_in1 hu) (qp I.hok eb) dd hp ?_;rw[hp2];exact h w' _ (I.tok _) rw'
theorem DH{Q:Value->Shared->Prop}(hu:A.units+1<cLine)(I:Inv X pins σ H s)(g:DGet H a y o)(ry:RelV y u)(h:∀s',Inv X pins σ H s'->Q (.bool o.isSome) s') :
  wpAny (model X.prog X.w) A (compareOp .In u (.ref a)) Q E s:=by
 rcases g with ⟨kvs,k,e,ey,l⟩|⟨kvs,k,b,e,ey,eb,l⟩
 ·subst ey;obtain⟨z,hd,vs,rel,dd⟩:=rO I.hok e;refine wpAny_in_of (pp ry) hd dd.mapOf ?_;rw[<-(rel.val k).isSome_eq,<-l];exact h _ (I.tok _)
 ·subst ey;cases(show u=Value.ref b from ry);obtain⟨z,hd,xs,rel,dd⟩:=rB I.hok e;refine wpAny_in_heap (tupleKind_room_in1 hu) (qp I.hok eb) hd dd ?_;have q:=(rel.val k).isSome_eq;rw[Option.isSome_map] at q;rw[<-q,<-l];exact h _ (I.tok _)
theorem z0{Q:Value->Shared->Prop}(hu:A.units+1<cLine)(I:Inv X pins σ H s)(g:DGet H a y o)(ry:RelV y u)(h:∀s',Inv X pins σ H s'->Q (.bool (!o.isSome)) s') :
  wpAny (model X.prog X.w) A (compareOp .NotIn u (.ref a)) Q E s:=by
 rcases g with ⟨kvs,k,e,ey,l⟩|⟨kvs,k,b,e,ey,eb,l⟩
 ·subst ey;obtain⟨z,hd,vs,rel,dd⟩:=rO I.hok e;refine wpAny_notIn_of (pp ry) hd dd.mapOf ?_;rw[<-(rel.val k).isSome_eq,<-l];exact h _ (I.tok _)
 ·subst ey;cases(show u=Value.ref b from ry);obtain⟨z,hd,xs,rel,dd⟩:=rB I.hok e;refine wpAny_notIn_heap (tupleKind_room_in1 hu) (qp I.hok eb) hd dd ?_;have q:=(rel.val k).isSome_eq;rw[Option.isSome_map] at q;rw[<-q,<-l];exact h _ (I.tok _)
theorem oM{h':Heap}{t':Nat}{ob:HO}(I:Inv X pins σ H s)(mu:Mut (H a))(hs:Heap.SameBut a s.heap h')(he:∃q,h'.get? a=some q)(new:ObjOk X.prog X.w (upd H a ob) h' a ob) :
  Inv X pins σ (upd H a ob) { s with heap:=h',toks:=t' }:=
 I.write (x:=a) (e:=a) mu (.inl rfl) (fun b q hb z=>(hs.2 b hb).trans z) he new
theorem uW{P:Program}{w:World}{H':Hp}{h':Heap}{kvs:List (Key×V)}{vs:List (Key×Value)}(z:kvs.length<=sizeLine)(hd:(a == sysModules)=false)(rel:KV kvs vs)(dd:h'.DictOf (cW P w) a vs) :
  ObjOk P w H' h' a (.dK kvs):=⟨z,hd,vs,rel,dd⟩
theorem xP{H':Hp}{Q:Unit->Shared->Prop}(hu:A.units+1<cLine)(I:Inv X pins σ H s)(g:DPut H a y v H')(ry:RelV y u)(rv:RelV v r)(h:∀s',Inv X pins σ H' s'->Q () s') :
  wpAny (model X.prog X.w) A (setItem (.ref a) u r) Q E s:=by
 rcases g with ⟨kvs,k,e,ey,l,eH⟩|⟨kvs,k,b,e,ey,eb,l,eH⟩
 ·subst ey eH;obtain⟨z,hd,vs,rel,dd⟩:=y7 I.hok e;have hz:vs.length<=sizeLine:=by rw[<-rel.length];exact z
  have hl:(ju kvs k v).length<=sizeLine:=by have:=kB kvs k v;omega
  refine wpAny_setItem_pairs (hsz:=hz) (pp ry) dd fun h' dd' hs=>h _ ?_
  have he:∃q,h'.get? a=some q:=let ⟨q,_,_,hq,_⟩:=dd';⟨q,hq⟩
  exact oM I (by rw[e];exact True.intro) hs he (uW hl hd (rel.put k rv) dd')
 ·subst ey eH;cases(show u=Value.ref b from ry);obtain⟨z,hd,xs,rel,dd⟩:=CG I.hok e;have hz:xs.length<=sizeLine:=by rw[<-Paired.length rel];exact z
  have hl:(ju kvs k v).length<=sizeLine:=by have:=kB kvs k v;omega
  refine wpAny_setItem_heap (hsz:=hz) (tupleKind_room_in1 hu) (qp I.hok eb) dd fun h' dd' hs=>h _ ?_
  obtain⟨q,es,ep,hq,h2,h3,h4,_,h5⟩:=dd';refine oM I (by rw[e];exact True.intro) hs ⟨q,hq⟩ ⟨hl,hd,_,(rel.put k eb rv).keeps fun c ys ec=>?_,q,es,ep,hq,h2,h3,h4,h5⟩;rw[br (CM ec e (fun z=>nomatch z))];exact ec
end
section
variable{X:Cx}{pins:List (Addr×Obj)}{σ:St}{H:Hp}{s:Shared}{a:Addr}{kvs:List (Key×V)}{k:Key}{u:Value}{A:Around}{E:Value->Shared->Prop}
theorem Cy{v:V}{more:List Value}{Q:Value->Shared->Prop}(I:Inv X pins σ H s)(e:H a=some (.dK kvs))(ry:RelV (kV k) u)(l:jZ kvs k=some v)(hm:more=[]\/∃x,more=[x])
  (h:∀w' s',Inv X pins σ (upd H a (.dK (pd kvs k))) s'->RelV v w'->Q w' s'):wpAny (model X.prog X.w) A (call (.builtin "dict.pop") (.ref a :: u :: more)) Q E s:=by
 obtain⟨z,hd,vs,rel,dd⟩:=y7 I.hok e;obtain⟨w',hw,rw'⟩:=RelO.some_of (v:=v) (o:=valueAt vs k) (by rw[<-l];exact rel.val k);have hp:(keyPart u).isSome=true:=by
  cases k with
  |inl i=>obtain⟨t,q⟩:=(show ∃t,u=Value.int i t from ry);subst q;rfl
  |inr x=>obtain⟨t,q⟩:=(show ∃t,u=Value.str x t from ry);subst q;rfl
 have ha:argsOk "dict.pop" ⟨.ref a :: u :: more,[]⟩:=by
  rcases hm with q|⟨x,q⟩
  ·subst q;exact PySem.F.args_dict_pop_2 _ _
  ·subst q;exact PySem.F.args_dict_pop_3 _ _ _
 refine call_meetsIn PySem.F.slot_dict_pop dd.typeIs PySem.F.entry_dict_pop ha (meets_dict_pop_there (cW X.prog X.w) a (pp ry) more hm hp)
  ⟨vs,w',dd,by rw[<-rel.length];exact z,hw,fun h' dd' hs=>h w' _ ?_ rw'⟩
 have he:∃q,h'.get? a=some q:=let ⟨q,_,_,hq,_⟩:=dd';⟨q,hq⟩
 exact oM I (by rw[e];exact True.intro) hs he (uW (Nat.le_trans (zx kvs k) z) hd (rel.drop k) dd')
end
theorem uI{X:Cx}{pins:List (Addr×Obj)}{σ:St}{H:Hp}{s:Shared}{a:Addr}{y:V}{o:Option V}(I:Inv X pins σ H s)(g:DGet H a y o):s.TypeIs (.ref a) "dict":=by
 rcases g with ⟨kvs,k,e,_,_⟩|⟨kvs,k,b,e,_,_,_⟩
 ·obtain⟨_,_,vs,_,dd⟩:=rO I.hok e;exact dd.typeIs
 ·obtain⟨_,_,xs,_,dd⟩:=rB I.hok e;exact dd.typeIs
section
variable{X:Cx}{o i e value:Expr}{pos pos' tpos:Pos}{td ty tv:TE}
end
theorem uQ{P:Program}{w:World}{H:Hp}(h:Heap)(hb:sysModules<h.objs.size):ObjOk P w H (h.push { cls:=.type "dict",data:=.dict #[] }) h.objs.size (.dK []):=
 ⟨Nat.zero_le _,beq_eq_false_iff_ne.mpr (Ne.symm (Nat.ne_of_lt hb)),[],.nil,Heap.DictOf.new h⟩
def BO:TE:=fun _ H Q=>∀p,H p=none->Q (.ref p) (upd H p (.dK []))
section
variable{X:Cx}{pos:Pos}
theorem yh:PE X (.Dict [] [] pos) BO:=fun pins s σ H Q I h=>
 wpAny_Dict_empty ⟨.ref s.heap.objs.size,_,I.laid (a:=s.heap.objs.size) (o:=.dK []) (t':=s.toks) (fun _ _ q=>Heap.get?_push_of_some _ q) (Nat.le_refl _) (uQ s.heap I.big),rfl,h _ (I.hok.fresh (Nat.le_refl _))⟩
end
abbrev VV:List (V×V)->List (Value×Value)->Prop:=Paired fun p q=>RelV p.1 q.1/\RelV p.2 q.2
def nc(kvs more:List (Key×V)):List (Key×V):=more.foldl (fun acc kv=>ju acc kv.1 kv.2) kvs
theorem KV.merge:∀{more:List (Key×V)}{rs:List (Key×Value)}{kvs:List (Key×V)}{vs:List (Key×Value)},KV more rs->KV kvs vs->KV (nc kvs more) (merged vs rs):=by
 intro more rs kvs vs r;unfold KV at r
 induction r generalizing kvs vs with
 |nil=>intro q;exact q
 |@cons p q ps qs h t ih=>
  intro r0;have e:KV (ju kvs p.1 p.2) (stored vs q.1 q.2):=by
   have:=r0.put p.1 h.2;rw[<-h.1];exact this
  exact ih e
theorem lg:∀(more kvs:List (Key×V)),(nc kvs more).length<=kvs.length+more.length
 |[],kvs=>by show kvs.length<=kvs.length+0;omega
 |p :: r,kvs=>by
  have h1:=lg r (ju kvs p.1 p.2);have h2:=kB kvs p.1 p.2;show(nc (ju kvs p.1 p.2) r).length<=_;rw[List.length_cons];omega
theorem pM{P:Program}{w:World}:∀{kvs:List (Key×V)}{ws:List (Value×Value)},VV (kvs.map fun kv=>(kV kv.1,kv.2)) ws->∃rs,Carries (cW P w) ws rs/\KV kvs rs
 |[],_,r=>by rw[List.map_nil] at r;cases r;exact⟨[],True.intro,.nil⟩
 |p :: kvs,_,r=>by
  rw[List.map_cons] at r;cases r with
  |@cons a b as bs h t=>
   obtain⟨rs,c,q⟩:=pM (P:=P) (w:=w) t;obtain⟨b1,b2⟩:=b;exact⟨(p.1,b2) :: rs,⟨pp h.1,rfl,c⟩,.cons ⟨rfl,h.2⟩ q⟩
structure M1(X:Cx)(o:Expr)(m:Str)(apos:Pos)(e:Expr)(cpos:Pos):Prop where
 base:attributeBase o m X.env (eval o X.env)=eval o X.env
 few:((backTo cpos (starEach [e] X.env)).all (fun x=>!x.1) && (backToKw cpos (keywordEach [] X.env)).all (fun x=>x.1.isSome)
  && decide (([e]:List Expr).length+([]:List Keyword).length+(if ([]:List Keyword).isEmpty then 0 else 1)<30))=true
 line:(apos.endLine == cpos.line)=true
 trees:backTo cpos (starEach [e] X.env)=[(false,eval e X.env)]
structure M2(X:Cx)(o:Expr)(m:Str)(apos:Pos)(e f:Expr)(cpos:Pos):Prop where
 base:attributeBase o m X.env (eval o X.env)=eval o X.env
 few:((backTo cpos (starEach [e,f] X.env)).all (fun x=>!x.1) && (backToKw cpos (keywordEach [] X.env)).all (fun x=>x.1.isSome)
  && decide (([e,f]:List Expr).length+([]:List Keyword).length+(if ([]:List Keyword).isEmpty then 0 else 1)<30))=true
 line:(apos.endLine == cpos.line)=true
 trees:backTo cpos (starEach [e,f] X.env)=[(false,eval e X.env),(false,eval f X.env)]
def IsD(H:Hp)(a:Addr):Prop:=(∃kvs,Rd H a (.dK kvs))\/∃kvs,Rd H a (.dT kvs)
theorem Bz{X:Cx}{pins:List (Addr×Obj)}{σ:St}{H:Hp}{s:Shared}{a:Addr}(I:Inv X pins σ H s)(d:IsD H a) :
  s.TypeIs (.ref a) "dict"/\(∀b,Value.ref a=.ref b->∃ob,s.heap.get? b=some ob/\ob.dict=none)/\(a == sysModules)=false:=by
 rcases d with ⟨kvs,e⟩|⟨kvs,e⟩
 ·obtain⟨_,hd,vs,_,dd⟩:=rO I.hok e;refine⟨dd.typeIs,fun b q=>?_,hd⟩;cases q;obtain⟨ob,_,_,h1,h2,_⟩:=dd;exact⟨ob,h1,h2.2.1⟩
 ·obtain⟨_,hd,xs,_,dd⟩:=rB I.hok e;refine⟨dd.typeIs,fun b q=>?_,hd⟩;cases q;obtain⟨ob,_,_,h1,h2,_⟩:=dd;exact⟨ob,h1,h2.2.1⟩
section
variable{X:Cx}{pins:List (Addr×Obj)}{σ:St}{H:Hp}{s:Shared}{a:Addr}{y d:V}{u r:Value}{o:Option V}{A:Around}{E:Value->Shared->Prop}
end
section
variable{X:Cx}{o e f:Expr}{apos cpos:Pos}{td ty tx:TE}
end
end L2
namespace DL
open PySem PySem.Spec PyProof.Rows L2
def gZ(kvs:List (Key×D))(k:Key):Option D:=(kvs.find? fun kv=>decide (kv.1=k)).map (·.2)
def qE(kvs:List (Key×D))(k:Key)(d:D):List (Key×D):=
 if (kvs.any fun kv=>decide (kv.1=k))=true then kvs.map (fun kv=>if kv.1=k then (kv.1,d) else kv) else kvs++[(k,d)]
def uO(kvs:List (Key×D))(k:Key):List (Key×D):=kvs.filter fun kv=>decide (kv.1≠k)
section
variable{K:PySem.W.Frag}{H:Hp}{J:List Addr}
theorem RepPs.val:∀{kvs:List (Key×D)}{ws:List (Key×V)}(k:Key),RepPs K H J kvs ws->(∀d,gZ kvs k=some d->∃v,jZ ws k=some v/\RepV K H J d v)/\(gZ kvs k=none->jZ ws k=none)
 |[],_,k,h=>by
  have h':_=[]:=h;subst h';exact⟨fun d e=>(by cases e),fun _=>rfl⟩
 |(k0,d0) :: r,ws,k,h=>by
  obtain⟨v,t,rfl,h2,h3⟩:=h;by_cases e:k0=k
  ·have e1:gZ ((k0,d0) :: r) k=some d0:=by simp[gZ,List.find?_cons,e]
   have e2:jZ ((k0,v) :: t) k=some v:=lS e;rw[e1,e2];exact⟨fun d q=>⟨v,rfl,by cases q;exact h2⟩,fun q=>(by cases q)⟩
  ·have e1:gZ ((k0,d0) :: r) k=gZ r k:=by simp[gZ,List.find?_cons,e]
   have e2:jZ ((k0,v) :: t) k=jZ t k:=lX e;rw[e1,e2];exact RepPs.val k h3
theorem RepPs.anyk:∀{kvs:List (Key×D)}{ws:List (Key×V)}(k:Key),RepPs K H J kvs ws->(kvs.any fun kv=>decide (kv.1=k))=ws.any fun kv=>decide (kv.1=k)
 |[],_,k,h=>by
  have h':_=[]:=h;subst h';rfl
 |(k0,d0) :: r,ws,k,h=>by
  obtain⟨v,t,rfl,h2,h3⟩:=h;rw[List.any_cons,List.any_cons,RepPs.anyk k h3]
theorem RepPs.mapk{d:D}{v:V}(hd:RepV K H J d v):∀{kvs:List (Key×D)}{ws:List (Key×V)}(k:Key),RepPs K H J kvs ws->
  RepPs K H J (kvs.map fun kv=>if kv.1=k then (kv.1,d) else kv) (ws.map fun kv=>if kv.1=k then (kv.1,v) else kv)
 |[],_,k,h=>by
  have h':_=[]:=h;subst h';exact h
 |(k0,d0) :: r,ws,k,h=>by
  obtain⟨v0,t,rfl,h2,h3⟩:=h;rw[List.map_cons,List.map_cons];by_cases e:k0=k
  ·rw[if_pos e,if_pos e];exact⟨v,_,rfl,hd,RepPs.mapk hd k h3⟩
  ·rw[if_neg e,if_neg e];exact⟨v0,_,rfl,h2,RepPs.mapk hd k h3⟩
theorem RepPs.snoc{d:D}{v:V}(hd:RepV K H J d v):∀{kvs:List (Key×D)}{ws:List (Key×V)}(k:Key),RepPs K H J kvs ws->RepPs K H J (kvs++[(k,d)]) (ws++[(k,v)])
 |[],_,k,h=>by
  have h':_=[]:=h;subst h';exact⟨v,[],rfl,hd,rfl⟩
 |(k0,d0) :: r,ws,k,h=>by
  obtain⟨v0,t,rfl,h2,h3⟩:=h;exact⟨v0,_,rfl,h2,RepPs.snoc hd k h3⟩
theorem RepPs.put{d:D}{v:V}(hd:RepV K H J d v){kvs:List (Key×D)}{ws:List (Key×V)}(k:Key)(h:RepPs K H J kvs ws):RepPs K H J (qE kvs k d) (ju ws k v):=by
 unfold qE ju;rw[h.anyk k];by_cases e:(ws.any fun kv=>decide (kv.1=k))=true
 ·rw[if_pos e,if_pos e];exact h.mapk hd k
 ·rw[if_neg e,if_neg e];exact h.snoc hd k
theorem RepPs.dropk:∀{kvs:List (Key×D)}{ws:List (Key×V)}(k:Key),RepPs K H J kvs ws->RepPs K H J (uO kvs k) (pd ws k)
 |[],_,k,h=>by
  have h':_=[]:=h;subst h';exact h
 |(k0,d0) :: r,ws,k,h=>by
  obtain⟨v0,t,rfl,h2,h3⟩:=h;unfold uO pd;rw[List.filter_cons,List.filter_cons];by_cases e:decide (k0≠k)=true
  ·rw[if_pos e,if_pos e];exact⟨v0,_,rfl,h2,RepPs.dropk k h3⟩
  ·rw[if_neg e,if_neg e];exact RepPs.dropk k h3
end
def hZ:D->Option Key
 |.int i=>some (.inl i)
 |.str x=>some (.inr x)
 |_=>none
theorem jp{K:PySem.W.Frag}{H:Hp}{J:List Addr}{x:D}{k:Key}{v:V}(h:hZ x=some k)(r:RepV K H J x v):v=kV k:=by
 cases x with
 |int i=>cases h;cases r.int_;rfl
 |str i=>cases h;cases r.str_;rfl
 |_=>cases h
def dD(S:List Cell)(n:Nat):Option (List (Key×D)):=match S[n]? with
 |some (.dic kvs)=>some kvs
 |_=>none
theorem v8{S:List Cell}{n:Nat}{kvs:List (Key×D)}(h:dD S n=some kvs):S[n]?=some (.dic kvs):=by
 unfold dD at h;split at h
 ·rename_i e;cases h;exact e
 ·cases h
theorem eS{S:List Cell}{n:Nat}{kvs:List (Key×D)}(h:S[n]?=some (.dic kvs)):dD S n=some kvs:=by unfold dD;rw[h]
theorem RepS.dic{K:PySem.W.Frag}{H:Hp}{J:List Addr}{S:List Cell}{n:Nat}{kvs:List (Key×D)}{a:Addr}(rs:RepS K H J S)(h:dD S n=some kvs)(hn:J[n]?=some a):∃ws,H a=some (.dK ws)/\RepPs K H J kvs ws:=rs.at_ n _ a (v8 h) hn
section
variable{X:Cx}{a b o e:Expr}{es:List Expr}{fa fb fo fi fe:DSt->M D}{ft:DSt->M (List D)}{pos:Pos}
def qr(x y:D):M D:=fun S=>match hZ x,y with
 |some k,.ob n=>(match dD S n with
  |some kvs=>.ok (.bl (gZ kvs k).isSome) S
  |none=>.bad)
 |_,_=>.bad
def fA(x y:D):M D:=fun S=>match hZ x,y with
 |some k,.ob n=>(match dD S n with
  |some kvs=>.ok (.bl (!(gZ kvs k).isSome)) S
  |none=>.bad)
 |_,_=>.bad
theorem sQ{K:PySem.W.Frag}{H:Hp}{J:List Addr}{S:List Cell}{n:Nat}{kvs:List (Key×D)}{ad:Addr}(rs:RepS K H J S)(h:dD S n=some kvs)(hn:J[n]?=some ad)(k:Key) :
  (∀d,gZ kvs k=some d->∃v,DGet H ad (kV k) (some v)/\RepV K H J d v)/\∃ov,DGet H ad (kV k) ov/\ov.isSome=(gZ kvs k).isSome:=by
 obtain⟨ws,hv,rp⟩:=rs.dic h hn;obtain⟨h1,h2⟩:=rp.val k;refine⟨fun d e=>?_,jZ ws k,DGet.k hv,?_⟩
 ·obtain⟨v,e1,e2⟩:=h1 d e;exact⟨v,by rw[<-e1];exact DGet.k hv,e2⟩
 ·cases e:gZ kvs k with
  |none=>rw[h2 e];rfl
  |some d=>obtain⟨v,e1,_⟩:=h1 d e;rw[e1];rfl
theorem zk(hu:X.A.units+64<cLine):OpD X (compareOp .In) qr:=by
 intro pins s σ H J S x y vx vy v u Q E I rs rx ry rv ru m;unfold qr at m;cases ek:hZ x with
 |none=>rw[ek] at m;exact m.elim
 |some k=>
  rw[ek] at m;cases y with
  |ob n=>
   dsimp only at m;obtain⟨ad,rfl,hn⟩:=ry.ob_;cases ru;cases ed:dD S n with
   |none=>rw[ed] at m;exact m.elim
   |some kvs=>
    rw[ed] at m;have:=jp ek rx;subst this;obtain⟨_,ov,g,e⟩:=sQ rs ed hn k;refine DH (by omega) I g rv fun s' I'=>?_
    rw[e];exact m.ok_ I' rs (RepV.bl _ _ _ _) rfl
  |_=>exact m.elim
theorem rq(hu:X.A.units+64<cLine):OpD X (compareOp .NotIn) fA:=by
 intro pins s σ H J S x y vx vy v u Q E I rs rx ry rv ru m;unfold fA at m;cases ek:hZ x with
 |none=>rw[ek] at m;exact m.elim
 |some k=>
  rw[ek] at m;cases y with
  |ob n=>
   dsimp only at m;obtain⟨ad,rfl,hn⟩:=ry.ob_;cases ru;cases ed:dD S n with
   |none=>rw[ed] at m;exact m.elim
   |some kvs=>
    rw[ed] at m;have:=jp ek rx;subst this;obtain⟨_,ov,g,e⟩:=sQ rs ed hn k;refine z0 (by omega) I g rv fun s' I'=>?_
    rw[e];exact m.ok_ I' rs (RepV.bl _ _ _ _) rfl
  |_=>exact m.elim
def gp(x y:D):M D:=fun S=>match x,hZ y with
 |.ob n,some k=>(match dD S n with
  |some kvs=>(match gZ kvs k with
   |some d=>.ok d S
   |none=>.bad)
  |none=>.bad)
 |_,_=>.bad
theorem qv(hu:X.A.units+64<cLine):IxD X gp:=by
 intro value slice pins s σ H J S x y vx vy v u Q E I rs rx ry rv ru hs m;unfold gp at m;cases ek:hZ y with
 |none=>rw[ek] at m;cases x<;>exact m.elim
 |some k=>
  rw[ek] at m;cases x with
  |ob n=>
   dsimp only at m;obtain⟨ad,rfl,hn⟩:=rx.ob_;cases rv;cases ed:dD S n with
   |none=>rw[ed] at m;exact m.elim
   |some kvs=>
    rw[ed] at m;dsimp only at m;have:=jp ek ry;subst this;cases ev:gZ kvs k with
    |none=>rw[ev] at m;exact m.elim
    |some d=>
     rw[ev] at m;obtain⟨h1,_⟩:=sQ rs ed hn k;obtain⟨w,g,rw'⟩:=h1 d ev;exact tail_any (uI I g) PySem.F.slot_dict_getitem.lookup (xU (by omega) I g ru fun w' s' I' rr=>m.ok_ I' rs rw' rr) hs
  |_=>exact m.elim
def j0:DSt->M D:=fun _ S=>.ok (.ob S.length) (S++[.dic []])
theorem oQ:PEd X (.Dict [] [] pos) j0:=by
 intro pins s σ H J r S Q E I m;refine wpAny_mono (yh (X:=X.wish E) pins s σ H (Got X.K H J (.ob S.length) (S++[.dic []])) (I.inv.wish E) ?_) (fun u s' q=>m u s' (EP.unwish q)) fun _ _ z=>z
 intro p hp;exact⟨J++[p],(Ext.new hp).snoc _,I.st.push hp ⟨[],bE,rfl⟩,.ob (by rw[<-I.st.len];simp)⟩
def StD(X:Cx)(g:D->D->D->List Cell->Option (List Cell)):Prop:=∀(pins:Pins) (s:Shared) (σ:L2.St) (H:Hp) (J:List Addr) (S:List Cell) (x y d:D) (vx vy vd:V) (ux uy ud:Value) (S':List Cell) (Q:Unit->Shared->Prop) (E:Value->Shared->Prop),
 Inv X pins σ H s->RepS X.K H J S->RepV X.K H J x vx->RepV X.K H J y vy->RepV X.K H J d vd->RelV vx ux->RelV vy uy->RelV vd ud->g x y d S=some S'->(∀s' H',Inv X pins σ H' s'->Ext H J H' J->RepS X.K H' J S'->Q () s')->wpAny (model X.prog X.w) X.A (setItem ux uy ud) Q E s
def uV(g:D->D->D->List Cell->Option (List Cell))(fo fi fe:DSt->M D):TSt:=fun r=>cx (fe r) r fun d=>cx (fo r) r fun x=>cx (fi r) r fun y S=>match g x y d S with
 |some S'=>some (.nx r,S')
 |none=>none
theorem sy{i:Expr}{pos':Pos}{g:D->D->D->List Cell->Option (List Cell)}(hg:StD X g)(ho:PEd X o fo)(hi:PEd X i fi)(he:PEd X e fe)(hs:swapsWith e (some (.Subscript o i pos')) pos.line X.env=pure false:=by rfl) :
  PSd X (.Assign [.Subscript o i pos'] e pos) (uV g fo fi fe):=by
 intro pins s σ H J r S Q E I m;refine wpAny_Assign_Subscript (sU he I m fun d S1 ud s1 vd H1 J1 I1 x1 rd ru m1=>sU ho I1 m1 fun x S2 ux s2 vx H2 J2 I2 x2 rx rvx m2=>sU hi I2 m2 fun y S3 uy s3 vy H3 J3 I3 x3 ry rvy m3=>?_) hs;cases eg:g x y d S3 with
 |none=>rw[eg] at m3;exact m3.elim
 |some S'=>
  rw[eg] at m3;exact hg pins s3 σ H3 J3 S3 x y d vx vy vd ux uy ud S' _ E I3.inv I3.st (rx.ext x3) ry ((rd.ext x2).ext x3) rvx rvy ru eg fun s' H' I' x' rs'=>m3 s' σ H' J3 ⟨I',I3.loc.ext x',rs'⟩ x'
def qi(x y d:D)(S:List Cell):Option (List Cell):=match x,hZ y with
 |.ob n,some k=>(match dD S n with
  |some kvs=>cif (kvs.length<sizeLine) (some (S.set n (.dic (qE kvs k d)))) none
  |none=>none)
 |_,_=>none
theorem wr(hu:X.A.units+64<cLine):StD X qi:=by
 intro pins s σ H J S x y d vx vy vd ux uy ud S' Q E I rs rx ry rd rux ruy rud eg k;unfold qi at eg;cases ek:hZ y with
 |none=>rw[ek] at eg;cases x<;>cases eg
 |some ky=>
  rw[ek] at eg;cases x with
  |ob n=>
   dsimp only at eg;obtain⟨ad,rfl,hn⟩:=rx.ob_;cases rux;cases ed:dD S n with
   |none=>rw[ed] at eg;cases eg
   |some kvs=>
    rw[ed] at eg;dsimp only at eg;unfold cif at eg;split at eg
    ·rename_i hz;cases eg;have:=jp ek ry;subst this;obtain⟨ws,hv,rp⟩:=rs.dic ed hn;refine xP (by omega) I (DPut.k hv (by rw[rp.length];exact hz)) ruy rud fun s' I'=>?_
     have x':Ext H J (upd H ad (.dK (ju ws ky vd))) J:=Ext.write hv rfl;exact k s' _ I' x' (rs.write hn ⟨_,bE,(rp.ext x').put (rd.ext x') ky⟩)
    ·cases eg
  |_=>cases eg
def n5(x y d:D)(S:List Cell):Option (List Cell):=match x,y with
 |.ob n,.int i=>(match cQ S n with
  |some xs=>(match ixN xs.length i with
   |some j=>some (S.set n (.lst (xs.set j d)))
   |none=>none)
  |none=>none)
 |_,_=>none
theorem wU:StD X n5:=by
 intro pins s σ H J S x y d vx vy vd ux uy ud S' Q E I rs rx ry rd rux ruy rud eg k;unfold n5 at eg;cases x with
 |ob n=>
  cases y with
  |int i=>
   dsimp only at eg;obtain⟨ad,rfl,hn⟩:=rx.ob_;cases ry.int_;cases ed:cQ S n with
   |none=>rw[ed] at eg;cases eg
   |some xs=>
    rw[ed] at eg;dsimp only at eg;cases ej:ixN xs.length i with
    |none=>rw[ej] at eg;cases eg
    |some j=>
     rw[ej] at eg;cases eg;obtain⟨ws,hv,rw'⟩:=rs.lst ed hn;refine wpAny_mono (yt (X:=X.wish E) pins s σ H (.ref ad) (.int i) vd ux uy ud (fun H'=>H'=upd H ad (.lst (ws.set j vd))) (I.wish E) rux ruy rud ⟨ad,ws,i,j,rfl,rfl,hv,by rw[rw'.length];exact ej,rfl⟩) (fun _ s' q=>?_) fun _ _ z=>z
     obtain⟨H',I',rfl⟩:=q;have x':Ext H J (upd H ad (.lst (ws.set j vd))) J:=Ext.write hv rfl;exact k s' _ I'.unwish x' (rs.write hn ⟨_,bE,RepVs.set (rd.ext x') j (rw'.ext x')⟩)
  |_=>cases eg
 |_=>cases eg
def zY(x:D):M Unit:=fun S=>match x with
 |.ob n=>(match dD S n with
  |some _=>.ok () S
  |none=>.bad)
 |_=>.bad
def xO(g:D->List D->M D)(fo:DSt->M D)(ft:DSt->M (List D)):DSt->M D:=fun r=>(fo r).bind fun x=>(zY x).bind fun _=>(ft r).bind fun xs=>g x xs
theorem BF{name:Str}{apos cpos:Pos}{id:String}{g:D->List D->M D}(slot:Slot "dict" name id)(hty:typeOf (.builtin id)=pure (.type "method_descriptor"))(hm:MtD X id g)
  (ho:PEd X o fo) (ha:PAd X (e :: es) ft)
  (hbase:attributeBase o name X.env (eval o X.env)=eval o X.env:=by rfl)
  (hfew:((backTo cpos (starEach (e :: es) X.env)).all (fun x=>!x.1) && (backToKw cpos (keywordEach [] X.env)).all (fun x=>x.1.isSome)
   && decide ((e :: es).length+([]:List Keyword).length+(if ([]:List Keyword).isEmpty then 0 else 1)<30))=true:=by rfl)
  (hline:(apos.endLine == cpos.line)=true:=by rfl) (hs:starEach (e :: es) X.env=(false,eval e X.env) :: starEach es X.env:=by rfl) (hplain:(backTo cpos (starEach es X.env)).any (·.1)=false:=by rfl) :
  PEd X (.Call (.Attribute o name apos) (e :: es) [] cpos) (xO g fo ft):=by
 intro pins s σ H J r S Q E I m;refine wpAny_Call_method_late hbase hfew hline rfl (ho pins s σ H J r S _ E I ?_);unfold xO M.bind at m;cases e1:fo r S with
 |bad=>rw[e1] at m;exact m
 |exc c S1=>rw[e1] at m;exact m
 |ok x S1=>
  rw[e1] at m;dsimp only at m;rintro v s1 ⟨vx,H1,I1,r1,J1,ex1,rs1,rv1⟩;cases x with
  |ob n=>
   obtain⟨a,rfl,hn⟩:=rv1.ob_;simp only[zY] at m;cases e2:dD S1 n with
   |none=>rw[e2] at m;exact m.elim
   |some kvs=>
    rw[e2] at m;obtain⟨ws,hv,rvs⟩:=rs1.dic e2 hn;cases r1;obtain⟨h1,h2,_⟩:=Bz I1 (.inl ⟨ws,.inl hv⟩);refine⟨"dict",id,PySem.F.plainAttrs_dict,slot,hty,h1,h2,?_⟩;have m:=Mt.ext ex1 m;have hA:=Br (k:=fun xs=>g (.ob n) xs) (Q':=fun us s2=>wpAny (model X.prog X.w) X.A (call (.builtin id) (.ref a :: us)) Q E s2) ha ⟨I1,I.loc.ext ex1,rs1⟩ m (fun xs S2 s2 H2 J2 vs us I2 x2 rv r2 m2=>?_) cpos
    ·rw[hs] at hA ⊢;exact Calls.callWith_builtin (by show(false || (backTo cpos (starEach es X.env)).any (·.1))=false;rw[hplain]<;>rfl) (Calls.evalArgs_plain hA)
    ·exact hm pins s2 σ H2 J2 S2 (.ob n) xs (.ref a) vs (.ref a) us Q E I2.inv I2.st (rv1.ext x2) rv rfl r2 m2
  |_=>exact m.elim
def uJ:D->List D->M D
 |.ob n,[y]=>fun S=>match hZ y,dD S n with
  |some k,some kvs=>(match gZ kvs k with
   |some d=>.ok d (S.set n (.dic (uO kvs k)))
   |none=>.bad)
  |_,_=>.bad
 |_,_=>M.bad
theorem AM:MtD X "dict.pop" uJ:=by
 intro pins s σ H J S x xs vx vs v us Q E I rs rx rxs rv rvs m;cases x with
 |ob n=>
  match xs,m,rxs with
  |[y],m,rxs=>
   obtain⟨ad,rfl,hn⟩:=rx.ob_;obtain⟨w,rfl,rw'⟩:=rxs.one_;obtain⟨u,rfl,ru⟩:=rvs.one;cases rv;simp only[uJ] at m;cases ek:hZ y with
   |none=>rw[ek] at m;exact m.elim
   |some k=>
    rw[ek] at m;cases ed:dD S n with
    |none=>rw[ed] at m;exact m.elim
    |some kvs=>
     rw[ed] at m;dsimp only at m;cases ev:gZ kvs k with
     |none=>rw[ev] at m;exact m.elim
     |some d=>
      rw[ev] at m;have:=jp ek rw';subst this;obtain⟨ws,hv,rp⟩:=rs.dic ed hn;obtain⟨vd,e1,rd⟩:=(rp.val k).1 d ev;refine Cy I hv ru e1 (.inl rfl) fun w' s' I' rr=>?_
      have x':Ext H J (upd H ad (.dK (pd ws k))) J:=Ext.write hv rfl;exact m w' s' ⟨vd,_,I',rr,J,x',rs.write hn ⟨_,bE,(rp.ext x').dropk k⟩,rd.ext x'⟩
  |[],m,_=>exact m.elim
  |_ :: _ :: _,m,_=>exact m.elim
 |_=>exact m.elim
end
end DL
namespace DL
open PySem PySem.Spec PyProof.Rows L2
theorem oj(l:Addr)(items:Array Value)(n:Nat)(b:Addr)(items2:Array Value)(n2:Nat)(dd:Option Addr)(sl:Array (Option Value))(hs0:¬(!items.isEmpty && Builtin.List.listTooLong (items.size+items2.size))=true)(hs1:items.size<=sizeLine)(hs2:items.size+items2.size<=sizeLine+1) :
  Meets (Builtin.«list.extend» ⟨[.ref l,.ref b],[]⟩) (fun _ R s=>s.heap.get? l=some { cls:=.type "list",dict:=none,data:=.seq items n,slots:=#[] }/\s.heap.get? b=some { cls:=.type "tuple",dict:=dd,data:=.seq items2 n2,slots:=sl }/\R (.ok (.ret Value.none)) { s with heap:=s.heap.update l (Obj.mapSeq fun x=>x++items2),toks:=s.toks }):=
 .of_wp fun prog w A R s h=>by
  obtain⟨hp,g,d,tk,os⟩:=s;obtain⟨hl,hb,h⟩:=h;have f1:=PySem.AutoSeq1.idx_int;have f2:=PySem.AutoSeq1.sub_tuple_tuple;have f3:=PySem.AutoSeq1.sub_list_list;have f4:=PySem.AutoSeq1.sub_tuple_list;have f5:=PySem.AutoSeq1.sub_list_tuple;have hz':(items++items2).size<=sizeLine+1:=by rw[Array.size_append];exact hs2
  wp_walk using (wpAny_updateSeq hl rfl (hz:=hs1) (_hz':=hz')),wpAny_loadPart' hl,wpAny_loadPart' hb
  exact⟨_,rfl,h⟩
section
variable{X:Cx}
def qR:D->List D->M D
 |.ob n,[.tup ys]=>fun S=>match cQ S n with
  |some xs=>cif (xs.length+ys.length<=sizeLine) (.ok .non (S.set n (.lst (xs++ys)))) .bad
  |none=>.bad
 |_,_=>M.bad
theorem nv:MtD X "list.extend" qR:=by
 intro pins s σ H J S x xs vx vs v us Q E I rs rx rxs rv rvs m;cases x with
 |ob n=>
  match xs,m,rxs with
  |[.tup ys],m,rxs=>
   obtain⟨ad,rfl,hn⟩:=rx.ob_;obtain⟨w,rfl,rw'⟩:=rxs.one_;obtain⟨u,rfl,ru⟩:=rvs.one;cases rv;obtain⟨b,zs,rfl,hq,rz⟩:=rw'.tup_;cases ru;simp only[qR,cif] at m;cases ed:cQ S n with
   |none=>rw[ed] at m;exact m.elim
   |some xs0=>
    rw[ed] at m;dsimp only at m;split at m
    ·rename_i hz;obtain⟨ws,hv,rws⟩:=rs.lst ed hn;obtain⟨z,its,n1,r,hl,e⟩:=I.lstM hv;obtain⟨its2,r2,ht,hz2⟩:=I.tuple hq;obtain⟨⟨cls2,dd2,data2,sl2⟩,ho2,hc2,n2,hd2⟩:=id ht;simp only at hc2 hd2;subst hc2 hd2;have hl2:=r2.length;have l1:=rws.length;have l2:=rz.length;have hsz:its.toArray.size+its2.toArray.size<=sizeLine:=by rw[List.size_toArray,List.size_toArray];omega
     have hlong:¬(!its.toArray.isEmpty && Builtin.List.listTooLong (its.toArray.size+its2.toArray.size))=true:=by
      rw[uf hsz,Bool.and_false];exact Bool.false_ne_true
     refine call_meets F.slot_list_extend ⟨_,e,rfl⟩ F.entry_list_extend (F.args_list_extend_2 _ _) (oj ad its.toArray n1 b its2.toArray n2 dd2 sl2 hlong (by rw[List.size_toArray];omega) (by omega)) ⟨e,ho2,?_⟩;have x':Ext H J (upd H ad (.lst (ws++zs))) J:=Ext.write hv rfl;refine m _ _ ⟨.non,_,I.lset (its':=its++its2) hv e (by simp) (r.append r2) (by rw[List.length_append];omega),rfl,J,x',rs.write hn ⟨_,bE,(rws.ext x').append (rz.ext x')⟩,RepV.non _ _ _⟩
    ·exact m.elim
  |[],m,_=>exact m.elim
  |[.non],m,_=>exact m.elim
  |[.bl _],m,_=>exact m.elim
  |[.int _],m,_=>exact m.elim
  |[.str _],m,_=>exact m.elim
  |[.rol _],m,_=>exact m.elim
  |[.ob _],m,_=>exact m.elim
  |[.xn _],m,_=>exact m.elim
  |y :: _ :: _,m,_=>cases y<;>exact m.elim
 |_=>exact m.elim
theorem RepVs.eraseIdx{K:PySem.W.Frag}{H:Hp}{J:List Addr}:∀{xs:List D}{vs:List V}(i:Nat),RepVs K H J xs vs->RepVs K H J (xs.eraseIdx i) (vs.eraseIdx i)
 |[],_,i,h=>by unfold RepVs at h;subst h;simp;exact .nil
 |x :: xs,vs,0,h=>by
  unfold RepVs at h;obtain⟨v,r,h1,h2,h3⟩:=h;subst h1;exact h3
 |x :: xs,vs,i+1,h=>by
  unfold RepVs at h;obtain⟨v,r,h1,h2,h3⟩:=h;subst h1;exact .cons h2 (RepVs.eraseIdx i h3)
def vo:D->List D->M D
 |.ob n,[.int i]=>fun S=>match cQ S n with
  |some xs=>cif (0<=i/\i<xs.length) (match xs[i.toNat]? with
   |some d=>.ok d (S.set n (.lst (xs.eraseIdx i.toNat)))
   |none=>.bad) .bad
  |none=>.bad
 |_,_=>M.bad
theorem yW:MtD X "list.pop" vo:=by
 intro pins s σ H J S x xs vx vs v us Q E I rs rx rxs rv rvs m;cases x with
 |ob n=>
  match xs,m,rxs with
  |[.int i],m,rxs=>
   obtain⟨ad,rfl,hn⟩:=rx.ob_;obtain⟨w,rfl,rw'⟩:=rxs.one_;cases rw'.int_;simp only[vo,cif] at m;cases ed:cQ S n with
   |none=>rw[ed] at m;exact m.elim
   |some xs0=>
    rw[ed] at m;dsimp only at m;split at m
    ·rename_i hz;cases e3:xs0[i.toNat]? with
     |none=>rw[e3] at m;exact m.elim
     |some d=>
      rw[e3] at m;obtain⟨ws,hv,rws⟩:=rs.lst ed hn;obtain⟨w,hw,rw'⟩:=rws.get e3;have hl:=rws.length;have hn63:=ll;have hz0:=(I.lstM hv).1;refine wpAny_mono (zD (X:=X.wish E) pins s σ H (.ref ad) [.int i] v us (Got X.K H J d (S.set n (.lst (xs0.eraseIdx i.toNat)))) (I.wish E) rv rvs ⟨ad,ws,i,i.toNat,w,rfl,rfl,hv,by omega,by omega,seqIndex_of hz.1 (by rw[hl];exact hz.2),hw,?_⟩) (fun u s' q=>m u s' (EP.unwish q)) fun _ _ z=>z
      have x':Ext H J (upd H ad (.lst (ws.eraseIdx i.toNat))) J:=Ext.write hv rfl;exact⟨J,x',rs.write hn ⟨_,bE,RepVs.eraseIdx _ (rws.ext x')⟩,rw'.ext x'⟩
    ·exact m.elim
  |[],m,_=>exact m.elim
  |[.non],m,_=>exact m.elim
  |[.bl _],m,_=>exact m.elim
  |[.tup _],m,_=>exact m.elim
  |[.str _],m,_=>exact m.elim
  |[.rol _],m,_=>exact m.elim
  |[.ob _],m,_=>exact m.elim
  |[.xn _],m,_=>exact m.elim
  |y :: _ :: _,m,_=>cases y<;>exact m.elim
 |_=>exact m.elim
def uT:D->List D->M D
 |.ob n,[.int i,y]=>fun S=>match cQ S n with
  |some xs=>cif ((0<=i/\i<=xs.length)/\xs.length<sizeLine) (.ok .non (S.set n (.lst (xs.take i.toNat++y :: xs.drop i.toNat)))) .bad
  |none=>.bad
 |_,_=>M.bad
theorem w3:MtD X "list.insert" uT:=by
 intro pins s σ H J S x xs vx vs v us Q E I rs rx rxs rv rvs m;cases x with
 |ob n=>
  match xs,m,rxs with
  |[.int i,y],m,rxs=>
   obtain⟨ad,rfl,hn⟩:=rx.ob_;obtain⟨w1,w2,rfl,rw1,rw2⟩:=rxs.two_;cases rw1.int_;obtain⟨u1,u2,rfl,ru1,ru2⟩:=rvs.two;obtain⟨t1,rfl⟩:=ru1;cases rv;simp only[uT,cif] at m;cases ed:cQ S n with
   |none=>rw[ed] at m;exact m.elim
   |some xs0=>
    rw[ed] at m;dsimp only at m;split at m
    ·rename_i hz;obtain⟨ws,hv,rws⟩:=rs.lst ed hn;obtain⟨z,its,n1,r,hl,e⟩:=I.lstM hv;have l1:=rws.length;have hn63:=ll;have hfit:Builtin.List.listFitsIndex i=true:=fitsIndex_both (by omega) (by omega);refine call_meets PySem.F.slot_list_insert ⟨_,e,rfl⟩ PySem.F.entry_list_insert (PySem.F.args_list_insert_3 _ _ _) (PySem.AutoSeq1.list_insert_list_int_val_1 ad its.toArray n1 i t1 u2 (by simp[hfit]) (by rw[List.size_toArray];omega)) ⟨e,?_⟩;have x':Ext H J (upd H ad (.lst (ws.take i.toNat++w2 :: ws.drop i.toNat))) J:=Ext.write hv rfl;refine m _ _ ⟨.non,_,I.lset (its':=its.take i.toNat++u2 :: its.drop i.toNat) hv e ?_ ((r.take _).append (.cons ru2 (r.drop _))) ?_,rfl,J,x',rs.write hn ⟨_,bE,((rws.ext x').take _).append (.cons (rw2.ext x') ((rws.ext x').drop _))⟩,RepV.non _ _ _⟩
     ·have h0:¬i<0:=by omega
      have hk:min i.toNat its.toArray.size=i.toNat:=by rw[List.size_toArray];omega
      simp only[if_neg h0,hk];apply Array.toList_inj.mp;simp;exact List.take_of_length_le (by rw[List.length_drop];exact Nat.le_refl _)
     ·rw[List.length_append,List.length_cons,List.length_take,List.length_drop];omega
    ·exact m.elim
  |[],m,_=>exact m.elim
  |[.int _],m,_=>exact m.elim
  |[.non],m,_=>exact m.elim
  |[.bl _],m,_=>exact m.elim
  |[.tup _],m,_=>exact m.elim
  |[.str _],m,_=>exact m.elim
  |[.rol _],m,_=>exact m.elim
  |[.ob _],m,_=>exact m.elim
  |[.xn _],m,_=>exact m.elim
  |.non :: _ :: _,m,_=>exact m.elim
  |.bl _ :: _ :: _,m,_=>exact m.elim
  |.tup _ :: _ :: _,m,_=>exact m.elim
  |.str _ :: _ :: _,m,_=>exact m.elim
  |.rol _ :: _ :: _,m,_=>exact m.elim
  |.ob _ :: _ :: _,m,_=>exact m.elim
  |.xn _ :: _ :: _,m,_=>exact m.elim
  |.int _ :: _ :: _ :: _,m,_=>exact m.elim
 |_=>exact m.elim
end
end DL
namespace DL
open PySem PySem.Spec PyProof.Rows L2
section
variable{X:Cx}
theorem cI{n:Nat}{g:DSt->M (List D)}(h:∀(r:DSt) (S:List Cell) (xs:List D) (S':List Cell),g r S=.ok xs S'->xs.length=n):∀(r:DSt) (S:List Cell) (xs:List D) (S':List Cell),g r S=.ok xs S'->xs.length+1=n+1:=
 fun r S xs S' e=>by rw[h r S xs S' e]
def rA:DSt->M (List (D×D)):=fun _=>M.ret []
def il(fk fv:DSt->M D)(f:DSt->M (List (D×D))):DSt->M (List (D×D)):=fun r=>(fk r).bind fun k=>(fv r).bind fun v=>(f r).bind fun ps=>M.ret ((k,v) :: ps)
def MtP(X:Cx)(pins:Pins)(σ:L2.St)(H:Hp)(J:List Addr)(r:R (List (D×D)))(Q:List (Value×Value)->Shared->Prop)(E:Value->Shared->Prop):Prop:=match r with
 |.ok ps S'=>∀us s',(∃vs H' J',Inv X pins σ H' s'/\VV vs us/\Ext H J H' J'/\RepS X.K H' J' S'/\RepVs X.K H' J' (ps.map (·.1)) (vs.map (·.1))/\RepVs X.K H' J' (ps.map (·.2)) (vs.map (·.2)))->Q us s'
 |.exc c S'=>∀e s',XP X pins σ c (Gone X.K H J S') e s'->E e s'
 |.bad=>False
theorem MtP.ext{pins:Pins}{σ:L2.St}{H H1:Hp}{J J1:List Addr}{r:R (List (D×D))}{Q:List (Value×Value)->Shared->Prop}{E:Value->Shared->Prop}(e:Ext H J H1 J1)(h:MtP X pins σ H J r Q E):MtP X pins σ H1 J1 r Q E:=by
 cases r with
 |ok d S=>exact fun u s' ⟨v,H',J',I,rv,x,g⟩=>h u s' ⟨v,H',J',I,rv,e.trans x,g⟩
 |exc c S=>exact fun u s' x=>h u s' (x.ext e)
 |bad=>exact h
def PPd(X:Cx)(pos:Pos)(keys:List (Option Expr))(values:List Expr)(f:DSt->M (List (D×D))):Prop:=∀(pins:Pins) (s:Shared) (σ:L2.St) (H:Hp) (J:List Addr) (r:DSt) (S:List Cell) (Q:List (Value×Value)->Shared->Prop) (E:Value->Shared->Prop),
 At X pins σ H J r S s->MtP X pins σ H J (f r S) Q E->wpAny (model X.prog X.w) X.A (evalPairs (pairTrees keys values X.env pos)) Q E s
theorem zT{pos:Pos}:PPd X pos [] [] rA:=fun pins s σ H J r S Q E I m=>pairTrees_nil_walk (m [] s ⟨[],H,J,I.inv,.nil,Ext.refl _ _,I.st,.nil,.nil⟩)
theorem uP{pos:Pos}{k v:Expr}{ks:List (Option Expr)}{vs:List Expr}{fk fv:DSt->M D}{f:DSt->M (List (D×D))}(hk:PEd X k fk)(hv:PEd X v fv)(hr:PPd X pos ks vs f):PPd X pos (some k :: ks) (v :: vs) (il fk fv f):=by
 intro pins s σ H J r S Q E I m;refine pairTrees_cons_walk (hk pins s σ H J r S _ E I ?_);unfold il M.bind at m;cases e1:fk r S with
 |bad=>rw[e1] at m;exact m
 |exc c S1=>rw[e1] at m;exact m
 |ok x S1=>
  rw[e1] at m;intro u1 s1 ⟨v1,H1,I1,r1,J1,x1,rs1,rv1⟩;have m:=MtP.ext x1 m;dsimp only at m;refine hv pins s1 σ H1 J1 r S1 _ E ⟨I1,I.loc.ext x1,rs1⟩ ?_;cases e2:fv r S1 with
  |bad=>rw[e2] at m;exact m
  |exc c S2=>rw[e2] at m;exact m
  |ok y S2=>
   rw[e2] at m;intro u2 s2 ⟨v2,H2,I2,r2,J2,x2,rs2,rv2⟩;have m:=MtP.ext x2 m;dsimp only at m;refine hr pins s2 σ H2 J2 r S2 _ E ⟨I2,(I.loc.ext x1).ext x2,rs2⟩ ?_;cases e3:f r S2 with
   |bad=>rw[e3] at m;exact m
   |exc c S3=>rw[e3] at m;exact m
   |ok ps S3=>
    rw[e3] at m;intro us s3 ⟨vs3,H3,J3,I3,rel,x3,rs3,ra,rb⟩;exact m _ s3 ⟨(v1,v2) :: vs3,H3,J3,I3,.cons ⟨r1,r2⟩ rel,x3,rs3,.cons ((rv1.ext x2).ext x3) ra,.cons (rv2.ext x3) rb⟩
def nY:List (D×D)->Option (List (Key×D))
 |[]=>some []
 |(k,d) :: r=>match hZ k,nY r with
  |some k',some t=>some ((k',d) :: t)
  |_,_=>none
def sS(kvs more:List (Key×D)):List (Key×D):=more.foldl (fun acc kv=>qE acc kv.1 kv.2) kvs
def oY(f:DSt->M (List (D×D))):DSt->M D:=fun r S=>match f r (S++[.dic []]) with
 |.ok ps S1=>(match dD S1 S.length,nY ps with
  |some [],some kvs=>cif (kvs.length<=15) (.ok (.ob S.length) (S1.set S.length (.dic (sS [] kvs)))) .bad
  |_,_=>.bad)
 |.exc c S1=>.exc c S1
 |.bad=>.bad
theorem rR{K:PySem.W.Frag}{H:Hp}{J:List Addr}:∀{ps:List (D×D)}{vs:List (V×V)}{kvs:List (Key×D)},nY ps=some kvs->RepVs K H J (ps.map (·.1)) (vs.map (·.1))->RepVs K H J (ps.map (·.2)) (vs.map (·.2))->
  ∃ws:List (Key×V),vs=ws.map (fun kv=>(kV kv.1,kv.2))/\RepPs K H J kvs ws/\ws.length=kvs.length
 |[],vs,kvs,e,ra,rb=>by
  cases e;have:=ra.length;cases vs with
  |nil=>exact⟨[],rfl,rfl,rfl⟩
  |cons v vs=>simp at this
 |(k,d) :: r,vs,kvs,e,ra,rb=>by
  cases vs with
  |nil=>have:=ra.length;simp at this
  |cons v vs=>
   unfold nY at e;cases e1:hZ k with
   |none=>rw[e1] at e;cases e
   |some k'=>
    rw[e1] at e;cases e2:nY r with
    |none=>rw[e2] at e;cases e
    |some t=>
     rw[e2] at e;cases e;rw[List.map_cons,List.map_cons] at ra rb;unfold RepVs at ra rb;obtain⟨a1,a2,a3,a4,a5⟩:=ra;obtain⟨b1,b2,b3,b4,b5⟩:=rb
     injection a3 with a6 a7
     injection b3 with b6 b7
     subst a6 a7 b6 b7;obtain⟨ws,h1,h2,h3⟩:=rR e2 a5 b5;refine⟨(k',v.2) :: ws,?_,⟨v.2,ws,rfl,b4,h2⟩,by simp[h3]⟩;rw[List.map_cons,<-h1,<-jp e1 a4]
theorem RepPs.merge{K:PySem.W.Frag}{H:Hp}{J:List Addr}:∀{more:List (Key×D)}{ms:List (Key×V)}{kvs:List (Key×D)}{ws:List (Key×V)},RepPs K H J more ms->RepPs K H J kvs ws->RepPs K H J (sS kvs more) (nc ws ms)
 |[],_,kvs,ws,h,g=>by
  have h':_=[]:=h;subst h';exact g
 |(k,d) :: r,ms,kvs,ws,h,g=>by
  obtain⟨v,t,rfl,h2,h3⟩:=h;exact RepPs.merge (kvs:=qE kvs k d) (ws:=ju ws k v) h3 (g.put h2 k)
theorem zS{pos:Pos}{keys:List (Option Expr)}{values:List Expr}{f:DSt->M (List (D×D))}(h:PPd X pos keys values f)(hall:keys.all (·.isSome)=true:=by rfl)(hl:keys.length=values.length:=by rfl)(h0:keys≠[]:=by simp)
  (h15:keys.length<=15:=by decide):PEd X (.Dict keys values pos) (oY f):=by
 intro pins s σ H J r S Q E I m;have hn:=I.inv.hok.fresh (Nat.le_refl s.heap.objs.size);have I1:=I.inv.laid (a:=s.heap.objs.size) (o:=.dK []) (h':=s.heap.push { cls:=.type "dict",data:=.dict #[] }) (t':=s.toks) (fun _ _ q=>Heap.get?_push_of_some _ q) (Nat.le_refl _) (uQ s.heap I.inv.big);have x1:Ext H J (upd H s.heap.objs.size (.dK [])) (J++[s.heap.objs.size]):=(Ext.new hn).snoc _;have rs1:RepS X.K (upd H s.heap.objs.size (.dK [])) (J++[s.heap.objs.size]) (S++[.dic []]):=I.st.push hn ⟨[],bE,rfl⟩;have hJ:(J++[s.heap.objs.size])[S.length]?=some s.heap.objs.size:=by rw[<-I.st.len];simp
 refine wpAny_Dict_walk (knd:=cW X.prog X.w) hall hl h0 h15 (h pins _ σ _ _ r (S++[.dic []]) _ E ⟨I1,I.loc.ext x1,rs1⟩ ?_);unfold oY at m;cases e1:f r (S++[.dic []]) with
 |bad=>rw[e1] at m;exact m
 |exc c S1=>rw[e1] at m;exact fun u s' x=>m u s' (x.ext x1)
 |ok ps S1=>
  rw[e1] at m;have m:=Mt.ext x1 m;intro us s2 ⟨vs,H2,J2,I2,rel,x2,rs2,ra,rb⟩;have m:=Mt.ext x2 m;dsimp only at m;have hJ2:J2[S.length]?=some s.heap.objs.size:=by
   obtain⟨mm,em⟩:=x2.pre;rw[em,List.getElem?_append_left (List.getElem?_eq_some_iff.mp hJ).1];exact hJ
  cases e2:dD S1 S.length with
  |none=>rw[e2] at m;exact m.elim
  |some kvs0=>
   rw[e2] at m;cases kvs0 with
   |cons p q=>exact m.elim
   |nil=>
    cases e3:nY ps with
    |none=>rw[e3] at m;exact m.elim
    |some kvs=>
     rw[e3] at m;dsimp only at m;unfold cif at m;split at m
     ·rename_i hz;obtain⟨ws,rfl,rp,hwl⟩:=rR e3 ra rb;obtain⟨w0,hv,rp0⟩:=rs2.dic e2 hJ2;have rp0':w0=[]:=rp0;subst rp0';obtain⟨rs,c,rk⟩:=pM (P:=X.prog) (w:=X.w) rel;obtain⟨z,hd,vs0,r0,dd⟩:=y7 I2.hok hv;cases r0;refine⟨rs,c,dd,fun h' dd' hs=>?_⟩;have hz':(nc [] ws).length<=sizeLine:=by
       have h1:=lg ws [];rw[List.length_nil] at h1;rw[sizeLine_eq];omega
      have he:∃q,h'.get? s.heap.objs.size=some q:=let ⟨q,_,_,hq,_⟩:=dd';⟨q,hq⟩
      have x':Ext H2 J2 (upd H2 s.heap.objs.size (.dK (nc [] ws))) J2:=Ext.write hv rfl;exact m _ _ ⟨.ref s.heap.objs.size,_,oM I2 (by rw[hv];exact True.intro) hs he (uW hz' hd (rk.merge .nil) dd'),rfl,J2,x',rs2.write hJ2 ⟨_,bE,(rp.ext x').merge rfl⟩,.ob hJ2⟩
     ·exact m.elim
end
end DL
namespace DL
open PySem PySem.Spec PyProof.Rows L2
theorem szM{n:Nat}(h:n<=1000000):n<sizeLine:=Nat.lt_of_le_of_lt h (by rw[sizeLine_eq];decide)
section
variable{α β:Type}{S:List Cell}{r:DSt}
@[simp] theorem aw(m:M α)(k:α->M β):(m.bind k) S=match m S with
 |.ok a S'=>k a S'
 |.exc c S'=>.exc c S'
 |.bad=>.bad:=rfl
@[simp] theorem kq(a:α):(M.ret a) S=.ok a S:=rfl
@[simp] theorem jR(i:Nat):aa i r S=match r[i]? with
 |some (some d)=>.ok d S
 |_=>.bad:=rfl
@[simp] theorem ug(d:D):dC d r S=.ok d S:=rfl
@[simp] theorem DP(g:D->D->M D)(fa fb:DSt->M D):dOp g fa fb r=(fa r).bind fun x=>(fb r).bind fun y=>g x y:=rfl
@[simp] theorem DQ(g:D->M D)(fa:DSt->M D):dUn g fa r=(fa r).bind g:=rfl
@[simp] theorem CZ(g:List D->M D)(ft:DSt->M (List D)):am g ft r=(ft r).bind g:=rfl
@[simp] theorem Dz:aj r=M.ret []:=rfl
@[simp] theorem CV(f:DSt->M D)(g:DSt->M (List D)):ac f g r=(f r).bind fun x=>(g r).bind fun xs=>M.ret (x :: xs):=rfl
@[simp] theorem CY(f:DSt->M D):ao f r=(f r).bind bof:=rfl
@[simp] theorem CD(b:Bool):bof (.bl b) S=.ok b S:=rfl
@[simp] theorem dc(f:DSt->M D):bU f r=(f r).bind qD:=rfl
@[simp] theorem Ci(b:Bool):qD (.bl b) S=.ok b S:=rfl
@[simp] theorem cX(t u:DSt->M Bool):dr t u r=(t r).bind fun c=>if c=true then u r else M.ret false:=rfl
@[simp] theorem eQ(t u:DSt->M Bool):dOr t u r=(t r).bind fun c=>if c=true then M.ret true else u r:=rfl
@[simp] theorem dl(t:DSt->M Bool):dh t r=(t r).bind fun c=>M.ret (!c):=rfl
@[simp] theorem ia(fa fb:DSt->M D):j1 fa fb r=(ao fa r).bind fun c=>if c=true then fb r else M.ret (.bl false):=rfl
@[simp] theorem DJ(fa fb:DSt->M D):DG fa fb r=(ao fa r).bind fun c=>if c=true then M.ret (.bl true) else fb r:=rfl
@[simp] theorem De(fa:DSt->M D):y8 fa r=(ao fa r).bind fun c=>M.ret (.bl (!c)):=rfl
@[simp] theorem yJ(t:DSt->M Bool)(fa fb:DSt->M D):dIf t fa fb r=(t r).bind fun c=>if c=true then fa r else fb r:=rfl
@[simp] theorem zu(g g':D->D->M D)(fa fb fc:DSt->M D):nz g g' fa fb fc r=(fa r).bind fun x=>(fb r).bind fun y=>((g x y).bind bof).bind fun k=>if k=true then (fc r).bind fun z=>g' y z else M.ret (.bl false):=rfl
@[simp] theorem DE(ft:DSt->M (List D)):cf ft r=(ft r).bind lx:=rfl
@[simp] theorem DA(ft:DSt->M (List D)):bW ft r=(ft r).bind nr:=rfl
@[simp] theorem lh(g:D->Option Int->Option Int->M D)(fe:DSt->M D)(fl fh:DSt->M (Option Int)):dSl g fe fl fh r=(fe r).bind fun x=>(fl r).bind fun l=>(fh r).bind fun h=>g x l h:=rfl
@[simp] theorem dZ:bN r=M.ret none:=rfl
@[simp] theorem fC(f:DSt->M D):bQ f r=(f r).bind yr:=rfl
@[simp] theorem fY(i:Int):yr (.int i)=M.ret (some i):=rfl
@[simp] theorem DO(T:String)(f:DSt->M D):dIs T f r=(f r).bind (isD T):=rfl
@[simp] theorem nL(f:DSt->M D):dWk f r=(f r).bind lr:=rfl
@[simp] theorem Dv:j6 r=M.ret true:=rfl
@[simp] theorem Dj(C:Addr)(ns:List Str)(i:Nat)(fo:DSt->M D):aB C ns i fo r=(fo r).bind fun x=>(ir C ns x).bind fun p=>Ae p.2[i]?:=rfl
@[simp] theorem DF(d:D):Ae (some d) S=.ok d S:=rfl
@[simp] theorem CW(C:Addr)(ns:List Str)(F:List D->M D)(fo:DSt->M D)(ft:DSt->M (List D)):aP C ns F fo ft r=(fo r).bind fun x=>(ir C ns x).bind fun _=>(ft r).bind fun xs=>F (x :: xs):=rfl
@[simp] theorem DN(g:D->List D->M D)(fo:DSt->M D)(ft:DSt->M (List D)):dBM g fo ft r=(fo r).bind fun x=>(As x).bind fun _=>(ft r).bind fun xs=>g x xs:=rfl
@[simp] theorem Dq(g:D->List D->M D)(fo:DSt->M D)(ft:DSt->M (List D)):xO g fo ft r=(fo r).bind fun x=>(zY x).bind fun _=>(ft r).bind fun xs=>g x xs:=rfl
@[simp] theorem Dd:j0 r S=.ok (.ob S.length) (S++[.dic []]):=rfl
@[simp] theorem DS(i:Nat)(d:D):gN i d r=some (r.set i (some d)):=rfl
theorem cg{n:Nat}{xs:List D}(h:S[n]?=some (.lst xs)):cQ S n=some xs:=by unfold cQ;rw[h]
@[simp] theorem Df{n:Nat}:As (.ob n) S=match cQ S n with
 |some _=>.ok () S
 |none=>.bad:=rfl
@[simp] theorem Di{n:Nat}:zY (.ob n) S=match dD S n with
 |some _=>.ok () S
 |none=>.bad:=rfl
@[simp] theorem cy(i j:Int):bP (.int i) (.int j) S=.ok (.int (i+j)) S:=rfl
@[simp] theorem rY(i j:Int):qx (.int i) (.int j) S=.ok (.int (i-j)) S:=cq trivial
theorem ie{i j:Int}(h:CMul i j):gX (.int i) (.int j) S=.ok (.int (i * j)) S:=cq h
@[simp] theorem Dp(j:Int):gX (.int 2) (.int j) S=.ok (.int (2 * j)) S:=ie (.inl ⟨by decide,by decide⟩)
theorem cH{i j:Int}(h:0<j):iP (.int i) (.int j) S=.ok (.int (i % j)) S:=cq h
theorem vk{i j:Int}(h:Bt i j):ye (.int i) (.int j) S=.ok (.int (i / j)) S:=cq h
@[simp] theorem qA(i j:Int):ltD (.int i) (.int j) S=.ok (.bl (decide (i<j))) S:=rfl
@[simp] theorem xD(i j:Int):leD (.int i) (.int j) S=.ok (.bl (decide (i<=j))) S:=rfl
@[simp] theorem Cg(i j:Int):gtD (.int i) (.int j) S=.ok (.bl (decide (j<i))) S:=rfl
@[simp] theorem vY(i j:Int):geD (.int i) (.int j) S=.ok (.bl (decide (j<=i))) S:=rfl
@[simp] theorem jB(i j:Int):eqD (.int i) (.int j) S=.ok (.bl (decide (i=j))) S:=z7 S i j
@[simp] theorem iN(i j:Int):neD (.int i) (.int j) S=.ok (.bl (!decide (i=j))) S:=Ab S i j
@[simp] theorem Bb(i j:Int):xR [.int i,.int j] S=.ok (.int (min i j)) S:=by
 show R.ok (D.int (if j<i then j else i)) S=_;congr 2;omega
@[simp] theorem Cp(i j:Int):B2 [.int i,.int j] S=.ok (.int (max i j)) S:=by
 show R.ok (D.int (if j > i then j else i)) S=_;congr 2;omega
theorem ba{xs:List D}{i:Nat}{d:D}(h:xs[i]?=some d):ixD (.tup xs) (.int (i:Int)) S=.ok d S:=by
 simp only[ixD,gu,sN h]
theorem gR{xs:List D}{n i:Nat}{d:D}(hn:S[n]?=some (.lst xs))(h:xs[i]?=some d):ixD (.ob n) (.int (i:Int)) S=.ok d S:=by
 simp only[ixD,gu,cg hn,sN h]
theorem kh{xs:List D}{n:Nat}(hn:S[n]?=some (.lst xs)):bC [.ob n] S=.ok (.int xs.length) S:=by
 simp only[bC,gu,cg hn]
@[simp] theorem cm(xs:List D):bC [.tup xs] S=.ok (.int xs.length) S:=rfl
@[simp] theorem A2(xs:List D):fH [.tup xs] S=.ok (.tup xs) S:=rfl
theorem eG{xs:List D}{n:Nat}(hn:S[n]?=some (.lst xs)):fH [.ob n] S=.ok (.tup xs) S:=by
 simp only[fH,gu,cg hn]
theorem mv{xs:List D}(h:xs.length<=1000000):lx xs S=.ok (.tup xs) S:=cq (Nat.le_of_lt (szM h))
theorem uC{xs:List D}(h:xs.length<=1000000):nr xs S=.ok (.ob S.length) (S++[.lst xs]):=cq (Nat.le_of_lt (szM h))
theorem uH{xs:List D}{n:Nat}{d:D}(hn:S[n]?=some (.lst xs))(h:xs.length<1000000):jO (.ob n) [d] S=.ok .non (S.set n (.lst (xs++[d]))):=by
 simp only[jO,cg hn];exact cq (szM (by omega))
theorem A5{xs ys:List D}{n:Nat}(hn:S[n]?=some (.lst xs))(h:xs.length+ys.length<=1000000):qR (.ob n) [.tup ys] S=.ok .non (S.set n (.lst (xs++ys))):=by
 simp only[qR,cg hn];exact cq (Nat.le_of_lt (szM h))
@[simp] theorem Da:bF r S=some (.nx r,S):=rfl
@[simp] theorem sk(m:M α)(k:α->List Cell->RSt):cx m r k S=match m S with
 |.ok a S'=>k a S'
 |.exc c S'=>some (.xc c r,S')
 |.bad=>none:=rfl
@[simp] theorem px(t u:TSt):aJ t u r S=match t r S with
 |some (.nx r',S')=>u r' S'
 |o=>o:=rfl
@[simp] theorem Do(f:DSt->M D):bM f r=cx (f r) r fun d S=>some (.rt d,S):=rfl
@[simp] theorem Dc(f:DSt->M D):bz f r=cx (f r) r fun _ S=>some (.nx r,S):=rfl
@[simp] theorem DR(c:DSt->M Bool)(t u:TSt):sIf c t u r=cx (c r) r fun b S=>if b=true then t r S else u r S:=rfl
@[simp] theorem Du(f:DSt->M D)(g:TGd):cB f g r=cx (f r) r fun d S=>match g d r with
 |some r'=>some (.nx r',S)
 |none=>none:=rfl
@[simp] theorem DK(C:Addr)(ns:List Str)(i:Nat)(fo fe:DSt->M D):jE C ns i fo fe r=cx (fe r) r fun d=>cx (fo r) r fun x S1=>match ir C ns x S1 with
 |.ok p S2=>some (.nx r,S2.set p.1 (.ins C ns (p.2.set i d)))
 |_=>none:=rfl
@[simp] theorem Db(C:Addr)(ns:List Str)(f:Str)(fo fe:DSt->M D):cL C ns f fo fe r=cx (fe r) r fun d=>cx (fo r) r fun x S1=>match ir C ns x S1 with
 |.ok p S2=>some (.nx r,S2.set p.1 (.ins C (ns++[f]) (p.2++[d])))
 |_=>none:=rfl
@[simp] theorem Dt(g:D->D->D->List Cell->Option (List Cell))(fo fi fe:DSt->M D):uV g fo fi fe r=cx (fe r) r fun d=>cx (fo r) r fun x=>cx (fi r) r fun y S=>match g x y d S with
 |some S'=>some (.nx r,S')
 |none=>none:=rfl
@[simp] theorem Cz(S0:List Cell)(d:D):fin S0 (some (.rt d,S))=.ok d S:=rfl
@[simp] theorem CS(S0:List Cell):fin S0 (some (.nx r,S))=.ok .non S:=rfl
@[simp] theorem CN(S0:List Cell)(c:Addr):fin S0 (some (.xc c r,S))=.exc c S:=rfl
theorem kL{S0 G:List Cell}{d:D}(h:wfD S0.length d):cN S0 (some (.rt d,S0++G))=.ok d S0:=if_pos ⟨⟨G,rfl⟩,h⟩
theorem bB{S0:List Cell}{d:D}(h:wfD S0.length d):cN S0 (some (.rt d,S0))=.ok d S0:=if_pos ⟨⟨[],by simp⟩,h⟩
end
def Fr(fp:List Nat)(S S':List Cell):Prop:=S.length<=S'.length/\∀i,i<S.length->i∉fp->S'[i]?=S[i]?
theorem Fr.refl(fp:List Nat)(S:List Cell):Fr fp S S:=⟨Nat.le_refl _,fun _ _ _=>rfl⟩
theorem Fr.trans{fp fq:List Nat}{S S1 S2:List Cell}(a:Fr fp S S1)(b:Fr fq S1 S2)(h:∀i∈fq,i<S.length->i∈fp):Fr fp S S2:=
 ⟨Nat.le_trans a.1 b.1,fun i hi hn=>(b.2 i (Nat.lt_of_lt_of_le hi a.1) fun hq=>hn (h i hq hi)).trans (a.2 i hi hn)⟩
theorem Fr.tr{fp:List Nat}{S S1 S2:List Cell}(a:Fr fp S S1)(b:Fr fp S1 S2):Fr fp S S2:=a.trans b fun _ h _=>h
theorem Fr.set{fp:List Nat}{S:List Cell}{n:Nat}{c:Cell}(h:n∈fp):Fr fp S (S.set n c):=
 ⟨by rw[List.length_set];exact Nat.le_refl _,fun i _ hn=>List.getElem?_set_ne fun e:n=i=>hn (e ▸ h)⟩
theorem Fr.push{fp:List Nat}{S:List Cell}{c:List Cell}:Fr fp S (S++c):=
 ⟨by rw[List.length_append];omega,fun i hi _=>List.getElem?_append_left hi⟩
theorem Fr.get{fp:List Nat}{S S':List Cell}{i:Nat}{c:Cell}(a:Fr fp S S')(h:S[i]?=some c)(hn:i∉fp):S'[i]?=some c:=
 (a.2 i (List.getElem?_eq_some_iff.mp h).1 hn).trans h
theorem Fr.mono{fp fq:List Nat}{S S':List Cell}(a:Fr fp S S')(h:∀i∈fp,i<S.length->i∈fq):Fr fq S S':=⟨a.1,fun i hi hn=>a.2 i hi fun z=>hn (h i z hi)⟩
theorem bx{S:List Cell}{i:Nat}{c:Cell}(h:S[i]?=some c):i<S.length:=(List.getElem?_eq_some_iff.mp h).1
theorem dB{S:List Cell}{i:Nat}{c d:Cell}(h:S[i]?=some c):(S.set i d)[i]?=some d:=by
 rw[List.getElem?_set];simp[bx h]
theorem cG{S:List Cell}{i j:Nat}{c d:Cell}(h:S[j]?=some c)(hn:i≠j):(S.set i d)[j]?=some c:=by rw[List.getElem?_set_ne hn];exact h
theorem aG{S G:List Cell}{j:Nat}{c:Cell}(h:S[j]?=some c):(S++G)[j]?=some c:=by rw[List.getElem?_append_left (bx h)];exact h
theorem ci{S:List Cell}{c:Cell}:(S++[c])[S.length]?=some c:=by simp
section
variable{S S1 S2:List Cell}{r r1:DSt}{d x y:D}{n:Nat}{C:Addr}{ns:List Str}{ds:List D}
theorem av{t u:TSt}(h:t r S=some (.nx r1,S1)):aJ t u r S=u r1 S1:=by rw[px,h]
theorem cZ{t u:TSt}(h:t r S=some (.rt d,S1)):aJ t u r S=some (.rt d,S1):=by rw[px,h]
theorem bD{fe:DSt->M D}{i:Nat}(h:fe r S=.ok d S1):cB fe (gN i) r S=some (.nx (r.set i (some d)),S1):=by simp[h]
theorem aY{fe:DSt->M D}(h:fe r S=.ok d S1):bz fe r S=some (.nx r,S1):=by simp[h]
theorem aR{fe:DSt->M D}(h:fe r S=.ok d S1):bM fe r S=some (.rt d,S1):=by simp[h]
theorem A9{c:DSt->M Bool}{t u:TSt}{b:Bool}(h:c r S=.ok b S1):sIf c t u r S=if b=true then t r S1 else u r S1:=by simp[h]
theorem bf{c:DSt->M Bool}{t u:TSt}(h:c r S=.ok true S1):sIf c t u r S=t r S1:=by rw[A9 h,if_pos rfl]
theorem ay{c:DSt->M Bool}{t u:TSt}(h:c r S=.ok false S1):sIf c t u r S=u r S1:=by rw[A9 h,if_neg (by decide)]
theorem Ce{i:Nat}{fo fe:DSt->M D}(h1:fe r S=.ok d S1)(h2:fo r S1=.ok (.ob n) S2)(h3:S2[n]?=some (.ins C ns ds)):jE C ns i fo fe r S=some (.nx r,S2.set n (.ins C ns (ds.set i d))):=by
 simp[h1,h2,kI h3]
theorem jH{f:Str}{fo fe:DSt->M D}(h1:fe r S=.ok d S1)(h2:fo r S1=.ok (.ob n) S2)(h3:S2[n]?=some (.ins C ns ds)):cL C ns f fo fe r S=some (.nx r,S2.set n (.ins C (ns++[f]) (ds++[d]))):=by
 simp[h1,h2,kI h3]
theorem we{i:Nat}{fo fe:DSt->M D}{a b:Int}{ds':List D}{S3:List Cell}(h2:fo r S=.ok (.ob n) S1)(h3:S1[n]?=some (.ins C ns ds))(h4:ds[i]?=some (.int a))(h1:fe r S1=.ok (.int b) S3)(h5:S3[n]?=some (.ins C ns ds')) :
  n7 C ns i fo fe r S=some (.nx r,S3.set n (.ins C ns (ds'.set i (.int (a+b))))):=by
 unfold n7;simp[h2,kI h3,h4,h1,kI h5]
theorem tC{g:D->D->D->List Cell->Option (List Cell)}{fo fi fe:DSt->M D}{S3 S4:List Cell}(h1:fe r S=.ok d S1)(h2:fo r S1=.ok x S2)(h3:fi r S2=.ok y S3)(h4:g x y d S3=some S4):uV g fo fi fe r S=some (.nx r,S4):=by
 simp[h1,h2,h3,h4]
theorem bK{i:Nat}{fo:DSt->M D}(h:fo r S=.ok (.ob n) S1)(h3:S1[n]?=some (.ins C ns ds))(hd:ds[i]?=some d):aB C ns i fo r S=.ok d S1:=by
 simp[h,kI h3,hd]
theorem aK{F:List D->M D}{fo:DSt->M D}{ft:DSt->M (List D)}{xs:List D}{a:R D}(h:fo r S=.ok (.ob n) S1)(h3:S1[n]?=some (.ins C ns ds))(h4:ft r S1=.ok xs S2)(h5:F (.ob n :: xs) S2=a):aP C ns F fo ft r S=a:=by
 simp[h,kI h3,h4,h5]
theorem ax{F:List D->M D}{ft:DSt->M (List D)}{xs:List D}{a:R D}(h4:ft r S=.ok xs S1)(h5:F xs S1=a):am F ft r S=a:=by simp[h4,h5]
theorem au{g:D->D->M D}{fa fb:DSt->M D}{a:R D}(h1:fa r S=.ok x S1)(h2:fb r S1=.ok y S2)(h3:g x y S2=a):dOp g fa fb r S=a:=by simp[h1,h2,h3]
theorem ag{f:DSt->M D}{g:DSt->M (List D)}{xs:List D}(h1:f r S=.ok x S1)(h2:g r S1=.ok xs S2):ac f g r S=.ok (x :: xs) S2:=by simp[h1,h2]
theorem ai:aj r S=.ok [] S:=rfl
theorem az{f:DSt->M D}{b:Bool}(h:f r S=.ok (.bl b) S1):ao f r S=.ok b S1:=by simp[h]
theorem ld{g:D->List D->M D}{fo:DSt->M D}{ft:DSt->M (List D)}{xs ys:List D}{a:R D}(h:fo r S=.ok (.ob n) S1)(h3:S1[n]?=some (.lst ys))(h4:ft r S1=.ok xs S2)(h5:g (.ob n) xs S2=a):dBM g fo ft r S=a:=by
 simp[h,cg h3,h4,h5]
theorem B6{g:D->List D->M D}{fo:DSt->M D}{ft:DSt->M (List D)}{xs:List D}{kvs:List (Key×D)}{a:R D}(h:fo r S=.ok (.ob n) S1)(h3:S1[n]?=some (.dic kvs))(h4:ft r S1=.ok xs S2)(h5:g (.ob n) xs S2=a):xO g fo ft r S=a:=by
 simp[h,eS h3,h4,h5]
theorem bL{ft:DSt->M (List D)}{xs:List D}(h:ft r S=.ok xs S1)(hl:xs.length<=1000000):cf ft r S=.ok (.tup xs) S1:=by simp[h,mv hl]
theorem b9{ft:DSt->M (List D)}{xs:List D}(h:ft r S=.ok xs S1)(hl:xs.length<=1000000):bW ft r S=.ok (.ob S1.length) (S1++[.lst xs]):=by simp[h,uC hl]
theorem bj{a b:Str}{c:Bool}(h1:(PyData.str a).canLay0=true:=by decide +kernel)(h2:(PyData.str b).canLay0=true:=by decide +kernel)(h3:decide (a=b)=c:=by decide +kernel):eqD (.str a) (.str b) S=.ok (.bl c) S:=by
 subst h3;have h:(PyData.str a).eqv (.str b)=decide (a=b):=by
  by_cases e:a=b
  ·subst e;simp[PyData.eqv]
  ·simp[PyData.eqv,e]
 simp only[eqD,pD,h1,h2,if_true,h]
theorem y3{a b:Str}{c:Bool}(h1:(PyData.str a).canLay0=true:=by decide +kernel)(h2:(PyData.str b).canLay0=true:=by decide +kernel)(h3:(!decide (a=b))=c:=by decide +kernel):neD (.str a) (.str b) S=.ok (.bl c) S:=by
 subst h3;have h:(PyData.str a).eqv (.str b)=decide (a=b):=by
  by_cases e:a=b
  ·subst e;simp[PyData.eqv]
  ·simp[PyData.eqv,e]
 simp only[neD,pD,h1,h2,if_true,h]
end
end DL
namespace DL
open PySem PySem.Spec PyProof.Rows L2
section
variable{S S1 S2:List Cell}{r r1:DSt}{d x y:D}{n i:Nat}{C:Addr}{ns:List Str}{ds ds':List D}{fo fe:DSt->M D}
theorem aS{S:List Cell}{i:Nat}{c:Cell}(h:i=S.length):(S++[c])[i]?=some c:=by subst h;exact ci
structure Ch(n:Nat)(c:Cell)(S S':List Cell):Prop where
 at_:S'[n]?=some c
 fr:Fr [n] S S'
 len:S'.length=S.length
theorem Ch.old{m:Nat}{c c':Cell}(h:Ch n c S S1)(hm:S[m]?=some c')(hn:n≠m):S1[m]?=some c':=h.fr.get hm (by simpa using Ne.symm hn)
theorem Ch.set{c c':Cell}(h:S[n]?=some c'):Ch n c S (S.set n c):=⟨dB h,Fr.set (by simp),by simp⟩
theorem gA(h1:fe r S=.ok d S1)(h2:fo r S1=.ok (.ob n) S1)(h3:S1[n]?=some (.ins C ns ds))(h4:ds.set i d=ds'):∃S2,jE C ns i fo fe r S=some (.nx r,S2)/\Ch n (.ins C ns ds') S1 S2:=by
 subst h4;exact⟨_,Ce h1 h2 h3,Ch.set h3⟩
theorem wo{a b:Int}(h2:fo r S=.ok (.ob n) S)(h3:S[n]?=some (.ins C ns ds))(h5:ds[i]?=some (.int a))(h1:fe r S=.ok (.int b) S)(h4:ds.set i (.int (a+b))=ds'):∃S2,n7 C ns i fo fe r S=some (.nx r,S2)/\Ch n (.ins C ns ds') S S2:=by
 subst h4;exact⟨_,we h2 h3 h5 h1 h3,Ch.set h3⟩
theorem tF{xs:List D}{ft:DSt->M (List D)}(h1:fo r S=.ok (.ob n) S)(h2:S[n]?=some (.lst xs))(h3:ft r S=.ok [d] S)(hz:xs.length<1000000):∃S2,dBM jO fo ft r S=.ok .non S2/\Ch n (.lst (xs++[d])) S S2:=
 ⟨_,ld h1 h2 h3 (uH h2 hz),Ch.set h2⟩
theorem yE{xs ys:List D}{ft:DSt->M (List D)}(h1:fo r S=.ok (.ob n) S)(h2:S[n]?=some (.lst xs))(h3:ft r S=.ok [.tup ys] S)(hz:xs.length+ys.length<=1000000):∃S2,dBM qR fo ft r S=.ok .non S2/\Ch n (.lst (xs++ys)) S S2:=
 ⟨_,ld h1 h2 h3 (A5 h2 hz),Ch.set h2⟩
theorem Ch.fp{fp:List Nat}{c:Cell}(h:Ch n c S S1)(hn:n∈fp):Fr fp S S1:=h.fr.mono fun i hi _=>by
 have:i=n:=by simpa using hi
 rw[this];exact hn
end
theorem lM{tg:TGd}{ti:DSt->M Bool}{fe:DSt->M D}{r0:DSt}(kp:D->Bool)(h:D->D)(g:Option (Nat×List D))(S:List Cell)(hg:gok g S):∀(items ys:List D),
  (∀x,x∈items->∃r1,tg x r0=some r1/\(∀zs,ti r1 (S++[.lst zs])=.ok (kp x) (S++[.lst zs]))/\(kp x=true->∀zs,fe r1 (S++[.lst zs])=.ok (h x) (S++[.lst zs])))->ys.length+items.length<=1000000->
  fT tg ti fe S.length g r0 items (S++[.lst ys])=.ok () (S++[.lst (ys++(items.filter kp).map h)])
 |[],ys,_,_=>by simp[fT]
 |x :: xs,ys,hx,hl=>by
  obtain⟨r1,h1,h2,h3⟩:=hx x (by simp);have hgk:∀zs,gok g (S++[Cell.lst zs]):=fun zs=>by
   cases g with
   |none=>trivial
   |some p=>exact aG hg
  unfold fT;rw[h1];dsimp only;rw[h2];cases hk:kp x with
  |false=>
   dsimp only;rw[if_pos (hgk _),lM kp h g S hg xs ys (fun y hy=>hx y (List.mem_cons_of_mem _ hy)) (by simp at hl;omega)];rw[List.filter_cons_of_neg (by simp[hk])]
  |true=>
   have hset:(S++[Cell.lst ys]).set S.length (.lst (ys++[h x]))=S++[.lst (ys++[h x])]:=by
    rw[List.set_append_right _ _ (Nat.le_refl _)];simp
   dsimp only;rw[h3 hk];dsimp only;rw[List.getElem?_append_right (Nat.le_refl _)];simp only[Nat.sub_self,List.getElem?_cons_zero];rw[hset,cq ⟨szM (by simp at hl;omega),hgk _⟩,lM kp h g S hg xs (ys++[h x]) (fun y hy=>hx y (List.mem_cons_of_mem _ hy)) (by simp at hl ⊢;omega)];rw[List.filter_cons_of_pos hk,List.map_cons,List.append_assoc];rfl
theorem iR{f:DSt->M Wk}{tg:TGd}{ti:DSt->M Bool}{fe:DSt->M D}{own:Nat}{caps:List Nat}{r:DSt}{S S1:List Cell}{w:Wk}(kp:D->Bool)(h:D->D)(h1:f r S=.ok w S1)(hg:gok w.guard S1)(hz:w.items.length<=1000000)
  (hx:∀x,x∈w.items->∃r1,tg x (iq own caps r)=some r1/\(∀zs,ti r1 (S1++[.lst zs])=.ok (kp x) (S1++[.lst zs]))/\(kp x=true->∀zs,fe r1 (S1++[.lst zs])=.ok (h x) (S1++[.lst zs]))) :
  iy f tg ti fe own caps r S=.ok (.ob S1.length) (S1++[.lst ((w.items.filter kp).map h)]):=by
 unfold iy;rw[aw,h1];dsimp only;rw[lM kp h w.guard S1 hg w.items [] hx (by simpa using hz)];rfl
theorem Bi{c:DSt->M Bool}{b:TSt}{k:Nat}{r:DSt}{S S1:List Cell}(h:c r S=.ok false S1):fM c b (k+1) r S=some (.nx r,S1):=by
 unfold fM;rw[h]
theorem Ct{c:DSt->M Bool}{b:TSt}{k:Nat}{r r2:DSt}{S S1 S2:List Cell}(h:c r S=.ok true S1)(hb:b r S1=some (.nx r2,S2)):fM c b (k+1) r S=fM c b k r2 S2:=by
 rw[fM];dsimp only;rw[h];dsimp only;rw[hb]
theorem m0{f:DSt->M Wk}{tg:TGd}{b:TSt}{r:DSt}{S S1:List Cell}{w:Wk}(h:f r S=.ok w S1):qC f tg b r S=ix w.guard tg b w.items r S1:=by
 unfold qC;rw[sk,h]
theorem wP{S:List Cell}{n:Nat}(h:n<=1000000):wc (.int (n:Int)) S=.ok ⟨hW 0 1 n,none⟩ S:=vB h
end DL
namespace DL
open PySem PySem.Spec PyProof.Rows L2
mutual
theorem vV{S:List Cell}:∀{n:Nat}{d:D}{p:PyData},pD S n d=some p->p.canLay0=true
 |0,d,p,h=>by unfold pD at h;cases h
 |n+1,.non,p,h=>by simp only[pD] at h;cases h;rfl
 |n+1,.bl b,p,h=>by simp only[pD] at h;cases h;rfl
 |n+1,.int i,p,h=>by simp only[pD] at h;cases h;rfl
 |n+1,.str x,p,h=>by
  simp only[pD] at h;split at h
  ·rename_i q;cases h;exact q
  ·cases h
 |n+1,.tup xs,p,h=>by
  simp only[pD] at h;cases e:pDs S n xs with
  |none=>rw[e] at h;cases h
  |some ps=>rw[e] at h;cases h;exact oS e
 |n+1,.rol xs,p,h=>by
  simp only[pD] at h;cases e:pDs S n xs with
  |none=>rw[e] at h;cases h
  |some ps=>rw[e] at h;cases h;exact oS e
 |n+1,.ob k,p,h=>by
  simp only[pD] at h;split at h
  ·rename_i xs _;cases e:pDs S n xs with
   |none=>rw[e] at h;cases h
   |some ps=>rw[e] at h;cases h;exact oS e
  ·cases h
 |n+1,.xn c,p,h=>by simp only[pD] at h;cases h
theorem oS{S:List Cell}:∀{n:Nat}{xs:List D}{ps:List PyData},pDs S n xs=some ps->PyData.canLayAll0 ps=true
 |n,[],ps,h=>by simp only[pDs] at h;cases h;rfl
 |n,x :: xs,ps,h=>by
  simp only[pDs] at h;cases e1:pD S n x with
  |none=>rw[e1] at h;cases h
  |some p=>
   rw[e1] at h;cases e2:pDs S n xs with
   |none=>rw[e2] at h;cases h
   |some qs=>
    rw[e2] at h;cases h;show(PyData.canLay0 p && PyData.canLayAll0 qs)=true;rw[vV e1,oS e2];rfl
end
section
variable{S:List Cell}{x y:D}{p:PyData}
theorem AE(h1:pD S 30 x=some p)(h2:pD S 30 y=some p):eqD x y S=.ok (.bl true) S:=by
 simp only[eqD,h1,h2,PySem.SeqAt.eqv_refl p (vV h1)]
theorem wj(h1:pD S 30 x=some p)(h2:pD S 30 y=some p):neD x y S=.ok (.bl false) S:=by
 simp only[neD,h1,h2,PySem.SeqAt.eqv_refl p (vV h1)];rfl
theorem qg{n:Nat}{xs:List D}:pD S (n+1) (.tup xs)=(pDs S n xs).map .tuple:=by simp only[pD]
theorem sC{α:Type}{f:α->D}{n:Nat}:∀{l:List α},(∀a,a∈l->∃p,pD S n (f a)=some p)->∃ps,pDs S n (l.map f)=some ps
 |[],_=>⟨[],by simp[pDs]⟩
 |a :: l,h=>by
  obtain⟨p,hp⟩:=h a (by simp);obtain⟨ps,hps⟩:=sC (l:=l) fun b hb=>h b (List.mem_cons_of_mem _ hb)
  exact⟨p :: ps,by rw[List.map_cons];simp only[pDs,hp,hps]⟩
end
end DL
namespace DL
open PySem PySem.Spec PyProof.Rows L2
section
variable{X:Cx}
end
end DL
namespace DL
open PySem PySem.Spec PyProof.Rows L2
theorem ph(a b:Value):checkTypeCall "enumerate" ⟨[a],[("start",b)]⟩=pure ():=by kernel_rfl
theorem qJ(a b:Value):checkBuiltinCall "enumerate.__new__" ⟨[.type "enumerate",a],[("start",b)]⟩=pure ():=by kernel_rfl
section
variable{prog:Program}{w:World}{A:Around}{E:Value->Shared->Prop}{s:Shared}
theorem og(l:Addr)(items:Array Value)(n:Nat)(dct:Option Addr)(sl:Array (Option Value))(i:Int)(t:Tok)(hi:Builtin.SmallTypes.fitsIndex i=true) :
  Meets (Builtin.«enumerate.__new__» ⟨[.type "enumerate",.ref l],[("start",.int i t)]⟩) (fun _ R s=>s.heap.get? l=some { cls:=.type "tuple",dict:=dct,data:=.seq items n,slots:=sl }/\
   R (.ok (.ret (.ref (s.heap.push { cls:=.type "tuple_iterator",data:=.fields #[.ref l,.int 0 0] }).objs.size)))
    { s with heap:=(s.heap.push { cls:=.type "tuple_iterator",data:=.fields #[.ref l,.int 0 0] }).push { cls:=.type "enumerate",data:=.fields #[.none,.bool false,.ref s.heap.objs.size,rawInt i,.none,.none] } }):=
 .of_wp fun prog w A R s h=>by
  obtain⟨hp,g,d,tk,os⟩:=s;obtain⟨hl,h⟩:=h;have hsub:=sub_enumerate;have f1:=AutoSeq1.idx_int;have hT:Heap.IsTuple (Shared.heap ⟨hp,g,d,tk,os⟩) l items:=⟨_,hl,rfl,n,rfl⟩
  wp_walk using wpAny_loadPart' hl
  refine wpAny_stack_any fun st=>wpAny_pure ?_
  split
  ·rename_i c _ _ _ _ _;cases(c == Value.type "enumerate")
   ·wp_walk using wpAny_loadPart' hl,wpAny_pyIter_tuple hT
    exact⟨_,rfl,h⟩
   ·wp_walk using wpAny_loadPart' hl,wpAny_pyIter_tuple hT
    exact⟨_,rfl,h⟩
  ·wp_walk using wpAny_loadPart' hl,wpAny_pyIter_tuple hT
   exact⟨_,rfl,h⟩
theorem kR(a b c:Value):argsOk "object.__init__" ⟨[a,b],[("start",c)]⟩:=by
 unfold argsOk;rw[signature?_of (id:="object.__init__") (n:=['_','_','t','i','n','i','_','_']) (o:=['t','c','e','j','b','o']) (by kernel_rfl) PySem.F.owner_object];kernel_rfl
theorem pU{self a c:Value} :
  Meets (Builtin.«object.__init__» ⟨[self,a],[("start",c)]⟩) (fun _ R s=>s.TypeIs self "enumerate"/\R (.ok (.ret .none)) s):=by
 refine Meets.of_wp fun prog w A R s hs=>?_
 obtain⟨hT,hq⟩:=hs;have hl:=PySem.F.called_enumerate.init.lookup;have hm:=PySem.F.called_enumerate.made;have hne:(some "enumerate.__new__" != some "object.__new__")=true:=by decide
 repeat (any_goals (first|assumption|wp_step))
 exact⟨_,rfl,hq⟩
theorem pr{l:Addr}{items:Array Value}{i:Int}{t:Tok}{Q:Value->Shared->Prop}(hL:s.heap.IsTuple l items)(hi:Builtin.SmallTypes.fitsIndex i=true)
  (h:∀h',IsEnum h' (s.heap.objs.size+1) s.heap.objs.size i .none->h'.IsTupleIter s.heap.objs.size l 0->(∀b o,s.heap.get? b=some o->h'.get? b=some o)->Q (.ref (s.heap.objs.size+1)) { s with heap:=h' }) :
  wpAny (model prog w) A (call (.type "enumerate") [.ref l] [("start",.int i t)]) Q E s:=by
 obtain⟨⟨c,dct,dt,sl⟩,hl,hc,n,hd⟩:=hL;simp only at hc hd;subst hc hd;have ft:=PySem.F.called_enumerate;obtain⟨c0,tl,hmro⟩:=ft.mro;have hmade:=ft.made;have hsub:=ft.sub;have hct:=ph (.ref l) (.int i t);refine wpAny_call (codeAny_of_tree ?_);show wpAny _ _ (callAny (.type "enumerate") _) _ _ _;refine wpAny_pure ⟨Code.quiet_builtin _ (by decide +kernel),codeAny_builtin PySem.F.entry_type_call ?_⟩;rw[Around.under_plain (weight_type_call_type "enumerate" [.ref l] [("start",.int i t)]) (units_type_call_type "enumerate" [.ref l] [("start",.int i t)])];have h1:=ft.notType;have h2:=ft.canCreate
 repeat (any_goals (first|assumption|wp_step))
 have hz:(s.heap.push { cls:=.type "tuple_iterator",data:=.fields #[.ref l,.int 0 0] }).objs.size=s.heap.objs.size+1:=Heap.size_push ..;have he:IsEnum ((s.heap.push { cls:=.type "tuple_iterator",data:=.fields #[.ref l,.int 0 0] }).push { cls:=.type "enumerate",data:=.fields #[.none,.bool false,.ref s.heap.objs.size,rawInt i,.none,.none] }) (s.heap.objs.size+1) s.heap.objs.size i .none:=by
  have q:=Heap.get?_push_size (s.heap.push { cls:=.type "tuple_iterator",data:=.fields #[.ref l,.int 0 0] }) (o:={ cls:=.type "enumerate",data:=.fields #[.none,.bool false,.ref s.heap.objs.size,rawInt i,.none,.none] }) rfl;rw[hz] at q;exact q
 have fin:=h _ he ⟨_,Heap.get?_push_of_some _ (Heap.get?_push_size _ rfl),rfl,rfl⟩ fun b o x=>Heap.get?_push_of_some _ (Heap.get?_push_of_some _ x)
 refine codeAny_mono (codeAny_call_builtin ft.plain PySem.F.entry_enumerate_new (wpAny_of_eq (qJ (.ref l) (.int i t)) (og l items n dct sl i t hi prog w A.in1 (wants (fun obj s₁=>s₁.TypeIs obj "enumerate"/\Q obj s₁) E) s ⟨hl,?_⟩))) fun r s₁ hr=>?_
 ·show _/\_;rw[hz];exact⟨⟨_,he,rfl⟩,fin⟩
 ·cases r with
  |error e=>exact hr
  |ok fl=>
   cases fl with
   |ret obj=>
    obtain⟨hT,hq1⟩:=hr;have hli:=ft.init.lookup;have hbi:=ft.init.bind obj
    repeat (any_goals (first|assumption|wp_step))
    refine codeAny_mono (codeAny_call_builtin ft.init.plain PySem.F.entry_object_init (ft.init.check _ _ _ _ _ _ _ _ hT (kR _ _ _) (pU prog w A.in1 (wants (fun r s₂=>r=.none/\Q obj s₂) E) s₁ ⟨hT,rfl,hq1⟩))) fun r₂ s₂ hr₂=>?_
    cases r₂ with
    |error e=>exact hr₂
    |ok fl₂=>
     cases fl₂ with
     |ret r=>
      obtain⟨rfl,hq⟩:=hr₂
      repeat (any_goals (first|assumption|wp_step))
     |_=>exact hr₂.elim
   |_=>exact hr.elim
end
section
variable{M:Model}{A:Around}{E:Value->Shared->Prop}{s:Shared}{env:Env}
theorem mD{pos:Pos}{T:String}{first:List Value}{args:List (Bool×Sem Value)}{keywords:List (Option Str×Sem Value)}{Q:Value->Shared->Prop}
  (hplain:args.any (·.1)=false) (hkw:keywords.any (·.1.isNone)=false)
  (h:wpAny M A (evalArgs (.type T) true args keywords) (fun a s₁=>wpAny M A (call (.type T) (first++a.pos) a.kw) Q E s₁) E s) :
  wpAny M A (callWith pos (.type T) first args keywords) Q E s:=by
 unfold callWith;refine wpAny_bind (wpAny_holding (wpAny_mono h (fun a s₁ h₁=>wpAny_bind (wpAny_standAt ?_)) fun _ _ x=>x));simp only[hplain,hkw,Bool.or_false];refine wpAny_bind (wpAny_pure ?_);exact wpAny_bind (wpAny_mono h₁ (fun r s₂ hr=>wpAny_bind (wpAny_holding (wpAny_point (wpAny_pure hr)))) fun _ _ x=>x)
end
section
variable{X:Cx}{e:Expr}{fe:DSt->M D}{pos:Pos}{elts:List Expr}{k1:Nat}{tpos:Pos}
def vZ(c:Nat):D->M Wk
 |.tup xs=>M.ret ⟨iW c xs,none⟩
 |_=>M.bad
def sI(c:Nat)(fe:DSt->M D):DSt->M Wk:=fun r=>(fe r).bind (vZ c)
theorem xh{p kp cp:Pos}{i:Int}{c j:Nat}(hg:Gl X "enumerate")(hm:X.mg "enumerate"=none)(he:PEd X e fe)(hic:i=(c:Int):=by decide)(hc:c<=1000:=by decide)(hs:starEach [e] X.env=[(false,eval e X.env)]:=by rfl) :
  PId X (.Tuple elts k1 tpos) (.Call (.Name "enumerate" p) [e] [⟨some "start",.Constant (.int i) j cp,kp⟩] pos) (sI c fe):=by
 intro pins s σ H J r S Q E I m;subst hic;have m':MtW X pins σ H J (.Tuple elts k1 tpos) ((ac fe aj r).bind (tE (vZ c)) S) Q E:=by
  unfold sI M.bind at m;unfold ac aj M.bind M.ret;cases e1:fe r S<;>(rw[e1] at m;exact m)
 refine wpAny_Call_Name_kw (kC I.inv hg hm boot_enumerate (mD (by rw[hs];rfl) rfl ?_));have hb:backTo pos (starEach [e] X.env)=(false,eval e X.env) :: []:=by rw[hs];rfl
 rw[hb];refine evalArgs_kwB rfl ?_;rw[<-hb];refine goR (ae he ah (by rw[hs];rfl)) I m' (fun xs S1 s1 H1 J1 vs us I1 rv r1 m1=>?_) pos;refine kws_cons (wpAny_Constant_int (kws_nil ?_));have hfit:Builtin.SmallTypes.fitsIndex (c:Int)=true:=by
  unfold Builtin.SmallTypes.fitsIndex;simp only[Bool.and_eq_true,decide_eq_true_eq];omega
 match xs,m1,rv with
 |[],m1,rv=>exact m1.elim
 |_ :: _ :: _,m1,rv=>exact m1.elim
 |[x],m1,rv=>
  obtain⟨v,rfl,h1⟩:=rv.one_;obtain⟨u,rfl,ru⟩:=Vals.one r1
  change MtW X pins σ H1 J1 (.Tuple elts k1 tpos) (vZ c x S1) Q E at m1
  cases x with
  |tup ys=>
   obtain⟨a,ws,rfl,hq,rvs⟩:=h1.tup_;cases ru;obtain⟨its,rl,pl,hz⟩:=I1.inv.tuple hq;refine pr (s:={ s1 with toks:=s1.toks+1 }) pl hfit fun h' he' hi' hk'=>wpAny_pyIter_enum he' ?_
   refine m1 _ _ ⟨s1.heap.objs.size+1,[s1.heap.objs.size+1,s1.heap.objs.size],_,_,H1,rfl,I1.inv.kept (t':=s1.toks+1) hk',pc a s1.heap.objs.size (s1.heap.objs.size+1) c (Nat.succ_ne_self _),⟨⟨_,he'⟩,hi'⟩,sV I1.inv,J1,Ext.refl _ _,I1.st,trivial,?_⟩;exact ItOk.enumT fun H2 J2 S2 x2 rs2 _=>⟨ws,SqT.ext x2 hq,rvs.ext x2⟩
  |_=>exact m1.elim
theorem dg{x:Str}{d:D}{pos:Pos}(hg:Gl X x)(h:∃u,X.mg x=some u/\KRep X.K d u)(hd:(x == ("__debug__":Str))=false:=by decide):PEd X (.Name x pos) (dC d):=by
 obtain⟨u,h1,h2⟩:=h;exact zG hg h1 h2 hd
def KStrs(K:PySem.W.Frag)(mg:Str->Option Value)(x:Str)(ss:List Str):Prop:=∃u,mg x=some u/\KTup K u (ss.map V.str)
theorem pv{K:PySem.W.Frag}(ss:List Str)(H:Hp)(J:List Addr):RepVs K H J (ss.map D.str) (ss.map V.str):=by
 induction ss with
 |nil=>exact .nil
 |cons a r ih=>exact .cons (by unfold RepV;rfl) ih
theorem KStrs.glob{K:PySem.W.Frag}{mg:Str->Option Value}{x:Str}{ss:List Str}(h:KStrs K mg x ss):∃u,mg x=some u/\KRep K (.tup (ss.map D.str)) u:=by
 obtain⟨u,h1,h2⟩:=h;exact⟨u,h1,h2.rep (pv ss)⟩
theorem vt{x:Str}{e:Expr}{np apos cpos:Pos}{ss:List Str}{ft:DSt->M (List D)}(hg:Gl X x)(h:KStrs X.K X.mg x ss)(ha:PAd X [e] ft)(hd:(x == ("__debug__":Str))=false:=by decide)
  (hbase:attributeBase (.Name x np) "index" X.env (eval (.Name x np) X.env)=eval (.Name x np) X.env:=by rfl)
  (hfew:((backTo cpos (starEach [e] X.env)).all (fun x=>!x.1) && (backToKw cpos (keywordEach [] X.env)).all (fun x=>x.1.isSome)
   && decide ([e].length+([]:List Keyword).length+(if ([]:List Keyword).isEmpty then 0 else 1)<30))=true:=by rfl)
  (hline:(apos.endLine == cpos.line)=true:=by rfl) (hs:starEach [e] X.env=[(false,eval e X.env)]:=by rfl) :
  PEd X (.Call (.Attribute (.Name x np) "index" apos) [e] [] cpos) (mH (.tup (ss.map D.str)) ft):=by
 obtain⟨u,h1,h2⟩:=h;exact xJ hg h1 h2 (pv ss) ha hd hbase hfew hline hs
theorem iA{K:PySem.W.Frag}{i:Int}{t:Tok}:KRep K (.int i) (.int i t):=fun H J=>⟨.int i,⟨_,rfl⟩,RepV.int _ _ _ _⟩
theorem se:∀{ss:List Str}{vs:List Value},(List.zip ss vs).all (fun p=>match p.2 with|.str x _=>x == p.1|_=>false)=true->ss.length=vs.length->Vals (ss.map V.str) vs
 |[],[],_,_=>.nil
 |a :: r,v :: vs,h,hl=>by
  simp only[List.zip_cons_cons,List.all_cons,Bool.and_eq_true] at h;refine .cons ?_ (se h.2 (by simpa using hl));cases v with
  |str x t=>
   have:=beq_iff_eq.mp h.1;subst this;exact⟨_,rfl⟩
  |_=>exact absurd h.1 Bool.false_ne_true
 |[],_ :: _,_,h=>by cases h
 |_ :: _,[],_,h=>by cases h
theorem ut{K:PySem.W.Frag}{mg:Str->Option Value}{x:Str}{ss:List Str}{a:Addr}{its:Array Value}{n:Nat}{sl:Array (Option Value)}(hm:mg x=some (.ref a))(hl:K.lookup a=some ⟨.type "tuple",none,.seq its n,sl⟩)(hv:(List.zip ss its.toList).all (fun p=>match p.2 with|.str x _=>x == p.1|_=>false)=true)(hn:ss.length=its.toList.length)(hz:ss.length<=1000):KStrs K mg x ss:=
 ⟨_,hm,⟨⟨a,_,its,n,rfl,hl,rfl,rfl,rfl,by rw[<-Array.length_toList,<-hn];exact Nat.le_of_lt (szM (by omega)),se hv hn⟩⟩⟩
end
end DL
namespace DL
open PySem PySem.Spec PyProof.Rows L2
section
variable{X:Cx}{body:List Stmt}{h0:ExceptHandler}{hs:List ExceptHandler}{t:TSt}{pos:Pos}
end
end DL
namespace DL
open PySem PySem.Spec PyProof.Rows L2
def sY(l:List Env)(ex:List Addr)(h h':Heap):Prop:=
 (∀b o,h.get? b=some o->b∉ex->b∉l.filterMap (·.frame)->h'.get? b=some o)/\(∀b o,h.get? b=some o->b∉ex->∃sl,h'.get? b=some { o with slots:=sl })
section
variable{M:Model}{A:Around}{E:Value->Shared->Prop}{s:Shared}
theorem rT{base:Heap}{env:Env}{outer:List Env}{L e:Addr}{oe:Obj}{vs:Array Value}{head a0:Value}{hadNext:Bool}{Q:Unit->Shared->Prop}
  (hfr:A.frames=some (env :: outer)) (hl:s.heap.FunFrames base (env :: outer)) (hf:env.frame=some L)
  (he:s.heap.get? e=some oe) (hkb:base.StaysIn s.heap) (hen:base.get? e=none) (hd:oe.data=.fields vs) (hsz:1<vs.size) (h0:vs[0]?=some a0)
  (h:∀h',Heap.LeftW base (env :: outer) e oe.cls a0 s.heap h'->sY (env :: outer) [e] s.heap h'->(∃oe' vs' T,h'.get? e=some oe'/\oe'.data=.fields vs'/\vs'[1]?=some (.ref T)/\s.heap.objs.size<=T)->Q () { s with heap:=h' }) :
  wpAny M A (do let a <-frameOf env;let pl <-entryPlaceOf L hadNext;let b <-EntryCells.newEntry head a .none (rawInt L) .none pl;setField (.ref e) 1 b) (fun _ s'=>wpAny M A (setFlight (.ref e) none) Q E s') E s:=by
 have hene:e∉(env :: outer).filterMap (·.frame):=fun hm=>by
  obtain⟨_,o,ho,hnf⟩:=hl.mem hm;rw[he] at ho
  injection ho with ho
  subst ho;exact hnf vs hd
 refine wpAny_bind (wpAny_frameOf_fun hfr hl hf fun h1 q=>?_);refine wpAny_bind (wpAny_entryPlaceOf fun pl hpl=>?_);unfold EntryCells.newEntry newFields;refine wpAny_bind (wpAny_newObj_type ?_ (hpl.sizeOk5 _ _ _ _ _));obtain⟨tb,htb⟩:∃tb:Obj,tb = { cls:=.type "traceback",dict:=none,data:=.fields ([head,.ref L,.none,rawInt L,.none]++(if pl.isEmpty then List.replicate 6 Value.none else pl)).toArray }:=⟨_,rfl⟩;rw[<-htb];have he1:h1.get? e=some oe:=(q.2.1 e hene).trans he;have kb1:base.StaysIn h1:=fun b o hbo=>(q.2.1 b fun hm=>by rw[(hl.mem hm).1] at hbo;cases hbo).trans (hkb b o hbo)
 have he2:=Heap.get?_push_of_some (h:=h1) tb he1;refine wpAny_setField he2 hd hsz ?_;obtain⟨T,hT⟩:∃T,T=h1.objs.size:=⟨_,rfl⟩;have hTe:T≠e:=by rw[hT];exact Nat.ne_of_gt (Heap.lt_size he1)
 have hsl:s.heap.objs.size<=T:=by rw[hT,q.1];exact Nat.le_refl _
 obtain⟨h2,hh2⟩:∃h2,h2=(h1.push tb).update e (Obj.mapFields (·.setIfInBounds 1 (Value.ref T))):=⟨_,rfl⟩;have hd3:=Obj.data_mapFields hd (·.setIfInBounds 1 (Value.ref T));have he3:h2.get? e=some (Obj.mapFields (·.setIfInBounds 1 (Value.ref T)) oe):=by rw[hh2];exact Heap.get?_update_self _ he2 (Obj.isFreed_of_fields hd3)
 have hT3:h2.get? T=some tb:=by rw[hh2,Heap.get?_update_other _ _ (Ne.symm hTe),hT];exact Heap.get?_push_size h1 (by rw[htb];rfl)
 have hdT:tb.data=.fields ([head,.ref L,.none,rawInt L,.none]++(if pl.isEmpty then List.replicate 6 Value.none else pl)).toArray:=by rw[htb]
 have goal:wpAny M A (setFlight (.ref e) none) Q E { s with heap:=h2 }:=by
  unfold setFlight;refine wpAny_bind (wpAny_field he3 hd3 (x:=.ref T) (by simp[hsz]) ?_);rw[if_pos (show(Value.ref T != Value.none)=true from by simp)];refine wpAny_setField hT3 hdT (by simp only[List.size_toArray,List.length_append,List.length_cons,List.length_nil]<;>omega) ?_;obtain⟨h3,hh3⟩:∃h3,h3=h2.update T (Obj.mapFields (·.setIfInBounds 3 ((none:Option Addr).elim Value.none fun f=>rawInt f))):=⟨_,rfl⟩;have keep:∀b o,b≠e->h1.get? b=some o->h3.get? b=some o:=fun b o hbe hb=>by
   have hbT:T≠b:=by rw[hT];exact Nat.ne_of_gt (Heap.lt_size hb)
   rw[hh3,hh2,Heap.get?_update_other _ _ hbT,Heap.get?_update_other _ _ (Ne.symm hbe)];exact Heap.get?_push_of_some _ hb
  have he4:h3.get? e=some (Obj.mapFields (·.setIfInBounds 1 (Value.ref T)) oe):=by rw[hh3,Heap.get?_update_other _ _ hTe];exact he3
  have noRecord:∀b o,s.heap.get? b=some o->(∀vs,o.data≠.fields vs)->b≠e:=fun b o hb hnf z=>by
   rw[z,he] at hb
   injection hb with hb
   subst hb;exact hnf vs hd
  have hT4:h3.get? T=some (Obj.mapFields (·.setIfInBounds 3 ((none:Option Addr).elim Value.none fun f=>rawInt f)) tb):=by rw[hh3];exact Heap.get?_update_self _ hT3 (Obj.isFreed_of_fields (Obj.data_mapFields hdT _))
  have hdT4:=Obj.data_mapFields hdT (·.setIfInBounds 3 ((none:Option Addr).elim Value.none fun f=>rawInt f));have hq:Q () { s with heap:=h3 }:=by
   refine h h3 ⟨fun b o hbo=>keep b o (fun z=>by rw[z,hen] at hbo;cases hbo) (kb1 b o hbo),hl.of_keeps fun b o hb hnf=>?_,?_,fun b o hb hnf=>?_⟩ ⟨fun b o hb hbe hbf=>?_,fun b o hb hbe=>?_⟩ ⟨_,_,T,he4,hd3,by simp[hsz],hsl⟩
   ·obtain⟨sl,hs⟩:=q.2.2 b o hb;exact⟨_,keep b _ (noRecord b o hb hnf) hs,rfl⟩
   ·refine⟨_,_,T,_,_,he4,⟨Obj.cls_mapFields _ _,by rw[Array.getElem?_setIfInBounds_ne (by decide)];exact h0⟩,hd3,by simp[hsz],?_,hTe,hT4,hdT4,?_⟩
    ·rw[hT];exact kb1.fresh
    ·first|(simp;done)|(rcases hpl with rfl|⟨_,_,_,_,_,_,_,rfl⟩<;>simp)
   ·obtain⟨sl,hs⟩:=q.2.2 b o hb;exact⟨sl,keep b _ (noRecord b o hb hnf) hs⟩
   ·exact keep b o (by simpa using hbe) ((q.2.1 b hbf).trans hb)
   ·obtain⟨sl,hs⟩:=q.2.2 b o hb;exact⟨sl,keep b _ (by simpa using hbe) hs⟩
  rw[hh3] at hq;exact hq
 rw[hh2,hT] at goal;exact goal
def oK(h:Heap)(e T:Addr):Prop:=∃oe vs,h.get? e=some oe/\oe.data=.fields vs/\vs[1]?=some (.ref T)
theorem vS{base:Heap}{env:Env}{outer:List Env}{L e T:Addr}{cls a0:Value}{Q:Unit->Shared->Prop}
  (hfr:A.frames=some (env :: outer)) (hl:s.heap.FunFrames base (env :: outer)) (hf:env.frame=some L) (ht:s.heap.TracedW base e cls a0) (hTr:oK s.heap e T) (hkb:base.StaysIn s.heap) (hen:base.get? e=none)
  (h:∀h' T',Heap.LeftW base (env :: outer) e cls a0 s.heap h'->sY (env :: outer) [e,T] s.heap h'->oK h' e T'->s.heap.objs.size<=T'->(∃oT,h'.get? T=some oT)->Q () { s with heap:=h' }):wpAny M A (noteFrame (.ref e) env) (fun _ s2=>wpAny M A (setFlight (.ref e) none) Q E s2) E s:=by
 obtain⟨oe,vs,T0,oT,ts,he,⟨hcls,h0⟩,hd,h1,hnT,hTe,hT,hdT,h3⟩:=ht;obtain⟨oe',vs',b1,b2,b3⟩:=hTr;rw[he] at b1;cases b1;rw[hd] at b2;cases b2;rw[h1] at b3;cases b3;subst hcls;unfold noteFrame;simp only[hf];refine wpAny_bind (wpAny_field he hd h1 ?_);rw[if_pos (show(Value.ref T != Value.none)=true from by simp)];refine wpAny_bind (wpAny_field hT hdT h3 ?_);rw[if_neg (show ¬((Value.none == rawInt L)=true) from by simp[rawInt])];refine wpAny_bind (wpAny_setField hT hdT (Array.getElem?_eq_some_iff.mp h3).1 ?_);have other:∀b,b≠T->(s.heap.update T (Obj.mapFields (·.setIfInBounds 3 Value.none))).get? b=s.heap.get? b:=fun b hb=>Heap.get?_update_other _ _ (Ne.symm hb)
 have noRec:∀b o,s.heap.get? b=some o->(∀vs,o.data≠.fields vs)->b≠T:=fun b o hb hnf z=>by
  rw[z,hT] at hb
  injection hb with hb
  subst hb;exact hnf ts hdT
 refine rT hfr (hl.of_keeps fun b o hb hnf=>⟨o,(other b (noRec b o hb hnf)).trans hb,rfl⟩) hf ((other e (Ne.symm hTe)).trans he)
  (fun b o hbo=>(other b fun z=>by rw[z,hnT] at hbo;cases hbo).trans (hkb b o hbo)) hen hd (Array.getElem?_eq_some_iff.mp h1).1 h0
  fun h' ⟨x1,x2,x3,x4⟩ ⟨y1,y2⟩ ⟨oe',vs',T',c1,c2,c3,c4⟩=>h h' T' ⟨x1,x2,x3,fun b o hb hnf=>x4 b o ((other b (noRec b o hb hnf)).trans hb) hnf⟩ ⟨fun b o hb hbe hbf=>?_,fun b o hb hbe=>?_⟩ ⟨oe',vs',c1,c2,c3⟩ ?_ ?_
 ·simp only[List.mem_cons,List.not_mem_nil,or_false,not_or] at hbe;exact y1 b o ((other b hbe.2).trans hb) (by simpa using hbe.1) hbf
 ·simp only[List.mem_cons,List.not_mem_nil,or_false,not_or] at hbe;exact y2 b o ((other b hbe.2).trans hb) (by simpa using hbe.1)
 ·have hsz:(s.heap.update T (Obj.mapFields (·.setIfInBounds 3 Value.none))).objs.size=s.heap.objs.size:=Heap.size_update ..;rw[<-hsz];exact c4
 ·have hT2:(s.heap.update T (Obj.mapFields (·.setIfInBounds 3 Value.none))).get? T=some (Obj.mapFields (·.setIfInBounds 3 Value.none) oT):=Heap.get?_update_self _ hT (Obj.isFreed_of_fields (Obj.data_mapFields hdT _));obtain⟨sl,q⟩:=y2 T _ hT2 (by simpa using hTe);exact⟨_,q⟩
end
end DL
namespace DL
open PySem PySem.Spec PyProof.Rows L2
section
variable{P:Program}{w:World}{H H':Hp}{h h':Heap}{a:Addr}{o:HO}
theorem uv(x:ObjOk P w H h a o):∃u,h.get? a=some u:=by
 cases o with
 |lst xs=>obtain⟨_,_,_,_,e⟩:=x;exact⟨_,e⟩
 |tup xs=>obtain⟨_,_,_,_,e,_⟩:=x;exact⟨_,e⟩
 |dK kvs=>obtain⟨_,_,_,_,o,_,_,e,_⟩:=x;exact⟨_,e⟩
 |dT kvs=>obtain⟨_,_,_,_,o,_,_,e,_⟩:=x;exact⟨_,e⟩
 |set S n=>obtain⟨o,_,_,_,e,_⟩:=x;exact⟨_,e⟩
 |ins C dx fs=>obtain⟨_,_,_,e,_⟩:=x;exact⟨_,e⟩
 |own y=>obtain⟨_,e⟩:=x;exact⟨_,e⟩
 |xd fs=>obtain⟨_,⟨_,_,_,e,_⟩,_⟩:=x;exact⟨_,e⟩
 |rng lo hi=>obtain⟨_,_,_,e⟩:=x;exact⟨_,e⟩
 |frz ob u=>obtain⟨e,_⟩:=x;exact⟨_,e⟩
 |tbl ps=>exact⟨_,(show h.get? a=some _ from x)⟩
 |met f y=>exact⟨_,(show h.get? a=some _ from x)⟩
 |ext φ=>obtain⟨_,⟨_,e⟩,_⟩:=x;exact⟨_,e⟩
theorem tU(x:HOk P w H h)(hp:h.get? a=none):H a=none:=by
 cases q:H a with
 |none=>rfl
 |some u=>obtain⟨v,e⟩:=uv (x a u q);rw[hp] at e;cases e
theorem xS(x:HOk P w H h)(k:∀b u,h.get? b=some u->h'.get? b=some u)(hp:h.get? a=none)(new:ObjOk P w (upd H a o) h' a o):HOk P w (upd H a o) h':=fun b u e=>by
 have hn:=tU x hp;by_cases hb:b=a
 ·subst hb;rw[bE] at e;cases e;exact new
 ·rw[br hb] at e;exact(x b u e).stay (fun c v _ q=>k c v q) (fun c q=>by rw[br (bi q hn)];exact q) fun c xs q=>by rw[br (bi q hn)];exact q
theorem yL{fs ex:List Addr}(k:∀b u,h.get? b=some u->h'.get? b=some u)(hp:h.get? a=none)(hn:H a=none):Un fs ex H (upd H a o) h h' where
 keep:=fun b u q _ _ _=>k b u q
 slot:=fun b u q _ _ _=>⟨u.slots,k b u q⟩
 free:=fun b u q n _=>by rw[br (fun z=>by rw[z,hp] at q;cases q)];exact n
 there:=fun b u q _=>⟨u,k b u q⟩
 tups:=fun b xs q=>by rw[br (bi q hn)];exact q
 frzs:=fun b u xs q=>by rw[br (bi q hn)];exact q
 tbls:=fun b ps q=>⟨#[],by rw[br (bi q hn),q];simp⟩
theorem uA{c:Addr}(e:∃o,h.get? a=some o/\o.cls=.ref c):ObjOk P w H h a (XO a c):=by
 obtain⟨o,e1,e2⟩:=e;exact⟨⟨o,e1,e2⟩,⟨o,e1⟩,fun h1 h2 ⟨u,q1,q2⟩ k=>⟨u,k u q1,q2⟩⟩
theorem pN(e:∃o,h.get? a=some o):ObjOk P w H h a (TO a):=by
 obtain⟨o,e1⟩:=e;exact⟨⟨o,e1⟩,⟨o,e1⟩,fun h1 h2 ⟨u,q1⟩ k=>⟨u,k u q1⟩⟩
theorem uF{l:List Env}{ex:List Addr}{T:Addr}(x:HOk P w H h)(kb:sY l ex h h')(hf:∀b∈frs l,H b=none)
  (hx:∀b∈ex,(∃c,H b=some (XO b c)/\∃o,h'.get? b=some o/\o.cls=.ref c)\/(H b=some (TO b)/\∃o,h'.get? b=some o)) (hT:h.objs.size<=T) (hT':∃o,h'.get? T=some o) :
  Un (frs l) [] H (upd H T (TO T)) h h'/\HOk P w (upd H T (TO T)) h':=by
 have hn:H T=none:=x.fresh hT;have nex:∀b,H b=none->b∉ex:=fun b n z=>by
  rcases hx b z with ⟨c,q,_⟩|⟨q,_⟩<;>(rw[n] at q;cases q)
 refine⟨⟨fun b u q n hb _=>kb.1 b u q (nex b n) hb,fun b u q n _ _=>kb.2 b u q (nex b n),fun b u q n _=>?_,fun b u q _=>?_,fun b xs q=>by rw[br (bi q hn)];exact q,fun b u xs q=>by rw[br (bi q hn)];exact q,fun b ps q=>⟨#[],by rw[br (bi q hn),q];simp⟩⟩,fun b u e=>?_⟩
 ·rw[br (Nat.ne_of_lt (Nat.lt_of_lt_of_le (Heap.lt_size q) hT))];exact n
 ·by_cases z:b∈ex
  ·rcases hx b z with ⟨c,_,o,e1,_⟩|⟨_,o,e1⟩<;>exact⟨o,e1⟩
  ·obtain⟨sl,e1⟩:=kb.2 b u q z;exact⟨_,e1⟩
 ·by_cases hb:b=T
  ·subst hb;rw[bE] at e;cases e;exact pN hT'
  ·rw[br hb] at e;by_cases z:b∈ex
   ·rcases hx b z with ⟨c,q,y⟩|⟨q,y⟩
    ·rw[q] at e;cases e;exact uA y
    ·rw[q] at e;cases e;exact pN y
   ·refine(x b u e).stay (fun c v hc q=>kb.1 c v q ?_ ?_) (fun c q=>by rw[br (bi q hn)];exact q) fun c xs q=>by rw[br (bi q hn)];exact q
    ·rcases hc with rfl|hc
     ·exact z
     ·intro zc;rcases hx c zc with ⟨_,q',_⟩|⟨q',_⟩<;>(rw[hc] at q';cases q')
    ·intro zf;have:=hf c zf;rcases hc with rfl|hc
     ·rw[e] at this;cases this
     ·rw[hc] at this;cases this
theorem xG{L:Addr}{fs ex:List Addr}(u:Un (L :: fs) ex H H' h h')(hL:h.objs.size<=L):Un fs ex H H' h h' where
 keep:=fun b o q n hb hx=>u.keep b o q n (fun z=>(List.mem_cons.mp z).elim (fun e=>absurd (Heap.lt_size q) (by rw[e];exact Nat.not_lt.mpr hL)) hb) hx
 slot:=fun b o q n hb hx=>u.slot b o q n (List.mem_cons_of_mem _ hb) hx
 free:=u.free
 there:=u.there
 tups:=u.tups
 frzs:=u.frzs
 tbls:=u.tbls
end
theorem Tr.of{base h:Heap}{a c T:Addr}{a0:Value}(t:h.TracedW base a (.ref c) a0)(ta:oK h a T):Tr h a c T:=by
 obtain⟨oe,vs,T0,oT,ts,he,⟨hcls,h0⟩,hd,h1,hnT,hTe,hT,hdT,h3⟩:=t;obtain⟨oe',vs',b1,b2,b3⟩:=ta;rw[he] at b1;cases b1;rw[hd] at b2;cases b2;rw[h1] at b3;cases b3;exact⟨oe,vs,oT,ts,a0,he,hcls,hd,h0,h1,hTe,hT,hdT,h3⟩
theorem Tr.to{base h:Heap}{a c T:Addr}(t:Tr h a c T)(hb:base.get? T=none):∃a0,h.TracedW base a (.ref c) a0/\oK h a T:=by
 obtain⟨oe,vs,oT,ts,a0,he,hcls,hd,h0,h1,hTe,hT,hdT,h3⟩:=t;exact⟨a0,⟨oe,vs,T,oT,ts,he,⟨hcls,h0⟩,hd,h1,hb,hTe,hT,hdT,h3⟩,oe,vs,he,hd,h1⟩
theorem Tr.cls{h:Heap}{a c T:Addr}(t:Tr h a c T):∃o,h.get? a=some o/\o.cls=.ref c:=by
 obtain⟨oe,vs,oT,ts,a0,he,hcls,_⟩:=t;exact⟨oe,he,hcls⟩
theorem Tr.end{h:Heap}{a c T:Addr}(t:Tr h a c T):∃o,h.get? T=some o:=by
 obtain⟨oe,vs,oT,ts,a0,he,hcls,hd,h0,h1,hTe,hT,_⟩:=t;exact⟨oT,hT⟩
def CXE(P:Program)(w:World):CXT:=fun outer H s E e s'=>∃a c T H',e=.ref a/\s'.os=s.os/\AllBare s'.gens/\Un (frs outer) [] H H' s.heap s'.heap/\HOk P w H' s'.heap/\H' a=some (XO a c)/\H' T=some (TO T)/\Tr s'.heap a c T/\E (.ref c) none H'
theorem yF{P:Program}{w:World}{H:Hp}{s:Shared}{e:Value}{s':Shared}:CXE P w [] H s (fun _ _ _=>False) e s'->False:=fun ⟨_,_,_,_,_,_,_,_,_,_,_,_,z⟩=>z
theorem jK{X:Cx}{pins:Pins}{σ:L2.St}{H:Hp}{s:Shared}{a:Addr}{o:HO}(I:Inv X pins σ H s)(e:H a=some o):X.base.get? a=none:=by
 cases q:X.base.get? a with
 |none=>rfl
 |some u=>have:=(I.bs a u q).2;rw[e] at this;cases this
theorem wv{X:Cx}{pins:Pins}{σ:L2.St}{H:Hp}{s:Shared}{a c:Addr}{Q:Unit->Shared->Prop}{E:Value->Shared->Prop}(hst:X.stack=X.env :: X.outer/\X.env.frame=some X.env.locals)(I:Inv X pins σ H s)(hX:H a=some (XO a c))(hc:CF s.heap a c\/∃T,H T=some (TO T)/\Tr s.heap a c T)
  (hq:∀h' T',H T'=none->Un (frs X.stack) [] H (upd H T' (TO T')) s.heap h'->HOk X.prog X.w (upd H T' (TO T')) h'->Tr h' a c T'->Q () { s with heap:=h' }) :
  wpAny (model X.prog X.w) X.A (noteFrame (.ref a) X.env) (fun _ s2=>wpAny (model X.prog X.w) X.A (setFlight (.ref a) none) Q E s2) E s:=by
 have hfr:X.A.frames=some (X.env :: X.outer):=by rw[I.ok.frames,hst.1]
 have hl:s.heap.FunFrames X.base (X.env :: X.outer):=by rw[<-hst.1];exact I.stack
 have hff:∀b∈frs (X.env :: X.outer),H b=none:=by rw[<-hst.1];exact I.stkFree
 have hkb:X.base.StaysIn s.heap:=I.bk;rcases hc with ⟨oe,vs,a0,he,hcl,hd,h0,h1⟩|⟨T,hTO,tr⟩
 ·unfold noteFrame;simp only[hst.2];refine wpAny_bind (wpAny_field he hd h1 ?_);rw[if_neg (by decide)];refine rT hfr hl hst.2 he hkb (jK I hX) hd (Array.getElem?_eq_some_iff.mp h1).1 h0 fun h' lw kb ⟨oe',vs',T',c1,c2,c3,c4⟩=>?_
  rw[hcl] at lw;have tr:=Tr.of lw.2.2.1 ⟨oe',vs',c1,c2,c3⟩;obtain⟨u1,u2⟩:=uF I.hok kb hff (fun b hb=>.inl ⟨c,by simp at hb;subst hb;exact⟨hX,tr.cls⟩⟩) c4 tr.end;rw[<-hst.1] at u1;exact hq h' T' (I.hok.fresh c4) u1 u2 tr
 ·obtain⟨a0,tw,ta⟩:=tr.to (jK I hTO);refine vS hfr hl hst.2 tw ta hkb (jK I hX) fun h' T' lw kb ta' hs hTt=>?_
  have tr':=Tr.of lw.2.2.1 ta';obtain⟨u1,u2⟩:=uF I.hok kb hff (fun b hb=>by
   simp only[List.mem_cons,List.not_mem_nil,or_false] at hb;rcases hb with rfl|rfl
   ·exact .inl ⟨c,hX,tr'.cls⟩
   ·exact .inr ⟨hTO,hTt⟩) hs tr'.end
  rw[<-hst.1] at u1;exact hq h' T' (I.hok.fresh hs) u1 u2 tr'
theorem mo{P:Program}{w:World}{K:PySem.W.Frag}{mg:Str->Option Value}{base:Heap}{N:List Str}{qual:Str}{scope:Scope}{f:Addr}{cdv:Value}{A:Around}{outer:List Env}{s:Shared}{H:Hp}{E:XK} :
  ze (CXE P w) (ou (CXE P w) P w K mg base N qual scope f cdv A outer s H E) E:=by
 intro σ H' s' e c XI hE;obtain⟨I,a,rfl,hX,hc⟩:=XI;show wpAny (model P w) (A.deeper (envOfC qual scope s.heap.objs.size f cdv)) (leaving (envOfC qual scope s.heap.objs.size f cdv) (.ref a)) (fun _ s''=>CXE P w outer H s E (.ref a) s'') (fun e' s''=>CXE P w outer H s E e' s'') s';unfold leaving;refine wpAny_bind (wv (X:=ou (CXE P w) P w K mg base N qual scope f cdv A outer s H E) (Q:=fun _ s''=>CXE P w outer H s E (.ref a) s'') ⟨rfl,rfl⟩ I hX hc fun h' T' hn un hok tr=>?_);have hne:a≠T':=bi hX hn;refine⟨a,c,T',_,rfl,I.os,I.bare,xG (L:=s.heap.objs.size) (Un.trans (I.base.mono (fun b hb=>List.mem_cons_of_mem _ hb) fun b hb=>hb) un) (Nat.le_refl _),hok,by rw[br hne];exact hX,bE,tr,hE T' _ hn⟩
theorem aF{X:Cx}:nX (CXE X.prog X.w) X:=by
 intro E0 pins σ H s e s' I h;obtain⟨a,c,T,H',rfl,os,bare,un,hok,hX,hT,tr,hE⟩:=h;obtain⟨hh,g,d,t,os'⟩:=s';obtain rfl:os'=s.os:=os;exact⟨c,H',⟨I.call (h':=hh) (g':=g) (d':=d) (t':=t) (ch:=[]) un hok bare (fun b z=>absurd z (by simp)),a,rfl,hX,.inr ⟨T,hT,tr⟩⟩,hE⟩
structure ExcK(K:PySem.W.Frag)(mg:Str->Option Value)(x:Str)(C:Addr):Prop where
 nm:mg x=some (.ref C)
 cls:PySem.W.excIn K C [.type "ValueError",.type "Exception",.type "BaseException",.type "object"] "ValueError.__new__"=true
theorem rj{K:PySem.W.Frag}{h:Heap}{C:Addr}{bmB:List Value}{newId:String}(X:K.In h)(q:PySem.W.excIn K C bmB newId=true) :
  ∃bm N nm q bs hdct sn sub ab col dd k0 k1 k2 k3 k5 mN,h.get? C=some (excClassObj nm q C N bs bm hdct sn sub ab col dd k0 k1 k2 k3 k5 newId)/\h.Ns N mN/\mN "__init__"=none/\OwnTail h bmB bm:=by
 unfold PySem.W.excIn at q;split at q
 ·rename_i dd cd sl ho;split at q
  ·rename_i C' bm k0 k1 k2 k3 n k5 hm hs;simp only[Bool.and_eq_true,beq_iff_eq,Bool.not_eq_true'] at q;obtain⟨⟨⟨⟨⟨rfl,rfl⟩,hdel⟩,ht⟩,hok⟩,hni⟩:=q;obtain⟨nm,bs,mro,ns,qn,hd,sn,sub,ab,col,del⟩:=cd;dsimp only at hm hdel hok hni;subst hm hdel;have hsl:sl = #[k0,k1,k2,k3,some (.builtin n),k5]:=by
    obtain⟨l⟩:=sl;simp only at hs;rw[hs]
   subst hsl;exact⟨bm,ns,nm,qn,bs,hd,sn,sub,ab,col,dd,k0,k1,k2,k3,k5,_,X _ _ ho,.of_isNs (PySem.W.isNs_of_in X hok),PySem.W.nsMap_none_of_in X hok hni,PySem.W.tail_of_in X ht⟩
  ·cases q
 ·cases q
def nD(C:Addr)(fe:DSt->M D):TSt:=fun r=>cx (fe r) r fun _ S=>some (.xc C r,S)
theorem mE{X:Cx}{x:Str}{C:Addr}{np cpos pos:Pos}{e:Expr}{fe:DSt->M D}(hx:ExcK X.K X.mg x C)(hg:Gl X x)(hc:X.calm=true)(he:PEd X e fe)
  (hdb:(x == ("__debug__":Str))=false:=by decide) (hs:starEach [e] X.env=(false,eval e X.env) :: starEach [] X.env:=by rfl) :
  PSd X (.Raise (some (.Call (.Name x np) [e] [] cpos)) none pos) (nD C fe):=by
 intro pins s σ H J r S Q E I m;obtain⟨tl,N,nm,q,bs,hdct,sn,sub,ab,col,dd,k0,k1,k2,k3,k5,mN,hC,hN,hni,T⟩:=rj I.inv.mod.kin hx.cls;refine wpAny_Raise_call_subT (C:=C) (nm:=nm) (q:=q) (N:=N) (bs:=bs) (bm:=tl) (hdct:=hdct) (sn:=sn) (sub:=sub) (ab:=ab) (col:=col) (dd:=dd) (k0:=k0) (k1:=k1) (k2:=k2) (k3:=k3) (k5:=k5)
  PySem.F.excBase_ValueError (mN:=mN) (T.hasType PySem.F.excBase_ValueError.hasBase) (I.inv.ok.hd hc) (by rw[hs];rfl) hni (kK I.inv hg hx.nm ⟨rfl,?_⟩ hdb)
 rw[hs];refine Calls.evalArgs_plain (Calls.spliced_cons (goS he I m fun d S1 v s1 vx H1 J1 I1 rv r1 m1=>Calls.spliced_nil ⟨rfl,(by decide:(1:Nat)<=sizeLine),I1.inv.bk _ _ hC,hN.keeps I1.inv.bk,T.keeps I1.inv.bk,fun h' e' hm=>?_⟩));obtain⟨t0,he1,_,_⟩:=hm.there;have hn:H1 e'=none:=tU I1.inv.hok hm.new;have I2:Inv X pins σ (upd H1 e' (XO e' C)) { s1 with heap:=h' }:=I1.inv.un (h':=h') (t':=s1.toks) (yL hm.keeps hm.new hn) (xS I1.inv.hok hm.keeps hm.new (uA ⟨_,he1,rfl⟩));exact m1 (.ref e') _ σ (upd H1 e' (XO e' C)) J1 ⟨I2,e',rfl,bE,.inl ⟨_,_,_,he1,rfl,rfl,rfl,rfl⟩⟩ (I1.loc.ext (Ext.new hn)) (I1.st.new hn) (Ext.new hn)
end DL
namespace DL
open PySem PySem.Spec PyProof.Rows L2
section
variable{P:Program}{w:World}{H H':Hp}{h h':Heap}{a:Addr}{o:HO}
theorem yH{T:Addr}(x:HOk P w H h)(hT:H T=some (TO T))(k:∀b,b≠T->h'.get? b=h.get? b)(hT':∃o,h'.get? T=some o)(fs:List Addr) :
  Un fs [] H H h h'/\HOk P w H h':=by
 have ne:∀b,H b=none->b≠T:=fun b n z=>by rw[z,hT] at n;cases n
 refine⟨⟨fun b u q n _ _=>(k b (ne b n)).trans q,fun b u q n _ _=>⟨u.slots,(k b (ne b n)).trans q⟩,fun _ _ _ n _=>n,fun b u q _=>?_,fun _ _ q=>q,fun _ _ _ q=>q,fun b ps q=>⟨#[],by rw[q];simp⟩⟩,fun b u e=>?_⟩
 ·by_cases z:b=T
  ·subst z;exact hT'
  ·exact⟨u,(k b z).trans q⟩
 ·by_cases z:b=T
  ·subst z;rw[hT] at e;cases e;exact pN hT'
  ·refine(x b u e).stay (fun c v hc q=>(k c ?_).trans q) (fun _ q=>q) fun _ _ q=>q
   rcases hc with rfl|hc
   ·exact z
   ·rintro rfl;rw[hT] at hc;cases hc
end
def Cx.marked(X:Cx)(a:Addr):Cx:={ X with A:=X.A.mark (some (.ref a)),calm:=false }
section
variable{X:Cx}{pins:Pins}{σ:L2.St}{H:Hp}{s:Shared}{a c T:Addr}
theorem vQ(I:Inv X pins σ H s)(a:Addr):Inv (Cx.marked X a) pins σ H s:=
 ⟨⟨I.ok.mod,I.ok.kind,I.ok.glob,I.ok.blt,I.ok.above,I.ok.inj,I.ok.has,I.ok.cab,fun z=>(nomatch z),I.ok.frames,I.ok.stk,I.ok.exf,I.ok.bs,I.ok.bsz,I.ok.noex,I.ok.exfs,I.ok.funs,I.ok.frf⟩,I.os,I.bare,I.base,I.loc,I.cell,I.free,I.freeC,I.pin,I.hok,I.len⟩
theorem gY(ok:X.Ok)(I:Inv (Cx.marked X a) pins σ H s):Inv X pins σ H s:=⟨ok,I.os,I.bare,I.base,I.loc,I.cell,I.free,I.freeC,I.pin,I.hok,I.len⟩
theorem oq{M:Model}{A:Around}{Q:Unit->Shared->Prop}{E:Value->Shared->Prop}(I:Inv X pins σ H s)(hT:H T=some (TO T))(t:Tr s.heap a c T)
  (hq:∀h',Inv X pins σ H { s with heap:=h' }->(∃o,h'.get? a=some o/\o.cls=.ref c)->Q () { s with heap:=h' }):wpAny M A (setFlight (.ref a) none) Q E s:=by
 obtain⟨oe,vs,oT,ts,a0,he,hcls,hd,h0,h1,hTe,hTo,hdT,h3⟩:=t;unfold setFlight;refine wpAny_bind (wpAny_field he hd h1 ?_);rw[if_pos (show(Value.ref T != Value.none)=true from by simp)];refine wpAny_setField hTo hdT (Array.getElem?_eq_some_iff.mp h3).1 ?_;have k:∀b,b≠T->(s.heap.update T (Obj.mapFields (·.setIfInBounds 3 ((none:Option Addr).elim Value.none fun f=>rawInt f)))).get? b=s.heap.get? b:=fun b hb=>Heap.get?_update_other _ _ (Ne.symm hb)
 obtain⟨u1,u2⟩:=yH I.hok hT k ⟨_,Heap.get?_update_self _ hTo (Obj.isFreed_of_fields (Obj.data_mapFields hdT _))⟩ X.fs;exact hq _ (I.un (t':=s.toks) u1 u2) ⟨oe,(k a (Ne.symm hTe)).trans he,hcls⟩
end
structure SubX(K:PySem.W.Frag)(c C:Addr):Prop where
 sub:PySem.W.subIn K (.ref c) (.ref C)=some true
theorem tD{M:Model}{A:Around}{E:Value->Shared->Prop}{s:Shared}{K:PySem.W.Frag}{a c C:Addr}{x:Str}{mg:Str->Option Value}{Q:Bool->Shared->Prop}(X:K.In s.heap)(hC:ExcK K mg x C)(hs:PySem.W.subIn K (.ref c) (.ref C)=some true)
  (he:∃o,s.heap.get? a=some o/\o.cls=.ref c) (hq:Q true s):wpAny M A (excMatches (.ref a) (.ref C)) Q E s:=by
 obtain⟨tl,N,nm,q,bs,hdct,sn,sub,ab,col,dd,k0,k1,k2,k3,k5,mN,hCo,hN,hni,T⟩:=rj X hC.cls;obtain⟨oe,he,hcls⟩:=he;have hcB:(Value.ref C :: tl).contains (.type "BaseException")=true:=by rw[List.contains_cons,T.hasType PySem.F.excBase_ValueError.hasBase,Bool.or_true]
 have f:=tc_notTuple;obtain⟨hh,g,d,tk,os⟩:=s;have L:=PySem.W.looks_subIn (M:=M) X hs;unfold excMatches
 repeat (first|(with_reducible refine wpAny_loadPart_at he ?_;rw[hcls])|with_reducible refine wpAny_loadPart_at hCo ?_|(with_reducible refine wpAny_isSubtype_exc hCo ?_;rw[hcB])|(with_reducible refine L.here ?_)|wp_step)
 exact hq
def noX:RSt->RSt
 |some (.xc _ _,_)=>none
 |x=>x
def vX(L:List Addr)(t u:TSt):TSt:=fun r S=>match t r S with
 |some (.xc c r',S')=>if c∈L then noX (u r' S') else none
 |x=>x
section
variable{X:Cx}{body suite:List Stmt}{b₀:Stmt}{t u:TSt}{pos np hp:Pos}{x:Str}{C:Addr}{L:List Addr}
theorem BM(hC:ExcK X.K X.mg x C)(hL:∀c∈L,PySem.W.subIn X.K (.ref c) (.ref C)=some true)(hg:Gl X x)(hst:X.stack=X.env :: X.outer/\X.env.frame=some X.env.locals)(hb:mL X body t)(hs:∀a,mL (Cx.marked X a) (b₀ :: suite) u)
  (hdb:(x == ("__debug__":Str))=false:=by decide) :
  PSd X (.Try body [.ExceptHandler (some (.Name x np)) none (b₀ :: suite) hp] [] [] pos) (vX L t u):=by
 intro pins s σ H J r S Q E I m;refine wpAny_Try_except (hb pins s σ H J r S _ _ I ?_);unfold vX at m
 match e:t r S with
 |none=>rw[e] at m;exact m
 |some (.nx r',S')=>
  rw[e] at m;exact fun s' σ' H' J' a x=>wpAny_execs_nil (m s' σ' H' J' a x)
 |some (.bk r',S')=>rw[e] at m;exact m
 |some (.ct r',S')=>rw[e] at m;exact m
 |some (.rt d,S')=>rw[e] at m;exact m
 |some (.xc c r',S')=>
  rw[e] at m;dsimp only at m;split at m
  ·rename_i hcL;rintro ev s' σ' H' J' ⟨I1,a,rfl,hX,hc⟩ rl rs ex;refine wv hst I1 hX hc fun h' T' hn un hok tr=>?_
   have hne:a≠T':=bi hX hn;have I2:Inv X pins σ' (upd H' T' (TO T')) { s' with heap:=h' }:=I1.call (h':=h') (g':=s'.gens) (d':=s'.drawn) (t':=s'.toks) (ch:=[]) un hok I1.bare (fun b z=>absurd z (by simp));have I3:=vQ I2 a;refine wpAny_handleBy_cons (codeAny_handlers_test (kK (X:=Cx.marked X a) I3 hg hC.nm ?_ hdb)) (by intro q;cases q);refine tD I2.kIn hC (hL c hcL) tr.cls (codeAny_handlers_suite ?_);refine oq I3 bE tr fun h2 I4 _=>?_
   have ex2:Ext H' J' (upd H' T' (TO T')) J':=Ext.new hn;refine hs a pins _ σ' _ J' r' S' _ _ ⟨I4,rl.ext ex2,rs.new hn⟩ ?_;have m2:=MtS.ext (ex.trans ex2) m
   match e2:u r' S' with
   |none=>rw[e2] at m2;exact m2
   |some (.nx r2,S2)=>rw[e2] at m2;exact fun s3 σ3 H3 J3 a3 x3=>m2 s3 σ3 H3 J3 ⟨gY I2.ok a3.inv,a3.loc,a3.st⟩ x3
   |some (.bk r2,S2)=>rw[e2] at m2;exact fun s3 σ3 H3 J3 a3 x3=>m2 s3 σ3 H3 J3 ⟨gY I2.ok a3.inv,a3.loc,a3.st⟩ x3
   |some (.ct r2,S2)=>rw[e2] at m2;exact fun s3 σ3 H3 J3 a3 x3=>m2 s3 σ3 H3 J3 ⟨gY I2.ok a3.inv,a3.loc,a3.st⟩ x3
   |some (.rt d,S2)=>rw[e2] at m2;exact fun v s3 σ3 ⟨vv,H3,I5,rv,g⟩=>m2 v s3 σ3 ⟨vv,H3,gY I2.ok I5,rv,g⟩
   |some (.xc c2 r2,S2)=>rw[e2] at m2;exact m2.elim
  ·exact m.elim
end
end DL
namespace DL
open PySem PySem.Spec PyProof.Rows L2
section
variable{X:Cx}{pins:Pins}{σ:L2.St}{H:Hp}{s:Shared}
end
section
variable{X:Cx}{body suite:List Stmt}{b₀:Stmt}{t u:TSt}{pos np hp:Pos}{x n:Str}{C:Addr}{L:List Addr}{i:Nat}
end
section
variable{X:Cx}{e:Expr}{fe:DSt->M D}{pos:Pos}
end
end DL
namespace DL
open PySem PySem.Spec PyProof.Rows L2
theorem Bh{α:Type}{P:α->Prop}:∀c∈([]:List α),P c:=fun _ h=>nomatch h
theorem A1{α:Type}{P:α->Prop}{x:α}{l:List α}(h:P x)(t:∀c∈l,P c):∀c∈x :: l,P c:=fun c hc=>(List.mem_cons.mp hc).elim (fun e=>e ▸ h) (t c)
section
variable{X:Cx}{pos p p2 p3 p4:Pos}
end
end DL
namespace DL
open PySem PySem.Spec PyProof.Rows L2
def CK:D->Bool
 |.non=>true
 |_=>false
def mh(x y:D):M D:=fun S=>match y with
 |.non=>.ok (.bl (!CK x)) S
 |_=>.bad
theorem RepV.nonIff{K:PySem.W.Frag}{H:Hp}{J:List Addr}{d:D}{v:V}(h:RepV K H J d v):decide (v=.non)=CK d:=by
 cases d with
 |non=>cases h.non_;rfl
 |bl b=>cases h.bl_;rfl
 |int i=>cases h.int_;rfl
 |str x=>cases h.str_;rfl
 |tup xs=>obtain⟨a,vs,rfl,_⟩:=h.tup_;rfl
 |rol xs=>obtain⟨a,vs,rfl,_⟩:=h.rol_;rfl
 |ob n=>obtain⟨a,rfl,_⟩:=h.ob_;rfl
 |xn c=>obtain⟨a,rfl,_⟩:=h.xn_;rfl
section
variable{X:Cx}
theorem wX:OpD X (compareOp .IsNot) mh:=by
 intro pins s σ H J S x y vx vy v u Q E I rs rx ry rv ru m;cases y with
 |non=>
  cases ry.non_;cases ru;refine isnot_none_gen ?_;rw[rv.none_iff,rx.nonIff];exact m.ok_ I rs (RepV.bl _ _ _ _) rfl
 |_=>exact m.elim
end
end DL
namespace DL
open PySem PySem.Spec PyProof.Rows L2
structure NoX(K:PySem.W.Frag)(c:Addr):Prop where
 cls:PySem.W.excIn K c [.type "ValueError",.type "Exception",.type "BaseException",.type "object"] "ValueError.__new__"=true
 ga:PySem.W.findIn K (.ref c) "__getattribute__"=some (some (.builtin "BaseException.__getattribute__"))
 gat:PySem.W.findIn K (.ref c) "__getattr__"=some none
 clas:PySem.W.findIn K (.ref c) "__class__"=some (some (.builtin "object.__class__"))
section
variable{prog:Program}{w:World}{A:Around}{E:Value->Shared->Prop}{h:Heap}{g:Array GenState}{d:Drawn}{t:Nat}{os:OsState}{a:Addr}{o:Obj}{K:PySem.W.Frag}
 {nm q:Str}{C N:Addr}{bs bm:List Value}{hdct:Bool}{sn:List Str}{sub:List Value}{ab:Bool}{col:Option Bool}{dd:Option Addr}{k0 k1 k2 k3 k5:Option Value}{newId:String}
end
end DL
namespace DL
open PySem PySem.Spec PyProof.Rows L2
section
variable{env:Env}{es:List Expr}
theorem bS{c k p}:starEach (.Constant c k p :: es) env=(false,eval (.Constant c k p) env) :: starEach es env:=rfl
theorem kX{c k p}:starEach (.Tuple c k p :: es) env=(false,eval (.Tuple c k p) env) :: starEach es env:=rfl
theorem sA{a o b p}:starEach (.BinOp a o b p :: es) env=(false,eval (.BinOp a o b p) env) :: starEach es env:=rfl
theorem aV{x p}:starEach (.Name x p :: es) env=(false,eval (.Name x p) env) :: starEach es env:=rfl
theorem kc{f a k p}:starEach (.Call f a k p :: es) env=(false,eval (.Call f a k p) env) :: starEach es env:=rfl
theorem da{a b p}:starEach (.Subscript a b p :: es) env=(false,eval (.Subscript a b p) env) :: starEach es env:=rfl
theorem rD{a b c p}:starEach (.ListComp a b c p :: es) env=(false,eval (.ListComp a b c p) env) :: starEach es env:=rfl
end
end DL
namespace DL
open PySem PySem.Spec PyProof.Rows
section
variable{prog:Program}{w:World}{A:Around}{E:Value->Shared->Prop}{s:Shared}{b:Array Keyed}
end
end DL
namespace DL
open PySem PySem.Spec PyProof.Rows L2
theorem kP:∀{ns:List Int}{us:List Value},IntsAre us ns->Vals (ns.map V.int) us
 |_,_,.nil=>.nil
 |_,_,.cons n t h=>.cons ⟨t,rfl⟩ (kP h)
section
variable{X:Cx}
end
end DL
namespace DL
open PySem PySem.Spec PyProof.Rows L2
end DL
namespace Lw
open PySem L2 DL
open PyProof.Rows (boot_max boot_min boot_sum boot_all boot_int boot_tuple boot_list boot_isinstance boot_range boot_enumerate boot_bool)
theorem mSc{N P:List Str}{sc:Scope}(a:sc.kind=.function:=by rfl)(b:sc.isCoroutine=false:=by rfl)(c:sc.isGenerator=false:=by rfl)(d:N.Nodup:=by decide +kernel)(e:N.take P.length=P:=by rfl)(f:∀x∈P,sc.names.lookup x=some .local\/sc.names.lookup x=some .cell:=by decide +kernel)(g:∀y∈sc.names,y.2≠.free:=by decide +kernel):FnScope N P sc:=⟨a,b,c,d,e,f,g⟩
@[simp] def mF(n:Nat)(c:TSt):List D->M D:=fun xs S=>fin S (c (xs.map some++List.replicate (n-xs.length) none) S)
@[simp] def mP(n:Nat)(c:TSt):List D->M D:=fun xs S=>cN S (c (xs.map some++List.replicate (n-xs.length) none) S)
theorem fE{P:Program}{w:World}{K:PySem.W.Frag}{mg:Str->Option Value}{base:Heap}{x qual:Str}{st:Stmt}{f:Addr}{fd:FuncData}{N ps:List Str}{k:Nat}{t:TSt}(hF:Fun K x qual st f fd)(S:FnScope N ps (defScope st))(h:∀(cdv:Value) (A:Around) (outer:List Env) (s:Shared) (H:Hp) (E:XK),Room k (A.deeper (PyProof.Rows.envOfC qual (defScope st) s.heap.objs.size f cdv))->mL (ou (CXE P w) P w K mg base N qual (defScope st) f cdv A outer s H E) (defBody st) t):FnD P w K mg base (CXE P w) (k+1) f fd ps (mF N.length t):=pE hF S (fun _ _ _ _ _ _=>mo) (fun cdv A outer s H E hr=>⟨t,h cdv A outer s H E hr,fun xs S0 hl=>lZ⟩)
theorem fG{P:Program}{w:World}{K:PySem.W.Frag}{mg:Str->Option Value}{base:Heap}{x qual:Str}{st:Stmt}{f:Addr}{fd:FuncData}{N ps:List Str}{k:Nat}{t:TSt}(hF:Fun K x qual st f fd)(S:FnScope N ps (defScope st))(h:∀(cdv:Value) (A:Around) (outer:List Env) (s:Shared) (H:Hp) (E:XK),Room k (A.deeper (PyProof.Rows.envOfC qual (defScope st) s.heap.objs.size f cdv))->mL (ou (CXE P w) P w K mg base N qual (defScope st) f cdv A outer s H E) (defBody st) t):FnD P w K mg base (CXE P w) (k+1) f fd ps (mP N.length t):=pE hF S (fun _ _ _ _ _ _=>mo) (fun cdv A outer s H E hr=>⟨t,h cdv A outer s H E hr,fun xs S0 hl=>w5⟩)
def top(i:Nat):Stmt:=PySem.Challenge.pw_sureroad_k18_whole_doubles_do_no_harm.main.body.getD i (.Pass ⟨0,0,0,0⟩)
abbrev lF:Stmt:=top 40
abbrev kt:Stmt:=top 39
abbrev iw:Stmt:=top 42
abbrev eY:Stmt:=bq (top 14) 0
abbrev ff:Stmt:=bq (top 12) 0
abbrev fP:Stmt:=bq (top 36) 0
abbrev kF:Stmt:=top 43
abbrev fF:Stmt:=bq (top 36) 14
abbrev iD:Stmt:=bq (top 36) 6
abbrev ku:Stmt:=top 33
abbrev iY:Stmt:=top 31
abbrev lE:Stmt:=top 25
abbrev pC:Stmt:=top 26
abbrev lH:Stmt:=top 27
abbrev lP:Stmt:=top 28
abbrev mU:Stmt:=top 29
abbrev vH:Stmt:=top 34
abbrev lR:Stmt:=top 30
abbrev mO:Stmt:=top 32
abbrev eM:Stmt:=bq (top 36) 15
abbrev iB:Stmt:=bq (top 12) 2
abbrev dW:Stmt:=bq (top 12) 4
abbrev jG:Stmt:=top 5
abbrev jS:Stmt:=top 7
abbrev jo:Stmt:=bq (top 12) 6
abbrev jI:Stmt:=top 10
abbrev jj:Stmt:=bq (top 12) 8
abbrev fB:Stmt:=bq (top 12) 7
abbrev kA:Stmt:=top 6
abbrev iX:Stmt:=bq (top 12) 9
abbrev eh:Stmt:=bq (top 12) 5
abbrev iH:Stmt:=bq (top 12) 3
abbrev j9:Stmt:=top 9
abbrev eJ:Stmt:=bq (top 14) 4
abbrev eK:Stmt:=bq (top 14) 11
abbrev dQ:Stmt:=bq (top 14) 12
abbrev d8:Stmt:=bq (top 14) 10
abbrev eF:Stmt:=bq (top 14) 9
abbrev io:Stmt:=bq (top 14) 8
abbrev iJ:Stmt:=bq (top 36) 16
abbrev jL:Stmt:=bq (top 36) 4
abbrev gz:Stmt:=bq (top 36) 9
abbrev i9:Stmt:=bq (top 14) 1
abbrev jD:Stmt:=bq (top 36) 1
abbrev iK:Stmt:=top 41
abbrev fQ:Stmt:=bq (top 14) 7
abbrev gG:Stmt:=bq (top 14) 6
abbrev je:Stmt:=bq (top 14) 5
abbrev jN:Stmt:=bq (top 36) 3
abbrev jV:Stmt:=bq (top 36) 5
abbrev mY:Stmt:=top 37
abbrev jf:Stmt:=bq (top 36) 7
abbrev jm:Stmt:=bq (top 14) 3
abbrev ji:Stmt:=bq (top 12) 1
abbrev jX:Stmt:=bq (top 36) 8
abbrev ik:Stmt:=bq (top 14) 2
abbrev jk:Stmt:=bq (top 36) 2
abbrev nE:Stmt:=top 44
abbrev eI:Stmt:=bq (top 36) 13
abbrev eW:Stmt:=bq (top 36) 10
abbrev gK:Stmt:=bq (top 36) 11
abbrev fK:Stmt:=bq (top 36) 12
abbrev kz:Stmt:=top 46
abbrev rG:Stmt:=top 47
structure Cs where
 Hearer:Addr
 Sender:Addr
 World:Addr
 NoCard:Addr
 NoStrip:Addr
abbrev ns_Hearer:List Str:=["window","given","opening","next_index","early","begun"]
theorem aX:ns_Hearer.Nodup:=by decide +kernel
abbrev ns_Sender:List Str:=["window","most","messages","sure","opening","state","pieces","base","noted"]
theorem aE:ns_Sender.Nodup:=by decide +kernel
abbrev ns_World:List Str:=["sender","hearer","roads"]
theorem bR:ns_World.Nodup:=by decide +kernel
abbrev ks_KINDS:List Str:=["hello","welcome","who","data","note"]
abbrev d3:D:=.tup (ks_KINDS.map D.str)
abbrev ks_SHORT_KINDS:List Str:=["hello","welcome","who"]
abbrev eo:D:=.tup (ks_SHORT_KINDS.map D.str)
abbrev k_TOP_OPENING:D:=.int 65535
abbrev k_TOP_NUMBER:D:=.int 13
abbrev k_TOP_CELL:D:=.int 255
abbrev k_MOST_PIECE_LETTERS:D:=.int 8
abbrev k_MOST_BITS:D:=.int 7
abbrev k_HEAD_CELLS:D:=.int 3
abbrev k_CHECK_CELLS:D:=.int 2
structure Txt(K:PySem.W.Frag)(mg:Str->Option Value)(G:Cs):Prop where
 b_all:mg "all"=none
 b_bool:mg "bool"=none
 b_enumerate:mg "enumerate"=none
 b_int:mg "int"=none
 b_isinstance:mg "isinstance"=none
 b_len:mg "len"=none
 b_list:mg "list"=none
 b_max:mg "max"=none
 b_min:mg "min"=none
 b_range:mg "range"=none
 b_sum:mg "sum"=none
 b_tuple:mg "tuple"=none
 cl_Hearer:Cls K G.Hearer
 na_Hearer_window:NoAttr K G.Hearer "window"
 na_Hearer_given:NoAttr K G.Hearer "given"
 na_Hearer_opening:NoAttr K G.Hearer "opening"
 na_Hearer_next_index:NoAttr K G.Hearer "next_index"
 na_Hearer_early:NoAttr K G.Hearer "early"
 na_Hearer_begun:NoAttr K G.Hearer "begun"
 cl_Sender:Cls K G.Sender
 na_Sender_window:NoAttr K G.Sender "window"
 na_Sender_most:NoAttr K G.Sender "most"
 na_Sender_messages:NoAttr K G.Sender "messages"
 na_Sender_sure:NoAttr K G.Sender "sure"
 na_Sender_opening:NoAttr K G.Sender "opening"
 na_Sender_state:NoAttr K G.Sender "state"
 na_Sender_pieces:NoAttr K G.Sender "pieces"
 na_Sender_base:NoAttr K G.Sender "base"
 na_Sender_noted:NoAttr K G.Sender "noted"
 cl_World:Cls K G.World
 na_World_sender:NoAttr K G.World "sender"
 na_World_hearer:NoAttr K G.World "hearer"
 na_World_roads:NoAttr K G.World "roads"
 x_NoCard:ExcK K mg "NoCard" G.NoCard
 x_NoStrip:ExcK K mg "NoStrip" G.NoStrip
 su_NoStrip_NoStrip:PySem.W.subIn K (.ref G.NoStrip) (.ref G.NoStrip)=some true
 c_KINDS:KStrs K mg "KINDS" ks_KINDS
 c_SHORT_KINDS:KStrs K mg "SHORT_KINDS" ks_SHORT_KINDS
 c_TOP_OPENING:∃u,mg "TOP_OPENING"=some u/\KRep K k_TOP_OPENING u
 c_TOP_NUMBER:∃u,mg "TOP_NUMBER"=some u/\KRep K k_TOP_NUMBER u
 c_TOP_CELL:∃u,mg "TOP_CELL"=some u/\KRep K k_TOP_CELL u
 c_MOST_PIECE_LETTERS:∃u,mg "MOST_PIECE_LETTERS"=some u/\KRep K k_MOST_PIECE_LETTERS u
 c_MOST_BITS:∃u,mg "MOST_BITS"=some u/\KRep K k_MOST_BITS u
 c_HEAD_CELLS:∃u,mg "HEAD_CELLS"=some u/\KRep K k_HEAD_CELLS u
 c_CHECK_CELLS:∃u,mg "CHECK_CELLS"=some u/\KRep K k_CHECK_CELLS u
section
variable{P:Program}{w:World}{K:PySem.W.Frag}{mg:Str->Option Value}{base:Heap}
theorem tK:FnScope ["_law_cell_here","_law_prime","_law_many"] ["_law_cell_here","_law_prime","_law_many"] (defScope lF):=mSc
def n4:TSt:=(bM (dOp iP (dOp iP (dOp gX (aa 0) (dC (.int 48271))) (aa 1)) (aa 2)))
def aI:List D->M D:=mF 3 n4
theorem uq{G:Cs}(T:Txt K mg G){f:Addr}{fd:FuncData}(F:Fun K "_law_mix" "_law_mix" lF f fd):FnD P w K mg base (CXE P w) 1 f fd ["_law_cell_here","_law_prime","_law_many"] aI:=by
 refine fE F tK fun cdv A outer s H E hr=>?_
 have hu:=hr.units;exact(@al _ _ _ (@bc _ _ _ _ (@bJ _ _ _ _ _ _ _ _ gJ (@bJ _ _ _ _ _ _ _ _ gJ (@bJ _ _ _ _ _ _ _ _ ko (af 0) (@ar _ _ _ _)) (af 1)) (af 2))))
theorem tf:FnScope ["_law_script","_law_k"] ["_law_script","_law_k"] (defScope kt):=mSc
def jY:TSt:=(aJ (sIf (ao (dOp ltD (aa 1) (am bC (ac (aa 0) aj)))) (bM (dOp ixD (aa 0) (aa 1))) bF)
 (bM (dC (.int 0))))
def bw:List D->M D:=mF 2 jY
theorem tG{G:Cs}(T:Txt K mg G){f:Addr}{fd:FuncData}(F:Fun K "_law_cell" "_law_cell" kt f fd):FnD P w K mg base (CXE P w) 1 f fd ["_law_script","_law_k"] bw:=by
 refine fE F tf fun cdv A outer s H E hr=>?_
 have hu:=hr.units;exact(@aq _ _ _ _ _ (bA (aH j2 (af 1) (bG dI rfl T.b_len PySem.boot_len (@ae _ _ _ _ _ (af 0) (@ah _) aV)) (aN _)) (@al _ _ _ (@bc _ _ _ _ (aM ixd (af 0) (af 1) (fun _ _=>rfl)))) bg)
   (@al _ _ _ (@bc _ _ _ _ (@ar _ _ _ _))))
theorem sc__law_setting:FnScope ["_law_script","_law_window","_law_most"] ["_law_script"] (defScope iw):=mSc
def gE:TSt:=(aJ (cB (dOp bP (dC (.int 1)) (am aI (ac (am bw (ac (aa 0) (ac (dC (.int 0)) aj))) (ac (dC (.int 9883)) (ac (dC (.int 7)) aj))))) (gN 1))
 (aJ (cB (dOp bP (dC (.int 1)) (am aI (ac (am bw (ac (aa 0) (ac (dC (.int 1)) aj))) (ac (dC (.int 9871)) (ac (dC (.int 8)) aj))))) (gN 2))
 (bM (cf (ac (aa 1) (ac (aa 2) aj))))))
def eX:List D->M D:=mF 3 gE
theorem oo{G:Cs}(T:Txt K mg G)(h__law_cell:Cal P w K mg base (CXE P w) "_law_cell" 1 ["_law_script","_law_k"] bw)(h__law_mix:Cal P w K mg base (CXE P w) "_law_mix" 1 ["_law_cell_here","_law_prime","_law_many"] aI){f:Addr}{fd:FuncData}(F:Fun K "_law_setting" "_law_setting" iw f fd):FnD P w K mg base (CXE P w) 2 f fd ["_law_script"] eX:=by
 refine fE F sc__law_setting fun cdv A outer s H E hr=>?_
 have hu:=hr.units;exact(@aq _ _ _ _ _ (@bI _ _ _ _ 1 _ _ sc__law_setting.nd (@bJ _ _ _ _ _ _ _ _ cA (@ar _ _ _ _) (aQ h__law_mix (hr.mono (by decide)) rfl aF (@ae _ _ _ _ _ (aQ h__law_cell (hr.mono (by decide)) rfl aF (@ae _ _ _ _ _ (af 0) (@ae _ _ _ _ _ (@ar _ _ _ _) (@ah _) bS) aV) (ak (ak aC))) (@ae _ _ _ _ _ (@ar _ _ _ _) (@ae _ _ _ _ _ (@ar _ _ _ _) (@ah _) bS) bS) kc) (ak (ak (ak aC))))) rfl (by first|exact Or.inl rfl|exact Or.inr rfl) rfl (by first|exact .inl rfl|exact .inr rfl|assumption))
   (@aq _ _ _ _ _ (@bI _ _ _ _ 2 _ _ sc__law_setting.nd (@bJ _ _ _ _ _ _ _ _ cA (@ar _ _ _ _) (aQ h__law_mix (hr.mono (by decide)) rfl aF (@ae _ _ _ _ _ (aQ h__law_cell (hr.mono (by decide)) rfl aF (@ae _ _ _ _ _ (af 0) (@ae _ _ _ _ _ (@ar _ _ _ _) (@ah _) bS) aV) (ak (ak aC))) (@ae _ _ _ _ _ (@ar _ _ _ _) (@ae _ _ _ _ _ (@ar _ _ _ _) (@ah _) bS) bS) kc) (ak (ak (ak aC))))) rfl (by first|exact Or.inl rfl|exact Or.inr rfl) rfl (by first|exact .inl rfl|exact .inr rfl|assumption))
   (@al _ _ _ (@bc _ _ _ _ (@bX _ _ _ _ _ (@ae _ _ _ _ _ (af 1) (@ae _ _ _ _ _ (af 2) (@ah _) aV) aV))))))
theorem lO:FnScope ["self","window","most"] ["self","window","most"] (defScope eY):=mSc
def du(G:Cs):TSt:=(aJ (cL G.Sender [] "window" (aa 0) (aa 1))
 (aJ (cL G.Sender ["window"] "most" (aa 0) (aa 2))
 (aJ (cL G.Sender ["window","most"] "messages" (aa 0) (bW aj))
 (aJ (cL G.Sender ["window","most","messages"] "sure" (aa 0) (dC (.int 0)))
 (aJ (cL G.Sender ["window","most","messages","sure"] "opening" (aa 0) (dC (.int 0)))
 (aJ (cL G.Sender ["window","most","messages","sure","opening"] "state" (aa 0) (dC (.str "shut")))
 (aJ (cL G.Sender ["window","most","messages","sure","opening","state"] "pieces" (aa 0) (bW aj))
 (aJ (cL G.Sender ["window","most","messages","sure","opening","state","pieces"] "base" (aa 0) (dC (.int 0)))
 (cL G.Sender ["window","most","messages","sure","opening","state","pieces","base"] "noted" (aa 0) j0)))))))))
def bY(G:Cs):List D->M D:=fun xs S=>fin S (du G (xs.map some++List.replicate (3-xs.length) none) S)
theorem lD{G:Cs}(T:Txt K mg G){f:Addr}{fd:FuncData}(F:Fun K "__init__" "Sender.__init__" eY f fd):FnD P w K mg base (CXE P w) 1 f fd ["self","window","most"] (bY G):=by
 refine pE F lO (fun _ _ _ _ _ _=>mo) (fun cdv A outer s H E hr=>⟨du G,?_,fun xs S0 hl=>lZ⟩);have hu:=hr.units;exact(@aq _ _ _ _ _ (cP T.cl_Sender T.na_Sender_window (by decide) (by decide +kernel) (af 0) (af 1))
   (@aq _ _ _ _ _ (cP T.cl_Sender T.na_Sender_most (by decide) (by decide +kernel) (af 0) (af 2))
   (@aq _ _ _ _ _ (cP T.cl_Sender T.na_Sender_messages (by decide) (by decide +kernel) (af 0) (@cb _ _ _ _ (@ah _)))
   (@aq _ _ _ _ _ (cP T.cl_Sender T.na_Sender_sure (by decide) (by decide +kernel) (af 0) (@ar _ _ _ _))
   (@aq _ _ _ _ _ (cP T.cl_Sender T.na_Sender_opening (by decide) (by decide +kernel) (af 0) (@ar _ _ _ _))
   (@aq _ _ _ _ _ (cP T.cl_Sender T.na_Sender_state (by decide) (by decide +kernel) (af 0) (@aL _ _ _ _))
   (@aq _ _ _ _ _ (cP T.cl_Sender T.na_Sender_pieces (by decide) (by decide +kernel) (af 0) (@cb _ _ _ _ (@ah _)))
   (@aq _ _ _ _ _ (cP T.cl_Sender T.na_Sender_base (by decide) (by decide +kernel) (af 0) (@ar _ _ _ _))
   (@al _ _ _ (cP T.cl_Sender T.na_Sender_noted (by decide) (by decide +kernel) (af 0) oQ))))))))))
theorem lA:FnScope ["self","window"] ["self","window"] (defScope ff):=mSc
def dy(G:Cs):TSt:=(aJ (cL G.Hearer [] "window" (aa 0) (aa 1))
 (aJ (cL G.Hearer ["window"] "given" (aa 0) (bW aj))
 (aJ (cL G.Hearer ["window","given"] "opening" (aa 0) (dC (.int 0)))
 (aJ (cL G.Hearer ["window","given","opening"] "next_index" (aa 0) (dC (.int 0)))
 (aJ (cL G.Hearer ["window","given","opening","next_index"] "early" (aa 0) j0)
 (cL G.Hearer ["window","given","opening","next_index","early"] "begun" (aa 0) (bW aj)))))))
def bT(G:Cs):List D->M D:=fun xs S=>fin S (dy G (xs.map some++List.replicate (2-xs.length) none) S)
theorem ly{G:Cs}(T:Txt K mg G){f:Addr}{fd:FuncData}(F:Fun K "__init__" "Hearer.__init__" ff f fd):FnD P w K mg base (CXE P w) 1 f fd ["self","window"] (bT G):=by
 refine pE F lA (fun _ _ _ _ _ _=>mo) (fun cdv A outer s H E hr=>⟨dy G,?_,fun xs S0 hl=>lZ⟩);have hu:=hr.units;exact(@aq _ _ _ _ _ (cP T.cl_Hearer T.na_Hearer_window (by decide) (by decide +kernel) (af 0) (af 1))
   (@aq _ _ _ _ _ (cP T.cl_Hearer T.na_Hearer_given (by decide) (by decide +kernel) (af 0) (@cb _ _ _ _ (@ah _)))
   (@aq _ _ _ _ _ (cP T.cl_Hearer T.na_Hearer_opening (by decide) (by decide +kernel) (af 0) (@ar _ _ _ _))
   (@aq _ _ _ _ _ (cP T.cl_Hearer T.na_Hearer_next_index (by decide) (by decide +kernel) (af 0) (@ar _ _ _ _))
   (@aq _ _ _ _ _ (cP T.cl_Hearer T.na_Hearer_early (by decide) (by decide +kernel) (af 0) oQ)
   (@al _ _ _ (cP T.cl_Hearer T.na_Hearer_begun (by decide) (by decide +kernel) (af 0) (@cb _ _ _ _ (@ah _)))))))))
theorem mn:FnScope ["self","window","most"] ["self","window","most"] (defScope fP):=mSc
def dN(G:Cs):TSt:=(aJ (cL G.World [] "sender" (aa 0) (am (gO G.Sender (bY G)) (ac (aa 1) (ac (aa 2) aj))))
 (aJ (cL G.World ["sender"] "hearer" (aa 0) (am (gO G.Hearer (bT G)) (ac (aa 1) aj)))
 (cL G.World ["sender","hearer"] "roads" (aa 0) (oY (il (dC (.str "there")) (bW aj) (il (dC (.str "back")) (bW aj) rA))))))
def cn(G:Cs):List D->M D:=fun xs S=>fin S (dN G (xs.map some++List.replicate (3-xs.length) none) S)
theorem mz{G:Cs}(T:Txt K mg G)(h_Sender:CalI P w K mg base (CXE P w) "Sender" G.Sender 1 ["self","window","most"] (bY G))(h_Hearer:CalI P w K mg base (CXE P w) "Hearer" G.Hearer 1 ["self","window"] (bT G)){f:Addr}{fd:FuncData}(F:Fun K "__init__" "World.__init__" fP f fd):FnD P w K mg base (CXE P w) 3 f fd ["self","window","most"] (cn G):=by
 refine pE F mn (fun _ _ _ _ _ _=>mo) (fun cdv A outer s H E hr=>⟨dN G,?_,fun xs S0 hl=>lZ⟩);have hu:=hr.units;exact(@aq _ _ _ _ _ (cP T.cl_World T.na_World_sender (by decide) (by decide +kernel) (af 0) (oN h_Sender (hr.mono (by decide)) rfl aF (@ae _ _ _ _ _ (af 1) (@ae _ _ _ _ _ (af 2) (@ah _) aV) aV) (cI (ak (ak aC)))))
   (@aq _ _ _ _ _ (cP T.cl_World T.na_World_hearer (by decide) (by decide +kernel) (af 0) (oN h_Hearer (hr.mono (by decide)) rfl aF (@ae _ _ _ _ _ (af 1) (@ah _) aV) (cI (ak aC))))
   (@al _ _ _ (cP T.cl_World T.na_World_roads (by decide) (by decide +kernel) (af 0) (zS (uP (@aL _ _ _ _) (@cb _ _ _ _ (@ah _)) (uP (@aL _ _ _ _) (@cb _ _ _ _ (@ah _)) zT)))))))
theorem sc__law_acts:FnScope ["_law_script","_law_falls","_law_found","_law_cell_here","_law_turn","_law_road"] ["_law_script","_law_falls"] (defScope kF):=mSc
def eU:TSt:=(aJ (cB (am aI (ac (aa 3) (ac (dC (.int 9859)) (ac (dC (.int 20)) aj)))) (gN 4))
 (aJ (cB (dOp ixD (bW (ac (dC (.str "there")) (ac (dC (.str "back")) aj))) (am aI (ac (aa 3) (ac (dC (.int 9857)) (ac (dC (.int 2)) aj))))) (gN 5))
 (sIf (ao (dOp ltD (aa 4) (dC (.int 2)))) (bz (dBM jO (aa 2) (ac (cf (ac (dC (.str "hand")) (ac (aa 3) aj))) aj))) (sIf (ao (dOp ltD (aa 4) (dC (.int 6)))) (bz (dBM jO (aa 2) (ac (cf (ac (dC (.str "tick")) aj)) aj))) (sIf (ao (dOp ltD (aa 4) (dC (.int 14)))) (cB (dOp bP (aa 2) (dOp gX (bW (ac (cf (ac (dC (.str "step")) (ac (aa 5) aj))) aj)) (dOp bP (dC (.int 1)) (am aI (ac (aa 3) (ac (dC (.int 9851)) (ac (dC (.int 4)) aj))))))) (gN 2)) (sIf (ao (dOp ltD (aa 4) (dC (.int 17)))) (bz (dBM jO (aa 2) (ac (cf (ac (dOp ixD (bW (ac (dC (.str "lose")) (ac (dC (.str "double")) (ac (dC (.str "spoil")) aj)))) (dOp qx (aa 4) (dC (.int 14)))) (ac (aa 5) (ac (am aI (ac (aa 3) (ac (dC (.int 9839)) (ac (dC (.int 6)) aj)))) (ac (aa 3) aj))))) aj))) (sIf (dr (ao (dOp eqD (aa 4) (dC (.int 17)))) (bU (aa 1))) (cB (dOp bP (aa 2) (bW (ac (cf (ac (dC (.str "fall")) (ac (dOp ixD (bW (ac (dC (.str "sender")) (ac (dC (.str "hearer")) aj))) (am aI (ac (aa 3) (ac (dC (.int 9833)) (ac (dC (.int 2)) aj))))) aj))) aj))) (gN 2)) (bz (dBM jO (aa 2) (ac (cf (ac (dC (.str "open")) aj)) aj))))))))))
def jQ:TSt:=(aJ (cB (bW (ac (cf (ac (dC (.str "open")) aj)) (ac (cf (ac (dC (.str "hand")) (ac (am bw (ac (aa 0) (ac (dC (.int 2)) aj))) aj))) aj))) (gN 2))
 (aJ (qC (dWk (dSl slD (aa 0) (bQ (dC (.int 3))) (bQ (dC (.int 63))))) (gN 3) eU)
 (bM (aa 2))))
def gr:List D->M D:=mF 6 jQ
theorem sZ{G:Cs}(T:Txt K mg G)(h__law_cell:Cal P w K mg base (CXE P w) "_law_cell" 1 ["_law_script","_law_k"] bw)(h__law_mix:Cal P w K mg base (CXE P w) "_law_mix" 1 ["_law_cell_here","_law_prime","_law_many"] aI){f:Addr}{fd:FuncData}(F:Fun K "_law_acts" "_law_acts" kF f fd):FnD P w K mg base (CXE P w) 2 f fd ["_law_script","_law_falls"] gr:=by
 refine fE F sc__law_acts fun cdv A outer s H E hr=>?_
 have hu:=hr.units;exact(@aq _ _ _ _ _ (@bI _ _ _ _ 2 _ _ sc__law_acts.nd (@cb _ _ _ _ (@ae _ _ _ _ _ (@bX _ _ _ _ _ (@ae _ _ _ _ _ (@aL _ _ _ _) (@ah _) bS)) (@ae _ _ _ _ _ (@bX _ _ _ _ _ (@ae _ _ _ _ _ (@aL _ _ _ _) (@ae _ _ _ _ _ (aQ h__law_cell (hr.mono (by decide)) rfl aF (@ae _ _ _ _ _ (af 0) (@ae _ _ _ _ _ (@ar _ _ _ _) (@ah _) bS) aV) (ak (ak aC))) (@ah _) kc) bS)) (@ah _) kX) kX)) rfl (by first|exact Or.inl rfl|exact Or.inr rfl) rfl (by first|exact .inl rfl|exact .inr rfl|assumption))
   (@aq _ _ _ _ _ (mW rfl (gQ (dR sld (af 0) (di (@ar _ _ _ _)) (di (@ar _ _ _ _)))) (cO (i:=3) sc__law_acts.nd) (@aq _ _ _ _ _ (@bI _ _ _ _ 4 _ _ sc__law_acts.nd (aQ h__law_mix (hr.mono (by decide)) rfl aF (@ae _ _ _ _ _ (af 3) (@ae _ _ _ _ _ (@ar _ _ _ _) (@ae _ _ _ _ _ (@ar _ _ _ _) (@ah _) bS) bS) aV) (ak (ak (ak aC)))) rfl (by first|exact Or.inl rfl|exact Or.inr rfl) rfl (by first|exact .inl rfl|exact .inr rfl|assumption))
   (@aq _ _ _ _ _ (@bI _ _ _ _ 5 _ _ sc__law_acts.nd (aM ixd (@cb _ _ _ _ (@ae _ _ _ _ _ (@aL _ _ _ _) (@ae _ _ _ _ _ (@aL _ _ _ _) (@ah _) bS) bS)) (aQ h__law_mix (hr.mono (by decide)) rfl aF (@ae _ _ _ _ _ (af 3) (@ae _ _ _ _ _ (@ar _ _ _ _) (@ae _ _ _ _ _ (@ar _ _ _ _) (@ah _) bS) bS) aV) (ak (ak (ak aC)))) (fun _ _=>rfl)) rfl (by first|exact Or.inl rfl|exact Or.inr rfl) rfl (by first|exact .inl rfl|exact .inr rfl|assumption))
   (@al _ _ _ (bA (aH j2 (af 4) (@ar _ _ _ _) (aN _)) (@al _ _ _ (@aU _ _ _ _ (d9 PySem.F.slot_list_append PySem.F.type_list_append dE (af 2) (@ae _ _ _ _ _ (@bX _ _ _ _ _ (@ae _ _ _ _ _ (@aL _ _ _ _) (@ae _ _ _ _ _ (af 3) (@ah _) aV) bS)) (@ah _) kX)) rfl)) (@al _ _ _ (bA (aH j2 (af 4) (@ar _ _ _ _) (aN _)) (@al _ _ _ (@aU _ _ _ _ (d9 PySem.F.slot_list_append PySem.F.type_list_append dE (af 2) (@ae _ _ _ _ _ (@bX _ _ _ _ _ (@ae _ _ _ _ _ (@aL _ _ _ _) (@ah _) bS)) (@ah _) kX)) rfl)) (@al _ _ _ (bA (aH j2 (af 4) (@ar _ _ _ _) (aN _)) (@al _ _ _ (@bI _ _ _ _ 2 _ _ sc__law_acts.nd (@bJ _ _ _ _ _ _ _ _ cA (af 2) (@bJ _ _ _ _ _ _ _ _ ko (@cb _ _ _ _ (@ae _ _ _ _ _ (@bX _ _ _ _ _ (@ae _ _ _ _ _ (@aL _ _ _ _) (@ae _ _ _ _ _ (af 5) (@ah _) aV) bS)) (@ah _) kX)) (@bJ _ _ _ _ _ _ _ _ cA (@ar _ _ _ _) (aQ h__law_mix (hr.mono (by decide)) rfl aF (@ae _ _ _ _ _ (af 3) (@ae _ _ _ _ _ (@ar _ _ _ _) (@ae _ _ _ _ _ (@ar _ _ _ _) (@ah _) bS) bS) aV) (ak (ak (ak aC))))))) rfl (by first|exact Or.inl rfl|exact Or.inr rfl) rfl (by first|exact .inl rfl|exact .inr rfl|assumption))) (@al _ _ _ (bA (aH j2 (af 4) (@ar _ _ _ _) (aN _)) (@al _ _ _ (@aU _ _ _ _ (d9 PySem.F.slot_list_append PySem.F.type_list_append dE (af 2) (@ae _ _ _ _ _ (@bX _ _ _ _ _ (@ae _ _ _ _ _ (aM ixd (@cb _ _ _ _ (@ae _ _ _ _ _ (@aL _ _ _ _) (@ae _ _ _ _ _ (@aL _ _ _ _) (@ae _ _ _ _ _ (@aL _ _ _ _) (@ah _) bS) bS) bS)) (@bJ _ _ _ _ _ _ _ _ vM (af 4) (@ar _ _ _ _)) (fun _ _=>rfl)) (@ae _ _ _ _ _ (af 5) (@ae _ _ _ _ _ (aQ h__law_mix (hr.mono (by decide)) rfl aF (@ae _ _ _ _ _ (af 3) (@ae _ _ _ _ _ (@ar _ _ _ _) (@ae _ _ _ _ _ (@ar _ _ _ _) (@ah _) bS) bS) aV) (ak (ak (ak aC)))) (@ae _ _ _ _ _ (af 3) (@ah _) aV) kc) aV) da)) (@ah _) kX)) rfl)) (@al _ _ _ (bA (PWd.pt (eB (aH (cw hu) (af 4) (@ar _ _ _ _) (aN _)) (dU (db (af 1))))) (@al _ _ _ (@bI _ _ _ _ 2 _ _ sc__law_acts.nd (@bJ _ _ _ _ _ _ _ _ cA (af 2) (@cb _ _ _ _ (@ae _ _ _ _ _ (@bX _ _ _ _ _ (@ae _ _ _ _ _ (@aL _ _ _ _) (@ae _ _ _ _ _ (aM ixd (@cb _ _ _ _ (@ae _ _ _ _ _ (@aL _ _ _ _) (@ae _ _ _ _ _ (@aL _ _ _ _) (@ah _) bS) bS)) (aQ h__law_mix (hr.mono (by decide)) rfl aF (@ae _ _ _ _ _ (af 3) (@ae _ _ _ _ _ (@ar _ _ _ _) (@ae _ _ _ _ _ (@ar _ _ _ _) (@ah _) bS) bS) aV) (ak (ak (ak aC)))) (fun _ _=>rfl)) (@ah _) da) bS)) (@ah _) kX))) rfl (by first|exact Or.inl rfl|exact Or.inr rfl) rfl (by first|exact .inl rfl|exact .inr rfl|assumption))) (@al _ _ _ (@aU _ _ _ _ (d9 PySem.F.slot_list_append PySem.F.type_list_append dE (af 2) (@ae _ _ _ _ _ (@bX _ _ _ _ _ (@ae _ _ _ _ _ (@aL _ _ _ _) (@ah _) bS)) (@ah _) kX)) rfl)))))))))))))))
   (@al _ _ _ (@bc _ _ _ _ (af 2)))))
theorem lG:FnScope ["self","road","k"] ["self","road","k"] (defScope fF):=mSc
def eL(G:Cs):TSt:=(bM (nz leD ltD (dC (.int 0)) (aa 2) (am bC (ac (dOp gp (aB G.World ns_World 2 (aa 0)) (aa 1)) aj))))
def aW(G:Cs):List D->M D:=mF 3 (eL G)
theorem lK{G:Cs}(T:Txt K mg G){f:Addr}{fd:FuncData}(F:Fun K "has_strip" "World.has_strip" fF f fd):FnD P w K mg base (CXE P w) 1 f fd ["self","road","k"] (aW G):=by
 refine fE F lG fun cdv A outer s H E hr=>?_
 have hu:=hr.units;exact(@al _ _ _ (@bc _ _ _ _ (qe pR j2 (@ar _ _ _ _) (af 2) (bG dI rfl T.b_len PySem.boot_len (@ae _ _ _ _ _ (aM (qv hu) (aD T.cl_World T.na_World_roads bR (af 0)) (af 1) (fun _ _=>rfl)) (@ah _) da)))))
theorem om:FnScope ["self","road","k"] ["self","road","k"] (defScope iD):=mSc
def gF(G:Cs):TSt:=(sIf (bU (aP G.World ns_World (aW G) (aa 0) (ac (aa 1) (ac (aa 2) aj)))) (bz (dBM uT (dOp gp (aB G.World ns_World 2 (aa 0)) (aa 1)) (ac (aa 2) (ac (dOp ixD (dOp gp (aB G.World ns_World 2 (aa 0)) (aa 1)) (aa 2)) aj)))) bF)
def cJ(G:Cs):List D->M D:=mF 3 (gF G)
theorem oa{G:Cs}(T:Txt K mg G)(h_World_has_strip:CalM P w K mg base (CXE P w) G.World "has_strip" 1 ["self","road","k"] (aW G)){f:Addr}{fd:FuncData}(F:Fun K "double" "World.double" iD f fd):FnD P w K mg base (CXE P w) 2 f fd ["self","road","k"] (cJ G):=by
 refine fE F om fun cdv A outer s H E hr=>?_
 have hu:=hr.units;exact(@al _ _ _ (bA (db (bh h_World_has_strip (hr.mono (by decide)) T.cl_World (by decide +kernel) aF (af 0) (@ae _ _ _ _ _ (af 1) (@ae _ _ _ _ _ (af 2) (@ah _) aV) aV) (cI (ak (ak aC))))) (@al _ _ _ (@aU _ _ _ _ (d9 PySem.F.slot_list_insert PySem.F.type_list_insert w3 (aM (qv hu) (aD T.cl_World T.na_World_roads bR (af 0)) (af 1) (fun _ _=>rfl)) (@ae _ _ _ _ _ (af 2) (@ae _ _ _ _ _ (aM ixd (aM (qv hu) (aD T.cl_World T.na_World_roads bR (af 0)) (af 1) (fun _ _=>rfl)) (af 2) (fun _ _=>rfl)) (@ah _) da) aV)) rfl)) bg))
theorem sc_card_from:FnScope ["cells","kind","opening","rest"] ["cells"] (defScope ku):=mSc
def eT:TSt:=(aJ (cB (dOp ixD (dC d3) (dOp ixD (aa 0) (dC (.int 0)))) (gN 1))
 (aJ (cB (dOp bP (dOp gX (dOp ixD (aa 0) (dC (.int 1))) (dC (.int 256))) (dOp ixD (aa 0) (dC (.int 2)))) (gN 2))
 (aJ (cB (dSl slD (aa 0) (bQ (dC k_HEAD_CELLS)) bN) (gN 3))
 (aJ (sIf (dr (ao (dOp eqD (aa 1) (dC (.str "data")))) (ao (dOp geD (am bC (ac (aa 3) aj)) (dC (.int 2))))) (bM (cf (ac (aa 1) (ac (aa 2) (ac (dOp ixD (aa 3) (dC (.int 0))) (ac (cf (ac (dOp ixD (aa 3) (dC (.int 1))) (ac (dSl slD (aa 3) (bQ (dC (.int 2))) bN) aj))) aj)))))) bF)
 (aJ (sIf (dr (ao (dOp eqD (aa 1) (dC (.str "note")))) (ao (dOp geD (am bC (ac (aa 3) aj)) (dC (.int 1))))) (bM (cf (ac (aa 1) (ac (aa 2) (ac (dOp ixD (aa 3) (dC (.int 0))) (ac (dSl slD (aa 3) (bQ (dC (.int 1))) bN) aj)))))) bF)
 (bM (dOp bP (cf (ac (aa 1) (ac (aa 2) aj))) (aa 3))))))))
def gq:List D->M D:=mP 4 eT
theorem tm{G:Cs}(T:Txt K mg G){f:Addr}{fd:FuncData}(F:Fun K "card_from" "card_from" ku f fd):FnD P w K mg base (CXE P w) 1 f fd ["cells"] gq:=by
 refine fG F sc_card_from fun cdv A outer s H E hr=>?_
 have hu:=hr.units;exact(@aq _ _ _ _ _ (@bI _ _ _ _ 1 _ _ sc_card_from.nd (aM ixd (dg rfl T.c_KINDS.glob) (aM ixd (af 0) (@ar _ _ _ _) (fun _ _=>rfl)) (fun _ _=>rfl)) rfl (by first|exact Or.inl rfl|exact Or.inr rfl) rfl (by first|exact .inl rfl|exact .inr rfl|assumption))
   (@aq _ _ _ _ _ (@bI _ _ _ _ 2 _ _ sc_card_from.nd (@bJ _ _ _ _ _ _ _ _ cA (@bJ _ _ _ _ _ _ _ _ ko (aM ixd (af 0) (@ar _ _ _ _) (fun _ _=>rfl)) (@ar _ _ _ _)) (aM ixd (af 0) (@ar _ _ _ _) (fun _ _=>rfl))) rfl (by first|exact Or.inl rfl|exact Or.inr rfl) rfl (by first|exact .inl rfl|exact .inr rfl|assumption))
   (@aq _ _ _ _ _ (@bI _ _ _ _ 3 _ _ sc_card_from.nd (dR sld (af 0) (di (dg rfl T.c_HEAD_CELLS)) fz) rfl (by first|exact Or.inl rfl|exact Or.inr rfl) rfl (by first|exact .inl rfl|exact .inr rfl|assumption))
   (@aq _ _ _ _ _ (bA (PWd.pt (eB (aH (cw hu) (af 1) (@aL _ _ _ _) (aN _)) (dU (aH wW (bG dI rfl T.b_len PySem.boot_len (@ae _ _ _ _ _ (af 3) (@ah _) aV)) (@ar _ _ _ _) (aN _))))) (@al _ _ _ (@bc _ _ _ _ (@bX _ _ _ _ _ (@ae _ _ _ _ _ (af 1) (@ae _ _ _ _ _ (af 2) (@ae _ _ _ _ _ (aM ixd (af 3) (@ar _ _ _ _) (fun _ _=>rfl)) (@ae _ _ _ _ _ (@bX _ _ _ _ _ (@ae _ _ _ _ _ (aM ixd (af 3) (@ar _ _ _ _) (fun _ _=>rfl)) (@ae _ _ _ _ _ (dR sld (af 3) (di (@ar _ _ _ _)) fz) (@ah _) da) da)) (@ah _) kX) da) aV) aV)))) bg)
   (@aq _ _ _ _ _ (bA (PWd.pt (eB (aH (cw hu) (af 1) (@aL _ _ _ _) (aN _)) (dU (aH wW (bG dI rfl T.b_len PySem.boot_len (@ae _ _ _ _ _ (af 3) (@ah _) aV)) (@ar _ _ _ _) (aN _))))) (@al _ _ _ (@bc _ _ _ _ (@bX _ _ _ _ _ (@ae _ _ _ _ _ (af 1) (@ae _ _ _ _ _ (af 2) (@ae _ _ _ _ _ (aM ixd (af 3) (@ar _ _ _ _) (fun _ _=>rfl)) (@ae _ _ _ _ _ (dR sld (af 3) (di (@ar _ _ _ _)) fz) (@ah _) da) da) aV) aV)))) bg)
   (@al _ _ _ (@bc _ _ _ _ (@bJ _ _ _ _ _ _ _ _ cA (@bX _ _ _ _ _ (@ae _ _ _ _ _ (af 1) (@ae _ _ _ _ _ (af 2) (@ah _) aV) aV)) (af 3)))))))))
theorem sc_with_checks:FnScope ["cells","summed","weighed"] ["cells"] (defScope iY):=mSc
def iG:TSt:=(aJ (cB (dOp bP (aa 0) (cf (ac (dOp iP (am nA (ac (aa 0) aj)) (dC (.int 256))) aj))) (gN 1))
 (aJ (cB (am nA (ac (iy (sI 1 (aa 1)) (gT [0,1]) j6 (dOp gX (aa 0) (aa 1)) 2 []) aj)) (gN 2))
 (bM (dOp bP (aa 1) (cf (ac (dOp iP (aa 2) (dC (.int 256))) aj))))))
def cE:List D->M D:=mP 3 iG
theorem pV{G:Cs}(T:Txt K mg G){f:Addr}{fd:FuncData}(F:Fun K "with_checks" "with_checks" iY f fd):FnD P w K mg base (CXE P w) 1 f fd ["cells"] cE:=by
 refine fG F sc_with_checks fun cdv A outer s H E hr=>?_
 have hu:=hr.units;exact(@aq _ _ _ _ _ (@bI _ _ _ _ 1 _ _ sc_with_checks.nd (@bJ _ _ _ _ _ _ _ _ cA (af 0) (@bX _ _ _ _ _ (@ae _ _ _ _ _ (@bJ _ _ _ _ _ _ _ _ gJ (bG (vF rfl) rfl T.b_sum boot_sum (@ae _ _ _ _ _ (af 0) (@ah _) aV)) (@ar _ _ _ _)) (@ah _) sA))) rfl (by first|exact Or.inl rfl|exact Or.inr rfl) rfl (by first|exact .inl rfl|exact .inr rfl|assumption))
   (@aq _ _ _ _ _ (@bI _ _ _ _ 2 _ _ sc_with_checks.nd (bG (vF rfl) rfl T.b_sum boot_sum (@ae _ _ _ _ _ (iV (own:=["place","cell"]) (capN:=[]) (caps:=[]) ⟨rfl,ClOk.all trivial,rfl,by decide +kernel,rfl,by decide +kernel,trivial,by decide +kernel⟩ rfl (xh rfl T.b_enumerate (af 1)) (AH (by decide)) (fun C s2 H2 fp=>⟨(vC rfl (jz (cO (i:=0) (show(["place","cell"]:List Str).Nodup from by decide +kernel)) (jz (cO (i:=1) (show(["place","cell"]:List Str).Nodup from by decide +kernel)) sB))),lI,(@bJ _ _ _ _ _ _ _ _ ko (af 0) (af 1))⟩)) (@ah _) rD)) rfl (by first|exact Or.inl rfl|exact Or.inr rfl) rfl (by first|exact .inl rfl|exact .inr rfl|assumption))
   (@al _ _ _ (@bc _ _ _ _ (@bJ _ _ _ _ _ _ _ _ cA (af 1) (@bX _ _ _ _ _ (@ae _ _ _ _ _ (@bJ _ _ _ _ _ _ _ _ gJ (af 2) (@ar _ _ _ _)) (@ah _) sA)))))))
theorem tS:FnScope ["thing","top"] ["thing","top"] (defScope lE):=mSc
def kE:TSt:=(bM (j1 (dIs "int" (aa 0)) (j1 (y8 (dIs "bool" (aa 0))) (nz leD leD (dC (.int 0)) (aa 0) (aa 1)))))
def aT:List D->M D:=mF 2 kE
theorem tO{G:Cs}(T:Txt K mg G){f:Addr}{fd:FuncData}(F:Fun K "is_whole" "is_whole" lE f fd):FnD P w K mg base (CXE P w) 1 f fd ["thing","top"] aT:=by
 refine fE F tS fun cdv A outer s H E hr=>?_
 have hu:=hr.units;exact(@al _ _ _ (@bc _ _ _ _ (lL (jx (af 0) rfl T.b_isinstance rfl T.b_int boot_int (Au _)) (lL (BJ (jx (af 0) rfl T.b_isinstance rfl T.b_bool boot_bool (zC _))) (pP (qe pR pR (@ar _ _ _ _) (af 0) (af 1)))))))
theorem xQ:FnScope ["thing","top"] ["thing","top"] (defScope pC):=mSc
def nC:TSt:=(bM (j1 (dIs "tuple" (aa 0)) (am yv (ac (iy (dWk (aa 0)) (gN 0) j6 (am aT (ac (aa 0) (ac (aa 1) aj))) 1 [1]) aj))))
def bZ:List D->M D:=mP 2 nC
theorem xL{G:Cs}(T:Txt K mg G)(h_is_whole:Cal P w K mg base (CXE P w) "is_whole" 1 ["thing","top"] aT){f:Addr}{fd:FuncData}(F:Fun K "is_row" "is_row" pC f fd):FnD P w K mg base (CXE P w) 2 f fd ["thing","top"] bZ:=by
 refine fG F xQ fun cdv A outer s H E hr=>?_
 have hu:=hr.units;exact(@al _ _ _ (@bc _ _ _ _ (lL (jx (af 0) rfl T.b_isinstance rfl T.b_tuple boot_tuple (nw _)) (pP (bG (BU rfl) rfl T.b_all boot_all (@ae _ _ _ _ _ (iV (own:=["part"]) (capN:=["top"]) (caps:=[1]) ⟨rfl,ClOk.all ⟨rfl,trivial⟩,rfl,by decide +kernel,rfl,by decide +kernel,⟨⟨rfl,Or.inl rfl,Or.inl rfl,rfl⟩,trivial⟩,by decide +kernel⟩ rfl (gQ (af 0)) (jP (by decide)) (fun C s2 H2 fp=>⟨(cO (i:=0) (show(["part","top"]:List Str).Nodup from by decide +kernel)),lI,(aQ h_is_whole (hr.mono (by decide)) rfl aF (@ae _ _ _ _ _ (af 0) (@ae _ _ _ _ _ (af 1) (@ah _) aV) aV) (ak (ak aC)))⟩)) (@ah _) rD))))))
theorem uz:FnScope ["thing"] ["thing"] (defScope lH):=mSc
def gl:TSt:=(aJ (sIf (dOr (dh (bU (dIs "tuple" (aa 0)))) (ao (dOp neD (am bC (ac (aa 0) aj)) (dC (.int 2))))) (bM (dC (.bl false))) bF)
 (bM (j1 (am aT (ac (dOp ixD (aa 0) (dC (.int 0))) (ac (dC (.int 1)) aj))) (j1 (am bZ (ac (dOp ixD (aa 0) (dC (.int 1))) (ac (dC k_TOP_CELL) aj))) (dOp leD (am bC (ac (dOp ixD (aa 0) (dC (.int 1))) aj)) (dC k_MOST_PIECE_LETTERS))))))
def ig:List D->M D:=mP 1 gl
theorem ua{G:Cs}(T:Txt K mg G)(h_is_whole:Cal P w K mg base (CXE P w) "is_whole" 1 ["thing","top"] aT)(h_is_row:Cal P w K mg base (CXE P w) "is_row" 2 ["thing","top"] bZ){f:Addr}{fd:FuncData}(F:Fun K "is_piece" "is_piece" lH f fd):FnD P w K mg base (CXE P w) 3 f fd ["thing"] ig:=by
 refine fG F uz fun cdv A outer s H E hr=>?_
 have hu:=hr.units;exact(@aq _ _ _ _ _ (bA (PWd.pt (lJ (hV (db (jx (af 0) rfl T.b_isinstance rfl T.b_tuple boot_tuple (nw _)))) (mB (aH (nO hu) (bG dI rfl T.b_len PySem.boot_len (@ae _ _ _ _ _ (af 0) (@ah _) aV)) (@ar _ _ _ _) (aN _))))) (@al _ _ _ (@bc _ _ _ _ (@li _ _ _ _))) bg)
   (@al _ _ _ (@bc _ _ _ _ (lL (aQ h_is_whole (hr.mono (by decide)) rfl aF (@ae _ _ _ _ _ (aM ixd (af 0) (@ar _ _ _ _) (fun _ _=>rfl)) (@ae _ _ _ _ _ (@ar _ _ _ _) (@ah _) bS) da) (ak (ak aC))) (lL (aQ h_is_row (hr.mono (by decide)) rfl aF (@ae _ _ _ _ _ (aM ixd (af 0) (@ar _ _ _ _) (fun _ _=>rfl)) (@ae _ _ _ _ _ (dg rfl T.c_TOP_CELL) (@ah _) aV) da) (ak (ak aC))) (pP (pO pR (bG dI rfl T.b_len PySem.boot_len (@ae _ _ _ _ _ (aM ixd (af 0) (@ar _ _ _ _) (fun _ _=>rfl)) (@ah _) da)) (dg rfl T.c_MOST_PIECE_LETTERS) (aN _))))))))
theorem tQ:FnScope ["thing"] ["thing"] (defScope lP):=mSc
def gm:TSt:=(bM (j1 (am bZ (ac (aa 0) (ac (dC (.int 1)) aj))) (dOp leD (am bC (ac (aa 0) aj)) (dC k_MOST_BITS))))
def iE:List D->M D:=mP 1 gm
theorem uR{G:Cs}(T:Txt K mg G)(h_is_row:Cal P w K mg base (CXE P w) "is_row" 2 ["thing","top"] bZ){f:Addr}{fd:FuncData}(F:Fun K "are_bits" "are_bits" lP f fd):FnD P w K mg base (CXE P w) 3 f fd ["thing"] iE:=by
 refine fG F tQ fun cdv A outer s H E hr=>?_
 have hu:=hr.units;exact(@al _ _ _ (@bc _ _ _ _ (lL (aQ h_is_row (hr.mono (by decide)) rfl aF (@ae _ _ _ _ _ (af 0) (@ae _ _ _ _ _ (@ar _ _ _ _) (@ah _) bS) aV) (ak (ak aC))) (pP (pO pR (bG dI rfl T.b_len PySem.boot_len (@ae _ _ _ _ _ (af 0) (@ah _) aV)) (dg rfl T.c_MOST_BITS) (aN _))))))
theorem va:FnScope ["thing"] ["thing"] (defScope mU):=mSc
def eO:TSt:=(aJ (sIf (dOr (dh (bU (dIs "tuple" (aa 0)))) (dOr (ao (dOp ltD (am bC (ac (aa 0) aj)) (dC (.int 2)))) (dh (bU (am aT (ac (dOp ixD (aa 0) (dC (.int 1))) (ac (dC k_TOP_OPENING) aj))))))) (bM (dC (.bl false))) bF)
 (aJ (sIf (ao (dOp inD (dOp ixD (aa 0) (dC (.int 0))) (dC eo))) (bM (dOp eqD (am bC (ac (aa 0) aj)) (dC (.int 2)))) bF)
 (aJ (sIf (dOr (ao (dOp neD (am bC (ac (aa 0) aj)) (dC (.int 4)))) (dh (bU (am aT (ac (dOp ixD (aa 0) (dC (.int 2))) (ac (dC k_TOP_NUMBER) aj)))))) (bM (dC (.bl false))) bF)
 (aJ (sIf (ao (dOp eqD (dOp ixD (aa 0) (dC (.int 0))) (dC (.str "data")))) (bM (am ig (ac (dOp ixD (aa 0) (dC (.int 3))) aj))) bF)
 (bM (j1 (dOp eqD (dOp ixD (aa 0) (dC (.int 0))) (dC (.str "note"))) (am iE (ac (dOp ixD (aa 0) (dC (.int 3))) aj))))))))
def cR:List D->M D:=mP 1 eO
theorem vf{G:Cs}(T:Txt K mg G)(h_is_whole:Cal P w K mg base (CXE P w) "is_whole" 1 ["thing","top"] aT)(h_is_piece:Cal P w K mg base (CXE P w) "is_piece" 3 ["thing"] ig)(h_are_bits:Cal P w K mg base (CXE P w) "are_bits" 3 ["thing"] iE){f:Addr}{fd:FuncData}(F:Fun K "is_card" "is_card" mU f fd):FnD P w K mg base (CXE P w) 4 f fd ["thing"] cR:=by
 refine fG F va fun cdv A outer s H E hr=>?_
 have hu:=hr.units;exact(@aq _ _ _ _ _ (bA (PWd.pt (lJ (hV (db (jx (af 0) rfl T.b_isinstance rfl T.b_tuple boot_tuple (nw _)))) (lJ (aH j2 (bG dI rfl T.b_len PySem.boot_len (@ae _ _ _ _ _ (af 0) (@ah _) aV)) (@ar _ _ _ _) (aN _)) (mB (hV (db (aQ h_is_whole (hr.mono (by decide)) rfl aF (@ae _ _ _ _ _ (aM ixd (af 0) (@ar _ _ _ _) (fun _ _=>rfl)) (@ae _ _ _ _ _ (dg rfl T.c_TOP_OPENING) (@ah _) aV) da) (ak (ak aC))))))))) (@al _ _ _ (@bc _ _ _ _ (@li _ _ _ _))) bg)
   (@aq _ _ _ _ _ (bA (aH (Cn hu) (aM ixd (af 0) (@ar _ _ _ _) (fun _ _=>rfl)) (dg rfl T.c_SHORT_KINDS.glob) (by with_unfolding_all rfl)) (@al _ _ _ (@bc _ _ _ _ (pO (cw hu) (bG dI rfl T.b_len PySem.boot_len (@ae _ _ _ _ _ (af 0) (@ah _) aV)) (@ar _ _ _ _) (aN _)))) bg)
   (@aq _ _ _ _ _ (bA (PWd.pt (lJ (aH (nO hu) (bG dI rfl T.b_len PySem.boot_len (@ae _ _ _ _ _ (af 0) (@ah _) aV)) (@ar _ _ _ _) (aN _)) (mB (hV (db (aQ h_is_whole (hr.mono (by decide)) rfl aF (@ae _ _ _ _ _ (aM ixd (af 0) (@ar _ _ _ _) (fun _ _=>rfl)) (@ae _ _ _ _ _ (dg rfl T.c_TOP_NUMBER) (@ah _) aV) da) (ak (ak aC)))))))) (@al _ _ _ (@bc _ _ _ _ (@li _ _ _ _))) bg)
   (@aq _ _ _ _ _ (bA (aH (cw hu) (aM ixd (af 0) (@ar _ _ _ _) (fun _ _=>rfl)) (@aL _ _ _ _) (aN _)) (@al _ _ _ (@bc _ _ _ _ (aQ h_is_piece (hr.mono (by decide)) rfl aF (@ae _ _ _ _ _ (aM ixd (af 0) (@ar _ _ _ _) (fun _ _=>rfl)) (@ah _) da) (ak aC)))) bg)
   (@al _ _ _ (@bc _ _ _ _ (lL (pO (cw hu) (aM ixd (af 0) (@ar _ _ _ _) (fun _ _=>rfl)) (@aL _ _ _ _) (aN _)) (pP (aQ h_are_bits (hr.mono (by decide)) rfl aF (@ae _ _ _ _ _ (aM ixd (af 0) (@ar _ _ _ _) (fun _ _=>rfl)) (@ah _) da) (ak aC))))))))))
theorem sc_read:FnScope ["strip","cells","card"] ["strip"] (defScope vH):=mSc
def lY(G:Cs):TSt:=(aJ (sIf (dOr (dh (bU (am bZ (ac (aa 0) (ac (dC k_TOP_CELL) aj))))) (dOr (ao (dOp ltD (am bC (ac (aa 0) aj)) (dOp bP (dC k_HEAD_CELLS) (dC k_CHECK_CELLS)))) (ao (dOp geD (dOp ixD (aa 0) (dC (.int 0))) (am bC (ac (dC d3) aj)))))) (nD G.NoStrip (dC (.str "these are not the cells of a strip"))) bF)
 (aJ (cB (dSl slD (aa 0) bN (bQ (dUn AU (dC k_CHECK_CELLS)))) (gN 1))
 (aJ (sIf (ao (dOp neD (aa 0) (am cE (ac (aa 1) aj)))) (nD G.NoStrip (dC (.str "the checks do not fit the cells"))) bF)
 (aJ (cB (am gq (ac (aa 1) aj)) (gN 2))
 (aJ (sIf (dh (bU (am cR (ac (aa 2) aj)))) (nD G.NoStrip (dC (.str "the cells tell no card"))) bF)
 (bM (aa 2)))))))
def kG(G:Cs):List D->M D:=mP 3 (lY G)
theorem AD{G:Cs}(T:Txt K mg G)(h_is_row:Cal P w K mg base (CXE P w) "is_row" 2 ["thing","top"] bZ)(h_with_checks:Cal P w K mg base (CXE P w) "with_checks" 1 ["cells"] cE)(h_card_from:Cal P w K mg base (CXE P w) "card_from" 1 ["cells"] gq)(h_is_card:Cal P w K mg base (CXE P w) "is_card" 4 ["thing"] cR){f:Addr}{fd:FuncData}(F:Fun K "read" "read" vH f fd):FnD P w K mg base (CXE P w) 5 f fd ["strip"] (kG G):=by
 refine fG F sc_read fun cdv A outer s H E hr=>?_
 have hu:=hr.units;exact(@aq _ _ _ _ _ (bA (PWd.pt (lJ (hV (db (aQ h_is_row (hr.mono (by decide)) rfl aF (@ae _ _ _ _ _ (af 0) (@ae _ _ _ _ _ (dg rfl T.c_TOP_CELL) (@ah _) aV) aV) (ak (ak aC))))) (lJ (aH j2 (bG dI rfl T.b_len PySem.boot_len (@ae _ _ _ _ _ (af 0) (@ah _) aV)) (@bJ _ _ _ _ _ _ _ _ cA (dg rfl T.c_HEAD_CELLS) (dg rfl T.c_CHECK_CELLS)) (aN _)) (mB (aH wW (aM ixd (af 0) (@ar _ _ _ _) (fun _ _=>rfl)) (bG dI rfl T.b_len PySem.boot_len (@ae _ _ _ _ _ (dg rfl T.c_KINDS.glob) (@ah _) aV)) (aN _)))))) (@al _ _ _ (mE T.x_NoStrip rfl rfl (@aL _ _ _ _))) bg)
   (@aq _ _ _ _ _ (@bI _ _ _ _ 1 _ _ sc_read.nd (dR sld (af 0) fz (di (@CH _ _ _ _ _ _ By (dg rfl T.c_CHECK_CELLS)))) rfl (by first|exact Or.inl rfl|exact Or.inr rfl) rfl (by first|exact .inl rfl|exact .inr rfl|assumption))
   (@aq _ _ _ _ _ (bA (aH (nO hu) (af 0) (aQ h_with_checks (hr.mono (by decide)) rfl aF (@ae _ _ _ _ _ (af 1) (@ah _) aV) (ak aC)) (aN _)) (@al _ _ _ (mE T.x_NoStrip rfl rfl (@aL _ _ _ _))) bg)
   (@aq _ _ _ _ _ (@bI _ _ _ _ 2 _ _ sc_read.nd (aQ h_card_from (hr.mono (by decide)) rfl aF (@ae _ _ _ _ _ (af 1) (@ah _) aV) (ak aC)) rfl (by first|exact Or.inl rfl|exact Or.inr rfl) rfl (by first|exact .inl rfl|exact .inr rfl|assumption))
   (@aq _ _ _ _ _ (bA (hV (db (aQ h_is_card (hr.mono (by decide)) rfl aF (@ae _ _ _ _ _ (af 2) (@ah _) aV) (ak aC)))) (@al _ _ _ (mE T.x_NoStrip rfl rfl (@aL _ _ _ _))) bg)
   (@al _ _ _ (@bc _ _ _ _ (af 2))))))))
theorem sc_cells_of:FnScope ["card","head"] ["card"] (defScope lR):=mSc
def kg:TSt:=(aJ (cB (cf (ac (mH d3 (ac (dOp ixD (aa 0) (dC (.int 0))) aj)) (ac (dOp ye (dOp ixD (aa 0) (dC (.int 1))) (dC (.int 256))) (ac (dOp iP (dOp ixD (aa 0) (dC (.int 1))) (dC (.int 256))) aj)))) (gN 1))
 (aJ (sIf (ao (dOp eqD (dOp ixD (aa 0) (dC (.int 0))) (dC (.str "data")))) (bM (dOp bP (dOp bP (aa 1) (cf (ac (dOp ixD (aa 0) (dC (.int 2))) (ac (dOp ixD (dOp ixD (aa 0) (dC (.int 3))) (dC (.int 0))) aj)))) (dOp ixD (dOp ixD (aa 0) (dC (.int 3))) (dC (.int 1))))) bF)
 (aJ (sIf (ao (dOp eqD (dOp ixD (aa 0) (dC (.int 0))) (dC (.str "note")))) (bM (dOp bP (dOp bP (aa 1) (cf (ac (dOp ixD (aa 0) (dC (.int 2))) aj))) (dOp ixD (aa 0) (dC (.int 3))))) bF)
 (bM (aa 1)))))
def jM:List D->M D:=mP 2 kg
theorem uG{G:Cs}(T:Txt K mg G){f:Addr}{fd:FuncData}(F:Fun K "cells_of" "cells_of" lR f fd):FnD P w K mg base (CXE P w) 1 f fd ["card"] jM:=by
 refine fG F sc_cells_of fun cdv A outer s H E hr=>?_
 have hu:=hr.units;exact(@aq _ _ _ _ _ (@bI _ _ _ _ 1 _ _ sc_cells_of.nd (@bX _ _ _ _ _ (ae (vt rfl T.c_KINDS (@ae _ _ _ _ _ (aM ixd (af 0) (@ar _ _ _ _) (fun _ _=>rfl)) (@ah _) da)) (@ae _ _ _ _ _ (@bJ _ _ _ _ _ _ _ _ zE (aM ixd (af 0) (@ar _ _ _ _) (fun _ _=>rfl)) (@ar _ _ _ _)) (@ae _ _ _ _ _ (@bJ _ _ _ _ _ _ _ _ gJ (aM ixd (af 0) (@ar _ _ _ _) (fun _ _=>rfl)) (@ar _ _ _ _)) (@ah _) sA) sA))) rfl (by first|exact Or.inl rfl|exact Or.inr rfl) rfl (by first|exact .inl rfl|exact .inr rfl|assumption))
   (@aq _ _ _ _ _ (bA (aH (cw hu) (aM ixd (af 0) (@ar _ _ _ _) (fun _ _=>rfl)) (@aL _ _ _ _) (aN _)) (@al _ _ _ (@bc _ _ _ _ (@bJ _ _ _ _ _ _ _ _ cA (@bJ _ _ _ _ _ _ _ _ cA (af 1) (@bX _ _ _ _ _ (@ae _ _ _ _ _ (aM ixd (af 0) (@ar _ _ _ _) (fun _ _=>rfl)) (@ae _ _ _ _ _ (aM ixd (aM ixd (af 0) (@ar _ _ _ _) (fun _ _=>rfl)) (@ar _ _ _ _) (fun _ _=>rfl)) (@ah _) da) da))) (aM ixd (aM ixd (af 0) (@ar _ _ _ _) (fun _ _=>rfl)) (@ar _ _ _ _) (fun _ _=>rfl))))) bg)
   (@aq _ _ _ _ _ (bA (aH (cw hu) (aM ixd (af 0) (@ar _ _ _ _) (fun _ _=>rfl)) (@aL _ _ _ _) (aN _)) (@al _ _ _ (@bc _ _ _ _ (@bJ _ _ _ _ _ _ _ _ cA (@bJ _ _ _ _ _ _ _ _ cA (af 1) (@bX _ _ _ _ _ (@ae _ _ _ _ _ (aM ixd (af 0) (@ar _ _ _ _) (fun _ _=>rfl)) (@ah _) da))) (aM ixd (af 0) (@ar _ _ _ _) (fun _ _=>rfl))))) bg)
   (@al _ _ _ (@bc _ _ _ _ (af 1))))))
theorem vm:FnScope ["card"] ["card"] (defScope mO):=mSc
def lv(G:Cs):TSt:=(aJ (sIf (dh (bU (am cR (ac (aa 0) aj)))) (nD G.NoCard (dC (.str "this is no card"))) bF)
 (bM (am cE (ac (am jM (ac (aa 0) aj)) aj))))
def jw(G:Cs):List D->M D:=mP 1 (lv G)
theorem vP{G:Cs}(T:Txt K mg G)(h_is_card:Cal P w K mg base (CXE P w) "is_card" 4 ["thing"] cR)(h_cells_of:Cal P w K mg base (CXE P w) "cells_of" 1 ["card"] jM)(h_with_checks:Cal P w K mg base (CXE P w) "with_checks" 1 ["cells"] cE){f:Addr}{fd:FuncData}(F:Fun K "written" "written" mO f fd):FnD P w K mg base (CXE P w) 5 f fd ["card"] (jw G):=by
 refine fG F vm fun cdv A outer s H E hr=>?_
 have hu:=hr.units;exact(@aq _ _ _ _ _ (bA (hV (db (aQ h_is_card (hr.mono (by decide)) rfl aF (@ae _ _ _ _ _ (af 0) (@ah _) aV) (ak aC)))) (@al _ _ _ (mE T.x_NoCard rfl rfl (@aL _ _ _ _))) bg)
   (@al _ _ _ (@bc _ _ _ _ (aQ h_with_checks (hr.mono (by decide)) rfl aF (@ae _ _ _ _ _ (aQ h_cells_of (hr.mono (by decide)) rfl aF (@ae _ _ _ _ _ (af 0) (@ah _) aV) (ak aC)) (@ah _) kc) (ak aC)))))
theorem sc_World_put_behind:FnScope ["self","road","cards","card"] ["self","road","cards"] (defScope eM):=mSc
def dG(G:Cs):TSt:=(bz (dBM jO (dOp gp (aB G.World ns_World 2 (aa 0)) (aa 1)) (ac (cf (ac (am (jw G) (ac (aa 3) aj)) (ac (dC (.bl false)) aj))) aj)))
def d6(G:Cs):TSt:=(qC (dWk (aa 2)) (gN 3) (dG G))
def bV(G:Cs):List D->M D:=mF 4 (d6 G)
theorem kT{G:Cs}(T:Txt K mg G)(h_written:Cal P w K mg base (CXE P w) "written" 5 ["card"] (jw G)){f:Addr}{fd:FuncData}(F:Fun K "put_behind" "World.put_behind" eM f fd):FnD P w K mg base (CXE P w) 6 f fd ["self","road","cards"] (bV G):=by
 refine fE F sc_World_put_behind fun cdv A outer s H E hr=>?_
 have hu:=hr.units;exact(@al _ _ _ (mW rfl (gQ (af 2)) (cO (i:=3) sc_World_put_behind.nd) (@al _ _ _ (@aU _ _ _ _ (d9 PySem.F.slot_list_append PySem.F.type_list_append dE (aM (qv hu) (aD T.cl_World T.na_World_roads bR (af 0)) (af 1) (fun _ _=>rfl)) (@ae _ _ _ _ _ (@bX _ _ _ _ _ (@ae _ _ _ _ _ (aQ h_written (hr.mono (by decide)) rfl aF (@ae _ _ _ _ _ (af 3) (@ah _) aV) (ak aC)) (@ae _ _ _ _ _ (@li _ _ _ _) (@ah _) bS) kc)) (@ah _) kX)) rfl))))
theorem oJ:FnScope ["self","opening"] ["self","opening"] (defScope iB):=mSc
def gI(G:Cs):TSt:=(aJ (jE G.Hearer ns_Hearer 2 (aa 0) (aa 1))
 (aJ (jE G.Hearer ns_Hearer 3 (aa 0) (dC (.int 0)))
 (aJ (jE G.Hearer ns_Hearer 4 (aa 0) j0)
 (jE G.Hearer ns_Hearer 5 (aa 0) (bW aj)))))
def cK(G:Cs):List D->M D:=mF 2 (gI G)
theorem oy{G:Cs}(T:Txt K mg G){f:Addr}{fd:FuncData}(F:Fun K "begin" "Hearer.begin" iB f fd):FnD P w K mg base (CXE P w) 1 f fd ["self","opening"] (cK G):=by
 refine fE F oJ fun cdv A outer s H E hr=>?_
 have hu:=hr.units;exact(@aq _ _ _ _ _ (gC T.cl_Hearer T.na_Hearer_opening aX (by decide) (af 0) (af 1))
   (@aq _ _ _ _ _ (gC T.cl_Hearer T.na_Hearer_next_index aX (by decide) (af 0) (@ar _ _ _ _))
   (@aq _ _ _ _ _ (gC T.cl_Hearer T.na_Hearer_early aX (by decide) (af 0) oQ)
   (@al _ _ _ (gC T.cl_Hearer T.na_Hearer_begun aX (by decide) (af 0) (@cb _ _ _ _ (@ah _)))))))
theorem j5:FnScope ["self","opening"] ["self","opening"] (defScope dW):=mSc
def dJ(G:Cs):TSt:=(aJ (sIf (ao (dOp ltD (aa 1) (aB G.Hearer ns_Hearer 2 (aa 0)))) (bM (bW aj)) bF)
 (aJ (sIf (ao (dOp gtD (aa 1) (aB G.Hearer ns_Hearer 2 (aa 0)))) (bz (aP G.Hearer ns_Hearer (cK G) (aa 0) (ac (aa 1) aj))) bF)
 (bM (bW (ac (cf (ac (dC (.str "welcome")) (ac (aa 1) aj))) aj)))))
def cu(G:Cs):List D->M D:=mF 2 (dJ G)
theorem j4{G:Cs}(T:Txt K mg G)(h_Hearer_begin:CalM P w K mg base (CXE P w) G.Hearer "begin" 1 ["self","opening"] (cK G)){f:Addr}{fd:FuncData}(F:Fun K "hears_hello" "Hearer.hears_hello" dW f fd):FnD P w K mg base (CXE P w) 2 f fd ["self","opening"] (cu G):=by
 refine fE F j5 fun cdv A outer s H E hr=>?_
 have hu:=hr.units;exact(@aq _ _ _ _ _ (bA (aH j2 (af 1) (aD T.cl_Hearer T.na_Hearer_opening aX (af 0)) (aN _)) (@al _ _ _ (@bc _ _ _ _ (@cb _ _ _ _ (@ah _)))) bg)
   (@aq _ _ _ _ _ (bA (aH yS (af 1) (aD T.cl_Hearer T.na_Hearer_opening aX (af 0)) (aN _)) (@al _ _ _ (@aU _ _ _ _ (bh h_Hearer_begin (hr.mono (by decide)) T.cl_Hearer (by decide +kernel) aF (af 0) (@ae _ _ _ _ _ (af 1) (@ah _) aV) (cI (ak aC))) rfl)) bg)
   (@al _ _ _ (@bc _ _ _ _ (@cb _ _ _ _ (@ae _ _ _ _ _ (@bX _ _ _ _ _ (@ae _ _ _ _ _ (@aL _ _ _ _) (@ae _ _ _ _ _ (af 1) (@ah _) aV) bS)) (@ah _) kX))))))
theorem qF:FnScope ["number","window"] ["number","window"] (defScope jG):=mSc
def jd:TSt:=(bM (nz leD ltD (dC (.int 0)) (aa 0) (dOp gX (dC (.int 2)) (aa 1))))
def b8:List D->M D:=mF 2 jd
theorem qM{G:Cs}(T:Txt K mg G){f:Addr}{fd:FuncData}(F:Fun K "goes_round" "goes_round" jG f fd):FnD P w K mg base (CXE P w) 1 f fd ["number","window"] b8:=by
 refine fE F qF fun cdv A outer s H E hr=>?_
 have hu:=hr.units;exact(@al _ _ _ (@bc _ _ _ _ (qe pR j2 (@ar _ _ _ _) (af 0) (@bJ _ _ _ _ _ _ _ _ ko (@ar _ _ _ _) (af 1)))))
theorem qW:FnScope ["number","low","window"] ["number","low","window"] (defScope jS):=mSc
def jc:TSt:=(bM (dOp bP (aa 1) (dOp iP (dOp qx (aa 0) (aa 1)) (dOp gX (dC (.int 2)) (aa 2)))))
def cr:List D->M D:=mF 3 jc
theorem qw{G:Cs}(T:Txt K mg G){f:Addr}{fd:FuncData}(F:Fun K "index_near" "index_near" jS f fd):FnD P w K mg base (CXE P w) 1 f fd ["number","low","window"] cr:=by
 refine fE F qW fun cdv A outer s H E hr=>?_
 have hu:=hr.units;exact(@al _ _ _ (@bc _ _ _ _ (@bJ _ _ _ _ _ _ _ _ cA (af 1) (@bJ _ _ _ _ _ _ _ _ gJ (@bJ _ _ _ _ _ _ _ _ vM (af 0) (af 1)) (@bJ _ _ _ _ _ _ _ _ ko (@ar _ _ _ _) (af 2))))))
theorem sc_Hearer_keep:FnScope ["self","number","piece","index"] ["self","number","piece"] (defScope jo):=mSc
def iM(G:Cs):TSt:=(sIf (bU (am b8 (ac (aa 1) (ac (aB G.Hearer ns_Hearer 0 (aa 0)) aj)))) (aJ (cB (am cr (ac (aa 1) (ac (dOp qx (aB G.Hearer ns_Hearer 3 (aa 0)) (aB G.Hearer ns_Hearer 0 (aa 0))) (ac (aB G.Hearer ns_Hearer 0 (aa 0)) aj)))) (gN 3))
 (sIf (dr (ao (dOp geD (aa 3) (aB G.Hearer ns_Hearer 3 (aa 0)))) (ao (dOp fA (aa 3) (aB G.Hearer ns_Hearer 4 (aa 0))))) (uV qi (aB G.Hearer ns_Hearer 4 (aa 0)) (aa 3) (aa 2)) bF)) bF)
def fX(G:Cs):List D->M D:=mF 4 (iM G)
theorem oZ{G:Cs}(T:Txt K mg G)(h_goes_round:Cal P w K mg base (CXE P w) "goes_round" 1 ["number","window"] b8)(h_index_near:Cal P w K mg base (CXE P w) "index_near" 1 ["number","low","window"] cr){f:Addr}{fd:FuncData}(F:Fun K "keep" "Hearer.keep" jo f fd):FnD P w K mg base (CXE P w) 2 f fd ["self","number","piece"] (fX G):=by
 refine fE F sc_Hearer_keep fun cdv A outer s H E hr=>?_
 have hu:=hr.units;exact(@al _ _ _ (bA (db (aQ h_goes_round (hr.mono (by decide)) rfl aF (@ae _ _ _ _ _ (af 1) (ae (aD T.cl_Hearer T.na_Hearer_window aX (af 0)) (@ah _)) aV) (ak (ak aC)))) (@aq _ _ _ _ _ (@bI _ _ _ _ 3 _ _ sc_Hearer_keep.nd (aQ h_index_near (hr.mono (by decide)) rfl aF (@ae _ _ _ _ _ (af 1) (@ae _ _ _ _ _ (@bJ _ _ _ _ _ _ _ _ vM (aD T.cl_Hearer T.na_Hearer_next_index aX (af 0)) (aD T.cl_Hearer T.na_Hearer_window aX (af 0))) (ae (aD T.cl_Hearer T.na_Hearer_window aX (af 0)) (@ah _)) sA) aV) (ak (ak (ak aC)))) rfl (by first|exact Or.inl rfl|exact Or.inr rfl) rfl (by first|exact .inl rfl|exact .inr rfl|assumption))
   (@al _ _ _ (bA (PWd.pt (eB (aH wW (af 3) (aD T.cl_Hearer T.na_Hearer_next_index aX (af 0)) (aN _)) (dU (aH (rq hu) (af 3) (aD T.cl_Hearer T.na_Hearer_early aX (af 0)) (by with_unfolding_all rfl))))) (@al _ _ _ (sy (wr hu) (aD T.cl_Hearer T.na_Hearer_early aX (af 0)) (af 3) (af 2))) bg))) bg))
theorem sc_letters_of:FnScope ["pieces","letters","piece"] ["pieces"] (defScope jI):=mSc
def oE:TSt:=(bz (dBM qR (aa 1) (ac (dOp ixD (aa 2) (dC (.int 1))) aj)))
def jg:TSt:=(aJ (cB (bW aj) (gN 1))
 (aJ (qC (dWk (aa 0)) (gN 2) oE)
 (bM (am fH (ac (aa 1) aj)))))
def dY:List D->M D:=mP 3 jg
theorem qQ{G:Cs}(T:Txt K mg G){f:Addr}{fd:FuncData}(F:Fun K "letters_of" "letters_of" jI f fd):FnD P w K mg base (CXE P w) 1 f fd ["pieces"] dY:=by
 refine fG F sc_letters_of fun cdv A outer s H E hr=>?_
 have hu:=hr.units;exact(@aq _ _ _ _ _ (@bI _ _ _ _ 1 _ _ sc_letters_of.nd (@cb _ _ _ _ (@ah _)) rfl (by first|exact Or.inl rfl|exact Or.inr rfl) rfl (by first|exact .inl rfl|exact .inr rfl|assumption))
   (@aq _ _ _ _ _ (mW rfl (gQ (af 0)) (cO (i:=2) sc_letters_of.nd) (@al _ _ _ (@aU _ _ _ _ (d9 PySem.F.slot_list_extend PySem.F.type_list_extend nv (af 1) (@ae _ _ _ _ _ (aM ixd (af 2) (@ar _ _ _ _) (fun _ _=>rfl)) (@ah _) da)) rfl)))
   (@al _ _ _ (@bc _ _ _ _ (eP iC rfl T.b_tuple boot_tuple (@ae _ _ _ _ _ (af 1) (@ah _) aV))))))
theorem pK:FnScope ["self","piece"] ["self","piece"] (defScope jj):=mSc
def ii(G:Cs):TSt:=(aJ (bz (dBM jO (aB G.Hearer ns_Hearer 5 (aa 0)) (ac (aa 1) aj)))
 (sIf (ao (dOp eqD (dOp ixD (aa 1) (dC (.int 0))) (dC (.int 1)))) (aJ (bz (dBM jO (aB G.Hearer ns_Hearer 1 (aa 0)) (ac (cf (ac (aB G.Hearer ns_Hearer 2 (aa 0)) (ac (am dY (ac (aB G.Hearer ns_Hearer 5 (aa 0)) aj)) aj))) aj)))
 (jE G.Hearer ns_Hearer 5 (aa 0) (bW aj))) bF))
def gg(G:Cs):List D->M D:=mF 2 (ii G)
theorem qc{G:Cs}(T:Txt K mg G)(h_letters_of:Cal P w K mg base (CXE P w) "letters_of" 1 ["pieces"] dY){f:Addr}{fd:FuncData}(F:Fun K "take" "Hearer.take" jj f fd):FnD P w K mg base (CXE P w) 2 f fd ["self","piece"] (gg G):=by
 refine fE F pK fun cdv A outer s H E hr=>?_
 have hu:=hr.units;exact(@aq _ _ _ _ _ (@aU _ _ _ _ (d9 PySem.F.slot_list_append PySem.F.type_list_append dE (aD T.cl_Hearer T.na_Hearer_begun aX (af 0)) (@ae _ _ _ _ _ (af 1) (@ah _) aV)) rfl)
   (@al _ _ _ (bA (aH (cw hu) (aM ixd (af 1) (@ar _ _ _ _) (fun _ _=>rfl)) (@ar _ _ _ _) (aN _)) (@aq _ _ _ _ _ (@aU _ _ _ _ (d9 PySem.F.slot_list_append PySem.F.type_list_append dE (aD T.cl_Hearer T.na_Hearer_given aX (af 0)) (@ae _ _ _ _ _ (@bX _ _ _ _ _ (ae (aD T.cl_Hearer T.na_Hearer_opening aX (af 0)) (@ae _ _ _ _ _ (aQ h_letters_of (hr.mono (by decide)) rfl aF (ae (aD T.cl_Hearer T.na_Hearer_begun aX (af 0)) (@ah _)) (ak aC)) (@ah _) kc))) (@ah _) kX)) rfl)
   (@al _ _ _ (gC T.cl_Hearer T.na_Hearer_begun aX (by decide) (af 0) (@cb _ _ _ _ (@ah _))))) bg)))
theorem sc_Hearer_take_all:FnScope ["self","piece"] ["self"] (defScope fB):=mSc
def ck(G:Cs)(fuel:Nat):TSt:=(fM (ao (dOp qr (aB G.Hearer ns_Hearer 3 (aa 0)) (aB G.Hearer ns_Hearer 4 (aa 0)))) (aJ (cB (xO uJ (aB G.Hearer ns_Hearer 4 (aa 0)) (ac (aB G.Hearer ns_Hearer 3 (aa 0)) aj)) (gN 1))
 (aJ (n7 G.Hearer ns_Hearer 3 (aa 0) (dC (.int 1)))
 (bz (aP G.Hearer ns_Hearer (gg G) (aa 0) (ac (aa 1) aj))))) fuel)
def dM(G:Cs):List D->M D:=fun xs S=>fin S (ck G 1000000 (xs.map some++List.replicate (2-xs.length) none) S)
theorem lB{G:Cs}(T:Txt K mg G)(h_Hearer_take:CalM P w K mg base (CXE P w) G.Hearer "take" 2 ["self","piece"] (gg G)){f:Addr}{fd:FuncData}(F:Fun K "take_all" "Hearer.take_all" fB f fd):FnD P w K mg base (CXE P w) 3 f fd ["self"] (dM G):=by
 refine fE F sc_Hearer_take_all fun cdv A outer s H E hr=>?_
 have hu:=hr.units;have hfu:(1000000:Nat)=1000000:=rfl
 generalize hfe:(1000000:Nat)=fuel at hfu
 exact(@al _ _ _ (tX fuel (aH (zk hu) (aD T.cl_Hearer T.na_Hearer_next_index aX (af 0)) (aD T.cl_Hearer T.na_Hearer_early aX (af 0)) (by with_unfolding_all rfl)) (@aq _ _ _ _ _ (@bI _ _ _ _ 1 _ _ sc_Hearer_take_all.nd (BF PySem.F.slot_dict_pop PySem.F.type_dict_pop AM (aD T.cl_Hearer T.na_Hearer_early aX (af 0)) (ae (aD T.cl_Hearer T.na_Hearer_next_index aX (af 0)) (@ah _))) rfl (by first|exact Or.inl rfl|exact Or.inr rfl) rfl (by first|exact .inl rfl|exact .inr rfl|assumption))
   (@aq _ _ _ _ _ (sK T.cl_Hearer T.na_Hearer_next_index aX (by decide) (af 0) (@ar _ _ _ _))
   (@al _ _ _ (@aU _ _ _ _ (bh h_Hearer_take (hr.mono (by decide)) T.cl_Hearer (by decide +kernel) aF (af 0) (@ae _ _ _ _ _ (af 1) (@ah _) aV) (cI (ak aC))) rfl))))))
theorem sX:FnScope ["index","window"] ["index","window"] (defScope kA):=mSc
def mr:TSt:=(bM (dOp iP (aa 0) (dOp gX (dC (.int 2)) (aa 1))))
def dP:List D->M D:=mF 2 mr
theorem tH{G:Cs}(T:Txt K mg G){f:Addr}{fd:FuncData}(F:Fun K "number_of" "number_of" kA f fd):FnD P w K mg base (CXE P w) 1 f fd ["index","window"] dP:=by
 refine fE F sX fun cdv A outer s H E hr=>?_
 have hu:=hr.units;exact(@al _ _ _ (@bc _ _ _ _ (@bJ _ _ _ _ _ _ _ _ gJ (af 0) (@bJ _ _ _ _ _ _ _ _ ko (@ar _ _ _ _) (af 1)))))
theorem sc_Hearer_note:FnScope ["self","bits"] ["self"] (defScope iX):=mSc
def iI(G:Cs):TSt:=(aJ (cB (am fH (ac (iy (rM (aB G.Hearer ns_Hearer 0 (aa 0))) (gN 0) j6 (dIf (ao (dOp qr (dOp bP (aB G.Hearer ns_Hearer 3 (aa 1)) (aa 0)) (aB G.Hearer ns_Hearer 4 (aa 1)))) (dC (.int 1)) (dC (.int 0))) 1 [0]) aj)) (gN 1))
 (bM (cf (ac (dC (.str "note")) (ac (aB G.Hearer ns_Hearer 2 (aa 0)) (ac (am dP (ac (aB G.Hearer ns_Hearer 3 (aa 0)) (ac (aB G.Hearer ns_Hearer 0 (aa 0)) aj))) (ac (aa 1) aj)))))))
def fV(G:Cs):List D->M D:=mF 2 (iI G)
theorem pe{G:Cs}(T:Txt K mg G)(h_number_of:Cal P w K mg base (CXE P w) "number_of" 1 ["index","window"] dP){f:Addr}{fd:FuncData}(F:Fun K "note" "Hearer.note" iX f fd):FnD P w K mg base (CXE P w) 2 f fd ["self"] (fV G):=by
 refine fE F sc_Hearer_note fun cdv A outer s H E hr=>?_
 have hu:=hr.units;exact(@aq _ _ _ _ _ (@bI _ _ _ _ 1 _ _ sc_Hearer_note.nd (eP iC rfl T.b_tuple boot_tuple (@ae _ _ _ _ _ (iV (own:=["k"]) (capN:=["self"]) (caps:=[0]) ⟨rfl,ClOk.all ⟨rfl,trivial⟩,rfl,by decide +kernel,rfl,by decide +kernel,⟨⟨rfl,Or.inl rfl,Or.inl rfl,rfl⟩,trivial⟩,by decide +kernel⟩ rfl (pW rfl T.b_range (aD T.cl_Hearer T.na_Hearer_window aX (af 0))) (jP (by decide)) (fun C s2 H2 fp=>⟨(cO (i:=0) (show(["k","self"]:List Str).Nodup from by decide +kernel)),lI,(uN (aH (zk hu) (@bJ _ _ _ _ _ _ _ _ cA (aD T.cl_Hearer T.na_Hearer_next_index aX (af 1)) (af 0)) (aD T.cl_Hearer T.na_Hearer_early aX (af 1)) (by with_unfolding_all rfl)) (@ar _ _ _ _) (@ar _ _ _ _))⟩)) (@ah _) rD)) rfl (by first|exact Or.inl rfl|exact Or.inr rfl) rfl (by first|exact .inl rfl|exact .inr rfl|assumption))
   (@al _ _ _ (@bc _ _ _ _ (@bX _ _ _ _ _ (@ae _ _ _ _ _ (@aL _ _ _ _) (ae (aD T.cl_Hearer T.na_Hearer_opening aX (af 0)) (@ae _ _ _ _ _ (aQ h_number_of (hr.mono (by decide)) rfl aF (ae (aD T.cl_Hearer T.na_Hearer_next_index aX (af 0)) (ae (aD T.cl_Hearer T.na_Hearer_window aX (af 0)) (@ah _))) (ak (ak aC))) (@ae _ _ _ _ _ (af 1) (@ah _) aV) kc)) bS)))))
theorem kD:FnScope ["self","opening","number","piece"] ["self","opening","number","piece"] (defScope eh):=mSc
def dO(G:Cs):TSt:=(aJ (sIf (ao (dOp ltD (aa 1) (aB G.Hearer ns_Hearer 2 (aa 0)))) (bM (bW aj)) bF)
 (aJ (sIf (ao (dOp gtD (aa 1) (aB G.Hearer ns_Hearer 2 (aa 0)))) (bM (bW (ac (cf (ac (dC (.str "who")) (ac (aa 1) aj))) aj))) bF)
 (aJ (bz (aP G.Hearer ns_Hearer (fX G) (aa 0) (ac (aa 2) (ac (aa 3) aj))))
 (aJ (bz (aP G.Hearer ns_Hearer (dM G) (aa 0) aj))
 (bM (bW (ac (aP G.Hearer ns_Hearer (fV G) (aa 0) aj) aj)))))))
def cC(G:Cs):List D->M D:=mF 4 (dO G)
theorem kl{G:Cs}(T:Txt K mg G)(h_Hearer_keep:CalM P w K mg base (CXE P w) G.Hearer "keep" 2 ["self","number","piece"] (fX G))(h_Hearer_take_all:CalM P w K mg base (CXE P w) G.Hearer "take_all" 3 ["self"] (dM G))(h_Hearer_note:CalM P w K mg base (CXE P w) G.Hearer "note" 2 ["self"] (fV G)){f:Addr}{fd:FuncData}(F:Fun K "hears_data" "Hearer.hears_data" eh f fd):FnD P w K mg base (CXE P w) 4 f fd ["self","opening","number","piece"] (cC G):=by
 refine fE F kD fun cdv A outer s H E hr=>?_
 have hu:=hr.units;exact(@aq _ _ _ _ _ (bA (aH j2 (af 1) (aD T.cl_Hearer T.na_Hearer_opening aX (af 0)) (aN _)) (@al _ _ _ (@bc _ _ _ _ (@cb _ _ _ _ (@ah _)))) bg)
   (@aq _ _ _ _ _ (bA (aH yS (af 1) (aD T.cl_Hearer T.na_Hearer_opening aX (af 0)) (aN _)) (@al _ _ _ (@bc _ _ _ _ (@cb _ _ _ _ (@ae _ _ _ _ _ (@bX _ _ _ _ _ (@ae _ _ _ _ _ (@aL _ _ _ _) (@ae _ _ _ _ _ (af 1) (@ah _) aV) bS)) (@ah _) kX)))) bg)
   (@aq _ _ _ _ _ (@aU _ _ _ _ (bh h_Hearer_keep (hr.mono (by decide)) T.cl_Hearer (by decide +kernel) aF (af 0) (@ae _ _ _ _ _ (af 2) (@ae _ _ _ _ _ (af 3) (@ah _) aV) aV) (cI (ak (ak aC)))) rfl)
   (@aq _ _ _ _ _ (@aU _ _ _ _ (cT h_Hearer_take_all (hr.mono (by decide)) T.cl_Hearer (by decide +kernel) aF (af 0)) rfl)
   (@al _ _ _ (@bc _ _ _ _ (@cb _ _ _ _ (ae (cT h_Hearer_note (hr.mono (by decide)) T.cl_Hearer (by decide +kernel) aF (af 0)) (@ah _)))))))))
theorem ol:FnScope ["self","card"] ["self","card"] (defScope iH):=mSc
def gB(G:Cs):TSt:=(aJ (sIf (ao (dOp eqD (dOp ixD (aa 1) (dC (.int 0))) (dC (.str "hello")))) (bM (aP G.Hearer ns_Hearer (cu G) (aa 0) (ac (dOp ixD (aa 1) (dC (.int 1))) aj))) bF)
 (aJ (sIf (ao (dOp eqD (dOp ixD (aa 1) (dC (.int 0))) (dC (.str "data")))) (bM (aP G.Hearer ns_Hearer (cC G) (aa 0) (ac (dOp ixD (aa 1) (dC (.int 1))) (ac (dOp ixD (aa 1) (dC (.int 2))) (ac (dOp ixD (aa 1) (dC (.int 3))) aj))))) bF)
 (bM (bW aj))))
def fm(G:Cs):List D->M D:=mF 2 (gB G)
theorem oB{G:Cs}(T:Txt K mg G)(h_Hearer_hears_hello:CalM P w K mg base (CXE P w) G.Hearer "hears_hello" 2 ["self","opening"] (cu G))(h_Hearer_hears_data:CalM P w K mg base (CXE P w) G.Hearer "hears_data" 4 ["self","opening","number","piece"] (cC G)){f:Addr}{fd:FuncData}(F:Fun K "hears" "Hearer.hears" iH f fd):FnD P w K mg base (CXE P w) 5 f fd ["self","card"] (fm G):=by
 refine fE F ol fun cdv A outer s H E hr=>?_
 have hu:=hr.units;exact(@aq _ _ _ _ _ (bA (aH (cw hu) (aM ixd (af 1) (@ar _ _ _ _) (fun _ _=>rfl)) (@aL _ _ _ _) (aN _)) (@al _ _ _ (@bc _ _ _ _ (bh h_Hearer_hears_hello (hr.mono (by decide)) T.cl_Hearer (by decide +kernel) aF (af 0) (@ae _ _ _ _ _ (aM ixd (af 1) (@ar _ _ _ _) (fun _ _=>rfl)) (@ah _) da) (cI (ak aC))))) bg)
   (@aq _ _ _ _ _ (bA (aH (cw hu) (aM ixd (af 1) (@ar _ _ _ _) (fun _ _=>rfl)) (@aL _ _ _ _) (aN _)) (@al _ _ _ (@bc _ _ _ _ (bh h_Hearer_hears_data (hr.mono (by decide)) T.cl_Hearer (by decide +kernel) aF (af 0) (@ae _ _ _ _ _ (aM ixd (af 1) (@ar _ _ _ _) (fun _ _=>rfl)) (@ae _ _ _ _ _ (aM ixd (af 1) (@ar _ _ _ _) (fun _ _=>rfl)) (@ae _ _ _ _ _ (aM ixd (af 1) (@ar _ _ _ _) (fun _ _=>rfl)) (@ah _) da) da) da) (cI (ak (ak (ak aC))))))) bg)
   (@al _ _ _ (@bc _ _ _ _ (@cb _ _ _ _ (@ah _))))))
theorem sc_pieces_of:FnScope ["message","most","size","pieces","rest"] ["message","most"] (defScope j9):=mSc
def jU(fuel:Nat):TSt:=(aJ (cB (am B2 (ac (aa 1) (ac (dC (.int 1)) aj))) (gN 2))
 (aJ (cB (bW aj) (gN 3))
 (aJ (cB (aa 0) (gN 4))
 (aJ (fM (ao (dOp gtD (am bC (ac (aa 4) aj)) (aa 2))) (aJ (bz (dBM jO (aa 3) (ac (cf (ac (dC (.int 0)) (ac (dSl slD (aa 4) bN (bQ (aa 2))) aj))) aj)))
 (cB (dSl slD (aa 4) (bQ (aa 2)) bN) (gN 4))) fuel)
 (aJ (bz (dBM jO (aa 3) (ac (cf (ac (dC (.int 1)) (ac (aa 4) aj))) aj)))
 (bM (am fH (ac (aa 3) aj))))))))
def dm:List D->M D:=fun xs S=>cN S (jU 100 (xs.map some++List.replicate (5-xs.length) none) S)
theorem sm{G:Cs}(T:Txt K mg G){f:Addr}{fd:FuncData}(F:Fun K "pieces_of" "pieces_of" j9 f fd):FnD P w K mg base (CXE P w) 1 f fd ["message","most"] dm:=by
 refine fG F sc_pieces_of fun cdv A outer s H E hr=>?_
 have hu:=hr.units;have hfu:(100:Nat)=100:=rfl
 generalize hfe:(100:Nat)=fuel at hfu
 exact(@aq _ _ _ _ _ (@bI _ _ _ _ 2 _ _ sc_pieces_of.nd (bG (BQ rfl) rfl T.b_max boot_max (@ae _ _ _ _ _ (af 1) (@ae _ _ _ _ _ (@ar _ _ _ _) (@ah _) bS) aV)) rfl (by first|exact Or.inl rfl|exact Or.inr rfl) rfl (by first|exact .inl rfl|exact .inr rfl|assumption))
   (@aq _ _ _ _ _ (@bI _ _ _ _ 3 _ _ sc_pieces_of.nd (@cb _ _ _ _ (@ah _)) rfl (by first|exact Or.inl rfl|exact Or.inr rfl) rfl (by first|exact .inl rfl|exact .inr rfl|assumption))
   (@aq _ _ _ _ _ (@bI _ _ _ _ 4 _ _ sc_pieces_of.nd (af 0) rfl (by first|exact Or.inl rfl|exact Or.inr rfl) rfl (by first|exact .inl rfl|exact .inr rfl|assumption))
   (@aq _ _ _ _ _ (tX fuel (aH yS (bG dI rfl T.b_len PySem.boot_len (@ae _ _ _ _ _ (af 4) (@ah _) aV)) (af 2) (aN _)) (@aq _ _ _ _ _ (@aU _ _ _ _ (d9 PySem.F.slot_list_append PySem.F.type_list_append dE (af 3) (@ae _ _ _ _ _ (@bX _ _ _ _ _ (@ae _ _ _ _ _ (@ar _ _ _ _) (@ae _ _ _ _ _ (dR sld (af 4) fz (di (af 2))) (@ah _) da) bS)) (@ah _) kX)) rfl)
   (@al _ _ _ (@bI _ _ _ _ 4 _ _ sc_pieces_of.nd (dR sld (af 4) (di (af 2)) fz) rfl (by first|exact Or.inl rfl|exact Or.inr rfl) rfl (by first|exact .inl rfl|exact .inr rfl|assumption)))))
   (@aq _ _ _ _ _ (@aU _ _ _ _ (d9 PySem.F.slot_list_append PySem.F.type_list_append dE (af 3) (@ae _ _ _ _ _ (@bX _ _ _ _ _ (@ae _ _ _ _ _ (@ar _ _ _ _) (@ae _ _ _ _ _ (af 4) (@ah _) aV) bS)) (@ah _) kX)) rfl)
   (@al _ _ _ (@bc _ _ _ _ (eP iC rfl T.b_tuple boot_tuple (@ae _ _ _ _ _ (af 3) (@ah _) aV)))))))))
theorem sc_Sender_open_anew:FnScope ["self","message"] ["self"] (defScope eJ):=mSc
def dF(G:Cs):TSt:=(bz (dBM qR (aB G.Sender ns_Sender 6 (aa 0)) (ac (am dm (ac (aa 1) (ac (aB G.Sender ns_Sender 1 (aa 0)) aj))) aj)))
def d5(G:Cs):TSt:=(aJ (n7 G.Sender ns_Sender 4 (aa 0) (dC (.int 1)))
 (aJ (jE G.Sender ns_Sender 5 (aa 0) (dC (.str "opening")))
 (aJ (jE G.Sender ns_Sender 6 (aa 0) (bW aj))
 (aJ (qC (dWk (dSl slD (aB G.Sender ns_Sender 2 (aa 0)) (bQ (aB G.Sender ns_Sender 3 (aa 0))) bN)) (gN 1) (dF G))
 (aJ (jE G.Sender ns_Sender 7 (aa 0) (dC (.int 0)))
 (jE G.Sender ns_Sender 8 (aa 0) j0))))))
def bO(G:Cs):List D->M D:=mF 2 (d5 G)
theorem kS{G:Cs}(T:Txt K mg G)(h_pieces_of:Cal P w K mg base (CXE P w) "pieces_of" 1 ["message","most"] dm){f:Addr}{fd:FuncData}(F:Fun K "open_anew" "Sender.open_anew" eJ f fd):FnD P w K mg base (CXE P w) 2 f fd ["self"] (bO G):=by
 refine fE F sc_Sender_open_anew fun cdv A outer s H E hr=>?_
 have hu:=hr.units;exact(@aq _ _ _ _ _ (sK T.cl_Sender T.na_Sender_opening aE (by decide) (af 0) (@ar _ _ _ _))
   (@aq _ _ _ _ _ (gC T.cl_Sender T.na_Sender_state aE (by decide) (af 0) (@aL _ _ _ _))
   (@aq _ _ _ _ _ (gC T.cl_Sender T.na_Sender_pieces aE (by decide) (af 0) (@cb _ _ _ _ (@ah _)))
   (@aq _ _ _ _ _ (mW rfl (gQ (dR sld (aD T.cl_Sender T.na_Sender_messages aE (af 0)) (di (aD T.cl_Sender T.na_Sender_sure aE (af 0))) fz)) (cO (i:=1) sc_Sender_open_anew.nd) (@al _ _ _ (@aU _ _ _ _ (d9 PySem.F.slot_list_extend PySem.F.type_list_extend nv (aD T.cl_Sender T.na_Sender_pieces aE (af 0)) (@ae _ _ _ _ _ (aQ h_pieces_of (hr.mono (by decide)) rfl aF (@ae _ _ _ _ _ (af 1) (ae (aD T.cl_Sender T.na_Sender_most aE (af 0)) (@ah _)) aV) (ak (ak aC))) (@ah _) kc)) rfl)))
   (@aq _ _ _ _ _ (gC T.cl_Sender T.na_Sender_base aE (by decide) (af 0) (@ar _ _ _ _))
   (@al _ _ _ (gC T.cl_Sender T.na_Sender_noted aE (by decide) (af 0) oQ)))))))
theorem kU:FnScope ["self","index"] ["self","index"] (defScope eK):=mSc
def d7(G:Cs):TSt:=(aJ (n7 G.Sender ns_Sender 3 (aa 0) (am nA (ac (iy (dWk (dSl slD (aB G.Sender ns_Sender 6 (aa 0)) (bQ (aB G.Sender ns_Sender 7 (aa 0))) (bQ (aa 1)))) (gN 0) j6 (dOp ixD (aa 0) (dC (.int 0))) 1 []) aj)))
 (jE G.Sender ns_Sender 7 (aa 0) (aa 1)))
def dn(G:Cs):List D->M D:=mF 2 (d7 G)
theorem k8{G:Cs}(T:Txt K mg G){f:Addr}{fd:FuncData}(F:Fun K "move_base" "Sender.move_base" eK f fd):FnD P w K mg base (CXE P w) 1 f fd ["self","index"] (dn G):=by
 refine fE F kU fun cdv A outer s H E hr=>?_
 have hu:=hr.units;exact(@aq _ _ _ _ _ (sK T.cl_Sender T.na_Sender_sure aE (by decide) (af 0) (bG (vF rfl) rfl T.b_sum boot_sum (@ae _ _ _ _ _ (iV (own:=["piece"]) (capN:=[]) (caps:=[]) ⟨rfl,ClOk.all trivial,rfl,by decide +kernel,rfl,by decide +kernel,trivial,by decide +kernel⟩ rfl (gQ (dR sld (aD T.cl_Sender T.na_Sender_pieces aE (af 0)) (di (aD T.cl_Sender T.na_Sender_base aE (af 0))) (di (af 1)))) (jP (by decide)) (fun C s2 H2 fp=>⟨(cO (i:=0) (show(["piece"]:List Str).Nodup from by decide +kernel)),lI,(aM ixd (af 0) (@ar _ _ _ _) (fun _ _=>rfl))⟩)) (@ah _) rD)))
   (@al _ _ _ (gC T.cl_Sender T.na_Sender_base aE (by decide) (af 0) (af 1))))
theorem sc_Sender_note_pieces:FnScope ["self","bits","k","bit"] ["self","bits"] (defScope dQ):=mSc
def cz(G:Cs):TSt:=(sIf (dr (ao (dOp eqD (aa 3) (dC (.int 1)))) (ao (dOp ltD (dOp bP (aB G.Sender ns_Sender 7 (aa 0)) (aa 2)) (am bC (ac (aB G.Sender ns_Sender 6 (aa 0)) aj))))) (uV qi (aB G.Sender ns_Sender 8 (aa 0)) (dOp bP (aB G.Sender ns_Sender 7 (aa 0)) (aa 2)) (dC (.bl true))) bF)
def dH(G:Cs):TSt:=(qC (wF 0 (aa 1)) (gT [2,3]) (cz G))
def cV(G:Cs):List D->M D:=mF 4 (dH G)
theorem j3{G:Cs}(T:Txt K mg G){f:Addr}{fd:FuncData}(F:Fun K "note_pieces" "Sender.note_pieces" dQ f fd):FnD P w K mg base (CXE P w) 1 f fd ["self","bits"] (cV G):=by
 refine fE F sc_Sender_note_pieces fun cdv A outer s H E hr=>?_
 have hu:=hr.units;exact(@al _ _ _ (mW rfl (zr rfl T.b_enumerate (af 1)) (vC rfl (jz (cO (i:=2) sc_Sender_note_pieces.nd) (jz (cO (i:=3) sc_Sender_note_pieces.nd) sB))) (@al _ _ _ (bA (PWd.pt (eB (aH (cw hu) (af 3) (@ar _ _ _ _) (aN _)) (dU (aH j2 (@bJ _ _ _ _ _ _ _ _ cA (aD T.cl_Sender T.na_Sender_base aE (af 0)) (af 2)) (bG dI rfl T.b_len PySem.boot_len (ae (aD T.cl_Sender T.na_Sender_pieces aE (af 0)) (@ah _))) (aN _))))) (@al _ _ _ (sy (wr hu) (aD T.cl_Sender T.na_Sender_noted aE (af 0)) (@bJ _ _ _ _ _ _ _ _ cA (aD T.cl_Sender T.na_Sender_base aE (af 0)) (af 2)) (@li _ _ _ _))) bg))))
theorem sc_Sender_hears_note:FnScope ["self","number","bits","index"] ["self","number","bits"] (defScope d8):=mSc
def dS(G:Cs):TSt:=(sIf (bU (am b8 (ac (aa 1) (ac (aB G.Sender ns_Sender 0 (aa 0)) aj)))) (aJ (cB (am cr (ac (aa 1) (ac (aB G.Sender ns_Sender 7 (aa 0)) (ac (aB G.Sender ns_Sender 0 (aa 0)) aj)))) (gN 3))
 (sIf (ao (dOp leD (aa 3) (am xR (ac (dOp bP (aB G.Sender ns_Sender 7 (aa 0)) (aB G.Sender ns_Sender 0 (aa 0))) (ac (am bC (ac (aB G.Sender ns_Sender 6 (aa 0)) aj)) aj))))) (aJ (bz (aP G.Sender ns_Sender (dn G) (aa 0) (ac (aa 3) aj)))
 (bz (aP G.Sender ns_Sender (cV G) (aa 0) (ac (aa 2) aj)))) bF)) bF)
def ca(G:Cs):List D->M D:=mF 4 (dS G)
theorem j7{G:Cs}(T:Txt K mg G)(h_goes_round:Cal P w K mg base (CXE P w) "goes_round" 1 ["number","window"] b8)(h_index_near:Cal P w K mg base (CXE P w) "index_near" 1 ["number","low","window"] cr)(h_Sender_move_base:CalM P w K mg base (CXE P w) G.Sender "move_base" 1 ["self","index"] (dn G))(h_Sender_note_pieces:CalM P w K mg base (CXE P w) G.Sender "note_pieces" 1 ["self","bits"] (cV G)){f:Addr}{fd:FuncData}(F:Fun K "hears_note" "Sender.hears_note" d8 f fd):FnD P w K mg base (CXE P w) 2 f fd ["self","number","bits"] (ca G):=by
 refine fE F sc_Sender_hears_note fun cdv A outer s H E hr=>?_
 have hu:=hr.units;exact(@al _ _ _ (bA (db (aQ h_goes_round (hr.mono (by decide)) rfl aF (@ae _ _ _ _ _ (af 1) (ae (aD T.cl_Sender T.na_Sender_window aE (af 0)) (@ah _)) aV) (ak (ak aC)))) (@aq _ _ _ _ _ (@bI _ _ _ _ 3 _ _ sc_Sender_hears_note.nd (aQ h_index_near (hr.mono (by decide)) rfl aF (@ae _ _ _ _ _ (af 1) (ae (aD T.cl_Sender T.na_Sender_base aE (af 0)) (ae (aD T.cl_Sender T.na_Sender_window aE (af 0)) (@ah _))) aV) (ak (ak (ak aC)))) rfl (by first|exact Or.inl rfl|exact Or.inr rfl) rfl (by first|exact .inl rfl|exact .inr rfl|assumption))
   (@al _ _ _ (bA (aH pR (af 3) (bG (yc rfl) rfl T.b_min boot_min (@ae _ _ _ _ _ (@bJ _ _ _ _ _ _ _ _ cA (aD T.cl_Sender T.na_Sender_base aE (af 0)) (aD T.cl_Sender T.na_Sender_window aE (af 0))) (@ae _ _ _ _ _ (bG dI rfl T.b_len PySem.boot_len (ae (aD T.cl_Sender T.na_Sender_pieces aE (af 0)) (@ah _))) (@ah _) kc) sA)) (aN _)) (@aq _ _ _ _ _ (@aU _ _ _ _ (bh h_Sender_move_base (hr.mono (by decide)) T.cl_Sender (by decide +kernel) aF (af 0) (@ae _ _ _ _ _ (af 3) (@ah _) aV) (cI (ak aC))) rfl)
   (@al _ _ _ (@aU _ _ _ _ (bh h_Sender_note_pieces (hr.mono (by decide)) T.cl_Sender (by decide +kernel) aF (af 0) (@ae _ _ _ _ _ (af 2) (@ah _) aV) (cI (ak aC))) rfl))) bg))) bg))
theorem kY:FnScope ["self","card"] ["self","card"] (defScope eF):=mSc
def el(G:Cs):TSt:=(sIf (dr (ao (dOp eqD (dOp ixD (aa 1) (dC (.int 0))) (dC (.str "welcome")))) (ao (dOp eqD (aB G.Sender ns_Sender 5 (aa 0)) (dC (.str "opening"))))) (jE G.Sender ns_Sender 5 (aa 0) (dC (.str "open"))) (sIf (dr (ao (dOp eqD (dOp ixD (aa 1) (dC (.int 0))) (dC (.str "who")))) (ao (dOp eqD (aB G.Sender ns_Sender 5 (aa 0)) (dC (.str "open"))))) (bz (aP G.Sender ns_Sender (bO G) (aa 0) aj)) (sIf (dr (ao (dOp eqD (dOp ixD (aa 1) (dC (.int 0))) (dC (.str "note")))) (ao (dOp eqD (aB G.Sender ns_Sender 5 (aa 0)) (dC (.str "open"))))) (bz (aP G.Sender ns_Sender (ca G) (aa 0) (ac (dOp ixD (aa 1) (dC (.int 2))) (ac (dOp ixD (aa 1) (dC (.int 3))) aj)))) bF)))
def dw(G:Cs):List D->M D:=mF 2 (el G)
theorem k7{G:Cs}(T:Txt K mg G)(h_Sender_open_anew:CalM P w K mg base (CXE P w) G.Sender "open_anew" 2 ["self"] (bO G))(h_Sender_hears_note:CalM P w K mg base (CXE P w) G.Sender "hears_note" 2 ["self","number","bits"] (ca G)){f:Addr}{fd:FuncData}(F:Fun K "hears_own" "Sender.hears_own" eF f fd):FnD P w K mg base (CXE P w) 3 f fd ["self","card"] (dw G):=by
 refine fE F kY fun cdv A outer s H E hr=>?_
 have hu:=hr.units;exact(@al _ _ _ (bA (PWd.pt (eB (aH (cw hu) (aM ixd (af 1) (@ar _ _ _ _) (fun _ _=>rfl)) (@aL _ _ _ _) (aN _)) (dU (aH (cw hu) (aD T.cl_Sender T.na_Sender_state aE (af 0)) (@aL _ _ _ _) (aN _))))) (@al _ _ _ (gC T.cl_Sender T.na_Sender_state aE (by decide) (af 0) (@aL _ _ _ _))) (@al _ _ _ (bA (PWd.pt (eB (aH (cw hu) (aM ixd (af 1) (@ar _ _ _ _) (fun _ _=>rfl)) (@aL _ _ _ _) (aN _)) (dU (aH (cw hu) (aD T.cl_Sender T.na_Sender_state aE (af 0)) (@aL _ _ _ _) (aN _))))) (@al _ _ _ (@aU _ _ _ _ (cT h_Sender_open_anew (hr.mono (by decide)) T.cl_Sender (by decide +kernel) aF (af 0)) rfl)) (@al _ _ _ (bA (PWd.pt (eB (aH (cw hu) (aM ixd (af 1) (@ar _ _ _ _) (fun _ _=>rfl)) (@aL _ _ _ _) (aN _)) (dU (aH (cw hu) (aD T.cl_Sender T.na_Sender_state aE (af 0)) (@aL _ _ _ _) (aN _))))) (@al _ _ _ (@aU _ _ _ _ (bh h_Sender_hears_note (hr.mono (by decide)) T.cl_Sender (by decide +kernel) aF (af 0) (@ae _ _ _ _ _ (aM ixd (af 1) (@ar _ _ _ _) (fun _ _=>rfl)) (@ae _ _ _ _ _ (aM ixd (af 1) (@ar _ _ _ _) (fun _ _=>rfl)) (@ah _) da) da) (cI (ak (ak aC)))) rfl)) bg))))))
theorem n9:FnScope ["self","card"] ["self","card"] (defScope io):=mSc
def gy(G:Cs):TSt:=(aJ (sIf (ao (dOp eqD (dOp ixD (aa 1) (dC (.int 1))) (aB G.Sender ns_Sender 4 (aa 0)))) (bz (aP G.Sender ns_Sender (dw G) (aa 0) (ac (aa 1) aj))) bF)
 (bM (bW aj)))
def fw(G:Cs):List D->M D:=mF 2 (gy G)
theorem oz{G:Cs}(T:Txt K mg G)(h_Sender_hears_own:CalM P w K mg base (CXE P w) G.Sender "hears_own" 3 ["self","card"] (dw G)){f:Addr}{fd:FuncData}(F:Fun K "hears" "Sender.hears" io f fd):FnD P w K mg base (CXE P w) 4 f fd ["self","card"] (fw G):=by
 refine fE F n9 fun cdv A outer s H E hr=>?_
 have hu:=hr.units;exact(@aq _ _ _ _ _ (bA (aH (cw hu) (aM ixd (af 1) (@ar _ _ _ _) (fun _ _=>rfl)) (aD T.cl_Sender T.na_Sender_opening aE (af 0)) (aN _)) (@al _ _ _ (@aU _ _ _ _ (bh h_Sender_hears_own (hr.mono (by decide)) T.cl_Sender (by decide +kernel) aF (af 0) (@ae _ _ _ _ _ (af 1) (@ah _) aV) (cI (ak aC))) rfl)) bg)
   (@al _ _ _ (@bc _ _ _ _ (@cb _ _ _ _ (@ah _)))))
theorem sc_World_arrive:FnScope ["self","road","strip","card"] ["self","road","strip"] (defScope iJ):=mSc
def gD(G:Cs):TSt:=(aJ (vX [G.NoStrip] (cB (am (kG G) (ac (aa 2) aj)) (gN 3)) (cB (dC .non) (gN 3)))
 (aJ (sIf (dr (ao (dOp mh (aa 3) (dC .non))) (ao (dOp eqD (aa 1) (dC (.str "there"))))) (bz (aP G.World ns_World (bV G) (aa 0) (ac (dC (.str "back")) (ac (aP G.Hearer ns_Hearer (fm G) (aB G.World ns_World 1 (aa 0)) (ac (aa 3) aj)) aj)))) bF)
 (sIf (dr (ao (dOp mh (aa 3) (dC .non))) (ao (dOp eqD (aa 1) (dC (.str "back"))))) (bz (aP G.World ns_World (bV G) (aa 0) (ac (dC (.str "there")) (ac (aP G.Sender ns_Sender (fw G) (aB G.World ns_World 0 (aa 0)) (ac (aa 3) aj)) aj)))) bF)))
def eV(G:Cs):List D->M D:=mF 4 (gD G)
theorem oA{G:Cs}(T:Txt K mg G)(h_read:Cal P w K mg base (CXE P w) "read" 5 ["strip"] (kG G))(h_Hearer_hears:CalM P w K mg base (CXE P w) G.Hearer "hears" 5 ["self","card"] (fm G))(h_World_put_behind:CalM P w K mg base (CXE P w) G.World "put_behind" 6 ["self","road","cards"] (bV G))(h_Sender_hears:CalM P w K mg base (CXE P w) G.Sender "hears" 4 ["self","card"] (fw G)){f:Addr}{fd:FuncData}(F:Fun K "arrive" "World.arrive" iJ f fd):FnD P w K mg base (CXE P w) 7 f fd ["self","road","strip"] (eV G):=by
 refine fE F sc_World_arrive fun cdv A outer s H E hr=>?_
 have hu:=hr.units;exact(@aq _ _ _ _ _ (BM T.x_NoStrip (A1 T.su_NoStrip_NoStrip Bh) rfl ⟨rfl,rfl⟩ (@al _ _ _ (@bI _ _ _ _ 3 _ _ sc_World_arrive.nd (aQ h_read (hr.mono (by decide)) rfl aF (@ae _ _ _ _ _ (af 2) (@ah _) aV) (ak aC)) rfl (by first|exact Or.inl rfl|exact Or.inr rfl) rfl (by first|exact .inl rfl|exact .inr rfl|assumption))) (fun _=>(@al _ _ _ (@bI _ _ _ _ 3 _ _ sc_World_arrive.nd (@vw _ _ _) rfl (by first|exact Or.inl rfl|exact Or.inr rfl) rfl (by first|exact .inl rfl|exact .inr rfl|assumption)))))
   (@aq _ _ _ _ _ (bA (PWd.pt (eB (aH wX (af 3) (@vw _ _ _) (aN _)) (dU (aH (cw hu) (af 1) (@aL _ _ _ _) (aN _))))) (@al _ _ _ (@aU _ _ _ _ (bh h_World_put_behind (hr.mono (by decide)) T.cl_World (by decide +kernel) aF (af 0) (@ae _ _ _ _ _ (@aL _ _ _ _) (ae (bh h_Hearer_hears (hr.mono (by decide)) T.cl_Hearer (by decide +kernel) aF (aD T.cl_World T.na_World_hearer bR (af 0)) (@ae _ _ _ _ _ (af 3) (@ah _) aV) (cI (ak aC))) (@ah _)) bS) (cI (ak (ak aC)))) rfl)) bg)
   (@al _ _ _ (bA (PWd.pt (eB (aH wX (af 3) (@vw _ _ _) (aN _)) (dU (aH (cw hu) (af 1) (@aL _ _ _ _) (aN _))))) (@al _ _ _ (@aU _ _ _ _ (bh h_World_put_behind (hr.mono (by decide)) T.cl_World (by decide +kernel) aF (af 0) (@ae _ _ _ _ _ (@aL _ _ _ _) (ae (bh h_Sender_hears (hr.mono (by decide)) T.cl_Sender (by decide +kernel) aF (aD T.cl_World T.na_World_sender bR (af 0)) (@ae _ _ _ _ _ (af 3) (@ah _) aV) (cI (ak aC))) (@ah _)) bS) (cI (ak (ak aC)))) rfl)) bg))))
theorem qN:FnScope ["self","road"] ["self","road"] (defScope jL):=mSc
def jn(G:Cs):TSt:=(sIf (bU (aP G.World ns_World (aW G) (aa 0) (ac (aa 1) (ac (dC (.int 0)) aj)))) (bz (aP G.World ns_World (eV G) (aa 0) (ac (aa 1) (ac (dOp ixD (dBM vo (dOp gp (aB G.World ns_World 2 (aa 0)) (aa 1)) (ac (dC (.int 0)) aj)) (dC (.int 0))) aj)))) bF)
def cS(G:Cs):List D->M D:=mF 2 (jn G)
theorem qV{G:Cs}(T:Txt K mg G)(h_World_has_strip:CalM P w K mg base (CXE P w) G.World "has_strip" 1 ["self","road","k"] (aW G))(h_World_arrive:CalM P w K mg base (CXE P w) G.World "arrive" 7 ["self","road","strip"] (eV G)){f:Addr}{fd:FuncData}(F:Fun K "step" "World.step" jL f fd):FnD P w K mg base (CXE P w) 8 f fd ["self","road"] (cS G):=by
 refine fE F qN fun cdv A outer s H E hr=>?_
 have hu:=hr.units;exact(@al _ _ _ (bA (db (bh h_World_has_strip (hr.mono (by decide)) T.cl_World (by decide +kernel) aF (af 0) (@ae _ _ _ _ _ (af 1) (@ae _ _ _ _ _ (@ar _ _ _ _) (@ah _) bS) aV) (cI (ak (ak aC))))) (@al _ _ _ (@aU _ _ _ _ (bh h_World_arrive (hr.mono (by decide)) T.cl_World (by decide +kernel) aF (af 0) (@ae _ _ _ _ _ (af 1) (@ae _ _ _ _ _ (aM ixd (d9 PySem.F.slot_list_pop PySem.F.type_list_pop yW (aM (qv hu) (aD T.cl_World T.na_World_roads bR (af 0)) (af 1) (fun _ _=>rfl)) (@ae _ _ _ _ _ (@ar _ _ _ _) (@ah _) bS)) (@ar _ _ _ _) (fun _ _=>rfl)) (@ah _) da) aV) (cI (ak (ak aC)))) rfl)) bg))
theorem mM:FnScope ["self","road"] ["self","road"] (defScope gz):=mSc
def fL(G:Cs):TSt:=(bM (am fH (ac (iy (dWk (dOp gp (aB G.World ns_World 2 (aa 0)) (aa 1))) (gN 0) j6 (dOp ixD (aa 0) (dC (.int 0))) 1 []) aj)))
def aO(G:Cs):List D->M D:=mF 2 (fL G)
theorem mR{G:Cs}(T:Txt K mg G){f:Addr}{fd:FuncData}(F:Fun K "on_road" "World.on_road" gz f fd):FnD P w K mg base (CXE P w) 1 f fd ["self","road"] (aO G):=by
 refine fE F mM fun cdv A outer s H E hr=>?_
 have hu:=hr.units;exact(@al _ _ _ (@bc _ _ _ _ (eP iC rfl T.b_tuple boot_tuple (@ae _ _ _ _ _ (iV (own:=["entry"]) (capN:=[]) (caps:=[]) ⟨rfl,ClOk.all trivial,rfl,by decide +kernel,rfl,by decide +kernel,trivial,by decide +kernel⟩ rfl (gQ (aM (qv hu) (aD T.cl_World T.na_World_roads bR (af 0)) (af 1) (fun _ _=>rfl))) (jP (by decide)) (fun C s2 H2 fp=>⟨(cO (i:=0) (show(["entry"]:List Str).Nodup from by decide +kernel)),lI,(aM ixd (af 0) (@ar _ _ _ _) (fun _ _=>rfl))⟩)) (@ah _) rD))))
theorem pf:FnScope ["self","message"] ["self","message"] (defScope i9):=mSc
def iu(G:Cs):TSt:=(aJ (bz (dBM jO (aB G.Sender ns_Sender 2 (aa 0)) (ac (aa 1) aj)))
 (sIf (ao (dOp neD (aB G.Sender ns_Sender 5 (aa 0)) (dC (.str "shut")))) (bz (dBM qR (aB G.Sender ns_Sender 6 (aa 0)) (ac (am dm (ac (aa 1) (ac (aB G.Sender ns_Sender 1 (aa 0)) aj))) aj))) bF))
def gf(G:Cs):List D->M D:=mF 2 (iu G)
theorem pA{G:Cs}(T:Txt K mg G)(h_pieces_of:Cal P w K mg base (CXE P w) "pieces_of" 1 ["message","most"] dm){f:Addr}{fd:FuncData}(F:Fun K "hand" "Sender.hand" i9 f fd):FnD P w K mg base (CXE P w) 2 f fd ["self","message"] (gf G):=by
 refine fE F pf fun cdv A outer s H E hr=>?_
 have hu:=hr.units;exact(@aq _ _ _ _ _ (@aU _ _ _ _ (d9 PySem.F.slot_list_append PySem.F.type_list_append dE (aD T.cl_Sender T.na_Sender_messages aE (af 0)) (@ae _ _ _ _ _ (af 1) (@ah _) aV)) rfl)
   (@al _ _ _ (bA (aH (nO hu) (aD T.cl_Sender T.na_Sender_state aE (af 0)) (@aL _ _ _ _) (aN _)) (@al _ _ _ (@aU _ _ _ _ (d9 PySem.F.slot_list_extend PySem.F.type_list_extend nv (aD T.cl_Sender T.na_Sender_pieces aE (af 0)) (@ae _ _ _ _ _ (aQ h_pieces_of (hr.mono (by decide)) rfl aF (@ae _ _ _ _ _ (af 1) (ae (aD T.cl_Sender T.na_Sender_most aE (af 0)) (@ah _)) aV) (ak (ak aC))) (@ah _) kc)) rfl)) bg)))
theorem qy:FnScope ["self","message"] ["self","message"] (defScope jD):=mSc
def ja(G:Cs):TSt:=(bz (aP G.Sender ns_Sender (gf G) (aB G.World ns_World 0 (aa 0)) (ac (aa 1) aj)))
def gW(G:Cs):List D->M D:=mF 2 (ja G)
theorem qL{G:Cs}(T:Txt K mg G)(h_Sender_hand:CalM P w K mg base (CXE P w) G.Sender "hand" 2 ["self","message"] (gf G)){f:Addr}{fd:FuncData}(F:Fun K "hand" "World.hand" jD f fd):FnD P w K mg base (CXE P w) 3 f fd ["self","message"] (gW G):=by
 refine fE F qy fun cdv A outer s H E hr=>?_
 have hu:=hr.units;exact(@al _ _ _ (@aU _ _ _ _ (bh h_Sender_hand (hr.mono (by decide)) T.cl_Sender (by decide +kernel) aF (aD T.cl_World T.na_World_sender bR (af 0)) (@ae _ _ _ _ _ (af 1) (@ah _) aV) (cI (ak aC))) rfl))
theorem sc__law_message:FnScope ["_law_cell_here","_law_longest","_law_many"] ["_law_cell_here","_law_longest"] (defScope iK):=mSc
def gx:TSt:=(aJ (cB (am aI (ac (aa 0) (ac (dC (.int 9973)) (ac (dOp bP (aa 1) (dC (.int 1))) aj)))) (gN 2))
 (bM (am fH (ac (iy (rM (aa 2)) (gN 0) j6 (am aI (ac (dOp bP (aa 1) (dOp gX (dC (.int 31)) (aa 0))) (ac (dC (.int 9967)) (ac (dC (.int 256)) aj)))) 1 [0]) aj))))
def fu:List D->M D:=mP 3 gx
theorem oG{G:Cs}(T:Txt K mg G)(h__law_mix:Cal P w K mg base (CXE P w) "_law_mix" 1 ["_law_cell_here","_law_prime","_law_many"] aI){f:Addr}{fd:FuncData}(F:Fun K "_law_message" "_law_message" iK f fd):FnD P w K mg base (CXE P w) 2 f fd ["_law_cell_here","_law_longest"] fu:=by
 refine fG F sc__law_message fun cdv A outer s H E hr=>?_
 have hu:=hr.units;exact(@aq _ _ _ _ _ (@bI _ _ _ _ 2 _ _ sc__law_message.nd (aQ h__law_mix (hr.mono (by decide)) rfl aF (@ae _ _ _ _ _ (af 0) (@ae _ _ _ _ _ (@ar _ _ _ _) (@ae _ _ _ _ _ (@bJ _ _ _ _ _ _ _ _ cA (af 1) (@ar _ _ _ _)) (@ah _) sA) bS) aV) (ak (ak (ak aC)))) rfl (by first|exact Or.inl rfl|exact Or.inr rfl) rfl (by first|exact .inl rfl|exact .inr rfl|assumption))
   (@al _ _ _ (@bc _ _ _ _ (eP iC rfl T.b_tuple boot_tuple (@ae _ _ _ _ _ (iV (own:=["_law_k"]) (capN:=["_law_cell_here"]) (caps:=[0]) ⟨rfl,ClOk.all ⟨rfl,trivial⟩,rfl,by decide +kernel,rfl,by decide +kernel,⟨⟨rfl,Or.inl rfl,Or.inl rfl,rfl⟩,trivial⟩,by decide +kernel⟩ rfl (pW rfl T.b_range (af 2)) (jP (by decide)) (fun C s2 H2 fp=>⟨(cO (i:=0) (show(["_law_k","_law_cell_here"]:List Str).Nodup from by decide +kernel)),lI,(aQ h__law_mix (hr.mono (by decide)) rfl aF (@ae _ _ _ _ _ (@bJ _ _ _ _ _ _ _ _ cA (af 1) (@bJ _ _ _ _ _ _ _ _ ko (@ar _ _ _ _) (af 0))) (@ae _ _ _ _ _ (@ar _ _ _ _) (@ae _ _ _ _ _ (@ar _ _ _ _) (@ah _) bS) bS) sA) (ak (ak (ak aC))))⟩)) (@ah _) rD)))))
theorem mJ:FnScope ["self","index"] ["self","index"] (defScope fQ):=mSc
def eZ(G:Cs):TSt:=(bM (cf (ac (dC (.str "data")) (ac (aB G.Sender ns_Sender 4 (aa 0)) (ac (am dP (ac (aa 1) (ac (aB G.Sender ns_Sender 0 (aa 0)) aj))) (ac (dOp ixD (aB G.Sender ns_Sender 6 (aa 0)) (aa 1)) aj))))))
def df(G:Cs):List D->M D:=mF 2 (eZ G)
theorem mI{G:Cs}(T:Txt K mg G)(h_number_of:Cal P w K mg base (CXE P w) "number_of" 1 ["index","window"] dP){f:Addr}{fd:FuncData}(F:Fun K "data_of" "Sender.data_of" fQ f fd):FnD P w K mg base (CXE P w) 2 f fd ["self","index"] (df G):=by
 refine fE F mJ fun cdv A outer s H E hr=>?_
 have hu:=hr.units;exact(@al _ _ _ (@bc _ _ _ _ (@bX _ _ _ _ _ (@ae _ _ _ _ _ (@aL _ _ _ _) (ae (aD T.cl_Sender T.na_Sender_opening aE (af 0)) (@ae _ _ _ _ _ (aQ h_number_of (hr.mono (by decide)) rfl aF (@ae _ _ _ _ _ (af 1) (ae (aD T.cl_Sender T.na_Sender_window aE (af 0)) (@ah _)) aV) (ak (ak aC))) (@ae _ _ _ _ _ (aM ixd (aD T.cl_Sender T.na_Sender_pieces aE (af 0)) (af 1) (fun _ _=>rfl)) (@ah _) da) kc)) bS))))
theorem sc_Sender_wanted:FnScope ["self","end"] ["self"] (defScope gG):=mSc
def fO(G:Cs):TSt:=(aJ (cB (am xR (ac (dOp bP (aB G.Sender ns_Sender 7 (aa 0)) (aB G.Sender ns_Sender 0 (aa 0))) (ac (am bC (ac (aB G.Sender ns_Sender 6 (aa 0)) aj)) aj))) (gN 1))
 (bM (iy (wC (aB G.Sender ns_Sender 7 (aa 0)) (aa 1)) (gN 0) (ao (dOp fA (aa 0) (aB G.Sender ns_Sender 8 (aa 1)))) (aa 0) 1 [0])))
def dz(G:Cs):List D->M D:=mF 2 (fO G)
theorem mV{G:Cs}(T:Txt K mg G){f:Addr}{fd:FuncData}(F:Fun K "wanted" "Sender.wanted" gG f fd):FnD P w K mg base (CXE P w) 1 f fd ["self"] (dz G):=by
 refine fE F sc_Sender_wanted fun cdv A outer s H E hr=>?_
 have hu:=hr.units;exact(@aq _ _ _ _ _ (@bI _ _ _ _ 1 _ _ sc_Sender_wanted.nd (bG (yc rfl) rfl T.b_min boot_min (@ae _ _ _ _ _ (@bJ _ _ _ _ _ _ _ _ cA (aD T.cl_Sender T.na_Sender_base aE (af 0)) (aD T.cl_Sender T.na_Sender_window aE (af 0))) (@ae _ _ _ _ _ (bG dI rfl T.b_len PySem.boot_len (ae (aD T.cl_Sender T.na_Sender_pieces aE (af 0)) (@ah _))) (@ah _) kc) sA)) rfl (by first|exact Or.inl rfl|exact Or.inr rfl) rfl (by first|exact .inl rfl|exact .inr rfl|assumption))
   (@al _ _ _ (@bc _ _ _ _ (iV (own:=["index"]) (capN:=["self"]) (caps:=[0]) ⟨rfl,ClOk.all ⟨rfl,trivial⟩,rfl,by decide +kernel,rfl,by decide +kernel,⟨⟨rfl,Or.inl rfl,Or.inl rfl,rfl⟩,trivial⟩,by decide +kernel⟩ rfl (ve rfl T.b_range (aD T.cl_Sender T.na_Sender_base aE (af 0)) (af 1)) (jP (by decide)) (fun C s2 H2 fp=>⟨(cO (i:=0) (show(["index","self"]:List Str).Nodup from by decide +kernel)),(BT (aH (rq hu) (af 0) (aD T.cl_Sender T.na_Sender_noted aE (af 1)) (by with_unfolding_all rfl))),(af 0)⟩)))))
theorem qu:FnScope ["self"] ["self"] (defScope je):=mSc
def iz(G:Cs):TSt:=(aJ (sIf (ao (dOp eqD (aB G.Sender ns_Sender 5 (aa 0)) (dC (.str "opening")))) (bM (bW (ac (cf (ac (dC (.str "hello")) (ac (aB G.Sender ns_Sender 4 (aa 0)) aj))) aj))) bF)
 (aJ (sIf (ao (dOp eqD (aB G.Sender ns_Sender 5 (aa 0)) (dC (.str "open")))) (bM (iy (dWk (aP G.Sender ns_Sender (dz G) (aa 0) aj)) (gN 0) j6 (aP G.Sender ns_Sender (df G) (aa 1) (ac (aa 0) aj)) 1 [0])) bF)
 (bM (bW aj))))
def gh(G:Cs):List D->M D:=mF 1 (iz G)
theorem qh{G:Cs}(T:Txt K mg G)(h_Sender_wanted:CalM P w K mg base (CXE P w) G.Sender "wanted" 1 ["self"] (dz G))(h_Sender_data_of:CalM P w K mg base (CXE P w) G.Sender "data_of" 2 ["self","index"] (df G)){f:Addr}{fd:FuncData}(F:Fun K "tick" "Sender.tick" je f fd):FnD P w K mg base (CXE P w) 3 f fd ["self"] (gh G):=by
 refine fE F qu fun cdv A outer s H E hr=>?_
 have hu:=hr.units;exact(@aq _ _ _ _ _ (bA (aH (cw hu) (aD T.cl_Sender T.na_Sender_state aE (af 0)) (@aL _ _ _ _) (aN _)) (@al _ _ _ (@bc _ _ _ _ (@cb _ _ _ _ (@ae _ _ _ _ _ (@bX _ _ _ _ _ (@ae _ _ _ _ _ (@aL _ _ _ _) (ae (aD T.cl_Sender T.na_Sender_opening aE (af 0)) (@ah _)) bS)) (@ah _) kX)))) bg)
   (@aq _ _ _ _ _ (bA (aH (cw hu) (aD T.cl_Sender T.na_Sender_state aE (af 0)) (@aL _ _ _ _) (aN _)) (@al _ _ _ (@bc _ _ _ _ (iV (own:=["index"]) (capN:=["self"]) (caps:=[0]) ⟨rfl,ClOk.all ⟨rfl,trivial⟩,rfl,by decide +kernel,rfl,by decide +kernel,⟨⟨rfl,Or.inl rfl,Or.inl rfl,rfl⟩,trivial⟩,by decide +kernel⟩ rfl (gQ (cT h_Sender_wanted (hr.mono (by decide)) T.cl_Sender (by decide +kernel) aF (af 0))) (jP (by decide)) (fun C s2 H2 fp=>⟨(cO (i:=0) (show(["index","self"]:List Str).Nodup from by decide +kernel)),lI,(bh h_Sender_data_of (hr.mono (by decide)) T.cl_Sender (by decide +kernel) aF (af 1) (@ae _ _ _ _ _ (af 0) (@ah _) aV) (cI (ak aC)))⟩)))) bg)
   (@al _ _ _ (@bc _ _ _ _ (@cb _ _ _ _ (@ah _))))))
theorem qO:FnScope ["self"] ["self"] (defScope jN):=mSc
def jl(G:Cs):TSt:=(bz (aP G.World ns_World (bV G) (aa 0) (ac (dC (.str "there")) (ac (aP G.Sender ns_Sender (gh G) (aB G.World ns_World 0 (aa 0)) aj) aj))))
def ib(G:Cs):List D->M D:=mF 1 (jl G)
theorem qK{G:Cs}(T:Txt K mg G)(h_Sender_tick:CalM P w K mg base (CXE P w) G.Sender "tick" 3 ["self"] (gh G))(h_World_put_behind:CalM P w K mg base (CXE P w) G.World "put_behind" 6 ["self","road","cards"] (bV G)){f:Addr}{fd:FuncData}(F:Fun K "tick" "World.tick" jN f fd):FnD P w K mg base (CXE P w) 7 f fd ["self"] (ib G):=by
 refine fE F qO fun cdv A outer s H E hr=>?_
 have hu:=hr.units;exact(@al _ _ _ (@aU _ _ _ _ (bh h_World_put_behind (hr.mono (by decide)) T.cl_World (by decide +kernel) aF (af 0) (@ae _ _ _ _ _ (@aL _ _ _ _) (ae (cT h_Sender_tick (hr.mono (by decide)) T.cl_Sender (by decide +kernel) aF (aD T.cl_World T.na_World_sender bR (af 0))) (@ah _)) bS) (cI (ak (ak aC)))) rfl))
theorem qH:FnScope ["self","road","k"] ["self","road","k"] (defScope jV):=mSc
def jb(G:Cs):TSt:=(sIf (bU (aP G.World ns_World (aW G) (aa 0) (ac (aa 1) (ac (aa 2) aj)))) (bz (dBM vo (dOp gp (aB G.World ns_World 2 (aa 0)) (aa 1)) (ac (aa 2) aj))) bF)
def gU(G:Cs):List D->M D:=mF 3 (jb G)
theorem qP{G:Cs}(T:Txt K mg G)(h_World_has_strip:CalM P w K mg base (CXE P w) G.World "has_strip" 1 ["self","road","k"] (aW G)){f:Addr}{fd:FuncData}(F:Fun K "lose" "World.lose" jV f fd):FnD P w K mg base (CXE P w) 2 f fd ["self","road","k"] (gU G):=by
 refine fE F qH fun cdv A outer s H E hr=>?_
 have hu:=hr.units;exact(@al _ _ _ (bA (db (bh h_World_has_strip (hr.mono (by decide)) T.cl_World (by decide +kernel) aF (af 0) (@ae _ _ _ _ _ (af 1) (@ae _ _ _ _ _ (af 2) (@ah _) aV) aV) (cI (ak (ak aC))))) (@al _ _ _ (@aU _ _ _ _ (d9 PySem.F.slot_list_pop PySem.F.type_list_pop yW (aM (qv hu) (aD T.cl_World T.na_World_roads bR (af 0)) (af 1) (fun _ _=>rfl)) (@ae _ _ _ _ _ (af 2) (@ah _) aV)) rfl)) bg))
theorem sc_changed:FnScope ["strip","place","by","cells","at"] ["strip","place","by"] (defScope mY):=mSc
def lQ:TSt:=(aJ (cB (am wG (ac (aa 0) aj)) (gN 3))
 (aJ (cB (dOp iP (aa 1) (am bC (ac (aa 3) aj))) (gN 4))
 (aJ (uV n5 (aa 3) (aa 4) (dOp iP (dOp bP (dOp ixD (aa 3) (aa 4)) (aa 2)) (dC (.int 256))))
 (bM (am fH (ac (aa 3) aj))))))
def jA:List D->M D:=mP 5 lQ
theorem u7{G:Cs}(T:Txt K mg G){f:Addr}{fd:FuncData}(F:Fun K "changed" "changed" mY f fd):FnD P w K mg base (CXE P w) 1 f fd ["strip","place","by"] jA:=by
 refine fG F sc_changed fun cdv A outer s H E hr=>?_
 have hu:=hr.units;exact(@aq _ _ _ _ _ (@bI _ _ _ _ 3 _ _ sc_changed.nd (eP zH rfl T.b_list boot_list (@ae _ _ _ _ _ (af 0) (@ah _) aV)) rfl (by first|exact Or.inl rfl|exact Or.inr rfl) rfl (by first|exact .inl rfl|exact .inr rfl|assumption))
   (@aq _ _ _ _ _ (@bI _ _ _ _ 4 _ _ sc_changed.nd (@bJ _ _ _ _ _ _ _ _ gJ (af 1) (bG dI rfl T.b_len PySem.boot_len (@ae _ _ _ _ _ (af 3) (@ah _) aV))) rfl (by first|exact Or.inl rfl|exact Or.inr rfl) rfl (by first|exact .inl rfl|exact .inr rfl|assumption))
   (@aq _ _ _ _ _ (sy wU (af 3) (af 4) (@bJ _ _ _ _ _ _ _ _ gJ (@bJ _ _ _ _ _ _ _ _ cA (aM ixd (af 3) (af 4) (fun _ _=>rfl)) (af 2)) (@ar _ _ _ _)))
   (@al _ _ _ (@bc _ _ _ _ (eP iC rfl T.b_tuple boot_tuple (@ae _ _ _ _ _ (af 3) (@ah _) aV)))))))
theorem qd:FnScope ["self","road","k","place","by"] ["self","road","k","place","by"] (defScope jf):=mSc
def iO(G:Cs):TSt:=(sIf (dr (bU (aP G.World ns_World (aW G) (aa 0) (ac (aa 1) (ac (aa 2) aj)))) (dr (dh (bU (dOp ixD (dOp ixD (dOp gp (aB G.World ns_World 2 (aa 0)) (aa 1)) (aa 2)) (dC (.int 1))))) (ao (dOp neD (dOp iP (aa 4) (dC (.int 256))) (dC (.int 0)))))) (uV n5 (dOp gp (aB G.World ns_World 2 (aa 0)) (aa 1)) (aa 2) (cf (ac (am jA (ac (dOp ixD (dOp ixD (dOp gp (aB G.World ns_World 2 (aa 0)) (aa 1)) (aa 2)) (dC (.int 0))) (ac (aa 3) (ac (aa 4) aj)))) (ac (dC (.bl true)) aj)))) bF)
def fZ(G:Cs):List D->M D:=mF 5 (iO G)
theorem pi{G:Cs}(T:Txt K mg G)(h_World_has_strip:CalM P w K mg base (CXE P w) G.World "has_strip" 1 ["self","road","k"] (aW G))(h_changed:Cal P w K mg base (CXE P w) "changed" 1 ["strip","place","by"] jA){f:Addr}{fd:FuncData}(F:Fun K "spoil" "World.spoil" jf f fd):FnD P w K mg base (CXE P w) 2 f fd ["self","road","k","place","by"] (fZ G):=by
 refine fE F qd fun cdv A outer s H E hr=>?_
 have hu:=hr.units;exact(@al _ _ _ (bA (PWd.pt (eB (db (bh h_World_has_strip (hr.mono (by decide)) T.cl_World (by decide +kernel) aF (af 0) (@ae _ _ _ _ _ (af 1) (@ae _ _ _ _ _ (af 2) (@ah _) aV) aV) (cI (ak (ak aC))))) (eB (hV (db (aM ixd (aM ixd (aM (qv hu) (aD T.cl_World T.na_World_roads bR (af 0)) (af 1) (fun _ _=>rfl)) (af 2) (fun _ _=>rfl)) (@ar _ _ _ _) (fun _ _=>rfl)))) (dU (aH (nO hu) (@bJ _ _ _ _ _ _ _ _ gJ (af 4) (@ar _ _ _ _)) (@ar _ _ _ _) (aN _)))))) (@al _ _ _ (sy wU (aM (qv hu) (aD T.cl_World T.na_World_roads bR (af 0)) (af 1) (fun _ _=>rfl)) (af 2) (@bX _ _ _ _ _ (@ae _ _ _ _ _ (aQ h_changed (hr.mono (by decide)) rfl aF (@ae _ _ _ _ _ (aM ixd (aM ixd (aM (qv hu) (aD T.cl_World T.na_World_roads bR (af 0)) (af 1) (fun _ _=>rfl)) (af 2) (fun _ _=>rfl)) (@ar _ _ _ _) (fun _ _=>rfl)) (@ae _ _ _ _ _ (af 3) (@ae _ _ _ _ _ (af 4) (@ah _) aV) aV) da) (ak (ak (ak aC)))) (@ae _ _ _ _ _ (@li _ _ _ _) (@ah _) bS) kc)))) bg))
theorem pz:FnScope ["self"] ["self"] (defScope jm):=mSc
def iL(G:Cs):TSt:=(jE G.Sender ns_Sender 5 (aa 0) (dC (.str "shut")))
def fW(G:Cs):List D->M D:=mF 1 (iL G)
theorem pb{G:Cs}(T:Txt K mg G){f:Addr}{fd:FuncData}(F:Fun K "fall" "Sender.fall" jm f fd):FnD P w K mg base (CXE P w) 1 f fd ["self"] (fW G):=by
 refine fE F pz fun cdv A outer s H E hr=>?_
 have hu:=hr.units;exact(@al _ _ _ (gC T.cl_Sender T.na_Sender_state aE (by decide) (af 0) (@aL _ _ _ _)))
theorem oX:FnScope ["self"] ["self"] (defScope ji):=mSc
def im(G:Cs):TSt:=(bz (aP G.Hearer ns_Hearer (cK G) (aa 0) (ac (dC (.int 0)) aj)))
def gc(G:Cs):List D->M D:=mF 1 (im G)
theorem pw{G:Cs}(T:Txt K mg G)(h_Hearer_begin:CalM P w K mg base (CXE P w) G.Hearer "begin" 1 ["self","opening"] (cK G)){f:Addr}{fd:FuncData}(F:Fun K "fall" "Hearer.fall" ji f fd):FnD P w K mg base (CXE P w) 2 f fd ["self"] (gc G):=by
 refine fE F oX fun cdv A outer s H E hr=>?_
 have hu:=hr.units;exact(@al _ _ _ (@aU _ _ _ _ (bh h_Hearer_begin (hr.mono (by decide)) T.cl_Hearer (by decide +kernel) aF (af 0) (@ae _ _ _ _ _ (@ar _ _ _ _) (@ah _) bS) (cI (ak aC))) rfl))
theorem qB:FnScope ["self","who"] ["self","who"] (defScope jX):=mSc
def eA(G:Cs):TSt:=(aJ (sIf (ao (dOp eqD (aa 1) (dC (.str "sender")))) (bz (aP G.Sender ns_Sender (fW G) (aB G.World ns_World 0 (aa 0)) aj)) bF)
 (sIf (ao (dOp eqD (aa 1) (dC (.str "hearer")))) (bz (aP G.Hearer ns_Hearer (gc G) (aB G.World ns_World 1 (aa 0)) aj)) bF))
def gS(G:Cs):List D->M D:=mF 2 (eA G)
theorem qG{G:Cs}(T:Txt K mg G)(h_Sender_fall:CalM P w K mg base (CXE P w) G.Sender "fall" 1 ["self"] (fW G))(h_Hearer_fall:CalM P w K mg base (CXE P w) G.Hearer "fall" 2 ["self"] (gc G)){f:Addr}{fd:FuncData}(F:Fun K "fall" "World.fall" jX f fd):FnD P w K mg base (CXE P w) 3 f fd ["self","who"] (gS G):=by
 refine fE F qB fun cdv A outer s H E hr=>?_
 have hu:=hr.units;exact(@aq _ _ _ _ _ (bA (aH (cw hu) (af 1) (@aL _ _ _ _) (aN _)) (@al _ _ _ (@aU _ _ _ _ (cT h_Sender_fall (hr.mono (by decide)) T.cl_Sender (by decide +kernel) aF (aD T.cl_World T.na_World_sender bR (af 0))) rfl)) bg)
   (@al _ _ _ (bA (aH (cw hu) (af 1) (@aL _ _ _ _) (aN _)) (@al _ _ _ (@aU _ _ _ _ (cT h_Hearer_fall (hr.mono (by decide)) T.cl_Hearer (by decide +kernel) aF (aD T.cl_World T.na_World_hearer bR (af 0))) rfl)) bg)))
theorem oC:FnScope ["self"] ["self"] (defScope ik):=mSc
def gL(G:Cs):TSt:=(sIf (ao (dOp eqD (aB G.Sender ns_Sender 5 (aa 0)) (dC (.str "shut")))) (bz (aP G.Sender ns_Sender (bO G) (aa 0) aj)) bF)
def fj(G:Cs):List D->M D:=mF 1 (gL G)
theorem oI{G:Cs}(T:Txt K mg G)(h_Sender_open_anew:CalM P w K mg base (CXE P w) G.Sender "open_anew" 2 ["self"] (bO G)){f:Addr}{fd:FuncData}(F:Fun K "start" "Sender.start" ik f fd):FnD P w K mg base (CXE P w) 3 f fd ["self"] (fj G):=by
 refine fE F oC fun cdv A outer s H E hr=>?_
 have hu:=hr.units;exact(@al _ _ _ (bA (aH (cw hu) (aD T.cl_Sender T.na_Sender_state aE (af 0)) (@aL _ _ _ _) (aN _)) (@al _ _ _ (@aU _ _ _ _ (cT h_Sender_open_anew (hr.mono (by decide)) T.cl_Sender (by decide +kernel) aF (af 0)) rfl)) bg))
theorem oW:FnScope ["self"] ["self"] (defScope jk):=mSc
def ip(G:Cs):TSt:=(bz (aP G.Sender ns_Sender (fj G) (aB G.World ns_World 0 (aa 0)) aj))
def gi(G:Cs):List D->M D:=mF 1 (ip G)
theorem pI{G:Cs}(T:Txt K mg G)(h_Sender_start:CalM P w K mg base (CXE P w) G.Sender "start" 3 ["self"] (fj G)){f:Addr}{fd:FuncData}(F:Fun K "start" "World.start" jk f fd):FnD P w K mg base (CXE P w) 4 f fd ["self"] (gi G):=by
 refine fE F oW fun cdv A outer s H E hr=>?_
 have hu:=hr.units;exact(@al _ _ _ (@aU _ _ _ _ (cT h_Sender_start (hr.mono (by decide)) T.cl_Sender (by decide +kernel) aF (aD T.cl_World T.na_World_sender bR (af 0))) rfl))
theorem vp:FnScope ["_law_world","_law_act"] ["_law_world","_law_act"] (defScope nE):=mSc
def lu(G:Cs):TSt:=(sIf (ao (dOp eqD (dOp ixD (aa 1) (dC (.int 0))) (dC (.str "hand")))) (bz (aP G.World ns_World (gW G) (aa 0) (ac (am fu (ac (dOp ixD (aa 1) (dC (.int 1))) (ac (dC (.int 12)) aj))) aj))) (sIf (ao (dOp eqD (dOp ixD (aa 1) (dC (.int 0))) (dC (.str "tick")))) (bz (aP G.World ns_World (ib G) (aa 0) aj)) (sIf (ao (dOp eqD (dOp ixD (aa 1) (dC (.int 0))) (dC (.str "step")))) (bz (aP G.World ns_World (cS G) (aa 0) (ac (dOp ixD (aa 1) (dC (.int 1))) aj))) (sIf (ao (dOp eqD (dOp ixD (aa 1) (dC (.int 0))) (dC (.str "lose")))) (bz (aP G.World ns_World (gU G) (aa 0) (ac (dOp ixD (aa 1) (dC (.int 1))) (ac (dOp ixD (aa 1) (dC (.int 2))) aj)))) (sIf (ao (dOp eqD (dOp ixD (aa 1) (dC (.int 0))) (dC (.str "double")))) (bz (aP G.World ns_World (cJ G) (aa 0) (ac (dOp ixD (aa 1) (dC (.int 1))) (ac (dOp ixD (aa 1) (dC (.int 2))) aj)))) (sIf (ao (dOp eqD (dOp ixD (aa 1) (dC (.int 0))) (dC (.str "spoil")))) (bz (aP G.World ns_World (fZ G) (aa 0) (ac (dOp ixD (aa 1) (dC (.int 1))) (ac (dOp ixD (aa 1) (dC (.int 2))) (ac (am aI (ac (dOp ixD (aa 1) (dC (.int 3))) (ac (dC (.int 9829)) (ac (dC (.int 16)) aj)))) (ac (am aI (ac (dOp ixD (aa 1) (dC (.int 3))) (ac (dC (.int 9817)) (ac (dC (.int 256)) aj)))) aj)))))) (sIf (ao (dOp eqD (dOp ixD (aa 1) (dC (.int 0))) (dC (.str "fall")))) (bz (aP G.World ns_World (gS G) (aa 0) (ac (dOp ixD (aa 1) (dC (.int 1))) aj))) (bz (aP G.World ns_World (gi G) (aa 0) aj)))))))))
def jq(G:Cs):List D->M D:=mF 2 (lu G)
theorem vR{G:Cs}(T:Txt K mg G)(h__law_message:Cal P w K mg base (CXE P w) "_law_message" 2 ["_law_cell_here","_law_longest"] fu)(h_World_hand:CalM P w K mg base (CXE P w) G.World "hand" 3 ["self","message"] (gW G))(h_World_tick:CalM P w K mg base (CXE P w) G.World "tick" 7 ["self"] (ib G))(h_World_step:CalM P w K mg base (CXE P w) G.World "step" 8 ["self","road"] (cS G))(h_World_lose:CalM P w K mg base (CXE P w) G.World "lose" 2 ["self","road","k"] (gU G))(h_World_double:CalM P w K mg base (CXE P w) G.World "double" 2 ["self","road","k"] (cJ G))(h__law_mix:Cal P w K mg base (CXE P w) "_law_mix" 1 ["_law_cell_here","_law_prime","_law_many"] aI)(h_World_spoil:CalM P w K mg base (CXE P w) G.World "spoil" 2 ["self","road","k","place","by"] (fZ G))(h_World_fall:CalM P w K mg base (CXE P w) G.World "fall" 3 ["self","who"] (gS G))(h_World_start:CalM P w K mg base (CXE P w) G.World "start" 4 ["self"] (gi G)){f:Addr}{fd:FuncData}(F:Fun K "_law_do" "_law_do" nE f fd):FnD P w K mg base (CXE P w) 9 f fd ["_law_world","_law_act"] (jq G):=by
 refine fE F vp fun cdv A outer s H E hr=>?_
 have hu:=hr.units;exact(@al _ _ _ (bA (aH (cw hu) (aM ixd (af 1) (@ar _ _ _ _) (fun _ _=>rfl)) (@aL _ _ _ _) (aN _)) (@al _ _ _ (@aU _ _ _ _ (bh h_World_hand (hr.mono (by decide)) T.cl_World (by decide +kernel) aF (af 0) (@ae _ _ _ _ _ (aQ h__law_message (hr.mono (by decide)) rfl aF (@ae _ _ _ _ _ (aM ixd (af 1) (@ar _ _ _ _) (fun _ _=>rfl)) (@ae _ _ _ _ _ (@ar _ _ _ _) (@ah _) bS) da) (ak (ak aC))) (@ah _) kc) (cI (ak aC))) rfl)) (@al _ _ _ (bA (aH (cw hu) (aM ixd (af 1) (@ar _ _ _ _) (fun _ _=>rfl)) (@aL _ _ _ _) (aN _)) (@al _ _ _ (@aU _ _ _ _ (cT h_World_tick (hr.mono (by decide)) T.cl_World (by decide +kernel) aF (af 0)) rfl)) (@al _ _ _ (bA (aH (cw hu) (aM ixd (af 1) (@ar _ _ _ _) (fun _ _=>rfl)) (@aL _ _ _ _) (aN _)) (@al _ _ _ (@aU _ _ _ _ (bh h_World_step (hr.mono (by decide)) T.cl_World (by decide +kernel) aF (af 0) (@ae _ _ _ _ _ (aM ixd (af 1) (@ar _ _ _ _) (fun _ _=>rfl)) (@ah _) da) (cI (ak aC))) rfl)) (@al _ _ _ (bA (aH (cw hu) (aM ixd (af 1) (@ar _ _ _ _) (fun _ _=>rfl)) (@aL _ _ _ _) (aN _)) (@al _ _ _ (@aU _ _ _ _ (bh h_World_lose (hr.mono (by decide)) T.cl_World (by decide +kernel) aF (af 0) (@ae _ _ _ _ _ (aM ixd (af 1) (@ar _ _ _ _) (fun _ _=>rfl)) (@ae _ _ _ _ _ (aM ixd (af 1) (@ar _ _ _ _) (fun _ _=>rfl)) (@ah _) da) da) (cI (ak (ak aC)))) rfl)) (@al _ _ _ (bA (aH (cw hu) (aM ixd (af 1) (@ar _ _ _ _) (fun _ _=>rfl)) (@aL _ _ _ _) (aN _)) (@al _ _ _ (@aU _ _ _ _ (bh h_World_double (hr.mono (by decide)) T.cl_World (by decide +kernel) aF (af 0) (@ae _ _ _ _ _ (aM ixd (af 1) (@ar _ _ _ _) (fun _ _=>rfl)) (@ae _ _ _ _ _ (aM ixd (af 1) (@ar _ _ _ _) (fun _ _=>rfl)) (@ah _) da) da) (cI (ak (ak aC)))) rfl)) (@al _ _ _ (bA (aH (cw hu) (aM ixd (af 1) (@ar _ _ _ _) (fun _ _=>rfl)) (@aL _ _ _ _) (aN _)) (@al _ _ _ (@aU _ _ _ _ (bh h_World_spoil (hr.mono (by decide)) T.cl_World (by decide +kernel) aF (af 0) (@ae _ _ _ _ _ (aM ixd (af 1) (@ar _ _ _ _) (fun _ _=>rfl)) (@ae _ _ _ _ _ (aM ixd (af 1) (@ar _ _ _ _) (fun _ _=>rfl)) (@ae _ _ _ _ _ (aQ h__law_mix (hr.mono (by decide)) rfl aF (@ae _ _ _ _ _ (aM ixd (af 1) (@ar _ _ _ _) (fun _ _=>rfl)) (@ae _ _ _ _ _ (@ar _ _ _ _) (@ae _ _ _ _ _ (@ar _ _ _ _) (@ah _) bS) bS) da) (ak (ak (ak aC)))) (@ae _ _ _ _ _ (aQ h__law_mix (hr.mono (by decide)) rfl aF (@ae _ _ _ _ _ (aM ixd (af 1) (@ar _ _ _ _) (fun _ _=>rfl)) (@ae _ _ _ _ _ (@ar _ _ _ _) (@ae _ _ _ _ _ (@ar _ _ _ _) (@ah _) bS) bS) da) (ak (ak (ak aC)))) (@ah _) kc) kc) da) da) (cI (ak (ak (ak (ak aC)))))) rfl)) (@al _ _ _ (bA (aH (cw hu) (aM ixd (af 1) (@ar _ _ _ _) (fun _ _=>rfl)) (@aL _ _ _ _) (aN _)) (@al _ _ _ (@aU _ _ _ _ (bh h_World_fall (hr.mono (by decide)) T.cl_World (by decide +kernel) aF (af 0) (@ae _ _ _ _ _ (aM ixd (af 1) (@ar _ _ _ _) (fun _ _=>rfl)) (@ah _) da) (cI (ak aC))) rfl)) (@al _ _ _ (@aU _ _ _ _ (cT h_World_start (hr.mono (by decide)) T.cl_World (by decide +kernel) aF (af 0)) rfl))))))))))))))))
theorem kZ:FnScope ["self","who"] ["self","who"] (defScope eI):=mSc
def cD(G:Cs):TSt:=(bM (dIf (ao (dOp eqD (aa 1) (dC (.str "sender")))) (aB G.Sender ns_Sender 4 (aB G.World ns_World 0 (aa 0))) (aB G.Hearer ns_Hearer 2 (aB G.World ns_World 1 (aa 0)))))
def cj(G:Cs):List D->M D:=mF 2 (cD G)
theorem lc{G:Cs}(T:Txt K mg G){f:Addr}{fd:FuncData}(F:Fun K "opening_of" "World.opening_of" eI f fd):FnD P w K mg base (CXE P w) 1 f fd ["self","who"] (cj G):=by
 refine fE F kZ fun cdv A outer s H E hr=>?_
 have hu:=hr.units;exact(@al _ _ _ (@bc _ _ _ _ (uN (aH (cw hu) (af 1) (@aL _ _ _ _) (aN _)) (aD T.cl_Sender T.na_Sender_opening aE (aD T.cl_World T.na_World_sender bR (af 0))) (aD T.cl_Hearer T.na_Hearer_opening aX (aD T.cl_World T.na_World_hearer bR (af 0))))))
theorem lz:FnScope ["self"] ["self"] (defScope eW):=mSc
def eE(G:Cs):TSt:=(bM (am fH (ac (aB G.Hearer ns_Hearer 1 (aB G.World ns_World 1 (aa 0))) aj)))
def dL(G:Cs):List D->M D:=mF 1 (eE G)
theorem lC{G:Cs}(T:Txt K mg G){f:Addr}{fd:FuncData}(F:Fun K "given_out" "World.given_out" eW f fd):FnD P w K mg base (CXE P w) 1 f fd ["self"] (dL G):=by
 refine fE F lz fun cdv A outer s H E hr=>?_
 have hu:=hr.units;exact(@al _ _ _ (@bc _ _ _ _ (eP iC rfl T.b_tuple boot_tuple (ae (aD T.cl_Hearer T.na_Hearer_given aX (aD T.cl_World T.na_World_hearer bR (af 0))) (@ah _)))))
theorem mT:FnScope ["self"] ["self"] (defScope gK):=mSc
def fJ(G:Cs):TSt:=(bM (aB G.Sender ns_Sender 3 (aB G.World ns_World 0 (aa 0))))
def eC(G:Cs):List D->M D:=mF 1 (fJ G)
theorem mZ{G:Cs}(T:Txt K mg G){f:Addr}{fd:FuncData}(F:Fun K "sure_of" "World.sure_of" gK f fd):FnD P w K mg base (CXE P w) 1 f fd ["self"] (eC G):=by
 refine fE F mT fun cdv A outer s H E hr=>?_
 have hu:=hr.units;exact(@al _ _ _ (@bc _ _ _ _ (aD T.cl_Sender T.na_Sender_sure aE (aD T.cl_World T.na_World_sender bR (af 0)))))
theorem mK:FnScope ["self"] ["self"] (defScope fK):=mSc
def fD(G:Cs):TSt:=(bM (aB G.Sender ns_Sender 5 (aB G.World ns_World 0 (aa 0))))
def d2(G:Cs):List D->M D:=mF 1 (fD G)
theorem me{G:Cs}(T:Txt K mg G){f:Addr}{fd:FuncData}(F:Fun K "state_of" "World.state_of" fK f fd):FnD P w K mg base (CXE P w) 1 f fd ["self"] (d2 G):=by
 refine fE F mK fun cdv A outer s H E hr=>?_
 have hu:=hr.units;exact(@al _ _ _ (@bc _ _ _ _ (aD T.cl_Sender T.na_Sender_state aE (aD T.cl_World T.na_World_sender bR (af 0)))))
theorem sc__law_ends:FnScope ["_law_world","_law_openings"] ["_law_world"] (defScope kz):=mSc
def jF(G:Cs):TSt:=(aJ (cB (cf (ac (aP G.World ns_World (cj G) (aa 0) (ac (dC (.str "sender")) aj)) (ac (aP G.World ns_World (cj G) (aa 0) (ac (dC (.str "hearer")) aj)) aj))) (gN 1))
 (bM (cf (ac (aP G.World ns_World (dL G) (aa 0) aj) (ac (aP G.World ns_World (eC G) (aa 0) aj) (ac (aP G.World ns_World (d2 G) (aa 0) aj) (ac (aa 1) aj)))))))
def dX(G:Cs):List D->M D:=mF 2 (jF G)
theorem sD{G:Cs}(T:Txt K mg G)(h_World_opening_of:CalM P w K mg base (CXE P w) G.World "opening_of" 1 ["self","who"] (cj G))(h_World_state_of:CalM P w K mg base (CXE P w) G.World "state_of" 1 ["self"] (d2 G))(h_World_sure_of:CalM P w K mg base (CXE P w) G.World "sure_of" 1 ["self"] (eC G))(h_World_given_out:CalM P w K mg base (CXE P w) G.World "given_out" 1 ["self"] (dL G)){f:Addr}{fd:FuncData}(F:Fun K "_law_ends" "_law_ends" kz f fd):FnD P w K mg base (CXE P w) 2 f fd ["_law_world"] (dX G):=by
 refine fE F sc__law_ends fun cdv A outer s H E hr=>?_
 have hu:=hr.units;exact(@aq _ _ _ _ _ (@bI _ _ _ _ 1 _ _ sc__law_ends.nd (@bX _ _ _ _ _ (ae (bh h_World_opening_of (hr.mono (by decide)) T.cl_World (by decide +kernel) aF (af 0) (@ae _ _ _ _ _ (@aL _ _ _ _) (@ah _) bS) (cI (ak aC))) (ae (bh h_World_opening_of (hr.mono (by decide)) T.cl_World (by decide +kernel) aF (af 0) (@ae _ _ _ _ _ (@aL _ _ _ _) (@ah _) bS) (cI (ak aC))) (@ah _)))) rfl (by first|exact Or.inl rfl|exact Or.inr rfl) rfl (by first|exact .inl rfl|exact .inr rfl|assumption))
   (@al _ _ _ (@bc _ _ _ _ (@bX _ _ _ _ _ (ae (cT h_World_given_out (hr.mono (by decide)) T.cl_World (by decide +kernel) aF (af 0)) (ae (cT h_World_sure_of (hr.mono (by decide)) T.cl_World (by decide +kernel) aF (af 0)) (ae (cT h_World_state_of (hr.mono (by decide)) T.cl_World (by decide +kernel) aF (af 0)) (@ae _ _ _ _ _ (af 1) (@ah _) aV))))))))
theorem sc_law:FnScope ["_law_script","_law_window","_law_most","_law_one","_law_two","_law_act","_law_road","_law_other","_law_before","_law_more"] ["_law_script"] (defScope rG):=mSc
def qa(G:Cs):TSt:=(aJ (bz (am (jq G) (ac (aa 3) (ac (aa 5) aj))))
 (bz (am (jq G) (ac (aa 4) (ac (aa 5) aj)))))
def u8(G:Cs):TSt:=(aJ (cB (am eX (ac (aa 0) aj)) (gT [1,2]))
 (aJ (cB (am (gO G.World (cn G)) (ac (aa 1) (ac (aa 2) aj))) (gN 3))
 (aJ (cB (am (gO G.World (cn G)) (ac (aa 1) (ac (aa 2) aj))) (gN 4))
 (aJ (qC (dWk (am gr (ac (aa 0) (ac (dC (.bl true)) aj)))) (gN 5) (qa G))
 (aJ (cB (dOp ixD (bW (ac (dC (.str "there")) (ac (dC (.str "back")) aj))) (dOp iP (am bw (ac (aa 0) (ac (dC (.int 2)) aj))) (dC (.int 2)))) (gN 6))
 (aJ (cB (dOp ixD (bW (ac (dC (.str "back")) (ac (dC (.str "there")) aj))) (dOp iP (am bw (ac (aa 0) (ac (dC (.int 2)) aj))) (dC (.int 2)))) (gN 7))
 (aJ (sIf (dh (bU (aP G.World ns_World (aO G) (aa 3) (ac (aa 6) aj)))) (bM (dC (.bl true))) bF)
 (aJ (cB (am bC (ac (aP G.World ns_World (aO G) (aa 4) (ac (aa 7) aj)) aj)) (gN 8))
 (aJ (bz (aP G.World ns_World (cJ G) (aa 3) (ac (aa 6) (ac (dC (.int 0)) aj))))
 (aJ (sIf (ao (dOp neD (aP G.World ns_World (aO G) (aa 3) (ac (aa 6) aj)) (dOp bP (dSl slD (aP G.World ns_World (aO G) (aa 4) (ac (aa 6) aj)) bN (bQ (dC (.int 1)))) (aP G.World ns_World (aO G) (aa 4) (ac (aa 6) aj))))) (bM (dC (.bl false))) bF)
 (aJ (bz (aP G.World ns_World (cS G) (aa 3) (ac (aa 6) aj)))
 (aJ (bz (aP G.World ns_World (cS G) (aa 3) (ac (aa 6) aj)))
 (aJ (bz (aP G.World ns_World (cS G) (aa 4) (ac (aa 6) aj)))
 (aJ (sIf (dOr (ao (dOp neD (am (dX G) (ac (aa 3) aj)) (am (dX G) (ac (aa 4) aj)))) (ao (dOp neD (aP G.World ns_World (aO G) (aa 3) (ac (aa 6) aj)) (aP G.World ns_World (aO G) (aa 4) (ac (aa 6) aj))))) (bM (dC (.bl false))) bF)
 (aJ (cB (aP G.World ns_World (aO G) (aa 4) (ac (aa 7) aj)) (gN 9))
 (bM (dOp eqD (aP G.World ns_World (aO G) (aa 3) (ac (aa 7) aj)) (dOp bP (aa 9) (dSl slD (aa 9) (bQ (aa 8)) bN)))))))))))))))))))
def Ba(G:Cs):List D->M D:=mF 10 (u8 G)
theorem Ca{G:Cs}(T:Txt K mg G)(h__law_setting:Cal P w K mg base (CXE P w) "_law_setting" 2 ["_law_script"] eX)(h_World:CalI P w K mg base (CXE P w) "World" G.World 3 ["self","window","most"] (cn G))(h__law_acts:Cal P w K mg base (CXE P w) "_law_acts" 2 ["_law_script","_law_falls"] gr)(h__law_do:Cal P w K mg base (CXE P w) "_law_do" 9 ["_law_world","_law_act"] (jq G))(h__law_cell:Cal P w K mg base (CXE P w) "_law_cell" 1 ["_law_script","_law_k"] bw)(h_World_on_road:CalM P w K mg base (CXE P w) G.World "on_road" 1 ["self","road"] (aO G))(h_World_double:CalM P w K mg base (CXE P w) G.World "double" 2 ["self","road","k"] (cJ G))(h_World_step:CalM P w K mg base (CXE P w) G.World "step" 8 ["self","road"] (cS G))(h__law_ends:Cal P w K mg base (CXE P w) "_law_ends" 2 ["_law_world"] (dX G)){f:Addr}{fd:FuncData}(F:Fun K "law" "law" rG f fd):FnD P w K mg base (CXE P w) 10 f fd ["_law_script"] (Ba G):=by
 refine fE F sc_law fun cdv A outer s H E hr=>?_
 have hu:=hr.units;exact(@aq _ _ _ _ _ (Bn (aQ h__law_setting (hr.mono (by decide)) rfl aF (@ae _ _ _ _ _ (af 0) (@ah _) aV) (ak aC)) (vC rfl (jz (cO (i:=1) sc_law.nd) (jz (cO (i:=2) sc_law.nd) sB))))
   (@aq _ _ _ _ _ (@bI _ _ _ _ 3 _ _ sc_law.nd (oN h_World (hr.mono (by decide)) rfl aF (@ae _ _ _ _ _ (af 1) (@ae _ _ _ _ _ (af 2) (@ah _) aV) aV) (cI (ak (ak aC)))) rfl (by first|exact Or.inl rfl|exact Or.inr rfl) rfl (by first|exact .inl rfl|exact .inr rfl|assumption))
   (@aq _ _ _ _ _ (@bI _ _ _ _ 4 _ _ sc_law.nd (oN h_World (hr.mono (by decide)) rfl aF (@ae _ _ _ _ _ (af 1) (@ae _ _ _ _ _ (af 2) (@ah _) aV) aV) (cI (ak (ak aC)))) rfl (by first|exact Or.inl rfl|exact Or.inr rfl) rfl (by first|exact .inl rfl|exact .inr rfl|assumption))
   (@aq _ _ _ _ _ (mW rfl (gQ (aQ h__law_acts (hr.mono (by decide)) rfl aF (@ae _ _ _ _ _ (af 0) (@ae _ _ _ _ _ (@li _ _ _ _) (@ah _) bS) aV) (ak (ak aC)))) (cO (i:=5) sc_law.nd) (@aq _ _ _ _ _ (@aU _ _ _ _ (aQ h__law_do (hr.mono (by decide)) rfl aF (@ae _ _ _ _ _ (af 3) (@ae _ _ _ _ _ (af 5) (@ah _) aV) aV) (ak (ak aC))) rfl)
   (@al _ _ _ (@aU _ _ _ _ (aQ h__law_do (hr.mono (by decide)) rfl aF (@ae _ _ _ _ _ (af 4) (@ae _ _ _ _ _ (af 5) (@ah _) aV) aV) (ak (ak aC))) rfl))))
   (@aq _ _ _ _ _ (@bI _ _ _ _ 6 _ _ sc_law.nd (aM ixd (@cb _ _ _ _ (@ae _ _ _ _ _ (@aL _ _ _ _) (@ae _ _ _ _ _ (@aL _ _ _ _) (@ah _) bS) bS)) (@bJ _ _ _ _ _ _ _ _ gJ (aQ h__law_cell (hr.mono (by decide)) rfl aF (@ae _ _ _ _ _ (af 0) (@ae _ _ _ _ _ (@ar _ _ _ _) (@ah _) bS) aV) (ak (ak aC))) (@ar _ _ _ _)) (fun _ _=>rfl)) rfl (by first|exact Or.inl rfl|exact Or.inr rfl) rfl (by first|exact .inl rfl|exact .inr rfl|assumption))
   (@aq _ _ _ _ _ (@bI _ _ _ _ 7 _ _ sc_law.nd (aM ixd (@cb _ _ _ _ (@ae _ _ _ _ _ (@aL _ _ _ _) (@ae _ _ _ _ _ (@aL _ _ _ _) (@ah _) bS) bS)) (@bJ _ _ _ _ _ _ _ _ gJ (aQ h__law_cell (hr.mono (by decide)) rfl aF (@ae _ _ _ _ _ (af 0) (@ae _ _ _ _ _ (@ar _ _ _ _) (@ah _) bS) aV) (ak (ak aC))) (@ar _ _ _ _)) (fun _ _=>rfl)) rfl (by first|exact Or.inl rfl|exact Or.inr rfl) rfl (by first|exact .inl rfl|exact .inr rfl|assumption))
   (@aq _ _ _ _ _ (bA (hV (db (bh h_World_on_road (hr.mono (by decide)) T.cl_World (by decide +kernel) aF (af 3) (@ae _ _ _ _ _ (af 6) (@ah _) aV) (cI (ak aC))))) (@al _ _ _ (@bc _ _ _ _ (@li _ _ _ _))) bg)
   (@aq _ _ _ _ _ (@bI _ _ _ _ 8 _ _ sc_law.nd (bG dI rfl T.b_len PySem.boot_len (ae (bh h_World_on_road (hr.mono (by decide)) T.cl_World (by decide +kernel) aF (af 4) (@ae _ _ _ _ _ (af 7) (@ah _) aV) (cI (ak aC))) (@ah _))) rfl (by first|exact Or.inl rfl|exact Or.inr rfl) rfl (by first|exact .inl rfl|exact .inr rfl|assumption))
   (@aq _ _ _ _ _ (@aU _ _ _ _ (bh h_World_double (hr.mono (by decide)) T.cl_World (by decide +kernel) aF (af 3) (@ae _ _ _ _ _ (af 6) (@ae _ _ _ _ _ (@ar _ _ _ _) (@ah _) bS) aV) (cI (ak (ak aC)))) rfl)
   (@aq _ _ _ _ _ (bA (aH (nO hu) (bh h_World_on_road (hr.mono (by decide)) T.cl_World (by decide +kernel) aF (af 3) (@ae _ _ _ _ _ (af 6) (@ah _) aV) (cI (ak aC))) (@bJ _ _ _ _ _ _ _ _ cA (dR sld (bh h_World_on_road (hr.mono (by decide)) T.cl_World (by decide +kernel) aF (af 4) (@ae _ _ _ _ _ (af 6) (@ah _) aV) (cI (ak aC))) fz (di (@ar _ _ _ _))) (bh h_World_on_road (hr.mono (by decide)) T.cl_World (by decide +kernel) aF (af 4) (@ae _ _ _ _ _ (af 6) (@ah _) aV) (cI (ak aC)))) (aN _)) (@al _ _ _ (@bc _ _ _ _ (@li _ _ _ _))) bg)
   (@aq _ _ _ _ _ (@aU _ _ _ _ (bh h_World_step (hr.mono (by decide)) T.cl_World (by decide +kernel) aF (af 3) (@ae _ _ _ _ _ (af 6) (@ah _) aV) (cI (ak aC))) rfl)
   (@aq _ _ _ _ _ (@aU _ _ _ _ (bh h_World_step (hr.mono (by decide)) T.cl_World (by decide +kernel) aF (af 3) (@ae _ _ _ _ _ (af 6) (@ah _) aV) (cI (ak aC))) rfl)
   (@aq _ _ _ _ _ (@aU _ _ _ _ (bh h_World_step (hr.mono (by decide)) T.cl_World (by decide +kernel) aF (af 4) (@ae _ _ _ _ _ (af 6) (@ah _) aV) (cI (ak aC))) rfl)
   (@aq _ _ _ _ _ (bA (PWd.pt (lJ (aH (nO hu) (aQ h__law_ends (hr.mono (by decide)) rfl aF (@ae _ _ _ _ _ (af 3) (@ah _) aV) (ak aC)) (aQ h__law_ends (hr.mono (by decide)) rfl aF (@ae _ _ _ _ _ (af 4) (@ah _) aV) (ak aC)) (aN _)) (mB (aH (nO hu) (bh h_World_on_road (hr.mono (by decide)) T.cl_World (by decide +kernel) aF (af 3) (@ae _ _ _ _ _ (af 6) (@ah _) aV) (cI (ak aC))) (bh h_World_on_road (hr.mono (by decide)) T.cl_World (by decide +kernel) aF (af 4) (@ae _ _ _ _ _ (af 6) (@ah _) aV) (cI (ak aC))) (aN _))))) (@al _ _ _ (@bc _ _ _ _ (@li _ _ _ _))) bg)
   (@aq _ _ _ _ _ (@bI _ _ _ _ 9 _ _ sc_law.nd (bh h_World_on_road (hr.mono (by decide)) T.cl_World (by decide +kernel) aF (af 4) (@ae _ _ _ _ _ (af 7) (@ah _) aV) (cI (ak aC))) rfl (by first|exact Or.inl rfl|exact Or.inr rfl) rfl (by first|exact .inl rfl|exact .inr rfl|assumption))
   (@al _ _ _ (@bc _ _ _ _ (pO (cw hu) (bh h_World_on_road (hr.mono (by decide)) T.cl_World (by decide +kernel) aF (af 3) (@ae _ _ _ _ _ (af 7) (@ah _) aV) (cI (ak aC))) (@bJ _ _ _ _ _ _ _ _ cA (af 9) (dR sld (af 9) (di (af 8)) fz)) (aN _)))))))))))))))))))
end
end Lw
namespace Lw
abbrev Msg:=List Int
abbrev Pc:=Int×List Int
inductive Card where
 |hello (o:Nat)|welcome (o:Nat)|who (o:Nat)|data (o n:Nat) (p:Pc)|note (o n:Nat) (bs:List Int)
 deriving DecidableEq
def nJ(k:Nat):Nat->Msg->List Pc
 |0,m=>[(1,m)]
 |n+1,m=>if k<m.length then (0,m.take k) :: nJ k n (m.drop k) else [(1,m)]
def j8(k:Nat)(m:Msg):List Pc:=nJ k 100 m
def bu(ps:List Pc):Msg:=ps.flatMap (·.2)
def lasts(ps:List Pc):Nat:=(ps.filter fun p=>decide (p.1=1)).length
def cY(num low:Int)(w:Nat):Int:=low+(num-low) % (2 * (w:Int))
structure Hr where
 w:Nat
 given:List (Nat×Msg)
 op:Nat
 nx:Nat
 early:List (Nat×Pc)
 begun:List Pc
namespace Hr
def new(w:Nat):Hr:=⟨w,[],0,0,[],[]⟩
def begin_(h:Hr)(o:Nat):Hr:={ h with op:=o,nx:=0,early:=[],begun:=[] }
def fall(h:Hr):Hr:=h.begin_ 0
def idx(h:Hr)(num:Nat):Int:=cY num ((h.nx:Int)-h.w) h.w
def keep(h:Hr)(num:Nat)(p:Pc):Hr:=if num<2 * h.w/\(h.nx:Int)<=h.idx num/\h.early.lookup (h.idx num).toNat=none then { h with early:=h.early++[((h.idx num).toNat,p)] } else h
def take(h:Hr)(p:Pc):Hr:=if p.1=1 then { h with given:=h.given++[(h.op,bu (h.begun++[p]))],begun:=[] } else { h with begun:=h.begun++[p] }
def pop(h:Hr):Hr:={ h with early:=h.early.filter fun e=>decide (e.1≠h.nx),nx:=h.nx+1 }
def takeAll:Nat->Hr->Hr
 |0,h=>h
 |n+1,h=>match h.early.lookup h.nx with
  |none=>h
  |some p=>takeAll n (h.pop.take p)
def bits(h:Hr):List Int:=(List.range h.w).map fun k=>if (h.early.lookup (h.nx+k)).isSome then 1 else 0
def note(h:Hr):Card:=.note h.op (h.nx % (2 * h.w)) h.bits
def data(h:Hr)(num:Nat)(p:Pc):Hr:=takeAll (h.keep num p).early.length (h.keep num p)
def hears(h:Hr):Card->Hr×List Card
 |.hello o=>if o<h.op then (h,[]) else if h.op<o then (h.begin_ o,[.welcome o]) else (h,[.welcome o])
 |.data o n p=>if o<h.op then (h,[]) else if h.op<o then (h,[.who o]) else (h.data n p,[(h.data n p).note])
 |_=>(h,[])
end Hr
inductive St where
 |shut|opening|opened
 deriving DecidableEq
structure Sr where
 w:Nat
 most:Nat
 msgs:List Msg
 sure:Nat
 op:Nat
 st:St
 ps:List Pc
 base:Nat
 noted:List Nat
namespace Sr
def new(w most:Nat):Sr:=⟨w,most,[],0,0,.shut,[],0,[]⟩
def hand(s:Sr)(m:Msg):Sr:={ s with msgs:=s.msgs++[m],ps:=if s.st=.shut then s.ps else s.ps++j8 s.most m }
def anew(s:Sr):Sr:={ s with op:=s.op+1,st:=.opening,ps:=(s.msgs.drop s.sure).flatMap (j8 s.most),base:=0,noted:=[] }
def start(s:Sr):Sr:=if s.st=.shut then s.anew else s
def fall(s:Sr):Sr:={ s with st:=.shut }
def wanted(s:Sr):List Nat:=(List.range' s.base (min (s.base+s.w) s.ps.length-s.base)).filter fun i=>decide (i∉s.noted)
def dataOf(s:Sr)(i:Nat):Card:=.data s.op (i % (2 * s.w)) (s.ps.getD i (0,[]))
def tick(s:Sr):List Card:=match s.st with
 |.shut=>[]
 |.opening=>[.hello s.op]
 |.opened=>s.wanted.map s.dataOf
def noteP(s:Sr):Nat->List Int->Sr
 |_,[]=>s
 |k,b :: bs=>noteP (if b=1/\s.base+k<s.ps.length/\s.base+k∉s.noted then { s with noted:=s.noted++[s.base+k] } else s) (k+1) bs
def moveB(s:Sr)(i:Nat):Sr:={ s with sure:=s.sure+lasts ((s.ps.take i).drop s.base),base:=i }
def hearsNote(s:Sr)(num:Nat)(bs:List Int):Sr:=
 if num<2 * s.w/\cY num s.base s.w<=min (s.base+s.w) s.ps.length then (s.moveB (cY num s.base s.w).toNat).noteP 0 bs else s
def hears(s:Sr):Card->Sr
 |.welcome o=>if o=s.op/\s.st=.opening then { s with st:=.opened } else s
 |.who o=>if o=s.op/\s.st=.opened then s.anew else s
 |.note o n bs=>if o=s.op/\s.st=.opened then s.hearsNote n bs else s
 |_=>s
end Sr
end Lw
namespace Lw
theorem kH(a b:List Pc):bu (a++b)=bu a++bu b:=by simp[bu]
theorem qY(k:Nat):∀(n:Nat) (m:Msg),∃pre l,nJ k n m=pre++[(1,l)]/\(∀p∈pre,p.1=0)/\bu pre++l=m
 |0,m=>⟨[],m,rfl,by simp,by simp[bu]⟩
 |n+1,m=>by
  unfold nJ;split
  ·obtain⟨pre,l,h1,h2,h3⟩:=qY k n (m.drop k);refine⟨(0,m.take k) :: pre,l,by rw[h1];rfl,?_,?_⟩
   ·intro p hp;rcases List.mem_cons.mp hp with rfl|hp
    ·rfl
    ·exact h2 p hp
   ·rw[show bu ((0,m.take k) :: pre)=m.take k++bu pre by simp[bu],List.append_assoc,h3,List.take_append_drop]
  ·exact⟨[],m,rfl,by simp,by simp[bu]⟩
theorem xj(k:Nat)(m:Msg):∃pre l,j8 k m=pre++[(1,l)]/\(∀p∈pre,p.1=0)/\bu pre++l=m:=qY k 100 m
theorem pZ(k:Nat)(m:Msg):∀p∈j8 k m,p.1=0\/p.1=1:=by
 obtain⟨pre,l,h1,h2,_⟩:=xj k m;intro p hp;rw[h1] at hp;rcases List.mem_append.mp hp with hp|hp
 ·exact .inl (h2 p hp)
 ·rw[List.mem_singleton.mp hp];exact .inr rfl
def DB(x:List Msg×List Pc)(p:Pc):List Msg×List Pc:=if p.1=1 then (x.1++[bu (x.2++[p])],[]) else (x.1,x.2++[p])
def eat(ps:List Pc):List Msg×List Pc:=ps.foldl DB ([],[])
def fl(k:Nat)(ms:List Msg):List Pc:=ms.flatMap (j8 k)
theorem xW(k:Nat)(a b:List Msg):fl k (a++b)=fl k a++fl k b:=by simp[fl]
theorem AO(k:Nat)(m:Msg)(ms:List Msg):fl k (m :: ms)=j8 k m++fl k ms:=by simp[fl]
theorem yI(k:Nat)(ms:List Msg):∀p∈fl k ms,p.1=0\/p.1=1:=by
 intro p hp;obtain⟨m,_,h⟩:=List.mem_flatMap.mp hp;exact pZ k m p h
theorem yP{i low:Int}{w:Nat}(hw:0<w)(h1:low<=i)(h2:i<low+2 * w):cY (i % (2 * (w:Int))) low w=i:=by
 unfold cY;have hm:(0:Int)<2 * (w:Int):=by omega
 have e:(i % (2 * (w:Int))-low) % (2 * (w:Int))=(i-low) % (2 * (w:Int)):=by
  rw[Int.sub_emod,Int.emod_emod_of_dvd _ (Int.dvd_refl _),<-Int.sub_emod]
 rw[e,Int.emod_eq_of_lt (by omega) (by omega)];omega
end Lw
namespace Lw
open PySem L2 DL
def pcD(p:Pc):D:=.tup [.int p.1,.tup (p.2.map D.int)]
def msgD(m:Msg):D:=.tup (m.map D.int)
def cardD:Card->D
 |.hello o=>.tup [.str "hello",.int (o:Int)]
 |.welcome o=>.tup [.str "welcome",.int (o:Int)]
 |.who o=>.tup [.str "who",.int (o:Int)]
 |.data o n p=>.tup [.str "data",.int (o:Int),.int (n:Int),pcD p]
 |.note o n bs=>.tup [.str "note",.int (o:Int),.int (n:Int),.tup (bs.map D.int)]
theorem dA{S:List Cell}{i j:Nat}{c d:Cell}(h1:S[i]?=some c)(h2:S[j]?=some d)(h:c≠d):i≠j:=fun e=>h (by subst e;rw[h1] at h2;injection h2)
theorem de(n:Nat):∀is:List Int,iZ n (is.map D.int)
 |[]=>by simp[iZ]
 |i :: is=>by simp[iZ,wfD,de n is]
theorem BB(n:Nat)(x:Msg):wfD n (msgD x):=by simp[msgD,wfD,de]
theorem CL(n:Nat)(p:Pc):wfD n (pcD p):=by simp[pcD,wfD,iZ,de]
theorem yN(n:Nat):∀ps:List Pc,iZ n (ps.map pcD)
 |[]=>by simp[iZ]
 |p :: ps=>by rw[List.map_cons];exact⟨CL n p,yN n ps⟩
end Lw
namespace Lw
open PySem L2 DL
theorem uB{k:Nat}(hk:1<=k):∀(n:Nat) (m:Msg),(nJ k n m).length<=m.length+1
 |0,m=>by simp[nJ]
 |n+1,m=>by
  unfold nJ;split
  ·have:=uB hk n (m.drop k);rw[List.length_drop] at this;rw[List.length_cons];omega
  ·simp
theorem mf{k:Nat}(hk:1<=k)(m:Msg):(j8 k m).length<=m.length+1:=uB hk 100 m
theorem n8{k:Nat}(hk:1<=k){x0 x1:Option D}{S:List Cell}:∀(fuel:Nat) (acc:List Pc) (m:Msg),m.length<fuel->acc.length+m.length<1000000->∃pre l,nJ k fuel m=pre++[(1,l)]/\pre.length<=m.length/\
  fM (ao (dOp gtD (am bC (ac (aa 4) aj)) (aa 2))) (aJ (bz (dBM jO (aa 3) (ac (cf (ac (dC (.int 0)) (ac (dSl slD (aa 4) bN (bQ (aa 2))) aj))) aj)))
 (cB (dSl slD (aa 4) (bQ (aa 2)) bN) (gN 4))) fuel [x0,x1,some (.int (k:Int)),some (.ob S.length),some (msgD m)] (S++[.lst (acc.map pcD)])=some (.nx [x0,x1,some (.int (k:Int)),some (.ob S.length),some (msgD l)],S++[.lst ((acc++pre).map pcD)])
 |0,_,_,h,_=>by omega
 |f+1,acc,m,h,hz=>by
  have t1:ao (dOp gtD (am bC (ac (aa 4) aj)) (aa 2)) [x0,x1,some (.int (k:Int)),some (.ob S.length),some (msgD m)] (S++[.lst (acc.map pcD)])=.ok (decide (k<m.length)) (S++[.lst (acc.map pcD)]):=by
   refine az (au (x:=.int (m.length:Int)) (ax (ag rfl ai) (by unfold msgD;rw[cm,List.length_map])) rfl ?_);rw[Cg];congr 2;rw[decide_eq_decide];omega
  by_cases hc:k<m.length
  ·rw[decide_eq_true hc] at t1;obtain⟨pre,l,p1,p2,p3⟩:=n8 (x0:=x0) (x1:=x1) (S:=S) hk f (acc++[(0,m.take k)]) (m.drop k) (by rw[List.length_drop];omega) (by rw[List.length_append,List.length_drop,List.length_singleton];omega);refine⟨(0,m.take k) :: pre,l,?_,?_,?_⟩
   ·rw[nJ,if_pos hc,p1];rfl
   ·rw[List.length_drop] at p2;rw[List.length_cons];omega
   ·have c1:eu (m.map D.int) none (some (k:Int))=(m.take k).map D.int:=by rw[rm (by simp;omega),List.map_take]
    have c2:eu (m.map D.int) (some (k:Int)) none=(m.drop k).map D.int:=by rw[eR (by simp;omega),List.map_drop]
    have s1:∀T,dSl slD (aa 4) bN (bQ (aa 2)) [x0,x1,some (.int (k:Int)),some (.ob S.length),some (msgD m)] T=.ok (msgD (m.take k)) T:=fun T=>by
     simp only[lh,aw,jR,List.getElem?_cons_succ,List.getElem?_cons_zero,dZ,kq,fC,fY,msgD,slD,c1]
    have s2:∀T,dSl slD (aa 4) (bQ (aa 2)) bN [x0,x1,some (.int (k:Int)),some (.ob S.length),some (msgD m)] T=.ok (msgD (m.drop k)) T:=fun T=>by
     simp only[lh,aw,jR,List.getElem?_cons_succ,List.getElem?_cons_zero,dZ,kq,fC,fY,msgD,slD,c2]
    have hset:∀a c:Cell,(S++[a]).set S.length c=S++[c]:=fun a c=>by rw[List.set_append_right _ _ (Nat.le_refl _)];simp
    have ee:=uH (S:=S++[.lst (acc.map pcD)]) (n:=S.length) (xs:=acc.map pcD) (d:=pcD (0,m.take k)) (aS rfl) (by simp;omega);rw[hset] at ee;have e2:acc.map pcD++[pcD (0,m.take k)]=(acc++[(0,m.take k)]).map pcD:=by simp
    rw[e2] at ee;rw[Ct t1 (r2:=[x0,x1,some (.int (k:Int)),some (.ob S.length),some (msgD (m.drop k))]) (S2:=S++[.lst ((acc++[(0,m.take k)]).map pcD)])]
    ·rw[p3];simp
    ·rw[av (aY (ld rfl (aS rfl) (ag (bL (ag rfl (ag (s1 _) ai)) (by simp)) ai) ee)),bD (s2 _)];rfl
  ·rw[decide_eq_false hc] at t1;refine⟨[],m,by rw[nJ,if_neg hc];rfl,by simp,?_⟩;rw[Bi t1,List.append_nil]
theorem q7{k:Nat}(hk:1<=k){m:Msg}(hm:m.length<=40)(S:List Cell):dm [msgD m,.int (k:Int)] S=.ok (.tup ((j8 k m).map pcD)) S:=by
 show cN S (jU 100 [some (msgD m),some (.int (k:Int)),none,none,none] S)=_;unfold jU;have hmax:B2 [.int (k:Int),.int 1] S=.ok (.int (k:Int)) S:=by
  rw[Cp];congr 2;omega
 rw[av (bD (ax (ag rfl (ag rfl ai)) hmax))];show cN S (aJ _ _ [some (msgD m),some (.int (k:Int)),some (.int (k:Int)),none,none] S)=_;rw[av (bD (b9 ai (by decide)))];show cN S (aJ _ _ [some (msgD m),some (.int (k:Int)),some (.int (k:Int)),some (.ob S.length),none] (S++[.lst []]))=_;rw[av (bD (d:=msgD m) rfl)];show cN S (aJ _ _ [some (msgD m),some (.int (k:Int)),some (.int (k:Int)),some (.ob S.length),some (msgD m)] (S++[.lst []]))=_;obtain⟨pre,l,p1,p2,p3⟩:=n8 (x0:=some (msgD m)) (x1:=some (.int (k:Int))) (S:=S) hk 100 [] m (by omega) (by simp;omega);rw[List.map_nil] at p3;have hset:∀a c:Cell,(S++[a]).set S.length c=S++[c]:=fun a c=>by rw[List.set_append_right _ _ (Nat.le_refl _)];simp
 have ee:=uH (S:=S++[.lst (pre.map pcD)]) (n:=S.length) (xs:=pre.map pcD) (d:=pcD (1,l)) (aS rfl) (by simp;omega);rw[hset] at ee;have e2:pre.map pcD++[pcD (1,l)]=(j8 k m).map pcD:=by unfold j8;rw[p1];simp
 rw[e2] at ee;rw[av p3,List.nil_append,av (aY (ld rfl (aS rfl) (ag (bL (ag rfl (ag rfl ai)) (by simp)) ai) ee)),aR (ax (ag (x:=.ob S.length) rfl ai) (eG (aS rfl)))];exact kL (by unfold wfD;exact yN _ _)
end Lw
namespace Lw
open PySem L2 DL
def stS:St->Str
 |.shut=>"shut"
 |.opening=>"opening"
 |.opened=>"open"
def ntD(l:List Nat):List (Key×D):=l.map fun(k:Nat)=>(Sum.inl (k:Int),.bl true)
structure SrAt(G:Cs)(S:List Cell)(n m p q:Nat)(s:Sr):Prop where
 ob:S[n]?=some (.ins G.Sender ns_Sender [.int (s.w:Int),.int (s.most:Int),.ob m,.int (s.sure:Int),.int (s.op:Int),.str (stS s.st),.ob p,.int (s.base:Int),.ob q])
 ms:S[m]?=some (.lst (s.msgs.map msgD))
 ps:S[p]?=some (.lst (s.ps.map pcD))
 nt:S[q]?=some (.dic (ntD s.noted))
 mp:m≠p
section
variable{G:Cs}{S S' S1 S2:List Cell}{n m p q p1 q1 p2 q2 p' q':Nat}{s s' s1 s2:Sr}
theorem SrAt.nm(a:SrAt G S n m p q s):n≠m:=dA a.ob a.ms (by intro z;cases z)
theorem SrAt.np(a:SrAt G S n m p q s):n≠p:=dA a.ob a.ps (by intro z;cases z)
theorem SrAt.nq(a:SrAt G S n m p q s):n≠q:=dA a.ob a.nt (by intro z;cases z)
theorem SrAt.mq(a:SrAt G S n m p q s):m≠q:=dA a.ms a.nt (by intro z;cases z)
theorem SrAt.pq(a:SrAt G S n m p q s):p≠q:=dA a.ps a.nt (by intro z;cases z)
theorem SrAt.push(a:SrAt G S n m p q s)(c:List Cell):SrAt G (S++c) n m p q s:=⟨aG a.ob,aG a.ms,aG a.ps,aG a.nt,a.mp⟩
structure SrTo(G:Cs)(n m p q:Nat)(S:List Cell)(p' q':Nat)(S':List Cell)(s':Sr):Prop where
 at_:SrAt G S' n m p' q' s'
 fr:Fr [n,m,p,q] S S'
 p_:p'=p\/S.length<=p'
 q_:q'=q\/S.length<=q'
theorem SrTo.trans(a:SrTo G n m p q S p1 q1 S1 s1)(c:SrTo G n m p1 q1 S1 p2 q2 S2 s2):SrTo G n m p q S p2 q2 S2 s2:=by
 have hl:=a.fr.1;refine⟨c.at_,a.fr.trans c.fr fun i hi hs=>?_,?_,?_⟩
 ·simp only[List.mem_cons,List.not_mem_nil,or_false] at hi ⊢;have he:=a.p_;have hb:=a.q_;omega
 ·have:=a.p_;have:=c.p_;omega
 ·have:=a.q_;have:=c.q_;omega
theorem SrTo.refl(a:SrAt G S n m p q s):SrTo G n m p q S p q S s:=⟨a,Fr.refl _ _,.inl rfl,.inl rfl⟩
theorem SrTo.push(a:SrTo G n m p q S p' q' S' s')(c:List Cell):SrTo G n m p q S p' q' (S'++c) s':=⟨a.at_.push c,a.fr.tr Fr.push,a.p_,a.q_⟩
theorem zw(a:SrAt G S n m p q s)(r:DSt):aB G.Sender ns_Sender 0 (aa 0) (some (.ob n) :: r) S=.ok (.int (s.w:Int)) S:=bK rfl a.ob rfl
theorem wk(a:SrAt G S n m p q s)(r:DSt):aB G.Sender ns_Sender 1 (aa 0) (some (.ob n) :: r) S=.ok (.int (s.most:Int)) S:=bK rfl a.ob rfl
theorem A8(a:SrAt G S n m p q s)(r:DSt):aB G.Sender ns_Sender 2 (aa 0) (some (.ob n) :: r) S=.ok (.ob m) S:=bK rfl a.ob rfl
theorem z6(a:SrAt G S n m p q s)(r:DSt):aB G.Sender ns_Sender 3 (aa 0) (some (.ob n) :: r) S=.ok (.int (s.sure:Int)) S:=bK rfl a.ob rfl
theorem yn(a:SrAt G S n m p q s)(r:DSt):aB G.Sender ns_Sender 4 (aa 0) (some (.ob n) :: r) S=.ok (.int (s.op:Int)) S:=bK rfl a.ob rfl
theorem q0(a:SrAt G S n m p q s)(r:DSt):aB G.Sender ns_Sender 5 (aa 0) (some (.ob n) :: r) S=.ok (.str (stS s.st)) S:=bK rfl a.ob rfl
theorem qm(a:SrAt G S n m p q s)(r:DSt):aB G.Sender ns_Sender 6 (aa 0) (some (.ob n) :: r) S=.ok (.ob p) S:=bK rfl a.ob rfl
theorem kJ(a:SrAt G S n m p q s)(r:DSt):aB G.Sender ns_Sender 7 (aa 0) (some (.ob n) :: r) S=.ok (.int (s.base:Int)) S:=bK rfl a.ob rfl
theorem CB(a:SrAt G S n m p q s)(r:DSt):aB G.Sender ns_Sender 8 (aa 0) (some (.ob n) :: r) S=.ok (.ob q) S:=bK rfl a.ob rfl
theorem uK(a b:St)(S:List Cell):eqD (.str (stS a)) (.str (stS b)) S=.ok (.bl (decide (a=b))) S:=by
 cases a<;>cases b<;>exact bj
theorem CA(a b:St)(S:List Cell):neD (.str (stS a)) (.str (stS b)) S=.ok (.bl (!decide (a=b))) S:=by
 cases a<;>cases b<;>exact y3
structure Sb(N:Nat)(s:Sr):Prop where
 most:1<=s.most
 ml:s.msgs.length<=N
 m40:∀x,x∈s.msgs->x.length<=40
 pl:s.ps.length<=41 * N
 fg:∀x,x∈s.ps->x.1=0\/x.1=1
 nl:s.noted.length<=7 * N
theorem vU{k:Nat}(hk:1<=k):∀{ms:List Msg},(∀x,x∈ms->x.length<=40)->(fl k ms).length<=41 * ms.length
 |[],_=>by simp[fl]
 |x :: ms,h=>by
  have h1:=mf hk x;have h2:=h x (by simp);have h3:=vU hk (ms:=ms) fun y hy=>h y (List.mem_cons_of_mem _ hy)
  rw[AO,List.length_append,List.length_cons];omega
theorem Sb.mono{N M:Nat}(b:Sb N s)(h:N<=M):Sb M s:=⟨b.most,Nat.le_trans b.ml h,b.m40,by have:=b.pl;omega,b.fg,by have:=b.nl;omega⟩
theorem Sb.hand{N:Nat}{x:Msg}(b:Sb N s)(hx:x.length<=40):Sb (N+1) (s.hand x):=by
 have h1:=b.ml;have h2:=b.pl;have h3:=mf b.most x;refine⟨b.most,?_,?_,?_,?_,by have:=b.nl;show s.noted.length<=_;omega⟩
 ·show(s.msgs++[x]).length<=_;rw[List.length_append,List.length_singleton];omega
 ·intro y hy;rcases List.mem_append.mp hy with hy|hy
  ·exact b.m40 y hy
  ·rw[List.mem_singleton.mp hy];exact hx
 ·show(if s.st=.shut then s.ps else s.ps++j8 s.most x).length<=_;split
  ·omega
  ·rw[List.length_append];omega
 ·intro y hy;have hy':y∈(if s.st=.shut then s.ps else s.ps++j8 s.most x):=hy;split at hy'
  ·exact b.fg y hy'
  ·rcases List.mem_append.mp hy' with hy|hy
   ·exact b.fg y hy
   ·exact pZ _ _ y hy
theorem Sb.anew{N:Nat}(b:Sb N s):Sb N s.anew:=by
 refine⟨b.most,b.ml,b.m40,?_,yI _ _,Nat.zero_le _⟩;have:=vU b.most (ms:=s.msgs.drop s.sure) fun x hx=>b.m40 x (List.mem_of_mem_drop hx)
 rw[List.length_drop] at this;have h1:=b.ml;show(fl s.most (s.msgs.drop s.sure)).length<=_;omega
theorem Ai{N:Nat}(a:SrAt G S n m p q s)(b:Sb N s)(hN:N<20000){x:Msg}(hx:x.length<=40):∃S',gf G [.ob n,msgD x] S=.ok .non S'/\SrTo G n m p q S p q S' (s.hand x):=by
 show ∃S',fin S (iu G [some (.ob n),some (msgD x)] S)=_/\_;unfold iu;have hml:=b.ml;have hpl:=b.pl;have hcl:=mf b.most x;obtain⟨S1,q1,c1⟩:=tF (fo:=aB G.Sender ns_Sender 2 (aa 0)) (ft:=ac (aa 1) aj) (r:=[some (.ob n),some (msgD x)]) (A8 a _) a.ms (ag rfl ai) (by rw[List.length_map];omega);have a1:SrAt G S1 n m p q { s with msgs:=s.msgs++[x] }:=⟨c1.old a.ob a.nm.symm,by simpa using c1.at_,c1.old a.ps a.mp,c1.old a.nt a.mq,a.mp⟩;have f1:Fr [n,m,p,q] S S1:=c1.fp (by simp);rw[av (aY q1)];have t1:ao (dOp neD (aB G.Sender ns_Sender 5 (aa 0)) (dC (.str "shut"))) [some (.ob n),some (msgD x)] S1=.ok (!decide (s.st=.shut)) S1:=az (au (q0 a1 _) rfl (CA s.st .shut _));by_cases hs:s.st=.shut
 ·rw[decide_eq_true hs] at t1;have e1:s.hand x = { s with msgs:=s.msgs++[x] }:=by unfold Sr.hand;rw[if_pos hs]
  rw[ay t1,e1];exact⟨S1,rfl,a1,f1,.inl rfl,.inl rfl⟩
 ·rw[decide_eq_false hs] at t1;have e1:s.hand x = { s with msgs:=s.msgs++[x],ps:=s.ps++j8 s.most x }:=by unfold Sr.hand;rw[if_neg hs]
  obtain⟨S2,q2,c2⟩:=yE (fo:=aB G.Sender ns_Sender 6 (aa 0)) (ft:=ac (am dm (ac (aa 1) (ac (aB G.Sender ns_Sender 1 (aa 0)) aj))) aj) (r:=[some (.ob n),some (msgD x)]) (qm a1 _) a1.ps
   (ag (ax (ag rfl (ag (wk a1 _) ai)) (q7 b.most hx S1)) ai) (by rw[List.length_map,List.length_map];show s.ps.length+_<=_;omega)
  rw[bf t1,aY q2,e1];refine⟨S2,rfl,⟨c2.old a1.ob a.np.symm,c2.old a1.ms a.mp.symm,by simpa using c2.at_,c2.old a1.nt a.pq,a.mp⟩,f1.tr (c2.fp (by simp)),.inl rfl,.inl rfl⟩
end
end Lw
namespace Lw
open PySem L2 DL
section
variable{G:Cs}{S S' S1 S2:List Cell}{n m p q p1 q1 p2 q2 p' q':Nat}{s s' s1 s2:Sr}
theorem zZ(a:SrAt G S n m p q s):∃S',fW G [.ob n] S=.ok .non S'/\SrTo G n m p q S p q S' s.fall:=by
 show ∃S',fin S (iL G [some (.ob n)] S)=_/\_;unfold iL;obtain⟨S1,q1,c1⟩:=gA (fo:=aa 0) (fe:=dC (.str "shut")) (r:=[some (.ob n)]) (i:=5) rfl rfl a.ob rfl;rw[q1];exact⟨S1,rfl,⟨c1.at_,c1.old a.ms a.nm,c1.old a.ps a.np,c1.old a.nt a.nq,a.mp⟩,c1.fp (by simp),.inl rfl,.inl rfl⟩
end
end Lw
namespace Lw
open PySem L2 DL
section
variable{G:Cs}{S S' S1 S2:List Cell}{n m p q p1 q1 p2 q2 p' q':Nat}{s s' s1 s2:Sr}{N:Nat}
theorem yB{k:Nat}{ms:List Msg}{i:Nat}{x:Msg}(h:ms[i]?=some x):fl k (ms.take (i+1))=fl k (ms.take i)++j8 k x:=by
 rw[List.take_add_one,h,Option.toList_some,xW];simp[fl]
theorem w6{s:Sr}(b:Sb N s)(hN:N<=20000){ms:List Msg}(h40:∀x,x∈ms->x.length<=40)(hl:ms.length<=N){kk:Nat}{x1:Option D}(a:SrAt G S n m p q s)(hp0:s.ps=[])(hk:S[kk]?=some (.lst (ms.map msgD)))(hkp:kk≠p) :
  ∃S' x1',ix (some (kk,ms.map msgD)) (gN 1) (dF G) (ms.map msgD) [some (.ob n),x1] S=some (.nx [some (.ob n),x1'],S')/\SrAt G S' n m p q { s with ps:=fl s.most ms }/\Fr [p] S S':=by
 obtain⟨r',S',e,x1',rfl,a',f',_⟩:=eN (g:=some (kk,ms.map msgD)) (tg:=gN 1) (b:=dF G)
  (fun i r S'=>∃x1',r=[some (.ob n),x1']/\SrAt G S' n m p q { s with ps:=fl s.most (ms.take i) }/\Fr [p] S S'/\S'[kk]?=some (.lst (ms.map msgD))) (ms.map msgD) 0 [some (.ob n),x1] S
  (by
   rintro i y r S' hy ⟨x1',rfl,a',f',k'⟩;rw[List.getElem?_map] at hy;cases hx:ms[i]? with
   |none=>rw[hx] at hy;cases hy
   |some x=>
    rw[hx] at hy;cases hy;rw[Nat.zero_add] at a' ⊢;have hxm:=List.mem_of_getElem? hx;have hil:=(List.getElem?_eq_some_iff.mp hx).1;have l1:=vU b.most (ms:=ms.take i) fun y hy=>h40 y (List.mem_of_mem_take hy)
    have l2:=mf b.most x;have l3:=h40 x hxm;rw[List.length_take] at l1;obtain⟨S2,q2,c2⟩:=yE (fo:=aB G.Sender ns_Sender 6 (aa 0)) (ft:=ac (am dm (ac (aa 1) (ac (aB G.Sender ns_Sender 1 (aa 0)) aj))) aj) (r:=[some (.ob n),some (msgD x)]) (qm a' _) a'.ps
     (ag (ax (ag rfl (ag (wk a' _) ai)) (q7 b.most l3 S')) ai) (by rw[List.length_map,List.length_map];show(fl s.most (ms.take i)).length+_<=_;omega)
    refine⟨[some (.ob n),some (msgD x)],[some (.ob n),some (msgD x)],S2,rfl,aY q2,c2.old k' hkp.symm,some (msgD x),rfl,?_,f'.tr (c2.fp (by simp)),c2.old k' hkp.symm⟩;refine⟨c2.old a'.ob a.np.symm,c2.old a'.ms a.mp.symm,?_,c2.old a'.nt a.pq,a.mp⟩;show S2[p]?=some (.lst ((fl s.most (ms.take (i+1))).map pcD));rw[yB hx,List.map_append];exact c2.at_)
  ⟨x1,rfl,⟨a.ob,a.ms,by show S[p]?=some (.lst ((fl s.most (ms.take 0)).map pcD));rw[List.take_zero];have:=a.ps;rw[hp0] at this;exact this,a.nt,a.mp⟩,Fr.refl _ _,hk⟩
 refine⟨S',x1',e,?_,f'⟩;rw[show 0+(ms.map msgD).length=ms.length by simp,List.take_length] at a';exact a'
theorem wD(a:SrAt G S n m p q s)(b:Sb N s)(hN:N<=20000):∃S' p' q',bO G [.ob n] S=.ok .non S'/\SrTo G n m p q S p' q' S' s.anew:=by
 show ∃S' p' q',fin S (d5 G [some (.ob n),none] S)=_/\_;unfold d5;have ln:=bx a.ob;have lm:=bx a.ms;have lp:=bx a.ps;have lq:=bx a.nt;obtain⟨S1,e1,c1⟩:=wo (fo:=aa 0) (fe:=dC (.int 1)) (r:=[some (.ob n),none]) (i:=4) rfl a.ob rfl rfl rfl;obtain⟨S2,e2,c2⟩:=gA (fo:=aa 0) (fe:=dC (.str "opening")) (r:=[some (.ob n),none]) (i:=5) rfl rfl c1.at_ rfl;obtain⟨S3,e3,c3⟩:=gA (fo:=aa 0) (fe:=bW aj) (r:=[some (.ob n),none]) (i:=6) (b9 ai (by decide)) rfl (aG (G:=[.lst []]) c2.at_) rfl;have l1:=c1.len;have l2:=c2.len;have l3:=c3.len;rw[List.length_append,List.length_singleton] at l3;have ms3:S3[m]?=some (.lst (s.msgs.map msgD)):=c3.old (aG (c2.old (c1.old a.ms a.nm) a.nm)) a.nm;have a3:SrAt G S3 n m S2.length q { s with op:=s.op+1,st:=.opening,ps:=[] }:=
  ⟨c3.at_,ms3,c3.old (aS rfl) (by omega),c3.old (aG (c2.old (c1.old a.nt a.nq) a.nq)) a.nq,by omega⟩
 have f3:Fr [n] S S3:=((c1.fr.tr c2.fr).tr Fr.push).tr c3.fr;have b3:Sb N { s with op:=s.op+1,st:=.opening,ps:=[] }:=⟨b.most,b.ml,b.m40,Nat.zero_le _,by simp,b.nl⟩;have hcut:eu (s.msgs.map msgD) (some (s.sure:Int)) none=(s.msgs.drop s.sure).map msgD:=by
  unfold eu;rw[HT.sIx_nat,HT.sIx_none,List.map_drop];by_cases h:s.sure<=(s.msgs.map msgD).length
  ·rw[Nat.min_eq_left h,List.take_of_length_le (by rw[List.length_drop];omega)]
  ·rw[Nat.min_eq_right (by omega),List.drop_of_length_le (Nat.le_refl _),List.drop_of_length_le (by omega)];simp
 have w1:dWk (dSl slD (aB G.Sender ns_Sender 2 (aa 0)) (bQ (aB G.Sender ns_Sender 3 (aa 0))) bN) [some (.ob n),none] S3=.ok ⟨(s.msgs.drop s.sure).map msgD,some (S3.length,(s.msgs.drop s.sure).map msgD)⟩ (S3++[.lst ((s.msgs.drop s.sure).map msgD)]):=by
  have:dSl slD (aB G.Sender ns_Sender 2 (aa 0)) (bQ (aB G.Sender ns_Sender 3 (aa 0))) bN [some (.ob n),none] S3=.ok (.ob S3.length) (S3++[.lst ((s.msgs.drop s.sure).map msgD)]):=by
   rw[lh,aw,A8 a3];dsimp only;rw[aw,fC,aw,z6 a3];simp only[fY,kq,dZ,aw,slD,cg a3.ms];rw[show({ s with op:=s.op+1,st:=.opening,ps:=[] }:Sr).sure=s.sure from rfl,hcut]
  rw[nL,aw,this];simp only[lr,ci]
 have hdl:(s.msgs.drop s.sure).length<=N:=by have:=b.ml;rw[List.length_drop];omega
 obtain⟨S4,x4,e4,a4,f4⟩:=w6 (x1:=none) b3 hN (ms:=s.msgs.drop s.sure) (fun x hx=>b.m40 x (List.mem_of_mem_drop hx)) hdl (kk:=S3.length) (a3.push [.lst ((s.msgs.drop s.sure).map msgD)]) rfl (aS rfl) (by omega);have l4:=f4.1;rw[List.length_append,List.length_singleton] at l4;obtain⟨S5,e5,c5⟩:=gA (fo:=aa 0) (fe:=dC (.int 0)) (r:=[some (.ob n),x4]) (i:=7) rfl rfl a4.ob rfl;obtain⟨S6,e6,c6⟩:=gA (fo:=aa 0) (fe:=j0) (r:=[some (.ob n),x4]) (i:=8) rfl rfl (aG (G:=[.dic []]) c5.at_) rfl;have l5:=c5.len;have lp4:=bx a4.ps;refine⟨S6,S2.length,S5.length,?_,⟨⟨c6.at_,c6.old (aG (c5.old a4.ms a.nm)) a.nm,c6.old (aG (c5.old a4.ps (by omega))) (by omega),c6.old (aS rfl) (by omega),by omega⟩,?_,.inr (by omega),.inr (by omega)⟩⟩
 ·rw[av e1,av e2,av e3,av (by rw[m0 w1];exact e4),av e5,e6];rfl
 ·have g1:Fr [n,m,p,q] S S3:=f3.mono fun i hi _=>by simp at hi;simp[hi]
  have g2:Fr [n,m,p,q] S S4:=(g1.tr Fr.push).trans f4 fun i hi hs=>by
   have:i=S2.length:=by simpa using hi
   omega
  exact((g2.tr (c5.fp (by simp))).tr Fr.push).tr (c6.fp (by simp))
theorem zB(a:SrAt G S n m p q s)(b:Sb N s)(hN:N<=20000):∃S' p' q',fj G [.ob n] S=.ok .non S'/\SrTo G n m p q S p' q' S' s.start:=by
 show ∃S' p' q',fin S (gL G [some (.ob n)] S)=_/\_;unfold gL;have t1:ao (dOp eqD (aB G.Sender ns_Sender 5 (aa 0)) (dC (.str "shut"))) [some (.ob n)] S=.ok (decide (s.st=.shut)) S:=az (au (q0 a _) rfl (uK s.st .shut _));by_cases hs:s.st=.shut
 ·rw[decide_eq_true hs] at t1;obtain⟨S',p',q',e1,k1⟩:=wD a b hN;refine⟨S',p',q',?_,?_⟩
  ·rw[bf t1,aY (aK rfl a.ob ai e1)];rfl
  ·unfold Sr.start;rw[if_pos hs];exact k1
 ·rw[decide_eq_false hs] at t1;refine⟨S,p,q,?_,?_⟩
  ·rw[ay t1];rfl
  ·unfold Sr.start;rw[if_neg hs];exact SrTo.refl a
end
end Lw
namespace Lw
open PySem L2 DL
section
variable{G:Cs}{S S' S1 S2:List Cell}{n m p q p1 q1 p2 q2 p' q':Nat}{s s' s1 s2:Sr}{N:Nat}
theorem BR(l:List Nat)(k:Nat):(gZ (ntD l) (.inl (k:Int))).isSome=decide (k∈l):=by
 induction l with
 |nil=>rfl
 |cons a r ih=>
  unfold ntD at ih ⊢;rw[List.map_cons];unfold gZ at ih ⊢;rw[List.find?_cons];by_cases h:a=k
  ·subst h;simp
  ·have h2:decide ((Sum.inl (a:Int):Key)=Sum.inl (k:Int))=false:=decide_eq_false fun z=>h (by injection z with z;omega)
   simp only[h2];rw[ih];simp[Ne.symm h]
theorem tZ{m w:Nat}(hw:0<w)(S:List Cell):dP [.int (m:Int),.int (w:Int)] S=.ok (.int ((m % (2 * w):Nat):Int)) S:=by
 have h1:(0:Int)<2 * (w:Int):=by omega
 simp[dP,mr,cH h1]
theorem xo(a:SrAt G S n m p q s)(hw:0<s.w){i:Nat}(hi:i<s.ps.length):df G [.ob n,.int (i:Int)] S=.ok (cardD (s.dataOf i)) S:=by
 show fin S (eZ G [some (.ob n),some (.int (i:Int))] S)=_;unfold eZ;have hx:s.ps[i]?=some (s.ps.getD i (0,[])):=by simp[List.getD,hi]
 have e1:ixD (.ob p) (.int (i:Int)) S=.ok (pcD (s.ps.getD i (0,[]))) S:=gR a.ps (by rw[List.getElem?_map,hx];rfl);rw[aR (bL (ag rfl (ag (yn a _) (ag (ax (ag rfl (ag (zw a _) ai)) (tZ hw S)) (ag (au (qm a _) rfl e1) ai)))) (by simp))];rfl
theorem AF{lo hi:Nat}(h:hi<=1000000)(S:List Cell):uE (.int (lo:Int)) (.int (hi:Int)) S=.ok ⟨hW (lo:Int) 1 (hi-lo),none⟩ S\/hi<lo:=by
 by_cases hl:hi<lo
 ·exact .inr hl
 ·refine .inl ?_;show uc (lo:Int) (hi:Int) 1 S=_;have hs:Builtin.Range.small (lo:Int) (hi:Int) 1=true:=small_one (by omega) (by omega) (by omega) (by omega);unfold uc;have e:(if (lo:Int)<(hi:Int) then (hi:Int)-(lo:Int) else 0).toNat=hi-lo:=by split<;>omega
  rw[cq ⟨⟨by omega,by omega⟩,hs⟩,rangeSize_one,e]
theorem xk(a:SrAt G S n m p q s)(hN:s.ps.length<=1000000)(hb:s.base<=s.ps.length):dz G [.ob n] S=.ok (.ob S.length) (S++[.lst (s.wanted.map fun(i:Nat)=>.int (i:Int))]):=by
 show fin S (fO G [some (.ob n),none] S)=_;unfold fO;have e1:am xR (ac (dOp bP (aB G.Sender ns_Sender 7 (aa 0)) (aB G.Sender ns_Sender 0 (aa 0))) (ac (am bC (ac (aB G.Sender ns_Sender 6 (aa 0)) aj)) aj)) [some (.ob n),none] S=.ok (.int ((min (s.base+s.w) s.ps.length:Nat):Int)) S:=by
  refine ax (ag (au (kJ a _) (zw a _) (cy _ _)) (ag (ax (ag (qm a _) ai) (kh a.ps)) ai)) ?_;rw[Bb,List.length_map];congr 2;omega
 rw[av (bD e1)];show fin S (bM _ [some (.ob n),some (.int ((min (s.base+s.w) s.ps.length:Nat):Int))] S)=_;obtain⟨hi,hhi⟩:∃hi,min (s.base+s.w) s.ps.length=hi:=⟨_,rfl⟩;have hlo:s.base<=hi:=by omega
 have q1:=iR (f:=wC (aB G.Sender ns_Sender 7 (aa 0)) (aa 1)) (tg:=gN 0) (ti:=ao (dOp fA (aa 0) (aB G.Sender ns_Sender 8 (aa 1)))) (fe:=aa 0) (own:=1) (caps:=[0])
  (r:=[some (.ob n),some (.int (hi:Int))]) (S:=S) (S1:=S) (w:=⟨hW (s.base:Int) 1 (hi-s.base),none⟩) (fun x=>match x with
   |.int k=>decide (k.toNat∉s.noted)
   |_=>false) id (by
   show((aB G.Sender ns_Sender 7 (aa 0) [some (.ob n),some (.int (hi:Int))]).bind fun x=>(aa 1 [some (.ob n),some (.int (hi:Int))]).bind fun y=>uE x y) S=_;rw[aw,kJ a];show uE (.int (s.base:Int)) (.int (hi:Int)) S=_;rcases AF (lo:=s.base) (hi:=hi) (by omega) S with h|h
   ·exact h
   ·omega) trivial (by simp[hW];omega) (by
   intro x hx;simp only[hW,List.mem_map,List.mem_range] at hx;obtain⟨k,_,rfl⟩:=hx;have hk:(s.base:Int)+(k:Int) * 1=((s.base+k:Nat):Int):=by omega
   rw[hk];refine⟨_,rfl,fun zs=>?_,fun _ zs=>rfl⟩;have ap:=a.push [.lst zs];have g2:aB G.Sender ns_Sender 8 (aa 1) [some (.int ((s.base+k:Nat):Int)),some (.ob n)] (S++[.lst zs])=.ok (.ob q) (S++[.lst zs]):=bK rfl ap.ob rfl;show ao _ [some (.int ((s.base+k:Nat):Int)),some (.ob n)] (S++[.lst zs])=_;refine az (au rfl g2 ?_);simp only[fA,hZ,eS ap.nt,BR,Int.toNat_natCast];simp)
 have hw:((hW (s.base:Int) 1 (hi-s.base)).filter (fun x=>match x with
   |.int k=>decide (k.toNat∉s.noted)
   |_=>false)).map id=s.wanted.map fun(i:Nat)=>.int (i:Int):=by
  unfold hW Sr.wanted;rw[hhi,List.map_id,List.range'_eq_map_range,List.filter_map,List.filter_map,List.map_map];have:((fun x:D=>match x with
   |.int k=>decide (k.toNat∉s.noted)
   |_=>false) ∘ fun(i:Nat)=>D.int ((s.base:Int)+(i:Int) * 1))=((fun i=>decide (i∉s.noted)) ∘ fun x=>s.base+x):=by
   funext i;have hk:((s.base:Int)+(i:Int) * 1).toNat=s.base+i:=by omega
   simp only[Function.comp_def,hk]
  rw[this];refine List.map_congr_left fun i _=>?_
  simp only[Function.comp_def];congr 1;omega
 rw[hw] at q1;rw[hhi,aR q1];rfl
theorem zX(a:SrAt G S n m p q s)(hw:0<s.w)(hN:s.ps.length<=1000000)(hb:s.st=.opened->s.base<=s.ps.length):∃S' l,gh G [.ob n] S=.ok (.ob l) S'/\SrTo G n m p q S p q S' s/\S'[l]?=some (.lst (s.tick.map cardD))/\S.length<=l:=by
 show ∃S' l,fin S (iz G [some (.ob n)] S)=_/\_;unfold iz;have t1:ao (dOp eqD (aB G.Sender ns_Sender 5 (aa 0)) (dC (.str "opening"))) [some (.ob n)] S=.ok (decide (s.st=.opening)) S:=az (au (q0 a _) rfl (uK s.st .opening _));have t2:ao (dOp eqD (aB G.Sender ns_Sender 5 (aa 0)) (dC (.str "open"))) [some (.ob n)] S=.ok (decide (s.st=.opened)) S:=az (au (q0 a _) rfl (uK s.st .opened _));cases hs:s.st with
 |opening=>
  rw[hs] at t1;have e1:s.tick=[.hello s.op]:=by unfold Sr.tick;rw[hs]
  rw[cZ (by rw[bf t1];exact aR (b9 (ag (bL (ag rfl (ag (yn a _) ai)) (by simp)) ai) (by simp))),e1];exact⟨_,_,rfl,(SrTo.refl a).push _,aS rfl,Nat.le_refl _⟩
 |shut=>
  rw[hs] at t1 t2;have e1:s.tick=[]:=by unfold Sr.tick;rw[hs]
  rw[av (by rw[ay t1];rfl),av (by rw[ay t2];rfl),aR (b9 ai (by decide)),e1];exact⟨_,_,rfl,(SrTo.refl a).push _,aS rfl,Nat.le_refl _⟩
 |opened=>
  rw[hs] at t1 t2;have e1:s.tick=s.wanted.map s.dataOf:=by unfold Sr.tick;rw[hs]
  obtain⟨S1,hS1⟩:∃S1,S++[Cell.lst (s.wanted.map fun(i:Nat)=>.int (i:Int))]=S1:=⟨_,rfl⟩;have w1:=xk a hN (hb hs);rw[hS1] at w1;have k1:S1[S.length]?=some (.lst (s.wanted.map fun(i:Nat)=>.int (i:Int))):=by rw[<-hS1];exact aS rfl
  have a1:SrAt G S1 n m p q s:=by rw[<-hS1];exact a.push _
  have wl:s.wanted.length<=1000000:=by
   unfold Sr.wanted;refine Nat.le_trans (List.length_filter_le _ _) ?_;rw[List.length_range'];omega
  have q1:=iR (f:=dWk (aP G.Sender ns_Sender (dz G) (aa 0) aj)) (tg:=gN 0) (ti:=j6) (fe:=aP G.Sender ns_Sender (df G) (aa 1) (ac (aa 0) aj)) (own:=1) (caps:=[0])
   (r:=[some (.ob n)]) (S:=S) (S1:=S1) (w:=⟨s.wanted.map fun(i:Nat)=>.int (i:Int),some (S.length,s.wanted.map fun(i:Nat)=>.int (i:Int))⟩) (fun _=>true) (fun x=>match x with
    |.int k=>cardD (s.dataOf k.toNat)
    |_=>.non) (by
    rw[nL,aw,aK rfl a.ob ai w1];simp only[lr,k1]) k1 (by rw[List.length_map];exact wl) (by
    intro x hx;obtain⟨i,hi,rfl⟩:=List.mem_map.mp hx;refine⟨_,rfl,fun _=>rfl,fun _ zs=>?_⟩;have ap:=a1.push [.lst zs];have hi2:i<s.ps.length:=by
     unfold Sr.wanted at hi;have:=(List.mem_range'_1.mp (List.mem_filter.mp hi).1).2;have:=hb hs;omega
    show aP _ _ _ _ _ [some (.int (i:Int)),some (.ob n)] (S1++[.lst zs])=_;refine aK rfl ap.ob (ag rfl ai) ?_;rw[xo ap hw hi2];dsimp only;rw[Int.toNat_natCast])
  have hm:((s.wanted.map fun(i:Nat)=>D.int (i:Int)).filter fun _=>true).map (fun x=>match x with
    |.int k=>cardD (s.dataOf k.toNat)
    |_=>.non)=(s.wanted.map s.dataOf).map cardD:=by
   rw[List.filter_eq_self.mpr (by simp),List.map_map,List.map_map];refine List.map_congr_left fun i _=>?_
   simp only[Function.comp_def,Int.toNat_natCast]
  dsimp only at q1;rw[hm] at q1;rw[av (by rw[ay t1];rfl),cZ (by rw[bf t2];exact aR q1),e1];refine⟨_,_,rfl,⟨a1.push _,?_,.inl rfl,.inl rfl⟩,aS rfl,?_⟩
  ·rw[<-hS1];exact Fr.push.tr Fr.push
  ·rw[<-hS1];simp
end
end Lw
namespace Lw
open PySem L2 DL
section
variable{G:Cs}{S S' S1 S2:List Cell}{n m p q p1 q1 p2 q2 p' q':Nat}{s s' s1 s2:Sr}{N:Nat}
theorem zi{xs:List D}{i j:Nat}(h1:i<=j)(h2:j<=xs.length):eu xs (some (i:Int)) (some (j:Int))=(xs.take j).drop i:=by
 unfold eu;rw[HT.sIx_nat,HT.sIx_nat,Nat.min_eq_left (show i<=xs.length by omega),Nat.min_eq_left h2,List.drop_take]
theorem xT{ps:List Pc}(h:∀x,x∈ps->x.1=0\/x.1=1):(ps.map (·.1)).sum=(lasts ps:Int):=by
 induction ps with
 |nil=>rfl
 |cons a r ih=>
  have h1:=h a (by simp);have h2:=ih fun x hx=>h x (List.mem_cons_of_mem _ hx)
  have e:lasts (a :: r)=(if a.1=1 then 1 else 0)+lasts r:=by
   unfold lasts;rw[List.filter_cons];rcases h1 with h1|h1
   ·simp[h1]
   ·simp[h1];omega
  rw[List.map_cons,List.sum_cons,h2,e];rcases h1 with h1|h1
  ·rw[h1];simp
  ·rw[h1];simp
theorem zL(a:SrAt G S n m p q s)(b:Sb N s)(hN:N<=20000){i:Nat}(h1:s.base<=i)(h2:i<=s.ps.length):∃S',dn G [.ob n,.int (i:Int)] S=.ok .non S'/\SrTo G n m p q S p q S' (s.moveB i):=by
 show ∃S',fin S (d7 G [some (.ob n),some (.int (i:Int))] S)=_/\_;unfold d7;have hpl:=b.pl;obtain⟨qs,hqs⟩:∃qs,(s.ps.take i).drop s.base=qs:=⟨_,rfl⟩;have hql:qs.length<=1000000:=by rw[<-hqs,List.length_drop,List.length_take];omega
 have hqf:∀x,x∈qs->x.1=0\/x.1=1:=fun x hx=>b.fg x (by rw[<-hqs] at hx;exact List.mem_of_mem_take (List.mem_of_mem_drop hx))
 have w1:dWk (dSl slD (aB G.Sender ns_Sender 6 (aa 0)) (bQ (aB G.Sender ns_Sender 7 (aa 0))) (bQ (aa 1))) [some (.ob n),some (.int (i:Int))] S=.ok ⟨qs.map pcD,some (S.length,qs.map pcD)⟩ (S++[.lst (qs.map pcD)]):=by
  have:dSl slD (aB G.Sender ns_Sender 6 (aa 0)) (bQ (aB G.Sender ns_Sender 7 (aa 0))) (bQ (aa 1)) [some (.ob n),some (.int (i:Int))] S=.ok (.ob S.length) (S++[.lst (qs.map pcD)]):=by
   rw[lh,aw,qm a];dsimp only;rw[aw,fC,aw,kJ a];simp only[fY,kq,aw,fC,jR,List.getElem?_cons_succ,List.getElem?_cons_zero,slD,cg a.ps];rw[zi h1 (by rw[List.length_map];exact h2),<-List.map_take,<-List.map_drop,hqs]
  rw[nL,aw,this];simp only[lr,ci]
 have q1:=iR (f:=dWk (dSl slD (aB G.Sender ns_Sender 6 (aa 0)) (bQ (aB G.Sender ns_Sender 7 (aa 0))) (bQ (aa 1)))) (tg:=gN 0) (ti:=j6) (fe:=dOp ixD (aa 0) (dC (.int 0))) (own:=1) (caps:=[]) (r:=[some (.ob n),some (.int (i:Int))]) (S:=S)
  (S1:=S++[.lst (qs.map pcD)]) (w:=⟨qs.map pcD,some (S.length,qs.map pcD)⟩) (fun _=>true) (fun x=>match x with
   |.tup (y :: _)=>y
   |_=>.non) w1 (aS rfl) (by rw[List.length_map];exact hql) (by
   intro x hx;obtain⟨y,_,rfl⟩:=List.mem_map.mp hx;exact⟨_,rfl,fun _=>rfl,fun _ zs=>au rfl rfl rfl⟩)
 have hm:((qs.map pcD).filter fun _=>true).map (fun x=>match x with
   |.tup (y :: _)=>y
   |_=>.non)=(qs.map (·.1)).map D.int:=by
  rw[List.filter_eq_self.mpr (by simp),List.map_map,List.map_map];rfl
 dsimp only at q1;rw[hm] at q1;have e1:am nA (ac (iy (dWk (dSl slD (aB G.Sender ns_Sender 6 (aa 0)) (bQ (aB G.Sender ns_Sender 7 (aa 0))) (bQ (aa 1)))) (gN 0) j6 (dOp ixD (aa 0) (dC (.int 0))) 1 []) aj) [some (.ob n),some (.int (i:Int))] S=.ok (.int (lasts qs:Int)) ((S++[.lst (qs.map pcD)])++[.lst ((qs.map (·.1)).map D.int)]):=by
  refine ax (ag q1 ai) ?_;simp only[nA,gu,cg ci,iT];rw[xT hqf]
 obtain⟨S2,hS2⟩:∃S2,(S++[Cell.lst (qs.map pcD)])++[Cell.lst ((qs.map (·.1)).map D.int)]=S2:=⟨_,rfl⟩;have a2:SrAt G S2 n m p q s:=by rw[<-hS2];exact(a.push _).push _
 have f2:Fr [n,m,p,q] S S2:=by rw[<-hS2];exact Fr.push.tr Fr.push
 rw[hS2] at e1;have q3:=we (fo:=aa 0) (r:=[some (.ob n),some (.int (i:Int))]) (i:=3) rfl a.ob rfl e1 a2.ob;have c3:=Ch.set (c:=.ins G.Sender ns_Sender [.int (s.w:Int),.int (s.most:Int),.ob m,.int ((s.sure:Int)+(lasts qs:Int)),.int (s.op:Int),.str (stS s.st),.ob p,.int (s.base:Int),.ob q]) a2.ob;obtain⟨S3,hS3⟩:∃S3,S2.set n (.ins G.Sender ns_Sender [.int (s.w:Int),.int (s.most:Int),.ob m,.int ((s.sure:Int)+(lasts qs:Int)),.int (s.op:Int),.str (stS s.st),.ob p,.int (s.base:Int),.ob q])=S3:=⟨_,rfl⟩;have q3':n7 G.Sender ns_Sender 3 (aa 0) (am nA (ac (iy (dWk (dSl slD (aB G.Sender ns_Sender 6 (aa 0)) (bQ (aB G.Sender ns_Sender 7 (aa 0))) (bQ (aa 1)))) (gN 0) j6 (dOp ixD (aa 0) (dC (.int 0))) 1 []) aj)) [some (.ob n),some (.int (i:Int))] S=some (.nx [some (.ob n),some (.int (i:Int))],S3):=by
  rw[q3,<-hS3];rfl
 rw[hS3] at c3;obtain⟨S4,q4,c4⟩:=gA (fo:=aa 0) (fe:=aa 1) (r:=[some (.ob n),some (.int (i:Int))]) (i:=7) rfl rfl c3.at_ rfl;rw[av q3',q4];have hsum:(s.sure:Int)+(lasts qs:Int)=((s.sure+lasts qs:Nat):Int):=by omega
 refine⟨S4,rfl,⟨?_,c4.old (c3.old a2.ms a.nm) a.nm,c4.old (c3.old a2.ps a.np) a.np,c4.old (c3.old a2.nt a.nq) a.nq,a.mp⟩,(f2.tr (c3.fp (by simp))).tr (c4.fp (by simp)),.inl rfl,.inl rfl⟩;have:=c4.at_;rw[hsum] at this;unfold Sr.moveB;rw[hqs];exact this
theorem Bs{l:List Nat}(k:Nat):qE (ntD l) (.inl (k:Int)) (.bl true)=ntD (if k∈l then l else l++[k]):=by
 have hany:((ntD l).any fun kv=>decide (kv.1=(Sum.inl (k:Int):Key)))=decide (k∈l):=by
  induction l with
  |nil=>rfl
  |cons a r ih=>
   unfold ntD at ih ⊢;rw[List.map_cons,List.any_cons,ih];by_cases h:a=k
   ·subst h;simp
   ·have h2:decide ((Sum.inl (a:Int):Key)=Sum.inl (k:Int))=false:=decide_eq_false fun z=>h (by injection z with z;omega)
    rw[h2];simp[Ne.symm h]
 unfold qE;rw[hany];by_cases h:k∈l
 ·rw[if_pos (decide_eq_true h),if_pos h];unfold ntD;rw[List.map_map];refine List.map_congr_left fun a _=>?_
  simp only[Function.comp_def];split<;>rfl
 ·rw[if_neg (by simp[h]),if_neg h];simp[ntD]
theorem pL:∀(bs:List Int) (s:Sr) (k:Nat) (b:Int),s.noteP k (bs++[b])=(s.noteP k bs).noteP (k+bs.length) [b]
 |[],s,k,b=>rfl
 |c :: bs,s,k,b=>by
  rw[List.cons_append];unfold Sr.noteP;rw[pL bs _ (k+1) b,List.length_cons,show k+1+bs.length=k+(bs.length+1) by omega];rfl
theorem dq:∀(bs:List Int) (s:Sr) (k:Nat),(s.noteP k bs).w=s.w/\(s.noteP k bs).most=s.most/\(s.noteP k bs).msgs=s.msgs/\(s.noteP k bs).sure=s.sure/\(s.noteP k bs).op=s.op/\(s.noteP k bs).st=s.st/\(s.noteP k bs).ps=s.ps/\(s.noteP k bs).base=s.base/\(s.noteP k bs).noted.length<=s.noted.length+bs.length
 |[],s,k=>⟨rfl,rfl,rfl,rfl,rfl,rfl,rfl,rfl,by simp[Sr.noteP]⟩
 |b :: bs,s,k=>by
  unfold Sr.noteP;split
  ·obtain⟨h1,h2,h3,h4,h5,h6,h7,h8,h9⟩:=dq bs { s with noted:=s.noted++[s.base+k] } (k+1);refine⟨h1,h2,h3,h4,h5,h6,h7,h8,?_⟩;rw[List.length_append,List.length_singleton] at h9;rw[List.length_cons];omega
  ·obtain⟨h1,h2,h3,h4,h5,h6,h7,h8,h9⟩:=dq bs s (k+1);refine⟨h1,h2,h3,h4,h5,h6,h7,h8,?_⟩;rw[List.length_cons];omega
theorem zq(a:SrAt G S n m p q s)(hz:s.noted.length<=500000){bs:List Int}(hb:bs.length<=1000):∃S',cV G [.ob n,.tup (bs.map D.int)] S=.ok .non S'/\SrTo G n m p q S p q S' (s.noteP 0 bs):=by
 show ∃S',fin S (dH G [some (.ob n),some (.tup (bs.map D.int)),none,none] S)=_/\_;unfold dH;have w1:wF 0 (aa 1) [some (.ob n),some (.tup (bs.map D.int)),none,none] S=.ok ⟨iW 0 (bs.map D.int),none⟩ S:=rfl;have hget:∀{i:Nat}{y:D},(iW 0 (bs.map D.int))[i]?=some y->∃b,bs[i]?=some b/\y=.tup [.int (i:Int),.int b]:=by
  intro i y h;unfold iW at h;rw[List.getElem?_map,List.getElem?_zipIdx,List.getElem?_map] at h;cases e:bs[i]? with
  |none=>rw[e] at h;simp at h
  |some b=>
   rw[e] at h;simp at h;exact⟨b,rfl,h.symm⟩
 obtain⟨r',S',e,x2,x3,rfl,a',f'⟩:=eN (g:=none) (tg:=gT [2,3]) (b:=cz G)
  (fun i r S'=>∃x2 x3,r=[some (.ob n),some (.tup (bs.map D.int)),x2,x3]/\SrAt G S' n m p q (s.noteP 0 (bs.take i))/\Fr [n,m,p,q] S S') (iW 0 (bs.map D.int)) 0 [some (.ob n),some (.tup (bs.map D.int)),none,none] S
  (by
   rintro i y r S' hy ⟨x2,x3,rfl,a',f'⟩;obtain⟨b,hb',rfl⟩:=hget hy;rw[Nat.zero_add] at a' ⊢;have hil:=(List.getElem?_eq_some_iff.mp hb').1;obtain⟨s',hs'⟩:∃s',s.noteP 0 (bs.take i)=s':=⟨_,rfl⟩;have hnext:s.noteP 0 (bs.take (i+1))=s'.noteP i [b]:=by
    rw[List.take_add_one,hb',Option.toList_some,pL,hs',List.length_take,Nat.min_eq_left (by omega),Nat.zero_add]
   have hfl:=dq (bs.take i) s 0;rw[hs'] at hfl a';rw[hnext];obtain⟨_,_,_,_,_,_,g7,g8,g9⟩:=hfl;rw[List.length_take] at g9;refine⟨[some (.ob n),some (.tup (bs.map D.int)),some (.int (i:Int)),some (.int b)],[some (.ob n),some (.tup (bs.map D.int)),some (.int (i:Int)),some (.int b)],?_⟩;have t1:ao (dOp eqD (aa 3) (dC (.int 1))) [some (.ob n),some (.tup (bs.map D.int)),some (.int (i:Int)),some (.int b)] S'=.ok (decide (b=1)) S':=az (au rfl rfl (jB _ _));have k1:dOp bP (aB G.Sender ns_Sender 7 (aa 0)) (aa 2) [some (.ob n),some (.tup (bs.map D.int)),some (.int (i:Int)),some (.int b)] S'=.ok (.int ((s'.base+i:Nat):Int)) S':=by
    refine au (kJ a' _) rfl ?_;rw[cy];congr 2
   have t2:ao (dOp ltD (dOp bP (aB G.Sender ns_Sender 7 (aa 0)) (aa 2)) (am bC (ac (aB G.Sender ns_Sender 6 (aa 0)) aj))) [some (.ob n),some (.tup (bs.map D.int)),some (.int (i:Int)),some (.int b)] S'=.ok (decide (s'.base+i<s'.ps.length)) S':=by
    refine az (au k1 (ax (ag (qm a' _) ai) (kh a'.ps)) ?_);rw[qA,List.length_map];congr 2;rw[decide_eq_decide];omega
   by_cases hc:b=1/\s'.base+i<s'.ps.length
   ·have tt:dr (ao (dOp eqD (aa 3) (dC (.int 1)))) (ao (dOp ltD (dOp bP (aB G.Sender ns_Sender 7 (aa 0)) (aa 2)) (am bC (ac (aB G.Sender ns_Sender 6 (aa 0)) aj)))) [some (.ob n),some (.tup (bs.map D.int)),some (.int (i:Int)),some (.int b)] S'=.ok true S':=by
     rw[cX,aw,t1,decide_eq_true hc.1];show ao _ _ S'=_;rw[t2,decide_eq_true hc.2]
    have hp:qi (.ob q) (.int ((s'.base+i:Nat):Int)) (.bl true) S'=some (S'.set q (.dic (ntD (if s'.base+i∈s'.noted then s'.noted else s'.noted++[s'.base+i])))):=by
     simp only[qi,hZ,eS a'.nt,Bs];exact cq (szM (by unfold ntD;rw[List.length_map];omega))
    have hn:s'.noteP i [b] = { s' with noted:=if s'.base+i∈s'.noted then s'.noted else s'.noted++[s'.base+i] }:=by
     unfold Sr.noteP;by_cases hm:s'.base+i∈s'.noted
     ·rw[if_neg (by simp[hm]),if_pos hm];rfl
     ·rw[if_pos ⟨hc.1,hc.2,hm⟩,if_neg hm];rfl
    refine⟨S'.set q (.dic (ntD (if s'.base+i∈s'.noted then s'.noted else s'.noted++[s'.base+i]))),rfl,?_,trivial,_,_,rfl,?_,f'.tr (Fr.set (by simp))⟩
    ·unfold cz;rw[bf tt,tC (d:=.bl true) rfl (CB a' _) k1 hp]
    ·rw[hn];exact⟨cG a'.ob a.nq.symm,cG a'.ms a.mq.symm,cG a'.ps a.pq.symm,dB a'.nt,a.mp⟩
   ·have tt:dr (ao (dOp eqD (aa 3) (dC (.int 1)))) (ao (dOp ltD (dOp bP (aB G.Sender ns_Sender 7 (aa 0)) (aa 2)) (am bC (ac (aB G.Sender ns_Sender 6 (aa 0)) aj)))) [some (.ob n),some (.tup (bs.map D.int)),some (.int (i:Int)),some (.int b)] S'=.ok false S':=by
     rw[cX,aw,t1];by_cases hb1:b=1
     ·rw[decide_eq_true hb1];show ao _ _ S'=_;rw[t2,decide_eq_false fun z=>hc ⟨hb1,z⟩]
     ·rw[decide_eq_false hb1];rfl
    have hn:s'.noteP i [b]=s':=by
     unfold Sr.noteP;rw[if_neg fun z=>hc ⟨z.1,z.2.1⟩];rfl
    refine⟨S',rfl,?_,trivial,_,_,rfl,?_,f'⟩
    ·unfold cz;rw[ay tt];rfl
    ·rw[hn];exact a')
  ⟨none,none,rfl,by rw[List.take_zero];exact a,Fr.refl _ _⟩
 have hlen:(iW 0 (bs.map D.int)).length=bs.length:=by simp[iW]
 rw[hlen,Nat.zero_add,List.take_length] at a';rw[m0 w1,e];exact⟨S',rfl,a',f',.inl rfl,.inl rfl⟩
end
end Lw
namespace Lw
open PySem L2 DL
section
variable{G:Cs}{S S' S1 S2:List Cell}{n m p q p1 q1 p2 q2 p' q':Nat}{s s' s1 s2:Sr}{N:Nat}
theorem vW(m w:Nat)(S:List Cell):b8 [.int (m:Int),.int (w:Int)] S=.ok (.bl (decide (m<2 * w))) S:=by
 have h1:decide ((0:Int)<=(m:Int))=true:=decide_eq_true (by omega);have h2:decide ((m:Int)<2 * (w:Int))=decide (m<2 * w):=by rw[decide_eq_decide];omega
 simp[b8,jd,h1,h2]
theorem wZ{n l:Int}{w:Nat}(hw:0<w)(S:List Cell):cr [.int n,.int l,.int (w:Int)] S=.ok (.int (cY n l w)) S:=by
 simp[cr,jc,cH (show(0:Int)<2 * (w:Int) by omega),cY]
theorem oR(n l:Int){w:Nat}(hw:0<w):l<=cY n l w:=by
 unfold cY;have:=Int.emod_nonneg (n-l) (show(2 * (w:Int))≠0 by omega);omega
theorem sH(a:SrAt G S n m p q s)(b:Sb N s)(hN:N<=20000)(hw:0<s.w){num:Nat}{bs:List Int}(hb:bs.length<=1000) :
  ∃S',ca G [.ob n,.int (num:Int),.tup (bs.map D.int)] S=.ok .non S'/\SrTo G n m p q S p q S' (s.hearsNote num bs):=by
 show ∃S',fin S (dS G [some (.ob n),some (.int (num:Int)),some (.tup (bs.map D.int)),none] S)=_/\_;unfold dS;have t1:bU (am b8 (ac (aa 1) (ac (aB G.Sender ns_Sender 0 (aa 0)) aj))) [some (.ob n),some (.int (num:Int)),some (.tup (bs.map D.int)),none] S=.ok (decide (num<2 * s.w)) S:=by
  rw[dc,aw,ax (ag rfl (ag (zw a _) ai)) (vW num s.w S)];rfl
 by_cases c1:num<2 * s.w
 ·rw[decide_eq_true c1] at t1;obtain⟨i,hi⟩:∃i:Nat,cY num s.base s.w=(i:Int):=⟨(cY num s.base s.w).toNat,by have:=oR num s.base hw;omega⟩;have hge:s.base<=i:=by have:=oR num s.base hw;omega
  rw[bf t1,av (bD (ax (ag rfl (ag (kJ a _) (ag (zw a _) ai))) (wZ hw S)))];rw[hi];show ∃S',fin S (sIf _ _ _ [some (.ob n),some (.int (num:Int)),some (.tup (bs.map D.int)),some (.int (i:Int))] S)=_/\_;have e1:am xR (ac (dOp bP (aB G.Sender ns_Sender 7 (aa 0)) (aB G.Sender ns_Sender 0 (aa 0))) (ac (am bC (ac (aB G.Sender ns_Sender 6 (aa 0)) aj)) aj)) [some (.ob n),some (.int (num:Int)),some (.tup (bs.map D.int)),some (.int (i:Int))] S=.ok (.int ((min (s.base+s.w) s.ps.length:Nat):Int)) S:=by
   refine ax (ag (au (kJ a _) (zw a _) (cy _ _)) (ag (ax (ag (qm a _) ai) (kh a.ps)) ai)) ?_;rw[Bb,List.length_map];congr 2;omega
  have t2:ao (dOp leD (aa 3) (am xR (ac (dOp bP (aB G.Sender ns_Sender 7 (aa 0)) (aB G.Sender ns_Sender 0 (aa 0))) (ac (am bC (ac (aB G.Sender ns_Sender 6 (aa 0)) aj)) aj)))) [some (.ob n),some (.int (num:Int)),some (.tup (bs.map D.int)),some (.int (i:Int))] S=.ok (decide (i<=min (s.base+s.w) s.ps.length)) S:=by
   refine az (au rfl e1 ?_);rw[xD];congr 2;rw[decide_eq_decide];omega
  by_cases c2:i<=min (s.base+s.w) s.ps.length
  ·rw[decide_eq_true c2] at t2;have he:s.hearsNote num bs=(s.moveB i).noteP 0 bs:=by
    unfold Sr.hearsNote;rw[if_pos ⟨c1,by rw[hi];omega⟩,hi];rfl
   obtain⟨S1,q1,k1⟩:=zL a b hN hge (by omega);obtain⟨S2,q2,k2⟩:=zq (bs:=bs) k1.at_ (by have:=b.nl;show s.noted.length<=_;omega) hb;rw[bf t2,av (aY (aK rfl a.ob (ag rfl ai) q1)),aY (aK rfl k1.at_.ob (ag rfl ai) q2),he];exact⟨S2,rfl,k1.trans k2⟩
  ·rw[decide_eq_false c2] at t2;have he:s.hearsNote num bs=s:=by
    unfold Sr.hearsNote;rw[if_neg (by rw[hi];omega)]
   rw[ay t2,he];exact⟨S,rfl,SrTo.refl a⟩
 ·rw[decide_eq_false c1] at t1;have he:s.hearsNote num bs=s:=by
   unfold Sr.hearsNote;rw[if_neg (fun z=>c1 z.1)]
  rw[ay t1,he];exact⟨S,rfl,SrTo.refl a⟩
def Card.opn:Card->Nat
 |.hello o=>o
 |.welcome o=>o
 |.who o=>o
 |.data o _ _=>o
 |.note o _ _=>o
def Card.knd:Card->Str
 |.hello _=>"hello"
 |.welcome _=>"welcome"
 |.who _=>"who"
 |.data _ _ _=>"data"
 |.note _ _ _=>"note"
def cOkS:Card->Prop
 |.note _ _ bs=>bs.length<=7
 |_=>True
theorem zy(c:Card)(S:List Cell):ixD (cardD c) (.int 0) S=.ok (.str c.knd) S:=by cases c<;>rfl
def isW:Card->Bool
 |.welcome _=>true
 |_=>false
def isQ:Card->Bool
 |.who _=>true
 |_=>false
def isN:Card->Bool
 |.note _ _ _=>true
 |_=>false
theorem kW(c:Card)(S:List Cell):eqD (.str c.knd) (.str "welcome") S=.ok (.bl (isW c)) S:=by cases c<;>simp only[Card.knd,isW]<;>exact bj
theorem kQ(c:Card)(S:List Cell):eqD (.str c.knd) (.str "who") S=.ok (.bl (isQ c)) S:=by cases c<;>simp only[Card.knd,isQ]<;>exact bj
theorem kN(c:Card)(S:List Cell):eqD (.str c.knd) (.str "note") S=.ok (.bl (isN c)) S:=by cases c<;>simp only[Card.knd,isN]<;>exact bj
theorem ya(c:Card)(S:List Cell):ixD (cardD c) (.int 1) S=.ok (.int (c.opn:Int)) S:=by cases c<;>rfl
theorem Cc(a:SrAt G S n m p q s)(b:Sb N s)(hN:N<=20000)(hw:0<s.w){c:Card}(hc:cOkS c)(ho:c.opn=s.op) :
  ∃S' p' q',dw G [.ob n,cardD c] S=.ok .non S'/\SrTo G n m p q S p' q' S' (s.hears c):=by
 show ∃S' p' q',fin S (el G [some (.ob n),some (cardD c)] S)=_/\_;unfold el;have t1:ao (dOp eqD (aB G.Sender ns_Sender 5 (aa 0)) (dC (.str "opening"))) [some (.ob n),some (cardD c)] S=.ok (decide (s.st=.opening)) S:=az (au (q0 a _) rfl (uK s.st .opening _));have t2:ao (dOp eqD (aB G.Sender ns_Sender 5 (aa 0)) (dC (.str "open"))) [some (.ob n),some (cardD c)] S=.ok (decide (s.st=.opened)) S:=az (au (q0 a _) rfl (uK s.st .opened _));have k0:∀{k:Str}{y:Bool},eqD (.str c.knd) (.str k) S=.ok (.bl y) S->ao (dOp eqD (dOp ixD (aa 1) (dC (.int 0))) (dC (.str k))) [some (.ob n),some (cardD c)] S=.ok y S:=fun h=>az (au (au rfl rfl (zy c S)) rfl h)
 have nothing:s.hears c=s->sIf (dr (ao (dOp eqD (dOp ixD (aa 1) (dC (.int 0))) (dC (.str "welcome")))) (ao (dOp eqD (aB G.Sender ns_Sender 5 (aa 0)) (dC (.str "opening"))))) (jE G.Sender ns_Sender 5 (aa 0) (dC (.str "open"))) (sIf (dr (ao (dOp eqD (dOp ixD (aa 1) (dC (.int 0))) (dC (.str "who")))) (ao (dOp eqD (aB G.Sender ns_Sender 5 (aa 0)) (dC (.str "open"))))) (bz (aP G.Sender ns_Sender (bO G) (aa 0) aj)) (sIf (dr (ao (dOp eqD (dOp ixD (aa 1) (dC (.int 0))) (dC (.str "note")))) (ao (dOp eqD (aB G.Sender ns_Sender 5 (aa 0)) (dC (.str "open"))))) (bz (aP G.Sender ns_Sender (ca G) (aa 0) (ac (dOp ixD (aa 1) (dC (.int 2))) (ac (dOp ixD (aa 1) (dC (.int 3))) aj)))) bF)) [some (.ob n),some (cardD c)] S=some (.nx [some (.ob n),some (cardD c)],S)->
   ∃S' p' q',fin S (sIf (dr (ao (dOp eqD (dOp ixD (aa 1) (dC (.int 0))) (dC (.str "welcome")))) (ao (dOp eqD (aB G.Sender ns_Sender 5 (aa 0)) (dC (.str "opening"))))) (jE G.Sender ns_Sender 5 (aa 0) (dC (.str "open"))) (sIf (dr (ao (dOp eqD (dOp ixD (aa 1) (dC (.int 0))) (dC (.str "who")))) (ao (dOp eqD (aB G.Sender ns_Sender 5 (aa 0)) (dC (.str "open"))))) (bz (aP G.Sender ns_Sender (bO G) (aa 0) aj)) (sIf (dr (ao (dOp eqD (dOp ixD (aa 1) (dC (.int 0))) (dC (.str "note")))) (ao (dOp eqD (aB G.Sender ns_Sender 5 (aa 0)) (dC (.str "open"))))) (bz (aP G.Sender ns_Sender (ca G) (aa 0) (ac (dOp ixD (aa 1) (dC (.int 2))) (ac (dOp ixD (aa 1) (dC (.int 3))) aj)))) bF)) [some (.ob n),some (cardD c)] S)=.ok .non S'/\SrTo G n m p q S p' q' S' (s.hears c):=by
  intro h1 h2;rw[h2,h1];exact⟨S,p,q,rfl,SrTo.refl a⟩
 have an:∀{f g:DSt->M Bool}{y z:Bool},f [some (.ob n),some (cardD c)] S=.ok y S->g [some (.ob n),some (cardD c)] S=.ok z S->dr f g [some (.ob n),some (cardD c)] S=.ok (y && z) S:=by
  intro f g y z h1 h2;rw[cX,aw,h1];cases y
  ·rfl
  ·show g _ S=_;rw[h2,Bool.true_and]
 cases c with
 |hello o=>exact nothing rfl (by rw[ay (an (k0 (kW _ S)) t1),ay (an (k0 (kQ _ S)) t2),ay (an (k0 (kN _ S)) t2)];rfl)
 |data o i x=>exact nothing rfl (by rw[ay (an (k0 (kW _ S)) t1),ay (an (k0 (kQ _ S)) t2),ay (an (k0 (kN _ S)) t2)];rfl)
 |welcome o=>
  have ho':o=s.op:=ho;by_cases hs:s.st=.opening
  ·rw[decide_eq_true hs] at t1;have he:s.hears (.welcome o) = { s with st:=.opened }:=by unfold Sr.hears;exact if_pos ⟨ho',hs⟩
   obtain⟨S1,q1,c1⟩:=gA (fo:=aa 0) (fe:=dC (.str "open")) (r:=[some (.ob n),some (cardD (.welcome o))]) (i:=5) rfl rfl a.ob rfl;rw[bf (an (k0 (kW _ S)) t1),q1,he];exact⟨S1,p,q,rfl,⟨c1.at_,c1.old a.ms a.nm,c1.old a.ps a.np,c1.old a.nt a.nq,a.mp⟩,c1.fp (by simp),.inl rfl,.inl rfl⟩
  ·rw[decide_eq_false hs] at t1;exact nothing (by unfold Sr.hears;exact if_neg fun z=>hs z.2) (by rw[ay (an (k0 (kW _ S)) t1),ay (an (k0 (kQ _ S)) t2),ay (an (k0 (kN _ S)) t2)];rfl)
 |who o=>
  have ho':o=s.op:=ho;by_cases hs:s.st=.opened
  ·rw[decide_eq_true hs] at t2;have he:s.hears (.who o)=s.anew:=by unfold Sr.hears;exact if_pos ⟨ho',hs⟩
   obtain⟨S1,p1,q1,e1,k1⟩:=wD a b hN;rw[ay (an (k0 (kW _ S)) t1),bf (an (k0 (kQ _ S)) t2),aY (aK rfl a.ob ai e1),he];exact⟨S1,p1,q1,rfl,k1⟩
  ·rw[decide_eq_false hs] at t2;exact nothing (by unfold Sr.hears;exact if_neg fun z=>hs z.2) (by rw[ay (an (k0 (kW _ S)) t1),ay (an (k0 (kQ _ S)) t2),ay (an (k0 (kN _ S)) t2)];rfl)
 |note o i bs=>
  have ho':o=s.op:=ho;by_cases hs:s.st=.opened
  ·rw[decide_eq_true hs] at t2;have he:s.hears (.note o i bs)=s.hearsNote i bs:=by unfold Sr.hears;exact if_pos ⟨ho',hs⟩
   have hb:bs.length<=7:=hc;obtain⟨S1,e1,k1⟩:=sH (num:=i) (bs:=bs) a b hN hw (by omega);rw[ay (an (k0 (kW _ S)) t1),ay (an (k0 (kQ _ S)) t2),bf (an (k0 (kN _ S)) t2),aY (aK rfl a.ob (ag (au rfl rfl rfl) (ag (au rfl rfl rfl) ai)) e1),he];exact⟨S1,p,q,rfl,k1⟩
  ·rw[decide_eq_false hs] at t2;exact nothing (by unfold Sr.hears;exact if_neg fun z=>hs z.2) (by rw[ay (an (k0 (kW _ S)) t1),ay (an (k0 (kQ _ S)) t2),ay (an (k0 (kN _ S)) t2)];rfl)
theorem tN{c:Card}(ho:c.opn≠s.op):s.hears c=s:=by
 cases c with
 |hello o=>rfl
 |data o i x=>rfl
 |welcome o=>unfold Sr.hears;exact if_neg fun z=>ho z.1
 |who o=>unfold Sr.hears;exact if_neg fun z=>ho z.1
 |note o i bs=>unfold Sr.hears;exact if_neg fun z=>ho z.1
theorem zh(a:SrAt G S n m p q s)(b:Sb N s)(hN:N<=20000)(hw:0<s.w){c:Card}(hc:cOkS c) :
  ∃S' p' q' l,fw G [.ob n,cardD c] S=.ok (.ob l) S'/\SrTo G n m p q S p' q' S' (s.hears c)/\S'[l]?=some (.lst [])/\S.length<=l:=by
 show ∃S' p' q' l,fin S (gy G [some (.ob n),some (cardD c)] S)=_/\_;unfold gy;have t1:ao (dOp eqD (dOp ixD (aa 1) (dC (.int 1))) (aB G.Sender ns_Sender 4 (aa 0))) [some (.ob n),some (cardD c)] S=.ok (decide (c.opn=s.op)) S:=by
  refine az (au (au rfl rfl (ya c S)) (yn a _) ?_);rw[jB];congr 2;rw[decide_eq_decide];omega
 by_cases ho:c.opn=s.op
 ·rw[decide_eq_true ho] at t1;obtain⟨S1,p1,q1,e1,k1⟩:=Cc a b hN hw hc ho;rw[av (by rw[bf t1];exact aY (aK rfl a.ob (ag rfl ai) e1)),aR (b9 ai (by decide))];exact⟨_,p1,q1,_,rfl,k1.push _,aS rfl,k1.fr.1⟩
 ·rw[decide_eq_false ho] at t1;rw[av (by rw[ay t1];rfl),aR (b9 ai (by decide)),tN ho];exact⟨_,p,q,_,rfl,(SrTo.refl a).push _,aS rfl,Nat.le_refl _⟩
theorem Sb.note{num:Nat}{bs:List Int}(b:Sb N s)(h:bs.length<=7):Sb (N+1) (s.hearsNote num bs):=by
 unfold Sr.hearsNote;split
 ·obtain⟨h1,h2,h3,h4,h5,h6,h7,h8,h9⟩:=dq bs (s.moveB (cY num s.base s.w).toNat) 0;have hn:=b.nl;have hm:=b.ml;have hp:=b.pl;refine⟨by rw[h2];exact b.most,by rw[h3];show s.msgs.length<=_;omega,by rw[h3];exact b.m40,by rw[h7];show s.ps.length<=_;omega,by rw[h7];exact b.fg,?_⟩;have:(s.moveB (cY num s.base s.w).toNat).noted.length=s.noted.length:=rfl;omega
 ·exact b.mono (Nat.le_succ _)
theorem Sb.hears{c:Card}(b:Sb N s)(hc:cOkS c):Sb (N+1) (s.hears c):=by
 cases c with
 |hello o=>exact b.mono (Nat.le_succ _)
 |data o i x=>exact b.mono (Nat.le_succ _)
 |welcome o=>
  unfold Sr.hears;dsimp only;split
  ·exact⟨b.most,Nat.le_succ_of_le b.ml,b.m40,by have:=b.pl;show s.ps.length<=_;omega,b.fg,by have:=b.nl;show s.noted.length<=_;omega⟩
  ·exact b.mono (Nat.le_succ _)
 |who o=>
  unfold Sr.hears;dsimp only;split
  ·exact b.anew.mono (Nat.le_succ _)
  ·exact b.mono (Nat.le_succ _)
 |note o i bs=>
  unfold Sr.hears;dsimp only;split
  ·exact b.note hc
  ·exact b.mono (Nat.le_succ _)
theorem Sb.fall(b:Sb N s):Sb N s.fall:=⟨b.most,b.ml,b.m40,b.pl,b.fg,b.nl⟩
theorem Sb.start(b:Sb N s):Sb N s.start:=by
 unfold Sr.start;split
 ·exact b.anew
 ·exact b
def Bl(s:Sr):Prop:=s.base<=s.ps.length
theorem Bl.hand(b:Bl s)(x:Msg):Bl (s.hand x):=by
 unfold Bl Sr.hand at *;dsimp only;split
 ·exact b
 ·rw[List.length_append];omega
theorem Bl.anew:Bl s.anew:=Nat.zero_le _
theorem Bl.start(b:Bl s):Bl s.start:=by
 unfold Sr.start;split
 ·exact Bl.anew
 ·exact b
theorem Bl.hears(hw:0<s.w)(b:Bl s)(c:Card):Bl (s.hears c):=by
 cases c with
 |hello o=>exact b
 |data o i x=>exact b
 |welcome o=>
  unfold Sr.hears;dsimp only;split<;>exact b
 |who o=>
  unfold Sr.hears;dsimp only;split
  ·exact Bl.anew
  ·exact b
 |note o i bs=>
  unfold Sr.hears;dsimp only;split
  ·unfold Sr.hearsNote;split
   ·rename_i h;obtain⟨h1,h2,h3,h4,h5,h6,h7,h8,h9⟩:=dq bs (s.moveB (cY i s.base s.w).toNat) 0;unfold Bl;rw[h7,h8];have:=oR i s.base hw;show(cY i s.base s.w).toNat<=s.ps.length;omega
   ·exact b
  ·exact b
theorem yk(s:Sr)(c:Card):(s.hears c).w=s.w:=by
 cases c with
 |hello o=>rfl
 |data o i x=>rfl
 |welcome o=>unfold Sr.hears;dsimp only;split<;>rfl
 |who o=>unfold Sr.hears;dsimp only;split<;>rfl
 |note o i bs=>
  unfold Sr.hears;dsimp only;split
  ·unfold Sr.hearsNote;split
   ·exact(dq bs (s.moveB (cY i s.base s.w).toNat) 0).1
   ·rfl
  ·rfl
theorem eD{f:Str}{C:Addr}{ns:List Str}{ds:List D}{d:D}{fo fe:DSt->M D}{r:DSt}(h1:fe r S=.ok d S1)(h2:fo r S1=.ok (.ob n) S1)(h3:S1[n]?=some (.ins C ns ds)):∃S2,cL C ns f fo fe r S=some (.nx r,S2)/\Ch n (.ins C (ns++[f]) (ds++[d])) S1 S2:=
 ⟨_,jH h1 h2 h3,Ch.set h3⟩
theorem AW(w most:Nat)(S:List Cell):∃S' m p q,gO G.Sender (bY G) [.int (w:Int),.int (most:Int)] S=.ok (.ob S.length) S'/\SrAt G S' S.length m p q (Sr.new w most)/\Fr [] S S'/\S.length<=m/\S.length<=p/\S.length<=q:=by
 obtain⟨n,hn⟩:∃n,n=S.length:=⟨_,rfl⟩;have s0:(S++[Cell.ins G.Sender [] []])[n]?=some (.ins G.Sender [] []):=aS hn;obtain⟨r,hr⟩:∃r:DSt,r=[some (.ob n),some (.int (w:Int)),some (.int (most:Int))]:=⟨_,rfl⟩;have v0:∀S,aa 0 r S=.ok (.ob n) S:=fun S=>by rw[hr];rfl
 have v1:∀S,aa 1 r S=.ok (.int (w:Int)) S:=fun S=>by rw[hr];rfl
 have v2:∀S,aa 2 r S=.ok (.int (most:Int)) S:=fun S=>by rw[hr];rfl
 obtain⟨T1,e1,c1⟩:=eD (f:="window") (fo:=aa 0) (fe:=aa 1) (v1 _) (v0 _) s0;obtain⟨T2,e2,c2⟩:=eD (f:="most") (fo:=aa 0) (fe:=aa 2) (v2 _) (v0 _) c1.at_;obtain⟨T3,e3,c3⟩:=eD (f:="messages") (fo:=aa 0) (fe:=bW aj) (r:=r) (b9 ai (by decide)) (v0 _) (aG (G:=[.lst []]) c2.at_);obtain⟨T4,e4,c4⟩:=eD (f:="sure") (fo:=aa 0) (fe:=dC (.int 0)) (r:=r) rfl (v0 _) c3.at_;obtain⟨T5,e5,c5⟩:=eD (f:="opening") (fo:=aa 0) (fe:=dC (.int 0)) (r:=r) rfl (v0 _) c4.at_;obtain⟨T6,e6,c6⟩:=eD (f:="state") (fo:=aa 0) (fe:=dC (.str "shut")) (r:=r) rfl (v0 _) c5.at_;obtain⟨T7,e7,c7⟩:=eD (f:="pieces") (fo:=aa 0) (fe:=bW aj) (r:=r) (b9 ai (by decide)) (v0 _) (aG (G:=[.lst []]) c6.at_);obtain⟨T8,e8,c8⟩:=eD (f:="base") (fo:=aa 0) (fe:=dC (.int 0)) (r:=r) rfl (v0 _) c7.at_;obtain⟨T9,e9,c9⟩:=eD (f:="noted") (fo:=aa 0) (fe:=j0) (r:=r) rfl (v0 _) (aG (G:=[.dic []]) c8.at_);have l1:=c1.len;have l2:=c2.len;have l3:=c3.len;have l4:=c4.len;have l5:=c5.len;have l6:=c6.len;have l7:=c7.len;have l8:=c8.len;have l9:=c9.len;rw[List.length_append,List.length_singleton] at l1 l3 l7 l9;have m3:T3[T2.length]?=some (.lst []):=c3.old (aS rfl) (by omega);have m6:T6[T2.length]?=some (.lst []):=c6.old (c5.old (c4.old m3 (by omega)) (by omega)) (by omega);have m7:T7[T2.length]?=some (.lst []):=c7.old (aG m6) (by omega);have p7:T7[T6.length]?=some (.lst []):=c7.old (aS rfl) (by omega);have m9:T9[T2.length]?=some (.lst []):=c9.old (aG (c8.old m7 (by omega))) (by omega);have p9:T9[T6.length]?=some (.lst []):=c9.old (aG (c8.old p7 (by omega))) (by omega);have q9:T9[T8.length]?=some (.dic []):=c9.old (aS rfl) (by omega);refine⟨T9,T2.length,T6.length,T8.length,?_,?_,?_,by omega,by omega,by omega⟩
 ·unfold gO;rw[<-hn];have:bY G [.ob n,.int (w:Int),.int (most:Int)] (S++[.ins G.Sender [] []])=.ok .non T9:=by
   show fin _ (du G [some (.ob n),some (.int (w:Int)),some (.int (most:Int))] _)=_;rw[<-hr];simp only[List.nil_append,List.cons_append] at e2 e3 e4 e5 e6 e7 e8;unfold du;rw[av e1,av e2,av e3,av e4,av e5,av e6,av e7,av e8];rw[show cL G.Sender ["window","most","messages","sure","opening","state","pieces","base"] "noted" (aa 0) j0 r T8=some (.nx r,T9) from e9];rfl
  rw[this]
 ·rw[<-hn];exact⟨c9.at_,m9,p9,q9,by omega⟩
 ·have f:Fr [n] S T9:=((((((((((Fr.push.tr c1.fr).tr c2.fr).tr Fr.push).tr c3.fr).tr c4.fr).tr c5.fr).tr c6.fr).tr Fr.push).tr c7.fr).tr c8.fr).tr (Fr.push.tr c9.fr);exact f.mono fun i hi hs=>by
   have:i=n:=by simpa using hi
   omega
end
end Lw
namespace Lw
open PySem L2 DL
def gvD(g:Nat×Msg):D:=.tup [.int (g.1:Int),.tup (g.2.map D.int)]
def kvD(e:List (Nat×Pc)):List (Key×D):=e.map fun q=>(Sum.inl (q.1:Int),pcD q.2)
theorem pX(e:List (Nat×Pc))(k:Nat):gZ (kvD e) (.inl (k:Int))=(e.lookup k).map pcD:=by
 induction e with
 |nil=>rfl
 |cons a r ih=>
  obtain⟨a1,a2⟩:=a;rw[List.lookup_cons];unfold kvD at ih ⊢;rw[List.map_cons];unfold gZ at ih ⊢;rw[List.find?_cons];by_cases h:k=a1
  ·subst h;simp
  ·have h1:(k == a1)=false:=beq_eq_false_iff_ne.mpr h;have h2:decide ((Sum.inl (a1:Int):Key)=Sum.inl (k:Int))=false:=decide_eq_false fun z=>h (by injection z with z;omega)
   simp only[h2,h1];exact ih
theorem B7(e:List (Nat×Pc))(k:Nat):((kvD e).any fun kv=>decide (kv.1=(Sum.inl (k:Int):Key)))=(e.lookup k).isSome:=by
 induction e with
 |nil=>rfl
 |cons a r ih=>
  obtain⟨a1,a2⟩:=a;rw[List.lookup_cons];unfold kvD at ih ⊢;rw[List.map_cons,List.any_cons];by_cases h:k=a1
  ·subst h;simp
  ·have h1:(k == a1)=false:=beq_eq_false_iff_ne.mpr h;have h2:decide ((Sum.inl (a1:Int):Key)=Sum.inl (k:Int))=false:=decide_eq_false fun z=>h (by injection z with z;omega)
   simp only[h2,h1,Bool.false_or];exact ih
theorem BE{e:List (Nat×Pc)}{k:Nat}(p:Pc)(h:e.lookup k=none):qE (kvD e) (.inl (k:Int)) (pcD p)=kvD (e++[(k,p)]):=by
 unfold qE;rw[B7,h];simp[kvD]
theorem Ap(e:List (Nat×Pc))(k:Nat):uO (kvD e) (.inl (k:Int))=kvD (e.filter fun q=>decide (q.1≠k)):=by
 induction e with
 |nil=>rfl
 |cons a r ih=>
  obtain⟨a1,a2⟩:=a;unfold uO kvD at ih ⊢;rw[List.map_cons,List.filter_cons,List.filter_cons];by_cases h:a1=k
  ·subst h;simpa using ih
  ·have h2:decide ((Sum.inl (a1:Int):Key)≠Sum.inl (k:Int))=true:=decide_eq_true fun z=>h (by injection z with z;omega)
   have h3:decide (a1≠k)=true:=decide_eq_true h;simp only[h2,h3,if_true,List.map_cons];rw[ih]
theorem BG(e:List (Nat×Pc)):(kvD e).length=e.length:=by simp[kvD]
structure HrAt(G:Cs)(S:List Cell)(n g e b:Nat)(h:Hr):Prop where
 ob:S[n]?=some (.ins G.Hearer ns_Hearer [.int (h.w:Int),.ob g,.int (h.op:Int),.int (h.nx:Int),.ob e,.ob b])
 gv:S[g]?=some (.lst (h.given.map gvD))
 ea:S[e]?=some (.dic (kvD h.early))
 be:S[b]?=some (.lst (h.begun.map pcD))
 gb:g≠b
section
variable{G:Cs}{S:List Cell}{n g e b:Nat}{h:Hr}
theorem HrAt.ng(a:HrAt G S n g e b h):n≠g:=dA a.ob a.gv (by intro z;cases z)
theorem HrAt.ne(a:HrAt G S n g e b h):n≠e:=dA a.ob a.ea (by intro z;cases z)
theorem HrAt.nb(a:HrAt G S n g e b h):n≠b:=dA a.ob a.be (by intro z;cases z)
theorem HrAt.ge(a:HrAt G S n g e b h):g≠e:=dA a.gv a.ea (by intro z;cases z)
theorem HrAt.eb(a:HrAt G S n g e b h):e≠b:=dA a.ea a.be (by intro z;cases z)
theorem HrAt.fr{S':List Cell}{fp:List Nat}(a:HrAt G S n g e b h)(f:Fr fp S S')(h1:n∉fp)(h2:g∉fp)(h3:e∉fp)(h4:b∉fp):HrAt G S' n g e b h:=⟨f.get a.ob h1,f.get a.gv h2,f.get a.ea h3,f.get a.be h4,a.gb⟩
theorem HrAt.push(a:HrAt G S n g e b h)(c:List Cell):HrAt G (S++c) n g e b h:=⟨aG a.ob,aG a.gv,aG a.ea,aG a.be,a.gb⟩
theorem yx(a:HrAt G S n g e b h)(o:Nat):∃S' e' b',cK G [.ob n,.int (o:Int)] S=.ok .non S'/\HrAt G S' n g e' b' (h.begin_ o)/\Fr [n] S S'/\S.length<=e'/\S.length<=b':=by
 have hn:=bx a.ob;have hg:=bx a.gv;have ng:=a.ng;obtain⟨S1,q1,c1⟩:=gA (fo:=aa 0) (fe:=aa 1) (r:=[some (.ob n),some (.int (o:Int))]) (i:=2) rfl rfl a.ob rfl;obtain⟨S2,q2,c2⟩:=gA (fo:=aa 0) (fe:=dC (.int 0)) (r:=[some (.ob n),some (.int (o:Int))]) (i:=3) rfl rfl c1.at_ rfl;obtain⟨S3,q3,c3⟩:=gA (fo:=aa 0) (fe:=j0) (r:=[some (.ob n),some (.int (o:Int))]) (i:=4) rfl rfl (aG (G:=[.dic []]) c2.at_) rfl;obtain⟨S4,q4,c4⟩:=gA (fo:=aa 0) (fe:=bW aj) (r:=[some (.ob n),some (.int (o:Int))]) (i:=5) (b9 ai (by decide)) rfl (aG (G:=[.lst []]) c3.at_) rfl;have l1:=c1.len;have l2:=c2.len;have l3:=c3.len;have l4:=c4.len;rw[List.length_append,List.length_singleton] at l3 l4;refine⟨S4,S2.length,S3.length,?_,⟨c4.at_,c4.old (aG (c3.old (aG (c2.old (c1.old a.gv ng) ng)) ng)) ng,c4.old (aG (c3.old (aS rfl) (by omega))) (by omega),c4.old (aS rfl) (by omega),by omega⟩,?_,by omega,by omega⟩
 ·show fin S (gI G [some (.ob n),some (.int (o:Int))] S)=_;unfold gI;rw[av q1,av q2,av q3,q4];rfl
 ·exact((((c1.fr.tr c2.fr).tr Fr.push).tr c3.fr).tr Fr.push).tr c4.fr
end
end Lw
namespace Lw
open PySem L2 DL
section
variable{G:Cs}{S S' S1 S2:List Cell}{n g e b e' b' e1 b1 e2 b2:Nat}{h h' h1 h2:Hr}
structure HrTo(G:Cs)(n g e b:Nat)(S:List Cell)(e' b':Nat)(S':List Cell)(h':Hr):Prop where
 at_:HrAt G S' n g e' b' h'
 fr:Fr [n,g,e,b] S S'
 e_:e'=e\/S.length<=e'
 b_:b'=b\/S.length<=b'
theorem HrTo.trans(a:HrTo G n g e b S e1 b1 S1 h1)(c:HrTo G n g e1 b1 S1 e2 b2 S2 h2):HrTo G n g e b S e2 b2 S2 h2:=by
 have hl:=a.fr.1;refine⟨c.at_,a.fr.trans c.fr fun i hi hs=>?_,?_,?_⟩
 ·simp only[List.mem_cons,List.not_mem_nil,or_false] at hi ⊢;have he:=a.e_;have hb:=a.b_;omega
 ·have:=a.e_;have:=c.e_;omega
 ·have:=a.b_;have:=c.b_;omega
theorem HrTo.refl(a:HrAt G S n g e b h):HrTo G n g e b S e b S h:=⟨a,Fr.refl _ _,.inl rfl,.inl rfl⟩
theorem HrTo.push(a:HrTo G n g e b S e' b' S' h')(c:List Cell):HrTo G n g e b S e' b' (S'++c) h':=⟨a.at_.push c,a.fr.tr Fr.push,a.e_,a.b_⟩
theorem rP(a:HrAt G S n g e b h)(o:Nat):∃S' e' b',cK G [.ob n,.int (o:Int)] S=.ok .non S'/\HrTo G n g e b S e' b' S' (h.begin_ o):=by
 obtain⟨S',e',b',q,c,f,h1,h2⟩:=yx a o;exact⟨S',e',b',q,⟨c,f.mono (fun i hi _=>by simp at hi;simp[hi]),.inr h1,.inr h2⟩⟩
theorem q8(a:HrAt G S n g e b h)(r:DSt):aB G.Hearer ns_Hearer 2 (aa 0) (some (.ob n) :: r) S=.ok (.int (h.op:Int)) S:=bK rfl a.ob rfl
theorem rX(a:HrAt G S n g e b h)(r:DSt):aB G.Hearer ns_Hearer 3 (aa 0) (some (.ob n) :: r) S=.ok (.int (h.nx:Int)) S:=bK rfl a.ob rfl
theorem yK(a:HrAt G S n g e b h)(r:DSt):aB G.Hearer ns_Hearer 0 (aa 0) (some (.ob n) :: r) S=.ok (.int (h.w:Int)) S:=bK rfl a.ob rfl
theorem um(a:HrAt G S n g e b h)(r:DSt):aB G.Hearer ns_Hearer 4 (aa 0) (some (.ob n) :: r) S=.ok (.ob e) S:=bK rfl a.ob rfl
theorem A6(a:HrAt G S n g e b h)(r:DSt):aB G.Hearer ns_Hearer 5 (aa 0) (some (.ob n) :: r) S=.ok (.ob b) S:=bK rfl a.ob rfl
theorem CC(a:HrAt G S n g e b h)(r:DSt):aB G.Hearer ns_Hearer 1 (aa 0) (some (.ob n) :: r) S=.ok (.ob g) S:=bK rfl a.ob rfl
structure Out(S:List Cell)(l:Nat)(S':List Cell)(cs:List Card):Prop where
 at_:S'[l]?=some (.lst (cs.map cardD))
 new:S.length<=l
theorem y6(a:HrAt G S n g e b h)(o:Nat):∃S' e' b' l,cu G [.ob n,.int (o:Int)] S=.ok (.ob l) S'/\HrTo G n g e b S e' b' S' (h.hears (.hello o)).1/\Out S l S' (h.hears (.hello o)).2:=by
 show ∃S' e' b' l,fin S (dJ G [some (.ob n),some (.int (o:Int))] S)=_/\_;unfold dJ;have t1:ao (dOp ltD (aa 1) (aB G.Hearer ns_Hearer 2 (aa 0))) [some (.ob n),some (.int (o:Int))] S=.ok (decide (o<h.op)) S:=by
  refine az (au rfl (q8 a _) ?_);rw[qA];congr 2;rw[decide_eq_decide];omega
 have t2:ao (dOp gtD (aa 1) (aB G.Hearer ns_Hearer 2 (aa 0))) [some (.ob n),some (.int (o:Int))] S=.ok (decide (h.op<o)) S:=by
  refine az (au rfl (q8 a _) ?_);rw[Cg];congr 2;rw[decide_eq_decide];omega
 have wl:∀S0,bM (bW (ac (cf (ac (dC (.str "welcome")) (ac (aa 1) aj))) aj)) [some (.ob n),some (.int (o:Int))] S0=some (.rt (.ob S0.length),S0++[.lst [cardD (.welcome o)]]):=fun S0=>
  aR (b9 (ag (bL (ag rfl (ag rfl ai)) (by simp)) ai) (by simp))
 by_cases c1:o<h.op
 ·have e1:h.hears (.hello o)=(h,[]):=by simp[Hr.hears,c1]
  rw[decide_eq_true c1] at t1;rw[cZ (by rw[bf t1];exact aR (b9 ai (by decide))),e1];exact⟨_,e,b,_,rfl,(HrTo.refl a).push _,⟨aS rfl,Nat.le_refl _⟩⟩
 ·rw[decide_eq_false c1] at t1;rw[av (by rw[ay t1];rfl)];by_cases c2:h.op<o
  ·have e1:h.hears (.hello o)=(h.begin_ o,[.welcome o]):=by simp[Hr.hears,c1,c2]
   rw[decide_eq_true c2] at t2;obtain⟨S1,e1',b1',q,c⟩:=rP a o;rw[av (by rw[bf t2];exact aY (aK rfl a.ob (ag rfl ai) q)),wl,e1];exact⟨_,e1',b1',_,rfl,c.push _,⟨aS rfl,c.fr.1⟩⟩
  ·have e1:h.hears (.hello o)=(h,[.welcome o]):=by simp[Hr.hears,c1,c2]
   rw[decide_eq_false c2] at t2;rw[av (by rw[ay t2];rfl),wl,e1];exact⟨_,e,b,_,rfl,(HrTo.refl a).push _,⟨aS rfl,Nat.le_refl _⟩⟩
theorem yz(m w:Nat)(S:List Cell):b8 [.int (m:Int),.int (w:Int)] S=.ok (.bl (decide (m<2 * w))) S:=by
 have h1:(0:Int)<=(m:Int):=by omega
 have h2:decide ((m:Int)<2 * (w:Int))=decide (m<2 * w):=by rw[decide_eq_decide];omega
 simp[b8,jd,h1,h2]
theorem zg{m:Int}{low:Int}{w:Nat}(hw:0<w)(S:List Cell):cr [.int m,.int low,.int (w:Int)] S=.ok (.int (cY m low w)) S:=by
 have h1:(0:Int)<2 * (w:Int):=by omega
 simp[cr,jc,cH h1,cY]
theorem AY(a:HrAt G S n g e b h)(hw:0<h.w)(num:Nat)(p:Pc)(hz:h.early.length<1000000):∃S',fX G [.ob n,.int (num:Int),pcD p] S=.ok .non S'/\HrTo G n g e b S e b S' (h.keep num p):=by
 show ∃S',fin S (iM G [some (.ob n),some (.int (num:Int)),some (pcD p),none] S)=_/\_;unfold iM;have t1:bU (am b8 (ac (aa 1) (ac (aB G.Hearer ns_Hearer 0 (aa 0)) aj))) [some (.ob n),some (.int (num:Int)),some (pcD p),none] S=.ok (decide (num<2 * h.w)) S:=by
  rw[dc,aw,ax (ag rfl (ag (yK a _) ai)) (yz num h.w S)];rfl
 by_cases c1:num<2 * h.w
 ·rw[decide_eq_true c1] at t1;have t2:am cr (ac (aa 1) (ac (dOp qx (aB G.Hearer ns_Hearer 3 (aa 0)) (aB G.Hearer ns_Hearer 0 (aa 0))) (ac (aB G.Hearer ns_Hearer 0 (aa 0)) aj))) [some (.ob n),some (.int (num:Int)),some (pcD p),none] S=.ok (.int (h.idx num)) S:=
   ax (ag rfl (ag (au (rX a _) (yK a _) (rY _ _)) (ag (yK a _) ai))) (zg hw S)
  rw[bf t1,av (bD t2)];show ∃S',fin S (sIf _ _ _ [some (.ob n),some (.int (num:Int)),some (pcD p),some (.int (h.idx num))] S)=_/\_;have t3:ao (dOp geD (aa 3) (aB G.Hearer ns_Hearer 3 (aa 0))) [some (.ob n),some (.int (num:Int)),some (pcD p),some (.int (h.idx num))] S=.ok (decide ((h.nx:Int)<=h.idx num)) S:=
   az (au rfl (rX a _) (vY _ _))
  by_cases c2:(h.nx:Int)<=h.idx num
  ·obtain⟨k,hk⟩:∃k:Nat,h.idx num=(k:Int):=⟨(h.idx num).toNat,by omega⟩;have t4:ao (dOp fA (aa 3) (aB G.Hearer ns_Hearer 4 (aa 0))) [some (.ob n),some (.int (num:Int)),some (pcD p),some (.int (h.idx num))] S=.ok (!(h.early.lookup k).isSome) S:=by
    refine az (au rfl (um a _) ?_);rw[hk];simp only[fA,hZ,eS a.ea,pX,Option.isSome_map]
   by_cases c3:h.early.lookup k=none
   ·have e1:h.keep num p = { h with early:=h.early++[(k,p)] }:=by
     unfold Hr.keep;rw[if_pos ⟨c1,c2,by rw[hk];exact c3⟩,hk];rfl
    have tt:dr (ao (dOp geD (aa 3) (aB G.Hearer ns_Hearer 3 (aa 0)))) (ao (dOp fA (aa 3) (aB G.Hearer ns_Hearer 4 (aa 0)))) [some (.ob n),some (.int (num:Int)),some (pcD p),some (.int (h.idx num))] S=.ok true S:=by
     rw[cX,aw,t3,decide_eq_true c2];show ao _ _ S=_;rw[t4,c3];rfl
    rw[bf tt,tC (d:=pcD p) rfl (um a _) (y:=.int (h.idx num)) rfl (S4:=S.set e (.dic (kvD (h.early++[(k,p)])))) (by
     rw[hk];simp only[qi,hZ,eS a.ea,BE p c3];exact cq (szM (by rw[BG];omega)))]
    refine⟨_,rfl,?_⟩;rw[e1];exact⟨⟨cG a.ob a.ne.symm,cG a.gv a.ge.symm,dB a.ea,cG a.be a.eb,a.gb⟩,Fr.set (by simp),.inl rfl,.inl rfl⟩
   ·have e1:h.keep num p=h:=by
     unfold Hr.keep;exact if_neg fun q=>c3 (by have:=q.2.2;rw[hk] at this;exact this)
    have tt:dr (ao (dOp geD (aa 3) (aB G.Hearer ns_Hearer 3 (aa 0)))) (ao (dOp fA (aa 3) (aB G.Hearer ns_Hearer 4 (aa 0)))) [some (.ob n),some (.int (num:Int)),some (pcD p),some (.int (h.idx num))] S=.ok false S:=by
     rw[cX,aw,t3,decide_eq_true c2];show ao _ _ S=_;rw[t4];cases q:h.early.lookup k with
     |none=>exact absurd q c3
     |some _=>rfl
    rw[ay tt,e1];exact⟨_,rfl,HrTo.refl a⟩
  ·have e1:h.keep num p=h:=by
    unfold Hr.keep;exact if_neg fun q=>c2 q.2.1
   have tt:dr (ao (dOp geD (aa 3) (aB G.Hearer ns_Hearer 3 (aa 0)))) (ao (dOp fA (aa 3) (aB G.Hearer ns_Hearer 4 (aa 0)))) [some (.ob n),some (.int (num:Int)),some (pcD p),some (.int (h.idx num))] S=.ok false S:=by
    rw[cX,aw,t3,decide_eq_false c2];rfl
   rw[ay tt,e1];exact⟨_,rfl,HrTo.refl a⟩
 ·rw[decide_eq_false c1] at t1;have e1:h.keep num p=h:=by
   unfold Hr.keep;exact if_neg fun q=>c1 q.1
  rw[ay t1,e1];exact⟨_,rfl,HrTo.refl a⟩
end
end Lw
namespace Lw
open PySem L2 DL
section
variable{G:Cs}{S S' S1 S2:List Cell}{n g e b e' b' e1 b1 e2 b2:Nat}{h h' h1 h2:Hr}
theorem Al(a:HrAt G S n g e b h):∃S' e' b',gc G [.ob n] S=.ok .non S'/\HrTo G n g e b S e' b' S' h.fall:=by
 obtain⟨S',e',b',q,c⟩:=rP a 0;refine⟨S',e',b',?_,c⟩;show fin S (im G [some (.ob n)] S)=_;unfold im;rw[aY (aK rfl a.ob rfl q)];rfl
end
end Lw
namespace Lw
open PySem L2 DL
section
variable{G:Cs}{S S' S1 S2:List Cell}{n g e b e' b' e1 b1 e2 b2:Nat}{h h' h1 h2:Hr}
theorem Bv(p:Pc)(S:List Cell):ixD (pcD p) (.int 0) S=.ok (.int p.1) S:=rfl
theorem Bu(p:Pc)(S:List Cell):ixD (pcD p) (.int 1) S=.ok (.tup (p.2.map D.int)) S:=rfl
theorem nK(ps:List Pc)(k:Nat):(bu (ps.take k)).length<=(bu ps).length:=by
 have:=kH (ps.take k) (ps.drop k);rw[List.take_append_drop] at this;rw[this,List.length_append];omega
theorem md{ps:List Pc}{k:Nat}{p:Pc}(h:ps[k]?=some p):bu (ps.take (k+1))=bu (ps.take k)++p.2:=by
 rw[List.take_add_one,h];simp[kH,bu]
theorem uZ{x:D}{ps:List Pc}{gd:Option (Nat×List D)}(hx:∀T,lr x (S++T)=.ok ⟨ps.map pcD,gd⟩ (S++T))(hg:gok gd S)(hz:(bu ps).length<=1000000):dY [x] S=.ok (.tup ((bu ps).map D.int)) S:=by
 show cN S (jg [some x,none,none] S)=_;unfold jg;rw[av (bD (b9 ai (by decide)))];show cN S (aJ _ _ [some x,some (.ob S.length),none] (S++[.lst []]))=_;have hw:dWk (aa 0) [some x,some (.ob S.length),none] (S++[.lst []])=.ok ⟨ps.map pcD,gd⟩ (S++[.lst []]):=by
  rw[nL,aw];exact hx _
 obtain⟨r',S',q,last,rfl,rfl⟩:=eN (g:=gd) (tg:=gN 2) (b:=bz (dBM qR (aa 1) (ac (dOp ixD (aa 2) (dC (.int 1))) aj)))
  (fun k r S'=>∃last,r=[some x,some (.ob S.length),last]/\S'=S++[.lst ((bu (ps.take k)).map D.int)]) (ps.map pcD) 0 [some x,some (.ob S.length),none] (S++[.lst []])
  (by
   rintro i y r S' hy ⟨last,rfl,rfl⟩;rw[List.getElem?_map] at hy;cases hp:ps[i]? with
   |none=>rw[hp] at hy;cases hy
   |some p=>
    rw[hp] at hy;cases hy;rw[Nat.zero_add];have hset:∀a c:Cell,(S++[a]).set S.length c=S++[c]:=fun a c=>by rw[List.set_append_right _ _ (Nat.le_refl _)];simp
    refine⟨[some x,some (.ob S.length),some (pcD p)],[some x,some (.ob S.length),some (pcD p)],S++[.lst ((bu (ps.take i)).map D.int++p.2.map D.int)],rfl,?_,?_,some (pcD p),rfl,?_⟩
    ·have hl:=nK ps (i+1);rw[md hp,List.length_append] at hl;have ee:=aY (r:=[some x,some (.ob S.length),some (pcD p)]) (fe:=dBM qR (aa 1) (ac (dOp ixD (aa 2) (dC (.int 1))) aj)) (ld (n:=S.length) (S:=S++[.lst ((bu (ps.take i)).map D.int)]) rfl (aS rfl) (ag (au rfl rfl (Bu p _)) ai)
      (A5 (xs:=(bu (ps.take i)).map D.int) (ys:=p.2.map D.int) (aS rfl) (by rw[List.length_map,List.length_map];omega)))
     rw[hset] at ee;exact ee
    ·cases gd with
     |none=>trivial
     |some q=>exact aG hg
    ·rw[md hp,List.map_append])
  ⟨none,rfl,by simp[bu]⟩
 rw[av (by rw[m0 hw];exact q),aR (ax (ag (x:=.ob S.length) rfl ai) (eG (aS rfl)))];rw[show 0+(ps.map pcD).length=ps.length by simp,List.take_length];exact kL (by unfold wfD;exact de _ _)
theorem vj{k:Nat}{ps:List Pc}(hk:S[k]?=some (.lst (ps.map pcD)))(hz:(bu ps).length<=1000000):dY [.ob k] S=.ok (.tup ((bu ps).map D.int)) S:=by
 refine uZ (gd:=some (k,ps.map pcD)) (fun T=>?_) hk hz;simp only[lr];rw[aG hk]
theorem Aa(a:HrAt G S n g e b h)(p:Pc)(z1:h.begun.length<1000000)(z2:h.given.length<1000000)(z3:(bu (h.begun++[p])).length<=1000000) :
  ∃S' b',gg G [.ob n,pcD p] S=.ok .non S'/\HrTo G n g e b S e b' S' (h.take p):=by
 show ∃S' b',fin S (ii G [some (.ob n),some (pcD p)] S)=_/\_;unfold ii;obtain⟨S1,q1,c1⟩:=tF (fo:=aB G.Hearer ns_Hearer 5 (aa 0)) (ft:=ac (aa 1) aj) (r:=[some (.ob n),some (pcD p)]) (A6 a _) a.be (ag rfl ai) (by simpa using z1);have a1:HrAt G S1 n g e b { h with begun:=h.begun++[p] }:=⟨c1.old a.ob a.nb.symm,c1.old a.gv a.gb.symm,c1.old a.ea a.eb.symm,by simpa using c1.at_,a.gb⟩;have f1:Fr [n,g,e,b] S S1:=c1.fp (by simp);rw[av (aY q1)];have t1:ao (dOp eqD (dOp ixD (aa 1) (dC (.int 0))) (dC (.int 1))) [some (.ob n),some (pcD p)] S1=.ok (decide (p.1=1)) S1:=az (au (au rfl rfl (Bv p _)) rfl (jB _ _));by_cases hl:p.1=1
 ·rw[decide_eq_true hl] at t1;have e1:h.take p = { h with given:=h.given++[(h.op,bu (h.begun++[p]))],begun:=[] }:=by unfold Hr.take;rw[if_pos hl]
  obtain⟨S2,q2,c2⟩:=tF (d:=gvD (h.op,bu (h.begun++[p]))) (fo:=aB G.Hearer ns_Hearer 1 (aa 0)) (ft:=ac (cf (ac (aB G.Hearer ns_Hearer 2 (aa 0)) (ac (am dY (ac (aB G.Hearer ns_Hearer 5 (aa 0)) aj)) aj))) aj)
   (r:=[some (.ob n),some (pcD p)]) (CC a1 _) a1.gv (ag (bL (ag (q8 a1 _) (ag (ax (ag (A6 a1 _) ai) (vj a1.be z3)) ai)) (by simp)) ai) (by simpa using z2)
  obtain⟨S3,q3,c3⟩:=gA (fo:=aa 0) (fe:=bW aj) (r:=[some (.ob n),some (pcD p)]) (i:=5) (b9 ai (by decide)) rfl (aG (G:=[.lst []]) (c2.old a1.ob a.ng.symm)) rfl;have l2:=c2.len;have hlt:=bx a1.ob;have hlg:=bx a1.gv;have hl1:=f1.1;have a3:HrAt G S3 n g e S2.length { h with given:=h.given++[(h.op,bu (h.begun++[p]))],begun:=[] }:=
   ⟨c3.at_,c3.old (aG (by simpa using c2.at_)) a.ng,c3.old (aG (c2.old a1.ea a.ge)) a.ne,c3.old (aS rfl) (by omega),by omega⟩
  refine⟨S3,S2.length,?_,?_⟩
  ·rw[bf t1,av (aY q2),q3];rfl
  ·rw[e1];exact⟨a3,((f1.tr (c2.fp (by simp))).tr Fr.push).tr (c3.fp (by simp)),.inl rfl,.inr (by omega)⟩
 ·rw[decide_eq_false hl] at t1;have e1:h.take p = { h with begun:=h.begun++[p] }:=by unfold Hr.take;rw[if_neg hl]
  refine⟨S1,b,?_,?_⟩
  ·rw[ay t1];rfl
  ·rw[e1];exact⟨a1,f1,.inl rfl,.inl rfl⟩
end
end Lw
namespace Lw
open PySem L2 DL
structure Bd(N:Nat)(h:Hr):Prop where
 cnt:h.given.length+h.begun.length+h.early.length<=N
 bp:∀p,p∈h.begun->p.2.length<=40
 ep:∀q,q∈h.early->q.2.2.length<=40
theorem o0:∀{ps:List Pc},(∀p,p∈ps->p.2.length<=40)->(bu ps).length<=40 * ps.length
 |[],_=>by simp[bu]
 |p :: ps,h=>by
  have h1:=h p (by simp);have h2:=o0 fun q hq=>h q (List.mem_cons_of_mem _ hq)
  have:bu (p :: ps)=p.2++bu ps:=by simp[bu]
  rw[this,List.length_append,List.length_cons];omega
theorem n3{l:List (Nat×Pc)}{k:Nat}{p:Pc}(h:l.lookup k=some p):(k,p)∈l:=by
 induction l with
 |nil=>simp at h
 |cons a r ih=>
  obtain⟨a1,a2⟩:=a;rw[List.lookup_cons] at h;cases e:k == a1 with
  |true=>
   rw[e] at h;simp at h;have:=beq_iff_eq.mp e;subst this h;simp
  |false=>
   rw[e] at h;exact List.mem_cons_of_mem _ (ih h)
section
variable{N:Nat}{h:Hr}
theorem Bd.mono{M:Nat}(b:Bd N h)(hm:N<=M):Bd M h:=⟨Nat.le_trans b.cnt hm,b.bp,b.ep⟩
theorem Bd.begin_(b:Bd N h)(o:Nat):Bd N (h.begin_ o):=⟨by have:=b.cnt;simp[Hr.begin_];omega,by simp[Hr.begin_],by simp[Hr.begin_]⟩
theorem Bd.keep(b:Bd N h)(num:Nat){p:Pc}(hp:p.2.length<=40):Bd (N+1) (h.keep num p):=by
 unfold Hr.keep;split
 ·refine⟨?_,b.bp,fun q hq=>?_⟩
  ·have:=b.cnt;show h.given.length+h.begun.length+(h.early++_).length<=_;rw[List.length_append,List.length_singleton];omega
  ·rcases List.mem_append.mp hq with hq|hq
   ·exact b.ep q hq
   ·rw[List.mem_singleton.mp hq];exact hp
 ·exact b.mono (Nat.le_succ _)
theorem Bd.one(b:Bd N h){p:Pc}(hp:h.early.lookup h.nx=some p):Bd N (h.pop.take p)/\(h.pop.take p).early.length<h.early.length:=by
 have hm:=n3 hp;have hlt:(h.early.filter fun e=>decide (e.1≠h.nx)).length<h.early.length:=List.length_filter_lt_length_iff_exists.mpr ⟨_,hm,by simp⟩;have hc:=b.cnt;have h40:=b.ep _ hm;unfold Hr.take Hr.pop;split
 ·refine⟨⟨?_,by simp,fun q hq=>b.ep q (List.mem_filter.mp hq).1⟩,hlt⟩;show(h.given++[_]).length+0+(h.early.filter _).length<=N;rw[List.length_append,List.length_singleton];omega
 ·refine⟨⟨?_,fun q hq=>?_,fun q hq=>b.ep q (List.mem_filter.mp hq).1⟩,hlt⟩
  ·show h.given.length+(h.begun++[p]).length+(h.early.filter _).length<=N;rw[List.length_append,List.length_singleton];omega
  ·rcases List.mem_append.mp hq with hq|hq
   ·exact b.bp q hq
   ·rw[List.mem_singleton.mp hq];exact h40
theorem Bd.takeAll:∀{k:Nat}{h:Hr},Bd N h->Bd N (Hr.takeAll k h)
 |0,_,b=>b
 |k+1,h,b=>by
  unfold Hr.takeAll;cases e:h.early.lookup h.nx with
  |none=>exact b
  |some p=>exact Bd.takeAll (b.one e).1
end
section
variable{G:Cs}{S S' S1 S2:List Cell}{n g e b e' b' e1 b1 e2 b2:Nat}{h h' h1 h2:Hr}{N:Nat}
theorem v6(hN:N<=20000):∀(k fuel:Nat) (S:List Cell) (b:Nat) (h:Hr) (x1:Option D),HrAt G S n g e b h->h.early.length<=k->k<fuel->Bd N h->
  ∃S' b' x1',ck G fuel [some (.ob n),x1] S=some (.nx [some (.ob n),x1'],S')/\HrTo G n g e b S e b' S' (Hr.takeAll k h):=by
 intro k
 induction k with
 |zero=>
  intro fuel S b h x1 a hk hf _;obtain⟨f,rfl⟩:∃f,fuel=f+1:=⟨fuel-1,by omega⟩;have he:h.early=[]:=List.length_eq_zero_iff.mp (by omega);have t1:ao (dOp qr (aB G.Hearer ns_Hearer 3 (aa 0)) (aB G.Hearer ns_Hearer 4 (aa 0))) [some (.ob n),x1] S=.ok false S:=by
   refine az (au (rX a _) (um a _) ?_);simp only[qr,hZ,eS a.ea,pX,Option.isSome_map,he];rfl
  refine⟨S,b,x1,?_,HrTo.refl a⟩;unfold ck;exact Bi t1
 |succ k ih=>
  intro fuel S b h x1 a hk hf hb;obtain⟨f,rfl⟩:∃f,fuel=f+1:=⟨fuel-1,by omega⟩;have t1:ao (dOp qr (aB G.Hearer ns_Hearer 3 (aa 0)) (aB G.Hearer ns_Hearer 4 (aa 0))) [some (.ob n),x1] S=.ok (h.early.lookup h.nx).isSome S:=by
   refine az (au (rX a _) (um a _) ?_);simp only[qr,hZ,eS a.ea,pX,Option.isSome_map]
  cases hp:h.early.lookup h.nx with
  |none=>
   rw[hp] at t1;refine⟨S,b,x1,?_,?_⟩
   ·unfold ck;exact Bi t1
   ·unfold Hr.takeAll;rw[hp];exact HrTo.refl a
  |some p=>
   rw[hp] at t1;obtain⟨hb',hlt⟩:=hb.one hp;have hm:=n3 hp;have p40:=hb.ep _ hm;have hc:=hb.cnt;have q1:xO uJ (aB G.Hearer ns_Hearer 4 (aa 0)) (ac (aB G.Hearer ns_Hearer 3 (aa 0)) aj) [some (.ob n),x1] S=.ok (pcD p) (S.set e (.dic (kvD (h.early.filter fun q=>decide (q.1≠h.nx))))):=by
    refine B6 (um a _) a.ea (ag (rX a _) ai) ?_;simp only[uJ,hZ,eS a.ea,pX,hp,Option.map_some,Ap]
   have a1:HrAt G (S.set e (.dic (kvD (h.early.filter fun q=>decide (q.1≠h.nx))))) n g e b { h with early:=h.early.filter fun q=>decide (q.1≠h.nx) }:=
    ⟨cG a.ob a.ne.symm,cG a.gv a.ge.symm,dB a.ea,cG a.be a.eb,a.gb⟩
   obtain⟨S1,hS1⟩:∃S1,S.set e (.dic (kvD (h.early.filter fun q=>decide (q.1≠h.nx))))=S1:=⟨_,rfl⟩;have f1:Fr [n,g,e,b] S S1:=by rw[<-hS1];exact Fr.set (by simp)
   rw[hS1] at q1 a1;obtain⟨S2,q2,c2⟩:=wo (fo:=aa 0) (fe:=dC (.int 1)) (r:=[some (.ob n),some (pcD p)]) (i:=3) rfl a1.ob rfl rfl rfl;have a2:HrAt G S2 n g e b h.pop:=⟨c2.at_,c2.old a1.gv a.ng,c2.old a1.ea a.ne,c2.old a1.be a.nb,a.gb⟩;have f2:Fr [n,g,e,b] S1 S2:=c2.fp (by simp);obtain⟨S3,b3,q3,c3⟩:=Aa a2 p (by show h.begun.length<_;omega) (by show h.given.length<_;omega) (by
    have:=o0 (ps:=h.begun++[p]) fun q hq=>(List.mem_append.mp hq).elim (hb.bp q) fun z=>by rw[List.mem_singleton.mp z];exact p40
    rw[List.length_append,List.length_singleton] at this;show(bu (h.begun++[p])).length<=_;omega)
   obtain⟨S4,b4,x4,q4,c4⟩:=ih f S3 b3 _ (some (pcD p)) c3.at_ (by omega) (by omega) hb';refine⟨S4,b4,x4,?_,?_⟩
   ·unfold ck at q4 ⊢;rw[Ct t1 (r2:=[some (.ob n),some (pcD p)]) (S2:=S3) ?_]
    ·exact q4
    ·rw[av (bD q1)];show aJ _ _ [some (.ob n),some (pcD p)] S1=_;rw[av q2,aY (aK rfl a2.ob (ag rfl ai) q3)]
   ·have e1:Hr.takeAll (k+1) h=Hr.takeAll k (h.pop.take p):=by
     rw[Hr.takeAll,hp]
    rw[e1];exact(HrTo.trans ⟨a2,f1.tr f2,.inl rfl,.inl rfl⟩ c3).trans c4
theorem AJ(a:HrAt G S n g e b h)(hw:0<h.w)(hw7:h.w<=1000):∃S',fV G [.ob n] S=.ok (cardD h.note) S'/\HrTo G n g e b S e b S' h:=by
 show ∃S',fin S (iI G [some (.ob n),none] S)=_/\_;unfold iI;have q1:=iR (f:=rM (aB G.Hearer ns_Hearer 0 (aa 0))) (tg:=gN 0) (ti:=j6) (fe:=dIf (ao (dOp qr (dOp bP (aB G.Hearer ns_Hearer 3 (aa 1)) (aa 0)) (aB G.Hearer ns_Hearer 4 (aa 1)))) (dC (.int 1)) (dC (.int 0))) (own:=1) (caps:=[0])
  (r:=[some (.ob n),none]) (S:=S) (S1:=S) (w:=⟨hW 0 1 h.w,none⟩) (fun _=>true) (fun x=>match x with
   |.int k=>.int (if (h.early.lookup (h.nx+k.toNat)).isSome then 1 else 0)
   |_=>.non) (by
   show((aB G.Hearer ns_Hearer 0 (aa 0) [some (.ob n),none]).bind wc) S=_;rw[aw,yK a];exact wP (by omega)) trivial (by simp[hW];omega) (by
   intro x hx;simp only[hW,List.mem_map,List.mem_range] at hx;obtain⟨k,_,rfl⟩:=hx;refine⟨_,rfl,fun _=>rfl,fun _ zs=>?_⟩;have ap:=a.push [.lst zs];have g1:aB G.Hearer ns_Hearer 3 (aa 1) [some (.int (0+(k:Int) * 1)),some (.ob n)] (S++[.lst zs])=.ok (.int (h.nx:Int)) (S++[.lst zs]):=bK rfl ap.ob rfl;have g2:aB G.Hearer ns_Hearer 4 (aa 1) [some (.int (0+(k:Int) * 1)),some (.ob n)] (S++[.lst zs])=.ok (.ob e) (S++[.lst zs]):=bK rfl ap.ob rfl;have g3:ao (dOp qr (dOp bP (aB G.Hearer ns_Hearer 3 (aa 1)) (aa 0)) (aB G.Hearer ns_Hearer 4 (aa 1))) [some (.int (0+(k:Int) * 1)),some (.ob n)] (S++[.lst zs])=.ok (h.early.lookup (h.nx+k)).isSome (S++[.lst zs]):=by
    refine az (au (au g1 rfl (cy _ _)) g2 ?_);have:(h.nx:Int)+(0+(k:Int) * 1)=((h.nx+k:Nat):Int):=by omega
    rw[this];simp only[qr,hZ,eS ap.ea,pX,Option.isSome_map]
   show dIf _ _ _ [some (.int (0+(k:Int) * 1)),some (.ob n)] (S++[.lst zs])=_;rw[yJ,aw,g3];have hk:(0+(k:Int) * 1).toNat=k:=by omega
   dsimp only;rw[hk];cases(h.early.lookup (h.nx+k)).isSome<;>rfl)
 have hbits:((hW 0 1 h.w).filter fun _=>true).map (fun x=>match x with
   |.int k=>.int (if (h.early.lookup (h.nx+k.toNat)).isSome then 1 else 0)
   |_=>.non)=h.bits.map D.int:=by
  rw[List.filter_eq_self.mpr (by simp)];unfold hW Hr.bits;rw[List.map_map,List.map_map];refine List.map_congr_left fun k _=>?_
  have hk:(0+(k:Int) * 1).toNat=k:=by omega
  simp only[Function.comp_def,hk]
 rw[hbits] at q1;have ap:=a.push [.lst (h.bits.map D.int)];rw[av (bD (ax (ag q1 ai) (eG (aS rfl))))];show ∃S',fin S (bM _ [some (.ob n),some (.tup (h.bits.map D.int))] (S++[.lst (h.bits.map D.int)]))=_/\_;rw[aR (bL (ag rfl (ag (q8 ap _) (ag (ax (ag (rX ap _) (ag (yK ap _) ai)) (tZ hw _)) (ag rfl ai)))) (by simp))];exact⟨_,rfl,(HrTo.refl a).push _⟩
end
end Lw
namespace Lw
open PySem L2 DL
section
variable{G:Cs}{S S' S1 S2:List Cell}{n g e b e' b' e1 b1 e2 b2:Nat}{h h' h1 h2:Hr}{N:Nat}
theorem ix0(d:D)(xs:List D)(S:List Cell):ixD (.tup (d :: xs)) (.int 0) S=.ok d S:=ba (i:=0) rfl
def cOk:Card->Prop
 |.data _ _ p=>p.2.length<=40
 |_=>True
theorem Bd.hears{c:Card}(d:Bd N h)(hc:cOk c):Bd (N+1) (h.hears c).1:=by
 cases c with
 |hello o=>
  dsimp only[Hr.hears];split
  ·exact d.mono (Nat.le_succ _)
  ·split
   ·exact(d.begin_ o).mono (Nat.le_succ _)
   ·exact d.mono (Nat.le_succ _)
 |data o m p=>
  dsimp only[Hr.hears];split
  ·exact d.mono (Nat.le_succ _)
  ·split
   ·exact d.mono (Nat.le_succ _)
   ·exact Bd.takeAll (d.keep m hc)
 |welcome o=>exact d.mono (Nat.le_succ _)
 |who o=>exact d.mono (Nat.le_succ _)
 |note o j bs=>exact d.mono (Nat.le_succ _)
theorem Bj(h:Hr)(p:Pc):(h.take p).w=h.w:=by unfold Hr.take;split<;>rfl
theorem qX:∀(k:Nat) (h:Hr),(Hr.takeAll k h).w=h.w
 |0,_=>rfl
 |k+1,h=>by
  unfold Hr.takeAll;cases e:h.early.lookup h.nx with
  |none=>rfl
  |some p=>exact(qX k _).trans (Bj _ _)
theorem B4(h:Hr)(m:Nat)(p:Pc):(h.keep m p).w=h.w:=by unfold Hr.keep;split<;>rfl
theorem sM(h:Hr)(m:Nat)(p:Pc):(h.data m p).w=h.w:=(qX _ _).trans (B4 _ _ _)
theorem Ag(h:Hr)(c:Card):(h.hears c).1.w=h.w:=by
 cases c with
 |hello o=>
  dsimp only[Hr.hears];split
  ·rfl
  ·split<;>rfl
 |data o m p=>
  dsimp only[Hr.hears];split
  ·rfl
  ·split
   ·rfl
   ·exact sM h m p
 |_=>rfl
theorem zJ(a:HrAt G S n g e b h)(hw:0<h.w)(hw7:h.w<=1000)(d:Bd N h)(hN:N<20000)(o m:Nat)(p:Pc)(hp:p.2.length<=40) :
  ∃S' e' b' l,cC G [.ob n,.int (o:Int),.int (m:Int),pcD p] S=.ok (.ob l) S'/\HrTo G n g e b S e' b' S' (h.hears (.data o m p)).1/\Out S l S' (h.hears (.data o m p)).2:=by
 show ∃S' e' b' l,fin S (dO G [some (.ob n),some (.int (o:Int)),some (.int (m:Int)),some (pcD p)] S)=_/\_;unfold dO;have t1:ao (dOp ltD (aa 1) (aB G.Hearer ns_Hearer 2 (aa 0))) [some (.ob n),some (.int (o:Int)),some (.int (m:Int)),some (pcD p)] S=.ok (decide (o<h.op)) S:=by
  refine az (au rfl (q8 a _) ?_);rw[qA];congr 2;rw[decide_eq_decide];omega
 have t2:ao (dOp gtD (aa 1) (aB G.Hearer ns_Hearer 2 (aa 0))) [some (.ob n),some (.int (o:Int)),some (.int (m:Int)),some (pcD p)] S=.ok (decide (h.op<o)) S:=by
  refine az (au rfl (q8 a _) ?_);rw[Cg];congr 2;rw[decide_eq_decide];omega
 by_cases c1:o<h.op
 ·have e1:h.hears (.data o m p)=(h,[]):=by simp[Hr.hears,c1]
  rw[decide_eq_true c1] at t1;rw[cZ (by rw[bf t1];exact aR (b9 ai (by decide))),e1];exact⟨_,e,b,_,rfl,(HrTo.refl a).push _,⟨aS rfl,Nat.le_refl _⟩⟩
 ·rw[decide_eq_false c1] at t1;rw[av (by rw[ay t1];rfl)];by_cases c2:h.op<o
  ·have e1:h.hears (.data o m p)=(h,[.who o]):=by simp[Hr.hears,c1,c2]
   rw[decide_eq_true c2] at t2;rw[cZ (by rw[bf t2];exact aR (b9 (ag (bL (ag rfl (ag rfl ai)) (by simp)) ai) (by simp))),e1];exact⟨_,e,b,_,rfl,(HrTo.refl a).push _,⟨aS rfl,Nat.le_refl _⟩⟩
  ·have e1:h.hears (.data o m p)=(h.data m p,[(h.data m p).note]):=by simp[Hr.hears,c1,c2]
   rw[decide_eq_false c2] at t2;have hc:=d.cnt;have dk:=d.keep m hp;obtain⟨S1,q1,k1⟩:=AY a hw m p (by omega);obtain⟨S2,b2,x2,q2,k2⟩:=v6 (G:=G) (n:=n) (g:=g) (e:=e) (N:=N+1) (by omega) (h.keep m p).early.length 1000000 S1 b (h.keep m p) none k1.at_ (Nat.le_refl _) (by have:=dk.cnt;omega) dk;have q2':dM G [.ob n] S1=.ok .non S2:=by
    show fin S1 (ck G 1000000 [some (.ob n),none] S1)=_;rw[q2];rfl
   have k2':HrTo G n g e b S1 e b2 S2 (h.data m p):=k2;obtain⟨S3,q3,k3⟩:=AJ k2'.at_ (by rw[sM];exact hw) (by rw[sM];exact hw7);have k13:=(k1.trans k2').trans k3;rw[av (by rw[ay t2];rfl),av (aY (aK rfl a.ob (ag rfl (ag rfl ai)) q1)),av (aY (aK rfl k1.at_.ob ai q2')),aR (b9 (ag (aK rfl k2'.at_.ob ai q3) ai) (by simp)),e1];exact⟨_,e,b2,_,rfl,k13.push _,⟨aS rfl,k13.fr.1⟩⟩
theorem zt(a:HrAt G S n g e b h)(hw:0<h.w)(hw7:h.w<=1000)(d:Bd N h)(hN:N<20000){c:Card}(hc:cOk c) :
  ∃S' e' b' l,fm G [.ob n,cardD c] S=.ok (.ob l) S'/\HrTo G n g e b S e' b' S' (h.hears c).1/\Out S l S' (h.hears c).2:=by
 show ∃S' e' b' l,fin S (gB G [some (.ob n),some (cardD c)] S)=_/\_;unfold gB;have oth:∀{k:Str}{xs:List D},cardD c=.tup (.str k :: xs)->(∀S:List Cell,eqD (.str k) (.str "hello") S=.ok (.bl false) S)->(∀S:List Cell,eqD (.str k) (.str "data") S=.ok (.bl false) S)->h.hears c=(h,[])->
   ∃S' e' b' l,fin S (aJ (sIf (ao (dOp eqD (dOp ixD (aa 1) (dC (.int 0))) (dC (.str "hello")))) (bM (aP G.Hearer ns_Hearer (cu G) (aa 0) (ac (dOp ixD (aa 1) (dC (.int 1))) aj))) bF)
 (aJ (sIf (ao (dOp eqD (dOp ixD (aa 1) (dC (.int 0))) (dC (.str "data")))) (bM (aP G.Hearer ns_Hearer (cC G) (aa 0) (ac (dOp ixD (aa 1) (dC (.int 1))) (ac (dOp ixD (aa 1) (dC (.int 2))) (ac (dOp ixD (aa 1) (dC (.int 3))) aj))))) bF)
 (bM (bW aj))) [some (.ob n),some (cardD c)] S)=.ok (.ob l) S'/\HrTo G n g e b S e' b' S' (h.hears c).1/\Out S l S' (h.hears c).2:=by
  intro k xs hcd h1 h2 he;rw[hcd,av (by rw[ay (az (au (au rfl rfl (ix0 _ _ _)) rfl (h1 _)))];rfl),av (by rw[ay (az (au (au rfl rfl (ix0 _ _ _)) rfl (h2 _)))];rfl),aR (b9 ai (by decide)),he];exact⟨_,e,b,_,rfl,(HrTo.refl a).push _,⟨aS rfl,Nat.le_refl _⟩⟩
 cases c with
 |hello o=>
  obtain⟨S',e',b',l,q,k1,k2⟩:=y6 a o;rw[cZ (by rw[bf (az (au (au rfl rfl rfl) rfl bj))];exact aR (aK rfl a.ob (ag (au rfl rfl rfl) ai) q))];exact⟨S',e',b',l,rfl,k1,k2⟩
 |data o m p=>
  obtain⟨S',e',b',l,q,k1,k2⟩:=zJ a hw hw7 d hN o m p hc;rw[av (by rw[ay (az (au (au rfl rfl rfl) rfl bj))];rfl),
   cZ (by rw[bf (az (au (au rfl rfl rfl) rfl bj))];exact aR (aK rfl a.ob (ag (au rfl rfl rfl) (ag (au rfl rfl rfl) (ag (au rfl rfl rfl) ai))) q))]
  exact⟨S',e',b',l,rfl,k1,k2⟩
 |welcome o=>exact oth (k:="welcome") rfl (fun _=>bj) (fun _=>bj) rfl
 |who o=>exact oth (k:="who") rfl (fun _=>bj) (fun _=>bj) rfl
 |note o m bs=>exact oth (k:="note") rfl (fun _=>bj) (fun _=>bj) rfl
theorem Aj(w:Nat)(S:List Cell):∃S' g e b,gO G.Hearer (bT G) [.int (w:Int)] S=.ok (.ob S.length) S'/\HrAt G S' S.length g e b (Hr.new w)/\Fr [] S S'/\S.length<=g/\S.length<=e/\S.length<=b:=by
 obtain⟨n,hn⟩:∃n,n=S.length:=⟨_,rfl⟩;have s0:(S++[Cell.ins G.Hearer [] []])[n]?=some (.ins G.Hearer [] []):=aS hn;have q1:=jH (f:="window") (fo:=aa 0) (fe:=aa 1) (r:=[some (.ob n),some (.int (w:Int))]) rfl rfl s0;have s1:=dB (d:=Cell.ins G.Hearer ["window"] [.int (w:Int)]) s0;have q2:=jH (f:="given") (fo:=aa 0) (fe:=bW aj) (r:=[some (.ob n),some (.int (w:Int))]) (b9 ai (by decide)) rfl (aG (G:=[.lst []]) s1);obtain⟨T1,hT1⟩:∃T1,(S++[Cell.ins G.Hearer [] []]).set n (.ins G.Hearer ["window"] [.int (w:Int)])=T1:=⟨_,rfl⟩;have l1:T1.length=S.length+1:=by rw[<-hT1];simp
 have f1:Fr [n] S T1:=by rw[<-hT1];exact Fr.push.tr (Fr.set (by simp))
 have q1':cL G.Hearer [] "window" (aa 0) (aa 1) [some (.ob n),some (.int (w:Int))] (S++[.ins G.Hearer [] []])=some (.nx [some (.ob n),some (.int (w:Int))],T1):=by rw[q1,<-hT1];rfl
 rw[hT1] at s1 q2;have s2:=dB (d:=Cell.ins G.Hearer ["window","given"] [.int (w:Int),.ob T1.length]) (aG (G:=[.lst []]) s1);obtain⟨T2,hT2⟩:∃T2,(T1++[Cell.lst []]).set n (.ins G.Hearer ["window","given"] [.int (w:Int),.ob T1.length])=T2:=⟨_,rfl⟩;have l2:T2.length=S.length+2:=by rw[<-hT2];simp;omega
 have f2:Fr [n] T1 T2:=by rw[<-hT2];exact Fr.push.tr (Fr.set (by simp))
 have g2:T2[T1.length]?=some (.lst []):=by rw[<-hT2];exact cG (aS rfl) (by omega)
 have q2':cL G.Hearer ["window"] "given" (aa 0) (bW aj) [some (.ob n),some (.int (w:Int))] T1=some (.nx [some (.ob n),some (.int (w:Int))],T2):=by rw[q2,<-hT2];rfl
 rw[hT2] at s2;have q3:=jH (f:="opening") (fo:=aa 0) (fe:=dC (.int 0)) (r:=[some (.ob n),some (.int (w:Int))]) rfl rfl s2;have s3:=dB (d:=Cell.ins G.Hearer ["window","given","opening"] [.int (w:Int),.ob T1.length,.int 0]) s2;obtain⟨T3,hT3⟩:∃T3,T2.set n (.ins G.Hearer ["window","given","opening"] [.int (w:Int),.ob T1.length,.int 0])=T3:=⟨_,rfl⟩;have l3:T3.length=S.length+2:=by rw[<-hT3];simp;omega
 have f3:Fr [n] T2 T3:=by rw[<-hT3];exact Fr.set (by simp)
 have q3':cL G.Hearer ["window","given"] "opening" (aa 0) (dC (.int 0)) [some (.ob n),some (.int (w:Int))] T2=some (.nx [some (.ob n),some (.int (w:Int))],T3):=by rw[q3,<-hT3];rfl
 rw[hT3] at s3;have q4:=jH (f:="next_index") (fo:=aa 0) (fe:=dC (.int 0)) (r:=[some (.ob n),some (.int (w:Int))]) rfl rfl s3;have s4:=dB (d:=Cell.ins G.Hearer ["window","given","opening","next_index"] [.int (w:Int),.ob T1.length,.int 0,.int 0]) s3;obtain⟨T4,hT4⟩:∃T4,T3.set n (.ins G.Hearer ["window","given","opening","next_index"] [.int (w:Int),.ob T1.length,.int 0,.int 0])=T4:=⟨_,rfl⟩;have l4:T4.length=S.length+2:=by rw[<-hT4];simp;omega
 have f4:Fr [n] T3 T4:=by rw[<-hT4];exact Fr.set (by simp)
 have q4':cL G.Hearer ["window","given","opening"] "next_index" (aa 0) (dC (.int 0)) [some (.ob n),some (.int (w:Int))] T3=some (.nx [some (.ob n),some (.int (w:Int))],T4):=by rw[q4,<-hT4];rfl
 rw[hT4] at s4;have q5:=jH (f:="early") (fo:=aa 0) (fe:=j0) (r:=[some (.ob n),some (.int (w:Int))]) rfl rfl (aG (G:=[.dic []]) s4);have s5:=dB (d:=Cell.ins G.Hearer ["window","given","opening","next_index","early"] [.int (w:Int),.ob T1.length,.int 0,.int 0,.ob T4.length]) (aG (G:=[.dic []]) s4);obtain⟨T5,hT5⟩:∃T5,(T4++[Cell.dic []]).set n (.ins G.Hearer ["window","given","opening","next_index","early"] [.int (w:Int),.ob T1.length,.int 0,.int 0,.ob T4.length])=T5:=⟨_,rfl⟩;have l5:T5.length=S.length+3:=by rw[<-hT5];simp;omega
 have f5:Fr [n] T4 T5:=by rw[<-hT5];exact Fr.push.tr (Fr.set (by simp))
 have g5:T5[T4.length]?=some (.dic []):=by rw[<-hT5];exact cG (aS rfl) (by omega)
 have q5':cL G.Hearer ["window","given","opening","next_index"] "early" (aa 0) j0 [some (.ob n),some (.int (w:Int))] T4=some (.nx [some (.ob n),some (.int (w:Int))],T5):=by rw[q5,<-hT5];rfl
 rw[hT5] at s5;have q6:=jH (f:="begun") (fo:=aa 0) (fe:=bW aj) (r:=[some (.ob n),some (.int (w:Int))]) (b9 ai (by decide)) rfl (aG (G:=[.lst []]) s5);have s6:=dB (d:=Cell.ins G.Hearer ns_Hearer [.int (w:Int),.ob T1.length,.int 0,.int 0,.ob T4.length,.ob T5.length]) (aG (G:=[.lst []]) s5);have q6':cL G.Hearer ["window","given","opening","next_index","early"] "begun" (aa 0) (bW aj) [some (.ob n),some (.int (w:Int))] T5=some (.nx [some (.ob n),some (.int (w:Int))],(T5++[Cell.lst []]).set n (.ins G.Hearer ns_Hearer [.int (w:Int),.ob T1.length,.int 0,.int 0,.ob T4.length,.ob T5.length])):=by rw[q6];rfl
 have f6:Fr [n] T5 ((T5++[Cell.lst []]).set n (.ins G.Hearer ns_Hearer [.int (w:Int),.ob T1.length,.int 0,.int 0,.ob T4.length,.ob T5.length])):=Fr.push.tr (Fr.set (by simp));have nin:∀m,m≠n->m∉[n]:=fun m hm=>by simpa using hm
 refine⟨(T5++[Cell.lst []]).set n (.ins G.Hearer ns_Hearer [.int (w:Int),.ob T1.length,.int 0,.int 0,.ob T4.length,.ob T5.length]),T1.length,T4.length,T5.length,?_,?_,?_,by omega,by omega,by omega⟩
 ·unfold gO;rw[<-hn];have:bT G [.ob n,.int (w:Int)] (S++[.ins G.Hearer [] []])=.ok .non ((T5++[Cell.lst []]).set n (.ins G.Hearer ns_Hearer [.int (w:Int),.ob T1.length,.int 0,.int 0,.ob T4.length,.ob T5.length])):=by
   show fin _ (dy G [some (.ob n),some (.int (w:Int))] _)=_;unfold dy;rw[av q1',av q2',av q3',av q4',av q5',q6'];rfl
  rw[this]
 ·rw[<-hn];refine⟨s6,?_,?_,cG (aS rfl) (by omega),by omega⟩
  ·exact f6.get (f5.get (f4.get (f3.get g2 (nin _ (by omega))) (nin _ (by omega))) (nin _ (by omega))) (nin _ (by omega))
  ·exact f6.get g5 (nin _ (by omega))
 ·exact(((((f1.tr f2).tr f3).tr f4).tr f5).tr f6).mono fun i hi hs=>by
   have:i=n:=by simpa using hi
   omega
end
end Lw
namespace Lw
open PySem L2 DL
theorem oO{S:List Cell}{n:Nat}(is:List Int):pD S (n+2) (.tup (is.map D.int))=some (.tuple (is.map PyData.int)):=p8 S n is
theorem kM(n:Nat)(c:Card):wfD n (cardD c):=by
 cases c<;>simp[cardD,pcD,wfD,iZ,de]
end Lw
namespace Lw
open PySem L2 DL
theorem CU(S:List Cell)(n:Nat)(q:Nat×Msg):∃p,pD S (n+4) (gvD q)=some p:=by
 have:=oO (S:=S) (n:=n+1) q.2;exact⟨_,by simp only[gvD,qg,pDs,this];simp only[pD];rfl⟩
end Lw
namespace Lw
open PySem L2 DL
def wgh(ss:List Int):Int:=(ss.zipIdx.map fun p=>((1+p.2:Nat):Int) * p.1).sum
def chk(cs:List Int):List Int:=(cs++[cs.sum % 256])++[wgh (cs++[cs.sum % 256]) % 256]
def aA:Card->List Int
 |.hello o=>[0,(o:Int) / 256,(o:Int) % 256]
 |.welcome o=>[1,(o:Int) / 256,(o:Int) % 256]
 |.who o=>[2,(o:Int) / 256,(o:Int) % 256]
 |.data o n p=>[3,(o:Int) / 256,(o:Int) % 256,(n:Int),p.1]++p.2
 |.note o n bs=>[4,(o:Int) / 256,(o:Int) % 256,(n:Int)]++bs
def okC:Card->Prop
 |.hello o=>o<=65535
 |.welcome o=>o<=65535
 |.who o=>o<=65535
 |.data o n p=>o<=65535/\n<=13/\(0<=p.1/\p.1<=1)/\p.2.length<=8/\∀x,x∈p.2->0<=x/\x<=255
 |.note o n bs=>o<=65535/\n<=13/\bs.length<=7/\∀x,x∈bs->0<=x/\x<=1
section
variable{S:List Cell}
theorem gj{xs ys:List D}(hz:(xs++ys).length<=1000000):bP (.tup xs) (.tup ys) S=.ok (.tup (xs++ys)) S:=mv hz
theorem Af(is:List Int):nA [.tup (is.map D.int)] S=.ok (.int is.sum) S:=by
 simp only[nA,gu,iT]
theorem Bp{l:Nat}{is:List Int}(h:S[l]?=some (.lst (is.map D.int))):nA [.ob l] S=.ok (.int is.sum) S:=by
 simp only[nA,gu,cg h,iT]
theorem ni(cs:List Int)(hl:cs.length<=1000)(S:List Cell):cE [.tup (cs.map D.int)] S=.ok (.tup ((chk cs).map D.int)) S:=by
 show cN S (iG [some (.tup (cs.map D.int)),none,none] S)=_;unfold iG;obtain⟨ss,hss⟩:∃ss,cs++[cs.sum % 256]=ss:=⟨_,rfl⟩;have hsl:ss.length=cs.length+1:=by rw[<-hss];simp
 have e1:dOp bP (aa 0) (cf (ac (dOp iP (am nA (ac (aa 0) aj)) (dC (.int 256))) aj)) [some (.tup (cs.map D.int)),none,none] S=.ok (.tup (ss.map D.int)) S:=by
  refine au rfl (bL (ag (au (ax (ag rfl ai) (Af cs)) rfl (cH (by decide))) ai) (by simp)) ?_;rw[gj (by simp;omega),<-hss,List.map_append];rfl
 rw[av (bD e1)];show cN S (aJ _ _ [some (.tup (cs.map D.int)),some (.tup (ss.map D.int)),none] S)=_;have q1:=iR (f:=sI 1 (aa 1)) (tg:=gT [0,1]) (ti:=j6) (fe:=dOp gX (aa 0) (aa 1)) (own:=2) (caps:=[])
  (r:=[some (.tup (cs.map D.int)),some (.tup (ss.map D.int)),none]) (S:=S) (S1:=S) (w:=⟨iW 1 (ss.map D.int),none⟩) (fun _=>true) (fun x=>match x with
   |.tup [.int i,.int j]=>.int (i * j)
   |_=>.non) rfl trivial (by simp[iW];omega) (by
   intro x hx;unfold iW at hx;obtain⟨y,hy,rfl⟩:=List.mem_map.mp hx;rw[List.zipIdx_map] at hy;obtain⟨z,hz,rfl⟩:=List.mem_map.mp hy;have hlt:z.2<ss.length:=by
    have:=List.mem_zipIdx hz;omega
   refine⟨_,rfl,fun _=>rfl,fun _ zs=>?_⟩;show dOp gX (aa 0) (aa 1) [some (.int ((1+z.2:Nat):Int)),some (.int z.1)] (S++[.lst zs])=_;exact au rfl rfl (ie (.inl ⟨by omega,by omega⟩)))
 have hw:((iW 1 (ss.map D.int)).filter fun _=>true).map (fun x=>match x with
   |.tup [.int i,.int j]=>D.int (i * j)
   |_=>.non)=(ss.zipIdx.map fun p=>((1+p.2:Nat):Int) * p.1).map D.int:=by
  rw[List.filter_eq_self.mpr (by simp)];unfold iW;rw[List.zipIdx_map,List.map_map,List.map_map,List.map_map];rfl
 rw[hw] at q1;rw[av (bD (ax (ag q1 ai) (Bp (aS rfl))))];show cN S (bM _ [some (.tup (cs.map D.int)),some (.tup (ss.map D.int)),some (.int (wgh ss))] (S++[.lst ((ss.zipIdx.map fun p=>((1+p.2:Nat):Int) * p.1).map D.int)]))=_;have e3:dOp bP (aa 1) (cf (ac (dOp iP (aa 2) (dC (.int 256))) aj)) [some (.tup (cs.map D.int)),some (.tup (ss.map D.int)),some (.int (wgh ss))] (S++[.lst ((ss.zipIdx.map fun p=>((1+p.2:Nat):Int) * p.1).map D.int)])=.ok (.tup ((chk cs).map D.int)) (S++[.lst ((ss.zipIdx.map fun p=>((1+p.2:Nat):Int) * p.1).map D.int)]):=by
  refine au rfl (bL (ag (au rfl rfl (cH (by decide))) ai) (by simp)) ?_;rw[gj (by simp;omega)];unfold chk;rw[hss,List.map_append];rfl
 rw[aR e3];exact kL (by unfold wfD;exact de _ _)
theorem ez(i top:Int)(S:List Cell):aT [.int i,.int top] S=.ok (.bl (decide (0<=i) && decide (i<=top))) S:=by
 by_cases h:0<=i
 ·simp[aT,kE,isD,tyN,wq,h]
 ·simp[aT,kE,isD,tyN,wq,h]
theorem tJ(is:List Int)(top:Int)(hl:is.length<=1000000)(S:List Cell):bZ [.tup (is.map D.int),.int top] S=.ok (.bl (is.all fun i=>decide (0<=i) && decide (i<=top))) S:=by
 show cN S (nC [some (.tup (is.map D.int)),some (.int top)] S)=_;unfold nC;have q1:=iR (f:=dWk (aa 0)) (tg:=gN 0) (ti:=j6) (fe:=am aT (ac (aa 0) (ac (aa 1) aj))) (own:=1) (caps:=[1])
  (r:=[some (.tup (is.map D.int)),some (.int top)]) (S:=S) (S1:=S) (w:=⟨is.map D.int,none⟩) (fun _=>true) (fun x=>match x with
   |.int i=>.bl (decide (0<=i) && decide (i<=top))
   |_=>.non) rfl trivial (by simpa using hl) (by
   intro x hx;obtain⟨i,_,rfl⟩:=List.mem_map.mp hx;refine⟨_,rfl,fun _=>rfl,fun _ zs=>?_⟩;show am _ _ [some (.int i),some (.int top)] _=_;exact ax (ag rfl (ag rfl ai)) (ez i top _))
 have hw:((is.map D.int).filter fun _=>true).map (fun x=>match x with
   |.int i=>D.bl (decide (0<=i) && decide (i<=top))
   |_=>.non)=(is.map fun i=>decide (0<=i) && decide (i<=top)).map D.bl:=by
  rw[List.filter_eq_self.mpr (by simp),List.map_map,List.map_map];rfl
 rw[hw] at q1;have t1:ao (dIs "tuple" (aa 0)) [some (.tup (is.map D.int)),some (.int top)] S=.ok true S:=rfl;have t2:j1 (dIs "tuple" (aa 0)) (am yv (ac (iy (dWk (aa 0)) (gN 0) j6 (am aT (ac (aa 0) (ac (aa 1) aj))) 1 [1]) aj)) [some (.tup (is.map D.int)),some (.int top)] S=.ok (.bl (is.all fun i=>decide (0<=i) && decide (i<=top))) (S++[.lst ((is.map fun i=>decide (0<=i) && decide (i<=top)).map D.bl)]):=by
  rw[ia,aw,t1];refine ax (ag q1 ai) ?_;simp only[yv,gu,cg ci,sd,List.all_map];rfl
 rw[aR t2];exact kL (by simp[wfD])
theorem vO{is:List Int}{top:Int}(hl:is.length<=1000000)(h:∀x,x∈is->0<=x/\x<=top)(S:List Cell):bZ [.tup (is.map D.int),.int top] S=.ok (.bl true) S:=by
 rw[tJ is top hl];congr 2;rw[List.all_eq_true];intro x hx;simp[h x hx]
theorem yd{p:Pc}(h1:0<=p.1/\p.1<=1)(h2:p.2.length<=8)(h3:∀x,x∈p.2->0<=x/\x<=255)(S:List Cell):ig [pcD p] S=.ok (.bl true) S:=by
 show cN S (gl [some (pcD p)] S)=_;unfold gl;have t1:dOr (dh (bU (dIs "tuple" (aa 0)))) (ao (dOp neD (am bC (ac (aa 0) aj)) (dC (.int 2)))) [some (pcD p)] S=.ok false S:=by
  have u:ao (dOp neD (am bC (ac (aa 0) aj)) (dC (.int 2))) [some (pcD p)] S=.ok false S:=az (au (x:=.int 2) (ax (ag rfl ai) rfl) rfl (iN 2 2));rw[eQ,aw,dl,aw];exact u
 rw[av (by rw[ay t1];rfl)];have i0:dOp ixD (aa 0) (dC (.int 0)) [some (pcD p)] S=.ok (.int p.1) S:=rfl;have i1:dOp ixD (aa 0) (dC (.int 1)) [some (pcD p)] S=.ok (.tup (p.2.map D.int)) S:=rfl;have e1:ao (am aT (ac (dOp ixD (aa 0) (dC (.int 0))) (ac (dC (.int 1)) aj))) [some (pcD p)] S=.ok true S:=by
  refine az (ax (ag i0 (ag rfl ai)) ?_);rw[ez];simp[h1]
 have e2:ao (am bZ (ac (dOp ixD (aa 0) (dC (.int 1))) (ac (dC k_TOP_CELL) aj))) [some (pcD p)] S=.ok true S:=az (ax (ag i1 (ag rfl ai)) (vO (by omega) h3 S));have e3:dOp leD (am bC (ac (dOp ixD (aa 0) (dC (.int 1))) aj)) (dC k_MOST_PIECE_LETTERS) [some (pcD p)] S=.ok (.bl true) S:=by
  refine au (ax (ag i1 ai) (cm _)) rfl ?_;rw[xD,List.length_map,decide_eq_true (by omega)]
 rw[aR (d:=.bl true) (S1:=S)]
 ·exact bB (by simp[wfD])
 ·rw[ia,aw,e1];show j1 _ _ _ S=_;rw[ia,aw,e2];exact e3
theorem zW{bs:List Int}(h2:bs.length<=7)(h3:∀x,x∈bs->0<=x/\x<=1)(S:List Cell):iE [.tup (bs.map D.int)] S=.ok (.bl true) S:=by
 show cN S (gm [some (.tup (bs.map D.int))] S)=_;unfold gm;have e2:ao (am bZ (ac (aa 0) (ac (dC (.int 1)) aj))) [some (.tup (bs.map D.int))] S=.ok true S:=az (ax (ag rfl (ag rfl ai)) (vO (by omega) h3 S));have e3:dOp leD (am bC (ac (aa 0) aj)) (dC k_MOST_BITS) [some (.tup (bs.map D.int))] S=.ok (.bl true) S:=by
  refine au (ax (ag rfl ai) (cm _)) rfl ?_;rw[xD,List.length_map,decide_eq_true (by omega)]
 rw[aR (d:=.bl true) (S1:=S)]
 ·exact bB (by simp[wfD])
 ·rw[ia,aw,e2];exact e3
end
end Lw
namespace Lw
open PySem L2 DL
def Card.opn':Card->Nat
 |.hello o=>o
 |.welcome o=>o
 |.who o=>o
 |.data o _ _=>o
 |.note o _ _=>o
def Card.kn:Card->Str
 |.hello _=>"hello"
 |.welcome _=>"welcome"
 |.who _=>"who"
 |.data _ _ _=>"data"
 |.note _ _ _=>"note"
def Card.ki:Card->Nat
 |.hello _=>0
 |.welcome _=>1
 |.who _=>2
 |.data _ _ _=>3
 |.note _ _ _=>4
section
variable{S:List Cell}{G:Cs}
theorem vb(c:Card)(S:List Cell):ixD (cardD c) (.int 0) S=.ok (.str c.kn) S:=by cases c<;>rfl
theorem uX(c:Card)(S:List Cell):ixD (cardD c) (.int 1) S=.ok (.int (c.opn':Int)) S:=by cases c<;>rfl
theorem okC.op{c:Card}(h:okC c):c.opn'<=65535:=by
 cases c with
 |hello o=>exact h
 |welcome o=>exact h
 |who o=>exact h
 |data o n p=>exact h.1
 |note o n bs=>exact h.1
theorem mw(c:Card)(S:List Cell):eqD (.str c.kn) (.str "data") S=.ok (.bl (decide (c.ki=3))) S:=by
 cases c with
 |hello o=>exact(show eqD (.str "hello") (.str "data") S=.ok (.bl false) S from bj)
 |welcome o=>exact(show eqD (.str "welcome") (.str "data") S=.ok (.bl false) S from bj)
 |who o=>exact(show eqD (.str "who") (.str "data") S=.ok (.bl false) S from bj)
 |data o n p=>exact(show eqD (.str "data") (.str "data") S=.ok (.bl true) S from bj)
 |note o n bs=>exact(show eqD (.str "note") (.str "data") S=.ok (.bl false) S from bj)
theorem my(c:Card)(S:List Cell):eqD (.str c.kn) (.str "note") S=.ok (.bl (decide (c.ki=4))) S:=by
 cases c with
 |hello o=>exact(show eqD (.str "hello") (.str "note") S=.ok (.bl false) S from bj)
 |welcome o=>exact(show eqD (.str "welcome") (.str "note") S=.ok (.bl false) S from bj)
 |who o=>exact(show eqD (.str "who") (.str "note") S=.ok (.bl false) S from bj)
 |data o n p=>exact(show eqD (.str "data") (.str "note") S=.ok (.bl false) S from bj)
 |note o n bs=>exact(show eqD (.str "note") (.str "note") S=.ok (.bl true) S from bj)
theorem pH(c:Card)(S:List Cell):inD (.str c.kn) eo S=.ok (.bl (decide (c.ki<3))) S:=by
 have h1:inV (.str "hello") [.str "hello",.str "welcome",.str "who"]=true:=by decide +kernel
 have h2:inV (.str "welcome") [.str "hello",.str "welcome",.str "who"]=true:=by decide +kernel
 have h3:inV (.str "who") [.str "hello",.str "welcome",.str "who"]=true:=by decide +kernel
 have h4:inV (.str "data") [.str "hello",.str "welcome",.str "who"]=false:=by decide +kernel
 have h5:inV (.str "note") [.str "hello",.str "welcome",.str "who"]=false:=by decide +kernel
 cases c with
 |hello o=>show R.ok (D.bl (inV (.str "hello") [.str "hello",.str "welcome",.str "who"])) S=_;rw[h1];rfl
 |welcome o=>show R.ok (D.bl (inV (.str "welcome") [.str "hello",.str "welcome",.str "who"])) S=_;rw[h2];rfl
 |who o=>show R.ok (D.bl (inV (.str "who") [.str "hello",.str "welcome",.str "who"])) S=_;rw[h3];rfl
 |data o n p=>show R.ok (D.bl (inV (.str "data") [.str "hello",.str "welcome",.str "who"])) S=_;rw[h4];rfl
 |note o n bs=>show R.ok (D.bl (inV (.str "note") [.str "hello",.str "welcome",.str "who"])) S=_;rw[h5];rfl
theorem zV(c:Card)(S:List Cell):xM (ks_KINDS.map D.str) (.str c.kn) S=.ok (.int (c.ki:Int)) S:=by
 have h1:qt (.str "hello") [.str "hello",.str "welcome",.str "who",.str "data",.str "note"]=some 0:=by decide +kernel
 have h2:qt (.str "welcome") [.str "hello",.str "welcome",.str "who",.str "data",.str "note"]=some 1:=by decide +kernel
 have h3:qt (.str "who") [.str "hello",.str "welcome",.str "who",.str "data",.str "note"]=some 2:=by decide +kernel
 have h4:qt (.str "data") [.str "hello",.str "welcome",.str "who",.str "data",.str "note"]=some 3:=by decide +kernel
 have h5:qt (.str "note") [.str "hello",.str "welcome",.str "who",.str "data",.str "note"]=some 4:=by decide +kernel
 have e:fvs (ks_KINDS.map D.str)=some [.str "hello",.str "welcome",.str "who",.str "data",.str "note"]:=rfl;unfold xM;cases c<;>simp only[Card.kn,Card.ki,fv,e,h1,h2,h3,h4,h5]<;>rfl
theorem wE{c:Card}(h:okC c)(S:List Cell):cR [cardD c] S=.ok (.bl true) S:=by
 show cN S (eO [some (cardD c)] S)=_;unfold eO;have hop:=h.op;have ht:tyN S (cardD c)=some "tuple":=by cases c<;>rfl
 have i1:dOp ixD (aa 0) (dC (.int 1)) [some (cardD c)] S=.ok (.int (c.opn':Int)) S:=au rfl rfl (uX c S);have i0:dOp ixD (aa 0) (dC (.int 0)) [some (cardD c)] S=.ok (.str c.kn) S:=au rfl rfl (vb c S);have len:am bC (ac (aa 0) aj) [some (cardD c)] S=.ok (.int (if c.ki<3 then 2 else 4)) S:=by
  refine ax (ag rfl ai) ?_;cases c<;>rfl
 have tt:bU (dIs "tuple" (aa 0)) [some (cardD c)] S=.ok true S:=by
  show((isD "tuple" (cardD c)).bind qD) S=_;rw[aw];simp only[isD,ht];rfl
 have t1:dOr (dh (bU (dIs "tuple" (aa 0)))) (dOr (ao (dOp ltD (am bC (ac (aa 0) aj)) (dC (.int 2)))) (dh (bU (am aT (ac (dOp ixD (aa 0) (dC (.int 1))) (ac (dC k_TOP_OPENING) aj)))))) [some (cardD c)] S=.ok false S:=by
  have u1:ao (dOp ltD (am bC (ac (aa 0) aj)) (dC (.int 2))) [some (cardD c)] S=.ok false S:=by
   refine az (au len rfl ?_);rw[qA,decide_eq_false (by split<;>omega)]
  have u2:bU (am aT (ac (dOp ixD (aa 0) (dC (.int 1))) (ac (dC k_TOP_OPENING) aj))) [some (cardD c)] S=.ok true S:=by
   rw[dc,aw,ax (ag i1 (ag rfl ai)) (ez (c.opn':Int) 65535 S),decide_eq_true (show(0:Int)<=(c.opn':Int) by omega),decide_eq_true (show(c.opn':Int)<=65535 by omega)];rfl
  rw[eQ,aw,dl,aw,tt];show dOr _ _ _ S=_;rw[eQ,aw,u1];show dh _ _ S=_;rw[dl,aw,u2];rfl
 have t2:ao (dOp inD (dOp ixD (aa 0) (dC (.int 0))) (dC eo)) [some (cardD c)] S=.ok (decide (c.ki<3)) S:=az (au i0 rfl (pH c S));rw[av (by rw[ay t1];rfl)];by_cases hk:c.ki<3
 ·rw[decide_eq_true hk] at t2;rw[cZ (by rw[bf t2];exact aR (d:=.bl true) (au len rfl (by rw[if_pos hk,jB];rfl)))];exact bB (by simp[wfD])
 ·rw[decide_eq_false hk] at t2;rw[av (by rw[ay t2];rfl)];have t5:ao (dOp neD (am bC (ac (aa 0) aj)) (dC (.int 4))) [some (cardD c)] S=.ok false S:=az (au len rfl (by rw[if_neg hk,iN];rfl));have t6:ao (dOp eqD (dOp ixD (aa 0) (dC (.int 0))) (dC (.str "data"))) [some (cardD c)] S=.ok (decide (c.ki=3)) S:=az (au i0 rfl (mw c S));have t7:ao (dOp eqD (dOp ixD (aa 0) (dC (.int 0))) (dC (.str "note"))) [some (cardD c)] S=.ok (decide (c.ki=4)) S:=az (au i0 rfl (my c S));cases c with
  |hello o=>exact absurd (show 0<3 by decide) hk
  |welcome o=>exact absurd (show 1<3 by decide) hk
  |who o=>exact absurd (show 2<3 by decide) hk
  |data o n p=>
   obtain⟨h1,h2,h3,h4,h5⟩:=h;have i2:dOp ixD (aa 0) (dC (.int 2)) [some (cardD (.data o n p))] S=.ok (.int (n:Int)) S:=rfl;have i3:dOp ixD (aa 0) (dC (.int 3)) [some (cardD (.data o n p))] S=.ok (pcD p) S:=rfl;have u2:bU (am aT (ac (dOp ixD (aa 0) (dC (.int 2))) (ac (dC k_TOP_NUMBER) aj))) [some (cardD (.data o n p))] S=.ok true S:=by
    rw[dc,aw,ax (ag i2 (ag rfl ai)) (ez (n:Int) 13 S),decide_eq_true (show(0:Int)<=(n:Int) by omega),decide_eq_true (show(n:Int)<=13 by omega)];rfl
   have t8:dOr (ao (dOp neD (am bC (ac (aa 0) aj)) (dC (.int 4)))) (dh (bU (am aT (ac (dOp ixD (aa 0) (dC (.int 2))) (ac (dC k_TOP_NUMBER) aj))))) [some (cardD (.data o n p))] S=.ok false S:=by
    rw[eQ,aw,t5];show dh _ _ S=_;rw[dl,aw,u2];rfl
   rw[av (by rw[ay t8];rfl),cZ (by rw[bf t6];exact aR (ax (ag i3 ai) (yd h3 h4 h5 S)))];exact bB (by simp[wfD])
  |note o n bs=>
   obtain⟨h1,h2,h4,h5⟩:=h;have i2:dOp ixD (aa 0) (dC (.int 2)) [some (cardD (.note o n bs))] S=.ok (.int (n:Int)) S:=rfl;have i3:dOp ixD (aa 0) (dC (.int 3)) [some (cardD (.note o n bs))] S=.ok (.tup (bs.map D.int)) S:=rfl;have u2:bU (am aT (ac (dOp ixD (aa 0) (dC (.int 2))) (ac (dC k_TOP_NUMBER) aj))) [some (cardD (.note o n bs))] S=.ok true S:=by
    rw[dc,aw,ax (ag i2 (ag rfl ai)) (ez (n:Int) 13 S),decide_eq_true (show(0:Int)<=(n:Int) by omega),decide_eq_true (show(n:Int)<=13 by omega)];rfl
   have t8:dOr (ao (dOp neD (am bC (ac (aa 0) aj)) (dC (.int 4)))) (dh (bU (am aT (ac (dOp ixD (aa 0) (dC (.int 2))) (ac (dC k_TOP_NUMBER) aj))))) [some (cardD (.note o n bs))] S=.ok false S:=by
    rw[eQ,aw,t5];show dh _ _ S=_;rw[dl,aw,u2];rfl
   rw[av (by rw[ay t8];rfl),av (by rw[ay t6];rfl),aR (d:=.bl true) (S1:=S)]
   ·exact bB (by simp[wfD])
   ·rw[ia,aw,t7];exact ax (ag i3 ai) (zW h4 h5 S)
theorem fR{c:Card}(h:okC c):3<=(aA c).length/\(aA c).length<=13:=by
 cases c with
 |hello o=>exact⟨by simp[aA],by simp[aA]⟩
 |welcome o=>exact⟨by simp[aA],by simp[aA]⟩
 |who o=>exact⟨by simp[aA],by simp[aA]⟩
 |data o n p=>obtain⟨h1,h2,h3,h4,h5⟩:=h;exact⟨by simp[aA],by simp[aA];omega⟩
 |note o n bs=>obtain⟨h1,h2,h4,h5⟩:=h;exact⟨by simp[aA],by simp[aA];omega⟩
end
end Lw
namespace Lw
open PySem L2 DL
section
variable{S:List Cell}{G:Cs}
theorem yY{c:Card}(h:okC c)(S:List Cell):jM [cardD c] S=.ok (.tup ((aA c).map D.int)) S:=by
 show cN S (kg [some (cardD c),none] S)=_;unfold kg;have i1:dOp ixD (aa 0) (dC (.int 1)) [some (cardD c),none] S=.ok (.int (c.opn':Int)) S:=au rfl rfl (uX c S);have i0:∀r,dOp ixD (aa 0) (dC (.int 0)) (some (cardD c) :: r) S=.ok (.str c.kn) S:=fun r=>au rfl rfl (vb c S)
 have kx:mH d3 (ac (dOp ixD (aa 0) (dC (.int 0))) aj) [some (cardD c),none] S=.ok (.int (c.ki:Int)) S:=by
  unfold mH;rw[aw,ag (i0 _) ai];exact zV c S
 rw[av (bD (bL (ag kx (ag (au i1 rfl (vk ⟨by decide,by decide⟩)) (ag (au i1 rfl (cH (by decide))) ai))) (by simp)))];show cN S (aJ _ _ [some (cardD c),some (.tup [.int (c.ki:Int),.int ((c.opn':Int) / 256),.int ((c.opn':Int) % 256)])] S)=_;have t6:ao (dOp eqD (dOp ixD (aa 0) (dC (.int 0))) (dC (.str "data"))) [some (cardD c),some (.tup [.int (c.ki:Int),.int ((c.opn':Int) / 256),.int ((c.opn':Int) % 256)])] S=.ok (decide (c.ki=3)) S:=az (au (i0 _) rfl (mw c S));have t7:ao (dOp eqD (dOp ixD (aa 0) (dC (.int 0))) (dC (.str "note"))) [some (cardD c),some (.tup [.int (c.ki:Int),.int ((c.opn':Int) / 256),.int ((c.opn':Int) % 256)])] S=.ok (decide (c.ki=4)) S:=az (au (i0 _) rfl (my c S));cases c with
 |hello o=>
  rw[av (by rw[ay t6];rfl),av (by rw[ay t7];rfl),aR rfl];exact bB (by simp[wfD,iZ])
 |welcome o=>
  rw[av (by rw[ay t6];rfl),av (by rw[ay t7];rfl),aR rfl];exact bB (by simp[wfD,iZ])
 |who o=>
  rw[av (by rw[ay t6];rfl),av (by rw[ay t7];rfl),aR rfl];exact bB (by simp[wfD,iZ])
 |data o n p=>
  obtain⟨h1,h2,h3,h4,h5⟩:=h;have e1:dOp bP (dOp bP (aa 1) (cf (ac (dOp ixD (aa 0) (dC (.int 2))) (ac (dOp ixD (dOp ixD (aa 0) (dC (.int 3))) (dC (.int 0))) aj)))) (dOp ixD (dOp ixD (aa 0) (dC (.int 3))) (dC (.int 1))) [some (cardD (.data o n p)),some (.tup [.int ((3:Nat):Int),.int ((o:Int) / 256),.int ((o:Int) % 256)])] S=.ok (.tup ((aA (.data o n p)).map D.int)) S:=by
   refine au (au rfl (bL (ag (x:=.int (n:Int)) rfl (ag (x:=.int p.1) rfl ai)) (by simp)) (gj (by simp))) (y:=.tup (p.2.map D.int)) rfl ?_;rw[gj (by simp;omega)];rfl
  rw[cZ (by rw[bf t6];exact aR e1)];exact bB (by unfold wfD;exact de _ _)
 |note o n bs=>
  obtain⟨h1,h2,h4,h5⟩:=h;have e1:dOp bP (dOp bP (aa 1) (cf (ac (dOp ixD (aa 0) (dC (.int 2))) aj))) (dOp ixD (aa 0) (dC (.int 3))) [some (cardD (.note o n bs)),some (.tup [.int ((4:Nat):Int),.int ((o:Int) / 256),.int ((o:Int) % 256)])] S=.ok (.tup ((aA (.note o n bs)).map D.int)) S:=by
   refine au (au rfl (bL (ag (x:=.int (n:Int)) rfl ai) (by simp)) (gj (by simp))) (y:=.tup (bs.map D.int)) rfl ?_;rw[gj (by simp;omega)];rfl
  rw[av (by rw[ay t6];rfl),cZ (by rw[bf t7];exact aR e1)];exact bB (by unfold wfD;exact de _ _)
theorem vT{c:Card}(h:okC c)(S:List Cell):jw G [cardD c] S=.ok (.tup ((chk (aA c)).map D.int)) S:=by
 show cN S (lv G [some (cardD c)] S)=_;unfold lv;have t1:dh (bU (am cR (ac (aa 0) aj))) [some (cardD c)] S=.ok false S:=by
  rw[dl,aw,dc,aw,ax (ag rfl ai) (wE h S)];rfl
 have hl:=fR h;rw[av (by rw[ay t1];rfl),aR (ax (ag (ax (ag rfl ai) (yY h S)) ai) (ni _ (by omega) S))];exact bB (by unfold wfD;exact de _ _)
end
end Lw
namespace Lw
open PySem L2 DL
section
variable{S:List Cell}{G:Cs}
theorem rW{xs:List D}(h:2<=xs.length):eu xs none (some (-2))=xs.take (xs.length-2):=by
 unfold eu;have e:HT.sIx xs.length xs.length (some (-2))=xs.length-2:=by
  unfold HT.sIx;simp only[];split<;>omega
 rw[HT.sIx_none,e];simp
theorem Dx(c:Card)(S:List Cell):ixD (.tup ((aA c).map D.int)) (.int 0) S=.ok (.int (c.ki:Int)) S:=ba (i:=0) (by cases c<;>rfl)
theorem Dm(c:Card)(S:List Cell):ixD (.tup ((aA c).map D.int)) (.int 1) S=.ok (.int ((c.opn':Int) / 256)) S:=ba (i:=1) (by cases c<;>rfl)
theorem Dl(c:Card)(S:List Cell):ixD (.tup ((aA c).map D.int)) (.int 2) S=.ok (.int ((c.opn':Int) % 256)) S:=ba (i:=2) (by cases c<;>rfl)
theorem z5{c:Card}(h:okC c)(S:List Cell):gq [.tup ((aA c).map D.int)] S=.ok (cardD c) S:=by
 show cN S (eT [some (.tup ((aA c).map D.int)),none,none,none] S)=_;unfold eT;have hop:=h.op;have e1:dOp ixD (dC d3) (dOp ixD (aa 0) (dC (.int 0))) [some (.tup ((aA c).map D.int)),none,none,none] S=.ok (.str c.kn) S:=au rfl (au rfl rfl (Dx c S)) (ba (i:=c.ki) (by cases c<;>rfl));have e2:dOp bP (dOp gX (dOp ixD (aa 0) (dC (.int 1))) (dC (.int 256))) (dOp ixD (aa 0) (dC (.int 2))) [some (.tup ((aA c).map D.int)),some (.str c.kn),none,none] S=.ok (.int (c.opn':Int)) S:=by
  have i1:dOp ixD (aa 0) (dC (.int 1)) [some (.tup ((aA c).map D.int)),some (.str c.kn),none,none] S=.ok (.int ((c.opn':Int) / 256)) S:=au rfl rfl (Dm c S);have i2:dOp ixD (aa 0) (dC (.int 2)) [some (.tup ((aA c).map D.int)),some (.str c.kn),none,none] S=.ok (.int ((c.opn':Int) % 256)) S:=au rfl rfl (Dl c S);refine au (au i1 rfl (ie (.inr ⟨by decide,by decide⟩))) i2 ?_;rw[cy];congr 2;omega
 rw[av (bD e1)];show cN S (aJ _ _ [some (.tup ((aA c).map D.int)),some (.str c.kn),none,none] S)=_;rw[av (bD e2)];show cN S (aJ _ _ [some (.tup ((aA c).map D.int)),some (.str c.kn),some (.int (c.opn':Int)),none] S)=_;have hl:=fR h;have e3:dSl slD (aa 0) (bQ (dC k_HEAD_CELLS)) bN [some (.tup ((aA c).map D.int)),some (.str c.kn),some (.int (c.opn':Int)),none] S=.ok (.tup (((aA c).drop 3).map D.int)) S:=by
  simp only[lh,jR,List.getElem?_cons_succ,List.getElem?_cons_zero,aw,dZ,kq,fC,fY,ug,slD];rw[show(3:Int)=((3:Nat):Int) from rfl,eR (by rw[List.length_map];omega),<-List.map_drop]
 rw[av (bD e3)];show cN S (aJ _ _ [some (.tup ((aA c).map D.int)),some (.str c.kn),some (.int (c.opn':Int)),some (.tup (((aA c).drop 3).map D.int))] S)=_;have t6:ao (dOp eqD (aa 1) (dC (.str "data"))) [some (.tup ((aA c).map D.int)),some (.str c.kn),some (.int (c.opn':Int)),some (.tup (((aA c).drop 3).map D.int))] S=.ok (decide (c.ki=3)) S:=az (au rfl rfl (mw c S));have t7:ao (dOp eqD (aa 1) (dC (.str "note"))) [some (.tup ((aA c).map D.int)),some (.str c.kn),some (.int (c.opn':Int)),some (.tup (((aA c).drop 3).map D.int))] S=.ok (decide (c.ki=4)) S:=az (au rfl rfl (my c S));have sh:∀{r:DSt},ao (dOp eqD (aa 1) (dC (.str "data"))) r S=.ok false S->ao (dOp eqD (aa 1) (dC (.str "note"))) r S=.ok false S->
   aJ (sIf (dr (ao (dOp eqD (aa 1) (dC (.str "data")))) (ao (dOp geD (am bC (ac (aa 3) aj)) (dC (.int 2))))) (bM (cf (ac (aa 1) (ac (aa 2) (ac (dOp ixD (aa 3) (dC (.int 0))) (ac (cf (ac (dOp ixD (aa 3) (dC (.int 1))) (ac (dSl slD (aa 3) (bQ (dC (.int 2))) bN) aj))) aj)))))) bF)
    (aJ (sIf (dr (ao (dOp eqD (aa 1) (dC (.str "note")))) (ao (dOp geD (am bC (ac (aa 3) aj)) (dC (.int 1))))) (bM (cf (ac (aa 1) (ac (aa 2) (ac (dOp ixD (aa 3) (dC (.int 0))) (ac (dSl slD (aa 3) (bQ (dC (.int 1))) bN) aj)))))) bF)
    (bM (dOp bP (cf (ac (aa 1) (ac (aa 2) aj))) (aa 3)))) r S=bM (dOp bP (cf (ac (aa 1) (ac (aa 2) aj))) (aa 3)) r S:=by
  intro r a b;rw[av (by rw[ay (by rw[cX,aw,a];rfl)];rfl),av (by rw[ay (by rw[cX,aw,b];rfl)];rfl)]
 cases c with
 |hello o=>
  rw[sh t6 t7,aR (au (bL (ag rfl (ag rfl ai)) (by simp)) rfl (gj (by simp[aA])))];exact bB (kM _ (.hello o))
 |welcome o=>
  rw[sh t6 t7,aR (au (bL (ag rfl (ag rfl ai)) (by simp)) rfl (gj (by simp[aA])))];exact bB (kM _ (.welcome o))
 |who o=>
  rw[sh t6 t7,aR (au (bL (ag rfl (ag rfl ai)) (by simp)) rfl (gj (by simp[aA])))];exact bB (kM _ (.who o))
 |data o n p=>
  obtain⟨h1,h2,h3,h4,h5⟩:=h;have hdr:(aA (.data o n p)).drop 3=(n:Int) :: p.1 :: p.2:=rfl;rw[hdr] at t6 ⊢;have g1:ao (dOp geD (am bC (ac (aa 3) aj)) (dC (.int 2))) [some (.tup ((aA (.data o n p)).map D.int)),some (.str (Card.data o n p).kn),some (.int ((Card.data o n p).opn':Int)),some (.tup (((n:Int) :: p.1 :: p.2).map D.int))] S=.ok true S:=by
   refine az (au (ax (ag rfl ai) (cm _)) rfl ?_);rw[vY,decide_eq_true (by simp;omega)]
  have g2:dSl slD (aa 3) (bQ (dC (.int 2))) bN [some (.tup ((aA (.data o n p)).map D.int)),some (.str (Card.data o n p).kn),some (.int ((Card.data o n p).opn':Int)),some (.tup (((n:Int) :: p.1 :: p.2).map D.int))] S=.ok (.tup (p.2.map D.int)) S:=by
   simp only[lh,jR,List.getElem?_cons_succ,List.getElem?_cons_zero,aw,dZ,kq,fC,fY,ug,slD];rw[show(2:Int)=((2:Nat):Int) from rfl,eR (by simp)];rfl
  rw[cZ (by rw[bf (by rw[cX,aw,t6];exact g1)];exact aR (bL (ag rfl (ag rfl (ag (x:=.int (n:Int)) (au rfl rfl (ba (i:=0) rfl)) (ag (bL (ag (x:=.int p.1) (au rfl rfl (ba (i:=1) rfl)) (ag g2 ai)) (by simp)) ai)))) (by simp)))];exact bB (kM _ (.data o n p))
 |note o n bs=>
  obtain⟨h1,h2,h4,h5⟩:=h;have hdr:(aA (.note o n bs)).drop 3=(n:Int) :: bs:=rfl;rw[hdr] at t6 t7 ⊢;have g1:ao (dOp geD (am bC (ac (aa 3) aj)) (dC (.int 1))) [some (.tup ((aA (.note o n bs)).map D.int)),some (.str (Card.note o n bs).kn),some (.int ((Card.note o n bs).opn':Int)),some (.tup (((n:Int) :: bs).map D.int))] S=.ok true S:=by
   refine az (au (ax (ag rfl ai) (cm _)) rfl ?_);rw[vY,decide_eq_true (by simp;omega)]
  have g2:dSl slD (aa 3) (bQ (dC (.int 1))) bN [some (.tup ((aA (.note o n bs)).map D.int)),some (.str (Card.note o n bs).kn),some (.int ((Card.note o n bs).opn':Int)),some (.tup (((n:Int) :: bs).map D.int))] S=.ok (.tup (bs.map D.int)) S:=by
   simp only[lh,jR,List.getElem?_cons_succ,List.getElem?_cons_zero,aw,dZ,kq,fC,fY,ug,slD];rw[show(1:Int)=((1:Nat):Int) from rfl,eR (by simp)];rfl
  rw[av (by rw[ay (by rw[cX,aw,t6];rfl)];rfl),cZ (by rw[bf (by rw[cX,aw,t7];exact g1)];exact aR (bL (ag rfl (ag rfl (ag (x:=.int (n:Int)) (au rfl rfl (ba (i:=0) rfl)) (ag g2 ai)))) (by simp)))];exact bB (kM _ (.note o n bs))
theorem sg{c:Card}(h:okC c):∀x,x∈aA c->0<=x/\x<=255:=by
 have hop:=h.op;intro x hx;cases c with
 |hello o=>have:o<=65535:=hop;simp[aA] at hx;omega
 |welcome o=>have:o<=65535:=hop;simp[aA] at hx;omega
 |who o=>have:o<=65535:=hop;simp[aA] at hx;omega
 |data o n p=>
  obtain⟨h1,h2,h3,h4,h5⟩:=h;simp[aA] at hx;rcases hx with hx|hx|hx|hx|hx|hx
  ·omega
  ·omega
  ·omega
  ·omega
  ·omega
  ·exact h5 x hx
 |note o n bs=>
  obtain⟨h1,h2,h4,h5⟩:=h;simp[aA] at hx;rcases hx with hx|hx|hx|hx|hx
  ·omega
  ·omega
  ·omega
  ·omega
  ·have:=h5 x hx;omega
theorem yi{cs:List Int}(h:∀x,x∈cs->0<=x/\x<=255):∀x,x∈chk cs->0<=x/\x<=255:=by
 intro x hx;unfold chk at hx;rcases List.mem_append.mp hx with hx|hx
 ·rcases List.mem_append.mp hx with hx|hx
  ·exact h x hx
  ·rw[List.mem_singleton.mp hx];omega
 ·rw[List.mem_singleton.mp hx];omega
theorem mi(cs:List Int):(chk cs).length=cs.length+2:=by simp[chk]
theorem lV(cs:List Int):(chk cs).take cs.length=cs:=by
 unfold chk;rw[List.append_assoc];exact List.take_left
theorem zP{c:Card}(h:okC c)(S:List Cell):kG G [.tup ((chk (aA c)).map D.int)] S=.ok (cardD c) S:=by
 show cN S (lY G [some (.tup ((chk (aA c)).map D.int)),none,none] S)=_;unfold lY;have hl:=fR h;have hcl:=mi (aA c);have u1:bU (am bZ (ac (aa 0) (ac (dC k_TOP_CELL) aj))) [some (.tup ((chk (aA c)).map D.int)),none,none] S=.ok true S:=by
  rw[dc,aw,ax (ag rfl (ag rfl ai)) (vO (by omega) (yi (sg h)) S)];rfl
 have u2:ao (dOp ltD (am bC (ac (aa 0) aj)) (dOp bP (dC k_HEAD_CELLS) (dC k_CHECK_CELLS))) [some (.tup ((chk (aA c)).map D.int)),none,none] S=.ok false S:=by
  refine az (au (ax (ag rfl ai) (cm _)) (au rfl rfl (cy _ _)) ?_);rw[qA,List.length_map,decide_eq_false (by omega)]
 have u3:ao (dOp geD (dOp ixD (aa 0) (dC (.int 0))) (am bC (ac (dC d3) aj))) [some (.tup ((chk (aA c)).map D.int)),none,none] S=.ok false S:=by
  have i0:dOp ixD (aa 0) (dC (.int 0)) [some (.tup ((chk (aA c)).map D.int)),none,none] S=.ok (.int (c.ki:Int)) S:=au rfl rfl (ba (i:=0) (by cases c<;>rfl));have hk:c.ki<=4:=by cases c<;>simp[Card.ki]
  refine az (au i0 (ax (ag rfl ai) (cm _)) ?_);rw[vY,decide_eq_false];show ¬((5:Int)<=(c.ki:Int));omega
 have t1:dOr (dh (bU (am bZ (ac (aa 0) (ac (dC k_TOP_CELL) aj))))) (dOr (ao (dOp ltD (am bC (ac (aa 0) aj)) (dOp bP (dC k_HEAD_CELLS) (dC k_CHECK_CELLS)))) (ao (dOp geD (dOp ixD (aa 0) (dC (.int 0))) (am bC (ac (dC d3) aj))))) [some (.tup ((chk (aA c)).map D.int)),none,none] S=.ok false S:=by
  rw[eQ,aw,dl,aw,u1];show dOr _ _ _ S=_;rw[eQ,aw,u2];exact u3
 rw[av (by rw[ay t1];rfl)];have e1:dSl slD (aa 0) bN (bQ (dUn AU (dC k_CHECK_CELLS))) [some (.tup ((chk (aA c)).map D.int)),none,none] S=.ok (.tup ((aA c).map D.int)) S:=by
  have hcut:eu ((chk (aA c)).map D.int) none (some (-2))=(aA c).map D.int:=by
   rw[rW (by rw[List.length_map];omega),List.length_map,hcl,<-List.map_take,show(aA c).length+2-2=(aA c).length by omega,lV]
  show R.ok (D.tup (eu ((chk (aA c)).map D.int) none (some (-2)))) S=_;rw[hcut]
 rw[av (bD e1)];show cN S (aJ _ _ [some (.tup ((chk (aA c)).map D.int)),some (.tup ((aA c).map D.int)),none] S)=_;have t2:ao (dOp neD (aa 0) (am cE (ac (aa 1) aj))) [some (.tup ((chk (aA c)).map D.int)),some (.tup ((aA c).map D.int)),none] S=.ok false S:=
  az (au rfl (ax (ag rfl ai) (ni _ (by omega) S)) (wj (oO (n:=28) (chk (aA c))) (oO (n:=28) (chk (aA c)))))
 rw[av (by rw[ay t2];rfl),av (bD (ax (ag rfl ai) (z5 h S)))];show cN S (aJ _ _ [some (.tup ((chk (aA c)).map D.int)),some (.tup ((aA c).map D.int)),some (cardD c)] S)=_;have t3:dh (bU (am cR (ac (aa 2) aj))) [some (.tup ((chk (aA c)).map D.int)),some (.tup ((aA c).map D.int)),some (cardD c)] S=.ok false S:=by
  rw[dl,aw,dc,aw,ax (ag rfl ai) (wE h S)];rfl
 rw[av (by rw[ay t3];rfl),aR rfl];exact bB (kM _ c)
end
end Lw
namespace Lw
open PySem L2 DL
section
variable{S:List Cell}{G:Cs}
theorem yC(p:Pc)(hl:p.2.length<=1000)(S:List Cell):ig [pcD p] S=.ok (.bl (decide (0<=p.1/\p.1<=1) && (p.2.all fun i=>decide (0<=i) && decide (i<=255)) && decide (p.2.length<=8))) S:=by
 show cN S (gl [some (pcD p)] S)=_;unfold gl;have t1:dOr (dh (bU (dIs "tuple" (aa 0)))) (ao (dOp neD (am bC (ac (aa 0) aj)) (dC (.int 2)))) [some (pcD p)] S=.ok false S:=by
  have u:ao (dOp neD (am bC (ac (aa 0) aj)) (dC (.int 2))) [some (pcD p)] S=.ok false S:=az (au (x:=.int 2) (ax (ag rfl ai) rfl) rfl (iN 2 2));rw[eQ,aw,dl,aw];exact u
 rw[av (by rw[ay t1];rfl)];have i0:dOp ixD (aa 0) (dC (.int 0)) [some (pcD p)] S=.ok (.int p.1) S:=rfl;have i1:dOp ixD (aa 0) (dC (.int 1)) [some (pcD p)] S=.ok (.tup (p.2.map D.int)) S:=rfl;have e1:ao (am aT (ac (dOp ixD (aa 0) (dC (.int 0))) (ac (dC (.int 1)) aj))) [some (pcD p)] S=.ok (decide (0<=p.1) && decide (p.1<=1)) S:=az (ax (ag i0 (ag rfl ai)) (ez _ _ S));have e2:ao (am bZ (ac (dOp ixD (aa 0) (dC (.int 1))) (ac (dC k_TOP_CELL) aj))) [some (pcD p)] S=.ok (p.2.all fun i=>decide (0<=i) && decide (i<=255)) S:=az (ax (ag i1 (ag rfl ai)) (tJ _ _ (by omega) S));have e3:dOp leD (am bC (ac (dOp ixD (aa 0) (dC (.int 1))) aj)) (dC k_MOST_PIECE_LETTERS) [some (pcD p)] S=.ok (.bl (decide (p.2.length<=8))) S:=by
  refine au (ax (ag i1 ai) (cm _)) rfl ?_;rw[xD,List.length_map];congr 2;rw[decide_eq_decide];omega
 obtain⟨b2,hb2⟩:∃b2,(p.2.all fun i=>decide (0<=i) && decide (i<=255))=b2:=⟨_,rfl⟩;rw[hb2] at e2 ⊢;have hd:decide (0<=p.1/\p.1<=1)=(decide (0<=p.1) && decide (p.1<=1)):=by simp
 rw[hd];obtain⟨b1,hb1⟩:∃b1,(decide (0<=p.1) && decide (p.1<=1))=b1:=⟨_,rfl⟩;rw[hb1] at e1 ⊢;rw[aR (d:=.bl (b1 && b2 && decide (p.2.length<=8))) (S1:=S)]
 ·exact bB (by simp[wfD])
 ·rw[ia,aw,e1];cases b1 with
  |false=>rfl
  |true=>
   show j1 _ _ _ S=_;rw[ia,aw,e2];cases b2 with
   |false=>rfl
   |true=>exact e3
theorem Ay(bs:List Int)(hl:bs.length<=1000)(S:List Cell):iE [.tup (bs.map D.int)] S=.ok (.bl ((bs.all fun i=>decide (0<=i) && decide (i<=1)) && decide (bs.length<=7))) S:=by
 show cN S (gm [some (.tup (bs.map D.int))] S)=_;unfold gm;have e2:ao (am bZ (ac (aa 0) (ac (dC (.int 1)) aj))) [some (.tup (bs.map D.int))] S=.ok (bs.all fun i=>decide (0<=i) && decide (i<=1)) S:=az (ax (ag rfl (ag rfl ai)) (tJ _ _ (by omega) S));have e3:dOp leD (am bC (ac (aa 0) aj)) (dC k_MOST_BITS) [some (.tup (bs.map D.int))] S=.ok (.bl (decide (bs.length<=7))) S:=by
  refine au (ax (ag rfl ai) (cm _)) rfl ?_;rw[xD,List.length_map];congr 2;rw[decide_eq_decide];omega
 obtain⟨b2,hb2⟩:∃b2,(bs.all fun i=>decide (0<=i) && decide (i<=1))=b2:=⟨_,rfl⟩;rw[hb2] at e2 ⊢;rw[aR (d:=.bl (b2 && decide (bs.length<=7))) (S1:=S)]
 ·exact bB (by simp[wfD])
 ·rw[ia,aw,e2];cases b2 with
  |false=>rfl
  |true=>exact e3
theorem all_in{l:List Int}{t:Int}:(l.all fun i=>decide (0<=i) && decide (i<=t))=true↔∀x,x∈l->0<=x/\x<=t:=by
 rw[List.all_eq_true];constructor
 ·intro h x hx;have:=h x hx;simp at this;exact this
 ·intro h x hx;simp[h x hx]
theorem wx{c:Card}(hop:c.opn'<=65535)(hz:∀o n p,c=.data o n p->p.2.length<=1000)(hz2:∀o n bs,c=.note o n bs->bs.length<=1000)(h:¬okC c)(S:List Cell):cR [cardD c] S=.ok (.bl false) S:=by
 show cN S (eO [some (cardD c)] S)=_;unfold eO;have ht:tyN S (cardD c)=some "tuple":=by cases c<;>rfl
 have i1:dOp ixD (aa 0) (dC (.int 1)) [some (cardD c)] S=.ok (.int (c.opn':Int)) S:=au rfl rfl (uX c S);have i0:dOp ixD (aa 0) (dC (.int 0)) [some (cardD c)] S=.ok (.str c.kn) S:=au rfl rfl (vb c S);have len:am bC (ac (aa 0) aj) [some (cardD c)] S=.ok (.int (if c.ki<3 then 2 else 4)) S:=by
  refine ax (ag rfl ai) ?_;cases c<;>rfl
 have tt:bU (dIs "tuple" (aa 0)) [some (cardD c)] S=.ok true S:=by
  show((isD "tuple" (cardD c)).bind qD) S=_;rw[aw];simp only[isD,ht];rfl
 have t1:dOr (dh (bU (dIs "tuple" (aa 0)))) (dOr (ao (dOp ltD (am bC (ac (aa 0) aj)) (dC (.int 2)))) (dh (bU (am aT (ac (dOp ixD (aa 0) (dC (.int 1))) (ac (dC k_TOP_OPENING) aj)))))) [some (cardD c)] S=.ok false S:=by
  have u1:ao (dOp ltD (am bC (ac (aa 0) aj)) (dC (.int 2))) [some (cardD c)] S=.ok false S:=by
   refine az (au len rfl ?_);rw[qA,decide_eq_false (by split<;>omega)]
  have u2:bU (am aT (ac (dOp ixD (aa 0) (dC (.int 1))) (ac (dC k_TOP_OPENING) aj))) [some (cardD c)] S=.ok true S:=by
   rw[dc,aw,ax (ag i1 (ag rfl ai)) (ez (c.opn':Int) 65535 S),decide_eq_true (show(0:Int)<=(c.opn':Int) by omega),decide_eq_true (show(c.opn':Int)<=65535 by omega)];rfl
  rw[eQ,aw,dl,aw,tt];show dOr _ _ _ S=_;rw[eQ,aw,u1];show dh _ _ S=_;rw[dl,aw,u2];rfl
 have t2:ao (dOp inD (dOp ixD (aa 0) (dC (.int 0))) (dC eo)) [some (cardD c)] S=.ok (decide (c.ki<3)) S:=az (au i0 rfl (pH c S));rw[av (by rw[ay t1];rfl)];have t6:ao (dOp eqD (dOp ixD (aa 0) (dC (.int 0))) (dC (.str "data"))) [some (cardD c)] S=.ok (decide (c.ki=3)) S:=az (au i0 rfl (mw c S));have t7:ao (dOp eqD (dOp ixD (aa 0) (dC (.int 0))) (dC (.str "note"))) [some (cardD c)] S=.ok (decide (c.ki=4)) S:=az (au i0 rfl (my c S));cases c with
 |hello o=>exact absurd hop h
 |welcome o=>exact absurd hop h
 |who o=>exact absurd hop h
 |data o n p=>
  rw[av (by rw[ay t2];rfl)];have t5:ao (dOp neD (am bC (ac (aa 0) aj)) (dC (.int 4))) [some (cardD (.data o n p))] S=.ok false S:=az (au len rfl (iN 4 4));have i2:dOp ixD (aa 0) (dC (.int 2)) [some (cardD (.data o n p))] S=.ok (.int (n:Int)) S:=rfl;have i3:dOp ixD (aa 0) (dC (.int 3)) [some (cardD (.data o n p))] S=.ok (pcD p) S:=rfl;have u2:bU (am aT (ac (dOp ixD (aa 0) (dC (.int 2))) (ac (dC k_TOP_NUMBER) aj))) [some (cardD (.data o n p))] S=.ok (decide (n<=13)) S:=by
   rw[dc,aw,ax (ag i2 (ag rfl ai)) (ez (n:Int) 13 S),decide_eq_true (show(0:Int)<=(n:Int) by omega)];show R.ok (true && decide ((n:Int)<=13)) S=_;rw[Bool.true_and];congr 1;rw[decide_eq_decide];omega
  have t8:dOr (ao (dOp neD (am bC (ac (aa 0) aj)) (dC (.int 4)))) (dh (bU (am aT (ac (dOp ixD (aa 0) (dC (.int 2))) (ac (dC k_TOP_NUMBER) aj))))) [some (cardD (.data o n p))] S=.ok (!decide (n<=13)) S:=by
   rw[eQ,aw,t5];show dh _ _ S=_;rw[dl,aw,u2];rfl
  by_cases hn:n<=13
  ·rw[decide_eq_true hn] at t8;have hp:=yC p (hz o n p rfl) S;have hf:(decide (0<=p.1/\p.1<=1) && (p.2.all fun i=>decide (0<=i) && decide (i<=255)) && decide (p.2.length<=8))=false:=by
    rw[<-Bool.not_eq_true];intro z;simp only[Bool.and_eq_true,decide_eq_true_eq] at z;exact h ⟨hop,hn,z.1.1,z.2,all_in.mp z.1.2⟩
   rw[hf] at hp;rw[av (by rw[ay t8];rfl),cZ (by rw[bf t6];exact aR (ax (ag i3 ai) hp))];exact bB (by simp[wfD])
  ·rw[decide_eq_false hn] at t8;rw[cZ (by rw[bf t8];exact aR rfl)];exact bB (by simp[wfD])
 |note o n bs=>
  rw[av (by rw[ay t2];rfl)];have t5:ao (dOp neD (am bC (ac (aa 0) aj)) (dC (.int 4))) [some (cardD (.note o n bs))] S=.ok false S:=az (au len rfl (iN 4 4));have i2:dOp ixD (aa 0) (dC (.int 2)) [some (cardD (.note o n bs))] S=.ok (.int (n:Int)) S:=rfl;have i3:dOp ixD (aa 0) (dC (.int 3)) [some (cardD (.note o n bs))] S=.ok (.tup (bs.map D.int)) S:=rfl;have u2:bU (am aT (ac (dOp ixD (aa 0) (dC (.int 2))) (ac (dC k_TOP_NUMBER) aj))) [some (cardD (.note o n bs))] S=.ok (decide (n<=13)) S:=by
   rw[dc,aw,ax (ag i2 (ag rfl ai)) (ez (n:Int) 13 S),decide_eq_true (show(0:Int)<=(n:Int) by omega)];show R.ok (true && decide ((n:Int)<=13)) S=_;rw[Bool.true_and];congr 1;rw[decide_eq_decide];omega
  have t8:dOr (ao (dOp neD (am bC (ac (aa 0) aj)) (dC (.int 4)))) (dh (bU (am aT (ac (dOp ixD (aa 0) (dC (.int 2))) (ac (dC k_TOP_NUMBER) aj))))) [some (cardD (.note o n bs))] S=.ok (!decide (n<=13)) S:=by
   rw[eQ,aw,t5];show dh _ _ S=_;rw[dl,aw,u2];rfl
  by_cases hn:n<=13
  ·rw[decide_eq_true hn] at t8;have hp:=Ay bs (hz2 o n bs rfl) S;have hf:((bs.all fun i=>decide (0<=i) && decide (i<=1)) && decide (bs.length<=7))=false:=by
    rw[<-Bool.not_eq_true];intro z;simp only[Bool.and_eq_true,decide_eq_true_eq] at z;exact h ⟨hop,hn,z.2,all_in.mp z.1⟩
   rw[hf] at hp;rw[av (by rw[ay t8];rfl),av (by rw[ay t6];rfl),aR (d:=.bl false) (S1:=S)]
   ·exact bB (by simp[wfD])
   ·rw[ia,aw,t7];exact ax (ag i3 ai) hp
  ·rw[decide_eq_false hn] at t8;rw[cZ (by rw[bf t8];exact aR rfl)];exact bB (by simp[wfD])
end
end Lw
namespace Lw
open PySem L2 DL
section
variable{S:List Cell}{G:Cs}
def d4:Nat->Nat->Card
 |0,o=>.hello o
 |1,o=>.welcome o
 |2,o=>.who o
 |3,o=>.data o 0 (0,[])
 |_,o=>.note o 0 []
theorem uh{k:Nat}(h:k<=4)(o:Nat):(d4 k o).ki=k:=by
 match k,h with
 |0,_=>rfl
 |1,_=>rfl
 |2,_=>rfl
 |3,_=>rfl
 |4,_=>rfl
theorem yj{k:Nat}(h:k<=4)(o:Nat)(S:List Cell):ixD d3 (.int (k:Int)) S=.ok (.str (d4 k o).kn) S:=by
 match k,h with
 |0,_=>exact ba (i:=0) rfl
 |1,_=>exact ba (i:=1) rfl
 |2,_=>exact ba (i:=2) rfl
 |3,_=>exact ba (i:=3) rfl
 |4,_=>exact ba (i:=4) rfl
def gn(k o:Nat)(rest:List Int):D:=.tup (.str (d4 k o).kn :: .int (o:Int) :: rest.map D.int)
theorem AX{k o:Nat}(hk:k<=4)(ho:o<=65535){rest:List Int}(h:(k<3/\rest≠[])\/(3<=k/\rest.length≠2))(S:List Cell):cR [gn k o rest] S=.ok (.bl false) S:=by
 show cN S (eO [some (gn k o rest)] S)=_;unfold eO;have hki:=uh hk o;have i1:dOp ixD (aa 0) (dC (.int 1)) [some (gn k o rest)] S=.ok (.int (o:Int)) S:=au rfl rfl (ba (i:=1) rfl);have i0:dOp ixD (aa 0) (dC (.int 0)) [some (gn k o rest)] S=.ok (.str (d4 k o).kn) S:=au rfl rfl (ba (i:=0) rfl);have len:am bC (ac (aa 0) aj) [some (gn k o rest)] S=.ok (.int ((rest.length+2:Nat):Int)) S:=by
  refine ax (ag rfl ai) ?_;unfold gn;rw[cm];congr 2;simp;omega
 have tt:bU (dIs "tuple" (aa 0)) [some (gn k o rest)] S=.ok true S:=rfl;have t1:dOr (dh (bU (dIs "tuple" (aa 0)))) (dOr (ao (dOp ltD (am bC (ac (aa 0) aj)) (dC (.int 2)))) (dh (bU (am aT (ac (dOp ixD (aa 0) (dC (.int 1))) (ac (dC k_TOP_OPENING) aj)))))) [some (gn k o rest)] S=.ok false S:=by
  have u1:ao (dOp ltD (am bC (ac (aa 0) aj)) (dC (.int 2))) [some (gn k o rest)] S=.ok false S:=by
   refine az (au len rfl ?_);rw[qA,decide_eq_false (by omega)]
  have u2:bU (am aT (ac (dOp ixD (aa 0) (dC (.int 1))) (ac (dC k_TOP_OPENING) aj))) [some (gn k o rest)] S=.ok true S:=by
   rw[dc,aw,ax (ag i1 (ag rfl ai)) (ez (o:Int) 65535 S),decide_eq_true (show(0:Int)<=(o:Int) by omega),decide_eq_true (show(o:Int)<=65535 by omega)];rfl
  rw[eQ,aw,dl,aw,tt];show dOr _ _ _ S=_;rw[eQ,aw,u1];show dh _ _ S=_;rw[dl,aw,u2];rfl
 have t2:ao (dOp inD (dOp ixD (aa 0) (dC (.int 0))) (dC eo)) [some (gn k o rest)] S=.ok (decide (k<3)) S:=by
  have:=pH (d4 k o) S;rw[hki] at this;exact az (au i0 rfl this)
 rw[av (by rw[ay t1];rfl)];by_cases hk3:k<3
 ·rw[decide_eq_true hk3] at t2;have hr:rest≠[]:=by
   rcases h with h|h
   ·exact h.2
   ·omega
  have hl:0<rest.length:=List.length_pos_iff.mpr hr;rw[cZ (by rw[bf t2];exact aR (d:=.bl false) (au len rfl (by rw[jB,decide_eq_false (by omega)])))];exact bB (by simp[wfD])
 ·rw[decide_eq_false hk3] at t2;rw[av (by rw[ay t2];rfl)];have hr:rest.length≠2:=by
   rcases h with h|h
   ·omega
   ·exact h.2
  have t5:ao (dOp neD (am bC (ac (aa 0) aj)) (dC (.int 4))) [some (gn k o rest)] S=.ok true S:=az (au len rfl (by rw[iN,decide_eq_false (by omega)];rfl));have t8:dOr (ao (dOp neD (am bC (ac (aa 0) aj)) (dC (.int 4)))) (dh (bU (am aT (ac (dOp ixD (aa 0) (dC (.int 2))) (ac (dC k_TOP_NUMBER) aj))))) [some (gn k o rest)] S=.ok true S:=by
   rw[eQ,aw,t5];rfl
  rw[cZ (by rw[bf t8];exact aR rfl)];exact bB (by simp[wfD])
def nQ(k o:Nat)(rest:List Int):D:=match k,rest with
 |3,n :: f :: l=>.tup [.str "data",.int (o:Int),.int n,.tup [.int f,.tup (l.map D.int)]]
 |4,n :: bs=>.tup [.str "note",.int (o:Int),.int n,.tup (bs.map D.int)]
 |k,rest=>gn k o rest
theorem sR(z k o:Nat)(rest:List Int):wfD z (nQ k o rest):=by
 unfold nQ;split<;>simp[gn,wfD,iZ,de]
theorem yf{k hi lo:Nat}(hk:k<=4){rest:List Int}(hr:rest.length<=1000)(S:List Cell) :
  gq [.tup (((k:Int) :: (hi:Int) :: (lo:Int) :: rest).map D.int)] S=.ok (nQ k (hi * 256+lo) rest) S:=by
 obtain⟨o,ho⟩:∃o,hi * 256+lo=o:=⟨_,rfl⟩;rw[ho];obtain⟨cs,hcs⟩:∃cs,(k:Int) :: (hi:Int) :: (lo:Int) :: rest=cs:=⟨_,rfl⟩;rw[hcs];have g0:∀S,ixD (.tup (cs.map D.int)) (.int 0) S=.ok (.int (k:Int)) S:=fun S=>by rw[<-hcs];exact ba (i:=0) rfl
 have g1:∀S,ixD (.tup (cs.map D.int)) (.int 1) S=.ok (.int (hi:Int)) S:=fun S=>by rw[<-hcs];exact ba (i:=1) rfl
 have g2:∀S,ixD (.tup (cs.map D.int)) (.int 2) S=.ok (.int (lo:Int)) S:=fun S=>by rw[<-hcs];exact ba (i:=2) rfl
 have hdrop:cs.drop 3=rest:=by rw[<-hcs];rfl
 have hcl:3<=cs.length:=by rw[<-hcs];simp
 show cN S (eT [some (.tup (cs.map D.int)),none,none,none] S)=_;unfold eT;have e1:dOp ixD (dC d3) (dOp ixD (aa 0) (dC (.int 0))) [some (.tup (cs.map D.int)),none,none,none] S=.ok (.str (d4 k o).kn) S:=au rfl (au rfl rfl (g0 S)) (yj hk o S);have e2:dOp bP (dOp gX (dOp ixD (aa 0) (dC (.int 1))) (dC (.int 256))) (dOp ixD (aa 0) (dC (.int 2))) [some (.tup (cs.map D.int)),some (.str (d4 k o).kn),none,none] S=.ok (.int (o:Int)) S:=by
  refine au (au (au rfl rfl (g1 S)) rfl (ie (.inr ⟨by decide,by decide⟩))) (au rfl rfl (g2 S)) ?_;rw[cy];congr 2;omega
 rw[av (bD e1)];show cN S (aJ _ _ [some (.tup (cs.map D.int)),some (.str (d4 k o).kn),none,none] S)=_;rw[av (bD e2)];show cN S (aJ _ _ [some (.tup (cs.map D.int)),some (.str (d4 k o).kn),some (.int (o:Int)),none] S)=_;have e3:dSl slD (aa 0) (bQ (dC k_HEAD_CELLS)) bN [some (.tup (cs.map D.int)),some (.str (d4 k o).kn),some (.int (o:Int)),none] S=.ok (.tup (rest.map D.int)) S:=by
  simp only[lh,jR,List.getElem?_cons_succ,List.getElem?_cons_zero,aw,dZ,kq,fC,fY,ug,slD];rw[show(3:Int)=((3:Nat):Int) from rfl,eR (by rw[List.length_map];omega),<-List.map_drop,hdrop]
 rw[av (bD e3)];show cN S (aJ _ _ [some (.tup (cs.map D.int)),some (.str (d4 k o).kn),some (.int (o:Int)),some (.tup (rest.map D.int))] S)=_;have hki:=uh hk o;have t6:ao (dOp eqD (aa 1) (dC (.str "data"))) [some (.tup (cs.map D.int)),some (.str (d4 k o).kn),some (.int (o:Int)),some (.tup (rest.map D.int))] S=.ok (decide (k=3)) S:=by
  have:=mw (d4 k o) S;rw[hki] at this;exact az (au rfl rfl this)
 have t7:ao (dOp eqD (aa 1) (dC (.str "note"))) [some (.tup (cs.map D.int)),some (.str (d4 k o).kn),some (.int (o:Int)),some (.tup (rest.map D.int))] S=.ok (decide (k=4)) S:=by
  have:=my (d4 k o) S;rw[hki] at this;exact az (au rfl rfl this)
 have n2:ao (dOp geD (am bC (ac (aa 3) aj)) (dC (.int 2))) [some (.tup (cs.map D.int)),some (.str (d4 k o).kn),some (.int (o:Int)),some (.tup (rest.map D.int))] S=.ok (decide (2<=rest.length)) S:=by
  refine az (au (ax (ag rfl ai) (cm _)) rfl ?_);rw[vY,List.length_map];congr 2;rw[decide_eq_decide];omega
 have n1:ao (dOp geD (am bC (ac (aa 3) aj)) (dC (.int 1))) [some (.tup (cs.map D.int)),some (.str (d4 k o).kn),some (.int (o:Int)),some (.tup (rest.map D.int))] S=.ok (decide (1<=rest.length)) S:=by
  refine az (au (ax (ag rfl ai) (cm _)) rfl ?_);rw[vY,List.length_map];congr 2;rw[decide_eq_decide];omega
 have t9:dr (ao (dOp eqD (aa 1) (dC (.str "data")))) (ao (dOp geD (am bC (ac (aa 3) aj)) (dC (.int 2)))) [some (.tup (cs.map D.int)),some (.str (d4 k o).kn),some (.int (o:Int)),some (.tup (rest.map D.int))] S=.ok (decide (k=3) && decide (2<=rest.length)) S:=by
  rw[cX,aw,t6];cases decide (k=3) with
  |false=>rfl
  |true=>exact n2
 have t10:dr (ao (dOp eqD (aa 1) (dC (.str "note")))) (ao (dOp geD (am bC (ac (aa 3) aj)) (dC (.int 1)))) [some (.tup (cs.map D.int)),some (.str (d4 k o).kn),some (.int (o:Int)),some (.tup (rest.map D.int))] S=.ok (decide (k=4) && decide (1<=rest.length)) S:=by
  rw[cX,aw,t7];cases decide (k=4) with
  |false=>rfl
  |true=>exact n1
 have last:bM (dOp bP (cf (ac (aa 1) (ac (aa 2) aj))) (aa 3)) [some (.tup (cs.map D.int)),some (.str (d4 k o).kn),some (.int (o:Int)),some (.tup (rest.map D.int))] S=some (.rt (gn k o rest),S):=
  aR (au (bL (ag rfl (ag rfl ai)) (by simp)) rfl (gj (by simp;omega)))
 by_cases h3:k=3/\2<=rest.length
 ·obtain⟨rfl,hl⟩:=h3
  match rest,hl with
  |n :: f :: l,_=>
   rw[decide_eq_true (show(3:Nat)=3 from rfl),decide_eq_true (show 2<=(n :: f :: l).length by simp)] at t9;have c2:dSl slD (aa 3) (bQ (dC (.int 2))) bN [some (.tup (cs.map D.int)),some (.str (d4 3 o).kn),some (.int (o:Int)),some (.tup ((n :: f :: l).map D.int))] S=.ok (.tup (l.map D.int)) S:=by
    simp only[lh,jR,List.getElem?_cons_succ,List.getElem?_cons_zero,aw,dZ,kq,fC,fY,ug,slD];rw[show(2:Int)=((2:Nat):Int) from rfl,eR (by simp)];rfl
   rw[cZ (by rw[bf t9];exact aR (bL (ag rfl (ag rfl (ag (x:=.int n) (au rfl rfl (ba (i:=0) rfl)) (ag (bL (ag (x:=.int f) (au rfl rfl (ba (i:=1) rfl)) (ag c2 ai)) (by simp)) ai)))) (by simp)))];exact bB (sR S.length 3 o (n :: f :: l))
 ·have f9:(decide (k=3) && decide (2<=rest.length))=false:=by
   rw[<-Bool.not_eq_true];simpa using h3
  rw[f9] at t9;rw[av (by rw[ay t9];rfl)];by_cases h4:k=4/\1<=rest.length
  ·obtain⟨rfl,hl⟩:=h4
   match rest,hl with
   |n :: bs,_=>
    rw[decide_eq_true (show(4:Nat)=4 from rfl),decide_eq_true (show 1<=(n :: bs).length by simp)] at t10;have c2:dSl slD (aa 3) (bQ (dC (.int 1))) bN [some (.tup (cs.map D.int)),some (.str (d4 4 o).kn),some (.int (o:Int)),some (.tup ((n :: bs).map D.int))] S=.ok (.tup (bs.map D.int)) S:=by
     simp only[lh,jR,List.getElem?_cons_succ,List.getElem?_cons_zero,aw,dZ,kq,fC,fY,ug,slD];rw[show(1:Int)=((1:Nat):Int) from rfl,eR (by simp)];rfl
    rw[cZ (by rw[bf t10];exact aR (bL (ag rfl (ag rfl (ag (x:=.int n) (au rfl rfl (ba (i:=0) rfl)) (ag c2 ai)))) (by simp)))];exact bB (sR S.length 4 o (n :: bs))
  ·have f10:(decide (k=4) && decide (1<=rest.length))=false:=by
    rw[<-Bool.not_eq_true];simpa using h4
   rw[f10] at t10;rw[av (by rw[ay t10];rfl),last];have:nQ k o rest=gn k o rest:=by
    unfold nQ;split
    ·exact absurd ⟨rfl,by simp⟩ h3
    ·exact absurd ⟨rfl,by simp⟩ h4
    ·rfl
   rw[this];exact bB (by rw[<-this];exact sR _ _ _ _)
theorem Ax{k hi lo:Nat}(hk:k<=4)(hhi:hi<=255)(hlo:lo<=255){rest:List Int}(hr:rest.length<=1000)(hin:∀x,x∈rest->0<=x)(hno:∀c,okC c->aA c≠(k:Int) :: (hi:Int) :: (lo:Int) :: rest)(S:List Cell) :
  cR [nQ k (hi * 256+lo) rest] S=.ok (.bl false) S:=by
 obtain⟨o,ho⟩:∃o,hi * 256+lo=o:=⟨_,rfl⟩;have ho5:o<=65535:=by omega
 have hd:((o:Int) / 256)=hi/\((o:Int) % 256)=lo:=by omega
 rw[ho];unfold nQ;split
 ·rename_i n f l;have hn:=hin n (by simp);have hnn:(n.toNat:Int)=n:=Int.toNat_of_nonneg hn;have:=wx (c:=.data o n.toNat (f,l)) ho5 (fun a b p e=>by cases e;simp at hr ⊢;omega) (fun a b p e=>by cases e) (fun z=>hno _ z (by simp[aA,hd,hnn])) S;have e:cardD (.data o n.toNat (f,l))=.tup [.str "data",.int (o:Int),.int n,.tup [.int f,.tup (l.map D.int)]]:=by simp only[cardD,pcD,hnn]
  rw[e] at this;exact this
 ·rename_i n bs;have hn:=hin n (by simp);have hnn:(n.toNat:Int)=n:=Int.toNat_of_nonneg hn;have:=wx (c:=.note o n.toNat bs) ho5 (fun a b p e=>by cases e) (fun a b p e=>by cases e;simp at hr ⊢;omega) (fun z=>hno _ z (by simp[aA,hd,hnn])) S;have e:cardD (.note o n.toNat bs)=.tup [.str "note",.int (o:Int),.int n,.tup (bs.map D.int)]:=by simp only[cardD,hnn]
  rw[e] at this;exact this
 ·rename_i h3 h4;refine AX hk ho5 ?_ S
  match k,hk with
  |0,_=>exact .inl ⟨by decide,fun z=>hno (.hello o) ho5 (by simp[aA,hd,z])⟩
  |1,_=>exact .inl ⟨by decide,fun z=>hno (.welcome o) ho5 (by simp[aA,hd,z])⟩
  |2,_=>exact .inl ⟨by decide,fun z=>hno (.who o) ho5 (by simp[aA,hd,z])⟩
  |3,_=>exact .inr ⟨by decide,fun z=>by
    match rest,z with
    |[n,f],_=>exact h3 n f [] rfl rfl⟩
  |4,_=>exact .inr ⟨by decide,fun z=>by
    match rest,z with
    |[n,f],_=>exact h4 n [f] rfl rfl⟩
theorem Ak{xs:List Int}(hl:xs.length<=1000)(h:∀c,okC c->chk (aA c)≠xs)(S:List Cell):kG G [.tup (xs.map D.int)] S=.exc G.NoStrip S:=by
 show cN S (lY G [some (.tup (xs.map D.int)),none,none] S)=_;unfold lY;have u1:bU (am bZ (ac (aa 0) (ac (dC k_TOP_CELL) aj))) [some (.tup (xs.map D.int)),none,none] S=.ok (xs.all fun i=>decide (0<=i) && decide (i<=255)) S:=by
  rw[dc,aw,ax (ag rfl (ag rfl ai)) (tJ xs 255 (by omega) S)];rfl
 have u2:ao (dOp ltD (am bC (ac (aa 0) aj)) (dOp bP (dC k_HEAD_CELLS) (dC k_CHECK_CELLS))) [some (.tup (xs.map D.int)),none,none] S=.ok (decide (xs.length<5)) S:=by
  refine az (au (ax (ag rfl ai) (cm _)) (au rfl rfl (cy _ _)) ?_);rw[qA,List.length_map];congr 2;rw[decide_eq_decide];omega
 have raise1:∀{t:TSt},dOr (dh (bU (am bZ (ac (aa 0) (ac (dC k_TOP_CELL) aj))))) (dOr (ao (dOp ltD (am bC (ac (aa 0) aj)) (dOp bP (dC k_HEAD_CELLS) (dC k_CHECK_CELLS)))) (ao (dOp geD (dOp ixD (aa 0) (dC (.int 0))) (am bC (ac (dC d3) aj))))) [some (.tup (xs.map D.int)),none,none] S=.ok true S->
   cN S (aJ (sIf (dOr (dh (bU (am bZ (ac (aa 0) (ac (dC k_TOP_CELL) aj))))) (dOr (ao (dOp ltD (am bC (ac (aa 0) aj)) (dOp bP (dC k_HEAD_CELLS) (dC k_CHECK_CELLS)))) (ao (dOp geD (dOp ixD (aa 0) (dC (.int 0))) (am bC (ac (dC d3) aj)))))) (nD G.NoStrip (dC (.str "these are not the cells of a strip"))) bF) t [some (.tup (xs.map D.int)),none,none] S)=.exc G.NoStrip S:=by
  intro t a;rw[px,bf a];rfl
 cases hrow:(xs.all fun i=>decide (0<=i) && decide (i<=255)) with
 |false=>
  rw[hrow] at u1;refine raise1 ?_;rw[eQ,aw,dl,aw,u1];rfl
 |true=>
  rw[hrow] at u1;have hin:=all_in.mp hrow;by_cases h5:xs.length<5
  ·rw[decide_eq_true h5] at u2;refine raise1 ?_;rw[eQ,aw,dl,aw,u1];show dOr _ _ _ S=_;rw[eQ,aw,u2];rfl
  ·rw[decide_eq_false h5] at u2
   match xs,h5,hl,h,hin,u1,u2,@raise1 with
   |k :: hi :: lo :: a :: b :: tl,_,hl,h,hin,u1,u2,raise1=>
    obtain⟨xs,hxs⟩:∃xs,k :: hi :: lo :: a :: b :: tl=xs:=⟨_,rfl⟩;have hk0:=hin k (by simp);have hhi0:=hin hi (by simp);have hlo0:=hin lo (by simp);have hxl:5<=xs.length:=by rw[<-hxs];simp
    have i0:dOp ixD (aa 0) (dC (.int 0)) [some (.tup (xs.map D.int)),none,none] S=.ok (.int k) S:=by rw[<-hxs];exact au rfl rfl (ba (i:=0) rfl)
    rw[hxs] at hl h hin u1 u2 raise1 ⊢;have u3:ao (dOp geD (dOp ixD (aa 0) (dC (.int 0))) (am bC (ac (dC d3) aj))) [some (.tup (xs.map D.int)),none,none] S=.ok (decide (5<=k)) S:=az (au i0 (ax (ag rfl ai) (cm _)) (vY _ _));have t1:dOr (dh (bU (am bZ (ac (aa 0) (ac (dC k_TOP_CELL) aj))))) (dOr (ao (dOp ltD (am bC (ac (aa 0) aj)) (dOp bP (dC k_HEAD_CELLS) (dC k_CHECK_CELLS)))) (ao (dOp geD (dOp ixD (aa 0) (dC (.int 0))) (am bC (ac (dC d3) aj))))) [some (.tup (xs.map D.int)),none,none] S=.ok (decide (5<=k)) S:=by
     rw[eQ,aw,dl,aw,u1];show dOr _ _ _ S=_;rw[eQ,aw,u2];exact u3
    by_cases hk5:5<=k
    ·rw[decide_eq_true hk5] at t1;exact raise1 t1
    ·rw[decide_eq_false hk5] at t1;rw[av (by rw[ay t1];rfl)];obtain⟨cs,hcs⟩:∃cs,xs.take (xs.length-2)=cs:=⟨_,rfl⟩;have e1:dSl slD (aa 0) bN (bQ (dUn AU (dC k_CHECK_CELLS))) [some (.tup (xs.map D.int)),none,none] S=.ok (.tup (cs.map D.int)) S:=by
      show R.ok (D.tup (eu (xs.map D.int) none (some (-2)))) S=_;rw[rW (by rw[List.length_map];omega),List.length_map,<-List.map_take,hcs]
     rw[av (bD e1)];show cN S (aJ _ _ [some (.tup (xs.map D.int)),some (.tup (cs.map D.int)),none] S)=_;have hcsl:cs.length=xs.length-2:=by rw[<-hcs,List.length_take];omega
     have t2:ao (dOp neD (aa 0) (am cE (ac (aa 1) aj))) [some (.tup (xs.map D.int)),some (.tup (cs.map D.int)),none] S=.ok (!decide (xs=chk cs)) S:=
      az (au rfl (ax (ag rfl ai) (ni _ (by omega) S)) (zj S xs (chk cs)))
     by_cases hck:xs=chk cs
     ·rw[decide_eq_true hck] at t2;rw[av (by rw[ay t2];rfl)];obtain⟨kN,hkN⟩:∃kN:Nat,k=kN:=⟨k.toNat,by omega⟩;obtain⟨hN,hhN⟩:∃hN:Nat,hi=hN:=⟨hi.toNat,by omega⟩;obtain⟨lN,hlN⟩:∃lN:Nat,lo=lN:=⟨lo.toNat,by omega⟩;subst hkN hhN hlN;obtain⟨rest,hrest⟩:∃rest,cs=(kN:Int) :: (hN:Int) :: (lN:Int) :: rest:=by
       rw[<-hcs,<-hxs];exact⟨(a :: b :: tl).take (tl.length),by simp⟩
      have hrl:rest.length<=1000:=by rw[hrest] at hcsl;simp at hcsl;omega
      have hrin:∀x,x∈rest->0<=x:=fun x hx=>(hin x (by
       have:x∈cs:=by rw[hrest];simp[hx]
       rw[<-hcs] at this;exact List.mem_of_mem_take this)).1
      have fg:=yf (k:=kN) (hi:=hN) (lo:=lN) (by omega) hrl S;have fn:=Ax (k:=kN) (hi:=hN) (lo:=lN) (by omega) (by omega) (by omega) hrl hrin (fun c hc z=>h c hc (by rw[z,<-hrest];exact hck.symm)) S;rw[<-hrest] at fg;obtain⟨dd,hdd⟩:∃dd,nQ kN (hN * 256+lN) rest=dd:=⟨_,rfl⟩;rw[hdd] at fg fn;rw[av (bD (ax (ag rfl ai) fg))];show cN S (aJ _ _ [some (.tup (xs.map D.int)),some (.tup (cs.map D.int)),some dd] S)=_;have t3:dh (bU (am cR (ac (aa 2) aj))) [some (.tup (xs.map D.int)),some (.tup (cs.map D.int)),some dd] S=.ok true S:=by
       rw[dl,aw,dc,aw,ax (ag rfl ai) fn];rfl
      rw[px,bf t3];rfl
     ·rw[decide_eq_false hck] at t2;rw[px,bf t2];rfl
end
end Lw
namespace Lw
open PySem L2 DL
theorem wg{xs cs:List Int}(h:xs=chk cs):cs=xs.take (xs.length-2)/\xs[xs.length-2]?=some (cs.sum % 256)/\xs[xs.length-1]?=some (wgh (cs++[cs.sum % 256]) % 256)/\xs.length=cs.length+2:=by
 have hl:=mi cs;rw[<-h] at hl;refine⟨?_,?_,?_,hl⟩
 ·rw[show xs.length-2=cs.length by omega,h,lV]
 ·rw[show xs.length-2=cs.length by omega,h];unfold chk;rw[List.append_assoc,List.getElem?_append_right (Nat.le_refl _)];simp
 ·rw[show xs.length-1=cs.length+1 by omega,h];unfold chk;rw[List.getElem?_append_right (by simp)];simp
theorem wp:∀{l:List Int}{i:Nat}{a v:Int},l[i]?=some a->(l.set i v).sum=l.sum-a+v
 |[],_,_,_,h=>by simp at h
 |x :: l,0,a,v,h=>by
  simp at h;subst h;simp only[List.set_cons_zero,List.sum_cons];omega
 |x :: l,i+1,a,v,h=>by
  have:=wp (l:=l) (i:=i) (a:=a) (v:=v) (by simpa using h);simp only[List.set_cons_succ,List.sum_cons,this];omega
theorem BZ{cs:List Int}{i:Nat}{a v:Int}(ha:(chk cs)[i]?=some a)(hv:¬(v-a) % 256=0):∀cs',chk cs'≠(chk cs).set i v:=by
 intro cs' h;obtain⟨n,hn⟩:∃n,cs.length=n:=⟨_,rfl⟩;obtain⟨h1,h2,h3,h4⟩:=wg h.symm;obtain⟨g1,g2,g3,g4⟩:=wg (rfl:chk cs=chk cs);rw[List.length_set,g4] at h1 h2 h3 h4;rw[g4] at g1 g2 g3;have hi:=(List.getElem?_eq_some_iff.mp ha).1;rw[g4] at hi;simp only[show cs.length+2-2=cs.length by omega,show cs.length+2-1=cs.length+1 by omega] at *;by_cases c1:i<cs.length
 ·have hcs':cs'=cs.set i v:=by
   rw[h1,List.take_set,lV]
  have hai:cs[i]?=some a:=by
   rw[<-ha];unfold chk;rw[List.append_assoc,List.getElem?_append_left c1]
  have hs:=wp (v:=v) hai;rw[List.getElem?_set_ne (by omega),g2] at h2
  injection h2 with h2
  rw[hcs',hs] at h2;omega
 ·have hcs':cs'=cs:=by
   rw[h1,List.take_set_of_le (by omega),lV]
  by_cases c2:i=cs.length
  ·subst c2;rw[List.getElem?_set_self (by rw[g4];omega)] at h2;rw[ha] at g2
   injection h2 with h2
   injection g2 with g2
   rw[hcs'] at h2;omega
  ·have c3:i=cs.length+1:=by omega
   subst c3;rw[List.getElem?_set_self (by rw[g4];omega)] at h3;rw[ha] at g3
   injection h3 with h3
   injection g3 with g3
   rw[hcs'] at h3;omega
end Lw
namespace Lw
inductive TC where
 |hello (o:Nat)|data (o i:Nat)
 deriving DecidableEq
namespace TC
def op:TC->Nat
 |hello o=>o
 |data o _=>o
def rank:TC->Nat
 |hello o=>2 * o
 |data o _=>2 * o+1
end TC
inductive BC where
 |welcome (o:Nat)|who (o:Nat)|note (o j:Nat) (bs:List Int)
def BC.op:BC->Nat
 |welcome o=>o
 |who o=>o
 |note o _ _=>o
structure Sys where
 s:Sr
 h:Hr
 T:List TC
 B:List BC
 st:Nat->Nat
 tk:Nat->Nat
def mk(j:Nat)(bs:List Int)(x:Nat):Prop:=∃k,bs[k]?=some 1/\x=j+k
structure Cw where
 s:Sr
 h:Hr
 T:List Card
 B:List Card
namespace Sys
def P(x:Sys)(o:Nat):List Pc:=fl x.s.most (x.s.msgs.drop (x.st o))
def en(x:Sys)(o:Nat):Nat:=x.st o+lasts ((x.P o).take (x.tk o))
def run(x:Sys)(o:Nat):List (Nat×Msg):=((x.s.msgs.drop (x.st o)).take (lasts ((x.P o).take (x.tk o)))).map fun m=>(o,m)
end Sys
structure IvC(x:Sys):Prop where
 w0:0<x.s.w
 ww:x.h.w=x.s.w
 ps:x.s.st≠.shut->x.s.ps=x.P x.s.op/\1<=x.s.op
 op0:x.s.st=.opening->x.s.base=0/\x.s.noted=[]/\x.tk x.s.op=0/\(x.h.op=x.s.op->x.h.early=[])
 su:x.s.sure=x.st x.s.op+lasts ((x.P x.s.op).take x.s.base)
 sl:∀o,o<=x.s.op->x.st o<=x.s.msgs.length
 ch:∀o,1<=o->o<=x.s.op->∃o',o'<o/\x.st o<=x.en o'
 s0:x.st 0=0
 bt:x.s.base<=x.tk x.s.op
 tw:x.tk x.s.op<=x.s.base+x.s.w
 tl:∀o,x.tk o<=(x.P o).length
 tz:∀o,x.s.op<o->x.tk o=0
 t0:x.tk 0=0
 ho:x.h.op<=x.s.op
 hz:x.h.op=0->x.h.early=[]
 hn:x.h.nx=x.tk x.h.op
 hl:x.h.op≠0->∀o,x.h.op<o->x.tk o=0
 he:∀e,e∈x.h.early->(x.P x.h.op)[e.1]?=some e.2/\x.h.nx<e.1
 hd:(x.h.early.map (·.1)).Nodup
 hb:x.h.begun=(eat ((x.P x.h.op).take x.h.nx)).2
 hg:x.h.given=(List.range (x.s.op+1)).flatMap x.run
 ek:x.h.op=x.s.op->∀e,e∈x.h.early->e.1<x.s.base+x.s.w
 n0:x.s.op=0->x.s.noted=[]
structure IvT(x:Sys):Prop where
 so:x.T.Pairwise fun a b=>a.rank<=b.rank
 bd:∀c,c∈x.T->1<=c.op/\c.rank<=2 * x.s.op+1
 bo:x.s.st=.opening->∀c,c∈x.T->c.rank<=2 * x.s.op
 rt:∀o,0<x.tk o->∀c,c∈x.T->2 * o+1<=c.rank
 rh:∀c,c∈x.T->2 * x.h.op<=c.rank
 re:x.h.early≠[]->∀c,c∈x.T->2 * x.h.op+1<=c.rank
 r2:∀o i,TC.data o i∈x.T->i<(x.P o).length
 r3:∀o i,TC.hello o∈x.T->TC.data o i∈x.T->i<x.s.w
 r4:∀i,TC.data x.h.op i∈x.T->i<x.h.nx+x.s.w/\x.h.nx<=i+x.s.w/\∀e,e∈x.h.early->e.1<i+x.s.w
 r6:x.T.Pairwise fun a b=>∀o i j,a=TC.data o i->b=TC.data o j->i<j+x.s.w
 r7:∀i,TC.data x.s.op i∈x.T->i<x.s.base+x.s.w
structure IvB(x:Sys):Prop where
 bb:∀c,c∈x.B->1<=c.op/\c.op<=x.s.op
 bn:∀j bs,BC.note x.s.op j bs∈x.B->x.s.base<=j/\j<=x.tk x.s.op
 bp:x.B.Pairwise fun a b=>∀j bs j' bs',a=BC.note x.s.op j bs->b=BC.note x.s.op j' bs'->j<=j'/\¬mk j bs j'
 m1:x.h.op=x.s.op->(∀k,k∈x.s.noted->k<x.h.nx\/k∈x.h.early.map (·.1))/\∀j bs k,BC.note x.s.op j bs∈x.B->mk j bs k->k<x.h.nx\/k∈x.h.early.map (·.1)
 m2:∀k,k∈x.s.noted->k≠x.s.base/\∀j bs,BC.note x.s.op j bs∈x.B->k≠j
 m4:∀j bs,BC.note x.s.op j bs∈x.B->¬mk j bs j
 nh:TC.hello x.s.op∈x.T\/x.s.st=.opening->∀j bs,¬BC.note x.s.op j bs∈x.B
 nd:TC.hello x.s.op∈x.T->x.s.noted=[]
structure Iv(x:Sys):Prop where
 c:IvC x
 t:IvT x
 b:IvB x
def Sys.new(w most:Nat):Sys:=⟨Sr.new w most,Hr.new w,[],[],fun _=>0,fun _=>0⟩
section
variable{x:Sys}{m:Msg}
def Sys.hand(x:Sys)(m:Msg):Sys:={ x with s:=x.s.hand m }
end
end Lw
namespace Lw
section
variable{x:Sys}{m:Msg}
def Sys.anew(x:Sys):Sys:={ x with s:=x.s.anew,st:=fun o=>if o=x.s.op+1 then x.s.sure else x.st o }
end
end Lw
namespace Lw
section
variable{x:Sys}
theorem rg{α β:Type}(f:α->β):∀(l:List α) (k:Nat),(l.map f).eraseIdx k=(l.eraseIdx k).map f
 |[],_=>rfl
 |_ :: _,0=>rfl
 |a :: r,k+1=>by
  show f a :: (r.map f).eraseIdx k=f a :: (r.eraseIdx k).map f;rw[rg f r k]
theorem u6{s:Sr}{i:Nat}(h:i∈s.wanted):s.base<=i/\i<s.base+s.w/\i<s.ps.length/\i∉s.noted:=by
 unfold Sr.wanted at h;obtain⟨h1,h2⟩:=List.mem_filter.mp h;obtain⟨h3,h4⟩:=List.mem_range'_1.mp h1;refine⟨h3,by omega,by omega,by simpa using h2⟩
end
end Lw
namespace Lw
open PySem L2 DL
structure En where
 c:Card
 x:Option (List Int)
def En.xs(e:En):List Int:=match e.x with
 |none=>chk (aA e.c)
 |some xs=>xs
def gd(c:Card):En:=⟨c,none⟩
structure WW where
 s:Sr
 h:Hr
 T:List En
 B:List En
def gM(e:En)(place:Nat)(by_:Int):En:=match e.x with
 |some _=>e
 |none=>if by_ % 256=0 then e else ⟨e.c,some (e.xs.set (place % e.xs.length) ((e.xs.getD (place % e.xs.length) 0+by_) % 256))⟩
def pG(l:List En)(k place:Nat)(by_:Int):List En:=match l[k]? with
 |some e=>l.set k (gM e place by_)
 |none=>l
def xg(l:List En)(k:Nat):List En:=match l[k]? with
 |some e=>l.insertIdx k e
 |none=>l
inductive Act where
 |hand (m:Msg)|start|tick|step (r:Bool)|lose (r:Bool) (k:Nat)|dbl (r:Bool) (k:Nat)|spoil (r:Bool) (k place:Nat) (by_:Int)|fall (r:Bool)
namespace WW
def new(w most:Nat):WW:=⟨Sr.new w most,Hr.new w,[],[]⟩
def road(w:WW)(r:Bool):List En:=if r then w.T else w.B
def setR(w:WW)(r:Bool)(l:List En):WW:=if r then { w with T:=l } else { w with B:=l }
def arrive(w:WW)(r:Bool)(e:En):WW:=match e.x with
 |some _=>w
 |none=>if r then { w with h:=(w.h.hears e.c).1,B:=w.B++(w.h.hears e.c).2.map gd } else { w with s:=w.s.hears e.c }
def step(w:WW)(r:Bool):WW:=match w.road r with
 |[]=>w
 |e :: l=>(w.setR r l).arrive r e
def act(w:WW):Act->WW
 |.hand m=>{ w with s:=w.s.hand m }
 |.start=>{ w with s:=w.s.start }
 |.tick=>{ w with T:=w.T++w.s.tick.map gd }
 |.step r=>w.step r
 |.lose r k=>w.setR r ((w.road r).eraseIdx k)
 |.dbl r k=>w.setR r (xg (w.road r) k)
 |.spoil r k place by_=>w.setR r (pG (w.road r) k place by_)
 |.fall r=>if r then { w with s:=w.s.fall } else { w with h:=w.h.fall }
end WW
def okL(m:Msg):Prop:=∀x,x∈m->0<=x/\x<=255
def okE(N:Nat)(e:En):Prop:=okC e.c/\e.c.opn'<=N/\e.xs.length<=100/\∀xs,e.x=some xs->∀c,okC c->chk (aA c)≠xs
structure Wok(N:Nat)(w:WW):Prop where
 sb:Sb N w.s
 bl:Bl w.s
 w0:0<w.s.w
 w7:w.s.w<=7
 m8:w.s.most<=8
 hw:w.h.w=w.s.w
 bd:Bd N w.h
 op:w.s.op<=N
 ho:w.h.op<=N
 gk:∀m,m∈w.s.msgs->okL m
 pk:∀p,p∈w.s.ps->p.2.length<=8/\okL p.2
 tk:∀e,e∈w.T->okE N e
 bk:∀e,e∈w.B->okE N e
 tl:w.T.length<=8 * N
 ql:w.B.length<=8 * N
theorem okE.mono{N M:Nat}{e:En}(h:okE N e)(hm:N<=M):okE M e:=⟨h.1,Nat.le_trans h.2.1 hm,h.2.2⟩
theorem tW{N:Nat}{c:Card}(h:okC c)(ho:c.opn'<=N):okE N (gd c):=by
 have:=fR h;refine⟨h,ho,?_,fun xs z=>by cases z⟩;show(chk (aA c)).length<=100;rw[mi];omega
theorem Wok.mono{N M:Nat}{w:WW}(a:Wok N w)(h:N<=M):Wok M w:=
 ⟨a.sb.mono h,a.bl,a.w0,a.w7,a.m8,a.hw,a.bd.mono h,Nat.le_trans a.op h,Nat.le_trans a.ho h,a.gk,a.pk,fun e he=>(a.tk e he).mono h,fun e he=>(a.bk e he).mono h,by have:=a.tl;omega,by have:=a.ql;omega⟩
theorem pT{k:Nat}:∀(n:Nat) (m:Msg),m.length<=n->1<=k->∀p,p∈nJ k n m->p.2.length<=k/\∀x,x∈p.2->x∈m
 |0,m,hm,hk,p,hp=>by
  have:m=[]:=List.eq_nil_of_length_eq_zero (by omega);subst this;simp[nJ] at hp;subst hp;simp
 |n+1,m,hm,hk,p,hp=>by
  unfold nJ at hp;split at hp
  ·rcases List.mem_cons.mp hp with rfl|hp
   ·exact⟨by rw[List.length_take];omega,fun x hx=>List.mem_of_mem_take hx⟩
   ·have:=pT n (m.drop k) (by rw[List.length_drop];omega) hk p hp;exact⟨this.1,fun x hx=>List.mem_of_mem_drop (this.2 x hx)⟩
  ·simp at hp;subst hp;exact⟨by show m.length<=k;omega,fun x hx=>hx⟩
theorem wK{k:Nat}(hk:1<=k)(h8:k<=8){m:Msg}(hm:m.length<=40)(ho:okL m):∀p,p∈j8 k m->p.2.length<=8/\okL p.2:=fun p hp=>by
 have:=pT 100 m (by omega) hk p hp;exact⟨by omega,fun x hx=>ho x (this.2 x hx)⟩
section
variable{N:Nat}{w:WW}
theorem z9{a b:Nat}(h1:0<a)(h2:a<=7)(h3:1<=b)(h4:b<=8):Wok 0 (WW.new a b):=by
 refine⟨⟨h3,by simp[WW.new,Sr.new],by simp[WW.new,Sr.new],by simp[WW.new,Sr.new],by simp[WW.new,Sr.new],by simp[WW.new,Sr.new]⟩,Nat.zero_le _,h1,h2,h4,rfl,⟨by simp[WW.new,Hr.new],by simp[WW.new,Hr.new],by simp[WW.new,Hr.new]⟩,Nat.le_refl _,Nat.le_refl _,by simp[WW.new,Sr.new],by simp[WW.new,Sr.new],by simp[WW.new],by simp[WW.new],by simp[WW.new],by simp[WW.new]⟩
theorem zl(a:Wok N w){m:Msg}(hm:m.length<=40)(ho:okL m):Wok (N+1) (w.act (.hand m)):=by
 have a':=a.mono (Nat.le_succ N);refine⟨a.sb.hand hm,a.bl.hand m,a.w0,a.w7,a.m8,a.hw,a'.bd,a'.op,a'.ho,fun y hy=>?_,fun p hp=>?_,a'.tk,a'.bk,a'.tl,a'.ql⟩
 ·rcases List.mem_append.mp (show y∈w.s.msgs++[m] from hy) with hy|hy
  ·exact a.gk y hy
  ·rw[List.mem_singleton.mp hy];exact ho
 ·have hp':p∈(if w.s.st=.shut then w.s.ps else w.s.ps++j8 w.s.most m):=hp;split at hp'
  ·exact a.pk p hp'
  ·rcases List.mem_append.mp hp' with hp'|hp'
   ·exact a.pk p hp'
   ·exact wK a.sb.most a.m8 hm ho p hp'
theorem wB(a:Wok N w):∀p,p∈w.s.anew.ps->p.2.length<=8/\okL p.2:=fun p hp=>by
 obtain⟨m,hm,hp⟩:=List.mem_flatMap.mp (show p∈(w.s.msgs.drop w.s.sure).flatMap (j8 w.s.most) from hp);have hm':=List.mem_of_mem_drop hm;exact wK a.sb.most a.m8 (a.sb.m40 m hm') (a.gk m hm') p hp
theorem xi(a:Wok N w):Wok (N+1) (w.act .start):=by
 have a':=a.mono (Nat.le_succ N);by_cases h:w.s.st=.shut
 ·have e:w.act .start = { w with s:=w.s.anew }:=by show({ w with s:=w.s.start }:WW)=_;unfold Sr.start;rw[if_pos h]
  have hb:Sb (N+1) w.s.anew:=by
   have:=(a.sb.start (s:=w.s)).mono (Nat.le_succ N);unfold Sr.start at this;rw[if_pos h] at this;exact this
  rw[e];exact⟨hb,Bl.anew,a.w0,a.w7,a.m8,a.hw,a'.bd,by have:=a.op;show w.s.op+1<=_;omega,a'.ho,a.gk,wB a,a'.tk,a'.bk,a'.tl,a'.ql⟩
 ·have e:w.act .start=w:=by show({ w with s:=w.s.start }:WW)=_;unfold Sr.start;rw[if_neg h]
  rw[e];exact a'
theorem vi(s:Sr):s.wanted.length<=s.w:=by
 unfold Sr.wanted;refine Nat.le_trans (List.length_filter_le _ _) ?_;rw[List.length_range'];omega
theorem wy(a:Wok N w)(hN:N<=20000):(∀c,c∈w.s.tick->okC c/\c.opn'<=N)/\w.s.tick.length<=7:=by
 have ho:=a.op;have hw:=a.w7;have h0:=a.w0;unfold Sr.tick;cases w.s.st with
 |shut=>exact⟨fun c hc=>by simp at hc,by simp⟩
 |opening=>exact⟨fun c hc=>by simp at hc;subst hc;exact⟨(show w.s.op<=65535 by omega),ho⟩,by simp⟩
 |opened=>
  refine⟨fun c hc=>?_,by rw[List.length_map];have:=vi w.s;omega⟩;obtain⟨i,hi,rfl⟩:=List.mem_map.mp hc;obtain⟨h1,h2,h3,h4⟩:=u6 hi;have hget:w.s.ps.getD i (0,[])∈w.s.ps:=by
   rw[List.getD_eq_getElem?_getD,List.getElem?_eq_getElem h3];exact List.getElem_mem h3
  have hf:=a.sb.fg _ hget;have hp:=a.pk _ hget;have hm:=Nat.mod_lt i (show 0<2 * w.s.w by omega);exact⟨⟨by omega,by omega,by omega,hp.1,hp.2⟩,ho⟩
theorem zo(a:Wok N w)(hN:N<=20000):Wok (N+1) (w.act .tick):=by
 have a':=a.mono (Nat.le_succ N);obtain⟨h1,h2⟩:=wy a hN;refine⟨a'.sb,a'.bl,a.w0,a.w7,a.m8,a.hw,a'.bd,a'.op,a'.ho,a.gk,a.pk,fun e he=>?_,a'.bk,?_,a'.ql⟩
 ·rcases List.mem_append.mp (show e∈w.T++w.s.tick.map gd from he) with he|he
  ·exact a'.tk e he
  ·obtain⟨c,hc,rfl⟩:=List.mem_map.mp he;exact(tW (h1 c hc).1 (h1 c hc).2).mono (Nat.le_succ _)
 ·show(w.T++w.s.tick.map gd).length<=_;have:=a.tl;rw[List.length_append,List.length_map];omega
theorem Wok.rd(a:Wok N w)(r:Bool):∀e,e∈w.road r->okE N e:=by
 cases r with
 |true=>exact a.tk
 |false=>exact a.bk
theorem Wok.rl(a:Wok N w)(r:Bool):(w.road r).length<=8 * N:=by
 cases r with
 |true=>exact a.tl
 |false=>exact a.ql
theorem Wok.setR(a:Wok N w)(r:Bool){l:List En}(h1:∀e,e∈l->okE N e)(h2:l.length<=8 * N):Wok N (w.setR r l):=by
 cases r with
 |true=>exact⟨a.sb,a.bl,a.w0,a.w7,a.m8,a.hw,a.bd,a.op,a.ho,a.gk,a.pk,h1,a.bk,h2,a.ql⟩
 |false=>exact⟨a.sb,a.bl,a.w0,a.w7,a.m8,a.hw,a.bd,a.op,a.ho,a.gk,a.pk,a.tk,h1,a.tl,h2⟩
theorem yy(a:Wok N w)(r:Bool)(k:Nat):Wok N (w.act (.lose r k)):=by
 refine a.setR r (fun e he=>a.rd r e (List.mem_of_mem_eraseIdx he)) ?_;have:=List.length_eraseIdx_le (w.road r) k;have:=a.rl r;omega
theorem ka{α:Type}:∀{l:List α}{k:Nat}{x y:α},y∈l.insertIdx k x->y=x\/y∈l
 |l,0,x,y,h=>by simpa using h
 |[],k+1,x,y,h=>by simp at h
 |z :: l,k+1,x,y,h=>by
  rw[List.insertIdx_succ_cons] at h;rcases List.mem_cons.mp h with rfl|h
  ·exact .inr List.mem_cons_self
  ·rcases ka h with h|h
   ·exact .inl h
   ·exact .inr (List.mem_cons_of_mem _ h)
theorem wu(a:Wok N w)(r:Bool)(k:Nat):Wok (N+1) (w.act (.dbl r k)):=by
 have a':=a.mono (Nat.le_succ N);have hl:=a.rl r;refine a'.setR r (fun e he=>?_) ?_
 ·unfold xg at he;split at he
  ·rename_i e' h';rcases ka he with rfl|he
   ·exact a'.rd r e (List.mem_of_getElem? h')
   ·exact a'.rd r e he
  ·exact a'.rd r e he
 ·unfold xg;split
  ·exact Nat.le_trans List.length_insertIdx_le_succ (by omega)
  ·omega
theorem uL(a:Wok N w)(hN:N<=20000){c:Card}(hc:okC c)(hcn:c.opn'<=N):(∀d,d∈(w.h.hears c).2->okC d/\d.opn'<=N)/\(w.h.hears c).2.length<=1/\(w.h.hears c).1.op<=N:=by
 have ho:=a.ho;have hw:=a.hw;have h7:=a.w7;have h0:=a.w0;have note_ok:∀h:Hr,h.op<=N->h.w=w.s.w->okC h.note/\h.note.opn'<=N:=by
  intro h h1 h2;refine⟨⟨by omega,?_,?_,fun x hx=>?_⟩,h1⟩
  ·have:=Nat.mod_lt h.nx (show 0<2 * h.w by omega);omega
  ·show h.bits.length<=7;unfold Hr.bits;rw[List.length_map,List.length_range];omega
  ·obtain⟨k,_,rfl⟩:=List.mem_map.mp (show x∈h.bits from hx);split<;>omega
 cases c with
 |hello o=>
  have ho5:o<=65535:=hc;have hon:o<=N:=hcn;dsimp only[Hr.hears];split
  ·exact⟨fun d hd=>by simp at hd,by simp,ho⟩
  ·split
   ·exact⟨fun d hd=>by simp at hd;subst hd;exact⟨ho5,hon⟩,by simp,hon⟩
   ·exact⟨fun d hd=>by simp at hd;subst hd;exact⟨ho5,hon⟩,by simp,ho⟩
 |data o n p=>
  have ho5:=hc.1;have hon:o<=N:=hcn;dsimp only[Hr.hears];split
  ·exact⟨fun d hd=>by simp at hd,by simp,ho⟩
  ·split
   ·exact⟨fun d hd=>by simp at hd;subst hd;exact⟨ho5,hon⟩,by simp,ho⟩
   ·have e1:(w.h.data n p).op=w.h.op:=by
     unfold Hr.data;have t:∀(k:Nat) (h:Hr),(Hr.takeAll k h).op=h.op:=by
      intro k
      induction k with
      |zero=>intro h;rfl
      |succ k ih=>
       intro h;unfold Hr.takeAll;split
       ·rfl
       ·rw[ih];unfold Hr.take;split<;>rfl
     rw[t];unfold Hr.keep;split<;>rfl
    have e2:=sM w.h n p;refine⟨fun d hd=>?_,by simp,by rw[e1];exact ho⟩;simp at hd;subst hd;exact note_ok _ (by rw[e1];exact ho) (by rw[e2];exact hw)
 |welcome o=>exact⟨fun d hd=>by simp[Hr.hears] at hd,by simp[Hr.hears],ho⟩
 |who o=>exact⟨fun d hd=>by simp[Hr.hears] at hd,by simp[Hr.hears],ho⟩
 |note o n bs=>exact⟨fun d hd=>by simp[Hr.hears] at hd,by simp[Hr.hears],ho⟩
theorem okC.cOk{c:Card}(h:okC c):cOk c:=by
 cases c with
 |data o n p=>exact Nat.le_trans h.2.2.2.1 (by decide)
 |_=>trivial
theorem okC.cOkS{c:Card}(h:okC c):cOkS c:=by
 cases c with
 |note o n bs=>exact h.2.2.1
 |_=>trivial
theorem sO(s:Sr)(n:Nat)(bs:List Int):(s.hearsNote n bs).ps=s.ps/\(s.hearsNote n bs).op=s.op/\(s.hearsNote n bs).msgs=s.msgs/\(s.hearsNote n bs).most=s.most:=by
 unfold Sr.hearsNote;split
 ·have:=dq bs (s.moveB (cY n s.base s.w).toNat) 0;exact⟨this.2.2.2.2.2.2.1,this.2.2.2.2.1,this.2.2.1,this.2.1⟩
 ·exact⟨rfl,rfl,rfl,rfl⟩
theorem xm(a:Wok N w)(c:Card):(∀p,p∈(w.s.hears c).ps->p.2.length<=8/\okL p.2)/\(w.s.hears c).op<=N+1/\(w.s.hears c).msgs=w.s.msgs/\(w.s.hears c).most=w.s.most:=by
 have ho:=a.op;cases c with
 |welcome o=>
  dsimp only[Sr.hears];split
  ·exact⟨a.pk,by show w.s.op<=_;omega,rfl,rfl⟩
  ·exact⟨a.pk,by omega,rfl,rfl⟩
 |who o=>
  dsimp only[Sr.hears];split
  ·exact⟨wB a,by show w.s.op+1<=_;omega,rfl,rfl⟩
  ·exact⟨a.pk,by omega,rfl,rfl⟩
 |note o n bs=>
  dsimp only[Sr.hears];split
  ·obtain⟨e1,e2,e3,e4⟩:=sO w.s n bs;rw[e1,e2,e3,e4];exact⟨a.pk,by omega,rfl,rfl⟩
  ·exact⟨a.pk,by omega,rfl,rfl⟩
 |hello o=>exact⟨a.pk,by show w.s.op<=_;omega,rfl,rfl⟩
 |data o n p=>exact⟨a.pk,by show w.s.op<=_;omega,rfl,rfl⟩
theorem v7(a:Wok N w)(hN:N<=20000)(r:Bool){e:En}(he:okE N e):Wok (N+1) (w.arrive r e):=by
 have a':=a.mono (Nat.le_succ N);obtain⟨c,x⟩:=e;cases x with
 |some xs=>exact a'
 |none=>
  cases r with
  |true=>
   obtain⟨k1,k2,k3⟩:=uL a hN he.1 he.2.1;refine⟨a'.sb,a'.bl,a.w0,a.w7,a.m8,(Ag w.h c).trans a.hw,a.bd.hears he.1.cOk,a'.op,Nat.le_succ_of_le k3,a.gk,a.pk,a'.tk,fun d hd=>?_,a'.tl,?_⟩
   ·rcases List.mem_append.mp (show d∈w.B++(w.h.hears c).2.map gd from hd) with hd|hd
    ·exact a'.bk d hd
    ·obtain⟨q,hq,rfl⟩:=List.mem_map.mp hd;exact(tW (k1 q hq).1 (k1 q hq).2).mono (Nat.le_succ _)
   ·show(w.B++(w.h.hears c).2.map gd).length<=_;have:=a.ql;have k2':(w.h.hears c).2.length<=1:=k2;rw[List.length_append,List.length_map];omega
  |false=>
   obtain⟨k1,k2,k3,k4⟩:=xm a c;have hw:=yk w.s c;refine⟨a.sb.hears he.1.cOkS,a.bl.hears a.w0 c,by rw[show(w.arrive false ⟨c,none⟩).s=w.s.hears c from rfl,hw];exact a.w0,by rw[show(w.arrive false ⟨c,none⟩).s=w.s.hears c from rfl,hw];exact a.w7,by rw[show(w.arrive false ⟨c,none⟩).s=w.s.hears c from rfl,k4];exact a.m8,by rw[show(w.arrive false ⟨c,none⟩).s=w.s.hears c from rfl,hw];exact a.hw,a'.bd,k2,a'.ho,fun m hm=>a.gk m (by rw[<-k3];exact hm),k1,a'.tk,a'.bk,a'.tl,a'.ql⟩
theorem ic(w:WW)(r:Bool)(l:List En):(w.setR r l).road r=l:=by cases r<;>rfl
theorem yu(a:Wok N w)(hN:N<=20000)(r:Bool):Wok (N+1) (w.act (.step r)):=by
 show Wok (N+1) (w.step r);unfold WW.step;cases h:w.road r with
 |nil=>exact a.mono (Nat.le_succ N)
 |cons e l=>
  have h1:=a.rd r;have h2:=a.rl r;rw[h] at h1 h2;rw[List.length_cons] at h2;exact v7 (a.setR r (fun d hd=>h1 d (List.mem_cons_of_mem _ hd)) (by omega)) hN r (h1 e List.mem_cons_self)
theorem yo{e:En}(he:okE N e)(place:Nat)(by_:Int):okE N (gM e place by_):=by
 obtain⟨c,x⟩:=e;cases x with
 |some xs=>exact he
 |none=>
  unfold gM;dsimp only;split
  ·exact he
  ·rename_i hb;have hcl:3<=(aA c).length/\(aA c).length<=13:=fR he.1;have hxs:(⟨c,none⟩:En).xs=chk (aA c):=rfl;have hln:=mi (aA c);refine⟨he.1,he.2.1,?_,?_⟩
   ·show(((⟨c,none⟩:En).xs).set _ _).length<=100;rw[List.length_set,hxs,hln];omega
   ·intro xs hx c' hc'
    injection hx with hx
    rw[<-hx,hxs];obtain⟨i,hi⟩:∃i,place % (chk (aA c)).length=i:=⟨_,rfl⟩;have hlt:i<(chk (aA c)).length:=by rw[<-hi];exact Nat.mod_lt _ (by omega)
    rw[hi];have hin:=yi (sg he.1);obtain⟨a,ha⟩:∃a,(chk (aA c))[i]?=some a:=⟨_,List.getElem?_eq_getElem hlt⟩;have hga:(chk (aA c)).getD i 0=a:=by rw[List.getD_eq_getElem?_getD,ha];rfl
    rw[hga];exact BZ ha (by omega) (aA c')
theorem xI(a:Wok N w)(r:Bool)(k place:Nat)(by_:Int):Wok N (w.act (.spoil r k place by_)):=by
 have hl:=a.rl r;refine a.setR r (fun e he=>?_) ?_
 ·unfold pG at he;split at he
  ·rename_i e' h';rcases List.mem_or_eq_of_mem_set he with he|rfl
   ·exact a.rd r e he
   ·exact yo (a.rd r e' (List.mem_of_getElem? h')) place by_
  ·exact a.rd r e he
 ·unfold pG;split
  ·rw[List.length_set];exact hl
  ·exact hl
theorem za(a:Wok N w)(r:Bool):Wok N (w.act (.fall r)):=by
 cases r with
 |true=>exact⟨a.sb.fall,a.bl,a.w0,a.w7,a.m8,a.hw,a.bd,a.op,a.ho,a.gk,a.pk,a.tk,a.bk,a.tl,a.ql⟩
 |false=>exact⟨a.sb,a.bl,a.w0,a.w7,a.m8,a.hw,a.bd.begin_ 0,a.op,Nat.zero_le _,a.gk,a.pk,a.tk,a.bk,a.tl,a.ql⟩
def Act.ok:Act->Prop
 |.hand m=>m.length<=40/\okL m
 |_=>True
theorem oP(a:Wok N w)(hN:N<=20000)(t:Act)(ht:t.ok):Wok (N+1) (w.act t):=by
 cases t with
 |hand m=>exact zl a ht.1 ht.2
 |start=>exact xi a
 |tick=>exact zo a hN
 |step r=>exact yu a hN r
 |lose r k=>exact(yy a r k).mono (Nat.le_succ N)
 |dbl r k=>exact wu a r k
 |spoil r k p b=>exact(xI a r k p b).mono (Nat.le_succ N)
 |fall r=>exact(za a r).mono (Nat.le_succ N)
end
end Lw
namespace Lw
open PySem L2 DL
structure Ad where
 n:Nat
 nS:Nat
 mS:Nat
 pS:Nat
 qS:Nat
 nH:Nat
 gH:Nat
 eH:Nat
 bH:Nat
 nR:Nat
 nT:Nat
 nB:Nat
def Ad.sf(a:Ad):List Nat:=[a.nS,a.mS,a.pS,a.qS]
def Ad.hf(a:Ad):List Nat:=[a.nH,a.gH,a.eH,a.bH]
def Ad.wf(a:Ad):List Nat:=[a.n,a.nR,a.nT,a.nB]
def Ad.fp(a:Ad):List Nat:=a.sf++a.hf++a.wf
def Ad.rn(a:Ad)(r:Bool):Nat:=if r then a.nT else a.nB
def aZ(r:Bool):Str:=if r then "there" else "back"
def enD(e:En):D:=.tup [.tup (e.xs.map D.int),.bl e.x.isSome]
structure WAt(G:Cs)(S:List Cell)(a:Ad)(w:WW):Prop where
 ob:S[a.n]?=some (.ins G.World ns_World [.ob a.nS,.ob a.nH,.ob a.nR])
 sr:SrAt G S a.nS a.mS a.pS a.qS w.s
 hr:HrAt G S a.nH a.gH a.eH a.bH w.h
 rd:S[a.nR]?=some (.dic [(.inr "there",.ob a.nT),(.inr "back",.ob a.nB)])
 tt:S[a.nT]?=some (.lst (w.T.map enD))
 bb:S[a.nB]?=some (.lst (w.B.map enD))
 sh:∀i,i∈a.sf->∀j,j∈a.hf->i≠j
 sw:∀i,i∈a.sf->∀j,j∈a.wf->i≠j
 hw:∀i,i∈a.hf->∀j,j∈a.wf->i≠j
 tb:a.nT≠a.nB
structure WTo(G:Cs)(a:Ad)(S:List Cell)(a':Ad)(S':List Cell)(w':WW):Prop where
 at_:WAt G S' a' w'
 fr:Fr a.fp S S'
 nn:a'.n=a.n
 ad:∀i,i∈a'.fp->i∈a.fp\/S.length<=i
section
variable{G:Cs}{S S' S1 S2:List Cell}{a a' a1 a2:Ad}{w w' w1 w2:WW}{N:Nat}
theorem qT{i p q r s:Nat}:i∈[p,q,r,s]↔i=p\/i=q\/i=r\/i=s:=by simp
theorem WAt.lt(A:WAt G S a w):∀i,i∈a.fp->i<S.length:=by
 intro i hi;simp only[Ad.fp,Ad.sf,Ad.hf,Ad.wf,List.mem_append,qT] at hi;rcases hi with ((rfl|rfl|rfl|rfl)|(rfl|rfl|rfl|rfl))|(rfl|rfl|rfl|rfl)
 ·exact bx A.sr.ob
 ·exact bx A.sr.ms
 ·exact bx A.sr.ps
 ·exact bx A.sr.nt
 ·exact bx A.hr.ob
 ·exact bx A.hr.gv
 ·exact bx A.hr.ea
 ·exact bx A.hr.be
 ·exact bx A.ob
 ·exact bx A.rd
 ·exact bx A.tt
 ·exact bx A.bb
theorem Ad.s_fp{a:Ad}{i:Nat}(h:i∈a.sf):i∈a.fp:=by simp only[Ad.fp,List.mem_append];exact .inl (.inl h)
theorem Ad.h_fp{a:Ad}{i:Nat}(h:i∈a.hf):i∈a.fp:=by simp only[Ad.fp,List.mem_append];exact .inl (.inr h)
theorem Ad.w_fp{a:Ad}{i:Nat}(h:i∈a.wf):i∈a.fp:=by simp only[Ad.fp,List.mem_append];exact .inr h
theorem SrAt.fr{n m p q:Nat}{s:Sr}{fp:List Nat}(a:SrAt G S n m p q s)(f:Fr fp S S')(h:∀i,i∈[n,m,p,q]->i∉fp):SrAt G S' n m p q s:=
 ⟨f.get a.ob (h _ (by simp)),f.get a.ms (h _ (by simp)),f.get a.ps (h _ (by simp)),f.get a.nt (h _ (by simp)),a.mp⟩
theorem WAt.fr{fp:List Nat}(A:WAt G S a w)(f:Fr fp S S')(h:∀i,i∈a.fp->i∉fp):WAt G S' a w:=by
 have hs:∀i,i∈a.sf->i∉fp:=fun i hi=>h i (Ad.s_fp hi)
 have hh:∀i,i∈a.hf->i∉fp:=fun i hi=>h i (Ad.h_fp hi)
 have hw:∀i,i∈a.wf->i∉fp:=fun i hi=>h i (Ad.w_fp hi)
 exact⟨f.get A.ob (hw _ (by simp[Ad.wf])),A.sr.fr f hs,A.hr.fr f (hh _ (by simp[Ad.hf])) (hh _ (by simp[Ad.hf])) (hh _ (by simp[Ad.hf])) (hh _ (by simp[Ad.hf])),f.get A.rd (hw _ (by simp[Ad.wf])),f.get A.tt (hw _ (by simp[Ad.wf])),f.get A.bb (hw _ (by simp[Ad.wf])),A.sh,A.sw,A.hw,A.tb⟩
theorem WAt.push(A:WAt G S a w)(c:List Cell):WAt G (S++c) a w:=A.fr (fp:=[]) Fr.push fun _ _ z=>nomatch z
theorem WTo.refl(A:WAt G S a w):WTo G a S a S w:=⟨A,Fr.refl _ _,rfl,fun i hi=>.inl hi⟩
theorem WTo.push(A:WTo G a S a' S' w')(c:List Cell):WTo G a S a' (S'++c) w':=⟨A.at_.push c,A.fr.tr Fr.push,A.nn,A.ad⟩
theorem WTo.trans(A:WTo G a S a1 S1 w1)(C:WTo G a1 S1 a2 S2 w2):WTo G a S a2 S2 w2:=by
 have hl:=A.fr.1;refine⟨C.at_,A.fr.trans C.fr fun i hi hs=>?_,C.nn.trans A.nn,fun i hi=>?_⟩
 ·rcases A.ad i hi with h|h
  ·exact h
  ·omega
 ·rcases C.ad i hi with h|h
  ·exact A.ad i h
  ·exact .inr (by omega)
theorem WAt.snd(A:WAt G S a w){p' q':Nat}{s':Sr}(k:SrTo G a.nS a.mS a.pS a.qS S p' q' S' s'):WTo G a S { a with pS:=p',qS:=q' } S' { w with s:=s' }:=by
 have ltw:∀i,i∈a.wf->i<S.length:=fun i hi=>A.lt i (Ad.w_fp hi)
 have lth:∀i,i∈a.hf->i<S.length:=fun i hi=>A.lt i (Ad.h_fp hi)
 have hnew:∀i,i∈[a.nS,a.mS,p',q']->i∈a.sf\/S.length<=i:=fun i hi=>by
  have h1:=k.p_;have h2:=k.q_;simp only[qT,Ad.sf] at hi ⊢;rcases hi with rfl|rfl|rfl|rfl
  ·exact .inl (.inl rfl)
  ·exact .inl (.inr (.inl rfl))
  ·rcases h1 with rfl|h1
   ·exact .inl (.inr (.inr (.inl rfl)))
   ·exact .inr h1
  ·rcases h2 with rfl|h2
   ·exact .inl (.inr (.inr (.inr rfl)))
   ·exact .inr h2
 have ow:∀j,j∈a.wf->j∉[a.nS,a.mS,a.pS,a.qS]:=fun j hj z=>A.sw j z j hj rfl
 have oh:∀j,j∈a.hf->j∉[a.nS,a.mS,a.pS,a.qS]:=fun j hj z=>A.sh j z j hj rfl
 refine⟨⟨k.fr.get A.ob (ow _ (by simp[Ad.wf])),k.at_,A.hr.fr k.fr (oh _ (by simp[Ad.hf])) (oh _ (by simp[Ad.hf])) (oh _ (by simp[Ad.hf])) (oh _ (by simp[Ad.hf])),k.fr.get A.rd (ow _ (by simp[Ad.wf])),k.fr.get A.tt (ow _ (by simp[Ad.wf])),k.fr.get A.bb (ow _ (by simp[Ad.wf])),fun i hi j hj=>?_,fun i hi j hj=>?_,A.hw,A.tb⟩,k.fr.mono (fun i hi _=>Ad.s_fp hi),rfl,fun i hi=>?_⟩
 ·rcases hnew i hi with h|h
  ·exact A.sh i h j hj
  ·have:=lth j hj;omega
 ·rcases hnew i hi with h|h
  ·exact A.sw i h j hj
  ·have:=ltw j hj;omega
 ·simp only[Ad.fp,List.mem_append] at hi ⊢;rcases hi with (hi|hi)|hi
  ·rcases hnew i hi with h|h
   ·exact .inl (.inl (.inl h))
   ·exact .inr h
  ·exact .inl (.inl (.inr hi))
  ·exact .inl (.inr hi)
theorem WAt.hea(A:WAt G S a w){e' b':Nat}{h':Hr}(k:HrTo G a.nH a.gH a.eH a.bH S e' b' S' h'):WTo G a S { a with eH:=e',bH:=b' } S' { w with h:=h' }:=by
 have ltw:∀i,i∈a.wf->i<S.length:=fun i hi=>A.lt i (Ad.w_fp hi)
 have lts:∀i,i∈a.sf->i<S.length:=fun i hi=>A.lt i (Ad.s_fp hi)
 have hnew:∀i,i∈[a.nH,a.gH,e',b']->i∈a.hf\/S.length<=i:=fun i hi=>by
  have h1:=k.e_;have h2:=k.b_;simp only[qT,Ad.hf] at hi ⊢;rcases hi with rfl|rfl|rfl|rfl
  ·exact .inl (.inl rfl)
  ·exact .inl (.inr (.inl rfl))
  ·rcases h1 with rfl|h1
   ·exact .inl (.inr (.inr (.inl rfl)))
   ·exact .inr h1
  ·rcases h2 with rfl|h2
   ·exact .inl (.inr (.inr (.inr rfl)))
   ·exact .inr h2
 have ow:∀j,j∈a.wf->j∉[a.nH,a.gH,a.eH,a.bH]:=fun j hj z=>A.hw j z j hj rfl
 have os:∀j,j∈a.sf->j∉[a.nH,a.gH,a.eH,a.bH]:=fun j hj z=>A.sh j hj j z rfl
 refine⟨⟨k.fr.get A.ob (ow _ (by simp[Ad.wf])),A.sr.fr k.fr os,k.at_,k.fr.get A.rd (ow _ (by simp[Ad.wf])),k.fr.get A.tt (ow _ (by simp[Ad.wf])),k.fr.get A.bb (ow _ (by simp[Ad.wf])),fun i hi j hj=>?_,A.sw,fun i hi j hj=>?_,A.tb⟩,k.fr.mono (fun i hi _=>Ad.h_fp hi),rfl,fun i hi=>?_⟩
 ·rcases hnew j hj with h|h
  ·exact A.sh i hi j h
  ·have:=lts i hi;omega
 ·rcases hnew i hi with h|h
  ·exact A.hw i h j hj
  ·have:=ltw j hj;omega
 ·simp only[Ad.fp,List.mem_append] at hi ⊢;rcases hi with (hi|hi)|hi
  ·exact .inl (.inl (.inl hi))
  ·rcases hnew i hi with h|h
   ·exact .inl (.inl (.inr h))
   ·exact .inr h
  ·exact .inl (.inr hi)
theorem WAt.cell(A:WAt G S a w)(r:Bool):S[a.rn r]?=some (.lst ((w.road r).map enD)):=by
 cases r with
 |true=>exact A.tt
 |false=>exact A.bb
theorem Ad.rn_wf(a:Ad)(r:Bool):a.rn r∈a.wf:=by cases r<;>simp[Ad.rn,Ad.wf]
theorem WAt.rod(A:WAt G S a w)(r:Bool){l:List En}(c:Ch (a.rn r) (.lst (l.map enD)) S S'):WTo G a S a S' (w.setR r l):=by
 have hm:=a.rn_wf r;have os:∀j,j∈a.sf->j∉[a.rn r]:=fun j hj z=>A.sw j hj _ hm (List.mem_singleton.mp z)
 have oh:∀j,j∈a.hf->j∉[a.rn r]:=fun j hj z=>A.hw j hj _ hm (List.mem_singleton.mp z)
 have nR:a.rn r≠a.nR:=dA (A.cell r) A.rd (by intro z;cases z);have nn:a.rn r≠a.n:=dA (A.cell r) A.ob (by intro z;cases z);refine⟨⟨?_,?_,?_,?_,?_,?_,A.sh,A.sw,A.hw,A.tb⟩,c.fr.mono (fun i hi _=>by rw[List.mem_singleton.mp hi];exact Ad.w_fp hm),rfl,fun i hi=>.inl hi⟩
 ·exact c.old A.ob nn
 ·cases r<;>exact A.sr.fr c.fr os
 ·cases r<;>exact A.hr.fr c.fr (oh _ (by simp[Ad.hf])) (oh _ (by simp[Ad.hf])) (oh _ (by simp[Ad.hf])) (oh _ (by simp[Ad.hf]))
 ·exact c.old A.rd nR
 ·cases r with
  |true=>exact c.at_
  |false=>exact c.old A.tt (Ne.symm A.tb)
 ·cases r with
  |true=>exact c.old A.bb A.tb
  |false=>exact c.at_
theorem BL(A:WAt G S a w)(r:Bool):gp (.ob a.nR) (.str (aZ r)) S=.ok (.ob (a.rn r)) S:=by
 unfold gp;have h:dD S a.nR=some [(.inr "there",.ob a.nT),(.inr "back",.ob a.nB)]:=by unfold dD;rw[A.rd]
 cases r with
 |true=>
  have:gZ [(.inr "there",.ob a.nT),(.inr "back",.ob a.nB)] (.inr "there")=some (.ob a.nT):=by
   unfold gZ;rw[List.find?_cons];simp
  simp only[hZ,h,aZ,if_true,this];rfl
 |false=>
  have e:decide ((Sum.inr ("there":Str):Key)=Sum.inr ("back":Str))=false:=by decide +kernel
  have:gZ [(.inr "there",.ob a.nT),(.inr "back",.ob a.nB)] (.inr "back")=some (.ob a.nB):=by
   unfold gZ;rw[List.find?_cons,e];simp
  simp only[hZ,h,aZ,this,Bool.false_eq_true,if_false];rfl
theorem n6(A:WAt G S a w)(r:Bool)(rest:DSt):dOp gp (aB G.World ns_World 2 (aa 0)) (aa 1) (some (.ob a.n) :: some (.str (aZ r)) :: rest) S=.ok (.ob (a.rn r)) S:=
 au (bK rfl A.ob rfl) rfl (BL A r)
theorem sv(A:WAt G S a w)(r:Bool)(k:Nat):aW G [.ob a.n,.str (aZ r),.int (k:Int)] S=.ok (.bl (decide (k<(w.road r).length))) S:=by
 show fin S (eL G [some (.ob a.n),some (.str (aZ r)),some (.int (k:Int))] S)=_;unfold eL;have e1:am bC (ac (dOp gp (aB G.World ns_World 2 (aa 0)) (aa 1)) aj) [some (.ob a.n),some (.str (aZ r)),some (.int (k:Int))] S=.ok (.int ((w.road r).length:Int)) S:=by
  refine ax (ag (n6 A r _) ai) ?_;rw[kh (A.cell r),List.length_map]
 rw[aR (d:=.bl (decide (k<(w.road r).length))) (S1:=S)]
 ·rfl
 ·rw[zu,aw];simp only[ug];rw[aw];show(((leD (.int 0) (.int (k:Int))).bind bof).bind _) S=_;rw[aw,aw,xD,decide_eq_true (show(0:Int)<=(k:Int) by omega)];simp only[CD,if_true];rw[aw,e1];simp only[qA];congr 2;rw[decide_eq_decide];omega
theorem wb(A:WAt G S a w)(r:Bool){l:Nat}{cs:List Card}(hl:S[l]?=some (.lst (cs.map cardD)))(hlr:l≠a.rn r)(hc:∀c,c∈cs->okC c)(hz:(w.road r).length+cs.length<=1000000) :
  ∃S',bV G [.ob a.n,.str (aZ r),.ob l] S=.ok .non S'/\WTo G a S a S' (w.setR r (w.road r++cs.map gd)):=by
 show ∃S',fin S (d6 G [some (.ob a.n),some (.str (aZ r)),some (.ob l),none] S)=_/\_;unfold d6;have hw:dWk (aa 2) [some (.ob a.n),some (.str (aZ r)),some (.ob l),none] S=.ok ⟨cs.map cardD,some (l,cs.map cardD)⟩ S:=by
  rw[nL,aw];show lr (.ob l) S=_;simp only[lr,hl]
 obtain⟨r',S',q,x3,rfl,k,_⟩:=eN (g:=some (l,cs.map cardD)) (tg:=gN 3) (b:=dG G)
  (fun i r' S'=>∃x3,r'=[some (.ob a.n),some (.str (aZ r)),some (.ob l),x3]/\WTo G a S a S' (w.setR r (w.road r++(cs.take i).map gd))/\S'[l]?=some (.lst (cs.map cardD))) (cs.map cardD) 0 [some (.ob a.n),some (.str (aZ r)),some (.ob l),none] S
  (by
   rintro i y r' S' hy ⟨x3,rfl,k,hl'⟩;rw[List.getElem?_map] at hy;cases hp:cs[i]? with
   |none=>rw[hp] at hy;cases hy
   |some c=>
    rw[hp] at hy;cases hy;rw[Nat.zero_add] at k ⊢;have hil:=(List.getElem?_eq_some_iff.mp hp).1;have hok:=hc c (List.mem_of_getElem? hp);have k':=k.at_;have hcell:=k'.cell r;rw[ic] at hcell;obtain⟨S2,e2,c2⟩:=tF (fo:=dOp gp (aB G.World ns_World 2 (aa 0)) (aa 1)) (ft:=ac (cf (ac (am (jw G) (ac (aa 3) aj)) (ac (dC (.bl false)) aj))) aj) (r:=[some (.ob a.n),some (.str (aZ r)),some (.ob l),some (cardD c)]) (d:=enD (gd c))
     (n6 k' r _) hcell (ag (bL (ag (ax (ag rfl ai) (vT hok _)) (ag rfl ai)) (by simp)) ai) (by rw[List.length_map,List.length_append,List.length_map,List.length_take];omega)
    have c3:Ch (a.rn r) (.lst ((w.road r++(cs.take (i+1)).map gd).map enD)) S' S2:=by
     have e:(w.road r++(cs.take (i+1)).map gd).map enD=(w.road r++(cs.take i).map gd).map enD++[enD (gd c)]:=by rw[List.take_add_one,hp];simp
     rw[e];exact c2
    have kk:=k.trans (k'.rod r c3);have hset:(w.setR r (w.road r++(cs.take i).map gd)).setR r (w.road r++(cs.take (i+1)).map gd)=w.setR r (w.road r++(cs.take (i+1)).map gd):=by cases r<;>rfl
    rw[hset] at kk;refine⟨[some (.ob a.n),some (.str (aZ r)),some (.ob l),some (cardD c)],[some (.ob a.n),some (.str (aZ r)),some (.ob l),some (cardD c)],S2,rfl,?_,c3.old hl' (Ne.symm hlr),some (cardD c),rfl,kk,c3.old hl' (Ne.symm hlr)⟩;unfold dG;exact aY e2)
  ⟨none,rfl,by
   have:w.setR r (w.road r++(cs.take 0).map gd)=w:=by cases r<;>simp[WW.setR,WW.road]
   rw[this];exact WTo.refl A,hl⟩
 rw[show 0+(cs.map cardD).length=cs.length by simp,List.take_length] at k;refine⟨S',?_,k⟩;rw[m0 hw,q];rfl
theorem zN(A:WAt G S a w)(K:Wok N w)(hN:N<20000){m:Msg}(hm:m.length<=40):∃S' a',gW G [.ob a.n,msgD m] S=.ok .non S'/\WTo G a S a' S' (w.act (.hand m)):=by
 obtain⟨S',e,k⟩:=Ai A.sr K.sb hN hm;refine⟨S',_,?_,A.snd k⟩;show fin S (ja G [some (.ob a.n),some (msgD m)] S)=_;unfold ja;rw[aY (aK (bK rfl A.ob rfl) A.sr.ob (ag rfl ai) e)];rfl
theorem zn(A:WAt G S a w)(K:Wok N w)(hN:N<=20000):∃S' a',gi G [.ob a.n] S=.ok .non S'/\WTo G a S a' S' (w.act .start):=by
 obtain⟨S',p',q',e,k⟩:=zB A.sr K.sb hN;refine⟨S',_,?_,A.snd k⟩;show fin S (ip G [some (.ob a.n)] S)=_;unfold ip;rw[aY (aK (bK rfl A.ob rfl) A.sr.ob ai e)];rfl
theorem Ao(A:WAt G S a w)(r:Bool):∃S' a',gS G [.ob a.n,.str (if r then "sender" else "hearer")] S=.ok .non S'/\WTo G a S a' S' (w.act (.fall r)):=by
 cases r with
 |true=>
  obtain⟨S',e,k⟩:=zZ A.sr;refine⟨S',_,?_,A.snd k⟩;show fin S (eA G [some (.ob a.n),some (.str "sender")] S)=_;unfold eA;rw[av (by rw[bf (az (au rfl rfl bj))];exact aY (aK (bK rfl A.ob rfl) A.sr.ob ai e)),ay (az (au rfl rfl bj))];rfl
 |false=>
  obtain⟨S',e',b',e,k⟩:=Al A.hr;refine⟨S',_,?_,A.hea k⟩;show fin S (eA G [some (.ob a.n),some (.str "hearer")] S)=_;unfold eA;rw[av (by rw[ay (az (au rfl rfl bj))];rfl),bf (az (au rfl rfl bj)),aY (aK (bK rfl A.ob rfl) A.hr.ob ai e)];rfl
theorem Az(A:WAt G S a w)(K:Wok N w)(hN:N<=20000):∃S' a',ib G [.ob a.n] S=.ok .non S'/\WTo G a S a' S' (w.act .tick):=by
 have hp:=K.sb.pl;obtain⟨S1,l,e,k,hl,hnew⟩:=zX A.sr K.w0 (by omega) (fun _=>K.bl);have k1:=A.snd k;obtain⟨t1,t2⟩:=wy K hN;have tl:=K.tl;have hnl:l≠a.nT:=fun z=>by have:=bx A.tt;omega
 obtain⟨S2,e2,k2⟩:=wb k1.at_ true hl hnl (fun c hc=>(t1 c hc).1) (by show w.T.length+_<=_;omega);refine⟨S2,_,?_,k1.trans k2⟩;show fin S (jl G [some (.ob a.n)] S)=_;unfold jl;rw[aY (aK rfl A.ob (ag rfl (ag (aK (bK rfl A.ob rfl) A.sr.ob ai e) ai)) e2)];rfl
theorem xv(A:WAt G S a w)(K:Wok N w)(hN:N<20000)(r:Bool){e:En}(he:okE N e):∃S' a',eV G [.ob a.n,.str (aZ r),.tup (e.xs.map D.int)] S=.ok .non S'/\WTo G a S a' S' (w.arrive r e):=by
 show ∃S' a',fin S (gD G [some (.ob a.n),some (.str (aZ r)),some (.tup (e.xs.map D.int)),none] S)=_/\_;unfold gD;obtain⟨c,x⟩:=e;cases x with
 |some xs=>
  have hrd:=Ak (G:=G) (xs:=xs) (Nat.le_trans he.2.2.1 (by decide)) (he.2.2.2 xs rfl) S;have t1:vX [G.NoStrip] (cB (am (kG G) (ac (aa 2) aj)) (gN 3)) (cB (dC .non) (gN 3)) [some (.ob a.n),some (.str (aZ r)),some (.tup (xs.map D.int)),none] S=some (.nx [some (.ob a.n),some (.str (aZ r)),some (.tup (xs.map D.int)),some .non],S):=by
   have e3:cB (am (kG G) (ac (aa 2) aj)) (gN 3) [some (.ob a.n),some (.str (aZ r)),some (.tup (xs.map D.int)),none] S=some (.xc G.NoStrip [some (.ob a.n),some (.str (aZ r)),some (.tup (xs.map D.int)),none],S):=by
    unfold cB;rw[sk,ax (ag rfl ai) hrd]
   unfold vX;rw[e3];simp[noX]
  have t2:∀(k:Str),dr (ao (dOp mh (aa 3) (dC .non))) (ao (dOp eqD (aa 1) (dC (.str k)))) [some (.ob a.n),some (.str (aZ r)),some (.tup (xs.map D.int)),some .non] S=.ok false S:=fun k=>rfl
  refine⟨S,a,?_,WTo.refl A⟩;show fin S (aJ _ _ [some (.ob a.n),some (.str (aZ r)),some (.tup (xs.map D.int)),none] S)=_;rw[av t1,av (by rw[ay (t2 _)];rfl),ay (t2 _)];rfl
 |none=>
  have hok:okC c:=he.1;have hrd:=zP (G:=G) hok S;have t1:vX [G.NoStrip] (cB (am (kG G) (ac (aa 2) aj)) (gN 3)) (cB (dC .non) (gN 3)) [some (.ob a.n),some (.str (aZ r)),some (.tup ((chk (aA c)).map D.int)),none] S=some (.nx [some (.ob a.n),some (.str (aZ r)),some (.tup ((chk (aA c)).map D.int)),some (cardD c)],S):=by
   unfold vX;rw[bD (ax (ag rfl ai) hrd)];rfl
  have nn:∀T,ao (dOp mh (aa 3) (dC .non)) [some (.ob a.n),some (.str (aZ r)),some (.tup ((chk (aA c)).map D.int)),some (cardD c)] T=.ok true T:=fun T=>by cases c<;>rfl
  show ∃S' a',fin S (aJ _ _ [some (.ob a.n),some (.str (aZ r)),some (.tup ((chk (aA c)).map D.int)),none] S)=_/\_;rw[av t1];cases r with
  |true=>
   have y1:∀T,dr (ao (dOp mh (aa 3) (dC .non))) (ao (dOp eqD (aa 1) (dC (.str "there")))) [some (.ob a.n),some (.str (aZ true)),some (.tup ((chk (aA c)).map D.int)),some (cardD c)] T=.ok true T:=fun T=>by
    rw[cX,aw,nn];exact az (au rfl rfl (show eqD (.str "there") (.str "there") T=.ok (.bl true) T from bj))
   have y2:∀T,dr (ao (dOp mh (aa 3) (dC .non))) (ao (dOp eqD (aa 1) (dC (.str "back")))) [some (.ob a.n),some (.str (aZ true)),some (.tup ((chk (aA c)).map D.int)),some (cardD c)] T=.ok false T:=fun T=>by
    rw[cX,aw,nn];exact az (au rfl rfl (show eqD (.str "there") (.str "back") T=.ok (.bl false) T from bj))
   obtain⟨S1,e',b',l,q1,k1,o1⟩:=zt A.hr (by rw[K.hw];exact K.w0) (by rw[K.hw];have:=K.w7;omega) K.bd hN hok.cOk;have k2:=A.hea k1;obtain⟨h1,h2,h3⟩:=uL K (by omega) hok he.2.1;have ql:=K.ql;have hnl:l≠a.nB:=fun z=>by have:=bx A.bb;have:=o1.new;omega
   obtain⟨S2,q2,k3⟩:=wb k2.at_ false o1.at_ hnl (fun d hd=>(h1 d hd).1) (by show w.B.length+_<=_;omega);refine⟨S2,_,?_,k2.trans k3⟩;rw[av (by rw[bf (y1 _)];exact aY (aK rfl A.ob (ag rfl (ag (aK (bK rfl A.ob rfl) A.hr.ob (ag rfl ai) q1) ai)) q2)),ay (y2 _)];rfl
  |false=>
   have y1:∀T,dr (ao (dOp mh (aa 3) (dC .non))) (ao (dOp eqD (aa 1) (dC (.str "there")))) [some (.ob a.n),some (.str (aZ false)),some (.tup ((chk (aA c)).map D.int)),some (cardD c)] T=.ok false T:=fun T=>by
    rw[cX,aw,nn];exact az (au rfl rfl (show eqD (.str "back") (.str "there") T=.ok (.bl false) T from bj))
   have y2:∀T,dr (ao (dOp mh (aa 3) (dC .non))) (ao (dOp eqD (aa 1) (dC (.str "back")))) [some (.ob a.n),some (.str (aZ false)),some (.tup ((chk (aA c)).map D.int)),some (cardD c)] T=.ok true T:=fun T=>by
    rw[cX,aw,nn];exact az (au rfl rfl (show eqD (.str "back") (.str "back") T=.ok (.bl true) T from bj))
   obtain⟨S1,p',q',l,e1,k1,hl,hnew⟩:=zh A.sr K.sb (by omega) K.w0 hok.cOkS;have k2:=A.snd k1;have hnl:l≠a.nT:=fun z=>by have:=bx A.tt;omega
   obtain⟨S2,q2,k3⟩:=wb (cs:=[]) k2.at_ true hl hnl (fun d hd=>by simp at hd) (by have:=K.tl;show w.T.length+_<=_;simp;omega);refine⟨S2,{ a with pS:=p',qS:=q' },?_,?_⟩
   ·rw[av (by rw[ay (y1 _)];rfl),bf (y2 _),aY (aK rfl A.ob (ag rfl (ag (aK (bK rfl A.ob rfl) A.sr.ob (ag rfl ai) e1) ai)) q2)];rfl
   ·have k4:=k2.trans k3;have:({ w with s:=w.s.hears c }:WW).setR true (({ w with s:=w.s.hears c }:WW).road true++([]:List Card).map gd)=w.arrive false ⟨c,none⟩:=by
     show({ s:=w.s.hears c,h:=w.h,T:=w.T++[],B:=w.B }:WW)=_;rw[List.append_nil];rfl
    rw[this] at k4;exact k4
end
end Lw
namespace Lw
open PySem L2 DL
section
variable{G:Cs}{S S' S1 S2:List Cell}{a a' a1 a2:Ad}{w w' w1 w2:WW}{N:Nat}
theorem A3{n:Nat}{xs:List D}{k:Nat}{d:D}(hn:S[n]?=some (.lst xs))(hk:xs[k]?=some d):vo (.ob n) [.int (k:Int)] S=.ok d (S.set n (.lst (xs.eraseIdx k))):=by
 have hlt:=(List.getElem?_eq_some_iff.mp hk).1;unfold vo;simp only[cg hn];rw[cq ⟨by omega,by omega⟩,Int.toNat_natCast];simp only[hk]
theorem oU(A:WAt G S a w)(K:Wok N w)(hN:N<20000)(r:Bool):∃S' a',cS G [.ob a.n,.str (aZ r)] S=.ok .non S'/\WTo G a S a' S' (w.act (.step r)):=by
 show ∃S' a',fin S (jn G [some (.ob a.n),some (.str (aZ r))] S)=_/\WTo G a S a' S' (w.step r);unfold jn;have t1:bU (aP G.World ns_World (aW G) (aa 0) (ac (aa 1) (ac (dC (.int 0)) aj))) [some (.ob a.n),some (.str (aZ r))] S=.ok (decide (0<(w.road r).length)) S:=by
  rw[dc,aw,aK rfl A.ob (ag rfl (ag rfl ai)) (sv A r 0)];rfl
 unfold WW.step;cases hr:w.road r with
 |nil=>
  rw[hr] at t1;refine⟨S,a,?_,WTo.refl A⟩;rw[ay t1];rfl
 |cons e l=>
  rw[hr,decide_eq_true (by simp)] at t1;have hcell:=A.cell r;rw[hr] at hcell;have hk:=K.rd r e (by rw[hr];exact List.mem_cons_self);have hp:=A3 (k:=0) (d:=enD e) hcell rfl;have hps:((e :: l).map enD).eraseIdx 0=l.map enD:=rfl;rw[hps] at hp;have c1:Ch (a.rn r) (.lst (l.map enD)) S (S.set (a.rn r) (.lst (l.map enD))):=Ch.set hcell;have k1:=A.rod r c1;have K1:Wok N (w.setR r l):=by
   have h1:=K.rd r;have h2:=K.rl r;rw[hr] at h1 h2;rw[List.length_cons] at h2;exact K.setR r (fun d hd=>h1 d (List.mem_cons_of_mem _ hd)) (by omega)
  obtain⟨S2,a2,e2,k2⟩:=xv k1.at_ K1 hN r hk;refine⟨S2,a2,?_,k1.trans k2⟩;have e1:dOp ixD (dBM vo (dOp gp (aB G.World ns_World 2 (aa 0)) (aa 1)) (ac (dC (.int 0)) aj)) (dC (.int 0)) [some (.ob a.n),some (.str (aZ r))] S=.ok (.tup (e.xs.map D.int)) (S.set (a.rn r) (.lst (l.map enD))):=
   au (ld (n6 A r _) hcell (ag rfl ai) hp) rfl (ba (i:=0) rfl)
  rw[bf t1,aY (aK rfl A.ob (ag rfl (ag e1 ai)) e2)];rfl
theorem zU(A:WAt G S a w)(r:Bool)(k:Nat):∃S' a',gU G [.ob a.n,.str (aZ r),.int (k:Int)] S=.ok .non S'/\WTo G a S a' S' (w.act (.lose r k)):=by
 show ∃S' a',fin S (jb G [some (.ob a.n),some (.str (aZ r)),some (.int (k:Int))] S)=_/\WTo G a S a' S' (w.setR r ((w.road r).eraseIdx k));unfold jb;have t1:bU (aP G.World ns_World (aW G) (aa 0) (ac (aa 1) (ac (aa 2) aj))) [some (.ob a.n),some (.str (aZ r)),some (.int (k:Int))] S=.ok (decide (k<(w.road r).length)) S:=by
  rw[dc,aw,aK rfl A.ob (ag rfl (ag rfl ai)) (sv A r k)];rfl
 by_cases hk:k<(w.road r).length
 ·rw[decide_eq_true hk] at t1;have hcell:=A.cell r;obtain⟨e,he⟩:∃e,(w.road r)[k]?=some e:=⟨_,List.getElem?_eq_getElem hk⟩;have hp:=A3 (k:=k) (d:=enD e) hcell (by rw[List.getElem?_map,he];rfl);rw[rg] at hp;have k1:=A.rod (l:=(w.road r).eraseIdx k) r (Ch.set hcell);refine⟨_,a,?_,k1⟩;rw[bf t1,aY (ld (n6 A r _) hcell (ag rfl ai) hp)];rfl
 ·rw[decide_eq_false hk] at t1;refine⟨S,a,?_,?_⟩
  ·rw[ay t1];rfl
  ·rw[List.eraseIdx_of_length_le (by omega)];have:w.setR r (w.road r)=w:=by cases r<;>rfl
   rw[this];exact WTo.refl A
theorem mj{α:Type}:∀(l:List α) (k:Nat) (x:α),k<=l.length->l.insertIdx k x=l.take k++x :: l.drop k
 |l,0,x,_=>by simp
 |[],k+1,x,h=>by simp at h
 |y :: l,k+1,x,h=>by
  rw[List.insertIdx_succ_cons,mj l k x (by simpa using h)];rfl
theorem y9(A:WAt G S a w)(K:Wok N w)(hN:N<=20000)(r:Bool)(k:Nat):∃S' a',cJ G [.ob a.n,.str (aZ r),.int (k:Int)] S=.ok .non S'/\WTo G a S a' S' (w.act (.dbl r k)):=by
 show ∃S' a',fin S (gF G [some (.ob a.n),some (.str (aZ r)),some (.int (k:Int))] S)=_/\WTo G a S a' S' (w.setR r (xg (w.road r) k));unfold gF;have t1:bU (aP G.World ns_World (aW G) (aa 0) (ac (aa 1) (ac (aa 2) aj))) [some (.ob a.n),some (.str (aZ r)),some (.int (k:Int))] S=.ok (decide (k<(w.road r).length)) S:=by
  rw[dc,aw,aK rfl A.ob (ag rfl (ag rfl ai)) (sv A r k)];rfl
 have hl:=K.rl r;unfold xg;by_cases hk:k<(w.road r).length
 ·rw[decide_eq_true hk] at t1;have hcell:=A.cell r;obtain⟨e,he⟩:∃e,(w.road r)[k]?=some e:=⟨_,List.getElem?_eq_getElem hk⟩;rw[he];have hix:dOp ixD (dOp gp (aB G.World ns_World 2 (aa 0)) (aa 1)) (aa 2) [some (.ob a.n),some (.str (aZ r)),some (.int (k:Int))] S=.ok (enD e) S:=au (n6 A r _) rfl (gR hcell (by rw[List.getElem?_map,he];rfl));have hin:uT (.ob (a.rn r)) [.int (k:Int),enD e] S=.ok .non (S.set (a.rn r) (.lst (((w.road r).insertIdx k e).map enD))):=by
   unfold uT;simp only[cg hcell];rw[cq ⟨⟨by omega,by rw[List.length_map];omega⟩,by rw[List.length_map];exact szM (show(w.road r).length<=1000000 by omega)⟩,Int.toNat_natCast,mj _ _ _ (by omega),List.map_append,List.map_cons,List.map_take,List.map_drop]
  have k1:=A.rod (l:=(w.road r).insertIdx k e) r (Ch.set hcell);refine⟨_,a,?_,k1⟩;rw[bf t1,aY (ld (n6 A r _) hcell (ag rfl (ag hix ai)) hin)];rfl
 ·rw[decide_eq_false hk] at t1;rw[List.getElem?_eq_none (by omega)];refine⟨S,a,?_,?_⟩
  ·rw[ay t1];rfl
  ·have:w.setR r (w.road r)=w:=by cases r<;>rfl
   show WTo G a S a S (w.setR r (w.road r));rw[this];exact WTo.refl A
theorem u9{xs:List Int}(hx:0<xs.length)(hl:xs.length<=1000)(place:Nat)(by_:Int)(S:List Cell):jA [.tup (xs.map D.int),.int (place:Int),.int by_] S=.ok (.tup ((xs.set (place % xs.length) ((xs.getD (place % xs.length) 0+by_) % 256)).map D.int)) S:=by
 show cN S (lQ [some (.tup (xs.map D.int)),some (.int (place:Int)),some (.int by_),none,none] S)=_;unfold lQ;rw[av (bD (d:=.ob S.length) (S1:=S++[.lst (xs.map D.int)]) (ax (ag rfl ai) rfl))];show cN S (aJ _ _ [some (.tup (xs.map D.int)),some (.int (place:Int)),some (.int by_),some (.ob S.length),none] (S++[.lst (xs.map D.int)]))=_;obtain⟨i,hi⟩:∃i,place % xs.length=i:=⟨_,rfl⟩;have hlt:i<xs.length:=by rw[<-hi];exact Nat.mod_lt _ hx
 have e1:dOp iP (aa 1) (am bC (ac (aa 3) aj)) [some (.tup (xs.map D.int)),some (.int (place:Int)),some (.int by_),some (.ob S.length),none] (S++[.lst (xs.map D.int)])=.ok (.int (i:Int)) (S++[.lst (xs.map D.int)]):=by
  refine au rfl (ax (ag rfl ai) (kh ci)) ?_;rw[List.length_map,cH (by omega),<-hi];congr 2
 rw[av (bD e1),hi];show cN S (aJ _ _ [some (.tup (xs.map D.int)),some (.int (place:Int)),some (.int by_),some (.ob S.length),some (.int (i:Int))] (S++[.lst (xs.map D.int)]))=_;have hg:xs[i]?=some (xs.getD i 0):=by rw[List.getD_eq_getElem?_getD,List.getElem?_eq_getElem hlt];rfl
 obtain⟨v,hv⟩:∃v,(xs.getD i 0+by_) % 256=v:=⟨_,rfl⟩;have e2:dOp iP (dOp bP (dOp ixD (aa 3) (aa 4)) (aa 2)) (dC (.int 256)) [some (.tup (xs.map D.int)),some (.int (place:Int)),some (.int by_),some (.ob S.length),some (.int (i:Int))] (S++[.lst (xs.map D.int)])=.ok (.int v) (S++[.lst (xs.map D.int)]):=by
  refine au (au (au rfl rfl (gR ci (by rw[List.getElem?_map,hg];rfl))) rfl (cy _ _)) rfl ?_;rw[cH (by decide),hv]
 have hset:∀a c:Cell,(S++[a]).set S.length c=S++[c]:=fun a c=>by rw[List.set_append_right _ _ (Nat.le_refl _)];simp
 have e3:n5 (.ob S.length) (.int (i:Int)) (.int v) (S++[.lst (xs.map D.int)])=some (S++[.lst ((xs.set i v).map D.int)]):=by
  have hix:ixN (xs.map D.int).length (i:Int)=some i:=by
   unfold ixN;rw[List.length_map];simp;omega
  simp only[n5,cg ci,hix,hset];rw[List.map_set]
 rw[hv,av (tC e2 rfl rfl e3),aR (ax (ag rfl ai) (eG ci))];exact kL (by unfold wfD;exact de _ _)
theorem yp(A:WAt G S a w)(K:Wok N w)(hN:N<=20000)(r:Bool)(k place:Nat)(by_:Int):∃S' a',fZ G [.ob a.n,.str (aZ r),.int (k:Int),.int (place:Int),.int by_] S=.ok .non S'/\WTo G a S a' S' (w.act (.spoil r k place by_)):=by
 show ∃S' a',fin S (iO G [some (.ob a.n),some (.str (aZ r)),some (.int (k:Int)),some (.int (place:Int)),some (.int by_)] S)=_/\WTo G a S a' S' (w.setR r (pG (w.road r) k place by_));unfold iO;obtain⟨rr,hrr⟩:∃rr:DSt,[some (.ob a.n),some (.str (aZ r)),some (.int (k:Int)),some (.int (place:Int)),some (.int by_)]=rr:=⟨_,rfl⟩;have t1:bU (aP G.World ns_World (aW G) (aa 0) (ac (aa 1) (ac (aa 2) aj))) rr S=.ok (decide (k<(w.road r).length)) S:=by
  rw[<-hrr,dc,aw,aK rfl A.ob (ag rfl (ag rfl ai)) (sv A r k)];rfl
 have same:w.setR r (w.road r)=w:=by cases r<;>rfl
 have hcell:=A.cell r;have rd:dOp gp (aB G.World ns_World 2 (aa 0)) (aa 1) rr S=.ok (.ob (a.rn r)) S:=by rw[<-hrr];exact n6 A r _
 have v2:aa 2 rr S=.ok (.int (k:Int)) S:=by rw[<-hrr];rfl
 have v3:aa 3 rr S=.ok (.int (place:Int)) S:=by rw[<-hrr];rfl
 have v4:aa 4 rr S=.ok (.int by_) S:=by rw[<-hrr];rfl
 rw[hrr];unfold pG;by_cases hk:k<(w.road r).length
 ·rw[decide_eq_true hk] at t1;obtain⟨e,he⟩:∃e,(w.road r)[k]?=some e:=⟨_,List.getElem?_eq_getElem hk⟩;rw[he];have hok:=K.rd r e (List.mem_of_getElem? he);have ent:dOp ixD (dOp gp (aB G.World ns_World 2 (aa 0)) (aa 1)) (aa 2) rr S=.ok (enD e) S:=au rd v2 (gR hcell (by rw[List.getElem?_map,he];rfl));have t2:bU (dOp ixD (dOp ixD (dOp gp (aB G.World ns_World 2 (aa 0)) (aa 1)) (aa 2)) (dC (.int 1))) rr S=.ok e.x.isSome S:=by
   rw[dc,aw,au ent rfl (ba (i:=1) rfl)];rfl
  have t3:ao (dOp neD (dOp iP (aa 4) (dC (.int 256))) (dC (.int 0))) rr S=.ok (!decide (by_ % 256=0)) S:=az (au (au v4 rfl (cH (by decide))) rfl (iN _ _));have t4:dr (bU (aP G.World ns_World (aW G) (aa 0) (ac (aa 1) (ac (aa 2) aj)))) (dr (dh (bU (dOp ixD (dOp ixD (dOp gp (aB G.World ns_World 2 (aa 0)) (aa 1)) (aa 2)) (dC (.int 1))))) (ao (dOp neD (dOp iP (aa 4) (dC (.int 256))) (dC (.int 0))))) rr S=.ok (!e.x.isSome && !decide (by_ % 256=0)) S:=by
   rw[cX,aw,t1];show dr _ _ rr S=_;rw[cX,aw,dl,aw,t2];cases e.x.isSome with
   |true=>rfl
   |false=>exact t3
  obtain⟨c,x⟩:=e;cases x with
  |some xs=>
   refine⟨S,a,?_,?_⟩
   ·rw[ay t4];rfl
   ·have:(w.road r).set k (gM ⟨c,some xs⟩ place by_)=w.road r:=by
     show(w.road r).set k ⟨c,some xs⟩=_;obtain⟨h1,h2⟩:=List.getElem?_eq_some_iff.mp he;rw[<-h2,List.set_getElem_self]
    dsimp only;rw[this,same];exact WTo.refl A
  |none=>
   by_cases hb:by_ % 256=0
   ·rw[decide_eq_true hb] at t4;refine⟨S,a,?_,?_⟩
    ·rw[ay t4];rfl
    ·have:(w.road r).set k (gM ⟨c,none⟩ place by_)=w.road r:=by
      unfold gM;dsimp only;rw[if_pos hb];obtain⟨h1,h2⟩:=List.getElem?_eq_some_iff.mp he;rw[<-h2,List.set_getElem_self]
     dsimp only;rw[this,same];exact WTo.refl A
   ·rw[decide_eq_false hb] at t4;have hcl:=fR hok.1;have hxl:0<((⟨c,none⟩:En).xs).length:=by show 0<(chk (aA c)).length;rw[mi];omega
    have hsp:gM ⟨c,none⟩ place by_=⟨c,some (((⟨c,none⟩:En).xs).set (place % ((⟨c,none⟩:En).xs).length) ((((⟨c,none⟩:En).xs).getD (place % ((⟨c,none⟩:En).xs).length) 0+by_) % 256))⟩:=by
     unfold gM;dsimp only;rw[if_neg hb]
    have hch:=u9 hxl (Nat.le_trans hok.2.2.1 (by decide)) place by_ S;have e5:cf (ac (am jA (ac (dOp ixD (dOp ixD (dOp gp (aB G.World ns_World 2 (aa 0)) (aa 1)) (aa 2)) (dC (.int 0))) (ac (aa 3) (ac (aa 4) aj)))) (ac (dC (.bl true)) aj)) rr S=.ok (enD (gM ⟨c,none⟩ place by_)) S:=by
     rw[hsp];exact bL (ag (ax (ag (au ent rfl (ba (i:=0) rfl)) (ag v3 (ag v4 ai))) hch) (ag rfl ai)) (by simp)
    have e6:n5 (.ob (a.rn r)) (.int (k:Int)) (enD (gM ⟨c,none⟩ place by_)) S=some (S.set (a.rn r) (.lst (((w.road r).set k (gM ⟨c,none⟩ place by_)).map enD))):=by
     have hix:ixN ((w.road r).map enD).length (k:Int)=some k:=by
      unfold ixN;rw[List.length_map];simp;omega
     simp only[n5,cg hcell,hix];rw[List.map_set]
    have k1:=A.rod (l:=(w.road r).set k (gM ⟨c,none⟩ place by_)) r (Ch.set hcell);refine⟨_,a,?_,k1⟩;rw[bf t4,tC e5 rd v2 e6];rfl
 ·rw[decide_eq_false hk] at t1;rw[List.getElem?_eq_none (by omega)];refine⟨S,a,?_,?_⟩
  ·rw[ay (by rw[cX,aw,t1];rfl)];rfl
  ·dsimp only;rw[same];exact WTo.refl A
end
end Lw
namespace Lw
open PySem L2 DL
def cv(ns:List Int)(k:Nat):Int:=ns.getD k 0
theorem si{ns:List Int}{k:Nat}(S:List Cell):bw [.rol (ns.map D.int),.int k] S=.ok (.int (cv ns k)) S:=by
 unfold cv;by_cases h:k<ns.length
 ·have e1:atI (ns.map D.int) (k:Int)=some (.int (ns.getD k 0)):=sN (by simp[List.getD,h]);simp[bw,jY,bC,gu,ixD,e1,h]
 ·have e1:ns.getD k 0=0:=by simp[List.getD,h]
  simp[bw,jY,bC,gu,ixD,e1,h]
theorem CT{ns:List Int}(S:List Cell):bw [.rol (ns.map D.int),.int 0] S=.ok (.int (cv ns 0)) S:=si (k:=0) S
theorem Co{ns:List Int}(S:List Cell):bw [.rol (ns.map D.int),.int 1] S=.ok (.int (cv ns 1)) S:=si (k:=1) S
theorem yb{ns:List Int}(S:List Cell):bw [.rol (ns.map D.int),.int 2] S=.ok (.int (cv ns 2)) S:=si (k:=2) S
end Lw
namespace Lw
open PySem L2 DL
theorem BK{a p m:Int}(hp:0<p)(hm:0<m)(S:List Cell):aI [.int a,.int p,.int m] S=.ok (.int (a * 48271 % p % m)) S:=by
 have h1:CMul a 48271:=.inr ⟨by decide,by decide⟩;simp[aI,n4,ie h1,cH hp,cH hm]
def mx(a:Int)(p m:Nat):Nat:=(a * 48271 % p % m).toNat
theorem lj(a:Int){p m:Nat}(hm:0<m):mx a p m<m:=by
 unfold mx;have h1:=Int.emod_nonneg (a * 48271 % p) (show(m:Int)≠0 by omega);have h2:=Int.emod_lt_of_pos (a * 48271 % p) (show(0:Int)<m by omega);omega
theorem wH(a:Int){p m:Nat}(hp:0<p)(hm:0<m)(S:List Cell):aI [.int a,.int (p:Int),.int (m:Int)] S=.ok (.int (mx a p m:Nat)) S:=by
 rw[BK (by omega) (by omega)];unfold mx;have h1:=Int.emod_nonneg (a * 48271 % p) (show(m:Int)≠0 by omega);rw[Int.toNat_of_nonneg h1]
theorem jh{f:DSt->M D}{r:DSt}{S:List Cell}{a:Int}(p m:Nat)(hf:f r S=.ok (.int a) S)(hp:0<p:=by decide)(hm:0<m:=by decide):am aI (ac f (ac (dC (.int (p:Int))) (ac (dC (.int (m:Int))) aj))) r S=.ok (.int (mx a p m:Nat)) S:=
 ax (ag hf (ag rfl (ag rfl ai))) (wH a hp hm S)
end Lw
namespace Lw
open PySem L2 DL
def wOf(ns:List Int):Nat:=1+mx (cv ns 0) 9883 7
def mOf(ns:List Int):Nat:=1+mx (cv ns 1) 9871 8
theorem wQ(ns:List Int):0<wOf ns:=by unfold wOf;omega
theorem BX(ns:List Int):wOf ns<=7:=by
 have:=lj (cv ns 0) (p:=9883) (m:=7) (by decide);unfold wOf;omega
theorem Aw(ns:List Int):1<=mOf ns:=by unfold mOf;omega
theorem Bo(ns:List Int):mOf ns<=8:=by
 have:=lj (cv ns 1) (p:=9871) (m:=8) (by decide);unfold mOf;omega
theorem vh(ns:List Int)(S:List Cell):eX [.rol (ns.map D.int)] S=.ok (.tup [.int (wOf ns:Int),.int (mOf ns:Int)]) S:=by
 show fin S (gE [some (.rol (ns.map D.int)),none,none] S)=_;unfold gE;have w1:dOp bP (dC (.int 1)) (am aI (ac (am bw (ac (aa 0) (ac (dC (.int 0)) aj))) (ac (dC (.int 9883)) (ac (dC (.int 7)) aj)))) [some (.rol (ns.map D.int)),none,none] S=.ok (.int (wOf ns:Int)) S:=by
  refine au rfl (jh 9883 7 (ax (ag rfl (ag rfl ai)) (CT S))) ?_;rw[cy];unfold wOf;congr 2
 rw[av (bD w1)];show fin S (aJ _ _ [some (.rol (ns.map D.int)),some (.int (wOf ns:Int)),none] S)=_;have w2:dOp bP (dC (.int 1)) (am aI (ac (am bw (ac (aa 0) (ac (dC (.int 1)) aj))) (ac (dC (.int 9871)) (ac (dC (.int 8)) aj)))) [some (.rol (ns.map D.int)),some (.int (wOf ns:Int)),none] S=.ok (.int (mOf ns:Int)) S:=by
  refine au rfl (jh 9871 8 (ax (ag rfl (ag rfl ai)) (Co S))) ?_;rw[cy];unfold mOf;congr 2
 rw[av (bD w2),aR (bL (ag rfl (ag rfl ai)) (by simp))];rfl
theorem AG{fe:DSt->M D}{r:DSt}{S S1:List Cell}{x y:D}{i j:Nat}(h:fe r S=.ok (.tup [x,y]) S1):cB fe (gT [i,j]) r S=some (.nx ((r.set i (some x)).set j (some y)),S1):=by
 unfold cB;rw[sk,h];rfl
def lf(c:Int)(L:Nat):Msg:=(List.range (mx c 9973 (L+1))).map fun(k:Nat)=>((mx (c+31 * k) 9967 256:Nat):Int)
theorem rE(c:Int)(L:Nat):(lf c L).length<=L:=by
 have:=lj c (p:=9973) (m:=L+1) (by omega);unfold lf;rw[List.length_map,List.length_range];omega
theorem vc(c:Int)(L:Nat)(hL:L<=1000)(S:List Cell):fu [.int c,.int (L:Int)] S=.ok (msgD (lf c L)) S:=by
 show cN S (gx [some (.int c),some (.int (L:Int)),none] S)=_;unfold gx;have m1:am aI (ac (aa 0) (ac (dC (.int 9973)) (ac (dOp bP (aa 1) (dC (.int 1))) aj))) [some (.int c),some (.int (L:Int)),none] S=.ok (.int (mx c 9973 (L+1):Nat)) S:=
  ax (ag rfl (ag rfl (ag (x:=.int ((L+1:Nat):Int)) (au rfl rfl (by rw[cy];congr 2)) ai))) (wH c (p:=9973) (m:=L+1) (by decide) (by omega) S)
 rw[av (bD m1)];have hlt:=lj c (p:=9973) (m:=L+1) (by omega);obtain⟨z,hz⟩:∃z,mx c 9973 (L+1)=z:=⟨_,rfl⟩;have hm:lf c L=(List.range z).map fun(k:Nat)=>((mx (c+31 * k) 9967 256:Nat):Int):=by unfold lf;rw[hz]
 rw[hz] at hlt ⊢;show cN S (bM _ [some (.int c),some (.int (L:Int)),some (.int (z:Int))] S)=_;have q1:=iR (f:=rM (aa 2)) (tg:=gN 0) (ti:=j6) (fe:=am aI (ac (dOp bP (aa 1) (dOp gX (dC (.int 31)) (aa 0))) (ac (dC (.int 9967)) (ac (dC (.int 256)) aj)))) (own:=1) (caps:=[0])
  (r:=[some (.int c),some (.int (L:Int)),some (.int (z:Int))]) (S:=S) (S1:=S) (w:=⟨hW 0 1 z,none⟩) (fun _=>true) (fun x=>match x with
   |.int k=>.int (mx (c+31 * k) 9967 256:Nat)
   |_=>.non) (wP (by omega)) trivial (by simp[hW];omega) (by
   intro x hx;simp only[hW,List.mem_map,List.mem_range] at hx;obtain⟨k,_,rfl⟩:=hx;refine⟨_,rfl,fun _=>rfl,fun _ zs=>?_⟩;show am _ _ [some (.int (0+(k:Int) * 1)),some (.int c)] _=_;refine jh 9967 256 (au rfl (au rfl rfl (ie (.inl ⟨by decide,by decide⟩))) (cy _ _)))
 have hbits:((hW 0 1 z).filter fun _=>true).map (fun x=>match x with
   |.int k=>.int (mx (c+31 * k) 9967 256:Nat)
   |_=>.non)=(lf c L).map D.int:=by
  rw[List.filter_eq_self.mpr (by simp),hm];unfold hW;rw[List.map_map,List.map_map];refine List.map_congr_left fun k _=>?_
  have hk:0+(k:Int) * 1=(k:Int):=by omega
  simp only[Function.comp_def,hk]
 rw[hbits] at q1;rw[aR (ax (ag q1 ai) (eG (aS rfl)))];exact kL (BB _ _)
end Lw
namespace Lw
open PySem L2 DL
section
variable{G:Cs}{S S' S1 S2:List Cell}{a a' a1 a2:Ad}{w w' w1 w2:WW}{N:Nat}
theorem wA(x y:Nat)(S:List Cell):∃S' a,gO G.World (cn G) [.int (x:Int),.int (y:Int)] S=.ok (.ob S.length) S'/\WAt G S' a (WW.new x y)/\Fr [] S S'/\a.n=S.length/\∀i,i∈a.fp->S.length<=i:=by
 obtain⟨n,hn⟩:∃n,n=S.length:=⟨_,rfl⟩;have s0:(S++[Cell.ins G.World [] []])[n]?=some (.ins G.World [] []):=aS hn;obtain⟨r,hr⟩:∃r:DSt,r=[some (.ob n),some (.int (x:Int)),some (.int (y:Int))]:=⟨_,rfl⟩;have v0:∀S,aa 0 r S=.ok (.ob n) S:=fun S=>by rw[hr];rfl
 have v1:∀S,aa 1 r S=.ok (.int (x:Int)) S:=fun S=>by rw[hr];rfl
 have v2:∀S,aa 2 r S=.ok (.int (y:Int)) S:=fun S=>by rw[hr];rfl
 obtain⟨T0,hT0⟩:∃T0,S++[Cell.ins G.World [] []]=T0:=⟨_,rfl⟩;have l0:T0.length=S.length+1:=by rw[<-hT0];simp
 rw[hT0] at s0;obtain⟨U1,m,p,q,e1,k1,f1,g1,g2,g3⟩:=AW (G:=G) x y T0;have u1:=f1.get s0 (by simp);obtain⟨T1,b1,c1⟩:=eD (f:="sender") (fo:=aa 0) (fe:=am (gO G.Sender (bY G)) (ac (aa 1) (ac (aa 2) aj))) (r:=r) (ax (ag (v1 _) (ag (v2 _) ai)) e1) (v0 _) u1;have k1':SrAt G T1 T0.length m p q (Sr.new x y):=k1.fr c1.fr fun i hi z=>by
  simp only[qT,List.mem_singleton] at hi z;omega
 have lf1:=f1.1;have lc1:=c1.len;obtain⟨U2,g,e,b,e2,k2,f2,g4,g5,g6⟩:=Aj (G:=G) x T1;have u2:=f2.get c1.at_ (by simp);obtain⟨T2,b2,c2⟩:=eD (f:="hearer") (fo:=aa 0) (fe:=am (gO G.Hearer (bT G)) (ac (aa 1) aj)) (r:=r) (ax (ag (v1 _) ai) e2) (v0 _) u2;have lf2:=f2.1;have lc2:=c2.len;have hm:=bx k1'.ms;have hp:=bx k1'.ps;have hq:=bx k1'.nt;have hnS:=bx k1'.ob;have k1'':SrAt G T2 T0.length m p q (Sr.new x y):=(k1'.fr f2 (fun i hi z=>nomatch z)).fr c2.fr fun i hi z=>by
  simp only[qT,List.mem_singleton] at hi z;omega
 have k2':HrAt G T2 T1.length g e b (Hr.new x):=k2.fr c2.fr (by simp;omega) (by simp;omega) (by simp;omega) (by simp;omega);have hg:=bx k2'.gv;have he:=bx k2'.ea;have hb:=bx k2'.be;have hnH:=bx k2'.ob;obtain⟨nR,hnR⟩:∃nR,nR=T2.length:=⟨_,rfl⟩;obtain⟨T3,hT3⟩:∃T3,T2++[Cell.dic [(.inr ("there":Str),.ob (nR+1)),(.inr ("back":Str),.ob (nR+2))]]++[.lst []]++[.lst []]=T3:=⟨_,rfl⟩;have dd:oY (il (dC (.str "there")) (bW aj) (il (dC (.str "back")) (bW aj) rA)) r T2=.ok (.ob nR) T3:=by
  unfold oY il rA;simp only[aw,ug,kq];rw[b9 ai (by decide)];simp only[aw];rw[b9 ai (by decide)];simp only[];have hd:dD (T2++[Cell.dic []]++[.lst []]++[.lst []]) T2.length=some []:=by
   unfold dD;rw[aG (aG (aS rfl))]
  have hk:nY [(D.str "there",D.ob (T2++[Cell.dic []]).length),(D.str "back",D.ob (T2++[Cell.dic []]++[Cell.lst []]).length)]=some [(.inr ("there":Str),.ob (nR+1)),(.inr ("back":Str),.ob (nR+2))]:=by
   rw[hnR];simp[nY,hZ]
  rw[hd,hk];dsimp only;have e:decide ((Sum.inr ("there":Str):Key)=Sum.inr ("back":Str))=false:=by decide +kernel
  have hmg:sS [] [((.inr ("there":Str):Key),D.ob (nR+1)),(.inr ("back":Str),D.ob (nR+2))]=[(.inr ("there":Str),.ob (nR+1)),(.inr ("back":Str),.ob (nR+2))]:=by
   simp only[sS,List.foldl_cons,List.foldl_nil,qE,List.any_nil,List.any_cons,e,Bool.false_eq_true,if_false,List.nil_append,Bool.or_false];rfl
  rw[cq (by simp),hmg,<-hT3,hnR];congr 1;rw[List.append_assoc,List.append_assoc,List.set_append_right _ _ (Nat.le_refl _)];simp
 have u3:T3[n]?=some (.ins G.World ["sender","hearer"] [.ob T0.length,.ob T1.length]):=by rw[<-hT3];exact aG (aG (aG c2.at_))
 obtain⟨T4,b3,c3⟩:=eD (f:="roads") (fo:=aa 0) (fe:=oY (il (dC (.str "there")) (bW aj) (il (dC (.str "back")) (bW aj) rA))) (r:=r) dd (v0 _) u3;have l3:T3.length=nR+3:=by rw[<-hT3,hnR];simp
 have lc3:=c3.len;have f3:Fr [] T2 T3:=by rw[<-hT3,List.append_assoc,List.append_assoc];exact Fr.push
 have hnl:n<T0.length:=by omega
 have r1:T3[nR]?=some (.dic [(.inr ("there":Str),.ob (nR+1)),(.inr ("back":Str),.ob (nR+2))]):=by rw[<-hT3];exact aG (aG (aS hnR))
 have r2:T3[nR+1]?=some (.lst []):=by rw[<-hT3];exact aG (aS (by rw[hnR];simp))
 have r3:T3[nR+2]?=some (.lst []):=by rw[<-hT3];exact aS (by rw[hnR];simp)
 have q1:n≠nR:=by omega
 have q2:n≠nR+1:=by omega
 have q3:n≠nR+2:=by omega
 refine⟨T4,⟨n,T0.length,m,p,q,T1.length,g,e,b,nR,nR+1,nR+2⟩,?_,⟨c3.at_,?_,?_,c3.old r1 q1,c3.old r2 q2,c3.old r3 q3,?_,?_,?_,by simp⟩,?_,hn,?_⟩
 ·unfold gO;have:cn G [.ob S.length,.int (x:Int),.int (y:Int)] (S++[.ins G.World [] []])=.ok .non T4:=by
   rw[hT0,<-hn];show fin T0 (dN G [some (.ob n),some (.int (x:Int)),some (.int (y:Int))] T0)=_;rw[<-hr];unfold dN;have b2':cL G.World ["sender"] "hearer" (aa 0) (am (gO G.Hearer (bT G)) (ac (aa 1) aj)) r T1=some (.nx r,T2):=b2;rw[av b1,av b2'];rw[show cL G.World ["sender","hearer"] "roads" (aa 0) (oY (il (dC (.str "there")) (bW aj) (il (dC (.str "back")) (bW aj) rA))) r T2=some (.nx r,T4) from b3];rfl
  rw[this]
 ·exact(k1''.fr f3 (fun i hi z=>nomatch z)).fr c3.fr fun i hi z=>by
   simp only[qT,List.mem_singleton] at hi z;omega
 ·exact(k2'.fr f3 (by simp) (by simp) (by simp) (by simp)).fr c3.fr (by simp;omega) (by simp;omega) (by simp;omega) (by simp;omega)
 ·intro i hi j hj;simp only[Ad.sf,Ad.hf,qT] at hi hj;omega
 ·intro i hi j hj;simp only[Ad.sf,Ad.wf,qT] at hi hj;omega
 ·intro i hi j hj;simp only[Ad.hf,Ad.wf,qT] at hi hj;omega
 ·have fS:Fr [n] S T4:=(((((show Fr [n] S T0 by rw[<-hT0];exact Fr.push).tr (f1.mono fun i hi _=>nomatch hi)).tr c1.fr).tr (f2.mono fun i hi _=>nomatch hi)).tr c2.fr).tr ((f3.mono fun i hi _=>nomatch hi).tr c3.fr);exact⟨fS.1,fun i hi _=>fS.2 i hi (by simp;omega)⟩
 ·intro i hi;simp only[Ad.fp,Ad.sf,Ad.hf,Ad.wf,List.mem_append,qT] at hi;omega
inductive LA where
 |opn|hand (c:Int)|tick|step (r:Bool)|harm (k:Nat) (r:Bool) (i:Nat) (c:Int)|fall (r:Bool)
def yU:Nat->Str
 |0=>"lose"
 |1=>"double"
 |_=>"spoil"
def LA.kn:LA->Str
 |.opn=>"open"
 |.hand _=>"hand"
 |.tick=>"tick"
 |.step _=>"step"
 |.harm k _ _ _=>yU k
 |.fall _=>"fall"
def LA.d:LA->D
 |.opn=>.tup [.str "open"]
 |.hand c=>.tup [.str "hand",.int c]
 |.tick=>.tup [.str "tick"]
 |.step r=>.tup [.str "step",.str (aZ r)]
 |.harm k r i c=>.tup [.str (yU k),.str (aZ r),.int (i:Int),.int c]
 |.fall r=>.tup [.str "fall",.str (if r then "sender" else "hearer")]
def LA.act:LA->Act
 |.opn=>.start
 |.hand c=>.hand (lf c 12)
 |.tick=>.tick
 |.step r=>.step r
 |.harm 0 r i _=>.lose r i
 |.harm 1 r i _=>.dbl r i
 |.harm _ r i c=>.spoil r i (mx c 9829 16) (mx c 9817 256:Nat)
 |.fall r=>.fall r
theorem zv(c:Int)(L:Nat):okL (lf c L):=fun x hx=>by
 unfold lf at hx;obtain⟨k,_,rfl⟩:=List.mem_map.mp hx;have:=lj (c+31 * k) (p:=9967) (m:=256) (by decide);omega
theorem LA.ok(t:LA):t.act.ok:=by
 cases t with
 |hand c=>exact⟨Nat.le_trans (rE c 12) (by decide),zv c 12⟩
 |harm k r i c=>
  match k with
  |0=>trivial
  |1=>trivial
  |_+2=>trivial
 |_=>trivial
theorem Bk(t:LA)(S:List Cell):ixD t.d (.int 0) S=.ok (.str t.kn) S:=by cases t<;>exact ba (i:=0) rfl
theorem BS(t:LA):(PyData.str t.kn).canLay0=true:=by
 cases t with
 |harm k r i c=>
  match k with
  |0=>exact(by decide +kernel:(PyData.str "lose").canLay0=true)
  |1=>exact(by decide +kernel:(PyData.str "double").canLay0=true)
  |_+2=>exact(by decide +kernel:(PyData.str "spoil").canLay0=true)
 |opn=>exact(by decide +kernel:(PyData.str "open").canLay0=true)
 |hand c=>exact(by decide +kernel:(PyData.str "hand").canLay0=true)
 |tick=>exact(by decide +kernel:(PyData.str "tick").canLay0=true)
 |step r=>exact(by decide +kernel:(PyData.str "step").canLay0=true)
 |fall r=>exact(by decide +kernel:(PyData.str "fall").canLay0=true)
theorem pB(t:LA)(k:Str)(hk:(PyData.str k).canLay0=true:=by decide +kernel)(r0:Option D)(S:List Cell):ao (dOp eqD (dOp ixD (aa 1) (dC (.int 0))) (dC (.str k))) [r0,some t.d] S=.ok (decide (t.kn=k)) S:=
 az (au (au rfl rfl (Bk t S)) rfl (bj (BS t) hk rfl))
theorem A4(A:WAt G S a w)(K:Wok N w)(hN:N<20000)(t:LA):∃S' a',jq G [.ob a.n,t.d] S=.ok .non S'/\WTo G a S a' S' (w.act t.act):=by
 show ∃S' a',fin S (lu G [some (.ob a.n),some t.d] S)=_/\_;unfold lu;have i1:=pB t "hand" (r0:=some (.ob a.n)) (S:=S);have i2:=pB t "tick" (r0:=some (.ob a.n)) (S:=S);have i3:=pB t "step" (r0:=some (.ob a.n)) (S:=S);have i4:=pB t "lose" (r0:=some (.ob a.n)) (S:=S);have i5:=pB t "double" (r0:=some (.ob a.n)) (S:=S);have i6:=pB t "spoil" (r0:=some (.ob a.n)) (S:=S);have i7:=pB t "fall" (r0:=some (.ob a.n)) (S:=S);have hN':N<=20000:=by omega
 cases t with
 |hand c=>
  have hl:=rE c 12;obtain⟨S',a',e,k⟩:=zN A K hN (m:=lf c 12) (by omega);rw[show decide ((LA.hand c).kn=("hand":Str))=true from (by decide +kernel:decide (("hand":Str) = "hand")=true)] at i1;refine⟨S',a',?_,k⟩;rw[bf i1,aY (aK rfl A.ob (ag (ax (ag (au rfl rfl (ba (i:=1) rfl)) (ag rfl ai)) (vc c 12 (by decide) S)) ai) e)];rfl
 |tick=>
  obtain⟨S',a',e,k⟩:=Az A K hN';rw[show decide (LA.tick.kn=("hand":Str))=false by decide +kernel] at i1;rw[show decide (LA.tick.kn=("tick":Str))=true by decide +kernel] at i2;refine⟨S',a',?_,k⟩;rw[ay i1,bf i2,aY (aK rfl A.ob ai e)];rfl
 |step r=>
  obtain⟨S',a',e,k⟩:=oU A K hN r;rw[show decide ((LA.step r).kn=("hand":Str))=false from (by decide +kernel:decide (("step":Str) = "hand")=false)] at i1;rw[show decide ((LA.step r).kn=("tick":Str))=false from (by decide +kernel:decide (("step":Str) = "tick")=false)] at i2;rw[show decide ((LA.step r).kn=("step":Str))=true from (by decide +kernel:decide (("step":Str) = "step")=true)] at i3;refine⟨S',a',?_,k⟩;rw[ay i1,ay i2,bf i3,aY (aK rfl A.ob (ag (au rfl rfl (ba (i:=1) rfl)) ai) e)];rfl
 |harm k r i c=>
  match k with
  |0=>
   obtain⟨S',a',e,k⟩:=zU A r i;rw[show decide ((LA.harm 0 r i c).kn=("hand":Str))=false from (by decide +kernel:decide (("lose":Str) = "hand")=false)] at i1;rw[show decide ((LA.harm 0 r i c).kn=("tick":Str))=false from (by decide +kernel:decide (("lose":Str) = "tick")=false)] at i2;rw[show decide ((LA.harm 0 r i c).kn=("step":Str))=false from (by decide +kernel:decide (("lose":Str) = "step")=false)] at i3;rw[show decide ((LA.harm 0 r i c).kn=("lose":Str))=true from (by decide +kernel:decide (("lose":Str) = "lose")=true)] at i4;refine⟨S',a',?_,k⟩;rw[ay i1,ay i2,ay i3,bf i4,aY (aK rfl A.ob (ag (au rfl rfl (ba (i:=1) rfl)) (ag (au rfl rfl (ba (i:=2) rfl)) ai)) e)];rfl
  |1=>
   obtain⟨S',a',e,k⟩:=y9 A K hN' r i;rw[show decide ((LA.harm 1 r i c).kn=("hand":Str))=false from (by decide +kernel:decide (("double":Str) = "hand")=false)] at i1;rw[show decide ((LA.harm 1 r i c).kn=("tick":Str))=false from (by decide +kernel:decide (("double":Str) = "tick")=false)] at i2;rw[show decide ((LA.harm 1 r i c).kn=("step":Str))=false from (by decide +kernel:decide (("double":Str) = "step")=false)] at i3;rw[show decide ((LA.harm 1 r i c).kn=("lose":Str))=false from (by decide +kernel:decide (("double":Str) = "lose")=false)] at i4;rw[show decide ((LA.harm 1 r i c).kn=("double":Str))=true from (by decide +kernel:decide (("double":Str) = "double")=true)] at i5;refine⟨S',a',?_,k⟩;rw[ay i1,ay i2,ay i3,ay i4,bf i5,aY (aK rfl A.ob (ag (au rfl rfl (ba (i:=1) rfl)) (ag (au rfl rfl (ba (i:=2) rfl)) ai)) e)];rfl
  |j+2=>
   obtain⟨S',a',e,k⟩:=yp A K hN' r i (mx c 9829 16) (mx c 9817 256:Nat);rw[show decide ((LA.harm (j+2) r i c).kn=("hand":Str))=false from (by decide +kernel:decide (("spoil":Str) = "hand")=false)] at i1;rw[show decide ((LA.harm (j+2) r i c).kn=("tick":Str))=false from (by decide +kernel:decide (("spoil":Str) = "tick")=false)] at i2;rw[show decide ((LA.harm (j+2) r i c).kn=("step":Str))=false from (by decide +kernel:decide (("spoil":Str) = "step")=false)] at i3;rw[show decide ((LA.harm (j+2) r i c).kn=("lose":Str))=false from (by decide +kernel:decide (("spoil":Str) = "lose")=false)] at i4;rw[show decide ((LA.harm (j+2) r i c).kn=("double":Str))=false from (by decide +kernel:decide (("spoil":Str) = "double")=false)] at i5;rw[show decide ((LA.harm (j+2) r i c).kn=("spoil":Str))=true from (by decide +kernel:decide (("spoil":Str) = "spoil")=true)] at i6;refine⟨S',a',?_,k⟩;have x3:∀T,dOp ixD (aa 1) (dC (.int 3)) [some (.ob a.n),some (LA.harm (j+2) r i c).d] T=.ok (.int c) T:=fun T=>au rfl rfl (ba (i:=3) rfl)
   have x1:∀T,dOp ixD (aa 1) (dC (.int 1)) [some (.ob a.n),some (LA.harm (j+2) r i c).d] T=.ok (.str (aZ r)) T:=fun T=>au rfl rfl (ba (i:=1) rfl)
   have x2:∀T,dOp ixD (aa 1) (dC (.int 2)) [some (.ob a.n),some (LA.harm (j+2) r i c).d] T=.ok (.int (i:Int)) T:=fun T=>au rfl rfl (ba (i:=2) rfl)
   have y1:am aI (ac (dOp ixD (aa 1) (dC (.int 3))) (ac (dC (.int 9829)) (ac (dC (.int 16)) aj))) [some (.ob a.n),some (LA.harm (j+2) r i c).d] S=.ok (.int (mx c 9829 16:Nat)) S:=jh 9829 16 (x3 _);have y2:am aI (ac (dOp ixD (aa 1) (dC (.int 3))) (ac (dC (.int 9817)) (ac (dC (.int 256)) aj))) [some (.ob a.n),some (LA.harm (j+2) r i c).d] S=.ok (.int (mx c 9817 256:Nat)) S:=jh 9817 256 (x3 _);rw[ay i1,ay i2,ay i3,ay i4,ay i5,bf i6,aY (aK rfl A.ob (ag (x1 _) (ag (x2 _) (ag y1 (ag y2 ai)))) e)];rfl
 |fall r=>
  obtain⟨S',a',e,k⟩:=Ao A r;rw[show decide ((LA.fall r).kn=("hand":Str))=false from (by decide +kernel:decide (("fall":Str) = "hand")=false)] at i1;rw[show decide ((LA.fall r).kn=("tick":Str))=false from (by decide +kernel:decide (("fall":Str) = "tick")=false)] at i2;rw[show decide ((LA.fall r).kn=("step":Str))=false from (by decide +kernel:decide (("fall":Str) = "step")=false)] at i3;rw[show decide ((LA.fall r).kn=("lose":Str))=false from (by decide +kernel:decide (("fall":Str) = "lose")=false)] at i4;rw[show decide ((LA.fall r).kn=("double":Str))=false from (by decide +kernel:decide (("fall":Str) = "double")=false)] at i5;rw[show decide ((LA.fall r).kn=("spoil":Str))=false from (by decide +kernel:decide (("fall":Str) = "spoil")=false)] at i6;rw[show decide ((LA.fall r).kn=("fall":Str))=true from (by decide +kernel:decide (("fall":Str) = "fall")=true)] at i7;refine⟨S',a',?_,k⟩;rw[ay i1,ay i2,ay i3,ay i4,ay i5,ay i6,bf i7,aY (aK rfl A.ob (ag (au rfl rfl (ba (i:=1) rfl)) ai) e)];rfl
 |opn=>
  obtain⟨S',a',e,k⟩:=zn A K hN';rw[show decide (LA.opn.kn=("hand":Str))=false by decide +kernel] at i1;rw[show decide (LA.opn.kn=("tick":Str))=false by decide +kernel] at i2;rw[show decide (LA.opn.kn=("step":Str))=false by decide +kernel] at i3;rw[show decide (LA.opn.kn=("lose":Str))=false by decide +kernel] at i4;rw[show decide (LA.opn.kn=("double":Str))=false by decide +kernel] at i5;rw[show decide (LA.opn.kn=("spoil":Str))=false by decide +kernel] at i6;rw[show decide (LA.opn.kn=("fall":Str))=false by decide +kernel] at i7;refine⟨S',a',?_,k⟩;rw[ay i1,ay i2,ay i3,ay i4,ay i5,ay i6,ay i7,aY (aK rfl A.ob ai e)];rfl
end
end Lw
namespace Lw
open PySem L2 DL
theorem zp{xs:List D}(i k:Nat):eu xs (some (i:Int)) (some ((i:Int)+(k:Int)))=(xs.drop i).take k:=by
 unfold eu;have e:(i:Int)+(k:Int)=((i+k:Nat):Int):=by omega
 rw[e,HT.sIx_nat,HT.sIx_nat];by_cases h:i<=xs.length
 ·rw[Nat.min_eq_left h];by_cases h2:i+k<=xs.length
  ·rw[Nat.min_eq_left h2,show i+k-i=k by omega]
  ·rw[Nat.min_eq_right (by omega),List.take_of_length_le (by rw[List.length_drop];omega),List.take_of_length_le (by rw[List.length_drop];omega)]
 ·rw[Nat.min_eq_right (show xs.length<=i by omega),Nat.min_eq_right (show xs.length<=i+k by omega),List.drop_of_length_le (Nat.le_refl _),List.drop_of_length_le (by omega)];simp
theorem rC{S:List Cell}{a b:Nat}{xs ys:List D}(h1:S[a]?=some (.lst xs))(h2:S[b]?=some (.lst ys))(hz:(xs++ys).length<=1000000):bP (.ob a) (.ob b) S=.ok (.ob S.length) (S++[.lst (xs++ys)]):=by
 simp only[bP,cg h1,cg h2,uC hz]
theorem w9{S:List Cell}{a:Nat}{xs:List D}{k:Nat}(h:S[a]?=some (.lst xs))(hz:xs.length * k<=1000000)(hk:k<=1000000):gX (.ob a) (.int (k:Int)) S=.ok (.ob S.length) (S++[.lst (List.replicate k xs).flatten]):=by
 unfold gX;simp only[cg h];rw[cq ⟨⟨by omega,by omega⟩,by rw[Int.toNat_natCast];exact Nat.le_of_lt (szM hz)⟩,Int.toNat_natCast]
end Lw
namespace Lw
open PySem L2 DL
section
variable{G:Cs}{S S' S1 S2:List Cell}{a a' a1 a2:Ad}{w w' w1 w2:WW}{N:Nat}
def jT(falls:Bool)(c:Int):List LA:=
 if mx c 9859 20<2 then [.hand c] else if mx c 9859 20<6 then [.tick] else if mx c 9859 20<14 then List.replicate (1+mx c 9851 4) (.step (decide (mx c 9857 2=0)))
 else if mx c 9859 20<17 then [.harm (mx c 9859 20-14) (decide (mx c 9857 2=0)) (mx c 9839 6) c] else if mx c 9859 20=17/\falls=true then [.fall (decide (mx c 9833 2=0))] else [.opn]
def ij(falls:Bool)(ns:List Int):List LA:=[.opn,.hand (cv ns 2)]++((ns.drop 3).take 60).flatMap (jT falls)
theorem zA(falls:Bool)(c:Int):(jT falls c).length<=4:=by
 have:=lj c (p:=9851) (m:=4) (by decide);unfold jT;split
 ·simp
 ·split
  ·simp
  ·split
   ·rw[List.length_replicate];omega
   ·split
    ·simp
    ·split<;>simp
theorem mX(falls:Bool):∀l:List Int,(l.flatMap (jT falls)).length<=4 * l.length
 |[]=>by simp
 |c :: l=>by
  have h1:=zA falls c;have h2:=mX falls l;rw[List.flatMap_cons,List.length_append,List.length_cons];omega
theorem zd(falls:Bool)(ns:List Int):(ij falls ns).length<=242:=by
 have h1:=mX falls ((ns.drop 3).take 60);have h2:((ns.drop 3).take 60).length<=60:=by rw[List.length_take];omega
 unfold ij;rw[List.length_append];simp only[List.length_cons,List.length_nil];omega
structure Row(S0 S:List Cell)(l:Nat)(xs:List LA):Prop where
 at_:S[l]?=some (.lst (xs.map LA.d))
 fr:Fr [] S0 S
 new:S0.length<=l
theorem uD{S0 S:List Cell}{l:Nat}{c:Cell}(f:Fr [] S0 S)(h:S0.length<=l):Fr [] S0 (S.set l c):=by
 refine⟨by rw[List.length_set];exact f.1,fun i hi _=>?_⟩;rw[List.getElem?_set_ne (by omega)];exact f.2 i hi (by simp)
theorem Row.app{S0:List Cell}{l:Nat}{xs:List LA}(R:Row S0 S l xs)(t:LA)(hz:xs.length<1000){ft:DSt->M (List D)}{r:DSt}(h2:aa 2 r S=.ok (.ob l) S)(h3:ft r S=.ok [t.d] S):∃S',bz (dBM jO (aa 2) ft) r S=some (.nx r,S')/\Row S0 S' l (xs++[t])/\Fr [l] S S':=by
 have ee:=uH (n:=l) (d:=t.d) R.at_ (by rw[List.length_map];omega);refine⟨S.set l (.lst ((xs++[t]).map LA.d)),?_,⟨dB R.at_,uD R.fr R.new,R.new⟩,Fr.set (by simp)⟩;rw[aY (ld h2 R.at_ h3 ee),List.map_append];rfl
theorem Ah{ns:List Int}:eu (ns.map D.int) (some 3) (some 63)=((ns.drop 3).take 60).map D.int:=by
 have h:=zp (xs:=ns.map D.int) 3 60;rw[<-List.map_drop,<-List.map_take] at h;exact h
theorem pY{S0 S:List Cell}{l:Nat}{xs:List LA}(R:Row S0 S l xs)(c:List Cell):Row S0 (S++c) l xs:=⟨aG R.at_,R.fr.tr Fr.push,R.new⟩
theorem xt{S0:List Cell}{falls:Bool}{ns:List Int}{c:Int}{l kk:Nat}{xs:List LA}{x4 x5:Option D}{cs:List D}(R:Row S0 S l xs)(hz:xs.length<900)(hk:S[kk]?=some (.lst cs))(hkl:kk≠l) :
  ∃S' l' y4 y5,eU [some (.rol (ns.map D.int)),some (.bl falls),some (.ob l),some (.int c),x4,x5] S=some (.nx [some (.rol (ns.map D.int)),some (.bl falls),some (.ob l'),some (.int c),y4,y5],S')/\Row S0 S' l' (xs++jT falls c)/\S'[kk]?=some (.lst cs)/\(l'=l\/S.length<=l'):=by
 unfold eU;have t20:=lj c (p:=9859) (m:=20) (by decide);obtain⟨t,ht⟩:∃t,mx c 9859 20=t:=⟨_,rfl⟩;have m1:am aI (ac (aa 3) (ac (dC (.int 9859)) (ac (dC (.int 20)) aj))) [some (.rol (ns.map D.int)),some (.bl falls),some (.ob l),some (.int c),x4,x5] S=.ok (.int (t:Int)) S:=by
  rw[<-ht];exact jh 9859 20 rfl
 rw[av (bD m1)];show ∃S' l' y4 y5,aJ _ _ [some (.rol (ns.map D.int)),some (.bl falls),some (.ob l),some (.int c),some (.int (t:Int)),x5] S=_/\_;have t2:=lj c (p:=9857) (m:=2) (by decide);obtain⟨rd,hrd⟩:∃rd,decide (mx c 9857 2=0)=rd:=⟨_,rfl⟩;obtain⟨T,hT⟩:∃T,S++[Cell.lst [.str "there",.str "back"]]=T:=⟨_,rfl⟩;have m2:dOp ixD (bW (ac (dC (.str "there")) (ac (dC (.str "back")) aj))) (am aI (ac (aa 3) (ac (dC (.int 9857)) (ac (dC (.int 2)) aj)))) [some (.rol (ns.map D.int)),some (.bl falls),some (.ob l),some (.int c),some (.int (t:Int)),x5] S=.ok (.str (aZ rd)) T:=by
  rw[<-hT];have y:am aI (ac (aa 3) (ac (dC (.int 9857)) (ac (dC (.int 2)) aj))) [some (.rol (ns.map D.int)),some (.bl falls),some (.ob l),some (.int c),some (.int (t:Int)),x5] (S++[.lst [.str "there",.str "back"]])=.ok (.int (mx c 9857 2:Nat)) (S++[.lst [.str "there",.str "back"]]):=jh 9857 2 rfl;refine au (b9 (ag rfl (ag rfl ai)) (by simp)) y (gR ci ?_);rw[<-hrd];rcases (show mx c 9857 2=0\/mx c 9857 2=1 by omega) with h|h<;>rw[h]<;>rfl
 have R1:Row S0 T l xs:=by rw[<-hT];exact pY R _
 have hk1:T[kk]?=some (.lst cs):=by rw[<-hT];exact aG hk
 have lT:T.length=S.length+1:=by rw[<-hT];simp
 rw[av (bD m2)];show ∃S' l' y4 y5,sIf _ _ _ [some (.rol (ns.map D.int)),some (.bl falls),some (.ob l),some (.int c),some (.int (t:Int)),some (.str (aZ rd))] T=_/\_;obtain⟨r,hr⟩:∃r:DSt,[some (.rol (ns.map D.int)),some (.bl falls),some (.ob l),some (.int c),some (.int (t:Int)),some (.str (aZ rd))]=r:=⟨_,rfl⟩;have v1:∀S,aa 1 r S=.ok (.bl falls) S:=fun S=>by rw[<-hr];rfl
 have v2:∀S,aa 2 r S=.ok (.ob l) S:=fun S=>by rw[<-hr];rfl
 have v3:∀S,aa 3 r S=.ok (.int c) S:=fun S=>by rw[<-hr];rfl
 have v4:∀S,aa 4 r S=.ok (.int (t:Int)) S:=fun S=>by rw[<-hr];rfl
 have v5:∀S,aa 5 r S=.ok (.str (aZ rd)) S:=fun S=>by rw[<-hr];rfl
 have lt:∀k:Nat,ao (dOp ltD (aa 4) (dC (.int (k:Int)))) r T=.ok (decide (t<k)) T:=fun k=>by
  refine az (au (v4 _) rfl ?_);rw[qA];congr 2;rw[decide_eq_decide];omega
 have lt2:ao (dOp ltD (aa 4) (dC (.int 2))) r T=.ok (decide (t<2)) T:=lt 2;have lt6:ao (dOp ltD (aa 4) (dC (.int 6))) r T=.ok (decide (t<6)) T:=lt 6;have lt14:ao (dOp ltD (aa 4) (dC (.int 14))) r T=.ok (decide (t<14)) T:=lt 14;have lt17:ao (dOp ltD (aa 4) (dC (.int 17))) r T=.ok (decide (t<17)) T:=lt 17;have eq17:ao (dOp eqD (aa 4) (dC (.int 17))) r T=.ok (decide (t=17)) T:=by
  refine az (au (v4 _) rfl ?_);rw[jB];congr 2;rw[decide_eq_decide];omega
 rw[hr];have app1:∀{b:TSt}(la:LA) {ft:DSt->M (List D)},b=bz (dBM jO (aa 2) ft)->ft r T=.ok [la.d] T->jT falls c=[la]->∃S' l' y4 y5,b r T=some (.nx [some (.rol (ns.map D.int)),some (.bl falls),some (.ob l'),some (.int c),y4,y5],S')/\Row S0 S' l' (xs++jT falls c)/\S'[kk]?=some (.lst cs)/\(l'=l\/S.length<=l'):=by
  intro b la ft hb hf ht;obtain⟨S',e,R',f⟩:=R1.app la (by omega) (v2 _) hf;rw[ht,hb];exact⟨S',l,_,_,by rw[e,<-hr],R',f.get hk1 (by simpa using hkl),.inl rfl⟩
 unfold jT at *;rw[ht,hrd] at *;by_cases h2:t<2
 ·rw[decide_eq_true h2] at lt2;rw[bf lt2];simp only[if_pos h2] at app1 ⊢;exact app1 (.hand c) rfl (ag (bL (ag rfl (ag (v3 _) ai)) (by simp)) ai) rfl
 ·rw[decide_eq_false h2] at lt2;rw[ay lt2];simp only[if_neg h2] at app1 ⊢;by_cases h6:t<6
  ·rw[decide_eq_true h6] at lt6;rw[bf lt6];simp only[if_pos h6] at app1 ⊢;exact app1 .tick rfl (ag (bL (ag rfl ai) (by simp)) ai) rfl
  ·rw[decide_eq_false h6] at lt6;rw[ay lt6];simp only[if_neg h6] at app1 ⊢;by_cases h14:t<14
   ·rw[decide_eq_true h14] at lt14;rw[bf lt14];simp only[if_pos h14];have t4:=lj c (p:=9851) (m:=4) (by decide);obtain⟨j,hj⟩:∃j,mx c 9851 4=j:=⟨_,rfl⟩;rw[hj] at t4 ⊢;obtain⟨U,hU⟩:∃U,T++[Cell.lst [LA.d (.step rd)]]++[.lst ((List.replicate (1+j) (LA.step rd)).map LA.d)]=U:=⟨_,rfl⟩;have y:∀T,dOp bP (dC (.int 1)) (am aI (ac (aa 3) (ac (dC (.int 9851)) (ac (dC (.int 4)) aj)))) r T=.ok (.int ((1+j:Nat):Int)) T:=fun T=>by
     have y0:am aI (ac (aa 3) (ac (dC (.int 9851)) (ac (dC (.int 4)) aj))) r T=.ok (.int (mx c 9851 4:Nat)) T:=jh 9851 4 (v3 _);refine au rfl y0 ?_;rw[cy,hj];congr 2
    have hrep:(List.replicate (1+j) [LA.d (.step rd)]).flatten=(List.replicate (1+j) (LA.step rd)).map LA.d:=by
     rw[List.map_replicate]
     induction (1+j) with
     |zero=>rfl
     |succ k ih=>rw[List.replicate_succ,List.flatten_cons,ih,List.replicate_succ];rfl
    have mu:dOp gX (bW (ac (cf (ac (dC (.str "step")) (ac (aa 5) aj))) aj)) (dOp bP (dC (.int 1)) (am aI (ac (aa 3) (ac (dC (.int 9851)) (ac (dC (.int 4)) aj))))) r T=.ok (.ob (T.length+1)) U:=by
     refine au (b9 (ag (bL (ag rfl (ag (v5 _) ai)) (by simp)) ai) (by simp)) (y _) ?_;rw[<-hU];rw[w9 (aS rfl) (by simp;omega) (by omega)];have e:(List.replicate (1+j) [D.tup [D.str "step",D.str (aZ rd)]]).flatten=(List.replicate (1+j) (LA.step rd)).map LA.d:=hrep;rw[e];simp[LA.d]
    have hl2:U[l]?=some (.lst (xs.map LA.d)):=by rw[<-hU];exact aG (aG R1.at_)
    have hm2:U[T.length+1]?=some (.lst ((List.replicate (1+j) (LA.step rd)).map LA.d)):=by rw[<-hU];exact aS (by simp)
    have ad:dOp bP (aa 2) (dOp gX (bW (ac (cf (ac (dC (.str "step")) (ac (aa 5) aj))) aj)) (dOp bP (dC (.int 1)) (am aI (ac (aa 3) (ac (dC (.int 9851)) (ac (dC (.int 4)) aj)))))) r T=.ok (.ob U.length) (U++[.lst ((xs++List.replicate (1+j) (LA.step rd)).map LA.d)]):=by
     refine au (v2 _) mu ?_;rw[List.map_append];exact rC hl2 hm2 (by simp;omega)
    have lU:T.length<=U.length:=by rw[<-hU];simp
    have fU:Fr [] T U:=by rw[<-hU,List.append_assoc];exact Fr.push
    have hs:=R1.fr.1;refine⟨_,U.length,some (.int (t:Int)),some (.str (aZ rd)),?_,⟨ci,(R1.fr.tr fU).tr Fr.push,by omega⟩,aG (fU.get hk1 (by simp)),.inr (by omega)⟩;rw[bD ad,<-hr];rfl
   ·rw[decide_eq_false h14] at lt14;rw[ay lt14];simp only[if_neg h14] at app1 ⊢;by_cases h17:t<17
    ·rw[decide_eq_true h17] at lt17;rw[bf lt17];simp only[if_pos h17] at app1 ⊢;obtain⟨T2,hT2⟩:∃T2,T++[Cell.lst [.str "lose",.str "double",.str "spoil"]]=T2:=⟨_,rfl⟩;have R2:Row S0 T2 l xs:=by rw[<-hT2];exact pY R1 _
     have hk2:T2[kk]?=some (.lst cs):=by rw[<-hT2];exact aG hk1
     have sb:∀T,dOp qx (aa 4) (dC (.int 14)) r T=.ok (.int ((t-14:Nat):Int)) T:=fun T=>au (v4 _) rfl (by rw[rY];congr 2;omega)
     have kd:dOp ixD (bW (ac (dC (.str "lose")) (ac (dC (.str "double")) (ac (dC (.str "spoil")) aj)))) (dOp qx (aa 4) (dC (.int 14))) r T=.ok (.str (yU (t-14))) T2:=by
      rw[<-hT2];refine au (b9 (ag rfl (ag rfl (ag rfl ai))) (by simp)) (sb _) (gR ci ?_);rcases (show t-14=0\/t-14=1\/t-14=2 by omega) with h|h|h<;>rw[h]<;>rfl
     have mm:am aI (ac (aa 3) (ac (dC (.int 9839)) (ac (dC (.int 6)) aj))) r T2=.ok (.int (mx c 9839 6:Nat)) T2:=jh 9839 6 (v3 _);have ft:ac (cf (ac (dOp ixD (bW (ac (dC (.str "lose")) (ac (dC (.str "double")) (ac (dC (.str "spoil")) aj)))) (dOp qx (aa 4) (dC (.int 14)))) (ac (aa 5) (ac (am aI (ac (aa 3) (ac (dC (.int 9839)) (ac (dC (.int 6)) aj)))) (ac (aa 3) aj))))) aj r T=.ok [LA.d (.harm (t-14) rd (mx c 9839 6) c)] T2:=
      ag (bL (ag kd (ag (v5 _) (ag mm (ag (v3 _) ai)))) (by simp)) ai
     have ee:=uH (S:=T2) (n:=l) (d:=LA.d (.harm (t-14) rd (mx c 9839 6) c)) R2.at_ (by rw[List.length_map];omega);refine⟨T2.set l (.lst ((xs++[LA.harm (t-14) rd (mx c 9839 6) c]).map LA.d)),l,some (.int (t:Int)),some (.str (aZ rd)),?_,⟨dB R2.at_,uD R2.fr R2.new,R2.new⟩,cG hk2 (Ne.symm hkl),.inl rfl⟩;have:bz (dBM jO (aa 2) (ac (cf (ac (dOp ixD (bW (ac (dC (.str "lose")) (ac (dC (.str "double")) (ac (dC (.str "spoil")) aj)))) (dOp qx (aa 4) (dC (.int 14)))) (ac (aa 5) (ac (am aI (ac (aa 3) (ac (dC (.int 9839)) (ac (dC (.int 6)) aj)))) (ac (aa 3) aj))))) aj)) r T=some (.nx r,T2.set l (.lst ((xs++[LA.harm (t-14) rd (mx c 9839 6) c]).map LA.d))):=by
      refine aY (d:=.non) ?_;rw[List.map_append];exact ld (v2 _) R1.at_ ft ee
     rw[this,<-hr]
    ·rw[decide_eq_false h17] at lt17;rw[ay lt17];simp only[if_neg h17] at app1 ⊢;have an:dr (ao (dOp eqD (aa 4) (dC (.int 17)))) (bU (aa 1)) r T=.ok (decide (t=17/\falls=true)) T:=by
      rw[cX,aw,eq17];by_cases h:t=17
      ·rw[decide_eq_true h];show bU (aa 1) r T=_;rw[dc,aw,v1];cases falls<;>simp[h]
      ·rw[decide_eq_false h];simp[h]
     by_cases hf:t=17/\falls=true
     ·rw[decide_eq_true hf] at an;rw[bf an];simp only[if_pos hf];have t2b:=lj c (p:=9833) (m:=2) (by decide);obtain⟨wh,hwh⟩:∃wh,decide (mx c 9833 2=0)=wh:=⟨_,rfl⟩;rw[hwh];obtain⟨U,hU⟩:∃U,T++[Cell.lst [.str "sender",.str "hearer"]]++[.lst [LA.d (.fall wh)]]=U:=⟨_,rfl⟩;have y:∀T,am aI (ac (aa 3) (ac (dC (.int 9833)) (ac (dC (.int 2)) aj))) r T=.ok (.int (mx c 9833 2:Nat)) T:=fun T=>jh 9833 2 (v3 _)
      have wi:dOp ixD (bW (ac (dC (.str "sender")) (ac (dC (.str "hearer")) aj))) (am aI (ac (aa 3) (ac (dC (.int 9833)) (ac (dC (.int 2)) aj)))) r T=.ok (.str (if wh then "sender" else "hearer")) (T++[.lst [.str "sender",.str "hearer"]]):=by
       refine au (b9 (ag rfl (ag rfl ai)) (by simp)) (y _) (gR ci ?_);rw[<-hwh];rcases (show mx c 9833 2=0\/mx c 9833 2=1 by omega) with h|h<;>rw[h]<;>rfl
      have ls:bW (ac (cf (ac (dC (.str "fall")) (ac (dOp ixD (bW (ac (dC (.str "sender")) (ac (dC (.str "hearer")) aj))) (am aI (ac (aa 3) (ac (dC (.int 9833)) (ac (dC (.int 2)) aj))))) aj))) aj) r T=.ok (.ob (T.length+1)) U:=by
       rw[b9 (ag (bL (ag rfl (ag wi ai)) (by simp)) ai) (by simp),<-hU];simp[LA.d]
      have hl2:U[l]?=some (.lst (xs.map LA.d)):=by rw[<-hU];exact aG (aG R1.at_)
      have hm2:U[T.length+1]?=some (.lst [LA.d (.fall wh)]):=by rw[<-hU];exact aS (by simp)
      have ad:dOp bP (aa 2) (bW (ac (cf (ac (dC (.str "fall")) (ac (dOp ixD (bW (ac (dC (.str "sender")) (ac (dC (.str "hearer")) aj))) (am aI (ac (aa 3) (ac (dC (.int 9833)) (ac (dC (.int 2)) aj))))) aj))) aj)) r T=.ok (.ob U.length) (U++[.lst ((xs++[LA.fall wh]).map LA.d)]):=by
       refine au (v2 _) ls ?_;rw[List.map_append];exact rC hl2 hm2 (by simp;omega)
      have lU:T.length<=U.length:=by rw[<-hU];simp
      have fU:Fr [] T U:=by rw[<-hU,List.append_assoc];exact Fr.push
      have hs:=R1.fr.1;refine⟨_,U.length,some (.int (t:Int)),some (.str (aZ rd)),?_,⟨ci,(R1.fr.tr fU).tr Fr.push,by omega⟩,aG (fU.get hk1 (by simp)),.inr (by omega)⟩;rw[bD ad,<-hr];rfl
     ·rw[decide_eq_false hf] at an;rw[ay an];simp only[if_neg hf] at app1 ⊢;exact app1 .opn rfl (ag (bL (ag rfl ai) (by simp)) ai) rfl
theorem zO(falls:Bool)(ns:List Int)(S:List Cell):∃S' l,gr [.rol (ns.map D.int),.bl falls] S=.ok (.ob l) S'/\Row S S' l (ij falls ns):=by
 show ∃S' l,fin S (jQ [some (.rol (ns.map D.int)),some (.bl falls),none,none,none,none] S)=_/\_;unfold jQ;have e1:bW (ac (cf (ac (dC (.str "open")) aj)) (ac (cf (ac (dC (.str "hand")) (ac (am bw (ac (aa 0) (ac (dC (.int 2)) aj))) aj))) aj)) [some (.rol (ns.map D.int)),some (.bl falls),none,none,none,none] S=.ok (.ob S.length) (S++[.lst ([LA.opn,.hand (cv ns 2)].map LA.d)]):=
  b9 (ag (bL (ag rfl ai) (by simp)) (ag (bL (ag rfl (ag (ax (ag rfl (ag rfl ai)) (yb _)) ai)) (by simp)) ai)) (by simp)
 rw[av (bD e1)];show ∃S' l,fin S (aJ _ _ [some (.rol (ns.map D.int)),some (.bl falls),some (.ob S.length),none,none,none] (S++[.lst ([LA.opn,.hand (cv ns 2)].map LA.d)]))=_/\_;obtain⟨sl,hsl⟩:∃sl,(ns.drop 3).take 60=sl:=⟨_,rfl⟩;have hsll:sl.length<=60:=by rw[<-hsl,List.length_take];omega
 obtain⟨S1,hS1⟩:∃S1,S++[Cell.lst ([LA.opn,.hand (cv ns 2)].map LA.d)]=S1:=⟨_,rfl⟩;have R0:Row S S1 S.length [LA.opn,.hand (cv ns 2)]:=by rw[<-hS1];exact⟨ci,Fr.push,Nat.le_refl _⟩
 have l1:S1.length=S.length+1:=by rw[<-hS1];simp
 rw[hS1];have s1:dWk (dSl slD (aa 0) (bQ (dC (.int 3))) (bQ (dC (.int 63)))) [some (.rol (ns.map D.int)),some (.bl falls),some (.ob S.length),none,none,none] S1=.ok ⟨sl.map D.int,some (S1.length,sl.map D.int)⟩ (S1++[.lst (sl.map D.int)]):=by
  rw[nL,aw];have:dSl slD (aa 0) (bQ (dC (.int 3))) (bQ (dC (.int 63))) [some (.rol (ns.map D.int)),some (.bl falls),some (.ob S.length),none,none,none] S1=.ok (.ob S1.length) (S1++[.lst (sl.map D.int)]):=by
   rw[<-hsl,<-Ah];rfl
  rw[this];simp only[lr,ci]
 obtain⟨r',S',q,l,x3,x4,x5,rfl,k,hkk,hlk⟩:=eN (g:=some (S1.length,sl.map D.int)) (tg:=gN 3) (b:=eU)
  (fun i r' S'=>∃l x3 x4 x5,r'=[some (.rol (ns.map D.int)),some (.bl falls),some (.ob l),x3,x4,x5]/\Row S S' l ([LA.opn,.hand (cv ns 2)]++(sl.take i).flatMap (jT falls))/\S'[S1.length]?=some (.lst (sl.map D.int))/\S1.length≠l) (sl.map D.int) 0 [some (.rol (ns.map D.int)),some (.bl falls),some (.ob S.length),none,none,none] (S1++[.lst (sl.map D.int)])
  (by
   rintro i y r' S' hy ⟨l,x3,x4,x5,rfl,k,hkk,hlk⟩;rw[List.getElem?_map] at hy;cases hp:sl[i]? with
   |none=>rw[hp] at hy;cases hy
   |some c=>
    rw[hp] at hy;cases hy;rw[Nat.zero_add] at k ⊢;have hlen:=mX falls (sl.take i);rw[List.length_take] at hlen;obtain⟨S2,l2,y4,y5,e2,k2,hk2,hl2⟩:=xt (falls:=falls) (ns:=ns) (c:=c) (x4:=x4) (x5:=x5) k (by rw[List.length_append];simp only[List.length_cons,List.length_nil];omega) hkk hlk;have hlt:=bx hkk;refine⟨[some (.rol (ns.map D.int)),some (.bl falls),some (.ob l),some (.int c),x4,x5],_,S2,rfl,e2,hk2,l2,_,_,_,rfl,?_,hk2,by omega⟩;rw[List.take_add_one,hp,Option.toList_some,List.flatMap_append,<-List.append_assoc];simpa using k2)
  ⟨S.length,none,none,none,rfl,by simpa using pY R0 _,ci,by omega⟩
 rw[show 0+(sl.map D.int).length=sl.length by simp,List.take_length] at k;refine⟨S',l,?_,?_⟩
 ·rw[av (by rw[m0 s1];exact q),aR rfl];rfl
 ·unfold ij;rw[hsl];exact k
end
end Lw
namespace Lw
open PySem L2 DL
theorem yq{G:Cs}{S:List Cell}{a:Ad}{w:WW}(A:WAt G S a w):dL G [.ob a.n] S=.ok (.tup (w.h.given.map gvD)) S:=by
 show fin S (eE G [some (.ob a.n)] S)=_;unfold eE;rw[aR (ax (ag (bK (bK rfl A.ob rfl) A.hr.ob rfl) ai) (eG A.hr.gv))];rfl
end Lw
namespace Lw
open PySem L2 DL
section
variable{G:Cs}{S S' S1 S2:List Cell}{a a' a1 a2:Ad}{w w' w1 w2:WW}{N:Nat}
theorem WTo.out(k:WTo G a S a' S' w'){j:Nat}{c:Cell}(hj:S[j]?=some c)(hn:j∉a.fp):S'[j]?=some c/\j∉a'.fp:=by
 refine⟨k.fr.get hj hn,fun z=>?_⟩;have:=bx hj;rcases k.ad j z with h|h
 ·exact hn h
 ·omega
end
end Lw
namespace Lw
open PySem L2 DL
section
variable{G:Cs}{S:List Cell}{a:Ad}{w:WW}
def cc(l:List En):List D:=l.map fun e=>.tup (e.xs.map D.int)
theorem AQ(A:WAt G S a w):eC G [.ob a.n] S=.ok (.int (w.s.sure:Int)) S:=by
 show fin S (fJ G [some (.ob a.n)] S)=_;unfold fJ;rw[aR (bK (bK rfl A.ob rfl) A.sr.ob rfl)];rfl
theorem yw(A:WAt G S a w):d2 G [.ob a.n] S=.ok (.str (stS w.s.st)) S:=by
 show fin S (fD G [some (.ob a.n)] S)=_;unfold fD;rw[aR (bK (bK rfl A.ob rfl) A.sr.ob rfl)];rfl
theorem AK(A:WAt G S a w):cj G [.ob a.n,.str "sender"] S=.ok (.int (w.s.op:Int)) S:=by
 show fin S (cD G [some (.ob a.n),some (.str "sender")] S)=_;unfold cD;rw[aR (d:=.int (w.s.op:Int)) (S1:=S)]
 ·rfl
 ·rw[yJ,aw,az (au rfl rfl (bj (c:=true)))];exact bK (bK rfl A.ob rfl) A.sr.ob rfl
theorem AV(A:WAt G S a w):cj G [.ob a.n,.str "hearer"] S=.ok (.int (w.h.op:Int)) S:=by
 show fin S (cD G [some (.ob a.n),some (.str "hearer")] S)=_;unfold cD;rw[aR (d:=.int (w.h.op:Int)) (S1:=S)]
 ·rfl
 ·rw[yJ,aw,az (au rfl rfl (bj (c:=false)))];exact bK (bK rfl A.ob rfl) A.hr.ob rfl
theorem gP(A:WAt G S a w)(r:Bool)(hz:(w.road r).length<=1000000):aO G [.ob a.n,.str (aZ r)] S=.ok (.tup (cc (w.road r))) (S++[.lst (cc (w.road r))]):=by
 show fin S (fL G [some (.ob a.n),some (.str (aZ r))] S)=_;unfold fL;have w1:dWk (dOp gp (aB G.World ns_World 2 (aa 0)) (aa 1)) [some (.ob a.n),some (.str (aZ r))] S=.ok ⟨(w.road r).map enD,some (a.rn r,(w.road r).map enD)⟩ S:=by
  rw[nL,aw,n6 A r []];show lr (.ob (a.rn r)) S=_;simp only[lr,A.cell r]
 have q1:=iR (f:=dWk (dOp gp (aB G.World ns_World 2 (aa 0)) (aa 1))) (tg:=gN 0) (ti:=j6) (fe:=dOp ixD (aa 0) (dC (.int 0))) (own:=1) (caps:=[])
  (fun _=>true) (fun x=>match x with
   |.tup (y :: _)=>y
   |_=>.non) w1 (A.cell r) (by rw[List.length_map];exact hz) (by
   intro x hx;obtain⟨e,_,rfl⟩:=List.mem_map.mp hx;exact⟨[some (enD e)],rfl,fun _=>rfl,fun _ zs=>au rfl rfl (ba (i:=0) rfl)⟩)
 have hq:(((w.road r).map enD).filter fun _=>true).map (fun x=>match x with
   |.tup (y :: _)=>y
   |_=>D.non)=cc (w.road r):=by
  rw[List.filter_eq_self.mpr (by simp),List.map_map];rfl
 rw[hq] at q1;rw[aR (ax (ag q1 ai) (eG ci))];rfl
theorem Ar{S:List Cell}{n:Nat}{x y:D}(h1:∃p,pD S n x=some p)(h2:∃p,pD S n y=some p):∃p,pD S (n+1) (.tup [x,y])=some p:=by
 obtain⟨p,h1⟩:=h1;obtain⟨q,h2⟩:=h2;exact⟨.tuple [p,q],by rw[qg];simp only[pDs,h1,h2];rfl⟩
theorem yV(S:List Cell)(gs:List (Nat×Msg)):∃p,pD S 29 (.tup (gs.map gvD))=some p:=by
 obtain⟨ps,h⟩:=sC (S:=S) (n:=28) (l:=gs) (f:=gvD) fun c _=>CU S 24 c
 exact⟨.tuple ps,by rw[qg,h];rfl⟩
theorem tj{S:List Cell}{x:D}(h:∃p,pD S 30 x=some p):neD x x S=.ok (.bl false) S:=by
 obtain⟨p,h⟩:=h;exact wj h h
end
end Lw
namespace Lw
open PySem L2 DL
section
variable{G:Cs}{S S' S1 S2:List Cell}{a a' a1 a2 b b':Ad}{w w' w1 w2 v v':WW}{N:Nat}
structure Two(G:Cs)(S:List Cell)(a b:Ad)(w v:WW):Prop where
 l:WAt G S a w
 r:WAt G S b v
 dj:∀i,i∈b.fp->i∉a.fp
theorem Two.left(T:Two G S a b w v)(k:WTo G a S a' S' w'):Two G S' a' b w' v:=
 ⟨k.at_,T.r.fr k.fr T.dj,fun i hi z=>by
  rcases k.ad i z with h|h
  ·exact T.dj i hi h
  ·have:=T.r.lt i hi;omega⟩
theorem Two.right(T:Two G S a b w v)(k:WTo G b S b' S' v'):Two G S' a b' w v':=
 ⟨T.l.fr k.fr (fun i hi z=>T.dj i z hi),k.at_,fun i hi z=>by
  rcases k.ad i hi with h|h
  ·exact T.dj i h z
  ·have:=T.l.lt i z;omega⟩
theorem Two.push(T:Two G S a b w v)(c:List Cell):Two G (S++c) a b w v:=⟨T.l.push c,T.r.push c,T.dj⟩
theorem z8{x:D}(h:∃p,pD S 30 x=some p):eqD x x S=.ok (.bl true) S:=by
 obtain⟨p,h⟩:=h;exact AE h h
end
end Lw
namespace Lw
open PySem L2 DL
theorem Bw{l:List (Nat×Pc)}{k:Nat}{p:Pc}(h:l.lookup k=some p):(k,p)∈l:=by
 induction l with
 |nil=>cases h
 |cons x l ih=>
  obtain⟨a,b⟩:=x;rw[List.lookup_cons] at h;by_cases e:k == a
  ·rw[e] at h;simp only at h;cases h;have:k=a:=by simpa using e
   subst this;exact List.mem_cons_self
  ·have e':(k == a)=false:=by simpa using e
   rw[e'] at h;exact List.mem_cons_of_mem _ (ih h)
theorem AT{l:List (Nat×Pc)}{k:Nat}{p:Pc}(h:(k,p)∈l):l.lookup k≠none:=by
 induction l with
 |nil=>cases h
 |cons x l ih=>
  obtain⟨a,b⟩:=x;rw[List.lookup_cons];by_cases e:k == a
  ·rw[e];simp
  ·have e':(k == a)=false:=by simpa using e
   rw[e'];rcases List.mem_cons.mp h with z|z
   ·cases z;simp at e
   ·exact ih z
structure He(h:Hr):Prop where
 w0:0<h.w
 ke:∀e,e∈h.early->h.nx<=e.1/\e.1<h.nx+h.w
 no:h.early.lookup h.nx=none
theorem B1{w:Nat}(h:0<w):He (Hr.new w):=⟨h,fun _ z=>absurd z List.not_mem_nil,rfl⟩
theorem tY{h:Hr}(a:He h)(o:Nat):He (h.begin_ o):=⟨a.w0,fun _ z=>absurd z List.not_mem_nil,rfl⟩
structure Tk(B:Nat)(h h':Hr):Prop where
 w:h'.w=h.w
 op:h'.op=h.op
 ge:h.nx<=h'.nx
 le:h'.nx<=h.nx\/h'.nx<=B
 ke:∀e,e∈h'.early->h'.nx<=e.1/\e.1<B
 no:h'.early.lookup h'.nx=none
 st:∀e,e∈h.early->h'.nx<=e.1->e∈h'.early
theorem z4(h:Hr)(p:Pc):(h.take p).w=h.w/\(h.take p).op=h.op/\(h.take p).nx=h.nx/\(h.take p).early=h.early:=by
 unfold Hr.take;split<;>exact⟨rfl,rfl,rfl,rfl⟩
theorem qo(B:Nat):∀(n:Nat) (h:Hr),h.early.length<=n->(∀e,e∈h.early->h.nx<=e.1/\e.1<B)->Tk B h (h.takeAll n)
 |0,h,hl,hk=>by
  have:h.early=[]:=List.eq_nil_of_length_eq_zero (by omega);exact⟨rfl,rfl,Nat.le_refl _,.inl (Nat.le_refl _),hk,by show h.early.lookup h.nx=none;rw[this];rfl,fun e he _=>he⟩
 |n+1,h,hl,hk=>by
  unfold Hr.takeAll;cases hp:h.early.lookup h.nx with
  |none=>exact⟨rfl,rfl,Nat.le_refl _,.inl (Nat.le_refl _),hk,hp,fun e he _=>he⟩
  |some p=>
   have hm:=Bw hp;obtain⟨t1,t2,t3,t4⟩:=z4 h.pop p;have e1:(h.pop.take p).early=h.early.filter fun e=>decide (e.1≠h.nx):=t4
   have e2:(h.pop.take p).nx=h.nx+1:=t3;have hlen:(h.early.filter fun e=>decide (e.1≠h.nx)).length<h.early.length:=by
    refine List.length_filter_lt_length_iff_exists.mpr ⟨_,hm,by simp⟩
   have hb:=(hk _ hm).2;have ih:=qo B n (h.pop.take p) (by rw[e1];omega) (by
    rw[e1,e2];intro e he;obtain⟨h1,h2⟩:=List.mem_filter.mp he;have h3:=hk e h1;have h4:e.1≠h.nx:=by simpa using h2
    omega)
   show Tk B h ((h.pop.take p).takeAll n);have g1:=ih.ge;have g2:=ih.le;rw[e2] at g1 g2;have hb':h.nx<B:=hb;refine⟨ih.w.trans t1,ih.op.trans t2,by omega,.inr (by omega),ih.ke,ih.no,fun e he hx=>ih.st e ?_ hx⟩;rw[e1];refine List.mem_filter.mpr ⟨he,?_⟩;have:e.1≠h.nx:=by omega
   simpa using this
theorem oV{h:Hr}(a:He h)(n:Nat):h.takeAll n=h:=by
 cases n with
 |zero=>rfl
 |succ n=>
  unfold Hr.takeAll;rw[a.no]
theorem yO(h:Hr)(num:Nat)(w0:0<h.w):(h.nx:Int)-h.w<=h.idx num/\h.idx num<(h.nx:Int)+h.w:=by
 unfold Hr.idx cY;have h1:=Int.emod_nonneg ((num:Int)-((h.nx:Int)-h.w)) (show(2 * (h.w:Int))≠0 by omega);have h2:=Int.emod_lt_of_pos ((num:Int)-((h.nx:Int)-h.w)) (show(0:Int)<2 * (h.w:Int) by omega);omega
theorem qk{num:Nat}{low low':Int}{w:Nat}(hn:num<2 * w)(h1:low'<=cY num low w)(h2:cY num low w<low'+2 * w):cY num low' w=cY num low w:=by
 have w0:0<w:=by omega
 have hm:cY num low w % (2 * (w:Int))=(num:Int):=by
  unfold cY;rw[Int.add_comm,Int.emod_add_emod,show((num:Int)-low)+low=(num:Int) by omega];exact Int.emod_eq_of_lt (by omega) (by omega)
 have:=yP (i:=cY num low w) (low:=low') (w:=w) w0 h1 (by omega);rw[hm] at this;exact this
theorem sL{h:Hr}(a:He h)(num:Nat)(p:Pc):Tk (h.nx+h.w) (h.keep num p) (h.data num p)/\(h.keep num p).nx=h.nx/\(h.keep num p).w=h.w/\(h.keep num p).op=h.op:=by
 have hi:=yO h num a.w0;have hk:(h.keep num p).nx=h.nx/\(h.keep num p).w=h.w/\(h.keep num p).op=h.op:=by unfold Hr.keep;split<;>exact⟨rfl,rfl,rfl⟩
 refine⟨qo _ _ _ (Nat.le_refl _) ?_,hk⟩;intro e he;rw[hk.1];unfold Hr.keep at he;split at he
 ·rename_i hc;rcases List.mem_append.mp he with z|z
  ·exact a.ke e z
  ·rw[List.mem_singleton] at z;subst z;show h.nx<=(h.idx num).toNat/\(h.idx num).toNat<_;omega
 ·exact a.ke e he
theorem wM{h:Hr}(a:He h)(num:Nat)(p:Pc):He (h.data num p):=by
 obtain⟨t,k1,k2,_⟩:=sL a num p;have g:=t.ge;rw[k1] at g;refine⟨by rw[t.w,k2];exact a.w0,fun e he=>?_,t.no⟩;have:=t.ke e he;rw[t.w,k2];omega
theorem vq{h:Hr}(a:He h)(num:Nat)(p:Pc):(h.data num p).data num p=h.data num p:=by
 have a1:=wM a num p;obtain⟨t,k1,k2,_⟩:=sL a num p;have hi:=yO h num a.w0;have hkeep:(h.data num p).keep num p=h.data num p:=by
  by_cases hc:num<2 * h.w/\(h.nx:Int)<=h.idx num/\h.early.lookup (h.idx num).toNat=none
  ·have ek:h.keep num p = { h with early:=h.early++[((h.idx num).toNat,p)] }:=by unfold Hr.keep;rw[if_pos hc]
   have g:=t.ge;have l:=t.le;rw[k1] at g l;have ei:(h.data num p).idx num=h.idx num:=by
    show cY num _ _=cY num _ _;rw[t.w,k2];refine qk hc.1 ?_ ?_
    ·have:cY num ((h.nx:Int)-h.w) h.w=h.idx num:=rfl;rw[this];omega
    ·have:cY num ((h.nx:Int)-h.w) h.w=h.idx num:=rfl;rw[this];omega
   unfold Hr.keep;rw[if_neg];rintro⟨_,z2,z3⟩;rw[ei] at z2 z3;have hin:((h.idx num).toNat,p)∈(h.data num p).early:=t.st _ (by rw[ek];simp) (by show(h.data num p).nx<=(h.idx num).toNat;omega);exact AT hin z3
  ·have ek:h.keep num p=h:=by unfold Hr.keep;rw[if_neg hc]
   have ed:h.data num p=h:=by unfold Hr.data;rw[ek];exact oV a _
   rw[ed];exact ek
 show Hr.takeAll ((h.data num p).keep num p).early.length ((h.data num p).keep num p)=_;rw[hkeep];exact oV a1 _
theorem yM{h:Hr}(a:He h)(c:Card):He (h.hears c).1:=by
 cases c with
 |hello o=>
  unfold Hr.hears;dsimp only;split
  ·exact a
  ·split
   ·exact tY a o
   ·exact a
 |data o n p=>
  unfold Hr.hears;dsimp only;split
  ·exact a
  ·split
   ·exact a
   ·exact wM a n p
 |welcome o=>exact a
 |who o=>exact a
 |note o n bs=>exact a
theorem tL{h:Hr}(a:He h)(c:Card):(h.hears c).1.hears c=((h.hears c).1,(h.hears c).2):=by
 cases c with
 |hello o=>
  by_cases h1:o<h.op
  ·have e:h.hears (.hello o)=(h,[]):=by unfold Hr.hears;dsimp only;rw[if_pos h1]
   rw[e,e]
  ·by_cases h2:h.op<o
   ·have e:h.hears (.hello o)=(h.begin_ o,[.welcome o]):=by unfold Hr.hears;dsimp only;rw[if_neg h1,if_pos h2]
    rw[e];unfold Hr.hears;dsimp only;have ho:(h.begin_ o).op=o:=rfl;rw[ho,if_neg (Nat.lt_irrefl _),if_neg (Nat.lt_irrefl _)]
   ·have e:h.hears (.hello o)=(h,[.welcome o]):=by unfold Hr.hears;dsimp only;rw[if_neg h1,if_neg h2]
    rw[e,e]
 |data o n p=>
  by_cases h1:o<h.op
  ·have e:h.hears (.data o n p)=(h,[]):=by unfold Hr.hears;dsimp only;rw[if_pos h1]
   rw[e,e]
  ·by_cases h2:h.op<o
   ·have e:h.hears (.data o n p)=(h,[.who o]):=by unfold Hr.hears;dsimp only;rw[if_neg h1,if_pos h2]
    rw[e,e]
   ·have e:h.hears (.data o n p)=(h.data n p,[(h.data n p).note]):=by unfold Hr.hears;dsimp only;rw[if_neg h1,if_neg h2]
    obtain⟨t,_,_,k3⟩:=sL a n p;have ho:(h.data n p).op=h.op:=t.op.trans k3;rw[e];show(h.data n p).hears (.data o n p)=(h.data n p,[(h.data n p).note]);unfold Hr.hears;dsimp only;rw[ho,if_neg h1,if_neg h2,vq a n p]
 |welcome o=>rfl
 |who o=>rfl
 |note o n bs=>rfl
theorem iU:∀(bs:List Int) (s:Sr) (k:Nat),(s.noteP k bs).w=s.w/\(s.noteP k bs).most=s.most/\(s.noteP k bs).msgs=s.msgs/\(s.noteP k bs).sure=s.sure/\(s.noteP k bs).op=s.op/\(s.noteP k bs).st=s.st/\(s.noteP k bs).ps=s.ps/\(s.noteP k bs).base=s.base
 |[],s,k=>⟨rfl,rfl,rfl,rfl,rfl,rfl,rfl,rfl⟩
 |b :: bs,s,k=>by
  unfold Sr.noteP;split
  ·obtain⟨h1,h2,h3,h4,h5,h6,h7,h8⟩:=iU bs { s with noted:=s.noted++[s.base+k] } (k+1);exact⟨h1,h2,h3,h4,h5,h6,h7,h8⟩
  ·exact iU bs s (k+1)
theorem iS:∀(bs:List Int) (s:Sr) (k x:Nat),x∈s.noted->x∈(s.noteP k bs).noted
 |[],s,k,x,h=>h
 |b :: bs,s,k,x,h=>by
  unfold Sr.noteP;split
  ·exact iS bs _ (k+1) x (List.mem_append_left _ h)
  ·exact iS bs s (k+1) x h
theorem m5:∀(bs:List Int) (s:Sr) (k j:Nat),bs[j]?=some 1->s.base+(k+j)<s.ps.length->s.base+(k+j)∈(s.noteP k bs).noted
 |[],s,k,j,h,_=>by cases h
 |b :: bs,s,k,0,h,hl=>by
  have hb:b=1:=by simpa using h
  unfold Sr.noteP;split
  ·exact iS bs _ (k+1) _ (by show s.base+(k+0)∈s.noted++[s.base+k];simp)
  ·rename_i hc;have:s.base+k∈s.noted:=by
    apply Classical.byContradiction;intro z;exact hc ⟨hb,by simpa using hl,z⟩
   exact iS bs s (k+1) _ (by simpa using this)
 |b :: bs,s,k,j+1,h,hl=>by
  have hb:bs[j]?=some 1:=by simpa using h
  unfold Sr.noteP;have e:k+(j+1)=k+1+j:=by omega
  rw[e] at hl ⊢;split
  ·exact m5 bs { s with noted:=s.noted++[s.base+k] } (k+1) j hb hl
  ·exact m5 bs s (k+1) j hb hl
theorem uw:∀(bs:List Int) (s:Sr) (k:Nat),(∀j:Nat,bs[j]?=some 1->s.base+(k+j)<s.ps.length->s.base+(k+j)∈s.noted)->s.noteP k bs=s
 |[],s,k,_=>rfl
 |b :: bs,s,k,h=>by
  unfold Sr.noteP;rw[if_neg]
  ·refine uw bs s (k+1) fun j hj hl=>?_
   have:=h (j+1) (by simpa using hj) (by omega);rw[show k+1+j=k+(j+1) by omega];exact this
  ·rintro⟨rfl,z2,z3⟩;exact z3 (by simpa using h 0 rfl (by simpa using z2))
theorem oH(s:Sr)(n:Nat)(bs:List Int):(s.hearsNote n bs).hearsNote n bs=s.hearsNote n bs:=by
 by_cases hc:n<2 * s.w/\cY n s.base s.w<=min (s.base+s.w) s.ps.length
 ·have e:s.hearsNote n bs=(s.moveB (cY n s.base s.w).toNat).noteP 0 bs:=by unfold Sr.hearsNote;rw[if_pos hc]
  obtain⟨s1,hs1⟩:∃s1,s.moveB (cY n s.base s.w).toNat=s1:=⟨_,rfl⟩;have w0:0<s.w:=by omega
  have hge:=oR (n:Int) (s.base:Int) w0;rw[e,hs1];obtain⟨f1,f2,f3,f4,f5,f6,f7,f8⟩:=iU bs s1 0;have b1:s1.base=(cY n s.base s.w).toNat:=by rw[<-hs1];rfl
  have b2:s1.w=s.w:=by rw[<-hs1];rfl
  have b3:s1.ps=s.ps:=by rw[<-hs1];rfl
  obtain⟨s2,hs2⟩:∃s2,s1.noteP 0 bs=s2:=⟨_,rfl⟩;have hz:(cY n s.base s.w).toNat<=s.ps.length:=by omega
  have en:cY n (s2.base:Int) s2.w=((cY n s.base s.w).toNat:Int):=by
   rw[<-hs2,f8,f1,b1,b2];have:(((cY n s.base s.w).toNat:Nat):Int)=cY n s.base s.w:=by omega
   rw[this];exact qk hc.1 (Int.le_refl _) (by omega)
  rw[hs2];unfold Sr.hearsNote;rw[if_pos ⟨by rw[<-hs2,f1,b2];exact hc.1,by rw[en,<-hs2,f8,f7,b1,b3];omega⟩,en,Int.toNat_natCast];have em:s2.moveB (cY n s.base s.w).toNat=s2:=by
   have hb:s2.base=(cY n s.base s.w).toNat:=by rw[<-hs2,f8,b1]
   unfold Sr.moveB;rw[<-hb];have:(s2.ps.take s2.base).drop s2.base=[]:=by
    rw[List.drop_eq_nil_iff,List.length_take];omega
   rw[this];rfl
  rw[em];refine uw bs s2 0 fun j hj hl=>?_
  have:=m5 bs s1 0 j hj (by rw[<-hs2,f8,f7] at hl;exact hl);rw[<-hs2,f8];exact this
 ·have e:s.hearsNote n bs=s:=by unfold Sr.hearsNote;rw[if_neg hc]
  rw[e,e]
theorem tq(s:Sr)(n:Nat)(bs:List Int):(s.hearsNote n bs).op=s.op/\(s.hearsNote n bs).st=s.st:=by
 unfold Sr.hearsNote;split
 ·obtain⟨_,_,_,_,h5,h6,_,_⟩:=iU bs (s.moveB (cY n s.base s.w).toNat) 0;exact⟨h5,h6⟩
 ·exact⟨rfl,rfl⟩
theorem sE(s:Sr)(c:Card):(s.hears c).hears c=s.hears c:=by
 cases c with
 |welcome o=>
  by_cases h:o=s.op/\s.st=.opening
  ·have e:s.hears (.welcome o) = { s with st:=.opened }:=by unfold Sr.hears;dsimp only;rw[if_pos h]
   rw[e];unfold Sr.hears;dsimp only;rw[if_neg (by rintro⟨_,z⟩;cases z)]
  ·have e:s.hears (.welcome o)=s:=by unfold Sr.hears;dsimp only;rw[if_neg h]
   rw[e,e]
 |who o=>
  by_cases h:o=s.op/\s.st=.opened
  ·have e:s.hears (.who o)=s.anew:=by unfold Sr.hears;dsimp only;rw[if_pos h]
   rw[e];unfold Sr.hears;dsimp only;rw[if_neg (by rintro⟨_,z⟩;cases z)]
  ·have e:s.hears (.who o)=s:=by unfold Sr.hears;dsimp only;rw[if_neg h]
   rw[e,e]
 |note o n bs=>
  by_cases h:o=s.op/\s.st=.opened
  ·have e:s.hears (.note o n bs)=s.hearsNote n bs:=by unfold Sr.hears;dsimp only;rw[if_pos h]
   have ho:=tq s n bs;rw[e];unfold Sr.hears;dsimp only;rw[ho.1,ho.2,if_pos h,oH]
  ·have e:s.hears (.note o n bs)=s:=by unfold Sr.hears;dsimp only;rw[if_neg h]
   rw[e,e]
 |hello o=>rfl
 |data o n p=>rfl
theorem Cd{w:WW}(a:He w.h)(t:Act):He (w.act t).h:=by
 have hr:∀(r:Bool) (l:List En),(w.setR r l).h=w.h:=fun r l=>by cases r<;>rfl
 cases t with
 |hand m=>exact a
 |start=>exact a
 |tick=>exact a
 |step r=>
  show He (w.step r).h;unfold WW.step;cases w.road r with
  |nil=>exact a
  |cons e l=>
   show He ((w.setR r l).arrive r e).h;unfold WW.arrive;cases e.x with
   |some _=>show He (w.setR r l).h;rw[hr];exact a
   |none=>
    cases r with
    |true=>exact yM a e.c
    |false=>exact a
 |lose r k=>show He (w.setR r _).h;rw[hr];exact a
 |dbl r k=>show He (w.setR r _).h;rw[hr];exact a
 |spoil r k p b=>show He (w.setR r _).h;rw[hr];exact a
 |fall r=>
  cases r with
  |true=>exact a
  |false=>exact tY a 0
theorem sF{w:WW}(a:He w.h)(r:Bool)(e:En)(l:List En) :
  ((w.arrive r e).arrive r e).h=(w.arrive r e).h/\((w.arrive r e).arrive r e).s=(w.arrive r e).s/\((w.arrive r e).arrive r e).road (!r)=(w.arrive r e).road (!r)++((w.arrive r e).road (!r)).drop (w.road (!r)).length:=by
 unfold WW.arrive;cases hx:e.x with
 |some _=>
  refine⟨rfl,rfl,?_⟩;show w.road (!r)=w.road (!r)++(w.road (!r)).drop (w.road (!r)).length;rw[List.drop_length,List.append_nil]
 |none=>
  cases r with
  |true=>
   have ht:=tL a e.c;refine⟨congrArg Prod.fst ht,rfl,?_⟩;show(w.B++(w.h.hears e.c).2.map gd)++((w.h.hears e.c).1.hears e.c).2.map gd=(w.B++(w.h.hears e.c).2.map gd)++(w.B++(w.h.hears e.c).2.map gd).drop w.B.length;rw[congrArg Prod.snd ht,List.drop_left]
  |false=>
   refine⟨rfl,sE w.s e.c,?_⟩;show w.T=w.T++w.T.drop w.T.length;rw[List.drop_length,List.append_nil]
end Lw
namespace Lw
open PySem L2 DL
section
variable{G:Cs}{S S' S1 S2:List Cell}{a a' a1 a2 b b':Ad}{w w' w1 w2 v v':WW}{N:Nat}
theorem xV(w:WW)(r:Bool)(l l':List En):(w.setR r l).setR r l'=w.setR r l':=by cases r<;>rfl
theorem xE(w:WW)(r:Bool):w.setR r (w.road r)=w:=by cases r<;>rfl
theorem uk(w:WW)(r:Bool)(l:List En):(w.setR r l).road (!r)=w.road (!r)/\(w.setR r l).h=w.h/\(w.setR r l).s=w.s:=by cases r<;>exact⟨rfl,rfl,rfl⟩
theorem tT(w:WW)(r:Bool)(e:En)(l:List En):(w.setR r l).arrive r e=(w.arrive r e).setR r l:=by
 unfold WW.arrive;cases e.x<;>cases r<;>rfl
theorem ny(w:WW)(r:Bool)(e:En)(l:List En):(w.setR r (e :: l)).act (.step r)=(w.arrive r e).setR r l:=by
 show(w.setR r (e :: l)).step r=_;unfold WW.step;rw[ic];show((w.setR r (e :: l)).setR r l).arrive r e=_;rw[xV,tT]
theorem An(w:WW)(r:Bool)(e:En):(w.road (!r)).length<=((w.arrive r e).road (!r)).length:=by
 unfold WW.arrive;cases e.x with
 |some _=>exact Nat.le_refl _
 |none=>
  cases r with
  |true=>
   show w.B.length<=(w.B++_).length;rw[List.length_append];omega
  |false=>exact Nat.le_refl _
theorem ym{f:DSt->M D}{fl fh:DSt->M (Option Int)}{r:DSt}{xs:List D}{lo hi:Option Int}(h:f r S=.ok (.tup xs) S1)(h1:fl r S1=.ok lo S1)(h2:fh r S1=.ok hi S1):dSl slD f fl fh r S=.ok (.tup (eu xs lo hi)) S1:=by
 simp[h,h1,h2,slD]
theorem zK{f:DSt->M D}{r:DSt}{xs:List D}(h:f r S=.ok (.tup xs) S1):dh (bU f) r S=.ok xs.isEmpty S1:=by
 simp[h,qD]
theorem BA{t u:DSt->M Bool}{r:DSt}{b:Bool}(h1:t r S=.ok false S1)(h2:u r S1=.ok b S2):dOr t u r S=.ok b S2:=by
 simp[h1,h2]
theorem wO(A:WAt G S a w):dX G [.ob a.n] S=.ok (.tup [.tup (w.h.given.map gvD),.int (w.s.sure:Int),.str (stS w.s.st),.tup [.int (w.s.op:Int),.int (w.h.op:Int)]]) S:=by
 show fin S (jF G [some (.ob a.n),none] S)=_;unfold jF;rw[av (bD (bL (ag (aK rfl A.ob (ag rfl ai) (AK A)) (ag (aK rfl A.ob (ag rfl ai) (AV A)) ai)) (by simp)))];exact congrArg (fin S) (aR (bL (ag (aK rfl A.ob ai (yq A)) (ag (aK rfl A.ob ai (AQ A)) (ag (aK rfl A.ob ai (yw A)) (ag rfl ai)))) (by simp)))
theorem AZ(S:List Cell)(w:WW):∃p,pD S 30 (.tup [.tup (w.h.given.map gvD),.int (w.s.sure:Int),.str (stS w.s.st),.tup [.int (w.s.op:Int),.int (w.h.op:Int)]])=some p:=by
 obtain⟨p3,h3⟩:=yV S w.h.given;have h4:pD S 29 (.int (w.s.sure:Int))=some (.int (w.s.sure:Int)):=by simp[pD]
 obtain⟨p5,h5⟩:∃p,pD S 29 (.str (stS w.s.st))=some p:=by
  cases w.s.st with
  |shut=>exact⟨.str "shut",by simp only[pD];rw[if_pos (by decide +kernel)];rfl⟩
  |opening=>exact⟨.str "opening",by simp only[pD];rw[if_pos (by decide +kernel)];rfl⟩
  |opened=>exact⟨.str "open",by simp only[pD];rw[if_pos (by decide +kernel)];rfl⟩
 obtain⟨p6,h6⟩:∃p,pD S 29 (.tup [.int (w.s.op:Int),.int (w.h.op:Int)])=some p:=Ar (n:=28) ⟨.int (w.s.op:Int),by simp[pD]⟩ ⟨.int (w.h.op:Int),by simp[pD]⟩;exact⟨.tuple [p3,.int (w.s.sure:Int),p5,p6],by rw[qg];simp only[pDs,h3,h4,h5,h6];rfl⟩
theorem yl(S:List Cell)(l:List En):∃p,pD S 30 (.tup (cc l))=some p:=by
 obtain⟨ps,h⟩:=sC (S:=S) (n:=29) (l:=l) (f:=fun e=>D.tup (e.xs.map D.int)) fun e _=>⟨_,oO (n:=27) e.xs⟩
 exact⟨.tuple ps,by rw[qg];unfold cc;rw[h];rfl⟩
theorem xX(ns:List Int):∃rb:Bool,∀(rest:DSt) (S:List Cell),
  dOp ixD (bW (ac (dC (.str "there")) (ac (dC (.str "back")) aj))) (dOp iP (am bw (ac (aa 0) (ac (dC (.int 2)) aj))) (dC (.int 2))) (some (.rol (ns.map D.int)) :: rest) S=.ok (.str (aZ rb)) (S++[.lst [.str "there",.str "back"]])
  /\dOp ixD (bW (ac (dC (.str "back")) (ac (dC (.str "there")) aj))) (dOp iP (am bw (ac (aa 0) (ac (dC (.int 2)) aj))) (dC (.int 2))) (some (.rol (ns.map D.int)) :: rest) S=.ok (.str (aZ (!rb))) (S++[.lst [.str "back",.str "there"]]):=by
 have hm2:cv ns 2 % 2=0\/cv ns 2 % 2=1:=by omega
 rcases hm2 with z|z
 ·refine⟨true,fun rest S=>⟨?_,?_⟩⟩ <;>
  ·refine au (b9 (ag rfl (ag rfl ai)) (by simp)) (au (ax (ag rfl (ag rfl ai)) (yb _)) rfl (cH (by decide))) ?_;rw[z];exact gR (i:=0) (aS rfl) rfl
 ·refine⟨false,fun rest S=>⟨?_,?_⟩⟩ <;>
  ·refine au (b9 (ag rfl (ag rfl ai)) (by simp)) (au (ax (ag rfl (ag rfl ai)) (yb _)) rfl (cH (by decide))) ?_;rw[z];exact gR (i:=1) (aS rfl) rfl
abbrev rr(ns:List Int)(a b:Nat)(x5 x6 x7 x8 x9:Option D):DSt:=[some (.rol (ns.map D.int)),some (.int (wOf ns:Int)),some (.int (mOf ns:Int)),some (.ob a),some (.ob b),x5,x6,x7,x8,x9]
theorem yX(G:Cs):∀ns:List Int,ns.length<=63->∃S',Ba G [.rol (ns.map D.int)] []=.ok (.bl true) S':=by
 intro ns hns;show ∃S',fin [] (u8 G [some (.rol (ns.map D.int)),none,none,none,none,none,none,none,none,none] [])=_;unfold u8;rw[av (AG (ax (ag rfl ai) (vh ns [])))];show ∃S',fin [] (aJ _ _ [some (.rol (ns.map D.int)),some (.int (wOf ns:Int)),some (.int (mOf ns:Int)),none,none,none,none,none,none,none] [])=_;obtain⟨S1,a0,e1,A0,f0,hn0,hf0⟩:=wA (G:=G) (wOf ns) (mOf ns) [];rw[av (bD (ax (ag rfl (ag rfl ai)) e1)),<-hn0];show ∃S',fin [] (aJ _ _ [some (.rol (ns.map D.int)),some (.int (wOf ns:Int)),some (.int (mOf ns:Int)),some (.ob a0.n),none,none,none,none,none,none] S1)=_;obtain⟨S2,b0,e2,B0,f2,hm0,hf2⟩:=wA (G:=G) (wOf ns) (mOf ns) S1;rw[av (bD (ax (ag rfl (ag rfl ai)) e2)),<-hm0];show ∃S',fin [] (aJ _ _ (rr ns a0.n b0.n none none none none none) S2)=_;have T2:Two G S2 a0 b0 (WW.new (wOf ns) (mOf ns)) (WW.new (wOf ns) (mOf ns)):=⟨A0.fr f2 (fun i _ z=>nomatch z),B0,fun i hi z=>by have h1:=hf2 i hi;have h2:=A0.lt i z;omega⟩;obtain⟨S3,l,e3,R⟩:=zO true ns S2;have T3:Two G S3 a0 b0 (WW.new (wOf ns) (mOf ns)) (WW.new (wOf ns) (mOf ns)):=⟨T2.l.fr R.fr (fun i _ z=>nomatch z),T2.r.fr R.fr (fun i _ z=>nomatch z),T2.dj⟩;have la:l∉a0.fp:=fun z=>by have h1:=T2.l.lt l z;have h2:=R.new;omega
 have lb:l∉b0.fp:=fun z=>by have h1:=T2.r.lt l z;have h2:=R.new;omega
 have hal:=zd true ns;have hw:dWk (am gr (ac (aa 0) (ac (dC (.bl true)) aj))) (rr ns a0.n b0.n none none none none none) S2=.ok ⟨(ij true ns).map LA.d,some (l,(ij true ns).map LA.d)⟩ S3:=by
  rw[nL,aw,ax (ag rfl (ag rfl ai)) e3];show lr (.ob l) S3=_;simp only[lr,R.at_]
 obtain⟨r',S4,q,hI⟩:=eN (g:=some (l,(ij true ns).map LA.d)) (tg:=gN 5) (b:=qa G)
  (fun i r S'=>∃a b w x5,r=rr ns a0.n b0.n x5 none none none none/\a.n=a0.n/\b.n=b0.n/\Two G S' a b w w/\He w.h/\Wok i w/\i<=242/\S'[l]?=some (.lst ((ij true ns).map LA.d))/\l∉a.fp/\l∉b.fp) ((ij true ns).map LA.d) 0 (rr ns a0.n b0.n none none none none none) S3
  (by
   rintro i y r S' hy ⟨a,b,w,x5,rfl,hn,hm,T,hE,K,hi,hlc,hla,hlb⟩;rw[List.getElem?_map] at hy;cases hp:(ij true ns)[i]? with
   |none=>rw[hp] at hy;cases hy
   |some t=>
    rw[hp] at hy;cases hy;rw[Nat.zero_add] at K ⊢;have hil:=(List.getElem?_eq_some_iff.mp hp).1;obtain⟨S5,a5,e5,k5⟩:=A4 T.l K (by omega) t;obtain⟨o1,o2⟩:=k5.out hlc hla;have T5:=T.left k5;obtain⟨S6,b6,e6,k6⟩:=A4 T5.r K (by omega) t;obtain⟨o3,o4⟩:=k6.out o1 hlb;rw[hn] at e5;rw[hm] at e6;refine⟨rr ns a0.n b0.n (some t.d) none none none none,_,S6,rfl,?_,o3,a5,b6,w.act t.act,some t.d,rfl,k5.nn.trans hn,k6.nn.trans hm,T5.right k6,Cd hE t.act,oP K (by omega) t.act t.ok,by omega,o3,o2,o4⟩;unfold qa;rw[av (aY (ax (ag rfl (ag rfl ai)) e5))];exact aY (ax (ag rfl (ag rfl ai)) e6))
  ⟨a0,b0,WW.new (wOf ns) (mOf ns),none,rfl,rfl,rfl,T3,B1 (wQ ns),z9 (wQ ns) (BX ns) (Aw ns) (Bo ns),by omega,R.at_,la,lb⟩
 obtain⟨a,b,w,x5,rfl,hn,hm,T,hE,K,hi,_,_,_⟩:=hI;rw[av (by rw[m0 hw];exact q),<-hn,<-hm];obtain⟨N,hNN⟩:∃N,0+((ij true ns).map LA.d).length=N:=⟨_,rfl⟩;rw[hNN] at K hi;obtain⟨rb,hp⟩:=xX ns;rw[av (bD (hp _ S4).1)];obtain⟨S5,hS5⟩:∃S5,S4++[Cell.lst [.str "there",.str "back"]]=S5:=⟨_,rfl⟩;have T5:Two G S5 a b w w:=by rw[<-hS5];exact T.push _
 rw[hS5];show ∃S',fin [] (aJ _ _ (rr ns a.n b.n x5 (some (.str (aZ rb))) none none none) S5)=_;rw[av (bD (hp _ S5).2)];obtain⟨S6,hS6⟩:∃S6,S5++[Cell.lst [.str "back",.str "there"]]=S6:=⟨_,rfl⟩;have T6:Two G S6 a b w w:=by rw[<-hS6];exact T5.push _
 rw[hS6];show ∃S',fin [] (aJ _ _ (rr ns a.n b.n x5 (some (.str (aZ rb))) (some (.str (aZ (!rb)))) none none) S6)=_;have rl1:=K.rl rb;have rl2:=K.rl (!rb);have o1:=gP T6.l rb (by omega);obtain⟨S7,hS7⟩:∃S7,S6++[Cell.lst (cc (w.road rb))]=S7:=⟨_,rfl⟩;have T7:Two G S7 a b w w:=by rw[<-hS7];exact T6.push _
 rw[hS7] at o1;have t1:dh (bU (aP G.World ns_World (aO G) (aa 3) (ac (aa 6) aj))) (rr ns a.n b.n x5 (some (.str (aZ rb))) (some (.str (aZ (!rb)))) none none) S6=.ok (cc (w.road rb)).isEmpty S7:=zK (aK rfl T6.l.ob (ag rfl ai) o1);cases hl:w.road rb with
 |nil=>
  rw[hl] at t1;exact⟨S7,congrArg (fin []) (cZ (by rw[bf t1];exact aR rfl))⟩
 |cons e l=>
 rw[hl] at t1;rw[av (by rw[ay t1];rfl)];have o2:=gP T7.r (!rb) (by omega);obtain⟨S8,hS8⟩:∃S8,S7++[Cell.lst (cc (w.road (!rb)))]=S8:=⟨_,rfl⟩;have T8:Two G S8 a b w w:=by rw[<-hS8];exact T7.push _
 rw[hS8] at o2;have b1:am bC (ac (aP G.World ns_World (aO G) (aa 4) (ac (aa 7) aj)) aj) (rr ns a.n b.n x5 (some (.str (aZ rb))) (some (.str (aZ (!rb)))) none none) S7=.ok (.int ((w.road (!rb)).length:Int)) S8:=
  ax (ag (aK rfl T7.r.ob (ag rfl ai) o2) ai) (by rw[cm];unfold cc;rw[List.length_map])
 rw[av (bD b1)];obtain⟨B,hB⟩:∃B,(w.road (!rb)).length=B:=⟨_,rfl⟩;rw[hB];show ∃S',fin [] (aJ _ _ (rr ns a.n b.n x5 (some (.str (aZ rb))) (some (.str (aZ (!rb)))) (some (.int (B:Int))) none) S8)=_;obtain⟨S9,a9,e9,k9⟩:=y9 T8.l K (by omega) rb 0;have e9':cJ G [.ob a.n,.str (aZ rb),.int 0] S8=.ok .non S9:=e9;rw[av (aY (aK rfl T8.l.ob (ag rfl (ag rfl ai)) e9')),<-k9.nn];have T9:=T8.left k9;have K9:=wu K rb 0;have d1:w.act (.dbl rb 0)=w.setR rb (e :: e :: l):=by
  show w.setR rb (xg (w.road rb) 0)=_;rw[hl];rfl
 rw[d1] at T9 K9;have hll:(e :: l).length<=8 * N:=by rw[<-hl];exact rl1
 rw[List.length_cons] at hll;have o3:=gP T9.l rb (by rw[ic,List.length_cons,List.length_cons];omega);rw[ic] at o3;obtain⟨S10,hS10⟩:∃S10,S9++[Cell.lst (cc (e :: e :: l))]=S10:=⟨_,rfl⟩;have T10:Two G S10 a9 b (w.setR rb (e :: e :: l)) w:=by rw[<-hS10];exact T9.push _
 rw[hS10] at o3;have o4:=gP T10.r rb (by omega);rw[hl] at o4;obtain⟨S11,hS11⟩:∃S11,S10++[Cell.lst (cc (e :: l))]=S11:=⟨_,rfl⟩;have T11:Two G S11 a9 b (w.setR rb (e :: e :: l)) w:=by rw[<-hS11];exact T10.push _
 rw[hS11] at o4;have o5:=gP T11.r rb (by omega);rw[hl] at o5;obtain⟨S12,hS12⟩:∃S12,S11++[Cell.lst (cc (e :: l))]=S12:=⟨_,rfl⟩;have T12:Two G S12 a9 b (w.setR rb (e :: e :: l)) w:=by rw[<-hS12];exact T11.push _
 rw[hS12] at o5;have c1:eu (cc (e :: l)) none (some 1)=(cc (e :: l)).take 1:=rm (k:=1) (by simp[cc]);have ad:bP (.tup (eu (cc (e :: l)) none (some 1))) (.tup (cc (e :: l))) S12=.ok (.tup (cc (e :: e :: l))) S12:=by
  rw[c1];exact mv (xs:=cc (e :: e :: l)) (by unfold cc;rw[List.length_map,List.length_cons,List.length_cons];omega)
 have t2:ao (dOp neD (aP G.World ns_World (aO G) (aa 3) (ac (aa 6) aj)) (dOp bP (dSl slD (aP G.World ns_World (aO G) (aa 4) (ac (aa 6) aj)) bN (bQ (dC (.int 1)))) (aP G.World ns_World (aO G) (aa 4) (ac (aa 6) aj)))) (rr ns a9.n b.n x5 (some (.str (aZ rb))) (some (.str (aZ (!rb)))) (some (.int (B:Int))) none) S9=.ok false S12:=
  az (au (aK rfl T9.l.ob (ag rfl ai) o3) (au (ym (aK rfl T10.r.ob (ag rfl ai) o4) rfl rfl) (aK rfl T11.r.ob (ag rfl ai) o5) ad) (tj (yl _ _)))
 rw[av (by rw[ay t2];rfl)];obtain⟨S13,a13,e13,k13⟩:=oU T12.l K9 (by omega) rb;rw[av (aY (aK rfl T12.l.ob (ag rfl ai) e13)),<-k13.nn];have T13:=T12.left k13;have K13:=oP K9 (by omega) (.step rb) trivial;rw[ny] at T13 K13;obtain⟨S14,a14,e14,k14⟩:=oU T13.l K13 (by omega) rb;rw[av (aY (aK rfl T13.l.ob (ag rfl ai) e14)),<-k14.nn];have T14:=T13.left k14;have K14:=oP K13 (by omega) (.step rb) trivial;rw[ny] at T14 K14;obtain⟨S15,b15,e15,k15⟩:=oU T14.r K (by omega) rb;rw[av (aY (aK rfl T14.r.ob (ag rfl ai) e15)),<-k15.nn];have T15:=T14.right k15;have K15:=oP K (by omega) (.step rb) trivial;have s1:w.act (.step rb)=(w.arrive rb e).setR rb l:=by
  have:=ny w rb e l;rw[<-hl,xE] at this;exact this
 rw[s1] at T15 K15;obtain⟨g1,g2,g3⟩:=sF hE rb e l;have hbl:=An w rb e;rw[hB] at g3 hbl;obtain⟨p1,p2,p3⟩:=uk (w.arrive rb e) rb l;obtain⟨q1,q2,q3⟩:=uk ((w.arrive rb e).arrive rb e) rb l;have x1:=ic (w.arrive rb e) rb l;have x2:=ic ((w.arrive rb e).arrive rb e) rb l;have y1:=K14.rl (!rb);have y2:=K15.rl (!rb);obtain⟨u,hu⟩:∃u,(w.arrive rb e).setR rb l=u:=⟨_,rfl⟩;obtain⟨v,hv⟩:∃v,((w.arrive rb e).arrive rb e).setR rb l=v:=⟨_,rfl⟩;rw[hu] at T15 p1 p2 p3 x1 y2;rw[hv] at T15 q1 q2 q3 x2 y1;rw[g1,<-p2] at q2;rw[g2,<-p3] at q3;rw[g3,<-p1] at q1;rw[<-p1] at hbl;have n1:=wO T15.l;rw[q2,q3] at n1;have n2:=wO T15.r;have t3:ao (dOp neD (am (dX G) (ac (aa 3) aj)) (am (dX G) (ac (aa 4) aj))) (rr ns a14.n b15.n x5 (some (.str (aZ rb))) (some (.str (aZ (!rb)))) (some (.int (B:Int))) none) S15=.ok false S15:=az (au (ax (ag rfl ai) n1) (ax (ag rfl ai) n2) (tj (AZ _ _)));have o6:=gP T15.l rb (by rw[x2];omega);rw[x2] at o6;obtain⟨S16,hS16⟩:∃S16,S15++[Cell.lst (cc l)]=S16:=⟨_,rfl⟩;have T16:Two G S16 a14 b15 v u:=by rw[<-hS16];exact T15.push _
 rw[hS16] at o6;have o7:=gP T16.r rb (by rw[x1];omega);rw[x1] at o7;obtain⟨S17,hS17⟩:∃S17,S16++[Cell.lst (cc l)]=S17:=⟨_,rfl⟩;have T17:Two G S17 a14 b15 v u:=by rw[<-hS17];exact T16.push _
 rw[hS17] at o7;have t4:ao (dOp neD (aP G.World ns_World (aO G) (aa 3) (ac (aa 6) aj)) (aP G.World ns_World (aO G) (aa 4) (ac (aa 6) aj))) (rr ns a14.n b15.n x5 (some (.str (aZ rb))) (some (.str (aZ (!rb)))) (some (.int (B:Int))) none) S15=.ok false S17:=
  az (au (aK rfl T15.l.ob (ag rfl ai) o6) (aK rfl T16.r.ob (ag rfl ai) o7) (tj (yl _ _)))
 rw[av (by rw[ay (BA t3 t4)];rfl)];have o8:=gP T17.r (!rb) (by omega);obtain⟨S18,hS18⟩:∃S18,S17++[Cell.lst (cc (u.road (!rb)))]=S18:=⟨_,rfl⟩;have T18:Two G S18 a14 b15 v u:=by rw[<-hS18];exact T17.push _
 rw[hS18] at o8;rw[av (bD (aK rfl T17.r.ob (ag rfl ai) o8))];have o9:=gP T18.l (!rb) (by omega);rw[q1] at o9 y1;have c2:eu (cc (u.road (!rb))) (some (B:Int)) none=(cc (u.road (!rb))).drop B:=eR (by unfold cc;rw[List.length_map];exact hbl);have ad2:∀S:List Cell,bP (.tup (cc (u.road (!rb)))) (.tup (eu (cc (u.road (!rb))) (some (B:Int)) none)) S=.ok (.tup (cc (u.road (!rb)++(u.road (!rb)).drop B))) S:=fun S=>by
  have h1:cc (u.road (!rb))++(cc (u.road (!rb))).drop B=cc (u.road (!rb)++(u.road (!rb)).drop B):=by
   unfold cc;rw[List.map_append,List.map_drop]
  have h2:=mv (S:=S) (xs:=cc (u.road (!rb)++(u.road (!rb)).drop B)) (by unfold cc;rw[List.length_map];omega);rw[c2];show lx (cc (u.road (!rb))++(cc (u.road (!rb))).drop B) S=_;rw[h1];exact h2
 exact⟨_,congrArg (fin []) (aR (au (aK rfl T18.l.ob (ag rfl ai) o9) (au rfl (ym rfl rfl rfl) (ad2 _)) (z8 (yl _ _))))⟩
end
end Lw
namespace Lw
open PySem L2 DL
def nI(K:PySem.W.Frag)(x:Str)(f:Addr):Prop:=PySem.W.nsIn K mainGlobals x=some (some (.ref f))
def fI(K:PySem.W.Frag)(g:Addr)(x:Str)(f:Addr):Prop:=PySem.W.findIn K (.ref g) x=some (some (.ref f))
def iF(K:PySem.W.Frag)(f:Addr):Prop:=PySem.W.isFn K (.ref f)=true
def nN(K:PySem.W.Frag)(x:Str):Prop:=PySem.W.nsIn K mainGlobals x=some none
def fN(K:PySem.W.Frag)(g:Addr)(x:Str):Prop:=PySem.W.findIn K (.ref g) x=some none
def oF(K:PySem.W.Frag)(f:Addr)(x q:Str)(st:Stmt):Prop:=∃fd,Fun K x q st f fd
theorem oF_mk{K:PySem.W.Frag}{x qual:Str}{st:Stmt}{f:Addr}{oc:Value}{od an:Option Addr}{osl:Array (Option Value)}{kV doc pm cdv ct:Value}(l:K.lookup f=some ⟨oc,od,.func (PySem.W.fnOf x qual (defArgs st) (defBody st) (defScope st) .none kV doc pm an cdv ct),osl⟩)(c:PySem.W.codeIn K cdv qual=true)(k:PySem.W.keepIn K (.ref f)=true):oF K f x qual st:=⟨_,Bq l c k⟩
theorem cF{P:Program}{w:World}{K:PySem.W.Frag}{mg:Str->Option Value}{base h:Heap}(X:K.In h)(G:h.Ns mainGlobals mg){x x' q:Str}{st:Stmt}{f:Addr}{fd:FuncData}{k:Nat}{ps:List Str}{F:List D->M D}(a:nI K x f)(hF:Fun K x' q st f fd)(b:Binds K fd ps [])(o:FnD P w K mg base (CXE P w) k f fd ps F):Cal P w K mg base (CXE P w) x k ps F:=⟨⟨f,_,PySem.W.mg_of X G a,hF.kp,b,o⟩⟩
theorem cM{P:Program}{w:World}{K:PySem.W.Frag}{mg:Str->Option Value}{base:Heap}{g:Addr}{x x' q:Str}{st:Stmt}{f:Addr}{fd:FuncData}{k:Nat}{ps:List Str}{F:List D->M D}(a:fI K g x f)(i:iF K f)(hF:Fun K x' q st f fd)(b:Binds K fd ps [])(o:FnD P w K mg base (CXE P w) k f fd ps F):CalM P w K mg base (CXE P w) g x k ps F:=⟨⟨f,_,⟨a,i,hF.kp⟩,b,o⟩⟩
theorem bn1{K:PySem.W.Frag}{x q:Str}{st:Stmt}{f:Addr}{fd:FuncData}{ps:List Str}(F:Fun K x q st f fd)(h:∀(kV doc pm:Value) (an:Option Addr) (cdv ct u0:Value),bindArgs (PySem.W.fnOf x q (defArgs st) (defBody st) (defScope st) .none kV doc pm an cdv ct) ⟨[u0],[]⟩=pure (ps.zip [u0]))(hp:ps.length=1:=by rfl):Binds K fd ps []:=F.binds fun a b c d e g us hl=>match us,hl.trans hp with|[u0],_=>h a b c d e g u0
theorem bn2{K:PySem.W.Frag}{x q:Str}{st:Stmt}{f:Addr}{fd:FuncData}{ps:List Str}(F:Fun K x q st f fd)(h:∀(kV doc pm:Value) (an:Option Addr) (cdv ct u0 u1:Value),bindArgs (PySem.W.fnOf x q (defArgs st) (defBody st) (defScope st) .none kV doc pm an cdv ct) ⟨[u0,u1],[]⟩=pure (ps.zip [u0,u1]))(hp:ps.length=2:=by rfl):Binds K fd ps []:=F.binds fun a b c d e g us hl=>match us,hl.trans hp with|[u0,u1],_=>h a b c d e g u0 u1
theorem bn3{K:PySem.W.Frag}{x q:Str}{st:Stmt}{f:Addr}{fd:FuncData}{ps:List Str}(F:Fun K x q st f fd)(h:∀(kV doc pm:Value) (an:Option Addr) (cdv ct u0 u1 u2:Value),bindArgs (PySem.W.fnOf x q (defArgs st) (defBody st) (defScope st) .none kV doc pm an cdv ct) ⟨[u0,u1,u2],[]⟩=pure (ps.zip [u0,u1,u2]))(hp:ps.length=3:=by rfl):Binds K fd ps []:=F.binds fun a b c d e g us hl=>match us,hl.trans hp with|[u0,u1,u2],_=>h a b c d e g u0 u1 u2
theorem bn4{K:PySem.W.Frag}{x q:Str}{st:Stmt}{f:Addr}{fd:FuncData}{ps:List Str}(F:Fun K x q st f fd)(h:∀(kV doc pm:Value) (an:Option Addr) (cdv ct u0 u1 u2 u3:Value),bindArgs (PySem.W.fnOf x q (defArgs st) (defBody st) (defScope st) .none kV doc pm an cdv ct) ⟨[u0,u1,u2,u3],[]⟩=pure (ps.zip [u0,u1,u2,u3]))(hp:ps.length=4:=by rfl):Binds K fd ps []:=F.binds fun a b c d e g us hl=>match us,hl.trans hp with|[u0,u1,u2,u3],_=>h a b c d e g u0 u1 u2 u3
theorem bn5{K:PySem.W.Frag}{x q:Str}{st:Stmt}{f:Addr}{fd:FuncData}{ps:List Str}(F:Fun K x q st f fd)(h:∀(kV doc pm:Value) (an:Option Addr) (cdv ct u0 u1 u2 u3 u4:Value),bindArgs (PySem.W.fnOf x q (defArgs st) (defBody st) (defScope st) .none kV doc pm an cdv ct) ⟨[u0,u1,u2,u3,u4],[]⟩=pure (ps.zip [u0,u1,u2,u3,u4]))(hp:ps.length=5:=by rfl):Binds K fd ps []:=F.binds fun a b c d e g us hl=>match us,hl.trans hp with|[u0,u1,u2,u3,u4],_=>h a b c d e g u0 u1 u2 u3 u4
theorem bn6{K:PySem.W.Frag}{x q:Str}{st:Stmt}{f:Addr}{fd:FuncData}{ps:List Str}(F:Fun K x q st f fd)(h:∀(kV doc pm:Value) (an:Option Addr) (cdv ct u0 u1 u2 u3 u4 u5:Value),bindArgs (PySem.W.fnOf x q (defArgs st) (defBody st) (defScope st) .none kV doc pm an cdv ct) ⟨[u0,u1,u2,u3,u4,u5],[]⟩=pure (ps.zip [u0,u1,u2,u3,u4,u5]))(hp:ps.length=6:=by rfl):Binds K fd ps []:=F.binds fun a b c d e g us hl=>match us,hl.trans hp with|[u0,u1,u2,u3,u4,u5],_=>h a b c d e g u0 u1 u2 u3 u4 u5
theorem all_mk{l:PySem.W.OpenLaw}{w:World}{K:PySem.W.Frag}{h:Heap}{mg:Str->Option Value}{fa:Addr}{gHearer:Addr}{gSender:Addr}{gWorld:Addr}{gNoCard:Addr}{gNoStrip:Addr}{f0 f1 f2 f3 f4 f5 f6 f7 f8 f9 f10 f11 f12 f13 f14 f15 f16 f17 f18 f19 f20 f21 f22 f23 f24 f25 f26 f27 f28 f29 f30 f31 f32 f33 f34 f35 f36 f37 f38 f39 f40 f41 f42 f43 f44 f45 f46 f47 f48 f49 f50 f51 f52 f53 f54 f55 f56 f57 f58 f59 f60 f61 f62 f63:Addr}{a_KINDS:Addr}{i_KINDS:Array Value}{n_KINDS:Nat}{s_KINDS:Array (Option Value)}{a_SHORT_KINDS:Addr}{i_SHORT_KINDS:Array Value}{n_SHORT_KINDS:Nat}{s_SHORT_KINDS:Array (Option Value)}{t_TOP_OPENING:Tok}{t_TOP_NUMBER:Tok}{t_TOP_CELL:Tok}{t_MOST_PIECE_LETTERS:Tok}{t_MOST_BITS:Tok}{t_HEAD_CELLS:Tok}{t_CHECK_CELLS:Tok}(X:K.In h)(G:h.Ns mainGlobals mg)(hfa:mg "law"=some (.ref fa))
  (aCHearer:nI K "Hearer" gHearer)
  (aCSender:nI K "Sender" gSender)
  (aCWorld:nI K "World" gWorld)
  (aCNoCard:nI K "NoCard" gNoCard)
  (aCNoStrip:nI K "NoStrip" gNoStrip)
  (a0:nI K "_law_mix" f0)
  (l0:oF K f0 "_law_mix" "_law_mix" lF)
  (a1:nI K "_law_cell" f1)
  (l1:oF K f1 "_law_cell" "_law_cell" kt)
  (a2:nI K "_law_setting" f2)
  (l2:oF K f2 "_law_setting" "_law_setting" iw)
  (a3:fI K gSender "__init__" f3)
  (i3:iF K f3)
  (l3:oF K f3 "__init__" "Sender.__init__" eY)
  (a4:fI K gHearer "__init__" f4)
  (i4:iF K f4)
  (l4:oF K f4 "__init__" "Hearer.__init__" ff)
  (a5:fI K gWorld "__init__" f5)
  (i5:iF K f5)
  (l5:oF K f5 "__init__" "World.__init__" fP)
  (a6:nI K "_law_acts" f6)
  (l6:oF K f6 "_law_acts" "_law_acts" kF)
  (a7:fI K gWorld "has_strip" f7)
  (i7:iF K f7)
  (l7:oF K f7 "has_strip" "World.has_strip" fF)
  (a8:fI K gWorld "double" f8)
  (i8:iF K f8)
  (l8:oF K f8 "double" "World.double" iD)
  (a9:nI K "card_from" f9)
  (l9:oF K f9 "card_from" "card_from" ku)
  (a10:nI K "with_checks" f10)
  (l10:oF K f10 "with_checks" "with_checks" iY)
  (a11:nI K "is_whole" f11)
  (l11:oF K f11 "is_whole" "is_whole" lE)
  (a12:nI K "is_row" f12)
  (l12:oF K f12 "is_row" "is_row" pC)
  (a13:nI K "is_piece" f13)
  (l13:oF K f13 "is_piece" "is_piece" lH)
  (a14:nI K "are_bits" f14)
  (l14:oF K f14 "are_bits" "are_bits" lP)
  (a15:nI K "is_card" f15)
  (l15:oF K f15 "is_card" "is_card" mU)
  (a16:nI K "read" f16)
  (l16:oF K f16 "read" "read" vH)
  (a17:nI K "cells_of" f17)
  (l17:oF K f17 "cells_of" "cells_of" lR)
  (a18:nI K "written" f18)
  (l18:oF K f18 "written" "written" mO)
  (a19:fI K gWorld "put_behind" f19)
  (i19:iF K f19)
  (l19:oF K f19 "put_behind" "World.put_behind" eM)
  (a20:fI K gHearer "begin" f20)
  (i20:iF K f20)
  (l20:oF K f20 "begin" "Hearer.begin" iB)
  (a21:fI K gHearer "hears_hello" f21)
  (i21:iF K f21)
  (l21:oF K f21 "hears_hello" "Hearer.hears_hello" dW)
  (a22:nI K "goes_round" f22)
  (l22:oF K f22 "goes_round" "goes_round" jG)
  (a23:nI K "index_near" f23)
  (l23:oF K f23 "index_near" "index_near" jS)
  (a24:fI K gHearer "keep" f24)
  (i24:iF K f24)
  (l24:oF K f24 "keep" "Hearer.keep" jo)
  (a25:nI K "letters_of" f25)
  (l25:oF K f25 "letters_of" "letters_of" jI)
  (a26:fI K gHearer "take" f26)
  (i26:iF K f26)
  (l26:oF K f26 "take" "Hearer.take" jj)
  (a27:fI K gHearer "take_all" f27)
  (i27:iF K f27)
  (l27:oF K f27 "take_all" "Hearer.take_all" fB)
  (a28:nI K "number_of" f28)
  (l28:oF K f28 "number_of" "number_of" kA)
  (a29:fI K gHearer "note" f29)
  (i29:iF K f29)
  (l29:oF K f29 "note" "Hearer.note" iX)
  (a30:fI K gHearer "hears_data" f30)
  (i30:iF K f30)
  (l30:oF K f30 "hears_data" "Hearer.hears_data" eh)
  (a31:fI K gHearer "hears" f31)
  (i31:iF K f31)
  (l31:oF K f31 "hears" "Hearer.hears" iH)
  (a32:nI K "pieces_of" f32)
  (l32:oF K f32 "pieces_of" "pieces_of" j9)
  (a33:fI K gSender "open_anew" f33)
  (i33:iF K f33)
  (l33:oF K f33 "open_anew" "Sender.open_anew" eJ)
  (a34:fI K gSender "move_base" f34)
  (i34:iF K f34)
  (l34:oF K f34 "move_base" "Sender.move_base" eK)
  (a35:fI K gSender "note_pieces" f35)
  (i35:iF K f35)
  (l35:oF K f35 "note_pieces" "Sender.note_pieces" dQ)
  (a36:fI K gSender "hears_note" f36)
  (i36:iF K f36)
  (l36:oF K f36 "hears_note" "Sender.hears_note" d8)
  (a37:fI K gSender "hears_own" f37)
  (i37:iF K f37)
  (l37:oF K f37 "hears_own" "Sender.hears_own" eF)
  (a38:fI K gSender "hears" f38)
  (i38:iF K f38)
  (l38:oF K f38 "hears" "Sender.hears" io)
  (a39:fI K gWorld "arrive" f39)
  (i39:iF K f39)
  (l39:oF K f39 "arrive" "World.arrive" iJ)
  (a40:fI K gWorld "step" f40)
  (i40:iF K f40)
  (l40:oF K f40 "step" "World.step" jL)
  (a41:fI K gWorld "on_road" f41)
  (i41:iF K f41)
  (l41:oF K f41 "on_road" "World.on_road" gz)
  (a42:fI K gSender "hand" f42)
  (i42:iF K f42)
  (l42:oF K f42 "hand" "Sender.hand" i9)
  (a43:fI K gWorld "hand" f43)
  (i43:iF K f43)
  (l43:oF K f43 "hand" "World.hand" jD)
  (a44:nI K "_law_message" f44)
  (l44:oF K f44 "_law_message" "_law_message" iK)
  (a45:fI K gSender "data_of" f45)
  (i45:iF K f45)
  (l45:oF K f45 "data_of" "Sender.data_of" fQ)
  (a46:fI K gSender "wanted" f46)
  (i46:iF K f46)
  (l46:oF K f46 "wanted" "Sender.wanted" gG)
  (a47:fI K gSender "tick" f47)
  (i47:iF K f47)
  (l47:oF K f47 "tick" "Sender.tick" je)
  (a48:fI K gWorld "tick" f48)
  (i48:iF K f48)
  (l48:oF K f48 "tick" "World.tick" jN)
  (a49:fI K gWorld "lose" f49)
  (i49:iF K f49)
  (l49:oF K f49 "lose" "World.lose" jV)
  (a50:nI K "changed" f50)
  (l50:oF K f50 "changed" "changed" mY)
  (a51:fI K gWorld "spoil" f51)
  (i51:iF K f51)
  (l51:oF K f51 "spoil" "World.spoil" jf)
  (a52:fI K gSender "fall" f52)
  (i52:iF K f52)
  (l52:oF K f52 "fall" "Sender.fall" jm)
  (a53:fI K gHearer "fall" f53)
  (i53:iF K f53)
  (l53:oF K f53 "fall" "Hearer.fall" ji)
  (a54:fI K gWorld "fall" f54)
  (i54:iF K f54)
  (l54:oF K f54 "fall" "World.fall" jX)
  (a55:fI K gSender "start" f55)
  (i55:iF K f55)
  (l55:oF K f55 "start" "Sender.start" ik)
  (a56:fI K gWorld "start" f56)
  (i56:iF K f56)
  (l56:oF K f56 "start" "World.start" jk)
  (a57:nI K "_law_do" f57)
  (l57:oF K f57 "_law_do" "_law_do" nE)
  (a58:fI K gWorld "opening_of" f58)
  (i58:iF K f58)
  (l58:oF K f58 "opening_of" "World.opening_of" eI)
  (a59:fI K gWorld "given_out" f59)
  (i59:iF K f59)
  (l59:oF K f59 "given_out" "World.given_out" eW)
  (a60:fI K gWorld "sure_of" f60)
  (i60:iF K f60)
  (l60:oF K f60 "sure_of" "World.sure_of" gK)
  (a61:fI K gWorld "state_of" f61)
  (i61:iF K f61)
  (l61:oF K f61 "state_of" "World.state_of" fK)
  (a62:nI K "_law_ends" f62)
  (l62:oF K f62 "_law_ends" "_law_ends" kz)
  (a63:nI K "law" f63)
  (l63:oF K f63 "law" "law" rG)
  (pgHearer:PySem.W.plainGet K gHearer Str.empty=true)
  (hdHearer:PySem.W.hasDictIn K gHearer=true)
  (poHearer:PySem.W.plainOver K gHearer=true)
  (saHearer:PySem.W.findIn K (.ref gHearer) "__setattr__"=some (some (.builtin "object.__setattr__")))
  (mkHearer:PySem.W.makesIn K gHearer=true)
  (kcHearer:PySem.W.keepIn K (.ref gHearer)=true)
  (nHearer_window:fN K gHearer "window")
  (nHearer_given:fN K gHearer "given")
  (nHearer_opening:fN K gHearer "opening")
  (nHearer_next_index:fN K gHearer "next_index")
  (nHearer_early:fN K gHearer "early")
  (nHearer_begun:fN K gHearer "begun")
  (pgSender:PySem.W.plainGet K gSender Str.empty=true)
  (hdSender:PySem.W.hasDictIn K gSender=true)
  (poSender:PySem.W.plainOver K gSender=true)
  (saSender:PySem.W.findIn K (.ref gSender) "__setattr__"=some (some (.builtin "object.__setattr__")))
  (mkSender:PySem.W.makesIn K gSender=true)
  (kcSender:PySem.W.keepIn K (.ref gSender)=true)
  (nSender_window:fN K gSender "window")
  (nSender_most:fN K gSender "most")
  (nSender_messages:fN K gSender "messages")
  (nSender_sure:fN K gSender "sure")
  (nSender_opening:fN K gSender "opening")
  (nSender_state:fN K gSender "state")
  (nSender_pieces:fN K gSender "pieces")
  (nSender_base:fN K gSender "base")
  (nSender_noted:fN K gSender "noted")
  (pgWorld:PySem.W.plainGet K gWorld Str.empty=true)
  (hdWorld:PySem.W.hasDictIn K gWorld=true)
  (poWorld:PySem.W.plainOver K gWorld=true)
  (saWorld:PySem.W.findIn K (.ref gWorld) "__setattr__"=some (some (.builtin "object.__setattr__")))
  (mkWorld:PySem.W.makesIn K gWorld=true)
  (kcWorld:PySem.W.keepIn K (.ref gWorld)=true)
  (nWorld_sender:fN K gWorld "sender")
  (nWorld_hearer:fN K gWorld "hearer")
  (nWorld_roads:fN K gWorld "roads")
  (ex_NoCard:PySem.W.excIn K gNoCard [.type "ValueError",.type "Exception",.type "BaseException",.type "object"] "ValueError.__new__"=true)
  (ex_NoStrip:PySem.W.excIn K gNoStrip [.type "ValueError",.type "Exception",.type "BaseException",.type "object"] "ValueError.__new__"=true)
  (su_NoStrip_NoStrip:PySem.W.subIn K (.ref gNoStrip) (.ref gNoStrip)=some true)
  (z_all:nN K "all")
  (z_bool:nN K "bool")
  (z_enumerate:nN K "enumerate")
  (z_int:nN K "int")
  (z_isinstance:nN K "isinstance")
  (z_len:nN K "len")
  (z_list:nN K "list")
  (z_max:nN K "max")
  (z_min:nN K "min")
  (z_range:nN K "range")
  (z_sum:nN K "sum")
  (z_tuple:nN K "tuple")
  (q_KINDS:nI K "KINDS" a_KINDS)
  (o_KINDS:K.lookup a_KINDS=some ⟨.type "tuple",none,.seq i_KINDS n_KINDS,s_KINDS⟩)
  (v_KINDS:(List.zip ks_KINDS i_KINDS.toList).all (fun p=>match p.2 with|.str x _=>x == p.1|_=>false)=true)
  (w_KINDS:ks_KINDS.length=i_KINDS.toList.length)
  (q_SHORT_KINDS:nI K "SHORT_KINDS" a_SHORT_KINDS)
  (o_SHORT_KINDS:K.lookup a_SHORT_KINDS=some ⟨.type "tuple",none,.seq i_SHORT_KINDS n_SHORT_KINDS,s_SHORT_KINDS⟩)
  (v_SHORT_KINDS:(List.zip ks_SHORT_KINDS i_SHORT_KINDS.toList).all (fun p=>match p.2 with|.str x _=>x == p.1|_=>false)=true)
  (w_SHORT_KINDS:ks_SHORT_KINDS.length=i_SHORT_KINDS.toList.length)
  (q_TOP_OPENING:PySem.W.nsIn K mainGlobals "TOP_OPENING"=some (some (.int 65535 t_TOP_OPENING)))
  (q_TOP_NUMBER:PySem.W.nsIn K mainGlobals "TOP_NUMBER"=some (some (.int 13 t_TOP_NUMBER)))
  (q_TOP_CELL:PySem.W.nsIn K mainGlobals "TOP_CELL"=some (some (.int 255 t_TOP_CELL)))
  (q_MOST_PIECE_LETTERS:PySem.W.nsIn K mainGlobals "MOST_PIECE_LETTERS"=some (some (.int 8 t_MOST_PIECE_LETTERS)))
  (q_MOST_BITS:PySem.W.nsIn K mainGlobals "MOST_BITS"=some (some (.int 7 t_MOST_BITS)))
  (q_HEAD_CELLS:PySem.W.nsIn K mainGlobals "HEAD_CELLS"=some (some (.int 3 t_HEAD_CELLS)))
  (q_CHECK_CELLS:PySem.W.nsIn K mainGlobals "CHECK_CELLS"=some (some (.int 2 t_CHECK_CELLS)))
  : ∃fd:FuncData,(∀(s:Shared) (v:Value),BindsTo s fd ⟨[v],[]⟩ [("_law_script",v)])/\∀base:Heap,K.In base->base.Ns mainGlobals mg->FnOk l.prog w K mg base (CXE l.prog w) 10 fa fd ["_law_script"] (wS K):=by
 have e:=hfa.symm.trans (PySem.W.mg_of X G a63);cases e;have T:Txt K mg (⟨gHearer,gSender,gWorld,gNoCard,gNoStrip⟩:Cs):=⟨PySem.W.mg_none_of X G z_all,PySem.W.mg_none_of X G z_bool,PySem.W.mg_none_of X G z_enumerate,PySem.W.mg_none_of X G z_int,PySem.W.mg_none_of X G z_isinstance,PySem.W.mg_none_of X G z_len,PySem.W.mg_none_of X G z_list,PySem.W.mg_none_of X G z_max,PySem.W.mg_none_of X G z_min,PySem.W.mg_none_of X G z_range,PySem.W.mg_none_of X G z_sum,PySem.W.mg_none_of X G z_tuple,⟨pgHearer,hdHearer,poHearer,saHearer⟩,nHearer_window,nHearer_given,nHearer_opening,nHearer_next_index,nHearer_early,nHearer_begun,⟨pgSender,hdSender,poSender,saSender⟩,nSender_window,nSender_most,nSender_messages,nSender_sure,nSender_opening,nSender_state,nSender_pieces,nSender_base,nSender_noted,⟨pgWorld,hdWorld,poWorld,saWorld⟩,nWorld_sender,nWorld_hearer,nWorld_roads,⟨PySem.W.mg_of X G aCNoCard,ex_NoCard⟩,⟨PySem.W.mg_of X G aCNoStrip,ex_NoStrip⟩,su_NoStrip_NoStrip,ut (PySem.W.mg_of X G q_KINDS) o_KINDS v_KINDS w_KINDS (by decide),ut (PySem.W.mg_of X G q_SHORT_KINDS) o_SHORT_KINDS v_SHORT_KINDS w_SHORT_KINDS (by decide),⟨_,PySem.W.mg_of X G q_TOP_OPENING,iA⟩,⟨_,PySem.W.mg_of X G q_TOP_NUMBER,iA⟩,⟨_,PySem.W.mg_of X G q_TOP_CELL,iA⟩,⟨_,PySem.W.mg_of X G q_MOST_PIECE_LETTERS,iA⟩,⟨_,PySem.W.mg_of X G q_MOST_BITS,iA⟩,⟨_,PySem.W.mg_of X G q_HEAD_CELLS,iA⟩,⟨_,PySem.W.mg_of X G q_CHECK_CELLS,iA⟩⟩;obtain⟨_,F0⟩:=l0;obtain⟨_,F1⟩:=l1;obtain⟨_,F2⟩:=l2;obtain⟨_,F3⟩:=l3;obtain⟨_,F4⟩:=l4;obtain⟨_,F5⟩:=l5;obtain⟨_,F6⟩:=l6;obtain⟨_,F7⟩:=l7;obtain⟨_,F8⟩:=l8;obtain⟨_,F9⟩:=l9;obtain⟨_,F10⟩:=l10;obtain⟨_,F11⟩:=l11;obtain⟨_,F12⟩:=l12;obtain⟨_,F13⟩:=l13;obtain⟨_,F14⟩:=l14;obtain⟨_,F15⟩:=l15;obtain⟨_,F16⟩:=l16;obtain⟨_,F17⟩:=l17;obtain⟨_,F18⟩:=l18;obtain⟨_,F19⟩:=l19;obtain⟨_,F20⟩:=l20;obtain⟨_,F21⟩:=l21;obtain⟨_,F22⟩:=l22;obtain⟨_,F23⟩:=l23;obtain⟨_,F24⟩:=l24;obtain⟨_,F25⟩:=l25;obtain⟨_,F26⟩:=l26;obtain⟨_,F27⟩:=l27;obtain⟨_,F28⟩:=l28;obtain⟨_,F29⟩:=l29;obtain⟨_,F30⟩:=l30;obtain⟨_,F31⟩:=l31;obtain⟨_,F32⟩:=l32;obtain⟨_,F33⟩:=l33;obtain⟨_,F34⟩:=l34;obtain⟨_,F35⟩:=l35;obtain⟨_,F36⟩:=l36;obtain⟨_,F37⟩:=l37;obtain⟨_,F38⟩:=l38;obtain⟨_,F39⟩:=l39;obtain⟨_,F40⟩:=l40;obtain⟨_,F41⟩:=l41;obtain⟨_,F42⟩:=l42;obtain⟨_,F43⟩:=l43;obtain⟨_,F44⟩:=l44;obtain⟨_,F45⟩:=l45;obtain⟨_,F46⟩:=l46;obtain⟨_,F47⟩:=l47;obtain⟨_,F48⟩:=l48;obtain⟨_,F49⟩:=l49;obtain⟨_,F50⟩:=l50;obtain⟨_,F51⟩:=l51;obtain⟨_,F52⟩:=l52;obtain⟨_,F53⟩:=l53;obtain⟨_,F54⟩:=l54;obtain⟨_,F55⟩:=l55;obtain⟨_,F56⟩:=l56;obtain⟨_,F57⟩:=l57;obtain⟨_,F58⟩:=l58;obtain⟨_,F59⟩:=l59;obtain⟨_,F60⟩:=l60;obtain⟨_,F61⟩:=l61;obtain⟨_,F62⟩:=l62;obtain⟨_,F63⟩:=l63;obtain⟨oc,od,kV,doc,pm,an,cdv,ct,osl,rfl,lk,hcd⟩:=F63.ex;refine⟨PySem.W.fnOf "law" "law" (defArgs rG) (defBody rG) (defScope rG) .none kV doc pm an cdv ct,fun s v=>.of_eq rfl,fun base _ _=>?_⟩;have q:=@cF l.prog w K mg base h X G;have r:=@cM l.prog w K mg base;have C0:=q a0 F0 (bn3 F0 fun _ _ _ _ _ _ _ _ _=>rfl) (uq T  F0);have C1:=q a1 F1 (bn2 F1 fun _ _ _ _ _ _ _ _=>rfl) (tG T  F1);have C2:=q a2 F2 (bn1 F2 fun _ _ _ _ _ _ _=>rfl) (oo T C1 C0 F2);have C3:CalI l.prog w K mg base (CXE l.prog w) "Sender" gSender 1 ["self","window","most"] (bY (⟨gHearer,gSender,gWorld,gNoCard,gNoStrip⟩:Cs)):=⟨⟨f3,_,PySem.W.mg_of X G aCSender,⟨mkSender,a3,i3,kcSender⟩,(bn3 F3 fun _ _ _ _ _ _ _ _ _=>rfl),lD T  F3⟩⟩;have C4:CalI l.prog w K mg base (CXE l.prog w) "Hearer" gHearer 1 ["self","window"] (bT (⟨gHearer,gSender,gWorld,gNoCard,gNoStrip⟩:Cs)):=⟨⟨f4,_,PySem.W.mg_of X G aCHearer,⟨mkHearer,a4,i4,kcHearer⟩,(bn2 F4 fun _ _ _ _ _ _ _ _=>rfl),ly T  F4⟩⟩;have C5:CalI l.prog w K mg base (CXE l.prog w) "World" gWorld 3 ["self","window","most"] (cn (⟨gHearer,gSender,gWorld,gNoCard,gNoStrip⟩:Cs)):=⟨⟨f5,_,PySem.W.mg_of X G aCWorld,⟨mkWorld,a5,i5,kcWorld⟩,(bn3 F5 fun _ _ _ _ _ _ _ _ _=>rfl),mz T C3 C4 F5⟩⟩;have C6:=q a6 F6 (bn2 F6 fun _ _ _ _ _ _ _ _=>rfl) (sZ T C1 C0 F6);have C7:=r a7 i7 F7 (bn3 F7 fun _ _ _ _ _ _ _ _ _=>rfl) (lK T  F7);have C8:=r a8 i8 F8 (bn3 F8 fun _ _ _ _ _ _ _ _ _=>rfl) (oa T C7 F8);have C9:=q a9 F9 (bn1 F9 fun _ _ _ _ _ _ _=>rfl) (tm T  F9)
 have C10:=q a10 F10 (bn1 F10 fun _ _ _ _ _ _ _=>rfl) (pV T  F10);have C11:=q a11 F11 (bn2 F11 fun _ _ _ _ _ _ _ _=>rfl) (tO T  F11);have C12:=q a12 F12 (bn2 F12 fun _ _ _ _ _ _ _ _=>rfl) (xL T C11 F12);have C13:=q a13 F13 (bn1 F13 fun _ _ _ _ _ _ _=>rfl) (ua T C11 C12 F13);have C14:=q a14 F14 (bn1 F14 fun _ _ _ _ _ _ _=>rfl) (uR T C12 F14);have C15:=q a15 F15 (bn1 F15 fun _ _ _ _ _ _ _=>rfl) (vf T C11 C13 C14 F15);have C16:=q a16 F16 (bn1 F16 fun _ _ _ _ _ _ _=>rfl) (AD T C12 C10 C9 C15 F16);have C17:=q a17 F17 (bn1 F17 fun _ _ _ _ _ _ _=>rfl) (uG T  F17);have C18:=q a18 F18 (bn1 F18 fun _ _ _ _ _ _ _=>rfl) (vP T C15 C17 C10 F18);have C19:=r a19 i19 F19 (bn3 F19 fun _ _ _ _ _ _ _ _ _=>rfl) (kT T C18 F19);have C20:=r a20 i20 F20 (bn2 F20 fun _ _ _ _ _ _ _ _=>rfl) (oy T  F20);have C21:=r a21 i21 F21 (bn2 F21 fun _ _ _ _ _ _ _ _=>rfl) (j4 T C20 F21);have C22:=q a22 F22 (bn2 F22 fun _ _ _ _ _ _ _ _=>rfl) (qM T  F22);have C23:=q a23 F23 (bn3 F23 fun _ _ _ _ _ _ _ _ _=>rfl) (qw T  F23);have C24:=r a24 i24 F24 (bn3 F24 fun _ _ _ _ _ _ _ _ _=>rfl) (oZ T C22 C23 F24);have C25:=q a25 F25 (bn1 F25 fun _ _ _ _ _ _ _=>rfl) (qQ T  F25);have C26:=r a26 i26 F26 (bn2 F26 fun _ _ _ _ _ _ _ _=>rfl) (qc T C25 F26);have C27:=r a27 i27 F27 (bn1 F27 fun _ _ _ _ _ _ _=>rfl) (lB T C26 F27);have C28:=q a28 F28 (bn2 F28 fun _ _ _ _ _ _ _ _=>rfl) (tH T  F28);have C29:=r a29 i29 F29 (bn1 F29 fun _ _ _ _ _ _ _=>rfl) (pe T C28 F29);have C30:=r a30 i30 F30 (bn4 F30 fun _ _ _ _ _ _ _ _ _ _=>rfl) (kl T C24 C27 C29 F30);have C31:=r a31 i31 F31 (bn2 F31 fun _ _ _ _ _ _ _ _=>rfl) (oB T C21 C30 F31);have C32:=q a32 F32 (bn2 F32 fun _ _ _ _ _ _ _ _=>rfl) (sm T  F32);have C33:=r a33 i33 F33 (bn1 F33 fun _ _ _ _ _ _ _=>rfl) (kS T C32 F33);have C34:=r a34 i34 F34 (bn2 F34 fun _ _ _ _ _ _ _ _=>rfl) (k8 T  F34);have C35:=r a35 i35 F35 (bn2 F35 fun _ _ _ _ _ _ _ _=>rfl) (j3 T  F35);have C36:=r a36 i36 F36 (bn3 F36 fun _ _ _ _ _ _ _ _ _=>rfl) (j7 T C22 C23 C34 C35 F36);have C37:=r a37 i37 F37 (bn2 F37 fun _ _ _ _ _ _ _ _=>rfl) (k7 T C33 C36 F37);have C38:=r a38 i38 F38 (bn2 F38 fun _ _ _ _ _ _ _ _=>rfl) (oz T C37 F38);have C39:=r a39 i39 F39 (bn3 F39 fun _ _ _ _ _ _ _ _ _=>rfl) (oA T C16 C31 C19 C38 F39);have C40:=r a40 i40 F40 (bn2 F40 fun _ _ _ _ _ _ _ _=>rfl) (qV T C7 C39 F40);have C41:=r a41 i41 F41 (bn2 F41 fun _ _ _ _ _ _ _ _=>rfl) (mR T  F41);have C42:=r a42 i42 F42 (bn2 F42 fun _ _ _ _ _ _ _ _=>rfl) (pA T C32 F42);have C43:=r a43 i43 F43 (bn2 F43 fun _ _ _ _ _ _ _ _=>rfl) (qL T C42 F43);have C44:=q a44 F44 (bn2 F44 fun _ _ _ _ _ _ _ _=>rfl) (oG T C0 F44);have C45:=r a45 i45 F45 (bn2 F45 fun _ _ _ _ _ _ _ _=>rfl) (mI T C28 F45);have C46:=r a46 i46 F46 (bn1 F46 fun _ _ _ _ _ _ _=>rfl) (mV T  F46);have C47:=r a47 i47 F47 (bn1 F47 fun _ _ _ _ _ _ _=>rfl) (qh T C46 C45 F47);have C48:=r a48 i48 F48 (bn1 F48 fun _ _ _ _ _ _ _=>rfl) (qK T C47 C19 F48);have C49:=r a49 i49 F49 (bn3 F49 fun _ _ _ _ _ _ _ _ _=>rfl) (qP T C7 F49);have C50:=q a50 F50 (bn3 F50 fun _ _ _ _ _ _ _ _ _=>rfl) (u7 T  F50);have C51:=r a51 i51 F51 (bn5 F51 fun _ _ _ _ _ _ _ _ _ _ _=>rfl) (pi T C7 C50 F51);have C52:=r a52 i52 F52 (bn1 F52 fun _ _ _ _ _ _ _=>rfl) (pb T  F52);have C53:=r a53 i53 F53 (bn1 F53 fun _ _ _ _ _ _ _=>rfl) (pw T C20 F53);have C54:=r a54 i54 F54 (bn2 F54 fun _ _ _ _ _ _ _ _=>rfl) (qG T C52 C53 F54);have C55:=r a55 i55 F55 (bn1 F55 fun _ _ _ _ _ _ _=>rfl) (oI T C33 F55);have C56:=r a56 i56 F56 (bn1 F56 fun _ _ _ _ _ _ _=>rfl) (pI T C55 F56);have C57:=q a57 F57 (bn2 F57 fun _ _ _ _ _ _ _ _=>rfl) (vR T C44 C43 C48 C40 C49 C8 C0 C51 C54 C56 F57);have C58:=r a58 i58 F58 (bn2 F58 fun _ _ _ _ _ _ _ _=>rfl) (lc T  F58);have C59:=r a59 i59 F59 (bn1 F59 fun _ _ _ _ _ _ _=>rfl) (lC T  F59);have C60:=r a60 i60 F60 (bn1 F60 fun _ _ _ _ _ _ _=>rfl) (mZ T  F60);have C61:=r a61 i61 F61 (bn1 F61 fun _ _ _ _ _ _ _=>rfl) (me T  F61);have C62:=q a62 F62 (bn1 F62 fun _ _ _ _ _ _ _=>rfl) (sD T C58 C61 C60 C59 F62);exact FnOk.imp (Ca T C2 C5 C6 C57 C1 C41 C8 C40 C62 F63) (yZ (yX _))
theorem walk{l:PySem.W.OpenLaw}{q:Program}{loose:List Str}{XP:(Str->Option Value)->Heap->Prop}{YP:World->Heap->Prop}{d:DefRec}{K:Params->PySem.W.Frag}(hn:l.most=some 63)(hdf:d.params.defaults=[])
  (hY:∀(w:World) (h:Heap),YP w h->(K w.params).In h)
  (F:∀(w:World) (mg:Str->Option Value) (fa:Addr) (h:Heap),(K w.params).In h->h.Ns mainGlobals mg->mg d.name=some (.ref fa)->
   ∃fd:FuncData,(∀(s:Shared) (u:Value),BindsTo s fd ⟨[u],[]⟩ [("_law_script",u)])/\∀base:Heap,(K w.params).In base->base.Ns mainGlobals mg->FnOk l.prog w (K w.params) mg base (CXE l.prog w) 10 fa fd ["_law_script"] (wS (K w.params))) :
  PySem.W.WalkO q loose XP YP l.row.toRowW d [] (fun f vs=>PySem.call f vs):=
 L2.walk_of (n:=63) (k:=10) (x:="_law_script") (CX:=fun w=>CXE l.prog w) (sp:=fun w=>wS (K w.params)) hn (by decide) hdf ⟨rfl,by decide,by decide⟩ hY F (fun _ _ a ns hl ho hS=>⟨a,ns,rfl,hS,hl,ho,fun _=>rfl⟩) fun _ _ _ _ _ z=>yF z
end Lw
end
open PySem PySem.W PyProof.Rows
set_option maxRecDepth 100000 in
set_option maxHeartbeats 0 in
theorem PySem.Challenge.cw_sureroad_k18_whole_doubles_do_no_harm_holds : PySem.Challenge.rw_sureroad_k18_whole_doubles_do_no_harm.Holds := by
 w_on;o_law;k_head;(case hw=>w_witness2)
 k_fill
 refine Lw.walk (l:=PySem.Challenge.rw_sureroad_k18_whole_doubles_do_no_harm) rfl rfl (fun w h Y=>PySem.W.kIn_of Y) ?F
 case F=>
  intro w mg fa h KX G hmg;apply Lw.all_mk KX G hmg
  all_goals (first|k_is|(unfold Lw.nI;k_is)|(unfold Lw.fI;k_is)|(unfold Lw.iF;k_is)|(unfold Lw.nN;k_is)|(unfold Lw.fN;k_is)|(refine' Lw.oF_mk ?l ?c ?k;(case l=>k_is);(case c=>k_is);(case k=>k_is))|rfl|decide +kernel|k_exc)
