import PyProof.Rows.All
import Wide.All
import OpenK.AllK
import Wide.FinOn
import Lean
import PyProof.EqAt
import PyProof.EqKinds
import PyProof.TupleCall
import PyProof.P3Eq
import PyProof.NeKinds
import PyProof.StationsW
import PyProof.ExcClass3
import PyProof.NsDelKeeps
import PyProof.RulesAs
import PyProof.ListRange
import PyProof.ExcArgsOwn
import PyProof.IsiH_list
import PySem.Challenge.RW_sureroad_k16_whole_calm_brings_all
set_option Elab.async false
set_option linter.all false
set_option maxRecDepth 100000
set_option maxHeartbeats 4000000
def PySem.W.Fast.tw18319680061235163766:=0
def PySem.W.Fast.tw1953320394665775509:=0
def PySem.W.Fast.tw15315298048986966215:=0
def PySem.W.Fast.tw18433734307270511639:=0
def PySem.W.Fast.tw12199019883321450895:=0
def PySem.W.Fast.tw6669941507396045868:=0
def PySem.W.Fast.tw1348390690636689235:=0
def PySem.W.Fast.tw6191263839570585328:=0
def PySem.W.Fast.tw1045757855267176269:=0
def PySem.W.Fast.tw878863452519217175:=0
def PySem.W.Fast.tw14511781719317940276:=0
def PySem.W.Fast.tw1377212464926585927:=0
def PySem.W.Fast.tw13513865116791006037:=0
def PySem.W.Fast.tw16422355878541220420:=0
def PySem.W.Fast.tw10095037127785865779:=0
def PySem.W.Fast.tw15203085691492516445:=0
def PySem.W.Fast.tw16528658928205725112:=0
def PySem.W.Fast.tw1275003186126081753:=0
def PySem.W.Fast.tw5329960969244095404:=0
set_option compiler.extract_closed false
noncomputable section
open Array (length_toList toList)
open Bool (and_eq_true not_eq_true)
open Int (toNat_natCast)
open List (all_cons all_eq_true any_cons append_assoc append_nil cons_append drop_length filterMap_cons filter_cons find?_cons flatMap_append flatMap_cons flatten_cons foldl foldl_append foldl_cons getD getElem?_append_left getElem?_append_right getElem?_cons_succ getElem?_cons_zero getElem?_eq_getElem getElem?_map getElem?_replicate getElem?_set getElem?_set_ne getElem_mem length_append length_cons length_drop length_map length_nil length_replicate length_set length_singleton length_take lookup_cons map_append map_congr_left map_cons map_drop map_map map_nil map_take mem_append mem_append_left mem_append_right mem_cons mem_cons_of_mem mem_cons_self mem_map mem_of_getElem? mem_of_mem_drop mem_of_mem_take mem_range nil_append nodup_nil not_mem_nil of_mem_zip range range' range_succ replicate replicate_succ set_append_right size_toArray sum_cons take_add_one take_append_drop take_length take_of_length_le take_zero zip)
open Nat (le_succ lt_succ_of_lt lt_succ_self mod_lt ne_of_lt succ_le_succ succ_ne_self zero_le)
open Option (getD_none isSome_map map_some toList_some)
open PyProof.Rows (iadd_int)
open PySem (boot_len)
open PySem.Builtin.Range (rangeSize small)
open PySem.Builtin.Slice (sliceAdjust sliceApplied slicePlaces)
open PySem.Calls (evalArgs_plain spliced_cons spliced_nil)
open PySem.F (args_tuple_add_2 entry_tuple_add slot_list_extend slot_tuple_add type_list_extend)
open PySem.Heap (ExtBut SameBut get?_push_of_some get?_push_size get?_update_other get?_update_self lt_size size_push)
open PySem.SeqAt.EqAt (int_int int_str str_int str_str)
open PySem.Value (bytes float type)
open PySem.W (callWith_K codeIn emptyDict excIn findIn fnOf handedIn hasDictIn instObj isFn keepIn kia_one kitx_list lookIn makesIn methodObj mg_none_of mg_of nsIn plainGet plainGet_of plainOver subIn takerIn)
namespace L2
open PySem PySem.Spec PyProof.Rows
abbrev Key:=Sum Int Str
def ug:Key->Value->Bool
 |.inl k,v=>Value.isInt k v
 |.inr x,v=>Value.isStrOf x v
def GJ(w:World):Key->Int
 |.inl k=>hashInt k
 |.inr x=>hashStr w x
def cW:∀{k:Key}{v:Value},ug k v=true->(∃i t,k=Sum.inl i/\v=Value.int i t)\/(∃x t,k=Sum.inr x/\v=Value.str x t)
 |.inl i,v,h=>by
  obtain⟨t,e⟩:=Value.isInt_shape (k:=i) (v:=v) h;exact .inl ⟨i,t,rfl,e⟩
 |.inr x,v,h=>by
  obtain⟨t,e⟩:=Value.isStrOf_shape (x:=x) (v:=v) h;exact .inr ⟨x,t,rfl,e⟩
def Ao(i:Int)(t:Tok):ug (.inl i) (.int i t)=true:=by simp[ug,Value.isInt]
def zr(x:Str)(t:Tok):ug (.inr x) (.str x t)=true:=by simp[ug,Value.isStrOf]
def EE(a b:Int):decide ((Sum.inl a:Key)=Sum.inl b)=(a == b):=by
 by_cases e:a=b
 ·subst e;simp
 ·have h:¬(Sum.inl a:Key)=Sum.inl b:=fun q=>e (Sum.inl.inj q)
  rw[decide_eq_false h];exact(beq_eq_false_iff_ne.mpr e).symm
def EI(a b:Str):decide ((Sum.inr a:Key)=Sum.inr b)=decide (a=b):=by
 by_cases e:a=b
 ·subst e;simp
 ·have h:¬(Sum.inr a:Key)=Sum.inr b:=fun q=>e (Sum.inr.inj q)
  rw[decide_eq_false h,decide_eq_false e]
def El(a:Int)(b:Str):decide ((Sum.inl a:Key)=Sum.inr b)=false:=decide_eq_false (fun q=>nomatch q)
def E2(a:Str)(b:Int):decide ((Sum.inr a:Key)=Sum.inl b)=false:=decide_eq_false (fun q=>nomatch q)
def cO(prog:Program)(w:World):PySem.KeyKind prog w Key where
 is:=ug
 hash:=GJ w
 inj:=fun v a b ha hb=>by
  rcases cW ha with ⟨i,t,rfl,rfl⟩|⟨x,t,rfl,rfl⟩
  ·rcases cW hb with ⟨j,u,rfl,e⟩|⟨y,u,rfl,e⟩
   ·injection e with e1 _;rw[e1]
   ·exact nomatch e
  ·rcases cW hb with ⟨j,u,rfl,e⟩|⟨y,u,rfl,e⟩
   ·exact nomatch e
   ·injection e with e1 _;rw[e1]
 byValue:=fun k v h=>by
  rcases cW h with ⟨i,t,rfl,rfl⟩|⟨x,t,rfl,rfl⟩<;>rfl
 pyHash:=fun hv h=>by
  rcases cW hv with ⟨i,t,rfl,rfl⟩|⟨x,t,rfl,rfl⟩
  ·exact wpAny_pyHash_int h
  ·exact wpAny_pyHash_str h
 eqBool:=fun hu hv h=>by
  rcases cW hu with ⟨i,t,rfl,rfl⟩|⟨x,t,rfl,rfl⟩
  ·rcases cW hv with ⟨j,u,rfl,rfl⟩|⟨y,u,rfl,rfl⟩
   ·rw[EE] at h;exact wpAny_eqBool_int h
   ·rw[El] at h;exact int_str i t y u _ _ _ _ h
  ·rcases cW hv with ⟨j,u,rfl,rfl⟩|⟨y,u,rfl,rfl⟩
   ·rw[E2] at h;exact str_int x t j u _ _ _ _ h
   ·rw[EI] at h;exact wpAny_eqBool_str h
 «strs»:=fun k x t v h=>by
  rcases cW h with ⟨i,u,rfl,e⟩|⟨y,u,rfl,e⟩
  ·exact nomatch e
  ·injection e with e1 _
   subst e1;cases v<;>rfl
def wy(prog:Program)(w:World)(i:Int)(t:Tok):(cO prog w).is (.inl i) (.int i t)=true:=Ao i t
def vB(prog:Program)(w:World)(x:Str)(t:Tok):(cO prog w).is (.inr x) (.str x t)=true:=zr x t
inductive V where
 |G0|bl (b:Bool)|int (i:Int)|str (x:Str)|Rb (b:Array UInt8)|Rc (b:UInt64)|ref (a:Addr)|ty (n:String)
 deriving DecidableEq
def RelV:V->Value->Prop
 |.G0,u=>u=Value.none
 |.bl b,u=>u=Value.bool b
 |.int i,u=>∃t,u=Value.int i t
 |.str x,u=>∃t,u=Value.str x t
 |.Rb b,u=>∃t,u=bytes b t
 |.Rc b,u=>∃t,u=float b t
 |.ref a,u=>u=Value.ref a
 |.ty n,u=>u=type n
abbrev Vals:List V->List Value->Prop:=Paired RelV
def Vals.length{xs:List V}{us:List Value}(r:Vals xs us):xs.length=us.length:=Paired.length r
theorem Vals.get:∀{xs:List V}{us:List Value}{i:Nat}{x:V},Vals xs us->xs[i]?=some x->∃u,us[i]?=some u/\RelV x u
 |_,_,_,_,.nil,e=>by simp at e
 |_,_,0,_,.cons r _,e=>by simp at e;subst e;exact⟨_,rfl,r⟩
 |_,_,i+1,x,.cons _ t,e=>by
  obtain⟨u,h1,h2⟩:=Vals.get (i:=i) (x:=x) t (by simpa using e);exact⟨u,by simpa using h1,h2⟩
def Vals.set{x:V}{u:Value}(r:RelV x u):∀{xs:List V}{us:List Value}(i:Nat),Vals xs us->Vals (xs.set i x) (us.set i u)
 |_,_,_,.nil=>.nil
 |_,_,0,.cons _ t=>.cons r t
 |_,_,i+1,.cons q t=>.cons q (Vals.set r i t)
def Vals.append:∀{xs ys:List V}{us ws:List Value},Vals xs us->Vals ys ws->Vals (xs++ys) (us++ws)
 |_,_,_,_,.nil,s=>s
 |_,_,_,_,.cons r t,s=>.cons r (Vals.append t s)
def Vals.take:∀{xs:List V}{us:List Value}(n:Nat),Vals xs us->Vals (xs.take n) (us.take n)
 |_,_,0,_=>.nil
 |_,_,_+1,.nil=>.nil
 |_,_,n+1,.cons r t=>.cons r (Vals.take n t)
def Vals.drop:∀{xs:List V}{us:List Value}(n:Nat),Vals xs us->Vals (xs.drop n) (us.drop n)
 |_,_,0,r=>r
 |_,_,_+1,.nil=>.nil
 |_,_,n+1,.cons _ t=>Vals.drop n t
def JV:Option V->Option Value->Prop
 |some v,some u=>RelV v u
 |none,none=>True
 |_,_=>False
def KV{κ:Type}:List (κ×V)->List (κ×Value)->Prop:=Paired fun(p:κ×V) (q:κ×Value)=>p.1=q.1/\RelV p.2 q.2
def kV:Key->V
 |.inl i=>.int i
 |.inr x=>.str x
inductive HO where
 |lst (xs:List V)
 |tup (xs:List V)
 |dK (kvs:List (Key×V))|dT (kvs:List (List Key×V))
 |set (S:Int->Bool) (n:Nat)
 |ins (C dx:Addr) (fs:List (Str×V))
 |own (x:Addr)
 |xd (fs:List (Str×V))
 |met (f x:Addr)
 |R3 (lo hi:Int)
 |NK (o:Obj) (u:HO)
 |QL (ps:Array Value)
 |ext (φ:Heap->Prop)
abbrev Hp:=Addr->Option HO
def upd(H:Hp)(a:Addr)(o:HO):Hp:=fun b=>if b=a then some o else H b
def bC{H:Hp}{a:Addr}{o:HO}:upd H a o a=some o:=by unfold upd;rw[if_pos rfl]
def bg{H:Hp}{a b:Addr}{o:HO}(h:b≠a):upd H a o b=H b:=by unfold upd;rw[if_neg h]
def FS{H:Hp}{a b:Addr}{o u:HO}(h:H a=some o)(h':H b=some u)(d:o≠u):a≠b:=by
 intro e;subst e;rw[h] at h';exact d (Option.some.inj h')
def ba{H:Hp}{a b:Addr}{o:HO}(h:H a=some o)(h':H b=none):a≠b:=by
 intro e;subst e;rw[h] at h';cases h'
section
variable(P:Program)(w:World)
def HG(H:Hp)(h:Heap)(a:Addr):HO->Prop
 |.lst xs=>xs.length<=sizeLine/\∃(its:List Value) (n:Nat),Vals xs its/\h.get? a=some { cls:=.type "list",data:=.seq its.toArray n }
 |.tup xs=>xs.length<=sizeLine/\∃its:List Value,Vals xs its/\IsTup h a its.toArray
 |.dK kvs=>kvs.length<=sizeLine/\(a == sysModules)=false/\∃vs,KV kvs vs/\h.DictOf (cO P w) a vs
 |.dT kvs=>kvs.length<=sizeLine/\(a == sysModules)=false/\∃xs:List (List Key×Addr×Value),
   Paired (fun(p:List Key×V) (q:List Key×Addr×Value)=>p.1=q.1/\H q.2.1=some (.tup (p.1.map kV))/\RelV p.2 q.2.2) kvs xs/\
   ∃o es ep,h.get? a=some o/\o.ExactDict/\o.data=.dict es ep/\es.toList=xs.map (entryOfKey (tupleKind (cO P w)))/\(xs.map (·.1)).Nodup
 |.set S n=>h.SetOf (intKind P w) a S n
 |.ins C dx fs=>H dx=some (.own a)/\fs.length<=1000/\dx≠a/\h.get? a=some (instObj C dx)/\
   ∃mA,h.Ns1 dx mA/\(∀f,JV (fs.lookup f) (mA f))/\PySem.Within mA (fs.map (·.1))
 |.own _=>∃o,h.get? a=some o
 |.xd fs=>∃mA,h.Ns1 a mA/\∀f,JV (fs.lookup f) (mA f)
 |.R3 lo hi=>∃t u v,h.get? a=some { cls:=.type "range",data:=.fields #[.int lo t,.int hi u,.int 1 v] }
 |.NK o u=>h.get? a=some o/\HG H h a u
 |.QL ps=>h.get? a=some { cls:=.none,data:=.fields ps }
 |.met f x=>h.get? a=some (methodObj (.ref f) (.ref x))
 |.ext φ=>φ h/\(∃o,h.get? a=some o)/\∀h1 h2:Heap,φ h1->(∀o,h1.get? a=some o->h2.get? a=some o)->φ h2
def Jb(H:Hp)(h:Heap):Prop:=∀a o,H a=some o->HG P w H h a o
end
section
variable{P:Program}{w:World}{H H':Hp}{h h':Heap}{a:Addr}{o:HO}
def HG.lt(x:HG P w H h a o):a<h.objs.size:=by
 cases o with
 |lst xs=>obtain⟨_,_,_,_,e⟩:=x;exact lt_size e
 |tup xs=>obtain⟨_,_,_,p⟩:=x;exact p.lt
 |dK kvs=>obtain⟨_,_,_,_,o,_,_,e,_⟩:=x;exact lt_size e
 |dT kvs=>obtain⟨_,_,_,_,o,_,_,e,_⟩:=x;exact lt_size e
 |set S n=>obtain⟨o,_,_,_,e,_⟩:=x;exact lt_size e
 |ins C dx fs=>obtain⟨_,_,_,e,_⟩:=x;exact lt_size e
 |own y=>obtain⟨_,e⟩:=x;exact lt_size e
 |xd fs=>obtain⟨_,⟨_,_,_,e,_⟩,_⟩:=x;exact lt_size e
 |R3 lo hi=>obtain⟨_,_,_,e⟩:=x;exact lt_size e
 |NK ob u=>obtain⟨e,_⟩:=x;exact lt_size e
 |QL ps=>exact lt_size (show h.get? a=some _ from x)
 |met f y=>exact lt_size (show h.get? a=some _ from x)
 |ext φ=>obtain⟨_,⟨_,e⟩,_⟩:=x;exact lt_size e
theorem Paired.Rf{α β:Type}{F G:α->β->Prop}:∀{SD:List α}{SE:List β},Paired F SD SE->(∀a b,F a b->G a b)->Paired G SD SE
 |_,_,.nil,_=>.nil
 |_,_,.cons r t,f=>.cons (f _ _ r) (Paired.Rf t f)
def HG.KZ(x:HG P w H h a o)(k:∀b u,(b=a\/H b=some (.own a))->h.get? b=some u->h'.get? b=some u)
  (ho:∀b,H b=some (.own a)->H' b=some (.own a)) (ht:∀b xs,H b=some (.tup xs)->H' b=some (.tup xs)):HG P w H' h' a o:=by
 induction o with
 |lst xs=>obtain⟨z,its,n,r,e⟩:=x;exact⟨z,its,n,r,k _ _ (.inl rfl) e⟩
 |tup xs=>obtain⟨z,its,r,ob,e,c⟩:=x;exact⟨z,its,r,ob,k _ _ (.inl rfl) e,c⟩
 |dK kvs=>obtain⟨z,y,vs,r,ob,es,ep,e,c⟩:=x;exact⟨z,y,vs,r,ob,es,ep,k _ _ (.inl rfl) e,c⟩
 |dT kvs=>
  obtain⟨z,y,xs,r,ob,es,ep,e,c⟩:=x;exact⟨z,y,xs,Paired.Rf r fun p q z=>⟨z.1,ht _ _ z.2.1,z.2.2⟩,ob,es,ep,k _ _ (.inl rfl) e,c⟩
 |set S n=>obtain⟨ob,es,ep,t,e,c⟩:=x;exact⟨ob,es,ep,t,k _ _ (.inl rfl) e,c⟩
 |ins C dx fs=>
  obtain⟨d,z,ne,e,mA,⟨od,es,ep,e2,c⟩,r⟩:=x;exact⟨ho _ d,z,ne,k _ _ (.inl rfl) e,mA,⟨od,es,ep,k _ _ (.inr d) e2,c⟩,r⟩
 |own y=>obtain⟨ob,e⟩:=x;exact⟨ob,k _ _ (.inl rfl) e⟩
 |xd fs=>obtain⟨mA,⟨od,es,ep,e,c⟩,r⟩:=x;exact⟨mA,⟨od,es,ep,k _ _ (.inl rfl) e,c⟩,r⟩
 |R3 lo hi=>obtain⟨t,u,v,e⟩:=x;exact⟨t,u,v,k _ _ (.inl rfl) e⟩
 |NK ob u ih=>obtain⟨e,q⟩:=x;exact⟨k _ _ (.inl rfl) e,ih q⟩
 |QL ps=>
  have e:h.get? a=some { cls:=.none,data:=.fields ps }:=x;show h'.get? a=some { cls:=.none,data:=.fields ps };exact k a _ (.inl rfl) e
 |met f y=>
  have e:h.get? a=some (methodObj (.ref f) (.ref y)):=x;show h'.get? a=some (methodObj (.ref f) (.ref y));exact k a _ (.inl rfl) e
 |ext φ=>obtain⟨p,⟨o,e⟩,st⟩:=x;exact⟨st _ _ p fun o q=>k _ _ (.inl rfl) q,⟨o,k _ _ (.inl rfl) e⟩,st⟩
def Jb.lt(x:Jb P w H h)(e:H a=some o):a<h.objs.size:=(x a o e).lt
def Jb.fresh(x:Jb P w H h)(e:h.objs.size<=a):H a=none:=by
 cases q:H a with
 |none=>rfl
 |some u=>exact absurd (Nat.lt_of_lt_of_le (x.lt q) e) (Nat.lt_irrefl _)
def Jb.kept(x:Jb P w H h)(k:∀b u,h.get? b=some u->h'.get? b=some u):Jb P w H h':=fun a o e=>
 (x a o e).KZ (fun b u _ q=>k b u q) (fun _ q=>q) fun _ _ q=>q
def Jb.laid(x:Jb P w H h)(k:∀b u,h.get? b=some u->h'.get? b=some u)(hp:h.objs.size<=a)(new:HG P w (upd H a o) h' a o):Jb P w (upd H a o) h':=fun b u e=>by
 have hn:=x.fresh hp;by_cases hb:b=a
 ·subst hb;rw[bC] at e;cases e;exact new
 ·rw[bg hb] at e;exact(x b u e).KZ (fun c v _ q=>k c v q) (fun c q=>by rw[bg (ba q hn)];exact q) fun c xs q=>by rw[bg (ba q hn)];exact q
end
def Rd(H:Hp)(a:Addr)(u:HO):Prop:=H a=some u\/∃o,H a=some (.NK o u)
def Rd.ok{P:Program}{w:World}{H:Hp}{h:Heap}{a:Addr}{u:HO}(r:Rd H a u)(x:Jb P w H h):HG P w H h a u:=by
 rcases r with r|⟨o,r⟩
 ·exact x a u r
 ·obtain⟨_,q⟩:=x a _ r;exact q
def SF:Option HO->Prop
 |some (.lst _)=>True
 |some (.dK _)=>True
 |some (.dT _)=>True
 |some (.set _ _)=>True
 |some (.ins _ _ _)=>True
 |some (.ext _)=>True
 |_=>False
section
variable{P:Program}{w:World}{H:Hp}{h h':Heap}{x e:Addr}{o':HO}
def Jb.write(ok:Jb P w H h)(mu:SF (H x))(he:e=x\/H e=some (.own x))(k:∀b u,b≠e->h.get? b=some u->h'.get? b=some u)(R4:∃u,h'.get? e=some u)
  (new:HG P w (upd H x o') h' x o'):Jb P w (upd H x o') h':=fun b u q=>by
 have SG:∀c y,H c=some (.own y)->c≠x:=fun c y r z=>by subst z;rw[r] at mu;exact mu
 have UW:∀c xs,H c=some (.tup xs)->c≠x:=fun c xs r z=>by subst z;rw[r] at mu;exact mu
 by_cases hb:b=x
 ·subst hb;rw[bC] at q;cases q;exact new
 ·rw[bg hb] at q;by_cases L0:b=e
  ·have q':H b=some (.own x):=by
    rcases he with z|z
    ·exact absurd (L0.trans z) hb
    ·rw[L0];exact z
   rw[q] at q';cases q';obtain⟨v,hv⟩:=R4;exact⟨v,by rw[L0];exact hv⟩
  ·refine(ok b u q).KZ (fun c v hc r=>k c v ?_ r) (fun c r=>by rw[bg (SG c b r)];exact r) fun c xs r=>by rw[bg (UW c xs r)];exact r
   rcases hc with rfl|hc
   ·exact L0
   ·rintro rfl;rcases he with z|z
    ·exact SG c b hc z
    ·rw[hc] at z;cases z;exact hb rfl
end
structure Un(fs ex:List Addr)(H H':Hp)(h h':Heap):Prop where
 keep:∀b o,h.get? b=some o->H b=none->b∉fs->b∉ex->h'.get? b=some o
 slot:∀b o,h.get? b=some o->H b=none->b∈fs->b∉ex->∃sl,h'.get? b=some { o with slots:=sl }
 free:∀b o,h.get? b=some o->H b=none->b∉ex->H' b=none
 there:∀b o,h.get? b=some o->b∉ex->∃o',h'.get? b=some o'
 Ks:∀b xs,H b=some (.tup xs)->H' b=some (.tup xs)
 Kh:∀b o u,H b=some (.NK o u)->H' b=some (.NK o u)
 Kt:∀b ps,H b=some (.QL ps)->∃more,H' b=some (.QL (ps++more))
section
variable{fs UX ex Yf:List Addr}{H H1 H2:Hp}{h h1 h2 h':Heap}{a x e:Addr}{o:HO}
def Un.any(u:Un fs ex H H1 h h1){b:Addr}{ob:Obj}(q:h.get? b=some ob)(n:H b=none)(hx:b∉ex):∃sl,h1.get? b=some { ob with slots:=sl }:=by
 by_cases hb:b∈fs
 ·exact u.slot b ob q n hb hx
 ·exact⟨ob.slots,u.keep b ob q n hb hx⟩
def Un.trans(a:Un fs ex H H1 h h1)(b:Un fs ex H1 H2 h1 h2):Un fs ex H H2 h h2 where
 keep:=fun c ob q n hc hx=>b.keep c ob (a.keep c ob q n hc hx) (a.free c ob q n hx) hc hx
 slot:=fun c ob q n hc hx=>by
  obtain⟨sl,e1⟩:=a.slot c ob q n hc hx;obtain⟨UY,e2⟩:=b.slot c _ e1 (a.free c ob q n hx) hc hx;exact⟨UY,e2⟩
 free:=fun c ob q n hx=>by
  obtain⟨o',e1⟩:=a.there c ob q hx;exact b.free c o' e1 (a.free c ob q n hx) hx
 there:=fun c ob q hx=>by
  obtain⟨o',e1⟩:=a.there c ob q hx;exact b.there c o' e1 hx
 Ks:=fun c xs q=>b.Ks c xs (a.Ks c xs q)
 Kh:=fun c ob xs q=>b.Kh c ob xs (a.Kh c ob xs q)
 Kt:=fun c ps q=>by
  obtain⟨m1,e1⟩:=a.Kt c ps q;obtain⟨m2,e2⟩:=b.Kt c _ e1;exact⟨m1++m2,by rw[e2,Array.append_assoc]⟩
def Un.kept(k:∀b u,h.get? b=some u->h'.get? b=some u):Un fs ex H H h h':=
 ⟨fun b ob q _ _ _=>k b ob q,fun b ob q _ _ _=>⟨ob.slots,k b ob q⟩,fun _ _ _ n _=>n,fun b ob q _=>⟨ob,k b ob q⟩,fun _ _ q=>q,fun _ _ _ q=>q,fun _ ps q=>⟨#[],by rw[q];simp⟩⟩
def Un.refl:Un fs ex H H h h:=Un.kept fun _ _ q=>q
def Un.laid(k:∀b u,h.get? b=some u->h'.get? b=some u)(hp:h.objs.size<=a)(hn:H a=none):Un fs ex H (upd H a o) h h' where
 keep:=fun b u q _ _ _=>k b u q
 slot:=fun b u q _ _ _=>⟨u.slots,k b u q⟩
 free:=fun b u q n _=>by rw[bg (ne_of_lt (Nat.lt_of_lt_of_le (lt_size q) hp))];exact n
 there:=fun b u q _=>⟨u,k b u q⟩
 Ks:=fun b xs q=>by rw[bg (ba q hn)];exact q
 Kh:=fun b u xs q=>by rw[bg (ba q hn)];exact q
 Kt:=fun b ps q=>⟨#[],by rw[bg (ba q hn),q];simp⟩
def Un.write(mu:SF (H x))(he:e=x\/H e=some (.own x))(k:∀b u,b≠e->h.get? b=some u->h'.get? b=some u)(R4:∃u,h'.get? e=some u):Un fs ex H (upd H x o) h h':=by
 have hx:∀b,H b=none->b≠x:=fun b n z=>by subst z;rw[n] at mu;exact mu
 have hb:∀b,H b=none->b≠e:=fun b n z=>by
  subst z;rcases he with r|r
  ·exact hx b n r
  ·rw[n] at r;cases r
 have hm:∀b u,H b=some u->¬SF (some u)->b≠x:=fun b u q nm z=>by subst z;rw[q] at mu;exact nm mu
 refine⟨fun b u q n _ _=>k b u (hb b n) q,fun b u q n _ _=>⟨u.slots,k b u (hb b n) q⟩,fun b u q n _=>by rw[bg (hx b n)];exact n,fun b u q _=>?_,
  fun b xs q=>by rw[bg (hm b _ q fun z=>z)];exact q,fun b u xs q=>by rw[bg (hm b _ q fun z=>z)];exact q,fun b ps q=>⟨#[],by rw[bg (hm b _ q fun z=>z),q];simp⟩⟩
 by_cases L0:b=e
 ·subst L0;exact R4
 ·exact⟨u,k b u L0 q⟩
def Un.mono(u:Un fs ex H H1 h h1)(hs:∀b∈fs,b∈UX)(hx:∀b∈ex,b∈Yf):Un UX Yf H H1 h h1:=
 ⟨fun b ob q n hb he=>u.keep b ob q n (fun z=>hb (hs b z)) fun z=>he (hx b z),fun _ _ q n _ he=>u.any q n fun z=>he (hx _ z),fun b ob q n he=>u.free b ob q n fun z=>he (hx b z),fun b ob q he=>u.there b ob q fun z=>he (hx b z),u.Ks,u.Kh,u.Kt⟩
end
def Uh(h:Heap)(H:Hp):List Addr:=(range h.objs.size).filter fun a=>(H a).isSome
def uO(h:Heap)(H:Hp):Heap:=PySem.W.hideAll h (Uh h H)
def zT(h:Heap)(H:Hp):(uO h H).objs.size=h.objs.size:=PySem.W.hideAll_size _ _
def AX{h:Heap}{H:Hp}{b:Addr}{o:Obj}(e:h.get? b=some o)(n:H b=none):(uO h H).get? b=some o:=
 PySem.W.hideAll_get _ e fun hm=>by
  have q:(H b).isSome=true:=(List.mem_filter.mp hm).2;rw[n] at q;simp at q
def DV{h:Heap}{H:Hp}{b:Addr}{o:Obj}(e:(uO h H).get? b=some o):h.get? b=some o/\H b=none:=by
 have e':h.get? b=some o:=PySem.W.of_hideAll (Uh h H) e;refine⟨e',?_⟩;cases q:H b with
 |none=>rfl
 |some x=>
  have hm:b∈Uh h H:=List.mem_filter.mpr ⟨List.mem_range.mpr (lt_size e'),by simp[q]⟩;have z:(uO h H).get? b=none:=PySem.W.hideAll_none (Uh h H) hm;rw[z] at e;cases e
def DH(g h:Heap)(L:Addr):List (Addr×Obj):=(range h.objs.size).filterMap fun a=>if a=L\/(g.get? a).isSome=true then none else (h.get? a).map fun o=>(a,o)
def rest(g h:Heap)(L d:Addr):List (Addr×Obj):=(DH g h L).filter fun p=>decide (p.1≠d)
structure Mod(K:PySem.W.Frag)(mg:Str->Option Value)(base:Heap):Prop where
 R5:K.In base
 glob:base.Ns mainGlobals mg
 blt:∃mb,base.Ns builtinsNs mb/\∀x:Str,x≠"__name__"->mb x=bootBuiltins x
 nolimit:base.NoLimit
structure Cx where
 prog:Program
 w:World
 K:PySem.W.Frag
 mg:Str->Option Value
 base:Heap
 A:Around
 N:List Str
 I_:Shared
 OW:Hp
 env:Env
 outer:List Env
 stack:List Env
 ex:List Addr
 fn:Str->Bool
 calm:Bool
 pn:List (Addr×Obj)
 xe:Value->Shared->Prop
def NB(l:List Env):List Addr:=l.filterMap (·.frame)
abbrev Cx.fs(X:Cx):List Addr:=NB X.outer
def UZ(sc:Scope)(x:Str):Prop:=sc.names.lookup x=some .local\/sc.names.lookup x=some .cell\/sc.names.lookup x=some .free
def Loc(sc:Scope)(x:Str):Prop:=sc.names.lookup x=some .local\/sc.names.lookup x=some .cell
def Look(env:Env)(h:Heap)(m:Str->Option Value)(x:Str)(u:Value):Prop:=
 (env.kindOf x=some .local/\m x=some u)\/((env.kindOf x=some .cell\/env.kindOf x=some .free)/\∃c,env.cells.lookup x=some c/\h.IsCell c (some u))
structure Cx.Ok(X:Cx):Prop where
 mod:Mod X.K X.mg X.base
 kind:X.env.scope.kind=.function
 glob:X.env.globals=mainGlobals
 blt:X.env.builtins=builtinsNs
 above:X.I_.heap.objs.size<=X.env.locals
 inj:∀x y c,X.env.cells.lookup x=some c->X.env.cells.lookup y=some c->x=y
 has:∀x,(X.env.kindOf x=some .cell\/X.env.kindOf x=some .free)->∃c,X.env.cells.lookup x=some c
 R6:∀x c,X.fn x=true->X.env.cells.lookup x=some c->X.I_.heap.objs.size<=c
 hd:X.calm=true->X.A.handled=none
 frames:X.A.frames=some X.stack
 SH:X.stack=X.outer\/(X.stack=X.env :: X.outer/\X.env.frame=some X.env.locals)
 U0:∀b∈X.ex,b≠X.env.locals/\∀x c,X.env.cells.lookup x=some c->c≠b
 bs:∀b o,X.base.get? b=some o->X.I_.heap.get? b=some o/\X.OW b=none
 PN:X.base.objs.size<=X.I_.heap.objs.size
 Ox:∀b o,X.base.get? b=some o->b∉X.ex
 OX:∀b∈X.ex,b∉X.fs
 K0:X.I_.heap.FunFrames X.base X.outer
 QM:∀b∈X.fs,X.OW b=none
structure Inv(X:Cx)(pins:List (Addr×Obj))(σ:List (Option V))(H:Hp)(s:Shared):Prop where
 ok:X.Ok
 os:s.os=X.I_.os
 bare:AllBare s.gens
 base:Un X.fs X.ex X.OW H X.I_.heap s.heap
 loc:∃m,s.heap.Ns X.env.locals m/\∀(i:Nat) (x:Str) (v:V),X.N[i]?=some x->σ[i]?=some (some v)->UZ X.env.scope x->∃u,RelV v u/\Look X.env s.heap m x u
 cell:∀x c,X.env.cells.lookup x=some c->∃v,s.heap.IsCell c v
 free:H X.env.locals=none
 JN:∀x c,X.env.cells.lookup x=some c->H c=none
 pin:∀p∈X.pn++pins,s.heap.get? p.1=some p.2/\H p.1=none/\p.1≠X.env.locals/\p.1∉X.fs/\∀v,p.2.data≠.cell v
 Hc:Jb X.prog X.w H s.heap
 len:σ.length=X.N.length
section
variable{X:Cx}{pins:List (Addr×Obj)}{σ:List (Option V)}{H H':Hp}{s:Shared}{h':Heap}
def Cx.Ok.U3(ok:X.Ok){b:Addr}{o:Obj}(e:X.base.get? b=some o):b∉X.fs:=fun hb=>by
 have:=(ok.K0.mem hb).1;rw[e] at this;cases this
def Inv.bs(I:Inv X pins σ H s):∀b o,X.base.get? b=some o->s.heap.get? b=some o/\H b=none:=fun b o e=>
 ⟨I.base.keep b o (I.ok.bs b o e).1 (I.ok.bs b o e).2 (I.ok.U3 e) (I.ok.Ox b o e),I.base.free b o (I.ok.bs b o e).1 (I.ok.bs b o e).2 (I.ok.Ox b o e)⟩
def Inv.bk(I:Inv X pins σ H s):∀b o,X.base.get? b=some o->s.heap.get? b=some o:=fun b o e=>(I.bs b o e).1
def Inv.mod(I:Inv X pins σ H s):Mod X.K X.mg X.base:=I.ok.mod
def Inv.Ls(I:Inv X pins σ H s):X.K.In s.heap:=I.ok.mod.R5.keeps I.bk
def Inv.lt(I:Inv X pins σ H s):X.env.locals<s.heap.objs.size:=let ⟨_,hn,_⟩:=I.loc;hn.lt
def Inv.sz(I:Inv X pins σ H s):X.I_.heap.objs.size<=s.heap.objs.size:=Nat.le_trans I.ok.above (Nat.le_of_lt I.lt)
def Inv.U4(I:Inv X pins σ H s){a:Addr}(h:s.heap.objs.size<=a):a∉X.fs:=fun hb=>by
 obtain⟨_,o,ho,_⟩:=I.ok.K0.mem hb;exact absurd (Nat.lt_of_lt_of_le (lt_size ho) (Nat.le_trans I.sz h)) (Nat.lt_irrefl _)
def Inv.Rg(I:Inv X pins σ H s):∀x c,X.env.cells.lookup x=some c->c≠X.env.locals:=fun x c e z=>by
 obtain⟨v,o,ho,hd⟩:=I.cell x c e;obtain⟨m,⟨o',es,ep,Nc,L1,_⟩,_⟩:=I.loc;rw[z,Nc] at ho;cases ho;rw[L1] at hd;cases hd
def Inv.K0(I:Inv X pins σ H s):s.heap.FunFrames X.base X.outer:=by
 have all:∀(l:List Env),(∀b∈NB l,b∈X.fs)->X.I_.heap.FunFrames X.base l->s.heap.FunFrames X.base l:=by
  intro l
  induction l with
  |nil=>intro _ _;trivial
  |cons env r ih=>
   intro hs hl;obtain⟨hk,⟨L,o,hf,hn,ho,hd⟩,hr⟩:=hl;have hL:L∈X.fs:=hs L (by unfold NB;rw[filterMap_cons,hf];exact mem_cons_self);obtain⟨sl,e⟩:=I.base.slot L o ho (I.ok.QM L hL) hL fun z=>I.ok.OX L z hL
   exact⟨hk,⟨L,_,hf,hn,e,hd⟩,ih (fun b hb=>hs b (by unfold NB;rw[filterMap_cons,hf];exact mem_cons_of_mem _ hb)) hr⟩
 exact all X.outer (fun _ hb=>hb) I.ok.K0
def Inv.stack(I:Inv X pins σ H s):s.heap.FunFrames X.base X.stack:=by
 rcases I.ok.SH with e|⟨e,hf⟩
 ·rw[e];exact I.K0
 ·rw[e];obtain⟨m,hn,_⟩:=I.loc;refine .cons (by rw[I.ok.kind];decide) hf hn ?_ I.K0;exact Heap.get?_none_of_le (Nat.le_trans I.ok.PN I.ok.above)
def Inv.MG(I:Inv X pins σ H s):∀b∈NB X.stack,b∈X.env.locals :: X.fs:=fun b hb=>by
 rcases I.ok.SH with e|⟨e,hf⟩
 ·rw[e] at hb;exact mem_cons_of_mem _ hb
 ·rw[e] at hb;unfold NB at hb;rw[filterMap_cons,hf] at hb;exact hb
def Inv.MH(I:Inv X pins σ H s):∀b∈NB X.stack,H b=none:=fun b hb=>by
 rcases List.mem_cons.mp (I.MG b hb) with e|hb
 ·rw[e];exact I.free
 ·obtain⟨_,o,ho,_⟩:=I.ok.K0.mem hb;exact I.base.free b o ho (I.ok.QM b hb) fun z=>I.ok.OX b z hb
def Inv.step{g':Array GenState}{t':Nat}{d':Drawn}{ch:List Addr}(I:Inv X pins σ H s)
  (OP:∀b∈ch,(b∈X.ex\/X.I_.heap.objs.size<=b)/\b≠X.env.locals/\(∀x c,X.env.cells.lookup x=some c->c≠b)/\∀p∈X.pn++pins,p.1≠b)
  (keep:∀b o,b≠X.env.locals->b∉X.fs->b∉ch->s.heap.get? b=some o->H b=none->h'.get? b=some o)
  (slot:∀b o,b≠X.env.locals->b∈X.fs->b∉ch->s.heap.get? b=some o->H b=none->∃sl,h'.get? b=some { o with slots:=sl }) (free:∀b o,b∉ch->s.heap.get? b=some o->H b=none->H' b=none)
  (there:∀b o,b∉ch->s.heap.get? b=some o->∃o',h'.get? b=some o')
  (Ks:∀b xs,H b=some (.tup xs)->H' b=some (.tup xs)) (Kh:∀b o u,H b=some (.NK o u)->H' b=some (.NK o u)) (Kt:∀b ps,H b=some (.QL ps)->∃more,H' b=some (.QL (ps++more)))
  (ns:∀m,s.heap.Ns X.env.locals m->h'.Ns X.env.locals m) (Hc:Jb X.prog X.w H' h') (hg:AllBare g') :
  Inv X pins σ H' { s with heap:=h',gens:=g',drawn:=d',toks:=t' }:=by
 have Yg:∀b o,X.I_.heap.get? b=some o->b≠X.env.locals:=fun b o e=>ne_of_lt (Nat.lt_of_lt_of_le (lt_size e) I.ok.above)
 have Ui:∀b o,X.I_.heap.get? b=some o->b∉X.ex->b∉ch:=fun b o e hx hb=>by
  rcases (OP b hb).1 with z|z
  ·exact hx z
  ·exact absurd (Nat.lt_of_lt_of_le (lt_size e) z) (Nat.lt_irrefl _)
 have cellK:∀x c,X.env.cells.lookup x=some c->∀v,s.heap.IsCell c v->h'.IsCell c v:=fun x c e v ⟨o,ho,hd⟩=>by
  have SI:c∉ch:=fun z=>(OP c z).2.2.1 x c e rfl
  by_cases hc:c∈X.fs
  ·obtain⟨sl,q⟩:=slot c o (I.Rg x c e) hc SI ho (I.JN x c e);exact⟨_,q,hd⟩
  ·exact⟨o,keep c o (I.Rg x c e) hc SI ho (I.JN x c e),hd⟩
 refine⟨I.ok,I.os,hg,⟨fun b o e n hb hx=>?_,fun b o e n hb hx=>?_,fun b o e n hx=>?_,fun b o e hx=>?_,fun b xs e=>Ks b xs (I.base.Ks b xs e),fun b o xs e=>Kh b o xs (I.base.Kh b o xs e),fun b ps e=>?_⟩,?_,fun x c e=>?_,?_,fun x c e=>?_,fun p hp=>?_,Hc,I.len⟩
 ·exact keep b o (Yg b o e) hb (Ui b o e hx) (I.base.keep b o e n hb hx) (I.base.free b o e n hx)
 ·obtain⟨sl,e1⟩:=I.base.slot b o e n hb hx;obtain⟨UY,e2⟩:=slot b _ (Yg b o e) hb (Ui b o e hx) e1 (I.base.free b o e n hx);exact⟨UY,e2⟩
 ·obtain⟨o',e1⟩:=I.base.there b o e hx;exact free b o' (Ui b o e hx) e1 (I.base.free b o e n hx)
 ·obtain⟨o',e1⟩:=I.base.there b o e hx;exact there b o' (Ui b o e hx) e1
 ·obtain⟨m1,e1⟩:=I.base.Kt b ps e;obtain⟨m2,e2⟩:=Kt b _ e1;exact⟨m1++m2,by rw[e2,Array.append_assoc]⟩
 ·obtain⟨m,hn,hl⟩:=I.loc;refine⟨m,ns m hn,fun i x v e1 e2 e3=>?_⟩;obtain⟨u,r,l⟩:=hl i x v e1 e2 e3;refine⟨u,r,?_⟩;rcases l with l|⟨k,c,e,z⟩
  ·exact .inl l
  ·exact .inr ⟨k,c,e,cellK x c e _ z⟩
 ·obtain⟨v,z⟩:=I.cell x c e;exact⟨v,cellK x c e v z⟩
 ·obtain⟨m,⟨o,_,_,ho,_⟩,_⟩:=I.loc;exact free _ o (fun z=>(OP _ z).2.1 rfl) ho I.free
 ·obtain⟨v,o,ho,hd⟩:=I.cell x c e;exact free c o (fun z=>(OP c z).2.2.1 x c e rfl) ho (I.JN x c e)
 ·obtain⟨e,n,ne,nf,d⟩:=I.pin p hp;have SI:p.1∉ch:=fun z=>(OP p.1 z).2.2.2 p hp rfl
  exact⟨keep p.1 p.2 ne nf SI e n,free p.1 p.2 SI e n,ne,nf,d⟩
def Inv.un{t':Nat}(I:Inv X pins σ H s)(u:Un X.fs [] H H' s.heap h')(Hc:Jb X.prog X.w H' h'):Inv X pins σ H' { s with heap:=h',toks:=t' }:=by
 obtain⟨m,⟨o,es,ep,ho,r⟩,_⟩:=id I.loc;obtain⟨sl,hL⟩:=u.any ho I.free (by simp);exact I.step (g':=s.gens) (d':=s.drawn) (ch:=[]) (fun _ z=>nomatch z) (fun b o _ hb _ e n=>u.keep b o e n hb (by simp)) (fun b o _ hb _ e n=>u.slot b o e n hb (by simp)) (fun b o _ e n=>u.free b o e n (by simp)) (fun b o _ e=>u.there b o e (by simp)) u.Ks u.Kh u.Kt (fun m' hm=>by
  obtain⟨o',U5,U6,Nc,r'⟩:=hm;rw[ho] at Nc;cases Nc;exact⟨_,U5,U6,hL,r'⟩) Hc I.bare
def Inv.call{g':Array GenState}{t':Nat}{d':Drawn}{ch:List Addr}(I:Inv X pins σ H s)(u:Un (NB X.stack) ch H H' s.heap h')(Hc:Jb X.prog X.w H' h')(hg:AllBare g')
  (OP:∀b∈ch,(b∈X.ex\/X.I_.heap.objs.size<=b)/\b≠X.env.locals/\(∀x c,X.env.cells.lookup x=some c->c≠b)/\∀p∈X.pn++pins,p.1≠b) :
  Inv X pins σ H' { s with heap:=h',gens:=g',drawn:=d',toks:=t' }:=by
 obtain⟨m,⟨o,es,ep,ho,r⟩,_⟩:=id I.loc;obtain⟨sl,hL⟩:=u.any ho I.free fun z=>(OP _ z).2.1 rfl
 exact I.step (ch:=ch) OP (fun b o hL hb hc e n=>u.keep b o e n (fun z=>(List.mem_cons.mp (I.MG b z)).elim hL hb) hc) (fun b o _ _ hc e n=>u.any e n hc) (fun b o hc e n=>u.free b o e n hc) (fun b o hc e=>u.there b o e hc) u.Ks u.Kh u.Kt (fun m' hm=>by
  obtain⟨o',U5,U6,Nc,r'⟩:=hm;rw[ho] at Nc;cases Nc;exact⟨_,U5,U6,hL,r'⟩) Hc hg
def Inv.turned{t':Nat}{it:Addr}(I:Inv X pins σ H s)(k:∀b o,b≠it->s.heap.get? b=some o->h'.get? b=some o)(hn:H it=none)(hL:it≠X.env.locals)
  (h1:it∈X.ex\/X.I_.heap.objs.size<=it) (h2:∀x c,X.env.cells.lookup x=some c->c≠it) (h3:∀p∈X.pn++pins,p.1≠it):Inv X pins σ H { s with heap:=h',toks:=t' }:=by
 have Yh:∀b u,H b=some u->b≠it:=fun b u e z=>by rw[z,hn] at e;cases e
 refine I.step (g':=s.gens) (d':=s.drawn) (ch:=[it]) (fun b hb=>?_) (fun b o _ _ hc e _=>k b o (fun z=>hc (by simp[z])) e) (fun b o _ _ hc e _=>⟨o.slots,k b o (fun z=>hc (by simp[z])) e⟩) (fun _ _ _ _ n=>n)
  (fun b o hc e=>⟨o,k b o (fun z=>hc (by simp[z])) e⟩) (fun _ _ e=>e) (fun _ _ _ e=>e) (fun b ps e=>⟨#[],by rw[e];simp⟩) (fun m hm=>?_) (fun b u e=>?_) I.bare
 ·have e:b=it:=by simpa using hb
  subst e;exact⟨h1,hL,h2,h3⟩
 ·obtain⟨o,es,ep,ho,r⟩:=hm;exact⟨o,es,ep,k _ o (Ne.symm hL) ho,r⟩
 ·refine(I.Hc b u e).KZ (fun c v hc q=>k c v ?_ q) (fun _ q=>q) fun _ _ q=>q
  rcases hc with z|z
  ·rw[z];exact Yh b u e
  ·exact Yh c _ z
def Inv.tok(I:Inv X pins σ H s)(t:Nat):Inv X pins σ H { s with toks:=t }:=I.un (h':=s.heap) (t':=t) Un.refl I.Hc
def Inv.kept{t':Nat}(I:Inv X pins σ H s)(k:∀b u,s.heap.get? b=some u->h'.get? b=some u):Inv X pins σ H { s with heap:=h',toks:=t' }:=I.un (Un.kept k) (I.Hc.kept k)
def Inv.laid{a:Addr}{o:HO}{t':Nat}(I:Inv X pins σ H s)(k:∀b u,s.heap.get? b=some u->h'.get? b=some u)(hp:s.heap.objs.size<=a)(new:HG X.prog X.w (upd H a o) h' a o) :
  Inv X pins σ (upd H a o) { s with heap:=h',toks:=t' }:=I.un (Un.laid k hp (I.Hc.fresh hp)) (I.Hc.laid k hp new)
def Inv.write{x e:Addr}{o:HO}{t':Nat}(I:Inv X pins σ H s)(mu:SF (H x))(he:e=x\/H e=some (.own x))(k:∀b u,b≠e->s.heap.get? b=some u->h'.get? b=some u)(R4:∃u,h'.get? e=some u)
  (new:HG X.prog X.w (upd H x o) h' x o):Inv X pins σ (upd H x o) { s with heap:=h',toks:=t' }:=I.un (Un.write mu he k R4) (I.Hc.write mu he k R4 new)
def Inv.MI{QN:List (Addr×Obj)}(I:Inv X pins σ H s)(h:∀p∈QN,s.heap.get? p.1=some p.2/\H p.1=none/\p.1≠X.env.locals/\p.1∉X.fs/\∀v,p.2.data≠.cell v):Inv X QN σ H s:=
 ⟨I.ok,I.os,I.bare,I.base,I.loc,I.cell,I.free,I.JN,fun p hp=>(List.mem_append.mp hp).elim (fun z=>I.pin p (mem_append_left _ z)) (h p),I.Hc,I.len⟩
def wa{N:List Str}(hN:N.Nodup){i j:Nat}{x:Str}(a:N[i]?=some x)(b:N[j]?=some x):i=j:=by
 obtain⟨h1,e1⟩:=List.getElem?_eq_some_iff.mp a;obtain⟨h2,e2⟩:=List.getElem?_eq_some_iff.mp b;exact(List.getElem_inj hN).mp (e1.trans e2.symm)
def Ab{M:Model}{A:Around}{E:Value->Shared->Prop}{i:Nat}{x:Str}{v:V}{u:Value}{Q:Unit->Shared->Prop}(I:Inv X pins σ H s)(hN:X.N.Nodup)(hi:X.N[i]?=some x)(hx:Loc X.env.scope x)(r:RelV v u)
  (h:∀s',Inv X pins (σ.set i (some v)) H s'->(∃a,SameBut a s.heap s'.heap/\(a=X.env.locals\/X.env.cells.lookup x=some a))->Q () s') (hf:X.fn x=true\/X.env.scope.names.lookup x=some .local:=by first|exact .inl rfl|exact .inr rfl|assumption):wpAny M A (storeName X.env x u) Q E s:=by
 obtain⟨m,hn,hl⟩:=id I.loc;have KH:(X.env.scope.kind == .class || (X.env.scope.kind == .module && X.env.locals != X.env.globals))=false:=by rw[I.ok.kind];rfl
 have SJ:i<σ.length:=by rw[I.len];exact(List.getElem?_eq_some_iff.mp hi).1
 have Rg:=I.Rg;have tracked:∀{a:Addr}{h':Heap},(∃o,s.heap.get? a=some o/\H a=none)->SameBut a s.heap h'->Jb X.prog X.w H h':=fun {a h'} ha hs b ob e=>by
  obtain⟨_,_,N9⟩:=ha;refine(I.Hc b ob e).KZ (fun c w' hc q=>(hs.2 c ?_).trans q) (fun _ q=>q) fun _ _ q=>q
  rintro rfl;rcases hc with rfl|hc
  ·rw[N9] at e;cases e
  ·rw[N9] at hc;cases hc
 rcases hx with hk|hk
 ·refine wpAny_storeName_local hk hn (fun h' Uj hs=>?_) KH;obtain⟨oL,_,_,ZY,_⟩:=id hn;refine h _ ⟨I.ok,I.os,I.bare,⟨fun b o e n hb hx=>?_,fun b o e n hb hx=>?_,I.base.free,fun b o e hx=>?_,I.base.Ks,I.base.Kh,I.base.Kt⟩,⟨_,Uj,fun j y v' e1 e2 e3=>?_⟩,fun y c e=>?_,I.free,I.JN,fun p hp=>?_,tracked ⟨oL,ZY,I.free⟩ hs,by simpa using I.len⟩ ⟨_,hs,.inl rfl⟩
  ·exact(hs.2 b (ne_of_lt (Nat.lt_of_lt_of_le (lt_size e) I.ok.above))).trans (I.base.keep b o e n hb hx)
  ·obtain⟨sl,e1⟩:=I.base.slot b o e n hb hx;exact⟨sl,(hs.2 b (ne_of_lt (Nat.lt_of_lt_of_le (lt_size e) I.ok.above))).trans e1⟩
  ·obtain⟨o',e1⟩:=I.base.there b o e hx;exact⟨o',(hs.2 b (ne_of_lt (Nat.lt_of_lt_of_le (lt_size e) I.ok.above))).trans e1⟩
  ·by_cases hj:j=i
   ·subst hj;rw[hi] at e1;cases e1;rw[List.getElem?_set_self SJ] at e2;cases e2;exact⟨u,r,.inl ⟨hk,by simp⟩⟩
   ·rw[getElem?_set_ne (Ne.symm hj)] at e2;obtain⟨u',r',q⟩:=hl j y v' e1 e2 e3;refine⟨u',r',?_⟩;rcases q with ⟨k,e⟩|⟨k,c,e,z⟩
    ·refine .inl ⟨k,?_⟩;have:y≠x:=fun e=>hj (wa hN e1 (e ▸ hi))
     simp[this,e]
    ·exact .inr ⟨k,c,e,z.sameBut hs (Rg y c e)⟩
  ·obtain⟨w',z⟩:=I.cell y c e;exact⟨w',z.sameBut hs (Rg y c e)⟩
  ·obtain⟨e,n,ne,nf,d⟩:=I.pin p hp;exact⟨(hs.2 p.1 ne).trans e,n,ne,nf,d⟩
 ·have U7:X.fn x=true:=by
   rcases hf with z|z
   ·exact z
   ·rw[z] at hk;cases hk
  obtain⟨c,hc⟩:=I.ok.has x (.inl hk);obtain⟨w',z⟩:=I.cell x c hc;refine wpAny_storeName_cell I.ok.kind hk hc z (fun h' SK hs=>?_);obtain⟨oc,Yi,U8⟩:=id z;refine h { s with heap:=h' } ⟨I.ok,I.os,I.bare,⟨fun b o e n hb hx=>?_,fun b o e n hb hx=>?_,I.base.free,fun b o e hx=>?_,I.base.Ks,I.base.Kh,I.base.Kt⟩,⟨m,hn.sameBut hs (Ne.symm (Rg x c hc)),fun j y v' e1 e2 e3=>?_⟩,fun y c' e=>?_,I.free,I.JN,fun p hp=>?_,tracked ⟨oc,Yi,I.JN x c hc⟩ hs,by simpa using I.len⟩ ⟨c,hs,.inr hc⟩
  ·exact(hs.2 b (ne_of_lt (Nat.lt_of_lt_of_le (lt_size e) (I.ok.R6 x c U7 hc)))).trans (I.base.keep b o e n hb hx)
  ·obtain⟨sl,e1⟩:=I.base.slot b o e n hb hx;exact⟨sl,(hs.2 b (ne_of_lt (Nat.lt_of_lt_of_le (lt_size e) (I.ok.R6 x c U7 hc)))).trans e1⟩
  ·obtain⟨o',e1⟩:=I.base.there b o e hx;exact⟨o',(hs.2 b (ne_of_lt (Nat.lt_of_lt_of_le (lt_size e) (I.ok.R6 x c U7 hc)))).trans e1⟩
  ·by_cases hj:j=i
   ·subst hj;rw[hi] at e1;cases e1;rw[List.getElem?_set_self SJ] at e2;cases e2;exact⟨u,r,.inr ⟨.inl hk,c,hc,SK⟩⟩
   ·rw[getElem?_set_ne (Ne.symm hj)] at e2;obtain⟨u',r',q⟩:=hl j y v' e1 e2 e3;refine⟨u',r',?_⟩;rcases q with q|⟨k,c',e,z'⟩
    ·exact .inl q
    ·refine .inr ⟨k,c',e,z'.sameBut hs ?_⟩;rintro rfl;exact hj (wa hN e1 (I.ok.inj _ _ _ e hc ▸ hi))
  ·by_cases SM:c'=c
   ·subst SM;exact⟨_,SK⟩
   ·obtain⟨w2,z2⟩:=I.cell y c' e;exact⟨w2,z2.sameBut hs SM⟩
  ·obtain⟨e,n,ne,nf,d⟩:=I.pin p hp;refine⟨(hs.2 p.1 ?_).trans e,n,ne,nf,d⟩;intro q;rw[q,Yi] at e;have q':oc=p.2:=Option.some.inj e;exact d w' (by rw[<-q'];exact U8)
def wR{M:Model}{A:Around}{E:Value->Shared->Prop}{i:Nat}{x:Str}{v:V}{u:Value}{Q:Unit->Shared->Prop}(I:Inv X pins σ H s)(hN:X.N.Nodup)(hi:X.N[i]?=some x)(hx:Loc X.env.scope x)(r:RelV v u)
  (h:∀s',Inv X pins (σ.set i (some v)) H s'->Q () s') (hf:X.fn x=true\/X.env.scope.names.lookup x=some .local:=by first|exact .inl rfl|exact .inr rfl|assumption):wpAny M A (storeName X.env x u) Q E s:=
 Ab I hN hi hx r (fun s' I' _=>h s' I') hf
def Inv.QO{s':Shared}{ch:List Addr}(I:Inv X pins σ H s)(ho:s'.os=s.os)(u:Un (NB X.stack) ch H H' s.heap s'.heap)(Hc:Jb X.prog X.w H' s'.heap)(hg:AllBare s'.gens)
  (OP:∀b∈ch,(b∈X.ex\/X.I_.heap.objs.size<=b)/\b≠X.env.locals/\(∀x c,X.env.cells.lookup x=some c->c≠b)/\∀p∈X.pn++pins,p.1≠b):Inv X pins σ H' s':=by
 obtain⟨h',g',d',t',o'⟩:=s';have e:o'=s.os:=ho;subst e;exact I.call (g':=g') (t':=t') (d':=d') u Hc hg OP
end
abbrev XK:=Value->Option Addr->Hp->Prop
abbrev St:=List (Option V)
abbrev VK:=V->Hp->Prop
abbrev TE:=St->Hp->VK->Prop
structure Ends where
 nx:St->Hp->Prop
 rt:VK
 bk:St->Hp->Prop:=fun _ _=>False
 ct:St->Hp->Prop:=fun _ _=>False
abbrev TS:=Ends->St->Hp->Prop
def EP(X:Cx)(pins:List (Addr×Obj))(σ:St)(Q:VK)(u:Value)(s':Shared):Prop:=∃v H',Inv X pins σ H' s'/\RelV v u/\Q v H'
def TP(X:Cx)(pins:List (Addr×Obj))(σ:St)(Q:Bool->Hp->Prop)(b:Bool)(s':Shared):Prop:=∃H',Inv X pins σ H' s'/\Q b H'
def AP(X:Cx)(pins:List (Addr×Obj))(σ:St)(Q:List V->Hp->Prop)(us:List Value)(s':Shared):Prop:=∃vs H',Inv X pins σ H' s'/\Vals vs us/\Q vs H'
def SP(X:Cx)(pins:List (Addr×Obj))(D:Ends)(f:Flow)(s':Shared):Prop:=
 match f with
 |.next=>∃HE H',Inv X pins HE H' s'/\D.nx HE H'
 |.brk=>∃HE H',Inv X pins HE H' s'/\D.bk HE H'
 |.cont=>∃HE H',Inv X pins HE H' s'/\D.ct HE H'
 |.ret u=>∃v HE H',Inv X pins HE H' s'/\RelV v u/\D.rt v H'
def PE(X:Cx)(e:Expr)(t:TE):Prop:=
 ∀(pins:List (Addr×Obj)) (s:Shared) (σ:St) (H:Hp) (Q:VK),Inv X pins σ H s->t σ H Q->wpAny (model X.prog X.w) X.A (eval e X.env) (EP X pins σ Q) X.xe s
def ZZ(X:Cx)(st:List Stmt)(t:TS):Prop:=
 ∀(pins:List (Addr×Obj)) (s:Shared) (σ:St) (H:Hp) (D:Ends),Inv X pins σ H s->t D σ H->wpAny (model X.prog X.w) X.A (execs st X.env) (SP X pins D) X.xe s
def PZ{α:Type}{t:Sem α}{Q Q':α->Shared->Prop}{M:Model}{A:Around}{E:Value->Shared->Prop}{s:Shared}(h:wpAny M A t Q E s)(hQ:∀a s,Q a s->Q' a s):wpAny M A t Q' E s:=wpAny_mono h hQ fun _ _ x=>x
section
variable{X:Cx}
def GM(i:Nat):TE:=fun σ H Q=>∃v,σ[i]?=some (some v)/\Q v H
def Ev{i:Nat}{x:Str}{pos:Pos}(hN:X.N[i]?=some x)(hv:UZ X.env.scope x)(hd:(x == ("__debug__":Str))=false:=by decide)(N_:(x == ("__classdict__":Str))=false:=by decide):PE X (.Name x pos) (GM i):=by
 intro pins s σ H Q I h;obtain⟨v,e,h⟩:=h;obtain⟨m,hn,hl⟩:=I.loc;obtain⟨u,r,l⟩:=hl i x v hN e hv;have fin:EP X pins σ Q u s:=⟨v,H,I,r,h⟩;rcases l with ⟨hk,hm⟩|⟨hk,c,hc,HF⟩
 ·exact wpAny_Name (wpAny_loadName_local I.ok.kind hk hn hm fin) hd
 ·rcases hk with hk|hk
  ·exact wpAny_Name (wpAny_loadName_cell I.ok.kind hk hc HF fin) hd
  ·exact wpAny_Name (wpAny_loadName_free I.ok.kind hk hc HF fin N_) hd
def Gl(X:Cx)(x:Str):Prop:=X.env.kindOf x=some .globalImplicit
def lV{E:Value->Shared->Prop}{pins:List (Addr×Obj)}{s:Shared}{σ:St}{H:Hp}{x:Str}{u:Value}{pos:Pos}{Q:Value->Shared->Prop}(I:Inv X pins σ H s)(hg:Gl X x)(hm:X.mg x=some u)(h:Q u s)
  (hd:(x == ("__debug__":Str))=false:=by decide):wpAny (model X.prog X.w) X.A (eval (.Name x pos) X.env) Q E s:=
 Calls.Name_function_global I.ok.kind hg (Calls.loadGlobal_global (by rw[I.ok.glob];exact I.mod.glob.keeps I.bk) hm h) hd
def kH{E:Value->Shared->Prop}{pins:List (Addr×Obj)}{s:Shared}{σ:St}{H:Hp}{x:Str}{u:Value}{pos:Pos}{Q:Value->Shared->Prop}(I:Inv X pins σ H s)(hg:Gl X x)(hm:X.mg x=none)(hv:bootBuiltins x=some u)(h:Q u s)
  (hn:x≠"__name__":=by decide) (hd:(x == ("__debug__":Str))=false:=by decide):wpAny (model X.prog X.w) X.A (eval (.Name x pos) X.env) Q E s:=by
 obtain⟨mb,h1,h2⟩:=I.mod.blt;exact Calls.Name_function_global I.ok.kind hg (Calls.loadGlobal_builtin (by rw[I.ok.glob];exact I.mod.glob.keeps I.bk) hm (by rw[I.ok.blt];exact h1.keeps I.bk) ((h2 x hn).trans hv) h) hd
variable{a b:Expr}{ta tb:TE}{pos:Pos}
def RelV.OY{x:V}{v:Value}(r:RelV x v):(v == Value.none)=decide (x=.G0):=by
 cases x with
 |G0=>cases r;rfl
 |bl _=>cases r;rfl
 |int _=>obtain⟨t,rfl⟩:=r;rfl
 |str _=>obtain⟨t,rfl⟩:=r;rfl
 |Rb _=>obtain⟨t,rfl⟩:=r;rfl
 |Rc _=>obtain⟨t,rfl⟩:=r;rfl
 |ref _=>cases r;rfl
 |ty _=>cases r;rfl
variable{tA SN:TT}{rest:List Expr}
end
def Jl(K:PySem.W.Frag)(H:Hp)(a:Addr)(xs:List V):Prop:=
 Rd H a (.lst xs)\/
  ∃(o:Obj) (its:Array Value) (n:Nat),K.lookup a=some o/\o.cls=.type "list"/\o.dict=none/\o.data=.seq its n/\its.size<=sizeLine/\Vals xs its.toList
def JQ(K:PySem.W.Frag)(H:Hp)(a:Addr)(xs:List V):Prop:=
 Rd H a (.tup xs)\/
  ∃(o:Obj) (its:Array Value) (n:Nat),K.lookup a=some o/\o.cls=.type "tuple"/\o.data=.seq its n/\its.size<=sizeLine/\Vals xs its.toList
def Gr:Value->Option V
 |.none=>some .G0
 |.bool b=>some (.bl b)
 |.int i _=>some (.int i)
 |.str x _=>some (.str x)
 |.bytes b _=>some (.Rb b)
 |.float b _=>some (.Rc b)
 |.ref a=>some (.ref a)
 |.type n=>some (.ty n)
 |_=>none
def RelV.abs{x:V}{u:Value}(r:RelV x u):Gr u=some x:=by
 cases x with
 |G0=>cases r;rfl
 |bl _=>cases r;rfl
 |int _=>obtain⟨t,rfl⟩:=r;rfl
 |str _=>obtain⟨t,rfl⟩:=r;rfl
 |Rb _=>obtain⟨t,rfl⟩:=r;rfl
 |Rc _=>obtain⟨t,rfl⟩:=r;rfl
 |ref _=>cases r;rfl
 |ty _=>cases r;rfl
def RelV.inj{x y:V}{u:Value}(r:RelV x u)(q:RelV y u):x=y:=Option.some.inj (r.abs.symm.trans q.abs)
theorem Vals.inj:∀{xs ys:List V}{us:List Value},Vals xs us->Vals ys us->xs=ys
 |_,_,_,.nil,.nil=>rfl
 |_,_,_,.cons r t,.cons r' t'=>by rw[r.inj r',Vals.inj t t']
section
variable{X:Cx}{pins:List (Addr×Obj)}{σ:St}{H:Hp}{s:Shared}{a:Addr}{xs ys:List V}
def Jl.of{K:PySem.W.Frag}(h:H a=some (.lst xs)):Jl K H a xs:=.inl (.inl h)
def JQ.of{K:PySem.W.Frag}(h:H a=some (.tup xs)):JQ K H a xs:=.inl (.inl h)
def Inv.list(I:Inv X pins σ H s)(h:Jl X.K H a xs):∃its:List Value,Vals xs its/\PlainL s.heap a its.toArray/\xs.length<=sizeLine:=by
 rcases h with h|⟨o,its,n,hk,hc,hd,hs,hz,r⟩
 ·obtain⟨z,its,n,r,e⟩:=h.ok I.Hc;exact⟨its,r,⟨_,n,e,rfl,rfl,rfl⟩,z⟩
 ·refine⟨its.toList,r,⟨o,n,I.Ls a o hk,hc,hd,by simpa using hs⟩,?_⟩;have e:=r.length;simp only[length_toList] at e;omega
def Inv.tuple(I:Inv X pins σ H s)(h:JQ X.K H a xs):∃its:List Value,Vals xs its/\IsTup s.heap a its.toArray/\xs.length<=sizeLine:=by
 rcases h with h|⟨o,its,n,hk,hc,hs,hz,r⟩
 ·obtain⟨z,its,r,p⟩:=h.ok I.Hc;exact⟨its,r,p,z⟩
 ·refine⟨its.toList,r,⟨o,I.Ls a o hk,hc,n,by simpa using hs⟩,?_⟩;have e:=r.length;simp only[length_toList] at e;omega
def Inv.Nd(I:Inv X pins σ H s)(h:Jl X.K H a xs)(h':Jl X.K H a ys):xs=ys:=by
 obtain⟨its,r,⟨o,n,e,_,_,d⟩,_⟩:=I.list h;obtain⟨its',r',⟨o',n',e',_,_,d'⟩,_⟩:=I.list h';rw[e] at e';cases e';rw[d] at d'
 injection d' with d1 _
 have:its=its':=by simpa using congrArg toList d1
 subst this;exact r.inj r'
def Inv.MB(I:Inv X pins σ H s)(h:JQ X.K H a xs)(h':JQ X.K H a ys):xs=ys:=by
 obtain⟨its,r,⟨o,e,_,n,d⟩,_⟩:=I.tuple h;obtain⟨its',r',⟨o',e',_,n',d'⟩,_⟩:=I.tuple h';rw[e] at e';cases e';rw[d] at d'
 injection d' with d1 _
 have:its=its':=by simpa using congrArg toList d1
 subst this;exact r.inj r'
end
abbrev Cx.Hw(X:Cx)(E:Value->Shared->Prop):Cx:={ X with xe:=E }
def Cx.Ok.Hw{X:Cx}(ok:X.Ok)(E:Value->Shared->Prop):(X.Hw E).Ok:=
 ⟨ok.mod,ok.kind,ok.glob,ok.blt,ok.above,ok.inj,ok.has,ok.R6,ok.hd,ok.frames,ok.SH,ok.U0,ok.bs,ok.PN,ok.Ox,ok.OX,ok.K0,ok.QM⟩
def Cx.Ok.HN{X:Cx}{E:Value->Shared->Prop}(ok:(X.Hw E).Ok):X.Ok:=
 ⟨ok.mod,ok.kind,ok.glob,ok.blt,ok.above,ok.inj,ok.has,ok.R6,ok.hd,ok.frames,ok.SH,ok.U0,ok.bs,ok.PN,ok.Ox,ok.OX,ok.K0,ok.QM⟩
section
variable{X:Cx}{pins:List (Addr×Obj)}{σ:St}{H:Hp}{s:Shared}{E:Value->Shared->Prop}
def Inv.Hw(I:Inv X pins σ H s)(E:Value->Shared->Prop):Inv (X.Hw E) pins σ H s:=⟨I.ok.Hw E,I.os,I.bare,I.base,I.loc,I.cell,I.free,I.JN,I.pin,I.Hc,I.len⟩
def Inv.HN(I:Inv (X.Hw E) pins σ H s):Inv X pins σ H s:=⟨I.ok.HN,I.os,I.bare,I.base,I.loc,I.cell,I.free,I.JN,I.pin,I.Hc,I.len⟩
end
section
variable{X:Cx}{st:Stmt}{rest:List Stmt}{t u:TS}{e:Expr}{te:TE}{pos:Pos}
def Inv.quiet{pins:List (Addr×Obj)}{σ:St}{H:Hp}{s:Shared}(I:Inv X pins σ H s):interactive X.env=false:=by simp[interactive,I.ok.kind]
end
abbrev TG:=V->St->Hp->(St->Hp->Prop)->Prop
def PG(X:Cx)(target:Expr)(t:TG):Prop:=
 ∀(pins:List (Addr×Obj)) (s:Shared) (σ:St) (H:Hp) (v:V) (u:Value) (Q:St->Hp->Prop),Inv X pins σ H s->RelV v u->t v σ H Q->
  wpAny (model X.prog X.w) X.A (assign target X.env u) (fun _ s'=>∃HE H',Inv X pins HE H' s'/\Q HE H') X.xe s
abbrev Gj:=V->V->V->Hp->(Hp->Prop)->Prop
def Go(X:Cx)(t:Gj):Prop:=
 ∀(pins:List (Addr×Obj)) (s:Shared) (σ:St) (H:Hp) (o i v:V) (ov iv u:Value) (Q:Hp->Prop),Inv X pins σ H s->RelV o ov->RelV i iv->RelV v u->t o i v H Q->
  wpAny (model X.prog X.w) X.A (setItem ov iv u) (fun _ s'=>∃H',Inv X pins σ H' s'/\Q H') X.xe s
section
variable{X:Cx}{pos:Pos}
def Fp(i:Nat):TG:=fun v σ H Q=>Q (σ.set i (some v)) H
def CI{i:Nat}{x:Str}(hN:X.N.Nodup)(hi:X.N[i]?=some x)(hx:Loc X.env.scope x)(hf:X.fn x=true\/X.env.scope.names.lookup x=some .local:=by first|exact .inl rfl|exact .inr rfl|assumption):PG X (.Name x pos) (Fp i):=by
 intro pins s σ H v u Q I r h;exact wpAny_assign_Name (wR I hN hi hx r (fun s' I'=>⟨_,H,I',h⟩) hf)
end
structure It where
 go:Nat->Hp->Prop
 Yj:Nat->Hp->V->Hp->Prop
 stop:Nat->Hp->Prop
def Li(X:Cx)(pins:List (Addr×Obj))(H:Hp)(b:Addr):Prop:=
 H b=none/\b≠X.env.locals/\b∉X.fs/\(b∈X.ex\/X.I_.heap.objs.size<=b)/\(∀x c,X.env.cells.lookup x=some c->c≠b)/\∀p∈X.pn++pins,p.1≠b
def Inv.Oy{X:Cx}{pins:List (Addr×Obj)}{σ:St}{H H':Hp}{s:Shared}{b:Addr}(I:Inv X pins σ H s)(hb:s.heap.objs.size<=b)(hn:H' b=none):Li X pins H' b:=by
 refine⟨hn,Nat.ne_of_gt (Nat.lt_of_lt_of_le I.lt hb),I.U4 hb,.inr (Nat.le_trans I.sz hb),fun x c e z=>?_,fun p hp z=>?_⟩
 ·obtain⟨v,q⟩:=I.cell x c e;exact absurd (Nat.lt_of_lt_of_le q.lt (by rw[z];exact hb)) (Nat.lt_irrefl _)
 ·exact absurd (Nat.lt_of_lt_of_le (lt_size (I.pin p hp).1) (by rw[z];exact hb)) (Nat.lt_irrefl _)
structure Turn(P:Program)(w:World)(K:PySem.W.Frag)(tg:Expr)(J:It)(fp:List Addr)(it:Addr)(tn:Nat->Heap->Prop):Prop where
 mem:it∈fp
 obj:∀i h,tn i h->∀b∈fp,∃o,h.get? b=some o/\∀v,o.data≠.cell v
 keep:∀i h h',tn i h->(∀b∈fp,∀o,h.get? b=some o->h'.get? b=some o)->tn i h'
 item:∀(X:Cx),X.prog=P->X.w=w->X.K=K->X.calm=true->∀(i:Nat) (pins:List (Addr×Obj)) (s:Shared) (σ:St) (H:Hp) (E:Value->Shared->Prop),Inv X pins σ H s->(∀b∈fp,Li X pins H b)->tn i s.heap->J.go i H->
  wpAny (model P w) X.A (pyNext (.ref it)) (fun r s1=>∃u,r=some u/\
   wpAny (model P w) X.A (letOwnedTupleGo tg (.ref it) u) (fun _ s2=>∃x H',Inv X pins σ H' s2/\RelV x u/\J.Yj i H x H'/\tn (i+1) s2.heap/\∀b∈fp,H' b=none) E s1) E s
 done:∀(X:Cx),X.prog=P->X.w=w->X.K=K->X.calm=true->∀(i:Nat) (pins:List (Addr×Obj)) (s:Shared) (σ:St) (H:Hp) (E:Value->Shared->Prop),Inv X pins σ H s->(∀b∈fp,Li X pins H b)->tn i s.heap->J.stop i H->
  wpAny (model P w) X.A (pyNext (.ref it)) (fun r s1=>r=none/\Inv X pins σ H s1) E s
 self:∀(A:Around) (i:Nat) (s:Shared) (Q:Value->Shared->Prop) (E:Value->Shared->Prop),tn i s.heap->Q (.ref it) s->wpAny (model P w) A (pyIter (.ref it)) Q E s
def U9(X:Cx)(pins:List (Addr×Obj))(σ:St)(tg:Expr)(R:It->Hp->Prop)(Oz:Value)(s2:Shared):Prop:=
 ∃(it:Addr) (fp:List Addr) (tn:Nat->Heap->Prop) (J:It) (H':Hp),Oz=.ref it/\Inv X pins σ H' s2/\Turn X.prog X.w X.K tg J fp it tn/\tn 0 s2.heap/\(∀b∈fp,Li X pins H' b)/\R J H'
def B6{M:Model}{A:Around}{E:Value->Shared->Prop}{s:Shared}{tg:Expr}{it:Addr}{u:Value}{o:Obj}{n:String}{vs:Array Value}{Q:Unit->Shared->Prop}(ho:s.heap.get? it=some o)(hc:o.cls=.type n)(hd:o.data=.fields vs)
  (hn:["enumerate","zip","dict_itemiterator","dict_reverseitemiterator","odict_iterator","itertools.zip_longest","itertools.pairwise"].contains n=false) (hQ:Q () s):wpAny M A (letOwnedTupleGo tg (.ref it) u) Q E s:=by
 unfold letOwnedTupleGo;cases tg<;>first
  |exact wpAny_pure hQ
  |(cases u<;>first
    |exact wpAny_pure hQ
    |(refine wpAny_bind (wpAny_load ho ?_)
      rw[hc,hd];show wpAny M A (if (["enumerate","zip","dict_itemiterator","dict_reverseitemiterator","odict_iterator","itertools.zip_longest","itertools.pairwise"].contains n && vs[0]? == some (rawInt _))=true then _ else _) Q E s;rw[if_neg (by intro h;rw[hn,Bool.false_and] at h;cases h)];exact wpAny_pure hQ))
def U_(K:PySem.W.Frag)(a:Addr):It:=
 ⟨fun i H=>∃xs x,Jl K H a xs/\xs[i]?=some x,fun i H x H'=>H'=H/\∀xs,Jl K H a xs->xs[i]?=some x,fun i H=>∃xs,Jl K H a xs/\xs.length<=i⟩
def Yk(K:PySem.W.Frag)(a:Addr):It:=
 ⟨fun i H=>∃xs x,JQ K H a xs/\xs[i]?=some x,fun i H x H'=>H'=H/\∀xs,JQ K H a xs->xs[i]?=some x,fun i H=>∃xs,JQ K H a xs/\xs.length<=i⟩
def tY{P:Program}{w:World}{K:PySem.W.Frag}{tg:Expr}(a it:Addr):Turn P w K tg (U_ K a) [it] it (fun i h=>h.IsListIter it a i) where
 mem:=by simp
 obj:=fun i h st b hb=>by
  have e:b=it:=by simpa using hb
  subst e;obtain⟨o,e,c,d⟩:=st;exact⟨o,e,fun v z=>by rw[d] at z;cases z⟩
 keep:=fun i h h' st k=>st.at fun o e=>k it (by simp) o e
 item:=by
  intro X hP hw hK hc i pins s σ H E I hf st hg;subst hP hw hK;obtain⟨xs,x,hq,hx⟩:=hg;obtain⟨its,rv,p,hz⟩:=I.list hq;obtain⟨u,hu,ru⟩:=rv.get hx;obtain⟨f0,f1,f2,f3,f4,f5⟩:=hf it (by simp);refine wpAny_pyNext_list_item st p.isList (x:=u) (by simpa using hu) fun h' QP sb=>?_
  have I1:Inv X pins σ H { s with heap:=h' }:=I.turned (t':=s.toks) (fun b o hb e=>(sb.2 b hb).trans e) f0 f1 f3 f4 f5;obtain⟨o,e,c,d⟩:=id QP;exact⟨u,rfl,B6 (s:={ s with heap:=h' }) e c d (by decide) ⟨x,H,I1,ru,⟨rfl,fun ys hy=>by rw[I.Nd hy hq];exact hx⟩,QP,fun b hb=>(hf b hb).1⟩⟩
 done:=by
  intro X hP hw hK hc i pins s σ H E I hf st hg;subst hP hw hK;obtain⟨xs,hq,hx⟩:=hg;obtain⟨its,rv,p,hz⟩:=I.list hq;obtain⟨f0,f1,f2,f3,f4,f5⟩:=hf it (by simp);have hl:=rv.length;exact wpAny_pyNext_list_end (I.ok.hd hc) st p.isList (by simp;omega) fun h' eb=>⟨rfl,I.turned (t':=s.toks) (fun b o hb e=>eb b o hb e) f0 f1 f3 f4 f5⟩
 self:=fun _ _ _ _ _ st h=>wpAny_pyIter_listiter st h
def xp{P:Program}{w:World}{K:PySem.W.Frag}{tg:Expr}(a it:Addr):Turn P w K tg (Yk K a) [it] it (fun i h=>h.IsTupleIter it a i) where
 mem:=by simp
 obj:=fun i h st b hb=>by
  have e:b=it:=by simpa using hb
  subst e;obtain⟨o,e,c,d⟩:=st;exact⟨o,e,fun v z=>by rw[d] at z;cases z⟩
 keep:=fun i h h' st k=>st.at fun o e=>k it (by simp) o e
 item:=by
  intro X hP hw hK hc i pins s σ H E I hf st hg;subst hP hw hK;obtain⟨xs,x,hq,hx⟩:=hg;obtain⟨its,rv,p,hz⟩:=I.tuple hq;obtain⟨u,hu,ru⟩:=rv.get hx;obtain⟨f0,f1,f2,f3,f4,f5⟩:=hf it (by simp);refine wpAny_pyNext_tuple_item st (show s.heap.IsTuple a its.toArray from p) (x:=u) (by simpa using hu) fun h' QP sb=>?_
  have I1:Inv X pins σ H { s with heap:=h' }:=I.turned (t':=s.toks) (fun b o hb e=>(sb.2 b hb).trans e) f0 f1 f3 f4 f5;obtain⟨o,e,c,d⟩:=id QP;exact⟨u,rfl,B6 (s:={ s with heap:=h' }) e c d (by decide) ⟨x,H,I1,ru,⟨rfl,fun ys hy=>by rw[I.MB hy hq];exact hx⟩,QP,fun b hb=>(hf b hb).1⟩⟩
 done:=by
  intro X hP hw hK hc i pins s σ H E I hf st hg;subst hP hw hK;obtain⟨xs,hq,hx⟩:=hg;obtain⟨its,rv,p,hz⟩:=I.tuple hq;obtain⟨f0,f1,f2,f3,f4,f5⟩:=hf it (by simp);have hl:=rv.length;exact wpAny_pyNext_tuple_end (I.ok.hd hc) st (show s.heap.IsTuple a its.toArray from p) (by simp;omega) fun h' eb=>⟨rfl,I.turned (t':=s.toks) (fun b o hb e=>eb b o hb e) f0 f1 f3 f4 f5⟩
 self:=fun _ _ _ _ _ st h=>wpAny_pyIter_tupleiter st h
section
variable{X:Cx}{tg:Expr}
def oO(fp:List Addr)(h:Heap):List (Addr×Obj):=fp.filterMap fun b=>(h.get? b).map fun o=>(b,o)
def j7{fp:List Addr}{h:Heap}{b:Addr}{o:Obj}(hb:b∈fp)(e:h.get? b=some o):(b,o)∈oO fp h:=List.mem_filterMap.mpr ⟨b,hb,by rw[e];rfl⟩
def zI{fp:List Addr}{h:Heap}{p:Addr×Obj}(hp:p∈oO fp h):p.1∈fp/\h.get? p.1=some p.2:=by
 obtain⟨b,hb,e⟩:=List.mem_filterMap.mp hp;cases q:h.get? b with
 |none=>rw[q] at e;cases e
 |some o=>
  rw[q] at e;have e':(b,o)=p:=Option.some.inj e;subst e';exact⟨hb,q⟩
def Inv.pinned{pins:List (Addr×Obj)}{σ:St}{H:Hp}{s:Shared}{fp:List Addr}(I:Inv X pins σ H s)(hf:∀b∈fp,Li X pins H b)(ho:∀b∈fp,∃o,s.heap.get? b=some o/\∀v,o.data≠.cell v):Inv X (pins++oO fp s.heap) σ H s:=
 I.MI fun p hp=>(List.mem_append.mp hp).elim (fun z=>I.pin p (mem_append_right _ z)) fun z=>by
  obtain⟨hb,e⟩:=zI z;obtain⟨f0,f1,f2,_⟩:=hf p.1 hb;obtain⟨o,e',d⟩:=ho p.1 hb;rw[e] at e';cases e';exact⟨e,f0,f1,f2,d⟩
def Inv.KI{pins pl:List (Addr×Obj)}{σ:St}{H:Hp}{s:Shared}(I:Inv X (pins++pl) σ H s):Inv X pins σ H s:=I.MI fun p hp=>I.pin p (mem_append_right _ (mem_append_left _ hp))
end
abbrev R2:=V->V->Hp->VK->Prop
def MJ(X:Cx)(f:Value->Value->Sem Value)(r:R2):Prop:=
 ∀(pins:List (Addr×Obj)) (s:Shared) (σ:St) (H:Hp) (x y:V) (v u:Value) (Q:VK),Inv X pins σ H s->RelV x v->RelV y u->r x y H Q->
  wpAny (model X.prog X.w) X.A (f v u) (EP X pins σ Q) X.xe s
def Va(X:Cx)(f:Value->Sem Value)(r:V->Hp->VK->Prop):Prop:=
 ∀(pins:List (Addr×Obj)) (s:Shared) (σ:St) (H:Hp) (x:V) (v:Value) (Q:VK),Inv X pins σ H s->RelV x v->r x H Q->
  wpAny (model X.prog X.w) X.A (f v) (EP X pins σ Q) X.xe s
def rW(X:Cx)(f:Value)(r:List V->Hp->VK->Prop):Prop:=
 ∀(pins:List (Addr×Obj)) (s:Shared) (σ:St) (H:Hp) (xs:List V) (us:List Value) (Q:VK),Inv X pins σ H s->Vals xs us->r xs H Q->
  wpAny (model X.prog X.w) X.A (call f us) (EP X pins σ Q) X.xe s
def Gm(X:Cx)(r:V->Hp->(Bool->Hp->Prop)->Prop):Prop:=
 ∀(pins:List (Addr×Obj)) (s:Shared) (σ:St) (H:Hp) (x:V) (v:Value) (Q:Bool->Hp->Prop),Inv X pins σ H s->RelV x v->r x H Q->
  wpAny (model X.prog X.w) X.A (truthy v) (TP X pins σ Q) X.xe s
def rI(C:Int->Int->Prop)(g:Int->Int->V):R2:=fun x y H Q=>∃i j,x=.int i/\y=.int j/\C i j/\Q (g i j) H
def R7(g:Int->Int->V):R2:=fun x y H Q=>∃i j,x=.int i/\y=.int j/\Q (g i j) H
def rU(g:Int->V):V->Hp->VK->Prop:=fun x H Q=>∃i,x=.int i/\Q (g i) H
section
variable{X:Cx}{a b c:Expr}{ta tb tc:TE}{pos:Pos}
def Uk{f:Value->Value->Sem Value}{C:Int->Int->Prop}{g:Int->Int->Int}
  (rule:∀(i j:Int) (t u:Tok) (s:Shared) (Q:Value->Shared->Prop) (E:Value->Shared->Prop),C i j->Q (.int (g i j) s.toks) { s with toks:=s.toks+1 }->wpAny (model X.prog X.w) X.A (f (.int i t) (.int j u)) Q E s) :
  MJ X f (rI C fun i j=>.int (g i j)):=by
 intro pins s σ H x y v u Q I rx ry h;obtain⟨i,j,rfl,rfl,hc,q⟩:=h;obtain⟨t,rfl⟩:=rx;obtain⟨t',rfl⟩:=ry;exact rule i j t t' s _ _ hc ⟨.int (g i j),H,I.tok _,⟨_,rfl⟩,q⟩
def CO{f:Value->Value->Sem Value}{g:Int->Int->Bool}
  (rule:∀(i j:Int) (t u:Tok) (s:Shared) (Q:Value->Shared->Prop) (E:Value->Shared->Prop),Q (.bool (g i j)) s->wpAny (model X.prog X.w) X.A (f (.int i t) (.int j u)) Q E s) :
  MJ X f (R7 fun i j=>.bl (g i j)):=by
 intro pins s σ H x y v u Q I rx ry h;obtain⟨i,j,rfl,rfl,q⟩:=h;obtain⟨t,rfl⟩:=rx;obtain⟨t',rfl⟩:=ry;exact rule i j t t' s _ _ ⟨.bl (g i j),H,I,rfl,q⟩
def Eg(i j:Int):Prop:=0<j/\j<1073741824
def OA(i j:Int):Prop:=(-(2 ^ 64)<i/\i<2 ^ 64)\/(-(2 ^ 64)<j/\j<2 ^ 64)
def OA.ok{i j:Int}(h:OA i j):IntMulOk i j:=by
 rcases h with ⟨h1,h2⟩|⟨h1,h2⟩
 ·exact .of_left (intBits_le_64 h1 h2)
 ·exact .of_right (intBits_le_64 h1 h2)
def Rh:MJ X (binaryOp .Mult) (rI OA fun i j=>.int (i * j)):=Uk fun _ _ _ _ _ _ _ hc q=>mul_int q hc.ok
def CF:MJ X (binaryOp .FloorDiv) (rI Eg fun i j=>.int (i / j)):=Uk fun i j _ _ _ _ _ hc q=>by
 have h1:(0:Int)<j:=hc.1;have h2:j<1073741824:=hc.2;exact floordiv_int (by omega) (by rw[Int.fdiv_eq_ediv_of_nonneg i (by omega)];exact q) (.inl (PyProof.noPylong_small (by omega)))
def E4:MJ X (binaryOp .Mod) (rI (fun _ j=>0<j) fun i j=>.int (i % j)):=Uk fun i j _ _ _ _ _ hc q=>by
 have h1:(0:Int)<j:=hc;exact mod_int' (by omega) (by rw[Int.fmod_eq_emod_of_nonneg i (by omega)];exact q)
def Z0{f:Value->Sem Value}{g:Int->Int}
  (rule:∀(i:Int) (t:Tok) (s:Shared) (Q:Value->Shared->Prop) (E:Value->Shared->Prop),Q (.int (g i) s.toks) { s with toks:=s.toks+1 }->wpAny (model X.prog X.w) X.A (f (.int i t)) Q E s) :
  Va X f (rU fun i=>.int (g i)):=by
 intro pins s σ H x v Q I rx h;obtain⟨i,rfl,q⟩:=h;obtain⟨t,rfl⟩:=rx;exact rule i t s _ _ ⟨.int (g i),H,I.tok _,⟨_,rfl⟩,q⟩
def EK:Va X (unaryOp .USub) (rU fun i=>.int (-i)):=Z0 fun _ _ _ _ _ q=>neg_int q
def FI:MJ X (compareOp .Lt) (R7 fun i j=>.bl (decide (i<j))):=CO fun _ _ _ _ _ _ _ q=>lt_int q
def FW:MJ X (compareOp .LtE) (R7 fun i j=>.bl (decide (i<=j))):=CO fun _ _ _ _ _ _ _ q=>le_int q
def Fz:MJ X (compareOp .Gt) (R7 fun i j=>.bl (decide (j<i))):=CO fun _ _ _ _ _ _ _ q=>gt_int q
def Ft:MJ X (compareOp .GtE) (R7 fun i j=>.bl (decide (j<=i))):=CO fun _ _ _ _ _ _ _ q=>ge_int q
def MJ.or{f:Value->Value->Sem Value}{r r':R2}(h:MJ X f r)(h':MJ X f r'):MJ X f (fun x y H Q=>r x y H Q\/r' x y H Q):=by
 intro pins s σ H x y v u Q I rx ry q;rcases q with q|q
 ·exact h pins s σ H x y v u Q I rx ry q
 ·exact h' pins s σ H x y v u Q I rx ry q
def aJ(b:Expr){op:CmpOp}(h:op≠.In:=by decide)(h2:op≠.NotIn:=by decide):behindInMarks op b=false:=by
 have e1:(op == CmpOp.In)=false:=by cases op<;>first|rfl|exact absurd rfl h
 have e2:(op == CmpOp.NotIn)=false:=by cases op<;>first|rfl|exact absurd rfl h2
 cases b<;>simp[behindInMarks,e1,e2]
def FG(K:PySem.W.Frag)(x:V)(H:Hp)(k:Bool):Prop:=
 match x with
 |.G0=>k=false
 |.bl b=>k=b
 |.int i=>k=(i != 0)
 |.str y=>y.length<=sizeLine/\k=((y.length:Int) != 0)
 |.Rb y=>y.size<=sizeLine/\k=((y.size:Int) != 0)
 |.ref p=>(∃xs,Jl K H p xs/\k = !xs.isEmpty)\/(∃xs,JQ K H p xs/\k = !xs.isEmpty)\/∃kvs,H p=some (.dK kvs)/\k = !kvs.isEmpty
 |_=>False
def xN{κ:Type}{kvs:List (κ×V)}{vs:List (κ×Value)}(r:KV kvs vs):(!vs.isEmpty) = !kvs.isEmpty:=by
 cases r<;>rfl
def rE{xs:List V}{its:List Value}(r:Vals xs its):(!its.toArray.isEmpty) = !xs.isEmpty:=by
 cases r<;>simp
def mX:(sizeLine:Nat)<2 ^ 63:=by rw[sizeLine_eq];decide
def Ed:Gm X (fun x H Q=>∃k,FG X.K x H k/\Q k H):=by
 intro pins s σ H x v Q I rx h;obtain⟨k,e,q⟩:=h;have hl:=mX;have hs:sizeLine=16777216:=sizeLine_eq;cases x with
 |G0=>
  cases rx;have e':k=false:=e;subst e';exact truthy_none ⟨H,I,q⟩
 |bl b=>
  cases rx;have e':k=b:=e;subst e';exact wpAny_truthy_bool ⟨H,I,q⟩
 |int i=>
  obtain⟨t,rfl⟩:=rx;have e':k=(i != 0):=e;subst e';exact PySem.P.truthy_int ⟨H,I,q⟩
 |str y=>
  obtain⟨t,rfl⟩:=rx;obtain⟨hy,e'⟩:y.length<=sizeLine/\k=((y.length:Int) != 0):=e;subst e';exact PySem.P.truthy_str (by omega) ⟨H,I.tok _,q⟩
 |Rb y=>
  obtain⟨t,rfl⟩:=rx;obtain⟨hy,e'⟩:y.size<=sizeLine/\k=((y.size:Int) != 0):=e;subst e';exact PySem.W.truthy_bytes (by omega) ⟨H,I.tok _,q⟩
 |ref p=>
  cases rx;have e':(∃xs,Jl X.K H p xs/\k = !xs.isEmpty)\/(∃xs,JQ X.K H p xs/\k = !xs.isEmpty)\/∃kvs,H p=some (.dK kvs)/\k = !kvs.isEmpty:=e;rcases e' with ⟨xs,hx,e'⟩|⟨xs,hx,e'⟩|⟨kvs,hx,e'⟩
  ·subst e';obtain⟨its,r,pl,hz⟩:=I.list hx;have hlen:=r.length;exact wpAny_truthy_list pl.isList (by simp only[size_toArray];omega) ⟨H,I.tok _,by rw[rE r];exact q⟩
  ·subst e';obtain⟨its,r,pl,hz⟩:=I.tuple hx;have hlen:=r.length;exact truthy_tuple pl (by simp only[size_toArray];omega) ⟨H,I.tok _,by rw[rE r];exact q⟩
  ·subst e';obtain⟨hz,hS,vs,r,m⟩:kvs.length<=sizeLine/\(p == sysModules)=false/\∃vs,KV kvs vs/\s.heap.DictOf (cO X.prog X.w) p vs:=I.Hc p _ hx;have hlen:kvs.length=vs.length:=Paired.length r;exact wpAny_truthy_dict hS m (by omega) ⟨H,I.tok _,by rw[xN r];exact q⟩
 |_=>exact(show False from e).elim
def vX{x:V}{us:List Value}(r:Vals [x] us):∃u,us=[u]/\RelV x u:=by
 cases r with
 |cons r1 r2=>cases r2;exact⟨_,rfl,r1⟩
def DX{x y:V}{us:List Value}(r:Vals [x,y] us):∃u w',us=[u,w']/\RelV x u/\RelV y w':=by
 cases r with
 |cons r1 r2=>
  cases r2 with
  |cons r3 r4=>cases r4;exact⟨_,_,rfl,r1,r3⟩
def zY(hc:X.calm=true):rW X (.builtin "max") (fun xs H Q=>∃i j,xs=[.int i,.int j]/\Q (.int (if j > i then j else i)) H):=by
 intro pins s σ H xs us Q I r h;obtain⟨i,j,rfl,q⟩:=h;obtain⟨u,w',rfl,⟨t,rfl⟩,⟨t',rfl⟩⟩:=DX r;refine max_two_ints (I.ok.hd hc) fun h' tk k=>⟨_,H,I.kept k,?_,q⟩
 by_cases hj:j > i
 ·rw[if_pos hj,if_pos hj];exact⟨_,rfl⟩
 ·rw[if_neg hj,if_neg hj];exact⟨_,rfl⟩
def z5(hc:X.calm=true):rW X (.builtin "min") (fun xs H Q=>∃i j,xs=[.int i,.int j]/\Q (.int (if j<i then j else i)) H):=by
 intro pins s σ H xs us Q I r h;obtain⟨i,j,rfl,q⟩:=h;obtain⟨u,w',rfl,⟨t,rfl⟩,⟨t',rfl⟩⟩:=DX r;refine min_two_ints (I.ok.hd hc) fun h' tk k=>⟨_,H,I.kept k,?_,q⟩
 by_cases hj:j<i
 ·rw[if_pos hj,if_pos hj];exact⟨_,rfl⟩
 ·rw[if_neg hj,if_neg hj];exact⟨_,rfl⟩
def Ac:rW X (.type "int") (fun xs H Q=>(∃i,xs=[.int i]/\Q (.int i) H)\/∃k,xs=[.bl k]/\Q (.int (if k then 1 else 0)) H):=by
 intro pins s σ H xs us Q I r h;rcases h with ⟨i,rfl,q⟩|⟨k,rfl,q⟩
 ·obtain⟨u,rfl,t,rfl⟩:=vX r;exact call_int_int ⟨.int i,H,I,⟨_,rfl⟩,q⟩
 ·obtain⟨u,rfl,r1⟩:=vX r;cases r1;exact call_int_bool ⟨.int (if k then 1 else 0),H,I.tok _,⟨_,rfl⟩,q⟩
end
structure NL(h:Heap)(x dx C:Addr)(mA:Str->Option Value):Prop where
 obj:h.get? x=some (instObj C dx)
 ns:h.Ns1 dx mA
 ne:dx≠x
def Av{h:Heap}{dx:Addr}{mA:Str->Option Value}(n:h.Ns1 dx mA):∃od,h.get? dx=some od/\∀name,lookIn name od=some (mA name):=by
 obtain⟨o,es,ep,ho,hd,hk,_,hm⟩:=n;refine⟨o,ho,fun name=>?_⟩;have e:=hm name;unfold nsFind findBy at e;rw[<-Array.find?_toList] at e;unfold lookIn;rw[hd];dsimp only;split
 ·rename_i y q;rw[q] at e;exact congrArg some e
 ·rename_i q;rw[q] at e;have a:es.toList.any (·.refKey)=false:=by
   rw[List.any_eq_false];intro y hy;obtain⟨z,t,Vb⟩:=hk y (Array.mem_toList_iff.mp hy);simp[DictEntry.refKey,Vb]
  have a':¬es.toList.any (·.refKey)=true:=by rw[a];exact Bool.false_ne_true
  rw[if_neg a'];exact congrArg some e
def NL.look{h:Heap}{x dx C:Addr}{mA:Str->Option Value}(I:NL h x dx C mA):∃od,PySem.W.InstAt h x (instObj C dx) C (some od)/\∀name,lookIn name od=some (mA name):=
 let ⟨od,ho,hl⟩:=Av I.ns
 ⟨od,⟨I.obj,rfl,rfl,ho⟩,hl⟩
section
variable{prog:Program}{w:World}{A:Around}{E:Value->Shared->Prop}{s:Shared}{K:PySem.W.Frag}{x dx C f:Addr}{mA:Str->Option Value}{name:Str}{v:Value}
def Cn{expr:Bool}{Q:Value->Shared->Prop}(X:K.In s.heap)(I:NL s.heap x dx C mA)(hg:plainGet K C name=true)(hh:hasDictIn K C=true)
  (ha:findIn K (.ref C) name=some none) (hv:mA name=some v) (Vc:handedIn v=true) (h:Q v { s with toks:=s.toks+1 }) :
  wpAny (model prog w) A (getAttr (.ref x) name expr) Q E s:=by
 obtain⟨od,J,hl⟩:=I.look;exact PySem.W.get_value X J (plainGet_of hg).1 (PySem.W.findObj_own hh ha rfl (by rw[hl,hv])) Vc h
def BG{pl:Sem Bool}{Q:Value×List Value->Shared->Prop}(X:K.In s.heap)(I:NL s.heap x dx C mA)(hg:plainGet K C name=true)
  (hf:findIn K (.ref C) name=some (some (.ref f))) (ht:isFn K (.ref f)=true) (hv:mA name=none) (h:Q (.ref f,[.ref x]) s) :
  wpAny (model prog w) A (getMethod (.ref x) name pl) Q E s:=by
 obtain⟨od,J,hl⟩:=I.look;exact PySem.W.method_fn X J (plainGet_of hg).1 (plainGet_of hg).2 hf (beq_iff_eq.mp ht) (by show(lookIn name od).map (·.isSome)=some false;rw[hl,hv];rfl) h
def Cq{ns:List Str}{Q:Unit->Shared->Prop}(X:K.In s.heap)(I:NL s.heap x dx C mA)
  (hs:findIn K (.ref C) "__setattr__"=some (some (.builtin "object.__setattr__"))) (hp:plainOver K C=true) (ht:takerIn K C name=some none) (hh:hasDictIn K C=true)
  (hw:PySem.Within mA ns) (hsz:ns.length<=sizeLine)
  (h:∀h',NL h' x dx C (fun y=>if y=name then some v else mA y)->SameBut dx s.heap h'->Q () { s with heap:=h',toks:=s.toks+2 }) :
  wpAny (model prog w) A (setAttr (.ref x) name v) Q E s:=by
 obtain⟨od,J,hl⟩:=I.look;refine PySem.W.set_plain X J hs (PySem.W.osa_open (s:={ s with toks:=s.toks+1 }) (r:=none) X J hp ht fun b=>?_);obtain⟨cd,hc,L1⟩:=PySem.W.any_some hh;have hx:s.heap.get? x=some ⟨.ref C,some dx,.plain,#[]⟩:=I.obj;refine wpAny_bind (wpAny_pure (wpAny_bind (wpAny_bind (wpAny_loadPart hx (wpAny_bind (PySem.W.Looks.here (s:={ s with toks:=s.toks+1 }) (PySem.W.looks_clsIn X hc) ?_))))));rw[L1];refine wpAny_pure (a:=some dx) (wpAny_bind (wpAny_pure (wpAny_bind ?_)));refine wpAny_nsSet1 (s:={ s with toks:=s.toks+1 }) I.ns fun h' R8 Lj=>?_
 obtain⟨oD,esD,epD,Z1,Z2,Z3⟩:=R8.count (PySem.Within.cons name v hw);refine wpAny_bind (wpAny_lookBehind Z1 (by rw[Z2];exact pastItsLine_dict (Nat.le_trans Z3 (by rw[length_cons];omega))) ?_);exact wpAny_pure (h _ ⟨(Lj.2 _ (Ne.symm I.ne)).trans I.obj,R8,I.ne⟩ Lj)
def AT{R:Result->Shared->Prop}{vs:List Value}{kw:List (Str×Value)}(X:K.In s.heap)(hm:makesIn K C=true)
  (hi:findIn K (.ref C) "__init__"=some (some (.ref f))) (hf:PySem.W.typeIn K (.ref f)=some (.type "function"))
  (h:codeAny (model prog w) (A.under (.builtin "type.__call__" ⟨.ref C :: vs,kw⟩)) (.call (.ref f) ⟨.ref (s.heap.objs.size+1) :: vs,kw⟩) (PySem.W.InitBack (s.heap.objs.size+1) R)
   { s with heap:=(s.heap.push emptyDict).push (instObj C s.heap.objs.size) }) :
  codeAny (model prog w) A (.call (.ref C) ⟨vs,kw⟩) R s:=by
 obtain⟨hh,g,d,t,os⟩:=s;exact PySem.W.make_core (PySem.W.makes_of X hm) (PySem.W.looks_findIn X hi) (fun self=>PySem.W.bind_fn X self hf) (.inl rfl) h
end
def ig(f:Str)(v:V):List (Str×V)->List (Str×V)
 |[]=>[(f,v)]
 |(g,x) :: r=>if g=f then (g,v) :: r else (g,x) :: ig f v r
theorem o5(f g:Str)(v:V):∀fs:List (Str×V),(ig f v fs).lookup g=if g=f then some v else fs.lookup g
 |[]=>by
  show List.lookup g [(f,v)]=_;by_cases h:g=f
  ·have hb:(g == f)=true:=beq_iff_eq.mpr h;simp only[List.lookup,hb,if_pos h]
  ·have hb:(g == f)=false:=beq_eq_false_iff_ne.mpr h;simp only[List.lookup,hb,if_neg h]
 |(k,x) :: r=>by
  have ih:=o5 f g v r;rw[show ig f v ((k,x) :: r)=(if k=f then (k,v) :: r else (k,x) :: ig f v r) from rfl];by_cases hk:k=f
  ·rw[if_pos hk];by_cases h:g=k
   ·have hb:(g == k)=true:=beq_iff_eq.mpr h;simp only[List.lookup,hb,if_pos (h.trans hk)]
   ·have hb:(g == k)=false:=beq_eq_false_iff_ne.mpr h;simp only[List.lookup,hb,if_neg (fun e:g=f=>h (e.trans hk.symm))]
  ·rw[if_neg hk];by_cases h:g=k
   ·have hb:(g == k)=true:=beq_iff_eq.mpr h;simp only[List.lookup,hb,if_neg (fun e:g=f=>hk (h.symm.trans e))]
   ·have hb:(g == k)=false:=beq_eq_false_iff_ne.mpr h;simp only[List.lookup,hb];exact ih
theorem om(f:Str)(v:V):∀fs:List (Str×V),f∈(ig f v fs).map (·.1)/\∀g,g∈fs.map (·.1)->g∈(ig f v fs).map (·.1)
 |[]=>⟨by simp[ig],fun g h=>by simp at h⟩
 |(k,x) :: r=>by
  obtain⟨i1,i2⟩:=om f v r;rw[show ig f v ((k,x) :: r)=(if k=f then (k,v) :: r else (k,x) :: ig f v r) from rfl];by_cases hk:k=f
  ·rw[if_pos hk];subst hk;exact⟨by simp,fun g h=>by simpa using h⟩
  ·rw[if_neg hk];refine⟨?_,fun g h=>?_⟩
   ·rw[map_cons];exact mem_cons_of_mem _ i1
   ·rw[map_cons] at h ⊢;rcases List.mem_cons.mp h with e|e
    ·exact List.mem_cons.mpr (.inl e)
    ·exact mem_cons_of_mem _ (i2 g e)
theorem px(f:Str)(v:V):∀fs:List (Str×V),(ig f v fs).length<=fs.length+1
 |[]=>by simp[ig]
 |(k,x) :: r=>by
  have ih:=px f v r;rw[show ig f v ((k,x) :: r)=(if k=f then (k,v) :: r else (k,x) :: ig f v r) from rfl];by_cases hk:k=f
  ·rw[if_pos hk,length_cons,length_cons];omega
  ·rw[if_neg hk,length_cons,length_cons];omega
def JV.some_of{v:V}{o:Option Value}(r:JV (some v) o):∃u,o=some u/\RelV v u:=by
 cases o with
 |none=>exact(show False from r).elim
 |some u=>exact⟨u,rfl,r⟩
def JV.none_of{o:Option Value}(r:JV none o):o=none:=by
 cases o with
 |none=>rfl
 |some u=>exact(show False from r).elim
def Ag{v:V}{u:Value}(r:RelV v u):handedIn u=true:=by
 cases v with
 |G0=>cases(show u=Value.none from r);rfl
 |bl b=>cases(show u=Value.bool b from r);rfl
 |int i=>obtain⟨t,e⟩:=(show ∃t,u=Value.int i t from r);cases e;rfl
 |str x=>obtain⟨t,e⟩:=(show ∃t,u=Value.str x t from r);cases e;rfl
 |Rb b=>obtain⟨t,e⟩:=(show ∃t,u=bytes b t from r);cases e;rfl
 |Rc b=>obtain⟨t,e⟩:=(show ∃t,u=float b t from r);cases e;rfl
 |ref a=>cases(show u=Value.ref a from r);rfl
 |ty n=>cases(show u=type n from r);rfl
section
variable{P:Program}{w:World}{H H':Hp}{h h':Heap}{a C dx:Addr}{fs UX:List (Str×V)}
def ul(Hc:Jb P w H h)(e:H a=some (.ins C dx fs)):∃mA,NL h a dx C mA/\(∀f,JV (fs.lookup f) (mA f))/\PySem.Within mA (fs.map (·.1))/\fs.length<=1000/\H dx=some (.own a):=by
 obtain⟨d,z,ne,ob,mA,n,r,q⟩:=(show HG P w H h a (.ins C dx fs) from Hc a _ e);exact⟨mA,⟨ob,n,ne⟩,r,q,z,d⟩
end
structure Nf(K:PySem.W.Frag)(C:Addr):Prop where
 pg:plainGet K C Str.empty=true
 hd:hasDictIn K C=true
 po:plainOver K C=true
 sa:findIn K (.ref C) "__setattr__"=some (some (.builtin "object.__setattr__"))
def Nf.get{K:PySem.W.Frag}{C:Addr}(c:Nf K C)(f:Str):plainGet K C f=true:=c.pg
def Hm(K:PySem.W.Frag)(C:Addr)(f:Str):Prop:=findIn K (.ref C) f=some none
def Hm.SO{K:PySem.W.Frag}{C:Addr}{f:Str}(n:Hm K C f):takerIn K C f=some none:=by
 unfold takerIn;rw[show findIn K (.ref C) f=some none from n];rfl
structure Meth(K:PySem.W.Frag)(C:Addr)(m:Str)(f:Addr):Prop where
 at_:findIn K (.ref C) m=some (some (.ref f))
 fn:isFn K (.ref f)=true
 kp:keepIn K (.ref f)=true
section
variable{X:Cx}{pins:List (Addr×Obj)}{σ:St}{H:Hp}{s:Shared}{a C dx:Addr}{fs:List (Str×V)}{f:Str}{v:V}{A:Around}{E:Value->Shared->Prop}
def qB{b:Bool}{Q:Value->Shared->Prop}(I:Inv X pins σ H s)(e:H a=some (.ins C dx fs))(c:Nf X.K C)(n:Hm X.K C f)(l:fs.lookup f=some v)
  (h:∀u s',Inv X pins σ H s'->RelV v u->Q u s'):wpAny (model X.prog X.w) A (getAttr (.ref a) f b) Q E s:=by
 obtain⟨mA,O,r,_,_,_⟩:=ul I.Hc e;obtain⟨u,hu,ru⟩:=JV.some_of (v:=v) (o:=mA f) (by rw[<-l];exact r f);exact Cn I.Ls O (c.get f) c.hd n hu (Ag ru) (h u _ (I.tok _) ru)
def rj{m:Str}{g:Addr}{pl:Sem Bool}{Q:Value×List Value->Shared->Prop}(I:Inv X pins σ H s)(e:H a=some (.ins C dx fs))(c:Nf X.K C)(k:Meth X.K C m g)(l:fs.lookup m=none)
  (h:Q (.ref g,[.ref a]) s):wpAny (model X.prog X.w) A (getMethod (.ref a) m pl) Q E s:=by
 obtain⟨mA,O,r,_,_,_⟩:=ul I.Hc e;have hn:mA m=none:=JV.none_of (by rw[<-l];exact r m);exact BG I.Ls O (c.get m) k.at_ k.fn hn h
def qK{y:V}{u:Value}{Q:Unit->Shared->Prop}(I:Inv X pins σ H s)(e:H a=some (.ins C dx fs))(c:Nf X.K C)(n:Hm X.K C f)(hl:fs.length<1000)(ry:RelV y u)
  (h:∀s',Inv X pins σ (upd H a (.ins C dx (ig f y fs))) s'->Q () s'):wpAny (model X.prog X.w) A (setAttr (.ref a) f u) Q E s:=by
 obtain⟨mA,O,r,wi,_,ho⟩:=ul I.Hc e;have hz:(fs.map (·.1)).length<=sizeLine:=by rw[length_map,sizeLine_eq];omega
 refine Cq I.Ls O c.sa c.po n.SO c.hd wi hz fun h' O' sb=>h _ ?_
 have hd:∃o,h'.get? dx=some o:=let ⟨o,_,_,e',_⟩:=O'.ns;⟨o,e'⟩
 refine I.write (x:=a) (e:=dx) (by rw[e];exact True.intro) (.inr ho) (fun b q hb z=>(sb.2 b hb).trans z) hd ?_;refine⟨by rw[bg O.ne];exact ho,?_,O.ne,O'.obj,_,O'.ns,fun g=>?_,fun g hg=>?_⟩
 ·have:=px f y fs;omega
 ·show JV ((ig f y fs).lookup g) (if g=f then some u else mA g);rw[o5];by_cases q:g=f
  ·rw[if_pos q,if_pos q];exact ry
  ·rw[if_neg q,if_neg q];exact r g
 ·by_cases q:g=f
  ·rw[q];exact(om f y fs).1
  ·refine(om f y fs).2 g (wi g fun z=>hg ?_);show(if g=f then some u else mA g)=none;rw[if_neg q];exact z
def Inv.made(I:Inv X pins σ H s):Inv X pins σ (upd (upd H s.heap.objs.size (.own (s.heap.objs.size+1))) (s.heap.objs.size+1) (.ins C s.heap.objs.size []))
  { s with heap:=(s.heap.push emptyDict).push (instObj C s.heap.objs.size) }:=by
 have e1:(s.heap.push emptyDict).get? s.heap.objs.size=some emptyDict:=get?_push_size s.heap rfl;have e2:((s.heap.push emptyDict).push (instObj C s.heap.objs.size)).get? (s.heap.objs.size+1)=some (instObj C s.heap.objs.size):=by
  have:=get?_push_size (s.heap.push emptyDict) (o:=instObj C s.heap.objs.size) rfl;rwa[size_push] at this
 have e3:(s.heap.push emptyDict).Ns s.heap.objs.size (fun _=>none):=⟨emptyDict,#[],_,e1,rfl,(fun e he=>absurd he (by simp)),fun _=>rfl⟩;have I1:=I.laid (a:=s.heap.objs.size) (o:=.own (s.heap.objs.size+1)) (h':=s.heap.push emptyDict) (t':=s.toks) (fun b u q=>get?_push_of_some _ q) (Nat.le_refl _) ⟨_,e1⟩;refine I1.laid (a:=s.heap.objs.size+1) (o:=.ins C s.heap.objs.size []) (t':=s.toks) (fun b u q=>get?_push_of_some _ q) (Nat.le_of_eq (size_push _ _)) ?_;have ne:s.heap.objs.size≠s.heap.objs.size+1:=ne_of_lt (lt_succ_self _);refine⟨by rw[bg ne,bC],zero_le _,ne,e2,fun _=>none,(Heap.Ns1.of_empty e3).at fun o q=>get?_push_of_some _ q,fun _=>True.intro,fun y hy=>absurd rfl hy⟩
def Cz{prog:Program}{w:World}{env:Env}{e:Expr}{f:Str}{pos:Pos}{s:Shared}{Q:Value->Shared->Prop}(hb:attributeBase e f env (eval e env)=eval e env)
  (h:wpAny (model prog w) A (eval e env) (fun o Ho=>wpAny (model prog w) A (getAttr o f true) Q E Ho) E s):wpAny (model prog w) A (eval (.Attribute e f pos) env) Q E s:=
 Attribute_any_ h (by rw[arm_eval_Attribute,hb])
end
def kt(K:PySem.W.Frag)(ta tv:TE)(f:Str):TS:=fun D σ H=>tv σ H fun y H1=>ta σ H1 fun x H2=>∃a C dx fs,x=.ref a/\H2 a=some (.ins C dx fs)/\Nf K C/\Hm K C f/\fs.length<1000/\
 D.nx σ (upd H2 a (.ins C dx (ig f y fs)))
section
variable{X:Cx}{o e value:Expr}{f:Str}{pos pos' Lv:Pos}{ta tv:TE}
end
section
variable{X:Cx}{pins:List (Addr×Obj)}{σ:St}{H:Hp}{s:Shared}{A:Around}{E:Value->Shared->Prop}{Q:Value->Shared->Prop}{c:Value}{b:Bool}
inductive Lx(K:PySem.W.Frag)(H:Hp):V->Value->Prop where
 |G0:Lx K H .G0 (.type "NoneType")
 |bl (x:Bool):Lx K H (.bl x) (.type "bool")
 |int (i:Int):Lx K H (.int i) (.type "int")
 |str (x:Str):Lx K H (.str x) (.type "str")
 |Rc (x:UInt64):Lx K H (.Rc x) (.type "float")
 |lst {a:Addr}{xs:List V}(e:H a=some (.lst xs)):Lx K H (.ref a) (.type "list")
 |NK {a:Addr}{o:Obj}{xs:List V}(e:H a=some (.NK o (.lst xs))):Lx K H (.ref a) (.type "list")
 |tup {a:Addr}{xs:List V}(e:H a=some (.tup xs)):Lx K H (.ref a) (.type "tuple")
 |dK {a:Addr}{kvs:List (Key×V)}(e:H a=some (.dK kvs)):Lx K H (.ref a) (.type "dict")
 |dT {a:Addr}{kvs:List (List Key×V)}(e:H a=some (.dT kvs)):Lx K H (.ref a) (.type "dict")
 |ins {a C dx:Addr}{fs:List (Str×V)}(e:H a=some (.ins C dx fs)) (cl:Nf K C) (ha:findIn K (.ref C) "__class__"=some (some (.builtin "object.__class__")))
   (hn:PySem.W.specialIn K (.builtin "object.__class__") "__get__"=some (some (.builtin "getset_descriptor.__get__"))) (Yl:PySem.W.takesIn K (.builtin "object.__class__")=some true)
   (hm:PySem.W.mroIn K C (.type "object")=some true):Lx K H (.ref a) (.ref C)
end
structure IL(k:Nat)(A:Around):Prop where
 hd:A.handled=none
 dp:A.depth+3 * k+5<recursionLimit
 un:A.units+16 * k+200<cLine
def IL.mono{j k:Nat}{A:Around}(r:IL k A)(h:j<=k):IL j A:=⟨r.hd,by have:=r.dp;omega,by have:=r.un;omega⟩
def IL.deeper{k:Nat}{A:Around}(r:IL (k+1) A)(env:Env):IL k (A.deeper env):=
 ⟨r.hd,by have:=r.dp;show A.depth+1+3 * k+5<_;omega,by have:=r.un;show A.units+3+16 * k+200<_;omega⟩
def xj{A:Around}{C:Addr}{us:List Value}{kw:List (Str×Value)}:(A.under (.builtin "type.__call__" ⟨.ref C :: us,kw⟩)).depth=A.depth+1:=by
 first|rfl|simp[Around.under,Code.weight,Code.isCreation,Code.isGuard,Code.isCaller,Code.frames,Code.isFrame,guardIds]
def xC{A:Around}{C:Addr}{us:List Value}{kw:List (Str×Value)}:(A.under (.builtin "type.__call__" ⟨.ref C :: us,kw⟩)).units=A.units+1:=by
 first|rfl|simp[Around.under,Code.cUnits,Code.frames,Code.isFrame]
def IL.make{k:Nat}{A:Around}(r:IL (k+1) A)(C:Addr)(us:List Value)(kw:List (Str×Value)):IL k (A.under (.builtin "type.__call__" ⟨.ref C :: us,kw⟩)):=
 ⟨r.hd,by have:=r.dp;rw[xj];omega,by have:=r.un;rw[xC];omega⟩
def IL.depth{k:Nat}{A:Around}(r:IL k A):A.depth<recursionLimit:=by have:=r.dp;omega
def IL.units{k:Nat}{A:Around}(r:IL k A):A.units+64<cLine:=by have:=r.un;omega
section
variable{X:Cx}{e:Expr}{es:List Expr}{te:TE}{t:TA}{pos:Pos}
end
abbrev Sp:=List V->Hp->VK->XK->Prop
abbrev Lk:=List Env->Hp->Shared->XK->Value->Shared->Prop
structure NM(P:Program)(w:World)(K:PySem.W.Frag)(mg:Str->Option Value)(base:Heap)(A:Around)(outer:List Env)(s:Shared)(H:Hp):Prop where
 frames:A.frames=some outer
 mod:Mod K mg base
 bs:∀b o,base.get? b=some o->s.heap.get? b=some o/\H b=none
 PN:base.objs.size<=s.heap.objs.size
 K0:s.heap.FunFrames base outer
 QM:∀b∈NB outer,H b=none
 Hc:Jb P w H s.heap
 bare:AllBare s.gens
def CE(outer:List Env)(P:Program)(w:World)(H:Hp)(s:Shared)(Q:VK)(u:Value)(s':Shared):Prop:=
 ∃v H',s'.os=s.os/\AllBare s'.gens/\Un (NB outer) [] H H' s.heap s'.heap/\Jb P w H' s'.heap/\RelV v u/\Q v H'
def CR(CX:Lk)(outer:List Env)(P:Program)(w:World)(H:Hp)(s:Shared)(Q:VK)(E:XK)(r:Result)(s':Shared):Prop:=
 match r with
 |.ok (.ret u)=>CE outer P w H s Q u s'
 |.ok _=>False
 |.error e=>CX outer H s E e s'
structure L3(P:Program)(w:World)(K:PySem.W.Frag)(mg:Str->Option Value)(base:Heap)(CX:Lk)(k:Nat)(f:Addr)(fd:FuncData)(ps:List Str)(sp:Sp):Prop where
 len:∀vs H Q E,sp vs H Q E->vs.length=ps.length
 run:∀(A:Around) (outer:List Env) (s:Shared) (H:Hp) (args:Args) (us:List Value) (vs:List V) (Q:VK) (E:XK),IL k A->NM P w K mg base A outer s H->BindsTo s fd args (ps.zip us)->Vals vs us->sp vs H Q E->
  codeAny (model P w) A (.call (.ref f) args) (CR CX outer P w H s Q E) s
def L3.imp{P:Program}{w:World}{K:PySem.W.Frag}{mg:Str->Option Value}{base:Heap}{CX:Lk}{k:Nat}{f:Addr}{fd:FuncData}{ps:List Str}{sp Ym:Sp}(F:L3 P w K mg base CX k f fd ps sp)
  (h:∀vs H Q E,Ym vs H Q E->sp vs H Q E):L3 P w K mg base CX k f fd ps Ym:=
 ⟨fun vs H Q E q=>F.len vs H Q E (h _ _ _ _ q),fun A outer s H args us vs Q E hr he hb hv hs=>F.run A outer s H args us vs Q E hr he hb hv (h _ _ _ _ hs)⟩
def NM.make{P:Program}{w:World}{K:PySem.W.Frag}{mg:Str->Option Value}{base:Heap}{A:Around}{outer:List Env}{s:Shared}{H:Hp}(e:NM P w K mg base A outer s H)(C:Addr)(us:List Value)(kw:List (Str×Value)) :
  NM P w K mg base (A.under (.builtin "type.__call__" ⟨.ref C :: us,kw⟩)) outer s H:=⟨by first|exact e.frames|(simpa[Around.under,Code.envs,Code.isFrame,pushEnvs] using e.frames),e.mod,e.bs,e.PN,e.K0,e.QM,e.Hc,e.bare⟩
section
variable{X:Cx}{pins:List (Addr×Obj)}{σ:St}{H:Hp}{s s':Shared}
def Inv.SQ(I:Inv X pins σ H s):NM X.prog X.w X.K X.mg X.base X.A X.stack s H:=
 ⟨I.ok.frames,I.ok.mod,I.bs,Nat.le_trans I.ok.PN I.sz,I.stack,I.MH,I.Hc,I.bare⟩
def Inv.after{Q:VK}{u:Value}(I:Inv X pins σ H s)(h:CE X.stack X.prog X.w H s Q u s'):EP X pins σ Q u s':=by
 obtain⟨v,H',os,bare,un,Hc,r,q⟩:=h;obtain⟨hh,g,d,t,Vd⟩:=s';obtain rfl:Vd=s.os:=os;exact⟨v,H',I.call (h':=hh) (g':=g) (d':=d) (t':=t) (ch:=[]) un Hc bare (fun b z=>absurd z (by simp)),r,q⟩
end
def Binds(K:PySem.W.Frag)(fd:FuncData)(ps:List Str)(ds:List Value):Prop:=
 ∀(s:Shared) (us:List Value),K.In s.heap->(us++ds).length=ps.length->BindsTo s fd ⟨us,[]⟩ (ps.zip (us++ds))
def Binds.all{K:PySem.W.Frag}{fd:FuncData}{ps:List Str}(h:∀us:List Value,us.length=ps.length->bindArgs fd ⟨us,[]⟩=pure (ps.zip us)):Binds K fd ps []:=fun s us _ hl=>by
 rw[append_nil] at hl ⊢;exact .of_eq (h us hl)
section
variable{X:Cx}{CX:Lk}{k:Nat}{f C:Addr}{fd:FuncData}{ps:List Str}{sp:Sp}{dvs:List V}{ds:List Value}{E:XK}{x m:Str}{p pos apos:Pos}{e o:Expr}{es:List Expr}{ta:TE}{t:TA}
structure Mk(K:PySem.W.Frag)(C f:Addr):Prop where
 makes:makesIn K C=true
 init:findIn K (.ref C) "__init__"=some (some (.ref f))
 fn:isFn K (.ref f)=true
 kp:keepIn K (.ref C)=true
end
section
variable{X:Cx}{CX:Lk}{k:Nat}{f C:Addr}{fd:FuncData}{ps ks:List Str}{sp:Sp}{E:XK}{x m:Str}{p pos apos Z4:Pos}{e o:Expr}{es:List Expr}{kws:List Keyword}{te ta:TE}{t tk:TA}{nm:Option Str}
variable{g:List Value->List Value->List Value}{gV:List V->List V->List V}
end
structure n_(N P:List Str)(sc:Scope):Prop where
 kind:sc.kind=.function
 co:sc.isCoroutine=false
 gen:sc.isGenerator=false
 nd:N.Nodup
 pre:N.take P.length=P
 par:∀x∈P,sc.names.lookup x=some .local\/sc.names.lookup x=some .cell
 Ri:∀y∈sc.names,y.2≠.free
theorem tE{kindOf:Str->Option NameKind}{x:Str}:∀{binds:List (Str×Value)}{m:Str->Option Value},(∀v,(x,v)∉binds)->bindL kindOf binds m x=m x
 |[],_,_=>rfl
 |(n,v) :: r,m,h=>by
  unfold bindL;rw[tE fun w hw=>h w (mem_cons_of_mem _ hw)];split
  ·have:x≠n:=by rintro rfl;exact h v mem_cons_self
   simp[this]
  ·rfl
theorem ue{kindOf:Str->Option NameKind}{x:Str}:∀{binds:List (Str×Value)}{m:Str->Option Value},(∀v,(x,v)∉binds)->bindC kindOf binds m x=m x
 |[],_,_=>rfl
 |(n,v) :: r,m,h=>by
  unfold bindC;rw[ue fun w hw=>h w (mem_cons_of_mem _ hw)];split
  ·rfl
  ·have:x≠n:=by rintro rfl;exact h v mem_cons_self
   simp[this]
theorem tP{kindOf:Str->Option NameKind}{x:Str}{v:Value}:∀{P:List Str}{vs:List Value}{i:Nat}{m:Str->Option Value},P.Nodup->P[i]?=some x->vs[i]?=some v->kindOf x=some .local->
  bindL kindOf (P.zip vs) m x=some v
 |[],_,_,_,_,h,_,_=>by simp at h
 |_ :: _,[],_,_,_,_,h,_=>by simp at h
 |p :: P,w :: vs,0,m,nd,h1,h2,hk=>by
  simp at h1 h2;subst h1;subst h2;show bindL kindOf ((p,w) :: P.zip vs) m p=_;unfold bindL;rw[tE fun v hv=>(List.nodup_cons.mp nd).1 (of_mem_zip hv).1,if_pos hk];simp
 |p :: P,w :: vs,i+1,m,nd,h1,h2,hk=>by
  show bindL kindOf ((p,w) :: P.zip vs) m x=_;unfold bindL;exact tP (i:=i) (List.nodup_cons.mp nd).2 (by simpa using h1) (by simpa using h2) hk
theorem tI{kindOf:Str->Option NameKind}{x:Str}{v:Value}:∀{P:List Str}{vs:List Value}{i:Nat}{m:Str->Option Value},P.Nodup->P[i]?=some x->vs[i]?=some v->kindOf x≠some .local->
  bindC kindOf (P.zip vs) m x=some v
 |[],_,_,_,_,h,_,_=>by simp at h
 |_ :: _,[],_,_,_,_,h,_=>by simp at h
 |p :: P,w :: vs,0,m,nd,h1,h2,hk=>by
  simp at h1 h2;subst h1;subst h2;show bindC kindOf ((p,w) :: P.zip vs) m p=_;unfold bindC;rw[ue fun v hv=>(List.nodup_cons.mp nd).1 (of_mem_zip hv).1,if_neg hk];simp
 |p :: P,w :: vs,i+1,m,nd,h1,h2,hk=>by
  show bindC kindOf ((p,w) :: P.zip vs) m x=_;unfold bindC;exact tI (i:=i) (List.nodup_cons.mp nd).2 (by simpa using h1) (by simpa using h2) hk
def start(N:List Str)(vs:List V):St:=vs.map some++replicate (N.length-vs.length) none
def qc(CX:Lk)(P:Program)(w:World)(K:PySem.W.Frag)(mg:Str->Option Value)(base:Heap)(N:List Str)(qual:Str)(scope:Scope)(f:Addr)(cd:Value)(A:Around)(outer:List Env)(s:Shared)(H:Hp)(E:XK):Cx where
 prog:=P
 w:=w
 K:=K
 mg:=mg
 base:=base
 A:=A.deeper (envOfC qual scope s.heap.objs.size f cd)
 N:=N
 I_:=s
 OW:=H
 env:=envOfC qual scope s.heap.objs.size f cd
 outer:=outer
 stack:=envOfC qual scope s.heap.objs.size f cd :: outer
 ex:=[]
 calm:=true
 fn:=fun _=>true
 pn:=[]
 xe:=fun e s'=>wpAny (model P w) (A.deeper (envOfC qual scope s.heap.objs.size f cd)) (leaving (envOfC qual scope s.heap.objs.size f cd) e) (fun _ P0=>CX outer H s E e P0) (fun e' P0=>CX outer H s E e' P0) s'
def wt{sc:Scope}{n:Nat}{x:Str}(h:sc.names.lookup x=some .cell):∃c,(cellsFrom n sc.names []).lookup x=some c:=by
 have q:=PySem.W.cellsFrom_some sc.names n [] (.inl h);exact Option.isSome_iff_exists.mp q
def zK{CX:Lk}{P:Program}{w:World}{K:PySem.W.Frag}{mg:Str->Option Value}{base:Heap}{N ps:List Str}{qual:Str}{scope:Scope}{f:Addr}{cd:Value}{A:Around}{outer:List Env}{s s1:Shared}{H:Hp}{E:XK}{us:List Value}{vs:List V}
  (S:n_ N ps scope) (hd:A.handled=none) (e0:NM P w K mg base A outer s H) (hl:vs.length=ps.length) (r:Vals vs us)
  (x:InCallC s s.heap.objs.size (bindL (envOfC qual scope s.heap.objs.size f cd).kindOf (ps.zip us) fun _=>none) (cellsFrom (s.heap.objs.size+1) scope.names []) (bindC (envOfC qual scope s.heap.objs.size f cd).kindOf (ps.zip us) fun _=>none) s1) :
  Inv (qc CX P w K mg base N qual scope f cd A outer s H E) [] (start N vs) H s1:=by
 have Ng:ps.length<=N.length:=by have:=congrArg List.length S.pre;rw[length_take] at this;omega
 obtain⟨h1,tk,rfl,hk⟩:=x.done;have SR:∀b:Addr,b∉(qc CX P w K mg base N qual scope f cd A outer s H E).ex:=fun b z=>absurd (show b∈([]:List Addr) from z) (by simp)
 refine⟨⟨e0.mod,S.kind,rfl,rfl,Nat.le_refl _,fun y z c h1 h2=>?_,fun y hy=>?_,fun y c _ h=>?_,fun _=>hd,Around.frames_deeper e0.frames,.inr ⟨rfl,rfl⟩,fun b z=>absurd z (SR b),e0.bs,e0.PN,fun b _ _=>SR b,fun b z=>absurd z (SR b),e0.K0,e0.QM⟩,
  rfl,e0.bare,Un.kept hk,⟨_,x.toInCall.ns,fun i y v h1 h2 h3=>?_⟩,fun y c h=>⟨_,x.cell y c h⟩,e0.Hc.fresh (Nat.le_refl _),fun y c h=>?_,fun p hp=>absurd (show p∈([]:List (Addr×Obj)) from hp) (by simp),e0.Hc.kept hk,?_⟩
 ·exact name_of_addr x.apart (PySem.mem_of_lookup h1) (PySem.mem_of_lookup h2)
 ·have hy:scope.names.lookup y=some .cell\/scope.names.lookup y=some .free:=hy;rcases hy with hy|hy
  ·exact wt hy
  ·exact absurd rfl (S.Ri _ (PySem.mem_of_lookup hy))
 ·exact Nat.le_of_lt (x.above y c (PySem.mem_of_lookup h))
 ·have hi:i<vs.length:=by
   unfold start at h2;by_cases hi:i<vs.length
   ·exact hi
   ·rw[getElem?_append_right (by simpa using hi)] at h2;rw[getElem?_replicate] at h2;split at h2<;>cases h2
  have ha:vs[i]?=some v:=by
   unfold start at h2;rw[getElem?_append_left (by simpa using hi),getElem?_map] at h2;cases e:vs[i]? with
   |none=>rw[e] at h2;cases h2
   |some a=>rw[e] at h2;cases h2;rfl
  obtain⟨u,hu,rv⟩:=r.get ha;have hp:ps[i]?=some y:=by
   rw[<-S.pre,List.getElem?_take_of_lt (by omega)];exact h1
  have Yn:ps.Nodup:=by rw[<-S.pre];exact S.nd.sublist (List.take_sublist _ _)
  refine⟨u,rv,?_⟩;rcases S.par y (mem_of_getElem? hp) with k|k
  ·exact .inl ⟨k,tP Yn hp hu k⟩
  ·obtain⟨c,e⟩:=wt (n:=s.heap.objs.size+1) k;refine .inr ⟨.inl k,c,e,?_⟩;have q:=x.cell y c e;rw[tI Yn hp hu (by show scope.names.lookup y≠_;rw[k];decide)] at q;exact q
 ·exact e0.Hc.fresh (Nat.le_of_lt (x.above y c (PySem.mem_of_lookup h)))
 ·unfold start;show _=N.length;rw[length_append,length_map,length_replicate];omega
def FV{CX:Lk}{P:Program}{w:World}{K:PySem.W.Frag}{mg:Str->Option Value}{base:Heap}{k:Nat}{f:Addr}{name qual:Str}{params:Arguments}{body:List Stmt}{scope:Scope}{dV kV doc pm Hb ct oc:Value}{an od:Option Addr}
  {OZ:Array (Option Value)}{N ps:List Str}{sp:Sp}(lk:K.lookup f=some ⟨oc,od,.func (fnOf name qual params body scope dV kV doc pm an Hb ct),OZ⟩) (N_:codeIn K Hb qual=true) (S:n_ N ps scope)
  (len:∀vs H Q E,sp vs H Q E->vs.length=ps.length)
  (O0:∀(A:Around) (outer:List Env) (s:Shared) (H:Hp) (vs:List V) (Q:VK) (E:XK),IL k (A.deeper (envOfC qual scope s.heap.objs.size f Hb))->sp vs H Q E->
   ∃t,ZZ (qc CX P w K mg base N qual scope f Hb A outer s H E) body t/\t { nx:=fun _ H'=>Q .G0 H',rt:=Q } (start N vs) H) :
  L3 P w K mg base CX (k+1) f (fnOf name qual params body scope dV kV doc pm an Hb ct) ps sp:=by
 refine⟨len,fun A outer s H args us vs Q E hr e0 hb r QQ=>?_⟩;have hl:=len _ _ _ _ QQ;have KX:K.In s.heap:=e0.mod.R5.keeps fun b o e=>(e0.bs b o e).1
 have lim:s.heap.NoLimit:=e0.mod.nolimit.keeps fun b o e=>(e0.bs b o e).1
 have SS:∀y∈ps.zip us,scope.names.lookup y.1=some .local\/(scope.names.lookup y.1=some .cell/\((cellsFrom (s.heap.objs.size+1) scope.names []).lookup y.1).isSome=true):=fun ⟨n,v⟩ hy=>by
  rcases S.par n (of_mem_zip hy).1 with q|q
  ·exact .inl q
  ·exact .inr ⟨q,PySem.W.cellsFrom_some _ _ _ (.inl q)⟩
 refine codeAny_call_function hr.depth (KX _ _ lk) rfl S.co S.gen rfl (PySem.W.codeRec_of KX N_) (hb _ _ _ _ ?_);refine wpAny_newFunctionEnv_cells S.kind SS fun env he s1 x=>?_
 subst he;refine⟨lim.keeps x.toInCall.keep,codeAny_func ?_⟩;obtain⟨t,ht,hq⟩:=O0 A outer s H vs Q E (hr.deeper _) QQ;have I:Inv (qc CX P w K mg base N qual scope f Hb A outer s H E) [] (start N vs) H s1:=zK S hr.hd e0 hl r x;refine wpAny_mono (ht [] s1 (start N vs) H _ I hq) (fun fl s' hs=>?_) fun e s' hs=>hs
 have fin:∀{HE:St}{H':Hp}{v:V}{u:Value},Inv (qc CX P w K mg base N qual scope f Hb A outer s H E) [] HE H' s'->RelV v u->Q v H'->CE outer P w H s Q u s':=
  fun {HE H' v u} J rv q=>⟨v,H',J.os,J.bare,J.base,J.Hc,rv,q⟩
 cases fl with
 |ret u=>
  obtain⟨v,HE,H',J,rv,q⟩:=hs;exact fin J rv q
 |next=>
  obtain⟨HE,H',J,q⟩:=hs;exact fin (v:=V.G0) (u:=Value.none) J rfl q
 |brk=>
  obtain⟨_,_,_,q⟩:=hs;exact False.elim q
 |cont=>
  obtain⟨_,_,_,q⟩:=hs;exact False.elim q
section
variable{X:Cx}{x:Str}{p pos:Pos}{e:Expr}{es:List Expr}{t:TA}{id T:String}{r:List V->Hp->VK->Prop}
end
end L2
namespace HT
open PySem PyProof.Rows
section
open PySem.SeqAt
open PySem.AutoSeq1 (wpAny_loadPart')
open PySem.MeetsSeq PySem.MeetsSeq2 PySem.MeetsSeq3
end
section
variable{prog:Program}{w:World}{A:Around}{E:Value->Shared->Prop}{s:Shared}
def P1{t b:Addr}{vs ws:List Value}{Q:Value->Shared->Prop}(ht:IsTup s.heap t vs.toArray)(hb:IsTup s.heap b ws.toArray)(hv:vs≠[])
  (h1:ws=[]->Q (.ref t) s) (h2:ws≠[]->Q (.ref s.heap.objs.size) { s with heap:=s.heap.push { cls:=.type "tuple",data:=.seq (vs++ws).toArray } })
  (hsz:vs.length+ws.length<=sizeLine):wpAny (model prog w) A (binaryOp .Add (.ref t) (.ref b)) Q E s:=by
 obtain⟨⟨cls,dd,data,sl⟩,ho,hc,n,hd⟩:=id ht;obtain⟨⟨SU,R9,data2,R_⟩,OB,QR,n2,hd2⟩:=id hb;simp only at hc hd QR hd2;subst hc hd QR hd2;have e:vs.toArray++ws.toArray=(vs++ws).toArray:=by simp
 by_cases hw:ws=[]
 ·exact concat_meets ⟨_,ho,rfl⟩ ⟨_,OB,rfl⟩ noFill_tuple_add seq_tuple_add slot_tuple_add entry_tuple_add (args_tuple_add_2 _ _)
   (tuple_addW1 t b vs.toArray ws.toArray n n2 dd R9 sl R_ (by simpa using hv) (by simp[hw])) ⟨ho,OB,h1 hw⟩
 ·refine concat_meets ⟨_,ho,rfl⟩ ⟨_,OB,rfl⟩ noFill_tuple_add seq_tuple_add slot_tuple_add entry_tuple_add (args_tuple_add_2 _ _)
   (tuple_addW2 t b vs.toArray ws.toArray n n2 dd R9 sl R_ (by simpa using hv) (by simpa using hw) (by rw[size_toArray,size_toArray];exact hsz)) ⟨ho,OB,?_⟩
  rw[e];exact h2 hw
def Ik(n d:Nat):Option Int->Nat
 |none=>d
 |some v=>if v<0 then (v+(n:Int)).toNat else min v.toNat n
def KJ(n d:Nat):Ik n d none=d:=rfl
def JF(n d k:Nat):Ik n d (some (k:Int))=min k n:=by
 show(if (k:Int)<0 then ((k:Int)+(n:Int)).toNat else min (k:Int).toNat n)=min k n;rw[if_neg (by omega),toNat_natCast]
def Eh(n d:Nat)(hd:d<=n)(o:Option Int):Ik n d o<=n:=by
 cases o with
 |none=>exact hd
 |some v=>
  show(if v<0 then (v+(n:Int)).toNat else min v.toNat n)<=n;by_cases hv:v<0
  ·rw[if_pos hv];omega
  ·rw[if_neg hv];exact Nat.min_le_right _ _
def yw(v:Int)(n d:Nat):(if v<0 then max (v+(n:Int)) 0 else min v (n:Int))=((Ik n d (some v):Nat):Int):=by
 show(if v<0 then max (v+(n:Int)) 0 else min v (n:Int))=(((if v<0 then (v+(n:Int)).toNat else min v.toNat n):Nat):Int);by_cases hv:v<0
 ·simp only[if_pos hv];omega
 ·simp only[if_neg hv];omega
def yf(lo hi:Option Int)(n:Nat):sliceAdjust lo hi 1 (n:Int)=(((Ik n 0 lo:Nat):Int),((Ik n n hi:Nat):Int)):=by
 have h1:¬((1:Int)<0):=by omega
 unfold sliceAdjust;simp only[h1,if_false];refine Prod.ext ?_ ?_
 ·cases lo with
  |none=>rfl
  |some v=>exact yw v n 0
 ·cases hi with
  |none=>rfl
  |some v=>exact yw v n n
def xM(i j:Nat):slicePlaces (i:Int) (j:Int) 1=j-i:=by
 unfold slicePlaces;have h1:(1:Int) > 0:=by omega
 simp only[h1,if_true,Int.ediv_one];split<;>omega
def q7{v:Value}{o:Option Int}{Q:Option Int->Shared->Prop}(p:IsPart v o)(h:Q o s):wpAny (model prog w) A (Builtin.Slice.slicePartIndex v) Q E s:=by
 cases p with
 |none=>exact slicePart_none h
 |int i t=>exact slicePart_int h
def Jz{sl:Addr}{vl vu:Value}{lo hi:Option Int}{n:Nat}{Q:Int×Int×Nat->Shared->Prop}(hs:s.heap.IsSliceOf sl vl vu .none)(pl:IsPart vl lo)(pu:IsPart vu hi)
  (h:Q (((Ik n 0 lo:Nat):Int),1,Ik n n hi-Ik n 0 lo) s):wpAny (model prog w) A (sliceApplied (.ref sl) (pure (n:Int))) Q E s:=by
 obtain⟨os,Rj,NC,Rk⟩:=id hs;unfold sliceApplied Builtin.Slice.sliceFields;refine wpAny_bind (wpAny_bind (wpAny_field Rj Rk (x:=vl) rfl (wpAny_bind (wpAny_field Rj Rk (x:=vu) rfl (wpAny_bind (wpAny_field Rj Rk (x:=.none) rfl (wpAny_pure ?_)))))));refine wpAny_bind (slicePart_none ?_);show wpAny _ _ (if ((1:Int) == 0)=true then _ else _) _ _ s;rw[if_neg (by decide)];refine wpAny_bind (q7 pl (wpAny_bind (q7 pu (wpAny_bind (wpAny_pure ?_)))));show wpAny _ _ (match sliceAdjust lo hi 1 (n:Int) with|(lo,hi)=>pure (lo,(1:Int),slicePlaces lo hi 1)) _ _ s;rw[yf lo hi n];show wpAny _ _ (pure (((Ik n 0 lo:Nat):Int),(1:Int),slicePlaces ((Ik n 0 lo:Nat):Int) ((Ik n n hi:Nat):Int) 1)) _ _ s;rw[xM];exact wpAny_pure h
def Bj(xs:Array Value)(i k:Nat):((range k).filterMap fun(m:Nat)=>xs[((i:Int)+(m:Int) * 1).toNat]?).toArray=((xs.toList.drop i).take k).toArray:=by
 have e:(fun(m:Nat)=>xs[((i:Int)+(m:Int) * 1).toNat]?)=fun m=>xs[i+m]?:=by
  funext m;have:((i:Int)+(m:Int) * 1).toNat=i+m:=by omega
  rw[this]
 rw[e];have:=pick_run xs i k;rw[List.filterMap_map] at this;have e2:((fun x=>xs[x]?) ∘ fun x=>i+x)=fun m=>xs[i+m]?:=rfl
 rw[e2] at this;rw[this]
def KL{t sl:Addr}{items:Array Value}{vl vu:Value}{lo hi:Option Int}{Q:Value->Shared->Prop}(ht:IsTup s.heap t items)(hs:s.heap.IsSliceOf sl vl vu .none)(pl:IsPart vl lo)(pu:IsPart vu hi)
  (hw:¬(Ik items.size 0 lo=0/\Ik items.size items.size hi=items.size))
  (h:Q (.ref s.heap.objs.size) { s with heap:=s.heap.push { cls:=.type "tuple",data:=.seq ((items.toList.drop (Ik items.size 0 lo)).take (Ik items.size items.size hi-Ik items.size 0 lo)).toArray } })
  (hsz:items.size<=sizeLine):wpAny (model prog w) A (getItem (.ref t) (.ref sl)) Q E s:=by
 have Oa:sizeOk (.seq ((items.toList.drop (Ik items.size 0 lo)).take (Ik items.size items.size hi-Ik items.size 0 lo)).toArray):=by
  show((items.toList.drop (Ik items.size 0 lo)).take (Ik items.size items.size hi-Ik items.size 0 lo)).toArray.size<=sizeLine;rw[size_toArray,length_take,length_drop,length_toList];omega
 have hj:Ik items.size items.size hi<=items.size:=Eh _ _ (Nat.le_refl _) hi;obtain⟨os,Rj,NC,Rk⟩:=id hs;have Ve:s.TypeIs (.ref sl) "slice":=⟨os,Rj,NC⟩;unfold getItem
 try with_reducible refine wpAny_holding ?_
 first|refine wpAny_bind (wpAny_pure ?_)|skip
 refine wpAny_bind (wpAny_sequenceKey ht.typeIs (by decide) ?_);refine wpAny_bind (wpAny_callSpecial?_slot (name:=Str.ofString "__getitem__") ht.typeIs PyProof.Rows.slot_tuple_getitem
  (wpAny_call_entry PyProof.Rows.slot_tuple_getitem ht.typeIs entry_tuple_getitem ?_ (args_tuple_getitem _ _)))
 show wpAny _ _ (Builtin.Tuple.tupleItemsOf (.ref t) >>= _) _ _ s;refine wpAny_bind (tupleItemsOf_ ht ?_);refine wpAny_bind (wpAny_typeOf Ve ?_);rw[if_pos (by decide)];refine wpAny_bind (Jz hs pl pu ?_);have Ob:¬((((Ik items.size 0 lo:Nat):Int) == 0 && (1:Int) == 1 && (Ik items.size items.size hi-Ik items.size 0 lo) == items.size)=true):=by
  intro q;rw[and_eq_true,and_eq_true] at q;have q1:((Ik items.size 0 lo:Nat):Int)=0:=eq_of_beq q.1.1;have q2:Ik items.size items.size hi-Ik items.size 0 lo=items.size:=eq_of_beq q.2;exact hw ⟨by omega,by omega⟩
 show wpAny _ _ (if (((Ik items.size 0 lo:Nat):Int) == 0 && (1:Int) == 1 && (Ik items.size items.size hi-Ik items.size 0 lo) == items.size)=true then _ else _) _ _ s;rw[if_neg Ob,Bj]
 first
  |exact wpAny_bind (m:=Builtin.Tuple.tupleExact _) (wpAny_newObj_type (wpAny_pure ⟨_,rfl,wpAny_pure h⟩) Oa)
  |exact wpAny_bind (m:=Builtin.Tuple.tupleExact _) (wpAny_newObj_type (wpAny_bind (wpAny_pure (wpAny_pure ⟨_,rfl,wpAny_pure h⟩))) Oa)
  |exact wpAny_bind (wpAny_bind (m:=Builtin.Tuple.tupleExact _) (wpAny_newObj_type (wpAny_pure (wpAny_pure ⟨_,rfl,wpAny_pure h⟩)) Oa))
  |exact wpAny_bind (wpAny_bind (m:=Builtin.Tuple.tupleExact _) (wpAny_newObj_type (wpAny_pure ⟨_,rfl,wpAny_pure h⟩) Oa))
end
end HT
namespace L2
open PySem PySem.Spec PyProof.Rows
def xK{ns:List Int}:∀{us:List Value},Vals (ns.map V.int) us->IntsAre us ns:=by
 induction ns with
 |nil=>intro us r;rw[map_nil] at r;cases r;exact .nil
 |cons n ns ih=>
  intro us r;rw[map_cons] at r;cases r with
  |cons r1 r2=>
   obtain⟨t,e⟩:=r1;subst e;exact .cons n t (ih r2)
section
variable{X:Cx}{e:Expr}{te:TE}{lo hi:Option Expr}{tl th:TO}{pos p2:Pos}
def Z5(X:Cx)(r:V->Option Int->Option Int->Hp->VK->Prop):Prop:=
 ∀(pins:List (Addr×Obj)) (s:Shared) (σ:St) (H:Hp) (x:V) (v vl vu:Value) (lo hi:Option Int) (sl:Addr) (Q:VK),Inv X pins σ H s->RelV x v->s.heap.IsSliceOf sl vl vu .none->IsPart vl lo->IsPart vu hi->r x lo hi H Q->
  ∃T id,typeLookup (.type T) "__getitem__"=pure (some (.builtin id))/\s.TypeIs v T/\wpAny (model X.prog X.w) X.A (getItem v (.ref sl)) (EP X pins σ Q) X.xe s
def xv(xs:List V)(lo hi:Option Int):List V:=(xs.drop (HT.Ik xs.length 0 lo)).take (HT.Ik xs.length xs.length hi-HT.Ik xs.length 0 lo)
def o9(xs:List V)(lo hi:Option Int):(xv xs lo hi).length<=xs.length:=by
 unfold xv;rw[length_take,length_drop];omega
def Vals.KN{xs:List V}{us:List Value}(r:Vals xs us):us=[]↔xs=[]:=by
 cases r with
 |nil=>simp
 |cons _ _=>simp
end
def Oc(n:Nat)(i:Int):Option Nat:=if 0<=i then (if i<n then some i.toNat else none) else if -(n:Int)<=i then some (i+n).toNat else none
def M7{α:Type}(xs:List α)(i:Int):Option α:=(Oc xs.length i).bind fun j=>xs[j]?
def yj{n:Nat}{i:Int}{j:Nat}(h:Oc n i=some j):seqIndex? i n=some j/\j<n/\-(n:Int)<=i/\i<n:=by
 unfold Oc at h;by_cases h0:0<=i
 ·rw[if_pos h0] at h;by_cases h1:i<n
  ·rw[if_pos h1] at h;have e:i.toNat=j:=Option.some.inj h;exact⟨by rw[seqIndex_of h0 h1,e],by omega,by omega,h1⟩
  ·rw[if_neg h1] at h;cases h
 ·rw[if_neg h0] at h;by_cases h1:-(n:Int)<=i
  ·rw[if_pos h1] at h;have e:(i+n).toNat=j:=Option.some.inj h;exact⟨by rw[seqIndex_neg (by omega) h1,e],by omega,h1,by omega⟩
  ·rw[if_neg h1] at h;cases h
def yX{α:Type}{xs:List α}{i:Int}{v:α}(h:M7 xs i=some v):∃j,seqIndex? i xs.length=some j/\xs[j]?=some v/\j<xs.length/\-(xs.length:Int)<=i/\i<xs.length:=by
 unfold M7 at h;cases e:Oc xs.length i with
 |none=>rw[e] at h;cases h
 |some j=>
  rw[e] at h;obtain⟨h1,h2,h3,h4⟩:=yj e;exact⟨j,h1,h,h2,h3,h4⟩
def uX{α:Type}{xs:List α}{j:Nat}{v:α}(h:xs[j]?=some v):M7 xs (j:Int)=some v:=by
 have hj:j<xs.length:=(List.getElem?_eq_some_iff.mp h).1;have e:Oc xs.length (j:Int)=some j:=by
  unfold Oc;rw[if_pos (by omega),if_pos (by omega)];simp
 unfold M7;rw[e];exact h
def Dc(b:Expr):Prop:=∀o i,subscripted b false o i=operate [o,i] (getItem o i)
def Rl(X:Cx)(r:R2):Prop:=
 ∀(value slice:Expr) (pins:List (Addr×Obj)) (s:Shared) (σ:St) (H:Hp) (x y:V) (v u:Value) (Q:VK),Inv X pins σ H s->RelV x v->RelV y u->r x y H Q->
  subscripted slice false v u=operate [v,u] (getItem v u)->wpAny (model X.prog X.w) X.A (subscriptTail value slice v u) (EP X pins σ Q) X.xe s
section
variable{X:Cx}{a b:Expr}{ta tb:TE}{pos:Pos}
def Rl.or{r r':R2}(h:Rl X r)(h':Rl X r'):Rl X (fun x y H Q=>r x y H Q\/r' x y H Q):=by
 intro value slice pins s σ H x y v u Q I rx ry q hs;rcases q with q|q
 ·exact h value slice pins s σ H x y v u Q I rx ry q hs
 ·exact h' value slice pins s σ H x y v u Q I rx ry q hs
def Fy(K:PySem.W.Frag):R2:=fun x y H Q=>∃p xs i v,x=.ref p/\y=.int i/\Jl K H p xs/\M7 xs i=some v/\Q v H
def FF(K:PySem.W.Frag):R2:=fun x y H Q=>∃p xs i v,x=.ref p/\y=.int i/\JQ K H p xs/\M7 xs i=some v/\Q v H
def CK:Rl X (Fy X.K):=by
 intro value slice pins s σ H x y v u Q I rx ry h hs;obtain⟨p,xs,i,z,rfl,rfl,hq,he,q⟩:=h;cases rx;obtain⟨t,rfl⟩:=ry;obtain⟨its,r,pl,hz⟩:=I.list hq;obtain⟨j,h1,h2,h3,h4,h5⟩:=yX he;obtain⟨w,ew,KD⟩:=r.get h2;have hl:=r.length;have hn:=mX;have fin:EP X pins σ Q w s:=⟨z,H,I,KD,q⟩;by_cases h0:0<=i
 ·have hj:i.toNat=j:=by
   rw[seqIndex_of h0 h5] at h1;exact Option.some.inj h1
  exact item_listR pl.isList h0 (by omega) (by rw[hj];simpa using ew) fin hs
 ·have hj:(i+(its.toArray.size:Int)).toNat=j:=by
   rw[seqIndex_neg (by omega) h4] at h1;rw[size_toArray,<-hl];exact Option.some.inj h1
  exact subscriptTail_builtinR (x:=w) pl.isList.typeIs slot_list_getitem.lookup
   (wpAny_getItem_list_neg (Q:=fun r s'=>r=w/\EP X pins σ Q r s') pl.isList (by omega) (by rw[size_toArray]<;>omega) (by omega) (by rw[hj];simpa using ew) ⟨rfl,fin⟩) hs
def EC:Rl X (FF X.K):=by
 intro value slice pins s σ H x y v u Q I rx ry h hs;obtain⟨p,xs,i,z,rfl,rfl,hq,he,q⟩:=h;cases rx;obtain⟨t,rfl⟩:=ry;obtain⟨its,r,pl,hz⟩:=I.tuple hq;obtain⟨j,h1,h2,h3,h4,h5⟩:=yX he;obtain⟨w,ew,KD⟩:=r.get h2;have hl:=r.length;have hn:=mX;have fin:EP X pins σ Q w s:=⟨z,H,I,KD,q⟩;exact subscriptTail_builtinR (x:=w) pl.typeIs slot_tuple_getitem.lookup
  (getItem_tuple (j:=j) (Q:=fun r s'=>r=w/\EP X pins σ Q r s') pl (by omega) (by omega) (by rw[size_toArray,<-hl];exact h1) (by simpa using ew) ⟨rfl,fin⟩) hs
def xS(its:List Value)(n j:Nat)(u:Value):Obj.mapSeq (·.setIfInBounds j u) { cls:=.type "list",data:=.seq its.toArray n } = { cls:=.type "list",data:=.seq (its.set j u).toArray n }:=by
 simp[Obj.mapSeq]
def Inv.lst{pins:List (Addr×Obj)}{σ:St}{H:Hp}{s:Shared}{p:Addr}{xs:List V}(I:Inv X pins σ H s)(h:H p=some (.lst xs)) :
  ∃(its:List Value) (n:Nat),Vals xs its/\s.heap.get? p=some { cls:=.type "list",data:=.seq its.toArray n }/\xs.length<=sizeLine:=by
 obtain⟨z,its,n,r,e⟩:=I.Hc p _ h;exact⟨its,n,r,e,z⟩
def Inv.Rm{pins:List (Addr×Obj)}{σ:St}{H:Hp}{s:Shared}{p:Addr}{xs ys:List V}{its its':List Value}{n n':Nat}{f:Obj->Obj}(I:Inv X pins σ H s)(h:H p=some (.lst xs))
  (ho:s.heap.get? p=some { cls:=.type "list",data:=.seq its.toArray n }) (hf:f { cls:=.type "list",data:=.seq its.toArray n } = { cls:=.type "list",data:=.seq its'.toArray n' }) (r:Vals ys its') (hz:ys.length<=sizeLine) (t:Nat) :
  Inv X pins σ (upd H p (.lst ys)) { s with heap:=s.heap.update p f,toks:=t }:=by
 have e:(s.heap.update p f).get? p=some { cls:=.type "list",data:=.seq its'.toArray n' }:=by
  rw[get?_update_self f ho (by rw[hf]<;>rfl),hf]
 refine I.write (x:=p) (e:=p) (by rw[h];trivial) (.inl rfl) (fun b u hb q=>(get?_update_other _ _ (Ne.symm hb)).trans q) ⟨_,e⟩ ?_;exact⟨hz,its',n',r,e⟩
def FK:V->V->V->Hp->(Hp->Prop)->Prop:=fun o i v H Q=>∃p xs k j,o=.ref p/\i=.int k/\H p=some (.lst xs)/\Oc xs.length k=some j/\Q (upd H p (.lst (xs.set j v)))
def AK:Go X FK:=by
 intro pins s σ H o i v ov iv u Q I ro ri rv h;obtain⟨p,xs,k,j,rfl,rfl,hp,hj,q⟩:=h;cases ro;obtain⟨t,rfl⟩:=ri;obtain⟨its,n,r,ho,hz⟩:=I.lst hp;obtain⟨h1,h2,h3,h4⟩:=yj hj;have hl:=r.length;have hn:=mX;have I':Inv X pins σ (upd H p (.lst (xs.set j v))) { s with heap:=s.heap.update p (Obj.mapSeq (·.setIfInBounds j u)) }:=
  I.Rm hp ho (xS its n j u) (r.set rv j) (by rw[length_set];exact hz) s.toks
 by_cases h0:0<=k
 ·have hk:k.toNat=j:=by
   rw[seqIndex_of h0 h4] at h1;exact Option.some.inj h1
  exact PySem.W.ki_setAt ho h0 (by omega) (by rw[size_toArray,<-hl];exact h4) (by rw[hk];exact⟨_,I',q⟩)
 ·have hk:(k+(its.toArray.size:Int)).toNat=j:=by
   rw[seqIndex_neg (by omega) h3] at h1;rw[size_toArray,<-hl];exact Option.some.inj h1
  exact PySem.W.ki_setBack ho (by omega) (by rw[size_toArray,<-hl];exact h3) (by omega) (by rw[hk];exact⟨_,I',q⟩)
def vj(lo hi:Option Int)(n:Nat):(sliceBounds lo hi none n).1=((HT.Ik n 0 lo:Nat):Int)/\(sliceBounds lo hi none n).2.1=((HT.Ik n n hi:Nat):Int)/\(sliceBounds lo hi none n).2.2=1:=by
 refine⟨?_,?_,rfl⟩
 ·cases lo with
  |none=>simp[sliceBounds,HT.Ik]
  |some i=>
   simp only[sliceBounds,HT.Ik,getD_none,show(1:Int) > 0 by decide,if_true];by_cases h:i<0
   ·simp only[h,if_true]<;>omega
   ·simp only[h,if_false]<;>omega
 ·cases hi with
  |none=>simp[sliceBounds,HT.Ik]
  |some i=>
   simp only[sliceBounds,HT.Ik,getD_none,show(1:Int) > 0 by decide,if_true];by_cases h:i<0
   ·simp only[h,if_true]<;>omega
   ·simp only[h,if_false]<;>omega
def sQ(its:List Value)(lo hi:Option Int):slicePick its.toArray lo hi none=((its.drop (HT.Ik its.length 0 lo)).take (HT.Ik its.length its.length hi-HT.Ik its.length 0 lo)).toArray:=by
 obtain⟨h1,h2,h3⟩:=vj lo hi its.toArray.size;unfold slicePick;rw[h1,h2,h3];simp only[sliceRange_one,pick_run,size_toArray]<;>rfl
def Gy(K:PySem.W.Frag):V->Option Int->Option Int->Hp->VK->Prop:=fun x lo hi H Q=>∃a xs,x=.ref a/\Jl K H a xs/\∀p,H p=none->Q (.ref p) (upd H p (.lst (xv xs lo hi)))
def yQ:Z5 X (Gy X.K):=by
 intro pins s σ H x v vl vu lo hi sl Q I rx hs pl pu h;obtain⟨a,xs,rfl,hx,q⟩:=h;cases rx;obtain⟨its,r,ht,hz⟩:=I.list hx;have hlen:=r.length;refine⟨"list",_,slot_list_getitem.lookup,ht.isList.typeIs,?_⟩;refine wpAny_getItem_list_slice ht.isList hs pl pu .none (by simp) ?_ (by rw[size_toArray]<;>omega);rw[sQ,<-hlen];refine⟨.ref s.heap.objs.size,_,I.laid (t':=s.toks) (o:=.lst (xv xs lo hi)) (fun b ob q=>get?_push_of_some _ q) (Nat.le_refl _) ?_,rfl,q _ (I.Hc.fresh (Nat.le_refl _))⟩;exact⟨Nat.le_trans (o9 xs lo hi) hz,_,0,(r.drop (HT.Ik xs.length 0 lo)).take (HT.Ik xs.length xs.length hi-HT.Ik xs.length 0 lo),get?_push_size _ rfl⟩
def j0:V->Bool
 |.G0=>true
 |.bl _=>true
 |.int _=>true
 |.str _=>true
 |_=>false
def OQ:V->V->Bool
 |.G0,.G0=>true
 |.bl a,.bl b=>a == b
 |.bl a,.int b=>(if a then 1 else 0) == b
 |.int a,.bl b=>a == (if b then 1 else 0)
 |.int a,.int b=>a == b
 |.str a,.str b=>a == b
 |_,_=>false
def ED{A:Around}{s:Shared}{y x:V}{u v:Value}(ry:RelV y u)(rx:RelV x v)(fy:j0 y=true)(fx:j0 x=true):SeqAt.EqAt A s u v (OQ y x):=by
 cases y with
 |G0=>
  cases ry;cases x with
  |G0=>cases rx;exact SeqAt.EqAt.same _
  |bl b=>cases rx;exact SeqAt.EqAt.none_bool b
  |int b=>obtain⟨t,rfl⟩:=rx;exact SeqAt.EqAt.none_int b t
  |str b=>obtain⟨t,rfl⟩:=rx;exact SeqAt.EqAt.none_str b t
  |_=>exact absurd (show false=true from fx) Bool.false_ne_true
 |bl a=>
  cases ry;cases x with
  |G0=>cases rx;exact SeqAt.EqAt.bool_none a
  |bl b=>cases rx;exact SeqAt.EqAt.bool_bool a b
  |int b=>obtain⟨t,rfl⟩:=rx;exact SeqAt.EqAt.bool_int a b t
  |str b=>obtain⟨t,rfl⟩:=rx;exact SeqAt.EqAt.bool_str a b t
  |_=>exact absurd (show false=true from fx) Bool.false_ne_true
 |int a=>
  obtain⟨t',rfl⟩:=ry;cases x with
  |G0=>cases rx;exact SeqAt.EqAt.int_none a t'
  |bl b=>cases rx;exact SeqAt.EqAt.int_bool a t' b
  |int b=>obtain⟨t,rfl⟩:=rx;exact int_int a t' b t
  |str b=>obtain⟨t,rfl⟩:=rx;exact int_str a t' b t
  |_=>exact absurd (show false=true from fx) Bool.false_ne_true
 |str a=>
  obtain⟨t',rfl⟩:=ry;cases x with
  |G0=>cases rx;exact SeqAt.EqAt.str_none a t'
  |bl b=>cases rx;exact SeqAt.EqAt.str_bool a t' b
  |int b=>obtain⟨t,rfl⟩:=rx;exact str_int a t' b t
  |str b=>obtain⟨t,rfl⟩:=rx;exact str_str a t' b t
  |_=>exact absurd (show false=true from fx) Bool.false_ne_true
 |_=>exact absurd (show false=true from fy) Bool.false_ne_true
def OR(x:V)(u:Value):Bool:=match u with
 |.none=>OQ .G0 x
 |.bool b=>OQ (.bl b) x
 |.int i _=>OQ (.int i) x
 |.str z _=>OQ (.str z) x
 |_=>false
def xV{x y:V}{u:Value}(r:RelV y u)(f:j0 y=true):OR x u=OQ y x:=by
 cases y with
 |G0=>cases r;rfl
 |bl b=>cases r;rfl
 |int i=>obtain⟨t,rfl⟩:=r;rfl
 |str z=>obtain⟨t,rfl⟩:=r;rfl
 |_=>exact absurd (show false=true from f) Bool.false_ne_true
theorem vm{x:V}:∀{xs:List V}{us:List Value},Vals xs us->xs.all j0=true->us.any (OR x)=xs.any fun y=>OQ y x
 |_,_,.nil,_=>rfl
 |y :: xs,u :: us,.cons r t,f=>by
  rw[all_cons,and_eq_true] at f;rw[any_cons,any_cons,xV r f.1,vm t f.2]
theorem n8{A:Around}{s:Shared}{x:V}{v:Value}(rx:RelV x v)(fx:j0 x=true):∀{xs:List V}{us:List Value},Vals xs us->xs.all j0=true->∀u∈us,SeqAt.EqAt A s u v (OR x u)
 |_,_,.nil,_=>fun u hu=>by cases hu
 |y :: xs,u :: us,.cons r t,f=>fun u' hu=>by
  rw[all_cons,and_eq_true] at f;rcases List.mem_cons.mp hu with rfl|hu
  ·rw[xV r f.1];exact ED r rx f.1 fx
  ·exact n8 rx fx t f.2 u' hu
def Od(x:V)(xs:List V):Bool:=xs.any fun y=>OQ y x
def Z6(K:PySem.W.Frag)(neg:Bool):R2:=fun x y H Q=>∃p xs,y=.ref p/\(Jl K H p xs\/JQ K H p xs)/\j0 x=true/\xs.all j0=true/\Q (.bl (if neg then !Od x xs else Od x xs)) H
def zQ:MJ X (compareOp .In) (Z6 X.K false):=by
 intro pins s σ H x y v u Q I rx ry h;obtain⟨p,xs,rfl,hq,fx,fs,q⟩:=h;cases ry;rcases hq with hq|hq
 ·obtain⟨its,r,pl,hz⟩:=I.list hq;refine SeqAt.in_listAt (OR x) pl.isList (fun w hw=>n8 rx fx r fs w (by simpa using hw)) ⟨.bl _,H,I,rfl,?_⟩;rw[show its.toArray.any (OR x)=its.any (OR x) by simp,vm r fs];exact q
 ·obtain⟨its,r,pl,hz⟩:=I.tuple hq;refine SeqAt.in_tupleAt (OR x) pl (fun w hw=>n8 rx fx r fs w (by simpa using hw)) ⟨.bl _,H,I,rfl,?_⟩;rw[show its.toArray.any (OR x)=its.any (OR x) by simp,vm r fs];exact q
def vg:rW X (.builtin "len") (fun xs H Q=>∃p ys,xs=[.ref p]/\(Jl X.K H p ys\/JQ X.K H p ys)/\Q (.int ys.length) H):=by
 intro pins s σ H xs us Q I r h;obtain⟨p,ys,rfl,hq,q⟩:=h;obtain⟨u,rfl,rx⟩:=vX r;cases rx;have hn:=mX;rcases hq with hq|hq
 ·obtain⟨its,r',pl,hz⟩:=I.list hq;have hlen:=r'.length;exact Calls.call_len_list pl.isList (by simp only[size_toArray]<;>omega) ⟨.int ys.length,H,I.tok _,⟨s.toks+1,by rw[size_toArray,hlen]⟩,q⟩
 ·obtain⟨its,r',pl,hz⟩:=I.tuple hq;have hlen:=r'.length;exact len_tuple pl (by simp only[size_toArray]<;>omega) ⟨.int ys.length,H,I.tok _,⟨s.toks+1,by rw[size_toArray,hlen]⟩,q⟩
def uK:rW X (.type "list") (fun xs H Q=>∃p ys,xs=[.ref p]/\(Jl X.K H p ys\/JQ X.K H p ys)/\∀l,H l=none->Q (.ref l) (upd H l (.lst ys))):=by
 intro pins s σ H xs us Q I r h;obtain⟨p,ys,rfl,hq,q⟩:=h;obtain⟨u,rfl,rx⟩:=vX r;cases rx;have fin:∀(its:List Value),Vals ys its->ys.length<=sizeLine->∀(h':Heap) (c':Nat),(∀b o',s.heap.get? b=some o'->h'.get? b=some o')->
   h'.get? s.heap.objs.size=some { cls:=.type "list",dict:=none,data:=.seq its.toArray c',slots:=#[] }->EP X pins σ Q (.ref s.heap.objs.size) { s with heap:=h' }:=fun its r' hz h' c' kp e=>
  ⟨.ref s.heap.objs.size,_,I.laid (t':=s.toks) kp (Nat.le_refl _) (show HG X.prog X.w _ h' _ (.lst ys) from ⟨hz,its,c',r',e⟩),rfl,q _ (I.Hc.fresh (Nat.le_refl _))⟩
 rcases hq with hq|hq
 ·obtain⟨its,r',pl,hz⟩:=I.list hq;have hlen:=r'.length;obtain⟨o,ho,hc,n,hd⟩:=pl.isList;exact call_list_seq p (.inl rfl) ho hc hd (fun h' c' kp e=>fin its r' hz h' c' kp e) (by simp only[size_toArray]<;>omega)
 ·obtain⟨its,r',pl,hz⟩:=I.tuple hq;have hlen:=r'.length;obtain⟨o,ho,hc,n,hd⟩:=pl;exact call_list_seq p (.inr rfl) ho hc hd (fun h' c' kp e=>fin its r' hz h' c' kp e) (by simp only[size_toArray]<;>omega)
def sj:rW X (.type "tuple") (fun xs H Q=>∃p ys,xs=[.ref p]/\((Jl X.K H p ys/\∀l,H l=none->Q (.ref l) (upd H l (.tup ys)))\/(JQ X.K H p ys/\Q (.ref p) H))):=by
 intro pins s σ H xs us Q I r h;obtain⟨p,ys,rfl,h⟩:=h;obtain⟨u,rfl,rx⟩:=vX r;cases rx;rcases h with ⟨hq,q⟩|⟨hq,q⟩
 ·obtain⟨its,r',pl,hz⟩:=I.list hq;have hlen:=r'.length;refine call_tuple_list pl.isList (fun h' kp=>?_) (by simp only[size_toArray]<;>omega);have I1:Inv X pins σ H { s with heap:=h' }:=I.kept (t':=s.toks) kp;have I2:Inv X pins σ (upd H h'.objs.size (.tup ys)) { s with heap:=h'.push { cls:=.type "tuple",data:=.seq its.toArray } }:=
   I1.laid (t':=s.toks) (fun b o e=>get?_push_of_some _ e) (Nat.le_refl _) (show HG X.prog X.w _ _ _ (.tup ys) from ⟨hz,its,r',IsTup.new _ _⟩)
  exact⟨.ref h'.objs.size,_,I2,rfl,q _ (I1.Hc.fresh (Nat.le_refl _))⟩
 ·obtain⟨its,r',pl,hz⟩:=I.tuple hq;exact call_tuple_same pl ⟨.ref p,H,I,rfl,q⟩
def Z7(K:PySem.W.Frag)(T:String)(x:V)(H:Hp):Prop:=match x with
 |.str _=>T = "str"
 |.int _=>T = "int"
 |.ref p=>(T = "list"/\∃xs,Jl K H p xs)\/(T = "tuple"/\∃o,K.lookup p=some o/\o.cls=.type "tuple"/\o.dict=none)\/
   (T = "dict"/\((∃kvs,H p=some (.dK kvs))\/∃kvs,H p=some (.dT kvs)))\/(T = "set"/\∃S n,H p=some (.set S n))
 |_=>False
def EX{pins:List (Addr×Obj)}{σ:St}{H:Hp}{s:Shared}{T:String}{x:V}{v:Value}(I:Inv X pins σ H s)(r:RelV x v)(ty:Z7 X.K T x H) :
  s.TypeIs v T/\∀a,v=.ref a->∃ob,s.heap.get? a=some ob/\ob.dict=none:=by
 cases x with
 |str z=>
  obtain⟨t,rfl⟩:=r;cases(show T = "str" from ty);exact⟨typeIs_str s z t,fun _ e=>nomatch e⟩
 |int i=>
  obtain⟨t,rfl⟩:=r;cases(show T = "int" from ty);exact⟨typeIs_int s i t,fun _ e=>nomatch e⟩
 |ref p=>
  cases r;rcases ty with ⟨rfl,xs,hq⟩|⟨rfl,o,hk,hc,hd⟩|⟨rfl,hk⟩|⟨rfl,S,n,hk⟩
  ·obtain⟨its,_,pl,_⟩:=I.list hq;refine⟨pl.isList.typeIs,fun a e=>?_⟩;cases e;obtain⟨o,n,e,c,hd,_⟩:=pl;exact⟨o,e,hd⟩
  ·refine⟨⟨o,I.Ls p o hk,hc⟩,fun a e=>?_⟩;cases e;exact⟨o,I.Ls _ o hk,hd⟩
  ·have z:∃o,s.heap.get? p=some o/\o.ExactDict:=by
    rcases hk with ⟨kvs,hk⟩|⟨kvs,hk⟩
    ·obtain⟨_,_,_,_,o,_,_,e,ex,_⟩:=I.Hc p _ hk;exact⟨o,e,ex⟩
    ·obtain⟨_,_,_,_,o,_,_,e,ex,_⟩:=I.Hc p _ hk;exact⟨o,e,ex⟩
   obtain⟨o,e,ex⟩:=z;refine⟨⟨o,e,ex.1⟩,fun a e2=>?_⟩;cases e2;exact⟨o,e,ex.2.1⟩
  ·obtain⟨o,_,_,_,e,ex,_⟩:=I.Hc p _ hk;refine⟨⟨o,e,ex.1⟩,fun a e2=>?_⟩;cases e2;exact⟨o,e,ex.2.1⟩
 |_=>exact False.elim ty
variable{o e:Expr}{es:List Expr}{to:TE}{t:TA}{name:Str}{apos HQ:Pos}{T id:String}{r:V->List V->Hp->VK->Prop}
end
def Vf(X:Cx)(id:String)(r:V->List V->Hp->VK->Prop):Prop:=
 ∀(pins:List (Addr×Obj)) (s:Shared) (σ:St) (H:Hp) (x:V) (xs:List V) (v:Value) (us:List Value) (Q:VK),Inv X pins σ H s->RelV x v->Vals xs us->r x xs H Q->
  wpAny (model X.prog X.w) X.A (call (.builtin id) (v :: us)) (EP X pins σ Q) X.xe s
def Vals.one:∀{x:V}{us:List Value},Vals [x] us->∃u,us=[u]/\RelV x u
 |_,_,.cons r .nil=>⟨_,rfl,r⟩
def Vals.two:∀{x y:V}{us:List Value},Vals [x,y] us->∃u v,us=[u,v]/\RelV x u/\RelV y v
 |_,_,_,.cons r (.cons q .nil)=>⟨_,_,rfl,r,q⟩
def Vals.eraseIdx:∀{xs:List V}{us:List Value}(i:Nat),Vals xs us->Vals (xs.eraseIdx i) (us.eraseIdx i)
 |_,_,_,.nil=>.nil
 |_,_,0,.cons _ t=>t
 |_,_,i+1,.cons r t=>.cons r (Vals.eraseIdx i t)
theorem Vals.rep{xs:List V}{us:List Value}(h:Vals xs us):∀k:Nat,Vals (replicate k xs).flatten (replicate k us).flatten
 |0=>.nil
 |k+1=>by
  rw[replicate_succ,replicate_succ,flatten_cons,flatten_cons];exact Vals.append h (Vals.rep h k)
def tM{α:Type}:∀(l:List α) (i:Nat),(l.eraseIdx i).length<=l.length
 |[],_=>Nat.le_refl _
 |_ :: _,0=>le_succ _
 |_ :: r,i+1=>succ_le_succ (tM r i)
theorem tQ(its:List Value):∀(k:Nat) (acc:List Value),
  foldl (fun x1 x2=>x1++x2) acc.toArray (replicate k its.toArray)=(acc++(replicate k its).flatten).toArray
 |0,acc=>by simp
 |k+1,acc=>by
  have e:acc.toArray++its.toArray=(acc++its).toArray:=by simp
  have e2:(acc++its)++(replicate k its).flatten=acc++(replicate (k+1) its).flatten:=by
   rw[replicate_succ,flatten_cons,append_assoc]
  rw[<-e2,<-tQ its k (acc++its),<-e,replicate_succ,foldl_cons]
section
variable{X:Cx}{pins:List (Addr×Obj)}{σ:St}{H:Hp}{s:Shared}{l b:Addr}{xs ys zs:List V}
def Inv.O1{its its':List Value}{n:Nat}{f:Array Value->Array Value}{t':Nat}(I:Inv X pins σ H s)(hH:H l=some (.lst xs))
  (e:s.heap.get? l=some { cls:=.type "list",data:=.seq its.toArray n }) (hf:f its.toArray=its'.toArray) (hv:Vals ys its') (hz:ys.length<=sizeLine) :
  Inv X pins σ (upd H l (.lst ys)) { s with heap:=s.heap.update l (Obj.mapSeq f),toks:=t' }:=by
 have q:=PySem.IsL.update e f;rw[hf] at q;refine I.write (x:=l) (e:=l) (by rw[hH];exact trivial) (.inl rfl) (fun b' u hb hu=>(get?_update_other s.heap (Obj.mapSeq f) (Ne.symm hb)).trans hu) ⟨_,q⟩ ?_;exact⟨hz,its',_,hv,q⟩
def Inv.SV{its:List Value}{t':Nat}(I:Inv X pins σ H s)(hv:Vals ys its)(hz:ys.length<=sizeLine) :
  Inv X pins σ (upd H s.heap.objs.size (.lst ys)) { s with heap:=s.heap.push { cls:=.type "list",data:=.seq its.toArray },toks:=t' }:=
 I.laid (fun _ _ q=>get?_push_of_some _ q) (Nat.le_refl _) ⟨hz,its,0,hv,get?_push_size _ rfl⟩
def Inv.fresh(I:Inv X pins σ H s):H s.heap.objs.size=none:=I.Hc.fresh (Nat.le_refl _)
def Inv.L4(I:Inv X pins σ H s)(hH:H l=some (.lst xs)):xs.length<=sizeLine/\∃(its:List Value) (n:Nat),Vals xs its/\xs.length=its.length/\s.heap.get? l=some { cls:=.type "list",data:=.seq its.toArray n }:=by
 obtain⟨z,its,n,r,e⟩:=I.Hc l _ hH;exact⟨z,its,n,r,r.length,e⟩
def qD{n:Nat}(h:n<=sizeLine):Builtin.List.listTooLong n=false:=by
 unfold Builtin.List.listTooLong;exact decide_eq_false (by omega)
end
section
variable{X:Cx}
def Dr:V->List V->Hp->VK->Prop:=fun x vs H Q=>∃l xs y,x=.ref l/\vs=[y]/\H l=some (.lst xs)/\xs.length<sizeLine/\Q .G0 (upd H l (.lst (xs++[y])))
def sY:Vf X "list.append" Dr:=by
 intro pins s σ H x vs v us Q I rx rv h;obtain⟨l,xs,y,rfl,rfl,hH,hz,q⟩:=h;cases rx;obtain⟨u,rfl,ru⟩:=rv.one;obtain⟨z,its,n,r,hl,e⟩:=I.L4 hH;refine call_meets F.slot_list_append ⟨_,e,rfl⟩ F.entry_list_append (F.args_list_append_2 _ _) (PySem.list_append l its.toArray n u (by rw[size_toArray];omega)) ⟨e,?_⟩;refine⟨.G0,_,I.O1 (its':=its++[u]) hH e (by simp) (r.append (.cons ru .nil)) ?_,rfl,q⟩;rw[length_append,length_singleton];omega
def Cv:V->List V->Hp->VK->Prop:=fun x vs H Q=>∃l b xs zs,x=.ref l/\vs=[.ref b]/\H l=some (.lst xs)/\H b=some (.lst zs)/\xs.length+zs.length<=sizeLine/\Q .G0 (upd H l (.lst (xs++zs)))
def Fh:Vf X "list.extend" Cv:=by
 intro pins s σ H x vs v us Q I rx rv h;obtain⟨l,b,xs,zs,rfl,rfl,hH,hB,hz,q⟩:=h;cases rx;obtain⟨u,rfl,ru⟩:=rv.one;cases ru;obtain⟨z,its,n,r,hl,e⟩:=I.L4 hH;obtain⟨z2,K4,n2,r2,P2,e2⟩:=I.L4 hB;have hsz:its.toArray.size+K4.toArray.size<=sizeLine:=by rw[size_toArray,size_toArray];omega
 have Nh:¬(!its.toArray.isEmpty && Builtin.List.listTooLong (its.toArray.size+K4.toArray.size))=true:=by
  rw[qD hsz,Bool.and_false];exact Bool.false_ne_true
 refine call_meets F.slot_list_extend ⟨_,e,rfl⟩ F.entry_list_extend (F.args_list_extend_2 _ _)
  (AutoSeq1.list_extend_list_list_0 l its.toArray n b K4.toArray n2 Nh (by rw[size_toArray];omega) (by omega)) ⟨e,e2,?_⟩
 refine⟨.G0,_,I.O1 (its':=its++K4) hH e (by simp) (r.append r2) ?_,rfl,q⟩;rw[length_append];omega
def EM:V->List V->Hp->VK->Prop:=fun x vs H Q=>∃l xs i k y,x=.ref l/\vs=[.int i]/\H l=some (.lst xs)/\-(2 ^ 63)<=i/\i<2 ^ 63/\seqIndex? i xs.length=some k/\xs[k]?=some y/\Q y (upd H l (.lst (xs.eraseIdx k)))
def A9:Vf X "list.pop" EM:=by
 intro pins s σ H x vs v us Q I rx rv h;obtain⟨l,xs,i,k,y,rfl,rfl,hH,h1,h2,hk,hy,q⟩:=h;cases rx;obtain⟨u,rfl,ru⟩:=rv.one;obtain⟨t,rfl⟩:=ru;obtain⟨z,its,n,r,hl,e⟩:=I.L4 hH;obtain⟨w,hw,KD⟩:=r.get hy;refine call_meets F.slot_list_pop ⟨_,e,rfl⟩ F.entry_list_pop (F.args_list_pop_2 _ _)
  (MeetsSeq.list_pop_at l its.toArray n i t k w (fitsIndex_both h1 h2) (by rw[size_toArray,<-hl];exact hk) (by rw[<-Array.getElem?_toList];exact hw) (by rw[size_toArray];omega)) ⟨e,?_⟩
 refine⟨y,_,I.O1 (its':=its.eraseIdx k) hH e ?_ (r.eraseIdx k) ?_,KD,q⟩
 ·show its.toArray.eraseIdxIfInBounds k=(its.eraseIdx k).toArray;rw[List.eraseIdxIfInBounds_toArray]
 ·have:=tM xs k;omega
def Gk:R2:=fun x y H Q=>∃l b xs zs,x=.ref l/\y=.ref b/\H l=some (.lst xs)/\H b=some (.lst zs)/\xs.length+zs.length<=sizeLine/\∀p,H p=none->Q (.ref p) (upd H p (.lst (xs++zs)))
def Ep:MJ X (binaryOp .Add) Gk:=by
 intro pins s σ H x y v u Q I rx ry h;obtain⟨l,b,xs,zs,rfl,rfl,hH,hB,hz,q⟩:=h;cases rx;cases ry;obtain⟨z,its,n,r,hl,e⟩:=I.L4 hH;obtain⟨z2,K4,n2,r2,P2,e2⟩:=I.L4 hB;refine PySem.P.add_list e e2 ?_ (by rw[size_toArray,size_toArray];omega);have ea:its.toArray++K4.toArray=(its++K4).toArray:=by simp
 rw[ea];exact⟨.ref _,_,I.SV (t':=s.toks) (r.append r2) (by rw[length_append];omega),rfl,q _ I.fresh⟩
def GD:R2:=fun x y H Q=>∃l k xs,x=.ref l/\y=.int k/\H l=some (.lst xs)/\-(2 ^ 63)<=k/\k<2 ^ 63/\xs.length * k.toNat<=sizeLine/\
 ∀p,H p=none->Q (.ref p) (upd H p (.lst (replicate k.toNat xs).flatten))
def Ds{α:Type}(xs:List α)(k:Nat):(replicate k xs).flatten.length=k * xs.length:=by
 induction k with
 |zero=>simp
 |succ k ih=>rw[replicate_succ,flatten_cons,length_append,ih,Nat.succ_mul,Nat.add_comm]
def Eo:MJ X (binaryOp .Mult) GD:=by
 intro pins s σ H x y v u Q I rx ry h;obtain⟨l,k,xs,rfl,rfl,hH,h1,h2,hz,q⟩:=h;cases rx;obtain⟨t,rfl⟩:=ry;obtain⟨z,its,n,r,hl,e⟩:=I.L4 hH;have hlen:its.toArray.size * k.toNat<=sizeLine:=by rw[size_toArray,<-hl];exact hz
 have Vg:¬its.toArray.size * k.toNat > (2 ^ 63-1) / 8:=by
  have:(sizeLine:Nat)<=(2 ^ 63-1) / 8:=by decide
  omega
 have O2:¬(!Builtin.List.listFitsIndex k)=true:=by
  rw[fitsIndex_both h1 h2];exact Bool.false_ne_true
 have Nh:¬Builtin.List.listTooLong (its.toArray.size * k.toNat)=true:=by
  rw[qD hlen];exact Bool.false_ne_true
 have IA:foldl (fun x1 x2=>x1++x2) #[] (replicate (if its.toArray.isEmpty=true then 0 else k.toNat) its.toArray)=(replicate k.toNat its).flatten.toArray:=by
  have f0:∀m:Nat,foldl (fun x1 x2=>x1++x2) #[] (replicate m its.toArray)=(replicate m its).flatten.toArray:=fun m=>by
   have:=tQ its m [];rw[nil_append] at this;exact this
  rw[f0];cases its with
  |nil=>simp
  |cons a r'=>rw[if_neg (by simp)]
 refine wpAny_binaryOp_repeat_ref (T:="list") (U:="int") (by decide) ⟨_,e,rfl⟩ (fun s'=>typeIs_int s' k t) noFill_list_mul F.fills_int_mul F.slot_int_rmul repeat_list F.slot_int_index.lookup
  (call_meets F.slot_int_rmul (typeIs_int s k t) F.entry_int_rmul (F.args_int_rmul_2 _ _) (int___rmul___int_list k t l its.toArray n)
   ⟨e,rfl,⟨_,e,rfl⟩,call_meets F.slot_list_mul ⟨_,e,rfl⟩ F.entry_list_mul (F.args_list_mul_2 _ _) (AutoListH.list___mul___list_int_3 l its.toArray n k t O2 Vg Nh) ⟨e,?_⟩⟩)
 rw[IA];exact⟨.ref _,_,I.SV (t':=s.toks) (r.rep k.toNat) (by rw[Ds,Nat.mul_comm];exact hz),rfl,q _ I.fresh⟩
end
section
variable{prog:Program}{w:World}{A:Around}{E:Value->Shared->Prop}{s:Shared}
end
section
variable{X:Cx}
end
end L2
namespace Yo
open PySem PySem.W PySem.Calls PyProof.Rows
def pN{P:Params}{h:Heap}:∀(ns:List Int) (vs:List Value),WellAll P h vs (ns.map WData.int)->IntsAre vs ns:=by
 intro ns
 induction ns with
 |nil=>
  intro vs w;rw[map_nil] at w;cases w;exact .nil
 |cons n ns ih=>
  intro vs w;rw[map_cons] at w;cases w with
  |cons a b=>
   cases a;exact .cons _ _ (ih _ b)
def zq{l:OpenLaw}{n:Nat}(hn:l.most=some n){P:Params}{h:Heap}{args:List WData}{vals:List Value}
  (P4:l.row.toRowW.claim.pre args=true) (Ul:WellAll P h vals args) :
  ∃a vs ns,vals=[Value.ref a]/\args=[WData.list (ns.map WData.int)]/\h.get? a=some { cls:=.type "list",data:=.seq vs.toArray }/\IntsAre vs ns/\ns.length<=n:=by
 have Z8:WShape.hasAll [] args [.list .int]=true:=(pre_splitW P4).1;have hc:l.pre.holds [] { args:=args }=true:=(pre_splitW P4).2;obtain⟨d,r,rfl,h1,h2⟩:=hasAllW_cons Z8;obtain rfl:=hasAllW_nil h2;obtain⟨xs,rfl,h3⟩:=hasW_list h1;obtain⟨ns,rfl⟩:=items_int h3;have hlen:ns.length<=n:=by
  unfold OpenLaw.pre at hc;have h4:(WTm.not (.lt (.lit (.int (n:Int))) (.len (.arg 0)))).holds [] { args:=[.list (ns.map .int)] }=true:=by
   have h4:=(holds_andW hc).1;rw[hn] at h4;exact h4
  have h5:=condW_of h4 (w_not (w_lt w_lit (w_len_list (w_arg rfl))));rw[length_map] at h5;refine Nat.le_of_not_lt fun q=>?_
  have q':(n:Int)<((ns.length:Nat):Int):=by omega
  first
   |(rw[decide_eq_true q'] at h5;exact absurd h5 (by decide))
   |(simp at h5;omega)
 cases Ul with
 |cons w1 w2=>
  cases w2;cases w1 with
  |list ho Rn=>exact⟨_,_,ns,rfl,rfl,ho,pN ns _ Rn,hlen⟩
def zD(l:OpenLaw)(args:List WData):l.row.toRowW.claim.post args (.bool true) args=true:=
 postW_of (r:=l.row.toRowW) (X:=(true == true))
  (show WShape.has [] (.bool true) .bool=true by first|rfl|decide|simp[WShape.has,WShape.arms,WShape.armsAll])
  (show(WTm.eq .res (.lit (.bool true))).value [] { args:=args,res:=some (.bool true),after:=args }=some (.bool (true == true)) from w_eq_bool (w_res rfl) w_lit) rfl
def Ni{l:OpenLaw}{n:Nat}{q:Program}{loose:List Str}{XP:(Str->Option Value)->Heap->Prop}{YP:World->Heap->Prop}{d:DefRec}
  (hn:l.most=some n) (SW:d.params.defaults=[])
  (call:∀(w:World) (I_ Ho:Shared) (mg mb:Str->Option Value) (fa:Addr) (o:Obj) (pm cd doc:Value) (a:Addr) (vs:List Value) (ns:List Int),
   Ground q loose [] XP w I_ mg mb Ho.heap->YP w Ho.heap->
   Ho.heap.get? fa=some o->o.data=.func (docDef d.name d.params d.body d.scope pm cd doc)->Ho.heap.CodeRec cd d.name->mg d.name=some (.ref fa)->
   Ho.heap.get? a=some { cls:=.type "list",data:=.seq vs.toArray }->IntsAre vs ns->ns.length<=n->Ho.gens = #[]->
   codeAny (model l.prog w) callerA (.call (.ref fa) ⟨[.ref a],[]⟩) (fun r s'=>r=.ok (.ret (.bool true))/\OldK Ho.heap s'.heap/\s'.os=Ho.os/\AllBare s'.gens) Ho) :
  WalkO q loose XP YP l.row.toRowW d [] (fun f vs=>PySem.call f vs):=by
 intro w I_ Ho mg mb G Y fa o pm cd doc dV kV ho hd N_ hD hmg hg args vals as P4 Z9 Ro Ul SX;obtain rfl:dV=.none:=Dflts.none hD SW;obtain rfl:kV=.none:=Dflts.noKw hD;obtain⟨a,vs,ns,rfl,rfl,Rp,hints,hlen⟩:=zq hn P4 Ul;refine enter_call (codeAny_mono (call w I_ Ho mg mb fa o pm cd doc a vs ns G Y ho (fd_plain hd) N_ hmg Rp hints hlen hg) fun r s' hq=>?_);obtain⟨rfl,h2,h3,h4⟩:=hq;exact⟨.inl ⟨.bool true,.bool true,[],rfl,fun _=>rfl,.bool true,zD l _,fun _=>⟨List.Pairwise.nil,fun _ hm=>(nomatch hm)⟩⟩,h2,h3,h4⟩
section
variable{prog:Program}{w:World}{A:Around}{E:Value->Shared->Prop}{s:Shared}{K:Frag}
end
end Yo
namespace L2
open PySem PySem.Spec PyProof.Rows
def sZ:∀{vs:List Value}{ns:List Int},IntsAre vs ns->Vals (ns.map V.int) vs
 |_,_,.nil=>.nil
 |_,_,.cons n t h=>.cons ⟨t,rfl⟩ (sZ h)
def Cp(H:Hp):Prop:=∀b,H b=none\/∃o xs,H b=some (.NK o (.lst xs))
def Bi{P:Program}{w:World}{K:PySem.W.Frag}{mg mb:Str->Option Value}{CX:Lk}{k:Nat}{fa a:Addr}{fd:FuncData}{x:Str}{sp:Sp}{Ho:Shared}{vs:List Value}{ns:List Int}
  (KX:K.In Ho.heap) (KO:Ho.heap.Ns mainGlobals mg) (hb:Ho.heap.Ns builtinsNs mb) (Z_:∀x:Str,x≠"__name__"->mb x=bootBuiltins x) (Vh:Ho.heap.NoLimit) (hg:Ho.gens = #[])
  (ha:Ho.heap.get? a=some { cls:=.type "list",data:=.seq vs.toArray }) (hi:IntsAre vs ns) (hl:ns.length<=sizeLine) (hr:IL k callerA)
  (F:∀base:Heap,K.In base->base.Ns mainGlobals mg->L3 P w K mg base CX k fa fd [x] sp) (SY:∀(s:Shared) (u:Value),BindsTo s fd ⟨[u],[]⟩ [(x,u)])
  (QQ:∀H:Hp,Cp H->Jl K H a (ns.map V.int)->sp [.ref a] H (fun v _=>v=.bl true) fun _ _ _=>False)
  (Vi:∀H e s',CX [] H Ho (fun _ _ _=>False) e s'->False) :
  codeAny (model P w) callerA (.call (.ref fa) ⟨[.ref a],[]⟩) (fun r s'=>r=.ok (.ret (.bool true))/\OldK Ho.heap s'.heap/\s'.os=Ho.os/\AllBare s'.gens) Ho:=by
 have rv:=sZ hi;have Vj:=hi.length;have core:∀H:Hp,Cp H->Jl K H a (ns.map V.int)->Jb P w H Ho.heap->(∀b,H b≠none->b=a)->(H a≠none->K.lookup a=none)->
   codeAny (model P w) callerA (.call (.ref fa) ⟨[.ref a],[]⟩) (fun r s'=>r=.ok (.ret (.bool true))/\OldK Ho.heap s'.heap/\s'.os=Ho.os/\AllBare s'.gens) Ho:=by
  intro H hO hS Hc hA hK;have Oe:∀{b:Addr}{o:Obj},Ho.heap.get? b=some o->H b=none->(uO Ho.heap H).get? b=some o:=fun e n=>AX e n
  have SR:∀{b:Addr}{o:Obj}{es:Array DictEntry}{ep:Nat},Ho.heap.get? b=some o->o.data=.dict es ep->H b=none:=fun {b o es ep} e d=>by
   cases q:H b with
   |none=>rfl
   |some u=>
    have e':b=a:=hA b (by rw[q];simp);subst e';rw[ha] at e;cases e;have d':Data.seq vs.toArray _=Data.dict es ep:=d;cases d'
  have Um:∀{b:Addr}{m:Str->Option Value},Ho.heap.Ns b m->(uO Ho.heap H).Ns b m:=fun {b m} ⟨o,es,ep,e,d,r⟩=>⟨o,es,ep,Oe e (SR e d),d,r⟩
  have Yp:K.In (uO Ho.heap H):=fun b o e=>Oe (KX b o e) (by
   cases q:H b with
   |none=>rfl
   |some u=>
    have e':b=a:=hA b (by rw[q];simp);subst e';rw[hK (by rw[q];simp)] at e;cases e)
  have hM:Mod K mg (uO Ho.heap H):=⟨Yp,Um KO,⟨mb,Um hb,Z_⟩,let ⟨mc,h1,h2⟩:=Vh;⟨mc,Um h1,h2⟩⟩;have e0:NM P w K mg (uO Ho.heap H) callerA [] Ho H:=⟨rfl,hM,fun b o e=>DV e,Nat.le_of_eq (zT _ _),trivial,fun b hb=>absurd (show b∈([]:List Addr) from hb) (by simp),Hc,.of_eq hg⟩;refine codeAny_mono ((F _ Yp (Um KO)).run callerA [] Ho H ⟨[.ref a],[]⟩ [.ref a] [.ref a] _ _ hr e0 (SY Ho (.ref a)) (.cons rfl .nil) (QQ H hO hS)) fun r s' h=>?_
  cases r with
  |error e=>exact(Vi H e s' h).elim
  |ok fl=>
   cases fl with
   |next=>exact False.elim h
   |brk=>exact False.elim h
   |cont=>exact False.elim h
   |ret u=>
    obtain⟨v,H',os,bare,un,Vk,r',q⟩:=h;have q':v=.bl true:=q;subst q';obtain rfl:u=Value.bool true:=r';refine⟨rfl,OldK.of_keep fun b o e=>?_,os,bare⟩;cases q:H b with
    |none=>exact un.keep b o e q (by intro z;exact absurd (show b∈([]:List Addr) from z) (by simp)) (by simp)
    |some u=>
     rcases hO b with z|⟨ob,xs,z⟩
     ·rw[q] at z;cases z
     ·have z2:=un.Kh b ob _ z;obtain⟨e1,_⟩:=Hc b _ z;obtain⟨e2,_⟩:=Vk b _ z2;rw[e] at e1;cases e1;exact e2
 cases hk:K.lookup a with
 |some o=>
  have e:=KX a o hk;rw[ha] at e;cases e;refine core (fun _=>none) (fun _=>.inl rfl) (.inr ⟨_,vs.toArray,_,hk,rfl,rfl,rfl,by rw[size_toArray,Vj];exact hl,by simpa using rv⟩) (fun b u z=>by have z':(none:Option HO)=some u:=z;cases z') (fun b z=>absurd rfl z) fun z=>absurd rfl z
 |none=>
  refine core (fun b=>if b=a then some (.NK { cls:=.type "list",data:=.seq vs.toArray } (.lst (ns.map V.int))) else none) (fun b=>?_) (.inl (.inr ⟨{ cls:=.type "list",data:=.seq vs.toArray },if_pos rfl⟩)) (fun b u z=>?_) (fun b z=>?_) fun _=>hk
  ·by_cases hb:b=a
   ·exact .inr ⟨_,_,if_pos hb⟩
   ·exact .inl (if_neg hb)
  ·by_cases hb:b=a
   ·have z':=(if_pos hb).symm.trans z;cases z';subst hb;exact⟨ha,by rw[length_map];exact hl,vs,_,rv,ha⟩
   ·have z':=(if_neg hb).symm.trans z;cases z'
  ·by_cases hb:b=a
   ·exact hb
   ·exact absurd (if_neg hb) z
def P5{l:PySem.W.OpenLaw}{n k:Nat}{q:Program}{loose:List Str}{XP:(Str->Option Value)->Heap->Prop}{YP:World->Heap->Prop}{d:DefRec}{K:Params->PySem.W.Frag}{CX:World->Lk}{sp:World->Sp}{x:Str}
  (hn:l.most=some n) (R8:n<=sizeLine) (SW:d.params.defaults=[]) (hr:IL k callerA)
  (hY:∀(w:World) (h:Heap),YP w h->(K w.params).In h)
  (F:∀(w:World) (mg:Str->Option Value) (fa:Addr) (h:Heap),(K w.params).In h->h.Ns mainGlobals mg->mg d.name=some (.ref fa)->
   ∃fd:FuncData,(∀(s:Shared) (u:Value),BindsTo s fd ⟨[u],[]⟩ [(x,u)])/\
    ∀base:Heap,(K w.params).In base->base.Ns mainGlobals mg->L3 l.prog w (K w.params) mg base (CX w) k fa fd [x] (sp w))
  (QQ:∀(w:World) (H:Hp) (a:Addr) (ns:List Int),ns.length<=n->Cp H->Jl (K w.params) H a (ns.map V.int)->sp w [.ref a] H (fun v _=>v=.bl true) fun _ _ _=>False)
  (Vi:∀(w:World) (H:Hp) (s:Shared) (e:Value) (s':Shared),CX w [] H s (fun _ _ _=>False) e s'->False) :
  PySem.W.WalkO q loose XP YP l.row.toRowW d [] (fun f vs=>PySem.call f vs):=by
 refine Yo.Ni hn SW fun w I_ Ho mg mb fa o pm cd doc a vs ns G Y ho hd N_ hmg Rp hints hlen hg=>?_
 have KX:=hY w _ Y;obtain⟨fd,hb,hF⟩:=F w mg fa _ KX G.T.g hmg;exact Bi KX G.T.g G.T.b G.T.builtins G.T.nolimit hg Rp hints (Nat.le_trans hlen R8) hr hF hb (fun H hO hS=>QQ w H a ns hlen hO hS) fun H e s'=>Vi w H Ho e s'
def bh(s:Stmt)(j:Nat):Stmt:=match s with
 |.ClassDef _ _ _ body _ _ _ _ _ _ _=>body.getD j (.Pass ⟨0,0,0,0⟩)
 |_=>.Pass ⟨0,0,0,0⟩
def Il(s:Stmt):Arguments:=match s with
 |.FunctionDef _ a _ _ _ _ _ _ _ _=>a
 |_=>{ posonlyargs:=[],args:=[],vararg:=none,kwonlyargs:=[],kw_defaults:=[],kwarg:=none,defaults:=[] }
def HR(s:Stmt):List Stmt:=match s with
 |.FunctionDef _ _ b _ _ _ _ _ _ _=>b
 |_=>[]
def j_(s:Stmt):Scope:=match s with
 |.FunctionDef _ _ _ _ _ _ sc _ _ _=>sc
 |_=>{ kind:=.function,names:=[],isGenerator:=false,isCoroutine:=false }
structure HP(K:PySem.W.Frag)(x qual:Str)(st:Stmt)(f:Addr)(fd:FuncData):Prop where
 ex:∃(oc:Value) (od:Option Addr) (kV doc pm:Value) (an:Option Addr) (Hb ct:Value) (OZ:Array (Option Value)),
  fd=fnOf x qual (Il st) (HR st) (j_ st) .none kV doc pm an Hb ct/\K.lookup f=some ⟨oc,od,.func fd,OZ⟩/\codeIn K Hb qual=true
 kp:keepIn K (.ref f)=true
section
variable{P:Program}{w:World}{K:PySem.W.Frag}{mg:Str->Option Value}{base:Heap}
def HP.binds{x qual:Str}{st:Stmt}{f:Addr}{fd:FuncData}{ps:List Str}(F:HP K x qual st f fd)
  (h:∀(kV doc pm:Value) (an:Option Addr) (Hb ct:Value) (us:List Value),us.length=ps.length->bindArgs (fnOf x qual (Il st) (HR st) (j_ st) .none kV doc pm an Hb ct) ⟨us,[]⟩=pure (ps.zip us)):Binds K fd ps []:=by
 obtain⟨oc,od,kV,doc,pm,an,Hb,ct,OZ,rfl,lk,N_⟩:=F.ex;exact .all (h kV doc pm an Hb ct)
def Ej{x qual:Str}{st:Stmt}{f:Addr}{oc:Value}{od an:Option Addr}{OZ:Array (Option Value)}{kV doc pm Hb ct:Value}(l:K.lookup f=some ⟨oc,od,.func (fnOf x qual (Il st) (HR st) (j_ st) .none kV doc pm an Hb ct),OZ⟩)
  (c:codeIn K Hb qual=true) (k:keepIn K (.ref f)=true):HP K x qual st f (fnOf x qual (Il st) (HR st) (j_ st) .none kV doc pm an Hb ct):=⟨⟨oc,od,kV,doc,pm,an,Hb,ct,OZ,rfl,l,c⟩,k⟩
end
section
variable{X:Cx}
end
def OC(H H':Hp):Prop:=∀b o,H b=some o->H' b=some o
def OC.trans{H H1 H2:Hp}(a:OC H H1)(b:OC H1 H2):OC H H2:=fun c o h=>b c o (a c o h)
def OC.seq{K:PySem.W.Frag}{H H':Hp}{a:Addr}{xs:List V}(e:OC H H')(h:Jl K H a xs):Jl K H' a xs:=by
 rcases h with (h|⟨o,h⟩)|h
 ·exact .inl (.inl (e _ _ h))
 ·exact .inl (.inr ⟨o,e _ _ h⟩)
 ·exact .inr h
end L2
namespace DL
open PySem PySem.Spec PyProof.Rows L2
inductive D where
 |G0|bl (b:Bool)|int (i:Int)|str (x:Str)|tup (xs:List D)|JG (xs:List D)|ob (n:Nat)|xn (c:Addr)
inductive Cell where
 |lst (xs:List D)|IT (kvs:List (Key×D))|ins (C:Addr) (ns:List Str) (ds:List D)
inductive R(α:Type) where
 |ok (a:α) (S:List Cell)|exc (c:Addr) (S:List Cell)|bad
abbrev M(α:Type):=List Cell->R α
abbrev tB:=List (Option D)
def M.bind{α β:Type}(m:M α)(k:α->M β):M β:=fun S=>match m S with
 |.ok a S'=>k a S'
 |.exc c S'=>.exc c S'
 |.bad=>.bad
def M.ret{α:Type}(a:α):M α:=fun S=>.ok a S
def M.bad{α:Type}:M α:=fun _=>.bad
def JC{α:Type}(P:Prop)(a b:α):α:=@ite α P (Classical.propDecidable P) a b
def cf{α:Type}{P:Prop}{a b:α}(h:P):JC P a b=a:=by unfold JC;exact if_pos h
def yp{α:Type}{P:Prop}{a b:α}(h:¬P):JC P a b=b:=by unfold JC;exact if_neg h
def PO(K:PySem.W.Frag)(H:Hp)(a:Addr)(xs:List V):Prop:=
 (∃o,H a=some (.NK o (.lst xs)))\/
  ∃(o:Obj) (its:Array Value) (n:Nat),K.lookup a=some o/\o.cls=.type "list"/\o.dict=none/\o.data=.seq its n/\its.size<=sizeLine/\Vals xs its.toList
def PO.sq{K:PySem.W.Frag}{H:Hp}{a:Addr}{xs:List V}(h:PO K H a xs):Jl K H a xs:=by
 rcases h with ⟨o,h⟩|h
 ·exact .inl (.inr ⟨o,h⟩)
 ·exact .inr h
def XO(a c:Addr):HO:=.ext fun h=>∃o,h.get? a=some o/\o.cls=.ref c
mutual
def s_(K:PySem.W.Frag)(H:Hp)(J:List Addr):D->V->Prop
 |.G0,v=>v=.G0
 |.bl b,v=>v=.bl b
 |.int i,v=>v=.int i
 |.str x,v=>v=.str x
 |.tup xs,v=>∃a vs,v=.ref a/\JQ K H a vs/\l_ K H J xs vs
 |.JG xs,v=>∃a vs,v=.ref a/\PO K H a vs/\l_ K H J xs vs
 |.ob n,v=>∃a,v=.ref a/\J[n]?=some a
 |.xn c,v=>∃a,v=.ref a/\H a=some (XO a c)
def l_(K:PySem.W.Frag)(H:Hp)(J:List Addr):List D->List V->Prop
 |[],vs=>vs=[]
 |x :: xs,vs=>∃v r,vs=v :: r/\s_ K H J x v/\l_ K H J xs r
end
def Uo:HO->Bool
 |.tup _=>true
 |.NK _ _=>true
 |.ext _=>true
 |_=>false
structure Ext(H:Hp)(J:List Addr)(H':Hp)(J':List Addr):Prop where
 st:∀b o,H b=some o->Uo o=true->H' b=some o
 pre:∃more,J'=J++more
def Ext.refl(H:Hp)(J:List Addr):Ext H J H J:=⟨fun _ _ e _=>e,[],by simp⟩
def Ext.trans{H H1 H2:Hp}{J J1 J2:List Addr}(a:Ext H J H1 J1)(b:Ext H1 J1 H2 J2):Ext H J H2 J2:=by
 obtain⟨m1,e1⟩:=a.pre;obtain⟨m2,e2⟩:=b.pre;exact⟨fun c o e st=>b.st c o (a.st c o e st) st,m1++m2,by rw[e2,e1,append_assoc]⟩
def Ext.new{H:Hp}{J:List Addr}{p:Addr}{o:HO}(h:H p=none):Ext H J (upd H p o) J:=
 ⟨fun b u e _=>by rw[bg (ba e h)];exact e,[],by simp⟩
def Ext.snoc{H H':Hp}{J J':List Addr}(a:Ext H J H' J')(m:List Addr):Ext H J H' (J'++m):=by
 obtain⟨m1,e1⟩:=a.pre;exact⟨a.st,m1++m,by rw[e1,append_assoc]⟩
def Ext.write{H:Hp}{J:List Addr}{p:Addr}{o u:HO}(h:H p=some u)(hs:Uo u=false):Ext H J (upd H p o) J:=
 ⟨fun b w e st=>by
  have:b≠p:=by
   rintro rfl;rw[h] at e;cases e;rw[hs] at st;cases st
  rw[bg this];exact e,[],by simp⟩
section
variable{K:PySem.W.Frag}{H H':Hp}{J J':List Addr}
def JQ.ext{a:Addr}{vs:List V}(e:Ext H J H' J')(h:JQ K H a vs):JQ K H' a vs:=by
 rcases h with (h|⟨o,h⟩)|h
 ·exact .inl (.inl (e.st _ _ h rfl))
 ·exact .inl (.inr ⟨o,e.st _ _ h rfl⟩)
 ·exact .inr h
def PO.ext{a:Addr}{vs:List V}(e:Ext H J H' J')(h:PO K H a vs):PO K H' a vs:=by
 rcases h with ⟨o,h⟩|h
 ·exact .inl ⟨o,e.st _ _ h rfl⟩
 ·exact .inr h
mutual
theorem s_.ext(e:Ext H J H' J'):∀{d:D}{v:V},s_ K H J d v->s_ K H' J' d v
 |.G0,_,h=>by unfold s_ at h ⊢;exact h
 |.bl _,_,h=>by unfold s_ at h ⊢;exact h
 |.int _,_,h=>by unfold s_ at h ⊢;exact h
 |.str _,_,h=>by unfold s_ at h ⊢;exact h
 |.tup xs,v,h=>by
  unfold s_ at h ⊢;obtain⟨a,vs,h1,h2,h3⟩:=h;exact⟨a,vs,h1,JQ.ext e h2,l_.ext e h3⟩
 |.JG xs,v,h=>by
  unfold s_ at h ⊢;obtain⟨a,vs,h1,h2,h3⟩:=h;exact⟨a,vs,h1,PO.ext e h2,l_.ext e h3⟩
 |.ob n,v,h=>by
  unfold s_ at h ⊢;obtain⟨a,h1,h2⟩:=h;obtain⟨m,em⟩:=e.pre;refine⟨a,h1,?_⟩;rw[em,getElem?_append_left (List.getElem?_eq_some_iff.mp h2).1];exact h2
 |.xn c,v,h=>by
  unfold s_ at h ⊢;obtain⟨a,h1,h2⟩:=h;exact⟨a,h1,e.st _ _ h2 rfl⟩
theorem l_.ext(e:Ext H J H' J'):∀{xs:List D}{vs:List V},l_ K H J xs vs->l_ K H' J' xs vs
 |[],_,h=>by unfold l_ at h ⊢;exact h
 |x :: xs,vs,h=>by
  unfold l_ at h ⊢;obtain⟨v,r,h1,h2,h3⟩:=h;exact⟨v,r,h1,s_.ext e h2,l_.ext e h3⟩
end
theorem l_.length:∀{xs:List D}{vs:List V},l_ K H J xs vs->vs.length=xs.length
 |[],_,h=>by unfold l_ at h;rw[h];rfl
 |x :: xs,vs,h=>by
  unfold l_ at h;obtain⟨v,r,h1,_,h3⟩:=h;rw[h1,length_cons,length_cons,l_.length h3]
theorem l_.get:∀{xs:List D}{vs:List V}{i:Nat}{x:D},l_ K H J xs vs->xs[i]?=some x->∃v,vs[i]?=some v/\s_ K H J x v
 |[],_,_,_,_,e=>by simp at e
 |y :: xs,vs,0,x,h,e=>by
  unfold l_ at h;obtain⟨v,r,h1,h2,_⟩:=h;simp at e;subst e h1;exact⟨v,rfl,h2⟩
 |y :: xs,vs,i+1,x,h,e=>by
  unfold l_ at h;obtain⟨v,r,h1,_,h3⟩:=h;subst h1;exact l_.get (i:=i) h3 (by simpa using e)
theorem l_.append:∀{xs ys:List D}{vs ws:List V},l_ K H J xs vs->l_ K H J ys ws->l_ K H J (xs++ys) (vs++ws)
 |[],_,_,_,h,g=>by unfold l_ at h;rw[h];exact g
 |x :: xs,ys,vs,ws,h,g=>by
  unfold l_ at h;obtain⟨v,r,h1,h2,h3⟩:=h;subst h1;rw[cons_append,cons_append];unfold l_;exact⟨v,_,rfl,h2,l_.append h3 g⟩
def l_.nil:l_ K H J [] []:=by unfold l_;rfl
def l_.cons{x:D}{xs:List D}{v:V}{vs:List V}(h:s_ K H J x v)(t:l_ K H J xs vs):l_ K H J (x :: xs) (v :: vs):=by
 unfold l_;exact⟨v,vs,rfl,h,t⟩
def l_.one{x:D}{v:V}(h:s_ K H J x v):l_ K H J [x] [v]:=.cons h .nil
theorem l_.take:∀{xs:List D}{vs:List V}(n:Nat),l_ K H J xs vs->l_ K H J (xs.take n) (vs.take n)
 |_,_,0,_=>by simp;exact .nil
 |[],_,n+1,h=>by unfold l_ at h;subst h;simp;exact .nil
 |x :: xs,vs,n+1,h=>by
  unfold l_ at h;obtain⟨v,r,h1,h2,h3⟩:=h;subst h1;exact .cons h2 (l_.take n h3)
theorem l_.drop:∀{xs:List D}{vs:List V}(n:Nat),l_ K H J xs vs->l_ K H J (xs.drop n) (vs.drop n)
 |_,_,0,h=>by simpa using h
 |[],_,n+1,h=>by unfold l_ at h;subst h;simp;exact .nil
 |x :: xs,vs,n+1,h=>by
  unfold l_ at h;obtain⟨v,r,h1,h2,h3⟩:=h;subst h1;exact l_.drop n h3
theorem l_.set{d:D}{w:V}(hd:s_ K H J d w):∀{xs:List D}{vs:List V}(n:Nat),l_ K H J xs vs->l_ K H J (xs.set n d) (vs.set n w)
 |[],_,n,h=>by unfold l_ at h;subst h;simp;exact .nil
 |x :: xs,vs,0,h=>by
  unfold l_ at h;obtain⟨v,r,h1,h2,h3⟩:=h;subst h1;exact .cons hd h3
 |x :: xs,vs,n+1,h=>by
  unfold l_ at h;obtain⟨v,r,h1,h2,h3⟩:=h;subst h1;exact .cons h2 (l_.set hd n h3)
def l_.KN{xs:List D}{vs:List V}(h:l_ K H J xs vs):vs=[]↔xs=[]:=by
 have:=h.length;constructor
 ·intro e;subst e;exact List.length_eq_zero_iff.mp (by simpa using this.symm)
 ·intro e;subst e;exact List.length_eq_zero_iff.mp (by simpa using this)
def l_.ints(ns:List Int):l_ K H J (ns.map D.int) (ns.map V.int):=by
 induction ns with
 |nil=>exact .nil
 |cons n r ih=>exact .cons (by unfold s_;rfl) ih
end
def G1{κ:Type}(K:PySem.W.Frag)(H:Hp)(J:List Addr):List (κ×D)->List (κ×V)->Prop
 |[],ws=>ws=[]
 |(k,d) :: r,ws=>∃v t,ws=(k,v) :: t/\s_ K H J d v/\G1 K H J r t
section
variable{κ:Type}{K:PySem.W.Frag}{H H':Hp}{J J':List Addr}
theorem G1.ext(e:Ext H J H' J'):∀{xs:List (κ×D)}{ws:List (κ×V)},G1 K H J xs ws->G1 K H' J' xs ws
 |[],_,h=>h
 |(k,d) :: r,ws,h=>by
  obtain⟨v,t,h1,h2,h3⟩:=h;exact⟨v,t,h1,h2.ext e,G1.ext e h3⟩
theorem G1.length:∀{xs:List (κ×D)}{ws:List (κ×V)},G1 K H J xs ws->ws.length=xs.length
 |[],_,h=>by
  have h':_=[]:=h;rw[h'];rfl
 |(k,d) :: r,ws,h=>by
  obtain⟨v,t,h1,h2,h3⟩:=h;rw[h1,length_cons,length_cons,G1.length h3]
end
def Ku(K:PySem.W.Frag)(H:Hp)(J:List Addr):Cell->Addr->Prop
 |.lst xs,a=>∃vs,H a=some (.lst vs)/\l_ K H J xs vs
 |.IT kvs,a=>∃ws,H a=some (.dK ws)/\G1 K H J kvs ws
 |.ins C ns ds,a=>∃dx ws,H a=some (.ins C dx ws)/\ws.map (·.1)=ns/\l_ K H J ds (ws.map (·.2))
structure G6(K:PySem.W.Frag)(H:Hp)(J:List Addr)(S:List Cell):Prop where
 len:J.length=S.length
 nd:J.Nodup
 at_:∀(n:Nat) c a,S[n]?=some c->J[n]?=some a->Ku K H J c a
section
variable{K:PySem.W.Frag}{H H':Hp}{J J':List Addr}{S:List Cell}{a p:Addr}{c c':Cell}{n:Nat}{o o':HO}
def Ku.Of(h:Ku K H J c a):∃o,H a=some o/\Uo o=false:=by
 cases c with
 |lst xs=>obtain⟨vs,h,_⟩:=h;exact⟨_,h,rfl⟩
 |IT xs=>obtain⟨vs,h,_⟩:=h;exact⟨_,h,rfl⟩
 |ins C ns ds=>obtain⟨dx,vs,h,_⟩:=h;exact⟨_,h,rfl⟩
def Ku.keep(h:Ku K H J c a)(e:Ext H J H' J')(he:H' a=H a):Ku K H' J' c a:=by
 cases c with
 |lst xs=>obtain⟨vs,h,r⟩:=h;exact⟨vs,he.trans h,r.ext e⟩
 |IT xs=>obtain⟨vs,h,r⟩:=h;exact⟨vs,he.trans h,r.ext e⟩
 |ins C ns ds=>obtain⟨dx,vs,h,q,r⟩:=h;exact⟨dx,vs,he.trans h,q,r.ext e⟩
def G6.cell(h:G6 K H J S)(hn:S[n]?=some c):∃a,J[n]?=some a/\Ku K H J c a:=by
 have hi:=(List.getElem?_eq_some_iff.mp hn).1;have hl:=h.len;exact⟨J[n]'(by omega),by simp,h.at_ n c _ hn (by simp)⟩
def G6.Ly(h:G6 K H J S)(hn:J[n]?=some a):∃c,S[n]?=some c/\Ku K H J c a:=by
 have hi:=(List.getElem?_eq_some_iff.mp hn).1;have hl:=h.len;exact⟨S[n]'(by omega),by simp,h.at_ n _ _ (by simp) hn⟩
def G6.held(h:G6 K H J S)(ha:a∈J):∃o,H a=some o/\Uo o=false:=by
 obtain⟨n,hn⟩:=List.mem_iff_getElem?.mp ha;obtain⟨c,_,hc⟩:=h.Ly hn;exact hc.Of
def G6.new(h:G6 K H J S)(hp:H p=none):G6 K (upd H p o) J S where
 len:=h.len
 nd:=h.nd
 at_:=fun n c a hc ha=>by
  have r:=h.at_ n c a hc ha;obtain⟨u,hu,_⟩:=r.Of;exact r.keep (Ext.new hp) (bg (ba hu hp))
def G6.push(h:G6 K H J S)(hp:H p=none)(hc:Ku K (upd H p o) (J++[p]) c p):G6 K (upd H p o) (J++[p]) (S++[c]) where
 len:=by simp[h.len]
 nd:=by
  rw[List.nodup_append];refine⟨h.nd,by simp,?_⟩;intro a ha b hb;simp at hb;subst hb;obtain⟨u,hu,_⟩:=h.held ha;exact ba hu hp
 at_:=fun n c1 a h1 ha=>by
  have hl:=h.len;by_cases hn:n<S.length
  ·rw[getElem?_append_left hn] at h1;rw[getElem?_append_left (by omega)] at ha;have r:=h.at_ n c1 a h1 ha;obtain⟨u,hu,_⟩:=r.Of;exact r.keep ((Ext.new hp).snoc _) (bg (ba hu hp))
  ·have Uj:=(List.getElem?_eq_some_iff.mp h1).1;have e:n=S.length:=by rw[length_append] at Uj;simp at Uj;omega
   subst e;rw[getElem?_append_right (Nat.le_refl _)] at h1;rw[getElem?_append_right (by omega)] at ha;simp at h1;rw[<-hl] at ha;simp at ha;subst h1 ha;exact hc
def G6.write(h:G6 K H J S)(hn:J[n]?=some a)(hc:Ku K (upd H a o) J c' a):G6 K (upd H a o) J (S.set n c') where
 len:=by rw[length_set];exact h.len
 nd:=h.nd
 at_:=fun m c1 b h1 hb=>by
  obtain⟨c0,_,r0⟩:=h.Ly hn;obtain⟨u0,hu0,Yq⟩:=r0.Of;by_cases e:m=n
  ·subst e;rw[hn] at hb;cases hb;rw[getElem?_set] at h1;simp at h1;obtain⟨_,h1⟩:=h1;subst h1;exact hc
  ·rw[getElem?_set_ne (Ne.symm e)] at h1;have r:=h.at_ m c1 b h1 hb;have hab:b≠a:=by
    rintro rfl;exact e ((List.getElem?_inj (List.getElem?_eq_some_iff.mp hb).1 h.nd).mp (hb.trans hn.symm))
   exact r.keep (Ext.write hu0 Yq) (bg hab)
end
structure JR(K:PySem.W.Frag)(H:Hp)(J:List Addr)(r:tB)(σ:L2.St):Prop where
 len:r.length=σ.length
 at_:∀(i:Nat) d,r[i]?=some (some d)->∃v,σ[i]?=some (some v)/\s_ K H J d v
section
variable{K:PySem.W.Frag}{H H':Hp}{J J':List Addr}{r:tB}{σ:L2.St}
def JR.ext(h:JR K H J r σ)(e:Ext H J H' J'):JR K H' J' r σ:=⟨h.len,fun i d q=>let ⟨v,a,b⟩:=h.at_ i d q;⟨v,a,b.ext e⟩⟩
def JR.set(h:JR K H J r σ){i:Nat}{d:D}{v:V}(hd:s_ K H J d v):JR K H J (r.set i (some d)) (σ.set i (some v)) where
 len:=by simp[h.len]
 at_:=fun j d' q=>by
  by_cases e:j=i
  ·subst e;rw[getElem?_set] at q;simp at q;obtain⟨hj,q⟩:=q;subst q;refine⟨v,?_,hd⟩;rw[getElem?_set];simp[<-h.len,hj]
  ·rw[getElem?_set_ne (Ne.symm e)] at q ⊢;exact h.at_ j d' q
end
def JR.start{K:PySem.W.Frag}{H:Hp}{J:List Addr}{N:List Str}{xs:List D}{vs:List V}(h:l_ K H J xs vs) :
  JR K H J (xs.map some++replicate (N.length-xs.length) none) (L2.start N vs) where
 len:=by unfold L2.start;simp[h.length]
 at_:=fun i d q=>by
  have hl:=h.length;unfold L2.start;by_cases hi:i<xs.length
  ·rw[getElem?_append_left (by simpa using hi)] at q;rw[getElem?_append_left (by simp;omega)];rw[getElem?_map] at q ⊢;cases e:xs[i]? with
   |none=>rw[e] at q;simp at q
   |some x=>
    rw[e] at q;simp at q;subst q;obtain⟨v,h1,h2⟩:=h.get e;exact⟨v,by rw[h1];rfl,h2⟩
  ·rw[getElem?_append_right (by simpa using hi)] at q;rw[getElem?_replicate] at q;split at q<;>simp at q
abbrev G4:=List (Addr×Obj)
def TO(T:Addr):HO:=.ext fun h=>∃o,h.get? T=some o
def FH(h:Heap)(a c:Addr):Prop:=∃oe vs a0,h.get? a=some oe/\oe.cls=.ref c/\oe.data=.fields vs/\vs[0]?=some a0/\vs[1]?=some .none
def Tr(h:Heap)(a c T:Addr):Prop:=∃oe vs oT ts a0,h.get? a=some oe/\oe.cls=.ref c/\oe.data=.fields vs/\vs[0]?=some a0/\vs[1]?=some (.ref T)/\T≠a/\h.get? T=some oT/\oT.data=.fields ts/\ts[3]?=some .none
def XF(X:Cx)(H:Hp)(e:Value)(c:Addr)(h:Heap):Prop:=∃a,e=.ref a/\H a=some (XO a c)/\(FH h a c\/∃T,H T=some (TO T)/\Tr h a c T)
structure P6(X:Cx)(pins:G4)(σ:L2.St)(H:Hp)(s:Shared)(e:Value)(c:Addr):Prop where
 inv:Inv X pins σ H s
 fly:XF X H e c s.heap
def Got(K:PySem.W.Frag)(H:Hp)(J:List Addr)(d:D)(S:List Cell):VK:=fun v H'=>∃J',Ext H J H' J'/\G6 K H' J' S/\s_ K H' J' d v
def P7(K:PySem.W.Frag)(H:Hp)(J:List Addr)(ds:List D)(S:List Cell)(vs:List V)(H':Hp):Prop:=∃J',Ext H J H' J'/\G6 K H' J' S/\l_ K H' J' ds vs
def Kj(K:PySem.W.Frag)(H:Hp)(J:List Addr)(S:List Cell)(H':Hp):Prop:=∃J',Ext H J H' J'/\G6 K H' J' S
def XP(X:Cx)(pins:G4)(σ:L2.St)(c:Addr)(G:Hp->Prop)(e:Value)(s':Shared):Prop:=∃H',P6 X pins σ H' s' e c/\G H'
def Mt(X:Cx)(pins:G4)(σ:L2.St)(H:Hp)(J:List Addr)(r:R D)(Q:Value->Shared->Prop)(E:Value->Shared->Prop):Prop:=match r with
 |.ok d S'=>∀u s',EP X pins σ (Got X.K H J d S') u s'->Q u s'
 |.exc c S'=>∀e s',XP X pins σ c (Kj X.K H J S') e s'->E e s'
 |.bad=>False
def ND(X:Cx)(pins:G4)(σ:L2.St)(H:Hp)(J:List Addr)(r:R Bool)(Q:Bool->Shared->Prop)(E:Value->Shared->Prop):Prop:=match r with
 |.ok b S'=>∀s',TP X pins σ (fun _=>Kj X.K H J S') b s'->Q b s'
 |.exc c S'=>∀e s',XP X pins σ c (Kj X.K H J S') e s'->E e s'
 |.bad=>False
def S9(X:Cx)(pins:G4)(σ:L2.St)(H:Hp)(J:List Addr)(r:R (List D))(Q:List Value->Shared->Prop)(E:Value->Shared->Prop):Prop:=match r with
 |.ok ds S'=>∀us s',AP X pins σ (P7 X.K H J ds S') us s'->Q us s'
 |.exc c S'=>∀e s',XP X pins σ c (Kj X.K H J S') e s'->E e s'
 |.bad=>False
section
variable{X:Cx}{pins:G4}{σ:L2.St}{H H1:Hp}{J J1:List Addr}
def Got.ext{K:PySem.W.Frag}{d:D}{S:List Cell}{v:V}{H':Hp}(e:Ext H J H1 J1)(h:Got K H1 J1 d S v H'):Got K H J d S v H':=let ⟨J',a,b,c⟩:=h;⟨J',e.trans a,b,c⟩
def P7.ext{K:PySem.W.Frag}{d:List D}{S:List Cell}{v:List V}{H':Hp}(e:Ext H J H1 J1)(h:P7 K H1 J1 d S v H'):P7 K H J d S v H':=let ⟨J',a,b,c⟩:=h;⟨J',e.trans a,b,c⟩
def Kj.ext{K:PySem.W.Frag}{S:List Cell}{H':Hp}(e:Ext H J H1 J1)(h:Kj K H1 J1 S H'):Kj K H J S H':=let ⟨J',a,b⟩:=h;⟨J',e.trans a,b⟩
def XP.ext{c:Addr}{S:List Cell}{u:Value}{s':Shared}(e:Ext H J H1 J1)(h:XP X pins σ c (Kj X.K H1 J1 S) u s'):XP X pins σ c (Kj X.K H J S) u s':=let ⟨H',a,b⟩:=h;⟨H',a,b.ext e⟩
def Mt.ext{r:R D}{Q E:Value->Shared->Prop}(e:Ext H J H1 J1)(h:Mt X pins σ H J r Q E):Mt X pins σ H1 J1 r Q E:=by
 cases r with
 |ok d S=>exact fun u s' ⟨v,H',I,rv,g⟩=>h u s' ⟨v,H',I,rv,g.ext e⟩
 |exc c S=>exact fun u s' x=>h u s' (x.ext e)
 |bad=>exact h
def ND.ext{r:R Bool}{Q:Bool->Shared->Prop}{E:Value->Shared->Prop}(e:Ext H J H1 J1)(h:ND X pins σ H J r Q E):ND X pins σ H1 J1 r Q E:=by
 cases r with
 |ok d S=>exact fun s' ⟨H',I,g⟩=>h s' ⟨H',I,g.ext e⟩
 |exc c S=>exact fun u s' x=>h u s' (x.ext e)
 |bad=>exact h
def S9.ext{r:R (List D)}{Q:List Value->Shared->Prop}{E:Value->Shared->Prop}(e:Ext H J H1 J1)(h:S9 X pins σ H J r Q E):S9 X pins σ H1 J1 r Q E:=by
 cases r with
 |ok d S=>exact fun u s' ⟨v,H',I,rv,g⟩=>h u s' ⟨v,H',I,rv,g.ext e⟩
 |exc c S=>exact fun u s' x=>h u s' (x.ext e)
 |bad=>exact h
end
structure At(X:Cx)(pins:G4)(σ:L2.St)(H:Hp)(J:List Addr)(r:tB)(S:List Cell)(s:Shared):Prop where
 inv:Inv X pins σ H s
 loc:JR X.K H J r σ
 st:G6 X.K H J S
def Hu(X:Cx)(e:Expr)(f:tB->M D):Prop:=∀(pins:G4) (s:Shared) (σ:L2.St) (H:Hp) (J:List Addr) (r:tB) (S:List Cell) (Q E:Value->Shared->Prop),
 At X pins σ H J r S s->Mt X pins σ H J (f r S) Q E->wpAny (model X.prog X.w) X.A (eval e X.env) Q E s
def Og(X:Cx)(e:Expr)(f:tB->M Bool):Prop:=∀(pins:G4) (s:Shared) (σ:L2.St) (H:Hp) (J:List Addr) (r:tB) (S:List Cell) (Q:Bool->Shared->Prop) (E:Value->Shared->Prop),
 At X pins σ H J r S s->ND X pins σ H J (f r S) Q E->wpAny (model X.prog X.w) X.A (isTrue e X.env (eval e X.env)) Q E s
def Lc(X:Cx)(e:Expr)(f:tB->M Bool):Prop:=∀(whole:Sem Value) (pins:G4) (s:Shared) (σ:L2.St) (H:Hp) (J:List Addr) (r:tB) (S:List Cell) (Q:Bool->Shared->Prop) (E:Value->Shared->Prop),
 At X pins σ H J r S s->ND X pins σ H J (f r S) Q E->wpAny (model X.prog X.w) X.A (isTrue e X.env whole) Q E s
def Lc.pt{X:Cx}{e:Expr}{f:tB->M Bool}(h:Lc X e f):Og X e f:=h _
def M8(X:Cx)(es:List Expr)(f:tB->M (List D)):Prop:=∀(pos:Pos) (pins:G4) (s:Shared) (σ:L2.St) (H:Hp) (J:List Addr) (r:tB) (S:List Cell) (Q:List Value->Shared->Prop) (E:Value->Shared->Prop),
 At X pins σ H J r S s->S9 X pins σ H J (f r S) Q E->wpAny (model X.prog X.w) X.A (spliced (backTo pos (starEach es X.env))) Q E s
def KU(X:Cx)(f:Value->Value->Sem Value)(g:D->D->M D):Prop:=∀(pins:G4) (s:Shared) (σ:L2.St) (H:Hp) (J:List Addr) (S:List Cell) (x y:D) (vx vy:V) (v u:Value) (Q E:Value->Shared->Prop),
 Inv X pins σ H s->G6 X.K H J S->s_ X.K H J x vx->s_ X.K H J y vy->RelV vx v->RelV vy u->Mt X pins σ H J (g x y S) Q E->wpAny (model X.prog X.w) X.A (f v u) Q E s
def S_(X:Cx)(f:Value->Sem Value)(g:D->M D):Prop:=∀(pins:G4) (s:Shared) (σ:L2.St) (H:Hp) (J:List Addr) (S:List Cell) (x:D) (vx:V) (v:Value) (Q E:Value->Shared->Prop),
 Inv X pins σ H s->G6 X.K H J S->s_ X.K H J x vx->RelV vx v->Mt X pins σ H J (g x S) Q E->wpAny (model X.prog X.w) X.A (f v) Q E s
def IJ(X:Cx)(f:Value)(g:List D->M D):Prop:=∀(pins:G4) (s:Shared) (σ:L2.St) (H:Hp) (J:List Addr) (S:List Cell) (xs:List D) (vs:List V) (us:List Value) (Q E:Value->Shared->Prop),
 Inv X pins σ H s->G6 X.K H J S->l_ X.K H J xs vs->Vals vs us->Mt X pins σ H J (g xs S) Q E->wpAny (model X.prog X.w) X.A (call f us) Q E s
section
variable{X:Cx}{a b c:Expr}{fa fb fc:tB->M D}{pos:Pos}
def EP.HN{pins:G4}{σ:L2.St}{E:Value->Shared->Prop}{Q:VK}{u:Value}{s':Shared}(h:EP (X.Hw E) pins σ Q u s'):EP X pins σ Q u s':=let ⟨v,H',I,r,q⟩:=h;⟨v,H',I.HN,r,q⟩
def KU.of{f:Value->Value->Sem Value}{r:R2}{g:D->D->M D}(h:∀E,MJ (X.Hw E) f r)
  (hg:∀(H:Hp) (J:List Addr) (S:List Cell) (x y:D) (vx vy:V) (d:D) (S':List Cell),G6 X.K H J S->s_ X.K H J x vx->s_ X.K H J y vy->g x y S=.ok d S'->r vx vy H (Got X.K H J d S'))
  (hn:∀x y S c S',g x y S≠.exc c S'):KU X f g:=by
 intro pins s σ H J S x y vx vy v u Q E I rs rx ry rv ru m;cases e:g x y S with
 |ok d S'=>
  rw[e] at m;exact wpAny_mono (h E pins s σ H vx vy v u _ (I.Hw E) rv ru (hg H J S x y vx vy d S' rs rx ry e)) (fun u s' q=>m u s' (EP.HN q)) fun _ _ z=>z
 |exc c S'=>exact absurd e (hn _ _ _ _ _)
 |bad=>rw[e] at m;exact m.elim
def S_.of{f:Value->Sem Value}{r:V->Hp->VK->Prop}{g:D->M D}(h:∀E,Va (X.Hw E) f r)
  (hg:∀(H:Hp) (J:List Addr) (S:List Cell) (x:D) (vx:V) (d:D) (S':List Cell),G6 X.K H J S->s_ X.K H J x vx->g x S=.ok d S'->r vx H (Got X.K H J d S'))
  (hn:∀x S c S',g x S≠.exc c S'):S_ X f g:=by
 intro pins s σ H J S x vx v Q E I rs rx rv m;cases e:g x S with
 |ok d S'=>
  rw[e] at m;exact wpAny_mono (h E pins s σ H vx v _ (I.Hw E) rv (hg H J S x vx d S' rs rx e)) (fun u s' q=>m u s' (EP.HN q)) fun _ _ z=>z
 |exc c S'=>exact absurd e (hn _ _ _ _)
 |bad=>rw[e] at m;exact m.elim
def IJ.of{f:Value}{r:List V->Hp->VK->Prop}{g:List D->M D}(h:∀E,rW (X.Hw E) f r)
  (hg:∀(H:Hp) (J:List Addr) (S:List Cell) (xs:List D) (vs:List V) (d:D) (S':List Cell),G6 X.K H J S->l_ X.K H J xs vs->g xs S=.ok d S'->r vs H (Got X.K H J d S'))
  (hn:∀xs S c S',g xs S≠.exc c S'):IJ X f g:=by
 intro pins s σ H J S xs vs us Q E I rs rx rv m;cases e:g xs S with
 |ok d S'=>
  rw[e] at m;exact wpAny_mono (h E pins s σ H vs us _ (I.Hw E) rv (hg H J S xs vs d S' rs rx e)) (fun u s' q=>m u s' (EP.HN q)) fun _ _ z=>z
 |exc c S'=>exact absurd e (hn _ _ _ _)
 |bad=>rw[e] at m;exact m.elim
def go1(ha:Hu X a fa){α:Type}{t:Value->Sem α}{Q:α->Shared->Prop}{E:Value->Shared->Prop}{pins:G4}{s:Shared}{σ:L2.St}{H:Hp}{J:List Addr}{r:tB}{S:List Cell}(I:At X pins σ H J r S s)
  (Hc:∀x S1,fa r S=.ok x S1->∀v s1 vx H1 J1,At X pins σ H1 J1 r S1 s1->Ext H J H1 J1->s_ X.K H1 J1 x vx->RelV vx v->wpAny (model X.prog X.w) X.A (t v) Q E s1)
  (hx:∀c S1,fa r S=.exc c S1->∀e s',XP X pins σ c (Kj X.K H J S1) e s'->E e s') (hb:fa r S≠.bad) :
  wpAny (model X.prog X.w) X.A (eval a X.env) (fun v s1=>wpAny (model X.prog X.w) X.A (t v) Q E s1) E s:=by
 refine ha pins s σ H J r S _ E I ?_;cases e:fa r S with
 |ok x S1=>exact fun u s' ⟨vx,H1,I1,r1,J1,ex,rs,rv⟩=>Hc x S1 e u s' vx H1 J1 ⟨I1,I.loc.ext ex,rs⟩ ex rv r1
 |exc c S1=>exact fun u s' x=>hx c S1 e u s' x
 |bad=>exact hb e
def go2(ha:Hu X a fa)(hb:Hu X b fb){f:Value->Value->Sem Value}{g:D->D->M D}(ho:KU X f g){Q E:Value->Shared->Prop}{pins:G4}{s:Shared}{σ:L2.St}{H:Hp}{J:List Addr}{r:tB}{S:List Cell}
  (I:At X pins σ H J r S s) (m:Mt X pins σ H J ((fa r).bind (fun x=>(fb r).bind fun y=>g x y) S) Q E) :
  wpAny (model X.prog X.w) X.A (eval a X.env) (fun v Ho=>wpAny (model X.prog X.w) X.A (eval b X.env) (fun u O3=>wpAny (model X.prog X.w) X.A (f v u) Q E O3) E Ho) E s:=by
 refine ha pins s σ H J r S _ E I ?_;unfold M.bind at m;cases e:fa r S with
 |bad=>rw[e] at m;exact m
 |exc c S1=>rw[e] at m;exact m
 |ok x S1=>
  rw[e] at m;intro u s' ⟨vx,H1,I1,r1,J1,ex,rs,rv⟩;refine hb pins s' σ H1 J1 r S1 _ E ⟨I1,I.loc.ext ex,rs⟩ ?_;dsimp only at m;cases e2:fb r S1 with
  |bad=>rw[e2] at m;exact m
  |exc c S2=>rw[e2] at m;exact Mt.ext (r:=.exc c S2) (Q:=fun _ _=>True) ex m
  |ok y S2=>
   rw[e2] at m;intro u2 s2 ⟨vy,H2,I2,r2,J2,LY,KP,MK⟩;exact ho pins s2 σ H2 J2 S2 x y vx vy u u2 Q E I2 KP (rv.ext LY) MK r1 r2 (Mt.ext (ex.trans LY) m)
def g_(g:D->D->M D)(fa fb:tB->M D):tB->M D:=fun r=>(fa r).bind fun x=>(fb r).bind fun y=>g x y
def bG{op:Operator}{g:D->D->M D}(ho:KU X (binaryOp op) g)(ha:Hu X a fa)(hb:Hu X b fb):Hu X (.BinOp a op b pos) (g_ g fa fb):=
 fun pins s σ H J r S Q E I m=>wpAny_BinOp (go2 ha hb ho I m)
def lr{op:CmpOp}{g:D->D->M D}(ho:KU X (compareOp op) g)(ha:Hu X a fa)(hb:Hu X b fb)(hm:behindInMarks op b=false):Hu X (.Compare a [op] [b] pos) (g_ g fa fb):=
 fun pins s σ H J r S Q E I m=>wpAny_Compare1 (go2 ha hb ho I m) hm
def ox(i:Nat):tB->M D:=fun r S=>match r[i]? with
 |some (some d)=>.ok d S
 |_=>.bad
def dC(d:D):tB->M D:=fun _ S=>.ok d S
def Mt.JU{pins:G4}{s:Shared}{σ:L2.St}{H:Hp}{J:List Addr}{S:List Cell}{d:D}{v:V}{u:Value}{Q E:Value->Shared->Prop}(m:Mt X pins σ H J (.ok d S) Q E)(I:Inv X pins σ H s)(rs:G6 X.K H J S)(rv:s_ X.K H J d v)(r:RelV v u):Q u s:=
 m u s ⟨v,H,I,r,J,Ext.refl _ _,rs,rv⟩
def ac(i:Nat){x:Str}(hN:X.N[i]?=some x:=by rfl)(hv:UZ X.env.scope x:=by first|exact Or.inl rfl|exact Or.inr (Or.inl rfl)|exact Or.inr (Or.inr rfl))(hd:(x == ("__debug__":Str))=false:=by decide)
  (N_:(x == ("__classdict__":Str))=false:=by decide):Hu X (.Name x pos) (ox i):=by
 intro pins s σ H J r S Q E I m;unfold ox at m;cases e:r[i]? with
 |none=>rw[e] at m;exact m.elim
 |some o=>
  cases o with
  |none=>rw[e] at m;exact m.elim
  |some d=>
   rw[e] at m;obtain⟨v,h1,h2⟩:=I.loc.at_ i d e;exact wpAny_mono (Ev (X:=X.Hw E) hN hv hd N_ pins s σ H (Got X.K H J d S) (I.inv.Hw E) ⟨v,h1,J,Ext.refl _ _,I.st,h2⟩) (fun u s' q=>m u s' (EP.HN q)) fun _ _ z=>z
def ao{i j pos}:Hu X (.Constant (.int i) j pos) (dC (.int i)):=fun pins s σ H J r S Q E I m=>
 wpAny_Constant_int (m.JU (I.inv.tok _) I.st (v:=.int i) (by unfold s_;rfl) ⟨_,rfl⟩)
def nY{i j pos}:Hu X (.Constant (.bool i) j pos) (dC (.bl i)):=fun pins s σ H J r S Q E I m=>
 Constant_bool (m.JU I.inv I.st (v:=.bl i) (by unfold s_;rfl) rfl)
def uF{j pos}:Hu X (.Constant .none j pos) (dC .G0):=fun pins s σ H J r S Q E I m=>
 Constant_none (m.JU I.inv I.st (v:=.G0) (by unfold s_;rfl) rfl)
def aK{i j pos}:Hu X (.Constant (.str i) j pos) (dC (.str i)):=fun pins s σ H J r S Q E I m=>
 Calls.Constant_str (m.JU (I.inv.tok _) I.st (v:=.str i) (by unfold s_;rfl) ⟨_,rfl⟩)
def Ll(K:PySem.W.Frag)(d:D)(u:Value):Prop:=∀H J,∃v,RelV v u/\s_ K H J d v
def DD{x:Str}{d:D}{u:Value}{pos:Pos}(hg:Gl X x)(hm:X.mg x=some u)(kr:Ll X.K d u)(hd:(x == ("__debug__":Str))=false:=by decide):Hu X (.Name x pos) (dC d):=by
 intro pins s σ H J r S Q E I m;obtain⟨v,h1,h2⟩:=kr H J;exact lV I.inv hg hm (m.JU I.inv I.st h2 h1) hd
def Rq:D->M Bool
 |.bl b=>fun S=>.ok b S
 |_=>fun _=>.bad
def am(f:tB->M D):tB->M Bool:=fun r=>(f r).bind Rq
def s_.O4{K:PySem.W.Frag}{H:Hp}{J:List Addr}{b:Bool}{v:V}(h:s_ K H J (.bl b) v):v=.bl b:=by unfold s_ at h;exact h
def s_.Ic{K:PySem.W.Frag}{H:Hp}{J:List Addr}{b:Int}{v:V}(h:s_ K H J (.int b) v):v=.int b:=by unfold s_ at h;exact h
def s_.O5{K:PySem.W.Frag}{H:Hp}{J:List Addr}{b:Str}{v:V}(h:s_ K H J (.str b) v):v=.str b:=by unfold s_ at h;exact h
def s_.NN{K:PySem.W.Frag}{H:Hp}{J:List Addr}{v:V}(h:s_ K H J .G0 v):v=.G0:=by unfold s_ at h;exact h
def s_.Kv{K:PySem.W.Frag}{H:Hp}{J:List Addr}{xs:List D}{v:V}(h:s_ K H J (.tup xs) v):∃a vs,v=.ref a/\JQ K H a vs/\l_ K H J xs vs:=by unfold s_ at h;exact h
def s_.ML{K:PySem.W.Frag}{H:Hp}{J:List Addr}{xs:List D}{v:V}(h:s_ K H J (.JG xs) v):∃a vs,v=.ref a/\PO K H a vs/\l_ K H J xs vs:=by unfold s_ at h;exact h
def s_.Kw{K:PySem.W.Frag}{H:Hp}{J:List Addr}{n:Nat}{v:V}(h:s_ K H J (.ob n) v):∃a,v=.ref a/\J[n]?=some a:=by unfold s_ at h;exact h
def s_.xn_{K:PySem.W.Frag}{H:Hp}{J:List Addr}{n:Nat}{v:V}(h:s_ K H J (.xn n) v):∃a,v=.ref a/\H a=some (XO a n):=by unfold s_ at h;exact h
def s_.int(K:PySem.W.Frag)(H:Hp)(J:List Addr)(b:Int):s_ K H J (.int b) (.int b):=by unfold s_;rfl
def s_.bl(K:PySem.W.Frag)(H:Hp)(J:List Addr)(b:Bool):s_ K H J (.bl b) (.bl b):=by unfold s_;rfl
def s_.str(K:PySem.W.Frag)(H:Hp)(J:List Addr)(b:Str):s_ K H J (.str b) (.str b):=by unfold s_;rfl
def s_.G0(K:PySem.W.Frag)(H:Hp)(J:List Addr):s_ K H J .G0 .G0:=by unfold s_;rfl
def s_.tup{K:PySem.W.Frag}{H:Hp}{J:List Addr}{xs:List D}{a:Addr}{vs:List V}(h:JQ K H a vs)(g:l_ K H J xs vs):s_ K H J (.tup xs) (.ref a):=by unfold s_;exact⟨a,vs,rfl,h,g⟩
def s_.ob{K:PySem.W.Frag}{H:Hp}{J:List Addr}{n:Nat}{a:Addr}(h:J[n]?=some a):s_ K H J (.ob n) (.ref a):=by unfold s_;exact⟨a,rfl,h⟩
def ND.P8{pins:G4}{σ:L2.St}{H:Hp}{J:List Addr}{rd:R D}{S:List Cell}{f:tB->M D}{r:tB}{Q:Bool->Shared->Prop}{E:Value->Shared->Prop}(m:ND X pins σ H J (am f r S) Q E) :
  Mt X pins σ H J (f r S) (fun v s'=>wpAny (model X.prog X.w) X.A (truthy v) Q E s') E:=by
 unfold am M.bind at m;cases e:f r S with
 |bad=>rw[e] at m;exact m
 |exc c S1=>rw[e] at m;exact m
 |ok x S1=>
  rw[e] at m;intro u s' ⟨vx,H1,I1,r1,J1,ex,rs,rv⟩;cases x with
  |bl b=>
   cases rv.O4;cases r1;exact wpAny_truthy_bool (m s' ⟨H1,I1,J1,ex,rs⟩)
  |_=>exact m.elim
def aD{op:CmpOp}{g:D->D->M D}(ho:KU X (compareOp op) g)(ha:Hu X a fa)(hb:Hu X b fb)(hm:behindInMarks op b=false):Og X (.Compare a [op] [b] pos) (am (g_ g fa fb)):=by
 intro pins s σ H J r S Q E I m;refine wpAny_isTrue_Compare1 ?_ hm;have m':=ND.P8 (rd:=.bad) m;have:=go2 ha hb ho I m';exact this
def dg(t u:tB->M Bool):tB->M Bool:=fun r=>(t r).bind fun c=>if c=true then u r else M.ret false
def JH(t u:tB->M Bool):tB->M Bool:=fun r=>(t r).bind fun c=>if c=true then M.ret true else u r
def dl(t:tB->M Bool):tB->M Bool:=fun r=>(t r).bind fun c=>M.ret (!c)
variable{tA SN:tB->M Bool}{rest:List Expr}
def Vl{t:Sem Bool}{f:M Bool}{k:Bool->M Bool}{pins:G4}{s:Shared}{σ:L2.St}{H:Hp}{J:List Addr}{r:tB}{S:List Cell}{Q:Bool->Shared->Prop}{Q':Bool->Shared->Prop}{E:Value->Shared->Prop}(I:At X pins σ H J r S s)
  (ha:∀Q1,ND X pins σ H J (f S) Q1 E->wpAny (model X.prog X.w) X.A t Q1 E s) (m:ND X pins σ H J (f.bind k S) Q E)
  (hk:∀c S1 s1 H1 J1,At X pins σ H1 J1 r S1 s1->ND X pins σ H1 J1 (k c S1) Q E->Q' c s1):wpAny (model X.prog X.w) X.A t Q' E s:=by
 refine ha _ ?_;unfold M.bind at m;cases e:f S with
 |bad=>rw[e] at m;exact m
 |exc c S1=>rw[e] at m;exact m
 |ok x S1=>
  rw[e] at m;intro s' ⟨H1,I1,J1,ex,rs⟩;exact hk x S1 s' H1 J1 ⟨I1,I.loc.ext ex,rs⟩ (ND.ext ex m)
def dD(ha:Og X a tA):Lc X (.BoolOp .And [a] pos) tA:=by
 intro wh pins s σ H J r S Q E I m;refine isTrue_and (ha pins s σ H J r S _ E I ?_);cases e:tA r S with
 |bad=>rw[e] at m;exact m
 |exc c S1=>rw[e] at m;exact m
 |ok x S1=>
  rw[e] at m;intro s' h;cases x with
  |true=>exact isTrue_and_nil (m s' h)
  |false=>exact m s' h
def lM(ha:Og X a tA):Lc X (.BoolOp .Or [a] pos) tA:=by
 intro wh pins s σ H J r S Q E I m;refine isTrue_or (ha pins s σ H J r S _ E I ?_);cases e:tA r S with
 |bad=>rw[e] at m;exact m
 |exc c S1=>rw[e] at m;exact m
 |ok x S1=>
  rw[e] at m;intro s' h;cases x with
  |false=>exact isTrue_or_nil (m s' h)
  |true=>exact m s' h
def ND.JU{pins:G4}{s:Shared}{σ:L2.St}{H:Hp}{J:List Addr}{r:tB}{S:List Cell}{b:Bool}{Q:Bool->Shared->Prop}{E:Value->Shared->Prop}(m:ND X pins σ H J (.ok b S) Q E)(I:At X pins σ H J r S s):Q b s:=
 m s ⟨H,I.inv,J,Ext.refl _ _,I.st⟩
def eA(ha:Og X a tA)(hb:Lc X (.BoolOp .And (b :: rest) pos) SN):Lc X (.BoolOp .And (a :: b :: rest) pos) (dg tA SN):=by
 intro wh pins s σ H J r S Q E I m;refine isTrue_and (Vl (r:=r) I (fun Q1=>ha pins s σ H J r S Q1 E I) m fun c S1 s1 H1 J1 I1 m1=>?_);cases c with
 |true=>exact hb wh pins s1 σ H1 J1 r S1 Q E I1 m1
 |false=>exact m1.JU I1
def ku(ha:Og X a tA)(hb:Lc X (.BoolOp .Or (b :: rest) pos) SN):Lc X (.BoolOp .Or (a :: b :: rest) pos) (JH tA SN):=by
 intro wh pins s σ H J r S Q E I m;refine isTrue_or (Vl (r:=r) I (fun Q1=>ha pins s σ H J r S Q1 E I) m fun c S1 s1 H1 J1 I1 m1=>?_);cases c with
 |false=>exact hb wh pins s1 σ H1 J1 r S1 Q E I1 m1
 |true=>exact m1.JU I1
def iw(ha:Og X a tA):Og X (.UnaryOp .Not a pos) (dl tA):=by
 intro pins s σ H J r S Q E I m;exact isTrue_not (Vl (r:=r) I (fun Q1=>ha pins s σ H J r S Q1 E I) m fun c S1 s1 H1 J1 I1 m1=>m1.JU I1)
def kM(fa fb:tB->M D):tB->M D:=fun r=>(am fa r).bind fun c=>if c=true then fb r else M.ret (.bl false)
def Ey(fa fb:tB->M D):tB->M D:=fun r=>(am fa r).bind fun c=>if c=true then M.ret (.bl true) else fb r
def BZ(fa:tB->M D):tB->M D:=fun r=>(am fa r).bind fun c=>M.ret (.bl (!c))
def Vm(ha:Hu X a fa){k:Bool->M D}{pins:G4}{s:Shared}{σ:L2.St}{H:Hp}{J:List Addr}{r:tB}{S:List Cell}{Q Q':Value->Shared->Prop}{E:Value->Shared->Prop}(I:At X pins σ H J r S s)
  (m:Mt X pins σ H J ((am fa r).bind k S) Q E) (hk:∀c S1 s1 H1 J1,At X pins σ H1 J1 r S1 s1->Mt X pins σ H1 J1 (k c S1) Q E->Q' (.bool c) s1):wpAny (model X.prog X.w) X.A (eval a X.env) Q' E s:=by
 refine ha pins s σ H J r S _ E I ?_;unfold am M.bind at m;cases e:fa r S with
 |bad=>rw[e] at m;exact m
 |exc c S1=>rw[e] at m;exact m
 |ok x S1=>
  rw[e] at m;intro u s' ⟨vx,H1,I1,r1,J1,ex,rs,rv⟩;cases x with
  |bl b=>
   cases rv.O4;cases r1;exact hk b S1 s' H1 J1 ⟨I1,I.loc.ext ex,rs⟩ (Mt.ext ex m)
  |_=>exact m.elim
def ol{op}(h:Hu X a fa):Hu X (.BoolOp op [a] pos) fa:=fun pins s σ H J r S Q E I m=>BoolOp_one (h pins s σ H J r S Q E I m)
def mt(ha:Hu X a fa)(hb:Hu X (.BoolOp .And (b :: rest) pos) fb):Hu X (.BoolOp .And (a :: b :: rest) pos) (kM fa fb):=by
 intro pins s σ H J r S Q E I m;refine BoolOp_and (Vm ha I m fun c S1 s1 H1 J1 I1 m1=>wpAny_truthy_bool ?_);cases c with
 |true=>exact hb pins s1 σ H1 J1 r S1 Q E I1 m1
 |false=>exact m1.JU I1.inv I1.st (s_.bl _ _ _ false) rfl
def Fn(ha:Hu X a fa)(hb:Hu X (.BoolOp .Or (b :: rest) pos) fb):Hu X (.BoolOp .Or (a :: b :: rest) pos) (Ey fa fb):=by
 intro pins s σ H J r S Q E I m;refine BoolOp_or (Vm ha I m fun c S1 s1 H1 J1 I1 m1=>wpAny_truthy_bool ?_);cases c with
 |false=>exact hb pins s1 σ H1 J1 r S1 Q E I1 m1
 |true=>exact m1.JU I1.inv I1.st (s_.bl _ _ _ true) rfl
def EU(ha:Hu X a fa):Hu X (.UnaryOp .Not a pos) (BZ fa):=by
 intro pins s σ H J r S Q E I m;exact UnaryOp_ (Vm ha I m fun c S1 s1 H1 J1 I1 m1=>not_of (wpAny_truthy_bool (m1.JU I1.inv I1.st (s_.bl _ _ _ (!c)) rfl)))
def Ta(t:tB->M Bool)(fa fb:tB->M D):tB->M D:=fun r=>(t r).bind fun c=>if c=true then fa r else fb r
def GE{t:Sem Bool}{f:M Bool}{k:Bool->M D}{pins:G4}{s:Shared}{σ:L2.St}{H:Hp}{J:List Addr}{r:tB}{S:List Cell}{Q:Value->Shared->Prop}{Q':Bool->Shared->Prop}{E:Value->Shared->Prop}(I:At X pins σ H J r S s)
  (ha:∀Q1,ND X pins σ H J (f S) Q1 E->wpAny (model X.prog X.w) X.A t Q1 E s) (m:Mt X pins σ H J (f.bind k S) Q E)
  (hk:∀c S1 s1 H1 J1,At X pins σ H1 J1 r S1 s1->Mt X pins σ H1 J1 (k c S1) Q E->Q' c s1):wpAny (model X.prog X.w) X.A t Q' E s:=by
 refine ha _ ?_;unfold M.bind at m;cases e:f S with
 |bad=>rw[e] at m;exact m
 |exc c S1=>rw[e] at m;exact m
 |ok x S1=>
  rw[e] at m;intro s' ⟨H1,I1,J1,ex,rs⟩;exact hk x S1 s' H1 J1 ⟨I1,I.loc.ext ex,rs⟩ (Mt.ext ex m)
def Ce{c:Expr}(hc:Og X c tA)(ha:Hu X a fa)(hb:Hu X b fb):Hu X (.IfExp c a b pos) (Ta tA fa fb):=by
 intro pins s σ H J r S Q E I m;refine wpAny_IfExp (GE (r:=r) I (fun Q1=>hc pins s σ H J r S Q1 E I) m fun d S1 s1 H1 J1 I1 m1=>?_);cases d with
 |true=>exact ha pins s1 σ H1 J1 r S1 Q E I1 m1
 |false=>exact hb pins s1 σ H1 J1 r S1 Q E I1 m1
def oW(g g':D->D->M D)(fa fb fc:tB->M D):tB->M D:=fun r=>(fa r).bind fun x=>(fb r).bind fun y=>((g x y).bind Rq).bind fun k=>if k=true then (fc r).bind fun z=>g' y z else M.ret (.bl false)
def qO{op M9:CmpOp}{g g':D->D->M D}(ho:KU X (compareOp op) g)(Nc:KU X (compareOp M9) g')(ha:Hu X a fa)(hb:Hu X b fb)(hc:Hu X c fc)
  (hm:lastMarks [op,M9] [b,c]=false:=by with_unfolding_all rfl):Hu X (.Compare a [op,M9] [b,c] pos) (oW g g' fa fb fc):=by
 intro pins s σ H J r S Q E I m;refine Compare_chain (ha pins s σ H J r S _ E I ?_) hm;unfold oW M.bind at m;cases e1:fa r S with
 |bad=>rw[e1] at m;exact m
 |exc c S1=>rw[e1] at m;exact m
 |ok x S1=>
  rw[e1] at m;intro v s1 ⟨vx,H1,I1,r1,J1,JS,Ke,Jx⟩;refine chain_link (hb pins s1 σ H1 J1 r S1 _ E ⟨I1,I.loc.ext JS,Ke⟩ ?_);have m:=Mt.ext JS m;dsimp only at m;cases e2:fb r S1 with
  |bad=>rw[e2] at m;exact m
  |exc c S2=>rw[e2] at m;exact m
  |ok y S2=>
   rw[e2] at m;intro u s2 ⟨vy,H2,I2,r2,J2,LY,KP,MK⟩;have m:=Mt.ext LY m;dsimp only at m;refine ho pins s2 σ H2 J2 S2 x y vx vy v u _ E I2 KP (Jx.ext LY) MK r1 r2 ?_;cases e3:g x y S2 with
   |bad=>rw[e3] at m;exact m
   |exc c S3=>rw[e3] at m;exact m
   |ok z S3=>
    rw[e3] at m;intro w s3 ⟨vz,H3,I3,r3,J3,Sa,QS,Tb⟩;have m:=Mt.ext Sa m;dsimp only at m;cases z with
    |bl k=>
     cases Tb.O4;cases r3;refine wpAny_truthy_bool ?_;cases k with
     |false=>exact ite_ff (m.JU I3 QS (s_.bl _ _ _ false) rfl)
     |true=>
      refine ite_tt (chain_last (hc pins s3 σ H3 J3 r S3 _ E ⟨I3,((I.loc.ext JS).ext LY).ext Sa,QS⟩ ?_));simp only[Rq,if_true,M.bind] at m;cases e4:fc r S3 with
      |bad=>rw[e4] at m;exact m
      |exc c S4=>rw[e4] at m;exact m
      |ok z S4=>
       rw[e4] at m;intro w s4 ⟨vz,H4,I4,r4,J4,Yr,rs4,Vn⟩;exact Nc pins s4 σ H4 J4 S4 y z vy vz u w _ E I4 rs4 ((MK.ext Sa).ext Yr) Vn r2 r4 (Mt.ext Yr m)
    |_=>exact m.elim
def ai:tB->M (List D):=fun _=>M.ret []
def aa(f:tB->M D)(g:tB->M (List D)):tB->M (List D):=fun r=>(f r).bind fun x=>(g r).bind fun xs=>M.ret (x :: xs)
variable{e:Expr}{es:List Expr}{fe:tB->M D}{ft:tB->M (List D)}
def ag:M8 X [] ai:=fun _ pins s σ H J r S Q E I m=>spliced_nil (m [] s ⟨[],H,I.inv,.nil,J,Ext.refl _ _,I.st,.nil⟩)
def ae(ha:Hu X e fe)(hr:M8 X es ft)(hs:starEach (e :: es) X.env=(false,eval e X.env) :: starEach es X.env:=by rfl):M8 X (e :: es) (aa fe ft):=by
 intro pos pins s σ H J r S Q E I m;rw[hs];show wpAny _ _ (spliced ((false,eval e X.env) :: backTo pos (starEach es X.env))) _ _ s;refine spliced_cons (ha pins s σ H J r S _ E I ?_);unfold aa M.bind at m;cases e1:fe r S with
 |bad=>rw[e1] at m;exact m
 |exc c S1=>rw[e1] at m;exact m
 |ok x S1=>
  rw[e1] at m;intro v s1 ⟨vx,H1,I1,r1,J1,JS,Ke,Jx⟩;refine hr pos pins s1 σ H1 J1 r S1 _ E ⟨I1,I.loc.ext JS,Ke⟩ ?_;have m:=S9.ext JS m;dsimp only at m;cases e2:ft r S1 with
  |bad=>rw[e2] at m;exact m
  |exc c S2=>rw[e2] at m;exact m
  |ok xs S2=>
   rw[e2] at m;intro us s2 ⟨vs,H2,I2,r2,J2,LY,KP,MK⟩;exact m (v :: us) s2 ⟨vx :: vs,H2,I2,.cons r1 r2,J2,LY,KP,.cons (Jx.ext LY) MK⟩
def Up(h:M8 X es ft){k:List D->M D}{pins:G4}{s:Shared}{σ:L2.St}{H:Hp}{J:List Addr}{r:tB}{S:List Cell}{Q E:Value->Shared->Prop}{Q':List Value->Shared->Prop}(I:At X pins σ H J r S s)
  (m:Mt X pins σ H J ((ft r).bind k S) Q E) (hk:∀xs S1 s1 H1 J1 vs us,At X pins σ H1 J1 r S1 s1->l_ X.K H1 J1 xs vs->Vals vs us->Mt X pins σ H1 J1 (k xs S1) Q E->Q' us s1) (pos:Pos) :
  wpAny (model X.prog X.w) X.A (spliced (backTo pos (starEach es X.env))) Q' E s:=by
 refine h pos pins s σ H J r S _ E I ?_;unfold M.bind at m;cases e1:ft r S with
 |bad=>rw[e1] at m;exact m
 |exc c S1=>rw[e1] at m;exact m
 |ok x S1=>
  rw[e1] at m;intro us s1 ⟨vs,H1,I1,r1,J1,JS,Ke,Jx⟩;exact hk x S1 s1 H1 J1 vs us ⟨I1,I.loc.ext JS,Ke⟩ Jx r1 (Mt.ext JS m)
def oJ(xs:List D):M D:=fun S=>JC (xs.length<=sizeLine) (.ok (.tup xs) S) .bad
def oS(xs:List D):M D:=fun S=>JC (xs.length<=sizeLine) (.ok (.ob S.length) (S++[.lst xs])) .bad
def Got.tup{K:PySem.W.Frag}{H:Hp}{J:List Addr}{S:List Cell}{xs:List D}{vs:List V}{p:Addr}(rs:G6 K H J S)(rv:l_ K H J xs vs)(hp:H p=none):Got K H J (.tup xs) S (.ref p) (upd H p (.tup vs)):=
 ⟨J,Ext.new hp,rs.new hp,.tup (JQ.of bC) (rv.ext (Ext.new hp))⟩
def Got.lst{K:PySem.W.Frag}{H:Hp}{J:List Addr}{S:List Cell}{xs:List D}{vs:List V}{p:Addr}(rs:G6 K H J S)(rv:l_ K H J xs vs)(hp:H p=none):Got K H J (.ob S.length) (S++[.lst xs]) (.ref p) (upd H p (.lst vs)):=
 ⟨J++[p],(Ext.new hp).snoc _,rs.push hp ⟨vs,bC,rv.ext ((Ext.new hp).snoc _)⟩,.ob (by rw[<-rs.len];simp)⟩
def Mt.val{pins:G4}{s:Shared}{σ:L2.St}{H H':Hp}{J:List Addr}{S:List Cell}{d:D}{v:V}{u:Value}{Q E:Value->Shared->Prop}(m:Mt X pins σ H J (.ok d S) Q E)(I:Inv X pins σ H' s)(r:RelV v u)(g:Got X.K H J d S v H'):Q u s:=
 m u s ⟨v,H',I,r,g⟩
def bY(ft:tB->M (List D)):tB->M D:=fun r=>(ft r).bind oJ
def cg(ft:tB->M (List D)):tB->M D:=fun r=>(ft r).bind oS
def bU{x1}(h:M8 X es ft):Hu X (.Tuple es x1 pos) (bY ft):=by
 intro pins s σ H J r S Q E I m;refine wpAny_Tuple_spliced (Up h I m (fun xs S1 s1 H1 J1 vs us I1 rv r1 m1=>?_) pos);unfold oJ JC at m1;split at m1
 ·rename_i z;have z':vs.length<=sizeLine:=by rw[rv.length];exact z
  refine⟨by rw[<-r1.length];exact z',?_⟩;have hf:H1 s1.heap.objs.size=none:=I1.inv.Hc.fresh (Nat.le_refl _);refine m1.val (H':=upd H1 s1.heap.objs.size (.tup vs)) (v:=.ref s1.heap.objs.size) (I1.inv.laid (t':=s1.toks) (fun b u e=>get?_push_of_some _ e) (Nat.le_refl _) ?_) rfl (Got.tup I1.st rv hf);exact⟨z',us,r1,⟨_,get?_push_size _ rfl,rfl,_,rfl⟩⟩
 ·exact m1.elim
def cq(h:M8 X es ft):Hu X (.List es pos) (cg ft):=by
 intro pins s σ H J r S Q E I m;refine wpAny_List_spliced (Up h I m (fun xs S1 s1 H1 J1 vs us I1 rv r1 m1=>?_) pos);unfold oS JC at m1;split at m1
 ·rename_i z;have z':vs.length<=sizeLine:=by rw[rv.length];exact z
  refine⟨by rw[<-r1.length];exact z',?_⟩;have hf:H1 s1.heap.objs.size=none:=I1.inv.Hc.fresh (Nat.le_refl _);refine m1.val (H':=upd H1 s1.heap.objs.size (.lst vs)) (v:=.ref s1.heap.objs.size) (I1.inv.laid (t':=s1.toks) (fun b u e=>get?_push_of_some _ e) (Nat.le_refl _) ?_) rfl (Got.lst I1.st rv hf);exact⟨z',us,0,r1,get?_push_size _ rfl⟩
 ·exact m1.elim
def Sd(X:Cx)(g:D->D->M D):Prop:=∀(value slice:Expr) (pins:G4) (s:Shared) (σ:L2.St) (H:Hp) (J:List Addr) (S:List Cell) (x y:D) (vx vy:V) (v u:Value) (Q E:Value->Shared->Prop),
 Inv X pins σ H s->G6 X.K H J S->s_ X.K H J x vx->s_ X.K H J y vy->RelV vx v->RelV vy u->subscripted slice false v u=operate [v,u] (getItem v u)->Mt X pins σ H J (g x y S) Q E->wpAny (model X.prog X.w) X.A (subscriptTail value slice v u) Q E s
def Sd.of{r:R2}{g:D->D->M D}(h:∀E,Rl (X.Hw E) r)
  (hg:∀(H:Hp) (J:List Addr) (S:List Cell) (x y:D) (vx vy:V) (d:D) (S':List Cell),G6 X.K H J S->s_ X.K H J x vx->s_ X.K H J y vy->g x y S=.ok d S'->r vx vy H (Got X.K H J d S'))
  (hn:∀x y S c S',g x y S≠.exc c S'):Sd X g:=by
 intro value slice pins s σ H J S x y vx vy v u Q E I rs rx ry rv ru hs m;cases e:g x y S with
 |ok d S'=>
  rw[e] at m;exact wpAny_mono (h E value slice pins s σ H vx vy v u _ (I.Hw E) rv ru (hg H J S x y vx vy d S' rs rx ry e) hs) (fun u s' q=>m u s' (EP.HN q)) fun _ _ z=>z
 |exc c S'=>exact absurd e (hn _ _ _ _ _)
 |bad=>rw[e] at m;exact m.elim
def aL{g:D->D->M D}(hr:Sd X g)(ha:Hu X a fa)(hb:Hu X b fb)(hs:Dc b):Hu X (.Subscript a b pos) (g_ g fa fb):=by
 intro pins s σ H J r S Q E I m;refine Subscript_ (ha pins s σ H J r S _ E I ?_);unfold g_ M.bind at m;cases e:fa r S with
 |bad=>rw[e] at m;exact m
 |exc c S1=>rw[e] at m;exact m
 |ok x S1=>
  rw[e] at m;intro u s' ⟨vx,H1,I1,r1,J1,ex,rs,rv⟩;refine hb pins s' σ H1 J1 r S1 _ E ⟨I1,I.loc.ext ex,rs⟩ ?_;dsimp only at m;have m:=Mt.ext ex m;cases e2:fb r S1 with
  |bad=>rw[e2] at m;exact m
  |exc c S2=>rw[e2] at m;exact m
  |ok y S2=>
   rw[e2] at m;intro u2 s2 ⟨vy,H2,I2,r2,J2,LY,KP,MK⟩;exact hr a b pins s2 σ H2 J2 S2 x y vx vy u u2 Q E I2 KP (rv.ext LY) MK r1 r2 (hs _ _) (Mt.ext LY m)
def MtO(X:Cx)(pins:G4)(σ:L2.St)(H:Hp)(J:List Addr)(r:R (Option Int))(Q:Value->Shared->Prop)(E:Value->Shared->Prop):Prop:=match r with
 |.ok o S'=>∀u s' H',Inv X pins σ H' s'->Kj X.K H J S' H'->IsPart u o->Q u s'
 |.exc c S'=>∀e s',XP X pins σ c (Kj X.K H J S') e s'->E e s'
 |.bad=>False
def Uq(X:Cx)(e:Option Expr)(f:tB->M (Option Int)):Prop:=∀(pins:G4) (s:Shared) (σ:L2.St) (H:Hp) (J:List Addr) (r:tB) (S:List Cell) (Q E:Value->Shared->Prop),
 At X pins σ H J r S s->MtO X pins σ H J (f r S) Q E->wpAny (model X.prog X.w) X.A (evalPart e X.env) Q E s
def bV:tB->M (Option Int):=fun _=>M.ret none
def Bo:D->M (Option Int)
 |.int i=>M.ret (some i)
 |_=>M.bad
def bL(f:tB->M D):tB->M (Option Int):=fun r=>(f r).bind Bo
def jl:Uq X none bV:=by
 intro pins s σ H J r S Q E I m;rw[evalPart_none];exact wpAny_pure (m .none s H I.inv ⟨J,Ext.refl _ _,I.st⟩ .none)
def df(h:Hu X e fe):Uq X (some e) (bL fe):=by
 intro pins s σ H J r S Q E I m;rw[evalPart_some];refine h pins s σ H J r S _ E I ?_;unfold bL M.bind at m;cases e1:fe r S with
 |bad=>rw[e1] at m;exact m
 |exc c S1=>rw[e1] at m;exact m
 |ok x S1=>
  rw[e1] at m;intro u s' ⟨vx,H1,I1,r1,J1,ex,rs,rv⟩;cases x with
  |int i=>
   cases rv.Ic;obtain⟨t,rfl⟩:=r1;exact m _ s' H1 I1 ⟨J1,ex,rs⟩ (.int i t)
  |_=>exact m.elim
def Ys(X:Cx)(g:D->Option Int->Option Int->M D):Prop:=∀(pins:G4) (s:Shared) (σ:L2.St) (H:Hp) (J:List Addr) (S:List Cell) (x:D) (vx:V) (v vl vu:Value) (lo hi:Option Int) (sl:Addr) (Q E:Value->Shared->Prop),
 Inv X pins σ H s->G6 X.K H J S->s_ X.K H J x vx->RelV vx v->s.heap.IsSliceOf sl vl vu .none->IsPart vl lo->IsPart vu hi->Mt X pins σ H J (g x lo hi S) Q E->
  ∃T id,typeLookup (.type T) "__getitem__"=pure (some (.builtin id))/\s.TypeIs v T/\wpAny (model X.prog X.w) X.A (getItem v (.ref sl)) Q E s
def JT(g:D->Option Int->Option Int->M D)(fe:tB->M D)(fl fh:tB->M (Option Int)):tB->M D:=fun r=>(fe r).bind fun x=>(fl r).bind fun l=>(fh r).bind fun h=>g x l h
def eR{g:D->Option Int->Option Int->M D}{lo hi:Option Expr}{fl fh:tB->M (Option Int)}{p2:Pos}(hr:Ys X g)(he:Hu X e fe)(hl:Uq X lo fl)(hu:Uq X hi fh):Hu X (.Subscript e (.Slice lo hi none p2) pos) (JT g fe fl fh):=by
 intro pins s σ H J r S Q E I m;refine Subscript_ (he pins s σ H J r S _ E I ?_);unfold JT M.bind at m;cases e1:fe r S with
 |bad=>rw[e1] at m;exact m
 |exc c S1=>rw[e1] at m;exact m
 |ok x S1=>
  rw[e1] at m;intro v s1 ⟨vx,H1,I1,r1,J1,JS,Ke,Jx⟩;refine wpAny_Slice (hl pins s1 σ H1 J1 r S1 _ E ⟨I1,I.loc.ext JS,Ke⟩ ?_);have m:=Mt.ext JS m;dsimp only at m;cases e2:fl r S1 with
  |bad=>rw[e2] at m;exact m
  |exc c S2=>rw[e2] at m;exact m
  |ok l S2=>
   rw[e2] at m;intro vl s2 H2 I2 ⟨J2,LY,KP⟩ pl;have m:=Mt.ext LY m;dsimp only at m;refine hu pins s2 σ H2 J2 r S2 _ E ⟨I2,(I.loc.ext JS).ext LY,KP⟩ ?_;cases e3:fh r S2 with
   |bad=>rw[e3] at m;exact m
   |exc c S3=>rw[e3] at m;exact m
   |ok u S3=>
    rw[e3] at m;intro vu s3 H3 I3 ⟨J3,Sa,QS⟩ pu;have m:=Mt.ext Sa m;rw[evalPart_none];refine wpAny_pure ?_;have I4:Inv X pins σ H3 { s3 with heap:=s3.heap.push { cls:=.type "slice",data:=.fields #[vl,vu,.none] } }:=I3.kept (t':=s3.toks) fun b ob q=>get?_push_of_some _ q
    obtain⟨T,id,hT,ht,hg⟩:=hr pins { s3 with heap:=s3.heap.push { cls:=.type "slice",data:=.fields #[vl,vu,.none] } } σ H3 J3 S3 x vx v vl vu l u s3.heap.objs.size Q E I4 QS ((Jx.ext LY).ext Sa) r1 (Heap.IsSliceOf.new ..) pl pu m;show wpAny (model X.prog X.w) X.A (subscriptTail e (.Slice lo hi none p2) v (.ref s3.heap.objs.size)) Q E { s3 with heap:=s3.heap.push { cls:=.type "slice",data:=.fields #[vl,vu,.none] } };exact tail_any (ops:=[.ref s3.heap.objs.size,v]) ht hT hg (by with_unfolding_all rfl)
def ak(g:List D->M D)(ft:tB->M (List D)):tB->M D:=fun r=>(ft r).bind g
def bj{x:Str}{p:Pos}{id:String}{g:List D->M D}(hc:IJ X (.builtin id) g)(hg:Gl X x)(hm:X.mg x=none)(hv:bootBuiltins x=some (.builtin id))(ha:M8 X (e :: es) ft)(hn:x≠"__name__":=by decide)(OD:(x == ("__debug__":Str))=false:=by decide)
  (he:starEach (e :: es) X.env=(false,eval e X.env) :: starEach es X.env:=by rfl) (Ng:(backTo pos (starEach es X.env)).any (·.1)=false:=by rfl):Hu X (.Call (.Name x p) (e :: es) [] pos) (ak g ft):=by
 intro pins s σ H J r S Q E I m;refine wpAny_Call_Name_kw (kH I.inv hg hm hv ?_ hn OD);exact PyProof.Rows.callWith_builtin1 (Up ha I m (fun xs S1 s1 H1 J1 vs us I1 rv r1 m1=>hc pins s1 σ H1 J1 S1 xs vs us Q E I1.inv I1.st rv r1 m1) pos) he Ng
def dG{x:Str}{p:Pos}{T:String}{g:List D->M D}(hc:IJ X (.type T) g)(hg:Gl X x)(hm:X.mg x=none)(hv:bootBuiltins x=some (.type T))(ha:M8 X (e :: es) ft)(hn:x≠"__name__":=by decide)(OD:(x == ("__debug__":Str))=false:=by decide)
  (he:starEach (e :: es) X.env=(false,eval e X.env) :: starEach es X.env:=by rfl) (Ng:(backTo pos (starEach es X.env)).any (·.1)=false:=by rfl):Hu X (.Call (.Name x p) (e :: es) [] pos) (ak g ft):=by
 intro pins s σ H J r S Q E I m;refine wpAny_Call_Name_kw (kH I.inv hg hm hv ?_ hn OD);exact PyProof.Rows.callWith_type1 (Up ha I m (fun xs S1 s1 H1 J1 vs us I1 rv r1 m1=>hc pins s1 σ H1 J1 S1 xs vs us Q E I1.inv I1.st rv r1 m1) pos) he Ng
def Yt(K:PySem.W.Frag)(n:Nat)(F:List D->M D):Sp:=fun vs H Q E=>vs.length=n/\∃J xs S,l_ K H J xs vs/\G6 K H J S/\match F xs S with
 |.ok d S'=>∀v H',Got K H J d S' v H'->Q v H'
 |.exc c S'=>∀H',Kj K H J S' H'->E (.ref c) none H'
 |.bad=>False
def o6(CX:Lk)(X:Cx):Prop:=∀(E0:XK) (pins:G4) (σ:L2.St) (H:Hp) (s:Shared) (e:Value) (s':Shared),Inv X pins σ H s->CX X.stack H s E0 e s'->∃c H',P6 X pins σ H' s' e c/\E0 (.ref c) none H'
abbrev HW(P:Program)(w:World)(K:PySem.W.Frag)(mg:Str->Option Value)(base:Heap)(CX:Lk)(k:Nat)(f:Addr)(fd:FuncData)(ps:List Str)(F:List D->M D):Prop:=L3 P w K mg base CX k f fd ps (Yt K ps.length F)
def uB{CX:Lk}{k:Nat}{f:Addr}{fd:FuncData}{ps:List Str}{F:List D->M D}{pins:G4}{σ:L2.St}{H:Hp}{J:List Addr}{S:List Cell}{s:Shared}{Q E:Value->Shared->Prop}{xs:List D}{vs:List V}{us:List Value}
  (hF:HW X.prog X.w X.K X.mg X.base CX k f fd ps F) (hr:IL k X.A) (hb:Binds X.K fd ps []) (hx:o6 CX X) (I:Inv X pins σ H s) (rs:G6 X.K H J S) (rx:l_ X.K H J xs vs) (rv:Vals vs us) (hl:xs.length=ps.length)
  (m:Mt X pins σ H J (F xs S) Q E):wpAny (model X.prog X.w) X.A (call (.ref f) us) Q E s:=by
 have hlen:(us++[]).length=ps.length:=by rw[append_nil,<-rv.length,rx.length];exact hl
 have P9:=hb s us I.Ls hlen;rw[append_nil] at P9;refine wpAny_call (codeAny_mono (hF.run X.A X.stack s H ⟨us,[]⟩ us vs (fun v H'=>∃d S',F xs S=.ok d S'/\Got X.K H J d S' v H') (fun cl _ H'=>∃c S',F xs S=.exc c S'/\cl=.ref c/\Kj X.K H J S' H') hr I.SQ P9 rv ?_) fun rr s' hq=>?_)
 ·refine⟨by rw[rx.length];exact hl,J,xs,S,rx,rs,?_⟩;cases e:F xs S with
  |ok d S'=>exact fun v H' g=>⟨d,S',rfl,g⟩
  |exc c S'=>exact fun H' g=>⟨c,S',rfl,rfl,g⟩
  |bad=>rw[e] at m;exact m
 ·cases rr with
  |error e=>
   obtain⟨c,H',XI,c',S',e1,e2,g⟩:=hx _ pins σ H s e s' I hq;cases e2;rw[e1] at m;exact m e s' ⟨H',XI,g⟩
  |ok fl=>
   cases fl with
   |ret u=>
    obtain⟨v,H',I',r',d,S',e1,g⟩:=I.after hq;rw[e1] at m;exact m u s' ⟨v,H',I',r',g⟩
   |next=>exact False.elim hq
   |brk=>exact False.elim hq
   |cont=>exact False.elim hq
def DC{CX:Lk}{k:Nat}{f:Addr}{fd:FuncData}{ps:List Str}{F:List D->M D}{x:Str}{p:Pos}(hF:HW X.prog X.w X.K X.mg X.base CX k f fd ps F)(hr:IL k X.A)(hg:Gl X x)(hm:X.mg x=some (.ref f))(hk:keepIn X.K (.ref f)=true)
  (hb:Binds X.K fd ps []) (hx:o6 CX X) (ha:M8 X (e :: es) ft) (hl:∀r S xs S',ft r S=.ok xs S'->xs.length=ps.length)
  (OD:(x == ("__debug__":Str))=false:=by decide) (he:starEach (e :: es) X.env=(false,eval e X.env) :: starEach es X.env:=by rfl) (Ng:(backTo pos (starEach es X.env)).any (·.1)=false:=by rfl) :
  Hu X (.Call (.Name x p) (e :: es) [] pos) (ak F ft):=by
 intro pins s σ H J r S Q E I m;refine wpAny_Call_Name_kw (lV I.inv hg hm ?_ OD);refine callWith_K (h₀:=X.base) I.inv.ok.mod.R5 hk ?_ he Ng;refine ha pos pins s σ H J r S _ E I ?_;unfold ak M.bind at m;cases e1:ft r S with
 |bad=>rw[e1] at m;exact m
 |exc c S1=>rw[e1] at m;exact m
 |ok xs S1=>
  rw[e1] at m;intro us s1 ⟨vs,H1,I1,r1,J1,JS,Ke,Jx⟩;exact⟨I1.Ls,uB hF hr hb hx I1 Ke Jx r1 (hl r S xs S1 e1) (Mt.ext JS m)⟩
end
inductive Fl where
 |nx (r:tB)|rt (d:D)|bk (r:tB)|ct (r:tB)|xc (c:Addr) (r:tB)
abbrev NG:=Option (Fl×List Cell)
abbrev Hd:=tB->List Cell->NG
def L5(X:Cx)(pins:G4)(H:Hp)(J:List Addr)(x:NG)(Q:Flow->Shared->Prop)(E:Value->Shared->Prop):Prop:=match x with
 |none=>False
 |some (.nx r',S')=>∀s' HE H' J',At X pins HE H' J' r' S' s'->Ext H J H' J'->Q .next s'
 |some (.bk r',S')=>∀s' HE H' J',At X pins HE H' J' r' S' s'->Ext H J H' J'->Q .brk s'
 |some (.ct r',S')=>∀s' HE H' J',At X pins HE H' J' r' S' s'->Ext H J H' J'->Q .cont s'
 |some (.rt d,S')=>∀u s' HE,EP X pins HE (Got X.K H J d S') u s'->Q (.ret u) s'
 |some (.xc c r',S')=>∀e s' HE H' J',P6 X pins HE H' s' e c->JR X.K H' J' r' HE->G6 X.K H' J' S'->Ext H J H' J'->E e s'
def L5.ext{X:Cx}{pins:G4}{H H1:Hp}{J J1:List Addr}{x:NG}{Q:Flow->Shared->Prop}{E:Value->Shared->Prop}(e:Ext H J H1 J1)(h:L5 X pins H J x Q E):L5 X pins H1 J1 x Q E:=by
 match x,h with
 |none,h=>exact h
 |some (.nx r',S'),h=>exact fun s' HE H' J' a x=>h s' HE H' J' a (e.trans x)
 |some (.bk r',S'),h=>exact fun s' HE H' J' a x=>h s' HE H' J' a (e.trans x)
 |some (.ct r',S'),h=>exact fun s' HE H' J' a x=>h s' HE H' J' a (e.trans x)
 |some (.rt d,S'),h=>exact fun u s' HE ⟨v,H',I,rv,g⟩=>h u s' HE ⟨v,H',I,rv,g.ext e⟩
 |some (.xc c r',S'),h=>exact fun u s' HE H' J' a b c x=>h u s' HE H' J' a b c (e.trans x)
def NO(X:Cx)(st:Stmt)(t:Hd):Prop:=∀(pins:G4) (s:Shared) (σ:L2.St) (H:Hp) (J:List Addr) (r:tB) (S:List Cell) (Q:Flow->Shared->Prop) (E:Value->Shared->Prop),
 At X pins σ H J r S s->L5 X pins H J (t r S) Q E->wpAny (model X.prog X.w) X.A (exec st X.env) Q E s
def oo(X:Cx)(st:List Stmt)(t:Hd):Prop:=∀(pins:G4) (s:Shared) (σ:L2.St) (H:Hp) (J:List Addr) (r:tB) (S:List Cell) (Q:Flow->Shared->Prop) (E:Value->Shared->Prop),
 At X pins σ H J r S s->L5 X pins H J (t r S) Q E->wpAny (model X.prog X.w) X.A (execs st X.env) Q E s
def cA{α:Type}(m:M α)(r:tB)(k:α->List Cell->NG):List Cell->NG:=fun S=>match m S with
 |.ok a S'=>k a S'
 |.exc c S'=>some (.xc c r,S')
 |.bad=>none
def bD:Hd:=fun r S=>some (.nx r,S)
def aI(t u:Hd):Hd:=fun r S=>match t r S with
 |some (.nx r',S')=>u r' S'
 |o=>o
section
variable{X:Cx}{st:Stmt}{rest:List Stmt}{t u:Hd}{e:Expr}{fe:tB->M D}{pos:Pos}
def aZ:oo X [] bD:=fun pins s σ H J r S Q E I m=>wpAny_execs_nil (m s σ H J I (Ext.refl _ _))
def aq(h1:NO X st t)(h2:oo X rest u):oo X (st :: rest) (aI t u):=by
 intro pins s σ H J r S Q E I m;refine wpAny_execs_cons (h1 pins s σ H J r S _ E I ?_);unfold aI at m
 match e:t r S with
 |none=>rw[e] at m;exact m
 |some (.nx r',S')=>
  rw[e] at m;exact fun s' HE H' J' a x=>h2 pins s' HE H' J' r' S' Q E a (L5.ext x m)
 |some (.bk r',S')=>rw[e] at m;exact m
 |some (.ct r',S')=>rw[e] at m;exact m
 |some (.rt d,S')=>rw[e] at m;exact m
 |some (.xc c r',S')=>rw[e] at m;exact m
def al(h1:NO X st t):oo X [st] t:=by
 intro pins s σ H J r S Q E I m;refine wpAny_execs_cons (h1 pins s σ H J r S _ E I ?_)
 match e:t r S with
 |none=>rw[e] at m;exact m
 |some (.nx r',S')=>rw[e] at m;exact fun s' HE H' J' a x=>wpAny_execs_nil (m s' HE H' J' a x)
 |some (.bk r',S')=>rw[e] at m;exact m
 |some (.ct r',S')=>rw[e] at m;exact m
 |some (.rt d,S')=>rw[e] at m;exact m
 |some (.xc c r',S')=>rw[e] at m;exact m
def Tc(he:Hu X e fe){k:D->List Cell->NG}{pins:G4}{s:Shared}{σ:L2.St}{H:Hp}{J:List Addr}{r:tB}{S:List Cell}{Q:Flow->Shared->Prop}{E:Value->Shared->Prop}{Q':Value->Shared->Prop}(I:At X pins σ H J r S s)
  (m:L5 X pins H J (cA (fe r) r k S) Q E) (hk:∀x S1 v s1 vx H1 J1,At X pins σ H1 J1 r S1 s1->s_ X.K H1 J1 x vx->RelV vx v->L5 X pins H1 J1 (k x S1) Q E->Q' v s1) :
  wpAny (model X.prog X.w) X.A (eval e X.env) Q' E s:=by
 refine he pins s σ H J r S _ E I ?_;unfold cA at m;cases e1:fe r S with
 |bad=>rw[e1] at m;exact m
 |exc c S1=>
  rw[e1] at m;exact fun x s' ⟨H',XI,J',ex,rs⟩=>m x s' σ H' J' XI (I.loc.ext ex) rs ex
 |ok x S1=>
  rw[e1] at m;exact fun v s1 ⟨vx,H1,I1,r1,J1,ex,rs,rv⟩=>hk x S1 v s1 vx H1 J1 ⟨I1,I.loc.ext ex,rs⟩ rv r1 (L5.ext ex m)
def GF{te:tB->M Bool}(he:Og X e te){k:Bool->List Cell->NG}{pins:G4}{s:Shared}{σ:L2.St}{H:Hp}{J:List Addr}{r:tB}{S:List Cell}{Q:Flow->Shared->Prop}{E:Value->Shared->Prop}{Q':Bool->Shared->Prop}(I:At X pins σ H J r S s)
  (m:L5 X pins H J (cA (te r) r k S) Q E) (hk:∀b S1 s1 H1 J1,At X pins σ H1 J1 r S1 s1->L5 X pins H1 J1 (k b S1) Q E->Q' b s1) :
  wpAny (model X.prog X.w) X.A (isTrue e X.env (eval e X.env)) Q' E s:=by
 refine he pins s σ H J r S _ E I ?_;unfold cA at m;cases e1:te r S with
 |bad=>rw[e1] at m;exact m
 |exc c S1=>
  rw[e1] at m;exact fun x s' ⟨H',XI,J',ex,rs⟩=>m x s' σ H' J' XI (I.loc.ext ex) rs ex
 |ok x S1=>
  rw[e1] at m;exact fun s1 ⟨H1,I1,J1,ex,rs⟩=>hk x S1 s1 H1 J1 ⟨I1,I.loc.ext ex,rs⟩ (L5.ext ex m)
def bu(fe:tB->M D):Hd:=fun r=>cA (fe r) r fun _ S=>some (.nx r,S)
def aP(he:Hu X e fe)(hs:swapsWith e none pos.line X.env=pure false:=by rfl):NO X (.Expr e pos) (bu fe):=by
 intro pins s σ H J r S Q E I m;exact wpAny_Expr_any (Tc he I m fun x S1 v s1 vx H1 J1 I1 rv r1 m1=>m1 s1 σ H1 J1 I1 (Ext.refl _ _)) I.inv.quiet hs
def bJ(fe:tB->M D):Hd:=fun r=>cA (fe r) r fun d S=>some (.rt d,S)
def aV(he:Hu X e fe):NO X (.Return (some e) pos) (bJ fe):=by
 intro pins s σ H J r S Q E I m;exact wpAny_Return_some (Tc he I m fun x S1 v s1 vx H1 J1 I1 rv r1 m1=>m1 v s1 σ ⟨vx,H1,I1.inv,r1,J1,Ext.refl _ _,I1.st,rv⟩)
def HX(c:tB->M Bool)(t u:Hd):Hd:=fun r=>cA (c r) r fun b S=>if b=true then t r S else u r S
def bw{c:Expr}{a b:List Stmt}{tc:tB->M Bool}(hc:Og X c tc)(ha:oo X a t)(hb:oo X b u):NO X (.If c a b pos) (HX tc t u):=by
 intro pins s σ H J r S Q E I m;refine wpAny_If (GF hc I m fun d S1 s1 H1 J1 I1 m1=>?_);cases d with
 |true=>exact ha pins s1 σ H1 J1 r S1 Q E I1 m1
 |false=>exact hb pins s1 σ H1 J1 r S1 Q E I1 m1
abbrev MC:=D->tB->Option tB
def QT(X:Cx)(tg:Expr)(t:MC):Prop:=∀(pins:G4) (s:Shared) (σ:L2.St) (H:Hp) (J:List Addr) (r:tB) (S:List Cell) (d:D) (v:V) (u:Value) (Q:Unit->Shared->Prop) (E:Value->Shared->Prop) (r':tB),
 At X pins σ H J r S s->s_ X.K H J d v->RelV v u->t d r=some r'->(∀s' HE H' J',At X pins HE H' J' r' S s'->Ext H J H' J'->Q () s')->wpAny (model X.prog X.w) X.A (assign tg X.env u) Q E s
def gN(i:Nat):MC:=fun d r=>some (r.set i (some d))
def bP{i:Nat}{x:Str}(hN:X.N.Nodup)(hi:X.N[i]?=some x:=by rfl)(hx:Loc X.env.scope x:=by first|exact Or.inl rfl|exact Or.inr rfl)(hf:X.fn x=true\/X.env.scope.names.lookup x=some .local:=by first|exact .inl rfl|exact .inr rfl|assumption):QT X (.Name x pos) (gN i):=by
 intro pins s σ H J r S d v u Q E r' I rv ru e k;cases e;refine wpAny_mono (CI (X:=X.Hw E) hN hi hx hf pins s σ H v u (fun HE H'=>HE=σ.set i (some v)/\H'=H) (I.inv.Hw E) ru ⟨rfl,rfl⟩) (fun _ s' q=>?_) fun _ _ z=>z
 obtain⟨HE,H',I',rfl,rfl⟩:=q;exact k s' _ _ J ⟨I'.HN,I.loc.set rv,I.st⟩ (Ext.refl _ _)
def QU:List Nat->List D->tB->Option tB
 |[],[],r=>some r
 |i :: is,d :: ds,r=>QU is ds (r.set i (some d))
 |_,_,_=>none
def gT(is:List Nat):MC:=fun d r=>match d with
 |.tup ds=>QU is ds r
 |_=>none
def Dq(X:Cx)(ts:List Expr)(is:List Nat):Prop:=∀(pins:G4) (s:Shared) (σ:L2.St) (H:Hp) (J:List Addr) (r:tB) (S:List Cell) (ds:List D) (vs:List V) (us:List Value) (Q:Unit->Shared->Prop) (E:Value->Shared->Prop) (r':tB),
 At X pins σ H J r S s->l_ X.K H J ds vs->Vals vs us->QU is ds r=some r'->(∀s' HE H' J',At X pins HE H' J' r' S s'->Ext H J H' J'->Q () s')->wpAny (model X.prog X.w) X.A (assignInOrder ((assignEach ts X.env).map (·.2)) us) Q E s
def pY:Dq X [] []:=by
 intro pins s σ H J r S ds vs us Q E r' I rv ru e k;cases ds with
 |nil=>
  cases e;unfold l_ at rv;subst rv;cases ru;rw[show(assignEach [] X.env).map (·.2)=[] from rfl];exact assignInOrder_nil (k s σ H J I (Ext.refl _ _))
 |cons d ds=>cases e
def gP{ex:Expr}{es:List Expr}{i:Nat}{is:List Nat}(h1:QT X ex (gN i))(h2:Dq X es is)
  (hs:(assignEach (ex :: es) X.env).map (·.2)=assign ex X.env :: (assignEach es X.env).map (·.2):=by rfl):Dq X (ex :: es) (i :: is):=by
 intro pins s σ H J r S ds vs us Q E r' I rv ru e k;cases ds with
 |nil=>cases e
 |cons d ds=>
  unfold l_ at rv;obtain⟨v,vr,rfl,Jx,MK⟩:=rv;cases ru with
  |cons q1 q2=>
   rw[hs];refine assignInOrder_cons (h1 pins s σ H J r S d v _ _ E _ I Jx q1 rfl fun s1 Se H1 J1 I1 x1=>?_);exact h2 pins s1 Se H1 J1 _ S ds vr _ Q E r' I1 (MK.ext x1) q2 e fun s' HE H' J' a x=>k s' HE H' J' a (x1.trans x)
theorem y8:∀{is:List Nat}{ds:List D}{r r':tB},QU is ds r=some r'->ds.length=is.length
 |[],[],_,_,_=>rfl
 |i :: is,d :: ds,r,r',h=>by
  rw[length_cons,length_cons,y8 (show QU is ds (r.set i (some d))=some r' from h)]
 |[],d :: ds,r,r',h=>by cases h
 |i :: is,[],r,r',h=>by cases h
def uY{es:List Expr}{k:Nat}{is:List Nat}(hc:X.calm=true)(h:Dq X es is)(hn:(assignEach es X.env).length=is.length:=by rfl)(IU:(assignEach es X.env).findIdx? (·.1)=none:=by rfl):QT X (.Tuple es k pos) (gT is):=by
 intro pins s σ H J r S d v u Q E r' I rv ru e k;cases d with
 |tup ds=>
  obtain⟨a,vs,rfl,hq,Hz⟩:=rv.Kv;cases ru;obtain⟨its,rel,ht,hz⟩:=I.inv.tuple hq;have e':QU is ds r=some r':=e;have hl:=y8 e';refine assign_Tuple_tuple (I.inv.ok.hd hc) ht (by simp[hn,<-hl,<-Hz.length,rel.length]) IU fun h' hx=>?_
  have I1:Inv X pins σ H { s with heap:=h' }:=I.inv.kept (t':=s.toks) fun b o e=>hx b o (ne_of_lt (lt_size e)) e
  exact h pins _ σ H J r S ds vs _ Q E r' ⟨I1,I.loc,I.st⟩ Hz (by simpa using rel) e' k
 |_=>cases e
def cz(fe:tB->M D)(g:MC):Hd:=fun r=>cA (fe r) r fun d S=>match g d r with
 |some r'=>some (.nx r',S)
 |none=>none
def bI{i:Nat}{x:Str}{pos':Pos}(hN:X.N.Nodup)(he:Hu X e fe)(hi:X.N[i]?=some x:=by rfl)(hx:Loc X.env.scope x:=by first|exact Or.inl rfl|exact Or.inr rfl)(hs:swapsWith e (some (.Name x pos')) pos.line X.env=pure false:=by rfl)
  (hf:X.fn x=true\/X.env.scope.names.lookup x=some .local:=by first|exact .inl rfl|exact .inr rfl|assumption):NO X (.Assign [.Name x pos'] e pos) (cz fe (gN i)):=by
 intro pins s σ H J r S Q E I m;refine wpAny_Assign_Name (Tc he I m fun d S1 v s1 vx H1 J1 I1 rv r1 m1=>?_) hs;exact wR I1.inv hN hi hx r1 (fun s2 I2=>m1 s2 _ H1 J1 ⟨I2,I1.loc.set rv,I1.st⟩ (Ext.refl _ _)) hf
def E5{tg:Expr}{g:MC}(he:Hu X e fe)(hg:QT X tg g)(hs:swapsWithSole [tg] e pos.line X.env=pure false:=by rfl)(hw:swappedStores [tg] e X.env=pure none:=by rfl)
  (h1:(assignEach [tg] X.env).map (·.2)=[assign tg X.env]:=by rfl):NO X (.Assign [tg] e pos) (cz fe g):=by
 intro pins s σ H J r S Q E I m;refine wpAny_Assign_stores (Tc he I m fun d S1 v s1 vx H1 J1 I1 rv r1 m1=>?_) hs hw;rw[h1];cases eg:g d r with
 |none=>rw[eg] at m1;exact m1.elim
 |some r'=>
  rw[eg] at m1;exact hg pins s1 σ H1 J1 r S1 d vx v _ E r' I1 rv r1 eg fun s' HE H' J' a x=>m1 s' HE H' J' a x
def gf(c:tB->M Bool)(b:Hd):Nat->Hd
 |0=>fun _ _=>none
 |n+1=>fun r S=>match c r S with
  |.ok true S1=>(match b r S1 with
   |some (.nx r',S')=>gf c b n r' S'
   |some (.ct r',S')=>gf c b n r' S'
   |some (.bk r',S')=>some (.nx r',S')
   |some (.rt d,S')=>some (.rt d,S')
   |_=>none)
  |.ok false S1=>some (.nx r,S1)
  |_=>none
def wg{c:Expr}{body:List Stmt}{tc:tB->M Bool}{tb:Hd}(n:Nat)(hc:Og X c tc)(hb:oo X body tb):NO X (.While c body [] pos) (gf tc tb n):=by
 intro pins s σ H J r S Q E I m;refine wpAny_While (codeAny_whileLoop (fun k s'=>∃HE H' J' r' S',At X pins HE H' J' r' S' s'/\Ext H J H' J'/\L5 X pins H J (gf tc tb k r' S') Q E) ?_ n ⟨σ,H,J,r,S,I,Ext.refl _ _,m⟩);rintro k s1 ⟨Se,H1,J1,r1,S1,I1,x1,m1⟩;cases k with
 |zero=>exact m1.elim
 |succ k=>
  refine hc pins s1 Se H1 J1 r1 S1 _ _ I1 ?_;unfold gf at m1;cases ec:tc r1 S1 with
  |bad=>rw[ec] at m1;exact m1.elim
  |exc c S2=>rw[ec] at m1;exact m1.elim
  |ok k2 S2=>
   rw[ec] at m1;rintro s2 ⟨H2,I2,J2,x2,KP⟩;cases k2 with
   |false=>
    rw[if_neg Bool.false_ne_true];exact wpAny_execs_nil (m1 s2 Se H2 J2 ⟨I2,I1.loc.ext x2,KP⟩ (x1.trans x2))
   |true=>
    rw[if_pos rfl];refine hb pins s2 Se H2 J2 r1 S2 _ _ ⟨I2,I1.loc.ext x2,KP⟩ ?_;dsimp only at m1
    match eb:tb r1 S2 with
    |none=>rw[eb] at m1;exact m1.elim
    |some (.nx r',S')=>
     rw[eb] at m1;exact fun s' HE H' J' a x=>⟨k,lt_succ_self _,HE,H',J',r',S',a,(x1.trans x2).trans x,m1⟩
    |some (.ct r',S')=>
     rw[eb] at m1;exact fun s' HE H' J' a x=>⟨k,lt_succ_self _,HE,H',J',r',S',a,(x1.trans x2).trans x,m1⟩
    |some (.bk r',S')=>
     rw[eb] at m1;exact fun s' HE H' J' a x=>m1 s' HE H' J' a ((x1.trans x2).trans x)
    |some (.rt d,S')=>
     rw[eb] at m1;exact fun u s' HE ⟨v,H',I',rv,g⟩=>m1 u s' HE ⟨v,H',I',rv,g.ext (x1.trans x2)⟩
    |some (.xc c r',S')=>rw[eb] at m1;exact m1.elim
structure Wk where
 items:List D
 guard:Option (Nat×List D):=none
def Ld:Option (Nat×List D)->List Cell->Prop
 |none,_=>True
 |some (n,xs),S=>S[n]?=some (.lst xs)
def Jm(K:PySem.W.Frag)(it:It)(w:Wk)(H0:Hp)(J0:List Addr):Prop:=∀(H:Hp) (J:List Addr) (S:List Cell),Ext H0 J0 H J->G6 K H J S->Ld w.guard S->
 (∀i,i<w.items.length->it.go i H)/\it.stop w.items.length H/\
 ∀i x H',it.Yj i H x H'->∀d,w.items[i]?=some d->∃J',Ext H J H' J'/\G6 K H' J' S/\s_ K H' J' d x
def NP(X:Cx)(pins:G4)(σ:L2.St)(H:Hp)(J:List Addr)(tg:Expr)(x:R Wk)(Q:Value->Shared->Prop)(E:Value->Shared->Prop):Prop:=match x with
 |.ok w S'=>∀Oz s2,U9 X pins σ tg (fun it H1=>∃J1,Ext H J H1 J1/\G6 X.K H1 J1 S'/\Ld w.guard S'/\Jm X.K it w H1 J1) Oz s2->Q Oz s2
 |.exc c S'=>∀e s',XP X pins σ c (Kj X.K H J S') e s'->E e s'
 |.bad=>False
def PId(X:Cx)(tg iter:Expr)(f:tB->M Wk):Prop:=∀(pins:G4) (s:Shared) (σ:L2.St) (H:Hp) (J:List Addr) (r:tB) (S:List Cell) (Q E:Value->Shared->Prop),
 At X pins σ H J r S s->NP X pins σ H J tg (f r S) Q E->wpAny (model X.prog X.w) X.A (eval iter X.env) (fun v s1=>wpAny (model X.prog X.w) X.A (pyIter v) Q E s1) E s
open Classical in
def jg(g:Option (Nat×List D))(tg:MC)(b:Hd):List D->Hd
 |[],r,S=>some (.nx r,S)
 |x :: xs,r,S=>match tg x r with
  |none=>none
  |some r1=>match b r1 S with
   |some (.nx r',S')=>if Ld g S' then jg g tg b xs r' S' else none
   |some (.ct r',S')=>if Ld g S' then jg g tg b xs r' S' else none
   |some (.bk r',S')=>some (.nx r',S')
   |some (.rt d,S')=>some (.rt d,S')
   |_=>none
def ny(f:tB->M Wk)(tg:MC)(b:Hd):Hd:=fun r=>cA (f r) r fun w S=>jg w.guard tg b w.items r S
def jR{tg iter:Expr}{body:List Stmt}{f:tB->M Wk}{g:MC}{tb:Hd}(hc:X.calm=true)(hi:PId X tg iter f)(hg:QT X tg g)(hb:oo X body tb)
  (hs:∀x,foldedSetIterable iter X.env x=pure x:=by intro _;rfl):NO X (.For tg iter body [] pos) (ny f g tb):=by
 intro pins s σ H J r S Q E I m;refine wpAny_For (hi pins s σ H J r S _ E I ?_) hs;unfold ny cA at m;cases ef:f r S with
 |bad=>rw[ef] at m;exact m
 |exc c S1=>
  rw[ef] at m;exact fun x s' ⟨H',XI,J',ex,rs⟩=>m x s' σ H' J' XI (I.loc.ext ex) rs ex
 |ok w S1=>
  rw[ef] at m;dsimp only at m;rintro Oz s2 ⟨it,fp,tn,it0,H2,rfl,I2,T,Vo,f2,J2,x2,KP,gk,ok⟩;have NQ:∀{H':Hp},(∀b∈fp,H' b=none)->∀b∈fp,Li X pins H' b:=fun hn b hb=>⟨hn b hb,(f2 b hb).2⟩
  refine codeAny_forLoop_any (fun n s'=>∃i HE H' J' r' S',At X pins HE H' J' r' S' s'/\Ext H2 J2 H' J'/\tn i s'.heap/\(∀b∈fp,H' b=none)/\Ld w.guard S'/\n=w.items.length-i/\i<=w.items.length/\
   L5 X pins H J (jg w.guard g tb (w.items.drop i) r' S') Q E) ?_ w.items.length ⟨0,σ,H2,J2,r,S1,⟨I2,I.loc.ext x2,KP⟩,Ext.refl _ _,Vo,fun b hb=>(f2 b hb).1,gk,by simp,zero_le _,by simpa using m⟩
  rintro n s3 ⟨i,Nj,H3,J3,r3,S3,I3,x3,Td,Te,Vp,rfl,Oh,m3⟩;obtain⟨Vq,O6,Rt⟩:=ok H3 J3 S3 x3 I3.st Vp;by_cases Nk:i<w.items.length
  ·obtain⟨d,hd⟩:∃d,w.items[i]?=some d:=⟨w.items[i],by simp[Nk]⟩;rw[List.drop_eq_getElem_cons Nk] at m3;have L1:w.items[i]=d:=by
    rw[getElem?_eq_getElem Nk] at hd;exact Option.some.inj hd
   rw[L1] at m3;unfold jg at m3;cases eg:g d r3 with
   |none=>rw[eg] at m3;exact m3.elim
   |some r4=>
    rw[eg] at m3;dsimp only at m3;refine PZ (T.item X rfl rfl rfl hc i pins s3 Nj H3 _ I3.inv (NQ Te) Td (Vq i Nk)) fun rr s4 ⟨u,hr,h4⟩=>?_
    subst hr;refine PZ h4 fun _ s5 ⟨x,H5,I5,r5,y5,Ru,Vr⟩=>?_
    obtain⟨J5,x5,Vs,Vt⟩:=Rt i x H5 y5 d hd;have Vu:=I5.pinned (NQ Vr) (T.obj _ _ Ru);refine hg _ s5 Nj H5 J5 r3 S3 d x u _ _ r4 ⟨Vu,I3.loc.ext x5,Vs⟩ Vt r5 eg fun s6 Sf H6 J6 I6 x6=>?_
    refine hb _ s6 Sf H6 J6 r4 S3 _ _ I6 ?_;have again:∀{r7:tB}{S7:List Cell}{Rv:L2.St}{H7:Hp}{J7:List Addr}{s7:Shared},At X (pins++oO fp s5.heap) Rv H7 J7 r7 S7 s7->Ext H6 J6 H7 J7->Ld w.guard S7->L5 X pins H J (jg w.guard g tb (w.items.drop (i+1)) r7 S7) Q E->
      ∃m,m<w.items.length-i/\∃i HE H' J' r' S',At X pins HE H' J' r' S' s7/\Ext H2 J2 H' J'/\tn i s7.heap/\(∀b∈fp,H' b=none)/\Ld w.guard S'/\m=w.items.length-i/\i<=w.items.length/\L5 X pins H J (jg w.guard g tb (w.items.drop i) r' S') Q E:=by
     intro r7 S7 Rv H7 J7 s7 I7 x7 Vv m7;refine⟨w.items.length-(i+1),by omega,i+1,Rv,H7,J7,r7,S7,⟨I7.inv.KI,I7.loc,I7.st⟩,((x3.trans x5).trans x6).trans x7,T.keep _ _ _ Ru fun b hb o e=>(I7.inv.pin (b,o) (mem_append_right _ (mem_append_right _ (j7 hb e)))).1,fun b hb=>?_,Vv,rfl,Nk,m7⟩;obtain⟨o,e,d⟩:=T.obj _ _ Ru b hb;exact(I7.inv.pin (b,o) (mem_append_right _ (mem_append_right _ (j7 hb e)))).2.1
    match eb:tb r4 S3 with
    |none=>rw[eb] at m3;exact m3.elim
    |some (.nx r',S')=>
     rw[eb] at m3;dsimp only at m3;by_cases Rw:Ld w.guard S'
     ·rw[if_pos Rw] at m3;exact fun s' HE H' J' a x=>again a x Rw m3
     ·rw[if_neg Rw] at m3;exact m3.elim
    |some (.ct r',S')=>
     rw[eb] at m3;dsimp only at m3;by_cases Rw:Ld w.guard S'
     ·rw[if_pos Rw] at m3;exact fun s' HE H' J' a x=>again a x Rw m3
     ·rw[if_neg Rw] at m3;exact m3.elim
    |some (.bk r',S')=>
     rw[eb] at m3;exact fun s' HE H' J' a x=>m3 s' HE H' J' ⟨a.inv.KI,a.loc,a.st⟩ ((((x2.trans x3).trans x5).trans x6).trans x)
    |some (.rt d',S')=>
     rw[eb] at m3;exact fun u s' HE ⟨v,H',I',rv,g'⟩=>m3 u s' HE ⟨v,H',I'.KI,rv,g'.ext (((x2.trans x3).trans x5).trans x6)⟩
    |some (.xc c r',S')=>rw[eb] at m3;exact m3.elim
  ·have e:i=w.items.length:=by omega
   subst e;rw[drop_length] at m3;refine PZ (T.done X rfl rfl rfl hc _ pins s3 Nj H3 _ I3.inv (NQ Te) Td O6) fun rr s4 ⟨hr,I4⟩=>?_
   subst hr;exact wpAny_execs_nil (m3 s4 Nj H3 J3 ⟨I4,I3.loc,I3.st⟩ (x2.trans x3))
end
section
variable{X:Cx}{tg:Expr}{e:Expr}{fe:tB->M D}{pos:Pos}
def i8:D->M Wk
 |.tup xs=>M.ret ⟨xs,none⟩
 |.JG xs=>M.ret ⟨xs,none⟩
 |.ob n=>fun S=>match S[n]? with
  |some (.lst xs)=>.ok ⟨xs,some (n,xs)⟩ S
  |_=>.bad
 |_=>M.bad
def Js(f:tB->M D):tB->M Wk:=fun r=>(f r).bind i8
def Jm.tup{K:PySem.W.Frag}{H:Hp}{J:List Addr}{a:Addr}{vs:List V}{xs:List D}{X:Cx}{pins:G4}{σ:L2.St}{s:Shared}(I:Inv X pins σ H s)(hK:X.K=K)(hq:JQ K H a vs)(rv:l_ K H J xs vs):Jm K (Yk K a) ⟨xs,none⟩ H J:=by
 intro H1 J1 S x rs _;have OE:=JQ.ext x hq;have Jx:=rv.ext x;have hl:=Jx.length;refine⟨fun i hi=>⟨vs,vs[i]'(by rw[hl];exact hi),OE,by simp⟩,⟨vs,OE,by rw[hl];exact Nat.le_refl _⟩,?_⟩;rintro i y H' ⟨rfl,hy⟩ d hd;obtain⟨v,h1,h2⟩:=Jx.get hd;have:=hy vs OE;rw[h1] at this;cases this;exact⟨J1,Ext.refl _ _,rs,h2⟩
def Jm.JG{K:PySem.W.Frag}{H:Hp}{J:List Addr}{a:Addr}{vs:List V}{xs:List D}(hq:PO K H a vs)(rv:l_ K H J xs vs):Jm K (U_ K a) ⟨xs,none⟩ H J:=by
 intro H1 J1 S x rs _;have OE:=(PO.ext x hq).sq;have Jx:=rv.ext x;have hl:=Jx.length;refine⟨fun i hi=>⟨vs,vs[i]'(by rw[hl];exact hi),OE,by simp⟩,⟨vs,OE,by rw[hl];exact Nat.le_refl _⟩,?_⟩;rintro i y H' ⟨rfl,hy⟩ d hd;obtain⟨v,h1,h2⟩:=Jx.get hd;have:=hy vs OE;rw[h1] at this;cases this;exact⟨J1,Ext.refl _ _,rs,h2⟩
def Jm.lst{K:PySem.W.Frag}{H:Hp}{J:List Addr}{a:Addr}{n:Nat}{xs:List D}(hn:J[n]?=some a):Jm K (U_ K a) ⟨xs,some (n,xs)⟩ H J:=by
 intro H1 J1 S x rs gk;have hn1:J1[n]?=some a:=by
  obtain⟨m,em⟩:=x.pre;rw[em,getElem?_append_left (List.getElem?_eq_some_iff.mp hn).1];exact hn
 obtain⟨vs,h1,Jx⟩:=rs.at_ n _ a gk hn1;have OE:Jl K H1 a vs:=Jl.of h1;have hl:=Jx.length;refine⟨fun i hi=>⟨vs,vs[i]'(by rw[hl];exact hi),OE,by simp⟩,⟨vs,OE,by rw[hl];exact Nat.le_refl _⟩,?_⟩;rintro i y H' ⟨rfl,hy⟩ d hd;obtain⟨v,h1,h2⟩:=Jx.get hd;have:=hy vs OE;rw[h1] at this;cases this;exact⟨J1,Ext.refl _ _,rs,h2⟩
def dQ(he:Hu X e fe):PId X tg e (Js fe):=by
 intro pins s σ H J r S Q E I m;refine he pins s σ H J r S _ E I ?_;unfold Js M.bind at m;cases e1:fe r S with
 |bad=>rw[e1] at m;exact m
 |exc c S1=>rw[e1] at m;exact m
 |ok x S1=>
  rw[e1] at m;dsimp only at m;rintro v s1 ⟨vx,H1,I1,r1,J1,ex,rs,rv⟩;cases x with
  |tup xs=>
   obtain⟨a,vs,rfl,hq,Hz⟩:=rv.Kv;cases r1;obtain⟨its,rl,p,hz⟩:=I1.tuple hq;refine wpAny_pyIter_tuple (show s1.heap.IsTuple a its.toArray from p) (m _ _ ?_);refine⟨s1.heap.objs.size,[s1.heap.objs.size],_,_,H1,rfl,I1.kept (t':=s1.toks) fun b o e=>get?_push_of_some _ e,xp a _,⟨_,get?_push_size _ rfl,rfl,rfl⟩,fun b hb=>?_,J1,ex,rs,trivial,Jm.tup I1 rfl hq Hz⟩;have e:b=s1.heap.objs.size:=by simpa using hb
   subst e;exact I1.Oy (Nat.le_refl _) (I1.Hc.fresh (Nat.le_refl _))
  |JG xs=>
   obtain⟨a,vs,rfl,hq,Hz⟩:=rv.ML;cases r1;obtain⟨its,rl,p,hz⟩:=I1.list hq.sq;refine wpAny_pyIter_list p.isList (m _ _ ?_);refine⟨s1.heap.objs.size,[s1.heap.objs.size],_,_,H1,rfl,I1.kept (t':=s1.toks) fun b o e=>get?_push_of_some _ e,tY a _,⟨_,get?_push_size _ rfl,rfl,rfl⟩,fun b hb=>?_,J1,ex,rs,trivial,Jm.JG hq Hz⟩;have e:b=s1.heap.objs.size:=by simpa using hb
   subst e;exact I1.Oy (Nat.le_refl _) (I1.Hc.fresh (Nat.le_refl _))
  |ob n=>
   obtain⟨a,rfl,hn⟩:=rv.Kw;cases r1;obtain⟨c,hc,rc⟩:=rs.Ly hn;simp only[i8] at m;rw[hc] at m;cases c with
   |lst xs=>
    obtain⟨vs,h1,Hz⟩:=rc;obtain⟨its,rl,p,hz⟩:=I1.list (Jl.of h1);refine wpAny_pyIter_list p.isList (m _ _ ?_);refine⟨s1.heap.objs.size,[s1.heap.objs.size],_,_,H1,rfl,I1.kept (t':=s1.toks) fun b o e=>get?_push_of_some _ e,tY a _,⟨_,get?_push_size _ rfl,rfl,rfl⟩,fun b hb=>?_,J1,ex,rs,hc,Jm.lst hn⟩;have e:b=s1.heap.objs.size:=by simpa using hb
    subst e;exact I1.Oy (Nat.le_refl _) (I1.Hc.fresh (Nat.le_refl _))
   |_=>exact m.elim
  |_=>exact m.elim
def eI(lo c:Int)(n:Nat):List D:=(range n).map fun(i:Nat)=>D.int (lo+(i:Int) * c)
def Cf(lo c:Int)(n:Nat):It:=⟨fun i _=>i<n,fun i H x H'=>H'=H/\x=.int (lo+(i:Int) * c),fun i _=>n<=i⟩
def wb{lo c:Int}{n i:Nat}{d:D}(h:(eI lo c n)[i]?=some d):d=.int (lo+(i:Int) * c):=by
 unfold eI at h;rw[getElem?_map] at h;cases e:(range n)[i]? with
 |none=>rw[e] at h;cases h
 |some k=>
  rw[e] at h;obtain⟨h2,h3⟩:=List.getElem?_eq_some_iff.mp e;rw[List.getElem_range] at h3;subst h3;cases h;rfl
def Jm.R3{K:PySem.W.Frag}{H:Hp}{J:List Addr}(lo c:Int)(n:Nat):Jm K (Cf lo c n) ⟨eI lo c n,none⟩ H J:=by
 intro H1 J1 S x rs _;have hl:(eI lo c n).length=n:=by simp[eI]
 refine⟨fun i hi=>by rw[hl] at hi;exact hi,by show n<=_;rw[hl];exact Nat.le_refl _,?_⟩;rintro i y H' ⟨rfl,rfl⟩ d hd;refine⟨J1,Ext.refl _ _,rs,?_⟩;rw[wb hd];exact s_.int _ _ _ _
def zA{P:Program}{w:World}{K:PySem.W.Frag}{tg:Expr}(it:Addr)(lo c:Int)(n:Nat):Turn P w K tg (Cf lo c n) [it] it (fun i h=>IsRangeIter h it (lo+(i:Nat) * c) ((n:Int)-(i:Nat)) c) where
 mem:=by simp
 obj:=fun i h st b hb=>by
  have e:b=it:=by simpa using hb
  subst e;exact⟨_,st,fun v z=>by
   have z':Data.fields _=Data.cell v:=z;cases z'⟩
 keep:=fun i h h' st k=>k it (by simp) _ st
 item:=by
  intro X hP hw hK hc i pins s σ H E I hf st hg;subst hP hw hK;obtain⟨f0,f1,f2,f3,f4,f5⟩:=hf it (by simp);have W:=Walks.range (prog:=X.prog) (w:=X.w) (I.ok.hd hc) it lo c n;refine W.item i s _ _ hg st fun v h' tk hv QP kk=>?_
  obtain⟨t,rfl⟩:=hv;have I1:Inv X pins σ H { s with heap:=h',toks:=tk }:=I.turned (fun b o hb e=>kk b o (by simpa using hb) e) f0 f1 f3 f4 f5;exact⟨_,rfl,B6 (s:={ s with heap:=h',toks:=tk }) (n:="range_iterator") QP rfl rfl (by decide) ⟨.int (lo+i * c),H,I1,⟨t,rfl⟩,⟨rfl,rfl⟩,QP,fun b hb=>(hf b hb).1⟩⟩
 done:=by
  intro X hP hw hK hc i pins s σ H E I hf st hg;subst hP hw hK;obtain⟨f0,f1,f2,f3,f4,f5⟩:=hf it (by simp);exact wpAny_pyNext_range_end (I.ok.hd hc) st (by have:n<=i:=hg;omega) fun h' eb=>⟨rfl,I.turned (t':=s.toks) (fun b o hb e=>eb b o hb e) f0 f1 f3 f4 f5⟩
 self:=fun _ _ _ _ _ st h=>wpAny_pyIter_rangeiter st h
def w6{pins:G4}{σ:L2.St}{H:Hp}{s:Shared}{Rr:It->Hp->Prop}{E:Value->Shared->Prop}{lo hi c:Int}{t u v:Tok}{tk:Nat}(I:Inv X pins σ H s)(hc:0<c)(Rx:small lo hi c=true)
  (q:Rr (Cf lo c (rangeSize lo hi c).toNat) H):wpAny (model X.prog X.w) X.A (pyIter (.ref s.heap.objs.size)) (U9 X pins σ tg Rr) E { s with heap:=s.heap.push { cls:=.type "range",data:=.fields #[.int lo t,.int hi u,.int c v] },toks:=tk }:=by
 refine wpAny_pyIter_range (IsRange.new ..) Rx ?_;have I1:Inv X pins σ H { s with heap:=s.heap.push { cls:=.type "range",data:=.fields #[.int lo t,.int hi u,.int c v] },toks:=tk }:=I.kept fun b o e=>get?_push_of_some _ e
 refine⟨(s.heap.push { cls:=.type "range",data:=.fields #[.int lo t,.int hi u,.int c v] }).objs.size,[(s.heap.push { cls:=.type "range",data:=.fields #[.int lo t,.int hi u,.int c v] }).objs.size],_,_,H,rfl,
  I1.kept (t':=tk) fun b o e=>get?_push_of_some _ e,zA _ lo c (rangeSize lo hi c).toNat,?_,fun b hb=>?_,q⟩
 ·have e1:lo+((0:Nat):Int) * c=lo:=by simp
  have e2:(((rangeSize lo hi c).toNat:Nat):Int)-((0:Nat):Int)=rangeSize lo hi c:=by
   have:0<=rangeSize lo hi c:=by
    unfold rangeSize;rw[if_pos hc];split
    ·have:=Int.ediv_nonneg (a:=hi-lo-1) (b:=c) (by omega) (by omega);omega
    ·omega
   omega
  show IsRangeIter _ _ (lo+((0:Nat):Int) * c) ((((rangeSize lo hi c).toNat:Nat):Int)-((0:Nat):Int)) c;rw[e1,e2];exact get?_push_size _ rfl
 ·have e:b=(s.heap.push { cls:=.type "range",data:=.fields #[.int lo t,.int hi u,.int c v] }).objs.size:=by simpa using hb
  subst e;exact I1.Oy (Nat.le_refl _) (I1.Hc.fresh (Nat.le_refl _))
def rZ(lo hi c:Int):M Wk:=fun S=>JC ((0<c/\c<1073741824)/\small lo hi c=true) (.ok ⟨eI lo c (rangeSize lo hi c).toNat,none⟩ S) .bad
def yI:D->M Wk
 |.int j=>rZ 0 j 1
 |_=>M.bad
def vT:D->D->M Wk
 |.int i,.int j=>rZ i j 1
 |_,_=>M.bad
def DW:D->D->D->M Wk
 |.int i,.int j,.int c=>rZ i j c
 |_,_,_=>M.bad
def o7(fa:tB->M D):tB->M Wk:=fun r=>(fa r).bind yI
def zk(fa fb:tB->M D):tB->M Wk:=fun r=>(fa r).bind fun x=>(fb r).bind fun y=>vT x y
def wz(fa fb fc:tB->M D):tB->M Wk:=fun r=>(fa r).bind fun x=>(fb r).bind fun y=>(fc r).bind fun z=>DW x y z
def NP.ext{pins:G4}{σ:L2.St}{H H1:Hp}{J J1:List Addr}{x:R Wk}{Q:Value->Shared->Prop}{E:Value->Shared->Prop}(e:Ext H J H1 J1)(h:NP X pins σ H J tg x Q E):NP X pins σ H1 J1 tg x Q E:=by
 cases x with
 |ok w S=>exact fun Oz s2 ⟨it,fp,tn,it0,H2,a,b,c,d,f,J2,x2,g⟩=>h Oz s2 ⟨it,fp,tn,it0,H2,a,b,c,d,f,J2,e.trans x2,g⟩
 |exc c S=>exact fun u s' x=>h u s' (x.ext e)
 |bad=>exact h
def Tf{es:List Expr}{ft:tB->M (List D)}(ha:M8 X es ft){k:List D->M Wk}{pins:G4}{s:Shared}{σ:L2.St}{H:Hp}{J:List Addr}{r:tB}{S:List Cell}{Q E:Value->Shared->Prop}{Q':List Value->Shared->Prop}(I:At X pins σ H J r S s)
  (m:NP X pins σ H J tg ((ft r).bind k S) Q E) (hk:∀xs S1 s1 H1 J1 vs us,At X pins σ H1 J1 r S1 s1->l_ X.K H1 J1 xs vs->Vals vs us->NP X pins σ H1 J1 tg (k xs S1) Q E->Q' us s1) (pos:Pos) :
  wpAny (model X.prog X.w) X.A (spliced (backTo pos (starEach es X.env))) Q' E s:=by
 refine ha pos pins s σ H J r S _ E I ?_;unfold M.bind at m;cases e1:ft r S with
 |bad=>rw[e1] at m;exact m
 |exc c S1=>rw[e1] at m;exact m
 |ok x S1=>
  rw[e1] at m;intro us s1 ⟨vs,H1,I1,r1,J1,JS,Ke,Jx⟩;exact hk x S1 s1 H1 J1 vs us ⟨I1,I.loc.ext JS,Ke⟩ Jx r1 (NP.ext JS m)
def uG{α:Type}(f:D->M α):List D->M α
 |[x]=>f x
 |_=>M.bad
def Dm{α:Type}(f:D->D->M α):List D->M α
 |[x,y]=>f x y
 |_=>M.bad
def De{α:Type}(f:D->D->D->M α):List D->M α
 |[x,y,z]=>f x y z
 |_=>M.bad
def l_.Kk{K:PySem.W.Frag}{H:Hp}{J:List Addr}{x:D}{vs:List V}(h:l_ K H J [x] vs):∃v,vs=[v]/\s_ K H J x v:=by
 unfold l_ at h;obtain⟨v,t,rfl,h1,h2⟩:=h;unfold l_ at h2;subst h2;exact⟨v,rfl,h1⟩
def l_.O7{K:PySem.W.Frag}{H:Hp}{J:List Addr}{x y:D}{vs:List V}(h:l_ K H J [x,y] vs):∃v w,vs=[v,w]/\s_ K H J x v/\s_ K H J y w:=by
 unfold l_ at h;obtain⟨v,t,rfl,h1,h2⟩:=h;obtain⟨w,rfl,h3⟩:=l_.Kk h2;exact⟨v,w,rfl,h1,h3⟩
def l_.Ry{K:PySem.W.Frag}{H:Hp}{J:List Addr}{x y z:D}{vs:List V}(h:l_ K H J [x,y,z] vs):∃v w u,vs=[v,w,u]/\s_ K H J x v/\s_ K H J y w/\s_ K H J z u:=by
 unfold l_ at h;obtain⟨v,t,rfl,h1,h2⟩:=h;obtain⟨w,u,rfl,h3,h4⟩:=l_.O7 h2;exact⟨v,w,u,rfl,h1,h3,h4⟩
def uA{pins:G4}{σ:L2.St}{H:Hp}{J:List Addr}{S:List Cell}{lo hi c:Int}{Q E:Value->Shared->Prop}(m:NP X pins σ H J tg (rZ lo hi c S) Q E)(rs:G6 X.K H J S) :
  (0<c/\c<1073741824)/\small lo hi c=true/\∀Oz s2,U9 X pins σ tg (fun it H1=>it=Cf lo c (rangeSize lo hi c).toNat/\H1=H) Oz s2->Q Oz s2:=by
 unfold rZ JC at m;split at m
 ·rename_i h;refine⟨h.1,h.2,fun Oz s2 ⟨it,fp,tn,it0,H2,a,b,c,d,f,e1,e2⟩=>?_⟩;subst e1 e2;exact m Oz s2 ⟨it,fp,tn,_,_,a,b,c,d,f,J,Ext.refl _ _,rs,trivial,Jm.R3 _ _ _⟩
 ·exact m.elim
def mI{a:Expr}{p:Pos}{fa:tB->M D}(hg:Gl X "range")(hm:X.mg "range"=none)(ha:Hu X a fa)(hs:starEach [a] X.env=[(false,eval a X.env)]:=by rfl):PId X tg (.Call (.Name "range" p) [a] [] pos) (o7 fa):=by
 intro pins s σ H J r S Q E I m;have m':NP X pins σ H J tg ((aa fa ai r).bind (uG yI) S) Q E:=by
  unfold o7 M.bind at m;unfold aa ai M.bind M.ret;cases e1:fa r S<;>(rw[e1] at m;exact m)
 refine Call_ (kH I.inv hg hm boot_range (PyProof.Rows.callWith_type1 (Tf (ae ha ag (by rw[hs];rfl)) I m' (fun xs S1 s1 H1 J1 vs us I1 rv r1 m1=>?_) pos) hs rfl))
 match xs,m1,rv with
 |[.int j],m1,rv=>
  obtain⟨v,rfl,h1⟩:=rv.Kk;cases h1.Ic;cases r1 with
  |cons q qq=>
   cases qq;obtain⟨t,rfl⟩:=q;obtain⟨hc,Rx,k⟩:=uA m1 I1.st;exact call_range_1 (PZ (w6 I1.inv hc.1 Rx ⟨rfl,rfl⟩) k)
 |[],m1,rv=>exact m1.elim
 |[.G0],m1,rv=>exact m1.elim
 |[.bl _],m1,rv=>exact m1.elim
 |[.str _],m1,rv=>exact m1.elim
 |[.tup _],m1,rv=>exact m1.elim
 |[.JG _],m1,rv=>exact m1.elim
 |[.ob _],m1,rv=>exact m1.elim
 |[.xn _],m1,rv=>exact m1.elim
 |_ :: _ :: _,m1,rv=>exact m1.elim
def xH{a b:Expr}{p:Pos}{fa fb:tB->M D}(hg:Gl X "range")(hm:X.mg "range"=none)(ha:Hu X a fa)(hb:Hu X b fb)(hs:starEach [a,b] X.env=[(false,eval a X.env),(false,eval b X.env)]:=by rfl)
  (Lj:starEach [b] X.env=[(false,eval b X.env)]:=by rfl):PId X tg (.Call (.Name "range" p) [a,b] [] pos) (zk fa fb):=by
 intro pins s σ H J r S Q E I m;have m':NP X pins σ H J tg ((aa fa (aa fb ai) r).bind (Dm vT) S) Q E:=by
  unfold zk M.bind at m;unfold aa ai M.bind M.ret;cases e1:fa r S with
  |ok x S1=>
   rw[e1] at m;dsimp only at m ⊢;cases e2:fb r S1<;>(rw[e2] at m;exact m)
  |exc c S1=>rw[e1] at m;exact m
  |bad=>rw[e1] at m;exact m
 refine Call_ (kH I.inv hg hm boot_range (PyProof.Rows.callWith_type1 (Tf (ae ha (ae hb ag (by rw[Lj];rfl)) (by rw[hs,Lj])) I m' (fun xs S1 s1 H1 J1 vs us I1 rv r1 m1=>?_) pos) (by rw[hs,Lj]) (by rw[Lj];rfl)))
 match xs,m1,rv with
 |[x,y],m1,rv=>
  obtain⟨v,w,rfl,h1,h2⟩:=rv.O7;cases x with
  |int i=>
   cases y with
   |int j=>
    cases h1.Ic;cases h2.Ic;obtain⟨u1,u2,rfl,q1,q2⟩:=Vals.two r1;obtain⟨t,rfl⟩:=q1;obtain⟨t',rfl⟩:=q2;obtain⟨hc,Rx,k⟩:=uA m1 I1.st;exact call_range_2 (PZ (w6 I1.inv hc.1 Rx ⟨rfl,rfl⟩) k)
   |_=>exact m1.elim
  |_=>exact m1.elim
 |[],m1,rv=>exact m1.elim
 |[_],m1,rv=>exact m1.elim
 |_ :: _ :: _ :: _,m1,rv=>exact m1.elim
def xi{a b c:Expr}{p:Pos}{fa fb fc:tB->M D}(hg:Gl X "range")(hm:X.mg "range"=none)(ha:Hu X a fa)(hb:Hu X b fb)(hc:Hu X c fc)
  (hs:starEach [a,b,c] X.env=[(false,eval a X.env),(false,eval b X.env),(false,eval c X.env)]:=by rfl)
  (Lj:starEach [b,c] X.env=[(false,eval b X.env),(false,eval c X.env)]:=by rfl) (Yu:starEach [c] X.env=[(false,eval c X.env)]:=by rfl):PId X tg (.Call (.Name "range" p) [a,b,c] [] pos) (wz fa fb fc):=by
 intro pins s σ H J r S Q E I m;have m':NP X pins σ H J tg ((aa fa (aa fb (aa fc ai)) r).bind (De DW) S) Q E:=by
  unfold wz M.bind at m;unfold aa ai M.bind M.ret;cases e1:fa r S with
  |ok x S1=>
   rw[e1] at m;dsimp only at m ⊢;cases e2:fb r S1 with
   |ok y S2=>
    rw[e2] at m;dsimp only at m ⊢;cases e3:fc r S2<;>(rw[e3] at m;exact m)
   |exc c S1=>rw[e2] at m;exact m
   |bad=>rw[e2] at m;exact m
  |exc c S1=>rw[e1] at m;exact m
  |bad=>rw[e1] at m;exact m
 refine Call_ (kH I.inv hg hm boot_range (PyProof.Rows.callWith_type1 (Tf (ae ha (ae hb (ae hc ag (by rw[Yu];rfl)) (by rw[Lj,Yu])) (by rw[hs,Lj])) I m' (fun xs S1 s1 H1 J1 vs us I1 rv r1 m1=>?_) pos) (by rw[hs,Lj]) (by rw[Lj];rfl)))
 match xs,m1,rv with
 |[x,y,z],m1,rv=>
  obtain⟨v,w,u,rfl,h1,h2,h3⟩:=rv.Ry;cases x with
  |int i=>
   cases y with
   |int j=>
    cases z with
    |int k=>
     cases h1.Ic;cases h2.Ic;cases h3.Ic;cases r1 with
     |cons q1 r1=>
      obtain⟨u1,u2,rfl,q2,q3⟩:=Vals.two r1;obtain⟨t1,rfl⟩:=q1;obtain⟨t2,rfl⟩:=q2;obtain⟨t3,rfl⟩:=q3;obtain⟨hc,Rx,kk⟩:=uA m1 I1.st;exact call_range_3 (by omega) (PZ (w6 I1.inv hc.1 Rx ⟨rfl,rfl⟩) kk) (.inl (PyProof.noPylong_small (by omega)))
    |_=>exact m1.elim
   |_=>exact m1.elim
  |_=>exact m1.elim
 |[],m1,rv=>exact m1.elim
 |[_],m1,rv=>exact m1.elim
 |[_,_],m1,rv=>exact m1.elim
 |_ :: _ :: _ :: _ :: _,m1,rv=>exact m1.elim
end
def QV(X:Cx)(scope:Scope)(N':List Str)(cl:List (Str×Addr))(C:Addr)(s2:Shared)(H2:Hp)(fp:List Addr):Cx where
 prog:=X.prog
 w:=X.w
 K:=X.K
 mg:=X.mg
 base:=X.base
 A:=X.A
 N:=N'
 I_:=s2
 OW:=H2
 env:=compEnvC scope cl C X.env
 outer:=X.stack
 stack:=X.stack
 ex:=fp
 fn:=fun _=>false
 calm:=X.calm
 pn:=[]
 xe:=fun _ _=>False
def iB{α:Type}(own:Nat)(caps:List Nat)(r:List (Option α)):List (Option α):=replicate own none++caps.map fun j=>(r[j]?).join
def Le(X:Cx)(scope:Scope)(cl:List (Str×Addr)):List Nat->List Str->Prop
 |[],[]=>True
 |j :: js,x :: xs=>(X.N[j]?=some x/\(X.env.kindOf x=some .cell\/X.env.kindOf x=some .free)/\((relabel scope X.env).names.lookup x=some .cell\/(relabel scope X.env).names.lookup x=some .free)/\cl.lookup x=X.env.cells.lookup x)/\Le X scope cl js xs
 |_,_=>False
theorem Le.get{X:Cx}{scope:Scope}{cl:List (Str×Addr)}:∀{js:List Nat}{xs:List Str}{k:Nat}{j:Nat},Le X scope cl js xs->js[k]?=some j->∃x,xs[k]?=some x/\X.N[j]?=some x/\
  (X.env.kindOf x=some .cell\/X.env.kindOf x=some .free)/\((relabel scope X.env).names.lookup x=some .cell\/(relabel scope X.env).names.lookup x=some .free)/\cl.lookup x=X.env.cells.lookup x
 |[],_,_,_,_,e=>by simp at e
 |_ :: _,[],_,_,h,_=>h.elim
 |j :: js,x :: xs,0,j',h,e=>by
  simp at e;subst e;obtain⟨⟨a,b,c,d⟩,_⟩:=h;exact⟨x,rfl,a,b,c,d⟩
 |j :: js,x :: xs,k+1,j',h,e=>by
  obtain⟨_,h⟩:=h;obtain⟨y,a,b⟩:=Le.get (k:=k) h (by simpa using e);exact⟨y,by simpa using a,b⟩
theorem Le.len{X:Cx}{scope:Scope}{cl:List (Str×Addr)}:∀{js:List Nat}{xs:List Str},Le X scope cl js xs->xs.length=js.length
 |[],[],_=>rfl
 |[],_ :: _,h=>h.elim
 |_ :: _,[],h=>h.elim
 |j :: js,x :: xs,h=>by rw[length_cons,length_cons,Le.len h.2]
def JR.Sg{K:PySem.W.Frag}{H:Hp}{J:List Addr}{r:tB}{σ:L2.St}(h:JR K H J r σ)(own:Nat)(caps:List Nat):JR K H J (iB own caps r) (iB own caps σ) where
 len:=by simp[iB]
 at_:=fun i d q=>by
  unfold iB at q ⊢;by_cases hi:i<own
  ·rw[getElem?_append_left (by simpa using hi),getElem?_replicate] at q;split at q<;>cases q
  ·rw[getElem?_append_right (by simpa using hi)] at q ⊢;simp only[length_replicate] at q ⊢;rw[getElem?_map] at q ⊢;cases e:caps[i-own]? with
   |none=>rw[e] at q;cases q
   |some j=>
    rw[e] at q;simp only[map_some,Option.some.injEq] at q ⊢;obtain⟨v,h1,h2⟩:=h.at_ j d (by
     cases e2:r[j]? with
     |none=>rw[e2] at q;cases q
     |some o=>rw[e2] at q;simp at q;rw[q])
    exact⟨v,by rw[h1];rfl,h2⟩
def oH{X:Cx}{cl:List (Str×Addr)}(OS:∀p∈cl,X.env.cells.lookup p.1=some p.2){x:Str}{c:Addr}(h:cl.lookup x=some c):X.env.cells.lookup x=some c:=by
 induction cl with
 |nil=>simp at h
 |cons p r ih=>
  obtain⟨y,b⟩:=p;rw[lookup_cons] at h;cases e:x == y with
  |true=>
   rw[e] at h;simp at h;subst h;have:=beq_iff_eq.mp e;subst this;exact OS (x,b) (by simp)
  |false=>
   rw[e] at h;exact ih (fun p hp=>OS p (mem_cons_of_mem _ hp)) h
def ni{scope:Scope}{env:Env}{x:Str}{k:NameKind}(hk:k=.cell\/k=.free)(HF:∀y∈scope.names,y.2≠.cell)(h:(relabel scope env).names.lookup x=some k):∃p∈scope.names,p.1=x/\p.2=.free:=by
 unfold relabel at h;dsimp only at h
 generalize scope.names=ns at h HF
 induction ns with
 |nil=>simp at h
 |cons p r ih=>
  obtain⟨n,kk⟩:=p;rw[map_cons] at h;by_cases hc:(kk == NameKind.free && env.scope.kind == .function && env.kindOf n == some .cell)=true
  ·simp only[hc,if_true,lookup_cons] at h;cases e:x == n with
   |true=>
    have hx:=beq_iff_eq.mp e;simp only[and_eq_true,beq_iff_eq] at hc;exact⟨(n,kk),by simp,hx.symm,hc.1.1⟩
   |false=>
    rw[e] at h;obtain⟨p,hp,q⟩:=ih h fun y hy=>HF y (mem_cons_of_mem _ hy)
    exact⟨p,mem_cons_of_mem _ hp,q⟩
  ·rw[if_neg hc,lookup_cons] at h;cases e:x == n with
   |true=>
    rw[e] at h;simp at h;have hx:=beq_iff_eq.mp e;rcases hk with rfl|rfl
    ·exact absurd h (HF (n,kk) (by simp))
    ·exact⟨(n,kk),by simp,hx.symm,h⟩
   |false=>
    rw[e] at h;obtain⟨p,hp,q⟩:=ih h fun y hy=>HF y (mem_cons_of_mem _ hy)
    exact⟨p,mem_cons_of_mem _ hp,q⟩
section
variable{X:Cx}{pins:G4}{σ:L2.St}{H2:Hp}{s2:Shared}{scope:Scope}{own:List Str}{capN:List Str}{caps:List Nat}{cl:List (Str×Addr)}{fp:List Addr}
structure O8(X:Cx)(scope:Scope)(own capN:List Str)(caps:List Nat)(cl:List (Str×Addr)):Prop where
 Vw:closureFor scope X.env=pure cl
 cells:∀p∈cl,X.env.cells.lookup p.1=some p.2
 frees:scope.names.all (fun p=>p.2 != .free || (cl.lookup p.1).isSome)=true
 NR:∀y∈scope.names,y.2≠.cell
 kind:scope.kind=.function
 names:∀x∈scope.names,x.2=.local->scope.names.lookup x.1=some .local
 Sg:Le X scope cl caps capN
 nd:(own++capN).Nodup
def zH(B:O8 X scope own capN caps cl)(I:Inv X pins σ H2 s2)(hf:∀b∈fp,Li X pins H2 b)(ho:∀b∈fp,∃o,s2.heap.get? b=some o){h':Heap}{tk:Nat}
  (KO:h'.Ns (s2.heap.objs.size+1) fun _=>none) (Vx:h'.get? s2.heap.objs.size=some { cls:=.type "list",data:=.seq #[] }) (keep:∀b o,s2.heap.get? b=some o->h'.get? b=some o) :
  Inv (QV X scope (own++capN) cl (s2.heap.objs.size+1) s2 H2 fp) [] (iB own.length caps σ) (upd H2 s2.heap.objs.size (.lst [])) { s2 with heap:=h',toks:=tk }:=by
 have P_:H2 s2.heap.objs.size=none:=I.Hc.fresh (Nat.le_refl _);have QW:∀{b:Addr}{o:Obj},s2.heap.get? b=some o->b<s2.heap.objs.size:=fun e=>lt_size e
 have Rz:∀x c,X.env.cells.lookup x=some c->c<s2.heap.objs.size:=fun x c e=>by
  obtain⟨v,hv⟩:=I.cell x c e;obtain⟨o,ho,_⟩:=hv;exact QW ho
 have Vy:Jb X.prog X.w (upd H2 s2.heap.objs.size (.lst [])) h':=I.Hc.laid keep (Nat.le_refl _) ⟨zero_le _,[],0,.nil,Vx⟩;refine⟨?_,rfl,I.bare,?_,?_,?_,?_,?_,?_,Vy,?_⟩
 ·refine⟨I.ok.mod,B.kind,I.ok.glob,I.ok.blt,le_succ _,?_,?_,?_,I.ok.hd,I.ok.frames,.inl rfl,?_,I.bs,Nat.le_trans I.ok.PN I.sz,?_,?_,I.stack,I.MH⟩
  ·exact fun x y c h1 h2=>I.ok.inj x y c (oH B.cells h1) (oH B.cells h2)
  ·intro x hx;have:∃p∈scope.names,p.1=x/\p.2=.free:=by
    rcases hx with hx|hx
    ·exact ni (.inl rfl) B.NR hx
    ·exact ni (.inr rfl) B.NR hx
   obtain⟨p,hp,rfl,N9⟩:=this;have:=(List.all_eq_true.mp B.frees) p hp;rw[N9] at this;simp only[bne_self_eq_false,Bool.false_or] at this;exact Option.isSome_iff_exists.mp this
  ·exact fun x c h=>by cases h
  ·intro b hb;obtain⟨o,NH⟩:=ho b hb;refine⟨ne_of_lt (lt_succ_of_lt (QW NH)),fun x c h=>(hf b hb).2.2.2.2.1 x c (oH B.cells h)⟩
  ·intro b o hb Tg;obtain⟨_,_,_,hx,_⟩:=hf b Tg;rcases hx with hx|hx
   ·exact I.ok.Ox b o hb hx
   ·exact absurd (Nat.lt_of_lt_of_le (lt_size hb) (Nat.le_trans I.ok.PN hx)) (Nat.lt_irrefl _)
  ·intro b hb P9;obtain⟨_,hl,hfs,_⟩:=hf b hb;rcases List.mem_cons.mp (I.MG b P9) with e|e
   ·exact hl e
   ·exact hfs e
 ·exact(Un.laid (o:=.lst []) keep (Nat.le_refl _) P_)
 ·refine⟨_,KO,fun i x v hN hs hv=>?_⟩;unfold iB at hs;by_cases hi:i<own.length
  ·rw[getElem?_append_left (by simpa using hi),getElem?_replicate] at hs;split at hs<;>cases hs
  ·rw[getElem?_append_right (by simpa using hi)] at hs;have RA:(own++capN)[i]?=some x:=hN;rw[getElem?_append_right (by omega)] at RA;simp only[length_replicate] at hs;rw[getElem?_map] at hs;cases e:caps[i-own.length]? with
   |none=>rw[e] at hs;cases hs
   |some j=>
    rw[e] at hs;simp only[map_some,Option.some.injEq] at hs;obtain⟨y,hy,hNj,Yv,hkn,OS⟩:=B.Sg.get e;rw[RA] at hy;cases hy;have hσ:σ[j]?=some (some v):=by
     cases e2:σ[j]? with
     |none=>rw[e2] at hs;cases hs
     |some o=>rw[e2] at hs;simp at hs;rw[hs]
    obtain⟨m,hm,hl⟩:=I.loc;obtain⟨u,ru,look⟩:=hl j x v hNj hσ (.inr Yv);rcases look with ⟨hk,_⟩|⟨_,c,hc,HF⟩
    ·rcases Yv with hk'|hk'<;>(rw[hk] at hk';cases hk')
    ·refine⟨u,ru,.inr ⟨hkn,c,OS.trans hc,?_⟩⟩;obtain⟨o,ho,hd⟩:=HF;exact⟨o,keep c o ho,hd⟩
 ·intro x c h;obtain⟨v,o,ho,hd⟩:=I.cell x c (oH B.cells h);exact⟨v,o,keep c o ho,hd⟩
 ·show upd H2 s2.heap.objs.size (.lst []) (s2.heap.objs.size+1)=none;rw[bg (succ_ne_self _)];exact I.Hc.fresh (le_succ _)
 ·intro x c h;have h1:=oH B.cells h;rw[bg (ne_of_lt (Rz x c h1))];exact I.JN x c h1
 ·intro p hp;cases hp
 ·unfold iB;simp only[length_append,length_replicate,length_map];show own.length+caps.length=(own++capN).length;rw[length_append,B.Sg.len]
end
def Th(X:Cx)(ifs:List Expr)(f:tB->M Bool):Prop:=∀(pins:G4) (s:Shared) (σ:L2.St) (H:Hp) (J:List Addr) (r:tB) (S:List Cell) (Q:Bool->Shared->Prop) (E:Value->Shared->Prop),
 At X pins σ H J r S s->ND X pins σ H J (f r S) Q E->wpAny (model X.prog X.w) X.A (forIn ifs true fun c b=>if b=true then do let ok <-isTrue c X.env (eval c X.env);pure (ForInStep.yield ok) else pure (ForInStep.yield b)) Q E s
def kq{X:Cx}:Th X [] (fun _=>M.ret true):=fun pins s σ H J r S Q E I m=>wpAny_tests_nil (m.JU I)
def BH{X:Cx}{c:Expr}{f:tB->M Bool}(h:Og X c f):Th X [c] f:=fun pins s σ H J r S Q E I m=>wpAny_tests_one (h pins s σ H J r S Q E I m)
open Classical in
def eJ(tg:MC)(ti:tB->M Bool)(fe:tB->M D)(n:Nat)(g:Option (Nat×List D))(r0:tB):List D->List Cell->R Unit
 |[],S=>.ok () S
 |x :: xs,S=>match tg x r0 with
  |none=>.bad
  |some r1=>match ti r1 S with
   |.ok false S1=>if Ld g S1 then eJ tg ti fe n g r0 xs S1 else .bad
   |.ok true S1=>(match fe r1 S1 with
    |.ok d S2=>(match S2[n]? with
     |some (.lst ys)=>JC (ys.length<sizeLine/\Ld g (S2.set n (.lst (ys++[d])))) (eJ tg ti fe n g r0 xs (S2.set n (.lst (ys++[d])))) .bad
     |_=>.bad)
    |_=>.bad)
   |_=>.bad
def eC(f:tB->M Wk)(tg:MC)(ti:tB->M Bool)(fe:tB->M D)(own:Nat)(caps:List Nat):tB->M D:=fun r=>(f r).bind fun w S=>match eJ tg ti fe S.length w.guard (iB own caps r) w.items (S++[.lst []]) with
 |.ok _ S'=>.ok (.ob S.length) S'
 |_=>.bad
def tV(own:Nat)(tg:MC):Prop:=∀d r r',tg d r=some r'->r'.length=r.length/\∀i,own<=i->r'[i]?=r[i]?
def gF{own i:Nat}(h:i<own):tV own (gN i):=fun d r r' e=>by
 cases e;exact⟨by simp,fun j hj=>by rw[getElem?_set_ne (by omega)]⟩
theorem vZ{own:Nat}:∀{is:List Nat},(∀i∈is,i<own)->∀{ds:List D}{r r':tB},QU is ds r=some r'->r'.length=r.length/\∀i,own<=i->r'[i]?=r[i]?
 |[],_,[],r,r',e=>by cases e;exact⟨rfl,fun _ _=>rfl⟩
 |[],_,_ :: _,r,r',e=>by cases e
 |i :: is,h,[],r,r',e=>by cases e
 |i :: is,h,d :: ds,r,r',e=>by
  obtain⟨a,b⟩:=vZ (is:=is) (fun j hj=>h j (mem_cons_of_mem _ hj)) (show QU is ds (r.set i (some d))=some r' from e);refine⟨by rw[a];simp,fun j hj=>?_⟩;have:=h i (by simp);rw[b j hj,getElem?_set_ne (by omega)]
def DU{own:Nat}{is:List Nat}(h:∀i∈is,i<own):tV own (gT is):=fun d r r' e=>by
 cases d with
 |tup ds=>exact vZ h e
 |_=>cases e
def JR.own{K:PySem.W.Frag}{H:Hp}{J:List Addr}{own:Nat}{caps:List Nat}{r r1:tB}{σ:L2.St}{tg:MC}{d:D}(ho:tV own tg)(e:tg d (iB own caps r)=some r1)(h:JR K H J r1 σ):JR K H J (iB own caps r) σ:=by
 obtain⟨a,b⟩:=ho _ _ _ e;refine⟨by rw[<-a];exact h.len,fun i d' q=>?_⟩;by_cases hi:i<own
 ·unfold iB at q;rw[getElem?_append_left (by simpa using hi),getElem?_replicate] at q;split at q<;>cases q
 ·exact h.at_ i d' (by rw[b i (by omega)];exact q)
section
variable{X:Cx}{elt target iter:Expr}{ifs:List Expr}{scope:Scope}{pos:Pos}{tg:MC}{ti:tB->M Bool}{fe:tB->M D}{own:Nat}{caps:List Nat}
def Aa(hc:X.calm=true)(hg:QT X target tg)(ht:Th X ifs ti)(he:Hu X elt fe)(O9:tV own tg){r:tB}{w:Wk}{it:Addr}{fp:List Addr}{tn:Nat->Heap->Prop}{it0:It}{H0:Hp}{J0:List Addr}{n:Nat}{acc:Addr}
  (T:Turn X.prog X.w X.K target it0 fp it tn) (ok:Jm X.K it0 w H0 J0) (P_:J0[n]?=some acc) {RR:Result->Shared->Prop}{σ:L2.St}{S:List Cell}{s:Shared}{S':List Cell}(I:At X [] σ H0 J0 (iB own caps r) S s)
  (Sh:∀b∈fp,Li X [] H0 b) (st:tn 0 s.heap) (gk:Ld w.guard S) (hr:eJ tg ti fe n w.guard (iB own caps r) w.items S=.ok () S')
  (hR:∀s' HE H' J',Inv X [] HE H' s'->G6 X.K H' J' S'->Ext H0 J0 H' J'->RR (.ok .next) s') :
  codeAny (model X.prog X.w) X.A (.compLoop (.ListComp elt [⟨target,iter,ifs,0⟩] scope pos) 0 (.ref it) (.ref acc) X.env) RR s:=by
 have NQ:∀{H':Hp},(∀b∈fp,H' b=none)->∀b∈fp,Li X [] H' b:=fun hn b hb=>⟨hn b hb,(Sh b hb).2⟩
 refine codeAny_loop rfl (fun k s'=>∃i HE H' J' S1,At X [] HE H' J' (iB own caps r) S1 s'/\Ext H0 J0 H' J'/\tn i s'.heap/\(∀b∈fp,H' b=none)/\Ld w.guard S1/\k=w.items.length-i/\i<=w.items.length/\
  eJ tg ti fe n w.guard (iB own caps r) (w.items.drop i) S1=.ok () S') ?_ w.items.length ⟨0,σ,H0,J0,S,I,Ext.refl _ _,st,fun b hb=>(Sh b hb).1,gk,by simp,zero_le _,by simpa using hr⟩
 rintro k s3 ⟨i,Nj,H3,J3,S3,I3,x3,Td,Te,Vp,rfl,Oh,m3⟩;show wpAny _ X.A ((compTurn (.ListComp elt [⟨target,iter,ifs,0⟩] scope pos) 0 (.ref it) (.ref acc) X.env).onRaise (fun x=>do noteFrame x X.env;theTreesLotGoes x)) _ _ s3;refine wpAny_noted ?_;rw[compTurn_list];refine wpAny_bind (wpAny_standAt (wpAny_bind ?_));obtain⟨Vq,O6,Rt⟩:=ok H3 J3 S3 x3 I3.st Vp;by_cases Nk:i<w.items.length
 ·obtain⟨d,hd⟩:∃d,w.items[i]?=some d:=⟨w.items[i],by simp[Nk]⟩;rw[List.drop_eq_getElem_cons Nk] at m3;have L1:w.items[i]=d:=by
   rw[getElem?_eq_getElem Nk] at hd;exact Option.some.inj hd
  rw[L1] at m3;unfold eJ at m3;cases eg:tg d (iB own caps r) with
  |none=>rw[eg] at m3;cases m3
  |some r4=>
   rw[eg] at m3;dsimp only at m3;refine PZ (T.item X rfl rfl rfl hc i [] s3 Nj H3 _ I3.inv (NQ Te) Td (Vq i Nk)) fun rr s4 ⟨u,hr,h4⟩=>?_
   subst hr;refine wpAny_bind (PZ h4 fun _ s5 ⟨x,H5,I5,r5,y5,Ru,Vr⟩=>?_);obtain⟨J5,x5,Vs,Vt⟩:=Rt i x H5 y5 d hd;have Vu:=I5.pinned (NQ Vr) (T.obj _ _ Ru);refine wpAny_bind (hg _ s5 Nj H5 J5 (iB own caps r) S3 d x u _ _ r4 ⟨Vu,I3.loc.ext x5,Vs⟩ Vt r5 eg fun s6 Sf H6 J6 I6 x6=>?_);have back:∀{Rv:L2.St}{H7:Hp}{J7:List Addr}{S7:List Cell}{s7:Shared},At X ([]++oO fp s5.heap) Rv H7 J7 r4 S7 s7->Ext H6 J6 H7 J7->Ld w.guard S7->eJ tg ti fe n w.guard (iB own caps r) (w.items.drop (i+1)) S7=.ok () S'->
     ∃m,m<w.items.length-i/\∃i HE H' J' S1,At X [] HE H' J' (iB own caps r) S1 s7/\Ext H0 J0 H' J'/\tn i s7.heap/\(∀b∈fp,H' b=none)/\Ld w.guard S1/\m=w.items.length-i/\i<=w.items.length/\
      eJ tg ti fe n w.guard (iB own caps r) (w.items.drop i) S1=.ok () S':=by
    intro Rv H7 J7 S7 s7 I7 x7 Vv m7;refine⟨w.items.length-(i+1),by omega,i+1,Rv,H7,J7,S7,⟨I7.inv.KI,JR.own O9 eg I7.loc,I7.st⟩,((x3.trans x5).trans x6).trans x7,T.keep _ _ _ Ru fun b hb o e=>(I7.inv.pin (b,o) (mem_append_right _ (mem_append_right _ (j7 hb e)))).1,fun b hb=>?_,Vv,rfl,Nk,m7⟩;obtain⟨o,e,d⟩:=T.obj _ _ Ru b hb;exact(I7.inv.pin (b,o) (mem_append_right _ (mem_append_right _ (j7 hb e)))).2.1
   refine wpAny_bind (ht _ s6 Sf H6 J6 r4 S3 _ _ I6 ?_);cases et:ti r4 S3 with
   |bad=>rw[et] at m3;cases m3
   |exc c S4=>rw[et] at m3;cases m3
   |ok b S4=>
    rw[et] at m3;rintro s7 ⟨H7,I7,J7,x7,rs7⟩;have A7:At X ([]++oO fp s5.heap) Sf H7 J7 r4 S4 s7:=⟨I7,I6.loc.ext x7,rs7⟩;cases b with
    |false=>
     dsimp only at m3;by_cases g4:Ld w.guard S4
     ·rw[if_pos g4] at m3;exact wpAny_pure ⟨rfl,back A7 x7 g4 m3⟩
     ·rw[if_neg g4] at m3;cases m3
    |true=>
     dsimp only at m3;refine wpAny_bind (wpAny_bind (he _ s7 Sf H7 J7 r4 S4 _ _ A7 ?_));cases ee:fe r4 S4 with
     |bad=>rw[ee] at m3;cases m3
     |exc c S5=>rw[ee] at m3;cases m3
     |ok dv S5=>
      rw[ee] at m3;rintro v s8 ⟨vx,H8,I8,r8,J8,x8,Yw,rv8⟩;dsimp only at m3;have QX:J8[n]?=some acc:=by
       obtain⟨m1,e1⟩:=((((x3.trans x5).trans x6).trans x7).trans x8).pre;rw[e1,getElem?_append_left (List.getElem?_eq_some_iff.mp P_).1];exact P_
      obtain⟨c8,hc8,rc8⟩:=Yw.Ly QX;rw[hc8] at m3;cases c8 with
      |lst ys=>
       dsimp only at m3;by_cases g5:ys.length<sizeLine/\Ld w.guard (S5.set n (.lst (ys++[dv])))
       ·rw[cf g5] at m3;obtain⟨vs,Yx,Hz⟩:=rc8;refine wpAny_bind (wpAny_mono (sY (X:=X.Hw (notedBy (model X.prog X.w) X.A X.env fun e s'=>RR (.error e) s')) _ s8 Sf H8 (.ref acc) [vx] (.ref acc) [v] (fun v' H9=>v'=.G0/\H9=upd H8 acc (.lst (vs++[vx]))) (I8.Hw _) rfl (.cons r8 .nil)
         ⟨acc,vs,vx,rfl,rfl,Yx,by rw[Hz.length];exact g5.1,rfl,rfl⟩) (fun v' s9 q=>?_) fun _ _ z=>z)
        obtain⟨v9,H9,I9,r9,rfl,rfl⟩:=q;have x9:Ext H8 J8 (upd H8 acc (.lst (vs++[vx]))) J8:=Ext.write Yx rfl;have rs9:G6 X.K (upd H8 acc (.lst (vs++[vx]))) J8 (S5.set n (.lst (ys++[dv]))):=Yw.write QX ⟨_,bC,(Hz.ext x9).append (.one (rv8.ext x9))⟩;exact wpAny_pure (wpAny_pure ⟨rfl,back ⟨I9.HN,(A7.loc.ext x8).ext x9,rs9⟩ ((x7.trans x8).trans x9) g5.2 m3⟩)
       ·rw[yp g5] at m3;cases m3
      |_=>cases m3
 ·have e:i=w.items.length:=by omega
  subst e;rw[drop_length] at m3;cases m3;refine PZ (T.done X rfl rfl rfl hc _ [] s3 Nj H3 _ I3.inv (NQ Te) Td O6) fun rr s4 ⟨hr,I4⟩=>?_
  subst hr;exact wpAny_pure (hR s4 Nj H3 J3 I4 I3.st x3)
end
section
variable{X:Cx}{elt target iter:Expr}{ifs:List Expr}{scope:Scope}{pos:Pos}{f:tB->M Wk}{tg:MC}{ti:tB->M Bool}{fe:tB->M D}{own capN:List Str}{caps:List Nat}{cl:List (Str×Addr)}
structure CompEnd(X:Cx)(pins:G4)(σ:L2.St)(H:Hp)(J:List Addr)(n:Nat)(S':List Cell)(D C:Addr)(s':Shared):Prop where
 ex:∃H' J',Inv X pins σ H' s'/\Ext H J H' J'/\G6 X.K H' J' S'/\J'[n]?=some D/\H' C=none/\C≠X.env.locals/\X.I_.heap.objs.size<=C/\(∀x c,X.env.cells.lookup x=some c->c≠C)/\∀p∈X.pn++pins,p.1≠C
 ns:∃m,s'.heap.Ns C m
def z0(B:O8 X scope own capN caps cl)(hc:X.calm=true)(O9:tV own.length tg)
  (hB:∀(C:Addr) (s2:Shared) (H2:Hp) (fp:List Addr),QT (QV X scope (own++capN) cl C s2 H2 fp) target tg/\Th (QV X scope (own++capN) cl C s2 H2 fp) ifs ti/\Hu (QV X scope (own++capN) cl C s2 H2 fp) elt fe)
  {pins:G4}{s2:Shared}{σ:L2.St}{H2:Hp}{J2:List Addr}{r:tB}{S:List Cell}{w:Wk}{S':List Cell}{RR:Value->Addr->Result->Shared->Prop}{E:Value->Shared->Prop}
  {it:Addr}{fp:List Addr}{tn:Nat->Heap->Prop}{it0:It}(I2:At X pins σ H2 J2 r S s2) (T:Turn X.prog X.w X.K target it0 fp it tn) (ok:Jm X.K it0 w H2 J2) (Sh:∀b∈fp,Li X pins H2 b) (st:tn 0 s2.heap) (gk:Ld w.guard S)
  (hr:eJ tg ti fe S.length w.guard (iB own.length caps r) w.items (S++[.lst []])=.ok () S')
  (hR:∀D C s',CompEnd X pins σ H2 J2 S.length S' D C s'->RR (.ref D) C (.ok .next) s') :
  wpAny (model X.prog X.w) X.A (newList []) (fun acc Vz=>wpAny (model X.prog X.w) X.A (newFunctionEnv scope X.env.globals cl [] X.env.qual none .none (some X.env)) (fun Ti VA=>
   codeAny (model X.prog X.w) X.A (.compStart (.ListComp elt [⟨target,iter,ifs,0⟩] scope pos) 0 (.ref it) acc { Ti with scope:=relabel scope X.env }) (RR acc Ti.locals) VA) E Vz) E s2:=by
 refine wpAny_newObj_type (wpAny_newFunctionEnv B.NR (by intro y hy;simp at hy) (fun OF NS MM=>?_) B.kind);dsimp only at NS MM ⊢;have hsz:(s2.heap.push { cls:=.type "list",dict:=none,data:=.seq ([]:List Value).toArray }).objs.size=s2.heap.objs.size+1:=by rw[size_push]
 rw[hsz] at NS MM ⊢;have keep:∀b o,s2.heap.get? b=some o->OF.get? b=some o:=fun b o e=>
  MM.extBut b o (ne_of_lt (lt_succ_of_lt (lt_size e))) (get?_push_of_some _ (get?_push_of_some _ e))
 have hl:OF.get? s2.heap.objs.size=some { cls:=.type "list",data:=.seq #[] }:=MM.extBut _ _ (ne_of_lt (lt_succ_self _)) (get?_push_of_some _ (get?_push_size _ rfl));have Yy:∀b∈fp,∃o,s2.heap.get? b=some o:=fun b hb=>let ⟨o,e,_⟩:=T.obj _ _ st b hb;⟨o,e⟩
 have Si:H2 s2.heap.objs.size=none:=I2.inv.Hc.fresh (Nat.le_refl _);have IB:=zH (tk:=s2.toks+([]:List (Str×Value)).length) B I2.inv Sh Yy (by simpa using NS) hl keep;have Yz:tn 0 OF:=T.keep _ _ _ st fun b hb o e=>keep b o e
 obtain⟨hg,ht,he⟩:=hB (s2.heap.objs.size+1) s2 H2 fp;have x0:Ext H2 J2 (upd H2 s2.heap.objs.size (.lst [])) (J2++[s2.heap.objs.size]):=(Ext.new Si).snoc _;have rs0:G6 X.K (upd H2 s2.heap.objs.size (.lst [])) (J2++[s2.heap.objs.size]) (S++[.lst []]):=I2.st.push Si ⟨[],bC,.nil⟩;have loop:codeAny (model X.prog X.w) X.A (.compLoop (.ListComp elt [⟨target,iter,ifs,0⟩] scope pos) 0 (.ref it) (.ref s2.heap.objs.size) (compEnvC scope cl (s2.heap.objs.size+1) X.env)) (RR (.ref s2.heap.objs.size) (s2.heap.objs.size+1))
   { s2 with heap:=OF,toks:=s2.toks+([]:List (Str×Value)).length }:=by
  refine Aa (X:=QV X scope (own++capN) cl (s2.heap.objs.size+1) s2 H2 fp) (own:=own.length) (caps:=caps) (r:=r) (w:=w) (n:=S.length) hc hg ht he O9 (H0:=upd H2 s2.heap.objs.size (.lst [])) (J0:=J2++[s2.heap.objs.size]) (it0:=it0) (fp:=fp) (tn:=tn) T
   ?_ ?_ (S:=S++[Cell.lst []]) ⟨IB,(I2.loc.ext x0).Sg _ _,rs0⟩ ?_ Yz ?_ hr ?_
  ·exact fun H J S1 x rs g=>ok H J S1 (x0.trans x) rs g
  ·rw[<-I2.st.len];simp
  ·intro b hb;obtain⟨o,NH⟩:=Yy b hb;obtain⟨f0,f1,f2,f3,f4,f5⟩:=Sh b hb;refine⟨by rw[bg (ne_of_lt (lt_size NH))];exact f0,ne_of_lt (lt_succ_of_lt (lt_size NH)),?_,.inl hb,fun x c h=>f4 x c (oH B.cells h),fun p hp=>by cases hp⟩;intro P9;rcases List.mem_cons.mp (I2.inv.MG b P9) with e|e
   ·exact f1 e
   ·exact f2 e
  ·cases eg:w.guard with
   |none=>trivial
   |some q=>
    obtain⟨k,xs⟩:=q;rw[eg] at gk;show(S++[Cell.lst []])[k]?=_;rw[getElem?_append_left (List.getElem?_eq_some_iff.mp gk).1];exact gk
  ·intro s' HE H' J' I' O_ x';refine hR _ _ s' ⟨⟨H',J',?_,x0.trans x',O_,?_,I'.free,?_,?_,?_,?_⟩,?_⟩
   ·refine I2.inv.QO (ch:=fp) I'.os I'.base I'.Hc I'.bare fun b hb=>?_
    obtain⟨f0,f1,f2,f3,f4,f5⟩:=Sh b hb;exact⟨f3,f1,f4,f5⟩
   ·obtain⟨m,em⟩:=x'.pre;rw[em,getElem?_append_left (by rw[length_append,I2.st.len];simp),<-I2.st.len];simp
   ·exact(ne_of_lt (lt_succ_of_lt I2.inv.lt)).symm
   ·exact Nat.le_trans I2.inv.sz (le_succ _)
   ·intro x c h;obtain⟨v,o,ho,_⟩:=I2.inv.cell x c h;exact ne_of_lt (lt_succ_of_lt (lt_size ho))
   ·intro p hp;obtain⟨h1,_⟩:=I2.inv.pin p hp;exact ne_of_lt (lt_succ_of_lt (lt_size h1))
   ·obtain⟨m,hm,_⟩:=I'.loc;exact⟨m,hm⟩
 exact codeAny_compStart_list loop (T.self _ 0 _ _ _ Yz loop)
def CompEnd.RB{pins:G4}{σ:L2.St}{H:Hp}{J:List Addr}{n:Nat}{S':List Cell}{D C:Addr}{s':Shared}(h:CompEnd X pins σ H J n S' D C s'){h':Heap}(hs:SameBut C s'.heap h') :
  ∃H' J',Inv X pins σ H' { s' with heap:=h' }/\Ext H J H' J'/\G6 X.K H' J' S'/\J'[n]?=some D:=by
 obtain⟨H',J',I,x,rs,hn,f0,f1,f2,f3,f4⟩:=h.ex;exact⟨H',J',I.turned (t':=s'.toks) (fun b o hb e=>(hs.2 b hb).trans e) f0 f1 (.inr f2) f3 f4,x,rs,hn⟩
def ga(B:O8 X scope own capN caps cl)(hc:X.calm=true)(hi:PId X target iter f)(O9:tV own.length tg)
  (hB:∀(C:Addr) (s2:Shared) (H2:Hp) (fp:List Addr),QT (QV X scope (own++capN) cl C s2 H2 fp) target tg/\Th (QV X scope (own++capN) cl C s2 H2 fp) ifs ti/\Hu (QV X scope (own++capN) cl C s2 H2 fp) elt fe)
  (hs:∀x,foldedSetIterable iter X.env x=pure x:=by intro _;rfl) :
  Hu X (.ListComp elt [⟨target,iter,ifs,0⟩] scope pos) (eC f tg ti fe own.length caps):=by
 intro pins s σ H J r S Q E I m;rw[eval_ListComp];refine wpAny_comprehension_free (use:=none) rfl hs B.Vw B.kind B.names (hi pins s σ H J r S _ E I ?_);unfold eC M.bind at m;cases ef:f r S with
 |bad=>rw[ef] at m;exact m
 |exc c S1=>rw[ef] at m;exact m
 |ok w S1=>
  rw[ef] at m;dsimp only at m;rintro Oz s2 ⟨it,fp,tn,it0,H2,rfl,I2,T,Vo,f2,J2,x2,KP,gk,ok⟩;cases er:eJ tg ti fe S1.length w.guard (iB own.length caps r) w.items (S1++[.lst []]) with
  |bad=>rw[er] at m;exact m.elim
  |exc c S3=>rw[er] at m;exact m.elim
  |ok uu S'=>
   rw[er] at m;refine z0 (RR:=fun acc C=>compPost (model X.prog X.w) X.A E none Q acc C) B hc O9 hB ⟨I2,I.loc.ext x2,KP⟩ T ok f2 Vo gk er fun D C s' ce=>?_
   obtain⟨mC,hmC⟩:=ce.ns;refine⟨mC,hmC,fun h' Qa=>?_⟩;obtain⟨H',J',I',x',O_,hn⟩:=ce.RB Qa;exact m _ _ ⟨.ref D,H',I',rfl,J',x2.trans x',O_,.ob hn⟩
end
mutual
def IM(n:Nat):D->Prop
 |.tup xs=>jP n xs
 |.JG xs=>jP n xs
 |.ob k=>k<n
 |_=>True
def jP(n:Nat):List D->Prop
 |[]=>True
 |x :: xs=>IM n x/\jP n xs
end
section
variable{K:PySem.W.Frag}{H:Hp}{J m:List Addr}
mutual
theorem s_.wf:∀{d:D}{v:V},s_ K H J d v->IM J.length d
 |.G0,_,_=>by unfold IM;trivial
 |.bl _,_,_=>by unfold IM;trivial
 |.int _,_,_=>by unfold IM;trivial
 |.str _,_,_=>by unfold IM;trivial
 |.xn _,_,_=>by unfold IM;trivial
 |.tup xs,_,h=>by
  obtain⟨a,vs,_,_,h⟩:=h.Kv;unfold IM;exact l_.wf h
 |.JG xs,_,h=>by
  obtain⟨a,vs,_,_,h⟩:=h.ML;unfold IM;exact l_.wf h
 |.ob k,_,h=>by
  obtain⟨a,_,h⟩:=h.Kw;unfold IM;exact(List.getElem?_eq_some_iff.mp h).1
theorem l_.wf:∀{xs:List D}{vs:List V},l_ K H J xs vs->jP J.length xs
 |[],_,_=>by unfold jP;trivial
 |x :: xs,_,h=>by
  unfold l_ at h;obtain⟨v,r,_,h1,h2⟩:=h;unfold jP;exact⟨s_.wf h1,l_.wf h2⟩
end
mutual
theorem s_.shrink:∀{d:D}{v:V},IM J.length d->s_ K H (J++m) d v->s_ K H J d v
 |.G0,_,_,h=>by unfold s_ at h ⊢;exact h
 |.bl _,_,_,h=>by unfold s_ at h ⊢;exact h
 |.int _,_,_,h=>by unfold s_ at h ⊢;exact h
 |.str _,_,_,h=>by unfold s_ at h ⊢;exact h
 |.xn _,_,_,h=>by unfold s_ at h ⊢;exact h
 |.tup xs,_,w,h=>by
  unfold IM at w;unfold s_ at h ⊢;obtain⟨a,vs,h1,h2,h3⟩:=h;exact⟨a,vs,h1,h2,l_.shrink w h3⟩
 |.JG xs,_,w,h=>by
  unfold IM at w;unfold s_ at h ⊢;obtain⟨a,vs,h1,h2,h3⟩:=h;exact⟨a,vs,h1,h2,l_.shrink w h3⟩
 |.ob k,_,w,h=>by
  unfold IM at w;unfold s_ at h ⊢;obtain⟨a,h1,h2⟩:=h;rw[getElem?_append_left w] at h2;exact⟨a,h1,h2⟩
theorem l_.shrink:∀{xs:List D}{vs:List V},jP J.length xs->l_ K H (J++m) xs vs->l_ K H J xs vs
 |[],_,_,h=>by unfold l_ at h ⊢;exact h
 |x :: xs,_,w,h=>by
  unfold jP at w;unfold l_ at h ⊢;obtain⟨v,r,h1,h2,h3⟩:=h;exact⟨v,r,h1,s_.shrink w.1 h2,l_.shrink w.2 h3⟩
end
def E6{κ:Type}(n:Nat)(xs:List (κ×D)):Prop:=∀p∈xs,IM n p.2
theorem G1.wf{κ:Type}:∀{xs:List (κ×D)}{ws:List (κ×V)},G1 K H J xs ws->E6 J.length xs
 |[],_,_=>fun p hp=>by cases hp
 |(k,d) :: r,ws,h=>by
  obtain⟨v,t,_,h1,h2⟩:=h;intro p hp;rcases List.mem_cons.mp hp with rfl|hp
  ·exact h1.wf
  ·exact G1.wf h2 p hp
theorem G1.shrink{κ:Type}:∀{xs:List (κ×D)}{ws:List (κ×V)},E6 J.length xs->G1 K H (J++m) xs ws->G1 K H J xs ws
 |[],_,_,h=>h
 |(k,d) :: r,ws,w,h=>by
  obtain⟨v,t,h0,h1,h2⟩:=h;exact⟨v,t,h0,h1.shrink (w (k,d) (by simp)),G1.shrink (fun p hp=>w p (mem_cons_of_mem _ hp)) h2⟩
def RC(n:Nat):Cell->Prop
 |.lst xs=>jP n xs
 |.IT kvs=>E6 n kvs
 |.ins _ _ ds=>jP n ds
def Ku.wf{c:Cell}{a:Addr}(h:Ku K H J c a):RC J.length c:=by
 cases c with
 |lst xs=>obtain⟨vs,_,r⟩:=h;exact r.wf
 |IT xs=>obtain⟨vs,_,r⟩:=h;exact r.wf
 |ins C ns ds=>obtain⟨dx,vs,_,_,r⟩:=h;exact r.wf
def Ku.shrink{c:Cell}{a:Addr}(w:RC J.length c)(h:Ku K H (J++m) c a):Ku K H J c a:=by
 cases c with
 |lst xs=>obtain⟨vs,e,r⟩:=h;exact⟨vs,e,r.shrink w⟩
 |IT xs=>obtain⟨vs,e,r⟩:=h;exact⟨vs,e,r.shrink w⟩
 |ins C ns ds=>obtain⟨dx,vs,e,q,r⟩:=h;exact⟨dx,vs,e,q,r.shrink w⟩
def G6.wf{S:List Cell}(h:G6 K H J S){n:Nat}{c:Cell}(hn:S[n]?=some c):RC S.length c:=by
 obtain⟨a,_,r⟩:=h.cell hn;rw[<-h.len];exact r.wf
def G6.shrink{S G:List Cell}{J':List Addr}(h:G6 K H J' (S++G))(hw:∀(n:Nat) c,S[n]?=some c->RC S.length c):G6 K H (J'.take S.length) S:=by
 have hl:=h.len;rw[length_append] at hl;have hj:(J'.take S.length).length=S.length:=by rw[length_take];omega
 refine⟨hj,h.nd.sublist (List.take_sublist _ _),fun n c a hc ha=>?_⟩;have hn:=(List.getElem?_eq_some_iff.mp hc).1;have OG:J'[n]?=some a:=by
  rw[List.getElem?_take] at ha;rw[if_pos hn] at ha;exact ha
 have r:=h.at_ n c a (by rw[getElem?_append_left hn];exact hc) OG;have w:=hw n c hc;rw[<-hj] at w;rw[<-take_append_drop S.length J'] at r;exact r.shrink w
def Got.drop{H':Hp}{S0 S G:List Cell}{d:D}{v:V}(h:Got K H J d (S++G) v H')(r0:G6 K H J S0)(hl:S0.length<=S.length)(hd:IM S.length d)(hw:∀(n:Nat) c,S[n]?=some c->RC S.length c):Got K H J d S v H':=by
 obtain⟨J',x,rs,rv⟩:=h;have hlen:=rs.len;rw[length_append] at hlen;have hj:(J'.take S.length).length=S.length:=by rw[length_take];omega
 refine⟨J'.take S.length,⟨x.st,?_⟩,rs.shrink hw,?_⟩
 ·obtain⟨more,e⟩:=x.pre;refine⟨more.take (S.length-J.length),?_⟩;rw[e,List.take_append,take_of_length_le (by rw[r0.len];exact hl)]
 ·rw[<-hj] at hd;rw[<-take_append_drop S.length J'] at rv;exact rv.shrink hd
end
def Fb(S0:List Cell)(x:NG)(y:R D):Prop:=match y with
 |.ok d S'=>∃G,(G=[]\/(S0.length<=S'.length/\IM S'.length d/\(S'=S0\/∀(n:Nat) c,S'[n]?=some c->RC S'.length c)))/\(x=some (.rt d,S'++G)\/(d=.G0/\∃r',x=some (.nx r',S'++G)))
 |.exc c S'=>∃r',x=some (.xc c r',S')
 |.bad=>True
def B9(CX:Lk)(X:Cx)(E:XK):Prop:=∀(σ:L2.St) (H':Hp) (s':Shared) (e:Value) (c:Addr),P6 X [] σ H' s' e c->(∀p o,H' p=none->E (.ref c) none (upd H' p o))->X.xe e s'
section
variable{P:Program}{w:World}{K:PySem.W.Frag}{mg:Str->Option Value}{base:Heap}{CX:Lk}
def qP{x qual:Str}{st:Stmt}{f:Addr}{fd:FuncData}{N ps:List Str}{k:Nat}{F:List D->M D}(hF:HP K x qual st f fd)(S:n_ N ps (j_ st))
  (RD:∀(Hb:Value) (A:Around) (outer:List Env) (s:Shared) (H:Hp) (E:XK),B9 CX (qc CX P w K mg base N qual (j_ st) f Hb A outer s H E) E)
  (O0:∀(Hb:Value) (A:Around) (outer:List Env) (s:Shared) (H:Hp) (E:XK),IL k (A.deeper (envOfC qual (j_ st) s.heap.objs.size f Hb))->
   ∃t,oo (qc CX P w K mg base N qual (j_ st) f Hb A outer s H E) (HR st) t/\∀xs S0,xs.length=ps.length->Fb S0 (t (xs.map some++replicate (N.length-xs.length) none) S0) (F xs S0)) :
  HW P w K mg base CX (k+1) f fd ps F:=by
 obtain⟨oc,od,kV,doc,pm,an,Hb,ct,OZ,rfl,lk,N_⟩:=hF.ex;refine FV lk N_ S (fun vs H Q E h=>h.1) (fun A outer s H vs Q E hr h=>?_);obtain⟨hlen,J,xs,S0,rx,rs,h⟩:=h;obtain⟨t,ht,VB⟩:=O0 Hb A outer s H E hr;have hl:xs.length=ps.length:=by rw[<-rx.length];exact hlen
 have he:=VB xs S0 hl;refine⟨fun D σ H'=>D = { nx:=fun _ H'=>Q .G0 H',rt:=Q }/\σ=L2.start N vs/\H'=H,?_,rfl,rfl,rfl⟩;rintro pins s1 Se H1 D1 I1 ⟨rfl,rfl,rfl⟩;refine ht pins s1 _ _ J _ S0 _ _ ⟨I1,JR.start rx,rs⟩ ?_;have wf0:∀(n:Nat) c,S0[n]?=some c->RC S0.length c:=fun n c h=>rs.wf h
 cases ef:F xs S0 with
 |bad=>rw[ef] at h;exact h.elim
 |ok d S'=>
  rw[ef] at he h;dsimp only at h;obtain⟨G,hG,hx⟩:=he;have fin:∀{v:V}{H':Hp},Got K H1 J d (S'++G) v H'->Q v H':=fun {v H'} g=>by
   rcases hG with rfl|⟨h1,h2,h3⟩
   ·rw[append_nil] at g;exact h v H' g
   ·refine h v H' (g.drop rs h1 h2 ?_);rcases h3 with rfl|h3
    ·exact wf0
    ·exact h3
  rcases hx with hx|⟨rfl,r',hx⟩
  ·rw[hx];exact fun u s' HE ⟨v,H',I',rv,g⟩=>⟨v,HE,H',I',rv,fin g⟩
  ·rw[hx];exact fun s' HE H' J' a x=>⟨HE,H',a.inv,fin ⟨J',x,a.st,s_.G0 _ _ _⟩⟩
 |exc c S'=>
  rw[ef] at he h;dsimp only at h;obtain⟨r',hx⟩:=he;rw[hx];exact fun e s' HE H' J' XI rl O_ x=>RD Hb A outer s H1 E HE H' s' e c ⟨XI.inv.MI (fun p hp=>(nomatch hp)),XI.fly⟩ (fun p o hp=>h (upd H' p o) ⟨J',x.trans (Ext.new hp),O_.new hp⟩)
end
mutual
def pD(S:List Cell):Nat->D->Option PyData
 |0,_=>none
 |n+1,.G0=>some .none
 |n+1,.bl b=>some (.bool b)
 |n+1,.int i=>some (.int i)
 |n+1,.str x=>if PyData.canLay0 (.str x)=true then some (.str x) else none
 |n+1,.tup xs=>(K5 S n xs).map .tuple
 |n+1,.JG xs=>(K5 S n xs).map .list
 |n+1,.ob k=>match S[k]? with
  |some (.lst xs)=>(K5 S n xs).map .list
  |_=>none
 |n+1,.xn _=>none
def K5(S:List Cell)(n:Nat):List D->Option (List PyData)
 |[]=>some []
 |x :: xs=>match pD S n x,K5 S n xs with
  |some p,some ps=>some (p :: ps)
  |_,_=>none
end
section
variable{X:Cx}{pins:G4}{σ:L2.St}{H:Hp}{J:List Addr}{S:List Cell}{s:Shared}
mutual
theorem ly(I:Inv X pins σ H s)(rs:G6 X.K H J S):∀{n:Nat}{d:D}{v:V}{u:Value}{p:PyData},s_ X.K H J d v->RelV v u->pD S n d=some p->(∃as,Reads s.heap u p as)/\p.canLay0=true/\p.depth<=n
 |0,_,_,_,_,_,_,e=>by unfold pD at e;cases e
 |n+1,.G0,_,_,_,rv,r,e=>by
  cases rv.NN;cases r;unfold pD at e;cases e;exact⟨⟨_,.none⟩,rfl,zero_le _⟩
 |n+1,.bl b,_,_,_,rv,r,e=>by
  cases rv.O4;cases r;unfold pD at e;cases e;exact⟨⟨_,.bool b⟩,rfl,zero_le _⟩
 |n+1,.int i,_,_,_,rv,r,e=>by
  cases rv.Ic;obtain⟨t,rfl⟩:=r;unfold pD at e;cases e;exact⟨⟨_,.int i t⟩,rfl,zero_le _⟩
 |n+1,.str x,_,_,_,rv,r,e=>by
  cases rv.O5;obtain⟨t,rfl⟩:=r;unfold pD at e;split at e
  ·rename_i h;cases e;exact⟨⟨_,.str x t⟩,h,zero_le _⟩
  ·cases e
 |n+1,.tup xs,_,_,_,rv,r,e=>by
  obtain⟨a,vs,rfl,hq,Hz⟩:=rv.Kv;cases r;obtain⟨its,rl,⟨o,ho,hc,k,hd⟩,hz⟩:=I.tuple hq;unfold pD at e;cases ep:K5 S n xs with
  |none=>rw[ep] at e;cases e
  |some ps=>
   rw[ep] at e;cases e;obtain⟨⟨as,h1⟩,h2,h3⟩:=ju I rs Hz rl ep;exact⟨⟨_,.tuple ho hc hd (by simpa using h1)⟩,h2,succ_le_succ h3⟩
 |n+1,.JG xs,_,_,_,rv,r,e=>by
  obtain⟨a,vs,rfl,hq,Hz⟩:=rv.ML;cases r;obtain⟨its,rl,pl,hz⟩:=I.list hq.sq;obtain⟨o,ho,hc,k,hd⟩:=pl.isList;unfold pD at e;cases ep:K5 S n xs with
  |none=>rw[ep] at e;cases e
  |some ps=>
   rw[ep] at e;cases e;obtain⟨⟨as,h1⟩,h2,h3⟩:=ju I rs Hz rl ep;exact⟨⟨_,.list ho hc hd (by simpa using h1)⟩,h2,succ_le_succ h3⟩
 |n+1,.ob k,_,_,_,rv,r,e=>by
  obtain⟨a,rfl,hn⟩:=rv.Kw;cases r;obtain⟨c,hc,rc⟩:=rs.Ly hn;unfold pD at e;rw[hc] at e;cases c with
  |lst xs=>
   obtain⟨vs,hv,Hz⟩:=rc;obtain⟨its,rl,pl,hz⟩:=I.list (Jl.of hv);obtain⟨o,ho,hc,k,hd⟩:=pl.isList;dsimp only at e;cases ep:K5 S n xs with
   |none=>rw[ep] at e;cases e
   |some ps=>
    rw[ep] at e;cases e;obtain⟨⟨as,h1⟩,h2,h3⟩:=ju I rs Hz rl ep;exact⟨⟨_,.list ho hc hd (by simpa using h1)⟩,h2,succ_le_succ h3⟩
  |_=>cases e
 |n+1,.xn c,_,_,_,_,_,e=>by unfold pD at e;cases e
theorem ju(I:Inv X pins σ H s)(rs:G6 X.K H J S):∀{n:Nat}{xs:List D}{vs:List V}{us:List Value}{ps:List PyData},l_ X.K H J xs vs->Vals vs us->K5 S n xs=some ps->(∃as,ReadsAll s.heap us ps as)/\PyData.canLayAll0 ps=true/\PyData.depthAll ps<=n
 |n,[],_,_,_,rv,r,e=>by
  unfold l_ at rv;subst rv;cases r;unfold K5 at e;cases e;exact⟨⟨_,.nil⟩,rfl,zero_le _⟩
 |n,x :: xs,_,_,_,rv,r,e=>by
  unfold l_ at rv;obtain⟨v,t,rfl,h1,h2⟩:=rv;cases r with
  |cons q qs=>
   unfold K5 at e;cases e1:pD S n x with
   |none=>rw[e1] at e;cases e
   |some p=>
    cases e2:K5 S n xs with
    |none=>rw[e1,e2] at e;cases e
    |some ps=>
     rw[e1,e2] at e;cases e;obtain⟨⟨as,a1⟩,a2,a3⟩:=ly I rs h1 q e1;obtain⟨⟨bs,b1⟩,b2,b3⟩:=ju I rs h2 qs e2;refine⟨⟨_,.cons a1 b1⟩,?_,?_⟩
     ·simp[PyData.canLayAll0,a2,b2]
     ·simp only[PyData.depthAll];exact Nat.max_le.mpr ⟨a3,b3⟩
end
end
def G_(x y:D):M D:=fun S=>match pD S 30 x,pD S 30 y with
 |some p,some q=>.ok (.bl (PyData.eqv p q)) S
 |_,_=>.bad
def Jp(x y:D):M D:=fun S=>match pD S 30 x,pD S 30 y with
 |some p,some q=>.ok (.bl (!PyData.eqv p q)) S
 |_,_=>.bad
section
variable{X:Cx}
def cj(hu:X.A.units+64<cLine):KU X (compareOp .Eq) G_:=by
 intro pins s σ H J S x y vx vy v u Q E I rs rx ry rv ru m;unfold G_ at m;cases e1:pD S 30 x with
 |none=>rw[e1] at m;exact m.elim
 |some p=>
  cases e2:pD S 30 y with
  |none=>rw[e1,e2] at m;exact m.elim
  |some q=>
   rw[e1,e2] at m;obtain⟨⟨as,a1⟩,a2,a3⟩:=ly I rs rx rv e1;obtain⟨⟨bs,b1⟩,b2,b3⟩:=ly I rs ry ru e2;exact SeqAt.compareEq_reads a1 b1 a2 b2 (by have:=Nat.min_le_left p.depth q.depth;omega) (m.JU I rs (s_.bl _ _ _ _) rfl)
def n5(hu:X.A.units+64<cLine):KU X (compareOp .NotEq) Jp:=by
 intro pins s σ H J S x y vx vy v u Q E I rs rx ry rv ru m;unfold Jp at m;cases e1:pD S 30 x with
 |none=>rw[e1] at m;exact m.elim
 |some p=>
  cases e2:pD S 30 y with
  |none=>rw[e1,e2] at m;exact m.elim
  |some q=>
   rw[e1,e2] at m;obtain⟨⟨as,a1⟩,a2,a3⟩:=ly I rs rx rv e1;obtain⟨⟨bs,b1⟩,b2,b3⟩:=ly I rs ry ru e2;exact SeqAt.compareNe_reads a1 b1 a2 b2 (by have:=Nat.min_le_left p.depth q.depth;omega) (m.JU I rs (s_.bl _ _ _ _) rfl)
def Sj(C:Int->Int->Prop)(g:Int->Int->D):D->D->M D
 |.int i,.int j=>fun S=>JC (C i j) (.ok (g i j) S) .bad
 |_,_=>M.bad
def xq{f:Value->Value->Sem Value}{C:Int->Int->Prop}{g:Int->Int->Int}(h:∀E,MJ (X.Hw E) f (rI C fun i j=>.int (g i j))):KU X f (Sj C fun i j=>.int (g i j)):=by
 refine KU.of h (fun H J S x y vx vy d S' rs rx ry e=>?_) (fun x y S c S' e=>?_)
 ·cases x with
  |int i=>
   cases y with
   |int j=>
    cases rx.Ic;cases ry.Ic;simp only[Sj,JC] at e;split at e
    ·rename_i hc;cases e;exact⟨i,j,rfl,rfl,hc,J,Ext.refl _ _,rs,s_.int _ _ _ _⟩
    ·cases e
   |_=>cases e
  |_=>cases e
 ·cases x with
  |int i=>
   cases y with
   |int j=>
    simp only[Sj,JC] at e;split at e<;>cases e
   |_=>cases e
  |_=>cases e
def uT(p:Int->Int->Bool):D->D->M D
 |.int i,.int j=>fun S=>.ok (.bl (p i j)) S
 |_,_=>M.bad
def uj{f:Value->Value->Sem Value}{p:Int->Int->Bool}(h:∀E,MJ (X.Hw E) f (R7 fun i j=>.bl (p i j))):KU X f (uT p):=by
 refine KU.of h (fun H J S x y vx vy d S' rs rx ry e=>?_) (fun x y S c S' e=>?_)
 ·cases x with
  |int i=>
   cases y with
   |int j=>
    cases rx.Ic;cases ry.Ic;cases e;exact⟨i,j,rfl,rfl,J,Ext.refl _ _,rs,s_.bl _ _ _ _⟩
   |_=>cases e
  |_=>cases e
 ·cases x with
  |int i=>
   cases y with
   |int j=>cases e
   |_=>cases e
  |_=>cases e
def sL:D->D->M D:=Sj (fun _ _=>True) fun i j=>.int (i-j)
def wF:D->D->M D:=Sj Eg fun i j=>.int (i / j)
def jT:D->D->M D:=Sj (fun _ j=>0<j) fun i j=>.int (i % j)
def w8:KU X (binaryOp .Sub) sL:=xq (C:=fun _ _=>True) (g:=fun i j=>i-j) fun E=>Uk fun _ _ _ _ _ _ _ _ q=>sub_int q
def yY:KU X (binaryOp .FloorDiv) wF:=xq fun E=>CF
def iX:KU X (binaryOp .Mod) jT:=xq fun E=>E4
def jV:KU X (compareOp .Lt) (uT fun i j=>decide (i<j)):=uj fun E=>FI
def qu:KU X (compareOp .LtE) (uT fun i j=>decide (i<=j)):=uj fun E=>FW
def Bx:KU X (compareOp .Gt) (uT fun i j=>decide (j<i)):=uj fun E=>Fz
def v7:KU X (compareOp .GtE) (uT fun i j=>decide (j<=i)):=uj fun E=>Ft
def BA{t b:Addr}{vs ws:List Value}{A:Around}{s:Shared}{prog:Program}{w:World}{Q E:Value->Shared->Prop}(ht:IsTup s.heap t vs.toArray)(hb:IsTup s.heap b ws.toArray)(hv:vs=[])(h1:Q (.ref b) s) :
  wpAny (model prog w) A (binaryOp .Add (.ref t) (.ref b)) Q E s:=by
 obtain⟨⟨cls,dd,data,sl⟩,ho,hc,n,hd⟩:=id ht;obtain⟨⟨SU,R9,data2,R_⟩,OB,QR,n2,hd2⟩:=id hb;simp only at hc hd QR hd2;subst hc hd QR hd2;exact concat_meets ⟨_,ho,rfl⟩ ⟨_,OB,rfl⟩ noFill_tuple_add seq_tuple_add slot_tuple_add entry_tuple_add (args_tuple_add_2 _ _)
  (tuple_addW0 t b vs.toArray ws.toArray n n2 dd R9 sl R_ (by simp[hv])) ⟨ho,OB,h1⟩
def cQ(S:List Cell)(n:Nat):Option (List D):=match S[n]? with
 |some (.lst xs)=>some xs
 |_=>none
def bK:D->D->M D
 |.int i,.int j=>fun S=>.ok (.int (i+j)) S
 |.tup xs,.tup ys=>oJ (xs++ys)
 |.ob n,.ob m=>fun S=>match cQ S n,cQ S m with
  |some xs,some ys=>oS (xs++ys) S
  |_,_=>.bad
 |_,_=>M.bad
def qr{S:List Cell}{n:Nat}{xs:List D}(h:cQ S n=some xs):S[n]?=some (.lst xs):=by
 unfold cQ at h;split at h
 ·rename_i e;rw[e];cases h;rfl
 ·cases h
def G6.lst{K:PySem.W.Frag}{H:Hp}{J:List Addr}{S:List Cell}{n:Nat}{xs:List D}{a:Addr}(rs:G6 K H J S)(h:cQ S n=some xs)(hn:J[n]?=some a):∃vs,H a=some (.lst vs)/\l_ K H J xs vs:=rs.at_ n _ a (qr h) hn
def cm:KU X (binaryOp .Add) bK:=by
 intro pins s σ H J S x y vx vy v u Q E I rs rx ry rv ru m;cases x with
 |int i=>
  cases y with
  |int j=>
   cases rx.Ic;cases ry.Ic;obtain⟨t,rfl⟩:=rv;obtain⟨t',rfl⟩:=ru;exact add_int (m.JU (I.tok _) rs (s_.int _ _ _ _) ⟨_,rfl⟩)
  |_=>exact m.elim
 |tup xs=>
  cases y with
  |tup ys=>
   obtain⟨a,vs,rfl,ha,Hz⟩:=rx.Kv;obtain⟨b,ws,rfl,hb,rws⟩:=ry.Kv;cases rv;cases ru;obtain⟨its,r1,p1,_⟩:=I.tuple ha;obtain⟨K4,r2,p2,_⟩:=I.tuple hb;simp only[bK,oJ,JC] at m;split at m
   ·rename_i hz;rw[length_append] at hz;by_cases h0:its=[]
    ·have e0:xs=[]:=Hz.KN.mp (r1.KN.mp h0);subst e0;exact BA p1 p2 h0 (m.JU (v:=.ref b) I rs (by rw[nil_append];exact .tup hb rws) rfl)
    ·refine HT.P1 p1 p2 h0 (fun z=>?_) (fun z=>?_) (by rw[<-r1.length,<-r2.length,Hz.length,rws.length];exact hz)
     ·have e0:ys=[]:=rws.KN.mp (r2.KN.mp z);subst e0;exact m.JU (v:=.ref a) I rs (by rw[append_nil];exact .tup ha Hz) rfl
     ·have hf:H s.heap.objs.size=none:=I.Hc.fresh (Nat.le_refl _);refine m.val (H':=upd H s.heap.objs.size (.tup (vs++ws))) (v:=.ref s.heap.objs.size) (I.laid (t':=s.toks) (fun b u e=>get?_push_of_some _ e) (Nat.le_refl _) ?_) rfl (Got.tup rs (Hz.append rws) hf);exact⟨by rw[length_append,Hz.length,rws.length];exact hz,_,r1.append r2,IsTup.new _ _⟩
   ·exact m.elim
  |_=>exact m.elim
 |ob n=>
  cases y with
  |ob k=>
   obtain⟨a,rfl,hn⟩:=rx.Kw;obtain⟨b,rfl,hk⟩:=ry.Kw;simp only[bK] at m;cases e1:cQ S n with
   |none=>rw[e1] at m;exact m.elim
   |some xs=>
    cases e2:cQ S k with
    |none=>rw[e1,e2] at m;exact m.elim
    |some ys=>
     rw[e1,e2] at m;obtain⟨vs,hv,Hz⟩:=rs.lst e1 hn;obtain⟨ws,hw,rws⟩:=rs.lst e2 hk;simp only[oS,JC] at m;split at m
     ·rename_i hz;rw[length_append] at hz;refine wpAny_mono (Ep (X:=X.Hw E) pins s σ H (.ref a) (.ref b) v u (Got X.K H J (.ob S.length) (S++[.lst (xs++ys)])) (I.Hw E) rv ru ⟨a,b,vs,ws,rfl,rfl,hv,hw,by rw[Hz.length,rws.length];exact hz,fun p hp=>?_⟩) (fun u s' q=>m u s' (EP.HN q)) fun _ _ z=>z
      exact Got.lst rs (Hz.append rws) hp
     ·exact m.elim
  |_=>exact m.elim
 |_=>exact m.elim
def ix:D->D->M D
 |.int i,.int j=>fun S=>JC (OA i j) (.ok (.int (i * j)) S) .bad
 |.ob n,.int k=>fun S=>match cQ S n with
  |some xs=>JC ((-(2 ^ 63)<=k/\k<2 ^ 63)/\xs.length * k.toNat<=sizeLine) (.ok (.ob S.length) (S++[.lst (replicate k.toNat xs).flatten])) .bad
  |none=>.bad
 |_,_=>M.bad
theorem l_.rep{K:PySem.W.Frag}{H:Hp}{J:List Addr}{xs:List D}{vs:List V}(h:l_ K H J xs vs):∀k:Nat,l_ K H J (replicate k xs).flatten (replicate k vs).flatten
 |0=>.nil
 |k+1=>by
  rw[replicate_succ,replicate_succ,flatten_cons,flatten_cons];exact h.append (l_.rep h k)
def lB:KU X (binaryOp .Mult) ix:=by
 refine KU.of (fun E=>Rh.or Eo) (fun H J S x y vx vy d S' rs rx ry e=>?_) (fun x y S c S' e=>?_)
 ·cases x with
  |int i=>
   cases y with
   |int j=>
    cases rx.Ic;cases ry.Ic;simp only[ix,JC] at e;split at e
    ·rename_i hc;cases e;exact .inl ⟨i,j,rfl,rfl,hc,J,Ext.refl _ _,rs,s_.int _ _ _ _⟩
    ·cases e
   |_=>cases e
  |ob n=>
   cases y with
   |int k=>
    obtain⟨a,rfl,hn⟩:=rx.Kw;cases ry.Ic;simp only[ix,JC] at e;cases e1:cQ S n with
    |none=>rw[e1] at e;cases e
    |some xs=>
     rw[e1] at e;dsimp only at e;split at e
     ·rename_i hz;cases e;obtain⟨vs,hv,Hz⟩:=rs.lst e1 hn;exact .inr ⟨a,k,vs,rfl,rfl,hv,hz.1.1,hz.1.2,by rw[Hz.length];exact hz.2,fun p hp=>Got.lst rs (Hz.rep _) hp⟩
     ·cases e
   |_=>cases e
  |_=>cases e
 ·cases x with
  |int i=>
   cases y with
   |int j=>
    simp only[ix,JC] at e;split at e<;>cases e
   |_=>cases e
  |ob n=>
   cases y with
   |int k=>
    simp only[ix,JC] at e;split at e
    ·split at e<;>cases e
    ·cases e
   |_=>cases e
  |_=>cases e
def gW(S:List Cell):D->Option (List D)
 |.tup xs=>some xs
 |.JG xs=>some xs
 |.ob n=>cQ S n
 |_=>none
def y_:D->D->M D
 |x,.int i=>fun S=>match gW S x with
  |some xs=>(match M7 xs i with
   |some d=>.ok d S
   |none=>.bad)
  |none=>.bad
 |_,_=>M.bad
def l_.M7{K:PySem.W.Frag}{H:Hp}{J:List Addr}{xs:List D}{vs:List V}{i:Int}{d:D}(h:l_ K H J xs vs)(e:L2.M7 xs i=some d):∃v,L2.M7 vs i=some v/\s_ K H J d v:=by
 unfold L2.M7 at e ⊢;rw[h.length];cases e1:Oc xs.length i with
 |none=>rw[e1] at e;cases e
 |some j=>
  rw[e1] at e;exact h.get (show xs[j]?=some d from e)
def HS:Sd X y_:=by
 refine Sd.of (r:=fun x y H Q=>Fy X.K x y H Q\/FF X.K x y H Q) (fun E=>(CK (X:=X.Hw E)).or (EC (X:=X.Hw E))) (fun H J S x y vx vy d S' rs rx ry e=>?_) (fun x y S c S' e=>?_)
 ·cases y with
  |int i=>
   cases ry.Ic;simp only[y_] at e;cases x with
   |tup xs=>
    obtain⟨a,vs,rfl,hq,Hz⟩:=rx.Kv;simp only[gW] at e;cases e1:M7 xs i with
    |none=>rw[e1] at e;cases e
    |some d=>
     rw[e1] at e;cases e;obtain⟨v,h1,h2⟩:=Hz.M7 e1;exact .inr ⟨a,vs,i,v,rfl,rfl,hq,h1,J,Ext.refl _ _,rs,h2⟩
   |JG xs=>
    obtain⟨a,vs,rfl,hq,Hz⟩:=rx.ML;simp only[gW] at e;cases e1:M7 xs i with
    |none=>rw[e1] at e;cases e
    |some d=>
     rw[e1] at e;cases e;obtain⟨v,h1,h2⟩:=Hz.M7 e1;exact .inl ⟨a,vs,i,v,rfl,rfl,hq.sq,h1,J,Ext.refl _ _,rs,h2⟩
   |ob n=>
    obtain⟨a,rfl,hn⟩:=rx.Kw;simp only[gW] at e;cases e0:cQ S n with
    |none=>rw[e0] at e;cases e
    |some xs=>
     rw[e0] at e;dsimp only at e;obtain⟨vs,hv,Hz⟩:=rs.lst e0 hn;cases e1:M7 xs i with
     |none=>rw[e1] at e;cases e
     |some d=>
      rw[e1] at e;cases e;obtain⟨v,h1,h2⟩:=Hz.M7 e1;exact .inl ⟨a,vs,i,v,rfl,rfl,Jl.of hv,h1,J,Ext.refl _ _,rs,h2⟩
   |_=>cases e
  |_=>cases e
 ·cases y with
  |int i=>
   simp only[y_] at e;split at e
   ·split at e<;>cases e
   ·cases e
  |_=>cases e
def gg(xs:List D)(lo hi:Option Int):List D:=(xs.drop (HT.Ik xs.length 0 lo)).take (HT.Ik xs.length xs.length hi-HT.Ik xs.length 0 lo)
def l_.cut{K:PySem.W.Frag}{H:Hp}{J:List Addr}{xs:List D}{vs:List V}(h:l_ K H J xs vs)(lo hi:Option Int):l_ K H J (gg xs lo hi) (xv vs lo hi):=by
 unfold gg xv;rw[h.length];exact(h.drop _).take _
def Jd:D->Option Int->Option Int->M D
 |.tup xs,lo,hi=>M.ret (.tup (gg xs lo hi))
 |.JG xs,lo,hi=>fun S=>.ok (.ob S.length) (S++[.lst (gg xs lo hi)])
 |.ob n,lo,hi=>fun S=>match cQ S n with
  |some xs=>.ok (.ob S.length) (S++[.lst (gg xs lo hi)])
  |none=>.bad
 |_,_,_=>M.bad
def nu{prog:Program}{w:World}{A:Around}{E:Value->Shared->Prop}{s:Shared}{t sl:Addr}{items:Array Value}{vl vu:Value}{lo hi:Option Int}{Q:Value->Shared->Prop}(ht:IsTup s.heap t items)(hs:s.heap.IsSliceOf sl vl vu .none)
  (pl:IsPart vl lo) (pu:IsPart vu hi) (hw:HT.Ik items.size 0 lo=0/\HT.Ik items.size items.size hi=items.size) (h:Q (.ref t) s):wpAny (model prog w) A (getItem (.ref t) (.ref sl)) Q E s:=by
 obtain⟨os,Rj,NC,Rk⟩:=id hs;have Ve:s.TypeIs (.ref sl) "slice":=⟨os,Rj,NC⟩;unfold getItem
 try with_reducible refine wpAny_holding ?_
 first|refine wpAny_bind (wpAny_pure ?_)|skip
 refine wpAny_bind (wpAny_sequenceKey ht.typeIs (by decide) ?_);refine wpAny_bind (wpAny_callSpecial?_slot (name:=Str.ofString "__getitem__") ht.typeIs PyProof.Rows.slot_tuple_getitem
  (wpAny_call_entry PyProof.Rows.slot_tuple_getitem ht.typeIs entry_tuple_getitem ?_ (args_tuple_getitem _ _)))
 show wpAny _ _ (Builtin.Tuple.tupleItemsOf (.ref t) >>= _) _ _ s;refine wpAny_bind (tupleItemsOf_ ht ?_);refine wpAny_bind (wpAny_typeOf Ve ?_);rw[if_pos (by decide)];refine wpAny_bind (HT.Jz hs pl pu ?_);have VC:((((HT.Ik items.size 0 lo:Nat):Int) == 0 && (1:Int) == 1 && (HT.Ik items.size items.size hi-HT.Ik items.size 0 lo) == items.size)=true):=by
  rw[hw.1,hw.2];simp
 show wpAny _ _ (if (((HT.Ik items.size 0 lo:Nat):Int) == 0 && (1:Int) == 1 && (HT.Ik items.size items.size hi-HT.Ik items.size 0 lo) == items.size)=true then _ else _) _ _ s;rw[if_pos VC];refine wpAny_bind (m:=Builtin.Tuple.tupleIsExact _) (wpAny_bind (wpAny_typeOf ht.typeIs (wpAny_pure ?_)));rw[if_pos (by decide)]
 first
  |exact wpAny_bind (wpAny_rule (wpAny_pure ⟨_,rfl,wpAny_pure h⟩))
  |exact wpAny_bind (wpAny_rule (wpAny_bind (wpAny_pure (wpAny_pure ⟨_,rfl,wpAny_pure h⟩))))
def PQ:Ys X Jd:=by
 intro pins s σ H J S x vx v vl vu lo hi sl Q E I rs rx rv hs pl pu m;cases x with
 |tup xs=>
  obtain⟨a,vs,rfl,hq,Hz⟩:=rx.Kv;cases rv;obtain⟨its,r,ht,hz⟩:=I.tuple hq;have hlen:its.toArray.size=xs.length:=by rw[size_toArray,<-r.length,Hz.length]
  refine⟨"tuple",_,PyProof.Rows.slot_tuple_getitem.lookup,ht.typeIs,?_⟩;by_cases hw:HT.Ik xs.length 0 lo=0/\HT.Ik xs.length xs.length hi=xs.length
  ·refine nu ht hs pl pu (by rw[hlen];exact hw) (m.JU (v:=.ref a) I rs ?_ rfl);have e:gg xs lo hi=xs:=by
    unfold gg;rw[hw.1,hw.2];simp
   rw[e];exact .tup hq Hz
  ·refine HT.KL ht hs pl pu (by rw[hlen];exact hw) ?_ (by rw[size_toArray,<-r.length];exact hz);have hf:H s.heap.objs.size=none:=I.Hc.fresh (Nat.le_refl _);refine m.val (H':=upd H s.heap.objs.size (.tup (xv vs lo hi))) (v:=.ref s.heap.objs.size) (I.laid (t':=s.toks) (fun b ob q=>get?_push_of_some _ q) (Nat.le_refl _) ?_) rfl (Got.tup rs (Hz.cut lo hi) hf);have P2:its.toArray.size=vs.length:=by rw[size_toArray];exact r.length.symm
   rw[P2];exact⟨Nat.le_trans (o9 vs lo hi) hz,_,(r.drop (HT.Ik vs.length 0 lo)).take (HT.Ik vs.length vs.length hi-HT.Ik vs.length 0 lo),IsTup.new _ _⟩
 |JG xs=>
  obtain⟨a,vs,rfl,hq,Hz⟩:=rx.ML;obtain⟨T,id,h1,h2,h3⟩:=yQ (X:=X.Hw E) pins s σ H (.ref a) v vl vu lo hi sl (Got X.K H J (.ob S.length) (S++[.lst (gg xs lo hi)])) (I.Hw E) rv hs pl pu ⟨a,vs,rfl,hq.sq,fun p hp=>Got.lst rs (Hz.cut lo hi) hp⟩;exact⟨T,id,h1,h2,wpAny_mono h3 (fun u s' q=>m u s' (EP.HN q)) fun _ _ z=>z⟩
 |ob n=>
  obtain⟨a,rfl,hn⟩:=rx.Kw;simp only[Jd] at m;cases e0:cQ S n with
  |none=>rw[e0] at m;exact m.elim
  |some xs=>
   rw[e0] at m;obtain⟨vs,hv,Hz⟩:=rs.lst e0 hn;obtain⟨T,id,h1,h2,h3⟩:=yQ (X:=X.Hw E) pins s σ H (.ref a) v vl vu lo hi sl (Got X.K H J (.ob S.length) (S++[.lst (gg xs lo hi)])) (I.Hw E) rv hs pl pu ⟨a,vs,rfl,Jl.of hv,fun p hp=>Got.lst rs (Hz.cut lo hi) hp⟩;exact⟨T,id,h1,h2,wpAny_mono h3 (fun u s' q=>m u s' (EP.HN q)) fun _ _ z=>z⟩
 |_=>exact m.elim
def bq:List D->M D
 |[x]=>fun S=>match gW S x with
  |some xs=>.ok (.int xs.length) S
  |none=>.bad
 |_=>M.bad
def lG{K:PySem.W.Frag}{H:Hp}{J:List Addr}{S:List Cell}{x:D}{v:V}{xs:List D}(rs:G6 K H J S)(rx:s_ K H J x v)(e:gW S x=some xs):∃a vs,v=.ref a/\(Jl K H a vs\/JQ K H a vs)/\l_ K H J xs vs:=by
 cases x with
 |tup xs=>
  obtain⟨a,vs,rfl,hq,Hz⟩:=rx.Kv;cases e;exact⟨a,vs,rfl,.inr hq,Hz⟩
 |JG xs=>
  obtain⟨a,vs,rfl,hq,Hz⟩:=rx.ML;cases e;exact⟨a,vs,rfl,.inl hq.sq,Hz⟩
 |ob n=>
  obtain⟨a,rfl,hn⟩:=rx.Kw;obtain⟨vs,hv,Hz⟩:=rs.lst e hn;exact⟨a,vs,rfl,.inl (Jl.of hv),Hz⟩
 |_=>cases e
def cJ:IJ X (.builtin "len") bq:=by
 refine IJ.of (r:=fun xs H Q=>∃p ys,xs=[.ref p]/\(Jl X.K H p ys\/JQ X.K H p ys)/\Q (.int ys.length) H) (fun E=>vg (X:=X.Hw E)) (fun H J S xs vs d S' rs rx e=>?_) (fun xs S c S' e=>?_)
 ·match xs,rx,e with
  |[x],rx,e=>
   obtain⟨v,rfl,h1⟩:=rx.Kk;simp only[bq] at e;cases e1:gW S x with
   |none=>rw[e1] at e;cases e
   |some ys=>
    rw[e1] at e;cases e;obtain⟨a,ws,rfl,hq,Hz⟩:=lG rs h1 e1;exact⟨a,ws,rfl,hq,J,Ext.refl _ _,rs,by rw[Hz.length];exact s_.int _ _ _ _⟩
  |[],rx,e=>cases e
  |_ :: _ :: _,rx,e=>cases e
 ·match xs,e with
  |[x],e=>
   simp only[bq] at e;split at e<;>cases e
  |[],e=>cases e
  |_ :: _ :: _,e=>cases e
def vL(g:Int->Int->Int):List D->M D
 |[.int i,.int j]=>M.ret (.int (g i j))
 |_=>M.bad
def yF{g:Int->Int->Int}{xs:List D}{S S':List Cell}{d:D}(e:vL g xs S=.ok d S'):∃i j,xs=[.int i,.int j]/\d=.int (g i j)/\S'=S:=by
 unfold vL at e;split at e
 ·rename_i i j;cases e;exact⟨i,j,rfl,rfl,rfl⟩
 ·cases e
def yy{g:Int->Int->Int}{xs:List D}{S S':List Cell}{c:Addr}:vL g xs S≠.exc c S':=by
 intro e;unfold vL at e;split at e<;>cases e
def BV(hc:X.calm=true):IJ X (.builtin "max") (vL fun i j=>if j > i then j else i):=by
 refine IJ.of (fun E=>zY (X:=X.Hw E) hc) (fun H J S xs vs d S' rs rx e=>?_) (fun xs S c S'=>yy);obtain⟨i,j,rfl,rfl,rfl⟩:=yF e;obtain⟨v,w,rfl,h1,h2⟩:=rx.O7;cases h1.Ic;cases h2.Ic;exact⟨i,j,rfl,J,Ext.refl _ _,rs,s_.int _ _ _ _⟩
def AR(hc:X.calm=true):IJ X (.builtin "min") (vL fun i j=>if j<i then j else i):=by
 refine IJ.of (fun E=>z5 (X:=X.Hw E) hc) (fun H J S xs vs d S' rs rx e=>?_) (fun xs S c S'=>yy);obtain⟨i,j,rfl,rfl,rfl⟩:=yF e;obtain⟨v,w,rfl,h1,h2⟩:=rx.O7;cases h1.Ic;cases h2.Ic;exact⟨i,j,rfl,J,Ext.refl _ _,rs,s_.int _ _ _ _⟩
def BX:List D->M D
 |[.int i]=>M.ret (.int i)
 |[.bl b]=>M.ret (.int (if b then 1 else 0))
 |_=>M.bad
def EF:IJ X (.type "int") BX:=by
 refine IJ.of (fun E=>Ac) (fun H J S xs vs d S' rs rx e=>?_) (fun xs S c S' e=>?_)
 ·unfold BX at e;split at e
  ·cases e;obtain⟨v,rfl,h1⟩:=rx.Kk;cases h1.Ic;exact .inl ⟨_,rfl,J,Ext.refl _ _,rs,s_.int _ _ _ _⟩
  ·cases e;obtain⟨v,rfl,h1⟩:=rx.Kk;cases h1.O4;exact .inr ⟨_,rfl,J,Ext.refl _ _,rs,s_.int _ _ _ _⟩
  ·cases e
 ·unfold BX at e;split at e<;>cases e
def fm:List D->M D
 |[x]=>fun S=>match gW S x with
  |some xs=>.ok (.tup xs) S
  |none=>.bad
 |_=>M.bad
def gS:IJ X (.type "tuple") fm:=by
 refine IJ.of (r:=fun xs H Q=>∃p ys,xs=[.ref p]/\((Jl X.K H p ys/\∀l,H l=none->Q (.ref l) (upd H l (.tup ys)))\/(JQ X.K H p ys/\Q (.ref p) H))) (fun E=>sj (X:=X.Hw E)) (fun H J S xs vs d S' rs rx e=>?_) (fun xs S c S' e=>?_)
 ·unfold fm at e;split at e
  ·obtain⟨v,rfl,h1⟩:=rx.Kk;split at e
   ·rename_i e1;cases e;obtain⟨a,ws,rfl,hq,Hz⟩:=lG rs h1 e1;refine⟨a,ws,rfl,?_⟩;rcases hq with hq|hq
    ·exact .inl ⟨hq,fun l hl=>Got.tup rs Hz hl⟩
    ·exact .inr ⟨hq,J,Ext.refl _ _,rs,.tup hq Hz⟩
   ·cases e
  ·cases e
 ·unfold fm at e;split at e
  ·split at e<;>cases e
  ·cases e
def yO:List D->M D
 |[x]=>fun S=>match gW S x with
  |some xs=>.ok (.ob S.length) (S++[.lst xs])
  |none=>.bad
 |_=>M.bad
def Dz:IJ X (.type "list") yO:=by
 refine IJ.of (r:=fun xs H Q=>∃p ys,xs=[.ref p]/\(Jl X.K H p ys\/JQ X.K H p ys)/\∀l,H l=none->Q (.ref l) (upd H l (.lst ys))) (fun E=>uK (X:=X.Hw E)) (fun H J S xs vs d S' rs rx e=>?_) (fun xs S c S' e=>?_)
 ·unfold yO at e;split at e
  ·obtain⟨v,rfl,h1⟩:=rx.Kk;split at e
   ·rename_i e1;cases e;obtain⟨a,ws,rfl,hq,Hz⟩:=lG rs h1 e1;exact⟨a,ws,rfl,hq,fun l hl=>Got.lst rs Hz hl⟩
   ·cases e
  ·cases e
 ·unfold yO at e;split at e
  ·split at e<;>cases e
  ·cases e
def Sk(S:List Cell):D->Option String
 |.G0=>some "NoneType"
 |.bl _=>some "bool"
 |.int _=>some "int"
 |.str _=>some "str"
 |.tup _=>some "tuple"
 |.JG _=>some "list"
 |.ob n=>match S[n]? with
  |some (.lst _)=>some "list"
  |some (.IT _)=>some "dict"
  |_=>none
 |.xn _=>none
def zo(t T:String):Bool:=t == T || (t == "bool" && T == "int")
def PR(T:String)(x:D):M D:=fun S=>match Sk S x with
 |some t=>.ok (.bl (zo t T)) S
 |none=>.bad
def vE(K:PySem.W.Frag)(T:String):Prop:=∀t∈["NoneType","bool","int","str","tuple","list","dict"],PySem.W.kitOne K (.type t) (.type T)=some (zo t T)
def Cj(K:PySem.W.Frag):vE K "int":=by
 intro t ht;simp only[mem_cons,not_mem_nil,or_false] at ht;rcases ht with rfl|rfl|rfl|rfl|rfl|rfl|rfl<;>rfl
def Bm(K:PySem.W.Frag):vE K "bool":=by
 intro t ht;simp only[mem_cons,not_mem_nil,or_false] at ht;rcases ht with rfl|rfl|rfl|rfl|rfl|rfl|rfl<;>rfl
def oK(K:PySem.W.Frag):vE K "tuple":=by
 intro t ht;simp only[mem_cons,not_mem_nil,or_false] at ht;rcases ht with rfl|rfl|rfl|rfl|rfl|rfl|rfl<;>rfl
def AW{T:String}{pins:G4}{s:Shared}{σ:L2.St}{H:Hp}{J:List Addr}{S:List Cell}{x:D}{vx:V}{v:Value}{Q E:Value->Shared->Prop}(hk:vE X.K T)(I:Inv X pins σ H s)(rs:G6 X.K H J S)(rx:s_ X.K H J x vx)(rv:RelV vx v)
  (m:Mt X pins σ H J (PR T x S) Q E):wpAny (model X.prog X.w) X.A (call (.builtin "isinstance") [v,.type T]) Q E s:=by
 unfold PR at m;cases x with
 |G0=>
  cases rx.NN;cases rv;exact kia_one PySem.W.kitx_none I.Ls True.intro (hk "NoneType" (by simp)) (fun z=>nomatch z) fun tk=>m.JU (I.tok tk) rs (s_.bl _ _ _ _) rfl
 |bl b=>
  cases rx.O4;cases rv;exact kia_one PySem.W.kitx_bool I.Ls True.intro (hk "bool" (by simp)) (fun z=>nomatch z) fun tk=>m.JU (I.tok tk) rs (s_.bl _ _ _ _) rfl
 |int i=>
  cases rx.Ic;obtain⟨t,rfl⟩:=rv;exact kia_one PySem.W.kitx_int I.Ls True.intro (hk "int" (by simp)) (fun z=>nomatch z) fun tk=>m.JU (I.tok tk) rs (s_.bl _ _ _ _) rfl
 |str i=>
  cases rx.O5;obtain⟨t,rfl⟩:=rv;exact kia_one PySem.W.kitx_str I.Ls True.intro (hk "str" (by simp)) (fun z=>nomatch z) fun tk=>m.JU (I.tok tk) rs (s_.bl _ _ _ _) rfl
 |tup xs=>
  obtain⟨a,vs,rfl,hq,Hz⟩:=rx.Kv;cases rv;obtain⟨its,r,⟨o,h1,h2,_⟩,hz⟩:=I.tuple hq;exact kia_one PySem.W.kitx_tuple I.Ls ⟨o,h1,h2⟩ (hk "tuple" (by simp)) (fun z=>nomatch z) fun tk=>m.JU (I.tok tk) rs (s_.bl _ _ _ _) rfl
 |JG xs=>
  obtain⟨a,vs,rfl,hq,Hz⟩:=rx.ML;cases rv;obtain⟨its,r,pl,hz⟩:=I.list hq.sq;obtain⟨o,h1,h2,_⟩:=pl.isList;exact kia_one kitx_list I.Ls ⟨o,h1,h2⟩ (hk "list" (by simp)) (fun z=>nomatch z) fun tk=>m.JU (I.tok tk) rs (s_.bl _ _ _ _) rfl
 |ob n=>
  obtain⟨a,rfl,hn⟩:=rx.Kw;cases rv;simp only[Sk] at m;obtain⟨c,hc,rc⟩:=rs.Ly hn;rw[hc] at m;cases c with
  |lst xs=>
   obtain⟨vs,hv,Hz⟩:=rc;obtain⟨its,r,pl,hz⟩:=I.list (Jl.of hv);obtain⟨o,h1,h2,_⟩:=pl.isList;exact kia_one kitx_list I.Ls ⟨o,h1,h2⟩ (hk "list" (by simp)) (fun z=>nomatch z) fun tk=>m.JU (I.tok tk) rs (s_.bl _ _ _ _) rfl
  |IT kvs=>
   obtain⟨ws,hv,_⟩:=rc;obtain⟨_,_,vs,_,p⟩:=(show HG X.prog X.w H s.heap a (.dK ws) from I.Hc a _ hv);obtain⟨o,es,ep,h1,h2,_⟩:=p;exact kia_one PySem.W.kitx_dict I.Ls ⟨o,h1,h2.1⟩ (hk "dict" (by simp)) (fun z=>nomatch z) fun tk=>m.JU (I.tok tk) rs (s_.bl _ _ _ _) rfl
  |ins C ns ds=>exact m.elim
 |xn c=>exact m.elim
def M_(T:String)(fe:tB->M D):tB->M D:=fun r=>(fe r).bind (PR T)
variable{e:Expr}{fe:tB->M D}{pos:Pos}
def jU{x:Str}{T:String}{p p2:Pos}(he:Hu X e fe)(hg:Gl X "isinstance")(hm:X.mg "isinstance"=none)(hgT:Gl X x)(hmT:X.mg x=none)(VD:bootBuiltins x=some (.type T))(hk:vE X.K T)
  (hs:starEach [e,.Name x p2] X.env=[(false,eval e X.env),(false,eval (.Name x p2) X.env)]:=by rfl) (Lj:starEach [.Name x p2] X.env=[(false,eval (.Name x p2) X.env)]:=by rfl) (hn:x≠"__name__":=by decide) (hd:(x == ("__debug__":Str))=false:=by decide) :
  Hu X (.Call (.Name "isinstance" p) [e,.Name x p2] [] pos) (M_ T fe):=by
 intro pins s σ H J r S Q E I m;refine wpAny_Call_Name_kw (kH I.inv hg hm boot_isinstance ?_);refine PyProof.Rows.callWith_builtin1 ?_ (by rw[hs,Lj]) (by rw[Lj];rfl);rw[hs];show wpAny _ _ (spliced ((false,eval e X.env) :: backTo pos [(false,eval (.Name x p2) X.env)])) _ _ s;refine spliced_cons (he pins s σ H J r S _ E I ?_);unfold M_ M.bind at m;cases e1:fe r S with
 |bad=>rw[e1] at m;exact m
 |exc c S1=>rw[e1] at m;exact m
 |ok d S1=>
  rw[e1] at m;dsimp only at m;rintro v s1 ⟨vx,H1,I1,r1,J1,ex,rs,rv⟩;show wpAny _ _ (spliced ((false,eval (.Name x p2) X.env) :: backTo pos [])) _ _ s1;refine spliced_cons (kH I1 hgT hmT VD ?_ hn hd);exact spliced_nil (AW hk I1 rs rv r1 (Mt.ext ex m))
end
end DL
namespace DL
open PySem PySem.Spec PyProof.Rows L2
open AutoSeq1 (wpAny_loadPart')
section
variable{prog:Program}{w:World}{A:Around}{E:Value->Shared->Prop}{s:Shared}
def xu{it t:Addr}{i:Nat}{items:Array Value}{x:Value}{Q:Value->Shared->Prop}(hi:s.heap.IsTupleIter it t i)(ht:s.heap.IsTuple t items)(hx:items[i]?=some x)
  (hQ:∀h',h'.IsTupleIter it t (i+1)->SameBut it s.heap h'->Q x { s with heap:=h' }):wpAny (model prog w) A (Builtin.SmallTypes.nextOf (.ref it)) Q E s:=by
 obtain⟨oi,QY,YA,Qb⟩:=id hi;obtain⟨ot,VE,_,nt,VF⟩:=ht;unfold Builtin.SmallTypes.nextOf;refine wpAny_bind (wpAny_callSpecial?_slot (name:=Str.ofString "__next__") hi.typeIs slot_tupleiter_next
  (wpAny_call_entry slot_tupleiter_next hi.typeIs entry_tupleiter_next ?_ (args_tupleiter_next _)))
 show wpAny _ _ (field (.ref it) 0 >>= _) _ _ s;refine wpAny_bind (wpAny_field QY Qb (x:=.ref t) rfl ?_);show wpAny _ _ (if (Value.ref t == Value.none)=true then _ else _) _ _ s;rw[if_neg (show ¬((Value.ref t == Value.none)=true) from Bool.false_ne_true)];show wpAny _ _ (field (.ref it) 1 >>= _) _ _ s;refine wpAny_bind (wpAny_field QY Qb (x:=.int i 0) rfl ?_);show wpAny _ _ (seqItems? (.ref t) >>= _) _ _ s;refine wpAny_bind (wpAny_seqItems VE VF ?_);simp only[toNat_natCast,hx];refine wpAny_bind (wpAny_setField QY Qb (by simp) (wpAny_pure ⟨x,rfl,wpAny_pure (hQ _ ?_ (Heap.SameBut.update ..))⟩));exact⟨_,get?_update_self _ QY (Obj.isFreed_of_fields (Obj.data_mapFields Qb _)),(Obj.cls_mapFields ..).trans YA,by
  rw[Obj.data_mapFields Qb];simp[rawInt]⟩
def lC{it t:Addr}{i:Nat}{items:Array Value}{Q:Value->Shared->Prop}(hh:A.handled=none)(hi:s.heap.IsTupleIter it t i)(ht:s.heap.IsTuple t items)(hx:items[i]?=none)
  (hE:∀h' e,ExtBut it s.heap h'->(∃o,h'.get? e=some o/\o.cls=.type "StopIteration")->E (.ref e) { s with heap:=h' }):wpAny (model prog w) A (Builtin.SmallTypes.nextOf (.ref it)) Q E s:=by
 obtain⟨oi,QY,YA,Qb⟩:=id hi;obtain⟨ot,VE,_,nt,VF⟩:=ht;unfold Builtin.SmallTypes.nextOf;refine wpAny_bind (wpAny_callSpecial?_slot (name:=Str.ofString "__next__") hi.typeIs slot_tupleiter_next
  (wpAny_call_entry slot_tupleiter_next hi.typeIs entry_tupleiter_next ?_ (args_tupleiter_next _)))
 show wpAny _ _ (field (.ref it) 0 >>= _) _ _ s;refine wpAny_bind (wpAny_field QY Qb (x:=.ref t) rfl ?_);show wpAny _ _ (if (Value.ref t == Value.none)=true then _ else _) _ _ s;rw[if_neg (show ¬((Value.ref t == Value.none)=true) from Bool.false_ne_true)];show wpAny _ _ (field (.ref it) 1 >>= _) _ _ s;refine wpAny_bind (wpAny_field QY Qb (x:=.int i 0) rfl ?_);show wpAny _ _ (seqItems? (.ref t) >>= _) _ _ s;refine wpAny_bind (wpAny_seqItems VE VF ?_);simp only[toNat_natCast,hx];refine wpAny_bind (wpAny_rule (wpAny_bind (wpAny_setField QY Qb (by simp) ?_)));show wpAny _ _ (newExc (.type "StopIteration") [] >>= _) _ _ _;refine wpAny_bind ?_;simp only[newExc,newTuple];refine wpAny_bind (wpAny_newObj_type ?_ (by size_fits));refine wpAny_bind (m:=firstArgMember _ _) (wpAny_of_eq (a:=Value.none) (by first|rfl|(simp only[firstArgMember];rfl)) ?_);refine wpAny_newObj_type ?_ (by size_fits);simp only[raiseNew];refine wpAny_bind (wpAny_handled ?_)
 first|rw[show A.in1.handled=none from hh]|rw[hh]
 refine wpAny_bind (wpAny_pure (wpAny_throw ?_));exact hE _ _ (((Heap.SameBut.update ..).extBut.push _).push _) ⟨_,get?_push_size _ rfl,rfl⟩
end
def zJ{prog:Program}{w:World}{A:Around}(hh:A.handled=none)(it t:Addr)(Oi:t≠it)(items:Array Value) :
  Draws prog w A it [it,t] items.size (fun i v=>items[i]?=some v) (fun i h=>h.IsTupleIter it t i/\h.IsTuple t items) where
 live:=fun _ _ st=>let ⟨o,ho,_⟩:=st.1;⟨o,ho⟩
 frame:=fun _ _ _ st hk=>⟨st.1.at fun o e=>hk it (by simp) o e,let ⟨o,ho,q⟩:=st.2;⟨o,hk t (by simp) o ho,q⟩⟩
 item:=fun i s Q E hi st hQ=>by
  refine xu st.1 st.2 (x:=items[i]) (by simp[hi]) fun h' VG Qa=>?_
  obtain⟨o,ho,q⟩:=st.2;exact hQ _ h' s.toks (by simp[hi]) ⟨VG,⟨o,Qa.extBut t o Oi ho,q⟩⟩ Qa
 done:=fun s Q E st hE=>lC hh st.1 st.2 (by simp) hE
def qw{prog:Program}{w:World}{A:Around}{it:Addr}{fp:List Addr}{n:Nat}{P:Nat->Value->Prop}{St:Nat->Heap->Prop}(D:Draws prog w A it fp n P St)(c:Nat) :
  Draws prog w A it fp (n+c) (fun i v=>c<=i/\P (i-c) v) (fun i h=>c<=i/\St (i-c) h) where
 live:=fun i h st=>D.live _ h st.2
 frame:=fun i h h' st hk=>⟨st.1,D.frame _ h h' st.2 hk⟩
 item:=fun i s Q E hi st hQ=>D.item (i-c) s Q E (by have:=st.1;omega) st.2 fun x h' tk hp hs hb=>hQ x h' tk ⟨st.1,hp⟩ ⟨by have:=st.1;omega,by rw[show i+1-c=i-c+1 by have:=st.1;omega];exact hs⟩ hb
 done:=fun s Q E st hE=>D.done s Q E (by have:=st.2;rw[show n+c-c=n by omega] at this;exact this) hE
def qm(l:Addr)(items:Array Value)(n:Nat)(RE:Option Addr)(sl:Array (Option Value)) :
  Meets (Builtin.«enumerate.__new__» ⟨[.type "enumerate",.ref l],[]⟩) (fun _ R s=>s.heap.get? l=some { cls:=.type "tuple",dict:=RE,data:=.seq items n,slots:=sl }/\
   R (.ok (.ret (.ref (s.heap.push { cls:=.type "tuple_iterator",data:=.fields #[.ref l,.int 0 0] }).objs.size)))
    { s with heap:=(s.heap.push { cls:=.type "tuple_iterator",data:=.fields #[.ref l,.int 0 0] }).push { cls:=.type "enumerate",data:=.fields #[.none,.bool false,.ref s.heap.objs.size,rawInt 0,.none,.none] } }):=
 .of_wp fun prog w A R s h=>by
  obtain⟨hp,g,d,tk,os⟩:=s;obtain⟨hl,h⟩:=h;have Tj:=sub_enumerate;have hT:Heap.IsTuple (Shared.heap ⟨hp,g,d,tk,os⟩) l items:=⟨_,hl,rfl,n,rfl⟩
  wp_walk using wpAny_loadPart' hl
  refine wpAny_stack_any fun st=>wpAny_pure ?_
  split
  ·rename_i c _ _ _ _ _;cases(c == type "enumerate")
   ·wp_walk using wpAny_loadPart' hl,wpAny_pyIter_tuple hT
    exact⟨_,rfl,h⟩
   ·wp_walk using wpAny_loadPart' hl,wpAny_pyIter_tuple hT
    exact⟨_,rfl,h⟩
  ·wp_walk using wpAny_loadPart' hl,wpAny_pyIter_tuple hT
   exact⟨_,rfl,h⟩
end DL
namespace DL
open PySem PySem.Spec PyProof.Rows L2
def Jb.other{P:Program}{w:World}{H:Hp}{h h':Heap}{ch:List Addr}(x:Jb P w H h)(hn:∀b∈ch,H b=none)(k:∀b u,b∉ch->h.get? b=some u->h'.get? b=some u):Jb P w H h':=fun a o e=>
 (x a o e).KZ (fun b u hb q=>k b u (fun hm=>by
  rcases hb with rfl|hb
  ·rw[hn b hm] at e;cases e
  ·rw[hn b hm] at hb;cases hb) q) (fun _ q=>q) fun _ _ q=>q
def Jb.add{P:Program}{w:World}{H:Hp}{h:Heap}{p:Addr}{o:HO}(x:Jb P w H h)(hp:H p=none)(new:HG P w (upd H p o) h p o):Jb P w (upd H p o) h:=fun a u e=>by
 by_cases ha:a=p
 ·subst ha;rw[bC] at e;cases e;exact new
 ·rw[bg ha] at e;exact(x a u e).KZ (fun _ _ _ q=>q) (fun b q=>by rw[bg (ba q hp)];exact q) fun b xs q=>by rw[bg (ba q hp)];exact q
def Inv.Oj{X:Cx}{pins:G4}{σ:L2.St}{H:Hp}{s:Shared}{ch:List Addr}{h':Heap}{tk:Nat}{p:Addr}{o:HO}(I:Inv X pins σ H s)(hf:∀b∈ch,Li X pins H b)(k:∀b u,b∉ch->s.heap.get? b=some u->h'.get? b=some u)
  (hp:s.heap.objs.size<=p) (new:HG X.prog X.w (upd H p o) h' p o):Inv X pins σ (upd H p o) { s with heap:=h',toks:=tk }:=by
 have Ur:H p=none:=I.Hc.fresh hp;have JD:∀{b:Addr}{u:Obj},s.heap.get? b=some u->b≠p:=fun e=>ne_of_lt (Nat.lt_of_lt_of_le (lt_size e) hp)
 refine I.QO (ch:=ch) rfl ⟨?_,?_,?_,?_,?_,?_,?_⟩ (Jb.add (Jb.other I.Hc (fun b hb=>(hf b hb).1) k) Ur new) I.bare fun b hb=>?_
 ·exact fun b u q _ _ hx=>k b u hx q
 ·exact fun b u q _ _ hx=>⟨u.slots,by rw[k b u hx q]⟩
 ·exact fun b u q n hx=>by rw[bg (JD q)];exact n
 ·exact fun b u q hx=>⟨u,k b u hx q⟩
 ·exact fun b xs q=>by rw[bg (ba q Ur)];exact q
 ·exact fun b ob u q=>by rw[bg (ba q Ur)];exact q
 ·exact fun b ps q=>⟨#[],by rw[bg (ba q Ur)];simpa using q⟩
 ·obtain⟨_,f1,_,f3,f4,f5⟩:=hf b hb;exact⟨f3,f1,f4,f5⟩
def j1{prog:Program}{w:World}{A:Around}{E:Value->Shared->Prop}{s:Shared}{e it a:Addr}{i:Nat}{c:Int}{old:Value}{items:Array Value}{Q:Option Value->Shared->Prop}(hh:A.handled=none)(he:IsEnum s.heap e it c old)(hit:s.heap.IsTupleIter it a i)
  (ot:s.heap.IsTuple a items) (ha:a≠it) (hx:items.size<=i) (hQ:∀h',ExtBut it s.heap h'->Q none { s with heap:=h' }):wpAny (model prog w) A (pyNext (.ref e)) Q E s:=by
 have hT:s.TypeIs (.ref e) "enumerate":=⟨_,he,rfl⟩;unfold pyNext;refine wpAny_bind (wpAny_attempt (wpAny_callSpecial?_slot (name:=Str.ofString "__next__") hT F.slot_enumerate_next
  (wpAny_call_entry F.slot_enumerate_next hT F.entry_enumerate_next ?_ (F.args_enumerate_next_1 _))))
 show wpAny _ _ (field (.ref e) 2 >>= _) _ _ _;refine wpAny_bind (wpAny_field he rfl (x:=.ref it) rfl ?_);refine wpAny_bind (lC hh hit ot (by simpa using hx) fun h' x Ol VH=>?_);obtain⟨o,ho,hc⟩:=VH;refine wpAny_bind (wpAny_isInstance (T:="StopIteration") (b:=true) ⟨o,ho,hc⟩ isSubtype_stop ?_);exact wpAny_pure (hQ _ Ol)
def FC(K:PySem.W.Frag)(a:Addr)(c:Nat):It:=
 ⟨fun i H=>∃vs x,JQ K H a vs/\vs[i]?=some x,fun i H x H'=>∃p v,H p=none/\H'=upd H p (.tup [.int ((c+i:Nat):Int),v])/\x=.ref p/\∀vs,JQ K H a vs->vs[i]?=some v,fun i H=>∃vs,JQ K H a vs/\vs.length<=i⟩
def qJ{P:Program}{w:World}{K:PySem.W.Frag}{elts:List Expr}{k1:Nat}{pos:Pos}(a it e:Addr)(c:Nat)(RF:e≠it) :
  Turn P w K (.Tuple elts k1 pos) (FC K a c) [e,it] e (fun i h=>(∃old,IsEnum h e it ((c+i:Nat):Int) old)/\h.IsTupleIter it a i) where
 mem:=by simp
 obj:=fun i h st b hb=>by
  obtain⟨⟨old,he⟩,hit⟩:=st;simp at hb;rcases hb with rfl|rfl
  ·exact⟨_,he,fun v z=>by
    have z':Data.fields _=Data.cell v:=z;cases z'⟩
  ·obtain⟨o,ho,hc,hd⟩:=hit;exact⟨o,ho,fun v z=>by rw[hd] at z;cases z⟩
 keep:=fun i h h' st k=>by
  obtain⟨⟨old,he⟩,hit⟩:=st;exact⟨⟨old,k e (by simp) _ he⟩,hit.at fun o ho=>k it (by simp) o ho⟩
 item:=by
  intro X hP hw hK hc i pins s σ H E I hf st hg;subst hP hw hK;obtain⟨⟨old,he⟩,hit⟩:=st;obtain⟨vs,x,hq,hx⟩:=hg;obtain⟨its,rv,pl,hz⟩:=I.tuple hq;have ot:s.heap.IsTuple a its.toArray:=pl;have RG:a≠it:=by
   rintro rfl;obtain⟨o1,h1,h2,_⟩:=ot;obtain⟨o2,h3,h4,_⟩:=hit;rw[h1] at h3;cases h3;rw[h2] at h4;exact absurd h4 (by simp)
  have VI:e≠a:=by
   rintro rfl;obtain⟨o1,h1,h2,_⟩:=ot;rw[he] at h1;cases h1;exact absurd h2 (by simp)
  have hlen:=rv.length;have Oh:i<its.length:=by
   have:=(List.getElem?_eq_some_iff.mp hx).1;omega
  have Dw:=qw (zJ (prog:=X.prog) (w:=X.w) (A:=X.A.in1) (I.ok.hd hc) it a RG its.toArray) c;refine wpAny_pyNext_enum_itemD Dw (i:=c+i) he ⟨Nat.le_add_right _ _,by rw[show c+i-c=i by omega];exact⟨hit,ot⟩⟩ (by simp;omega) RF (by simp;exact⟨RF,VI⟩) fun y h1 tk hP RH IU hT hsz hk=>?_
  obtain⟨_,hP⟩:=hP;rw[show c+i-c=i by omega] at hP;have hy:its[i]?=some y:=by simpa using hP
  obtain⟨_,IU⟩:=IU;rw[show c+i+1-c=i+1 by omega] at IU;refine⟨_,rfl,?_⟩;refine wpAny_letOwnedTupleGo_enum RH fun h2 Sl Lj=>?_
  obtain⟨u,hu,ru⟩:=rv.get hx;rw[hy] at hu;cases hu;have PS:H s.heap.objs.size=none:=I.Hc.fresh (Nat.le_refl _);have VJ:e≠s.heap.objs.size:=ne_of_lt (lt_size he);have Pa:∀b u,b∉[e,it]->s.heap.get? b=some u->h2.get? b=some u:=fun b u hb q=>by
   simp at hb;exact Lj.extBut b u hb.1 (hk b u hb.1 hb.2 q)
  have NT:h2.get? s.heap.objs.size=some { cls:=.type "tuple",data:=.seq #[.int ((c+i:Nat):Int) tk,y] }:=Lj.extBut _ _ (Ne.symm VJ) hT;refine⟨.ref s.heap.objs.size,upd H s.heap.objs.size (.tup [.int ((c+i:Nat):Int),x]),Inv.Oj (s:=s) (h':=h2) (tk:=tk+1) I hf Pa (Nat.le_refl _) ⟨by show 2<=sizeLine;decide,[.int ((c+i:Nat):Int) tk,y],.cons ⟨_,rfl⟩ (.cons ru .nil),_,NT,rfl,_,rfl⟩,rfl,
   ⟨s.heap.objs.size,x,PS,rfl,rfl,fun ws hw=>by rw[I.MB hw hq];exact hx⟩,⟨⟨y,?_⟩,?_⟩,?_⟩
  ·rw[show((c+(i+1):Nat):Int)=((c+i:Nat):Int)+1 by push_cast;omega];exact Sl
  ·exact IU.1.extBut Lj.extBut (Ne.symm RF)
  ·intro b hb;obtain⟨f0,_⟩:=hf b hb;have:∃o,s.heap.get? b=some o:=by
    simp at hb;rcases hb with rfl|rfl
    ·exact⟨_,he⟩
    ·obtain⟨o,ho,_⟩:=hit;exact⟨o,ho⟩
   obtain⟨o,ho⟩:=this;rw[bg (ne_of_lt (lt_size ho))];exact f0
 done:=by
  intro X hP hw hK hc i pins s σ H E I hf st hg;subst hP hw hK;obtain⟨⟨old,he⟩,hit⟩:=st;obtain⟨vs,hq,hx⟩:=hg;obtain⟨its,rv,pl,hz⟩:=I.tuple hq;have ot:s.heap.IsTuple a its.toArray:=pl;have RG:a≠it:=by
   rintro rfl;obtain⟨o1,h1,h2,_⟩:=ot;obtain⟨o2,h3,h4,_⟩:=hit;rw[h1] at h3;cases h3;rw[h2] at h4;exact absurd h4 (by simp)
  have hlen:=rv.length;obtain⟨f0,f1,f2,f3,f4,f5⟩:=hf it (by simp);refine j1 (I.ok.hd hc) he hit ot RG (by simp;omega) fun h' eb=>⟨rfl,I.turned (t':=s.toks) (fun b o hb e=>eb b o hb e) f0 f1 f3 f4 f5⟩
 self:=fun A i s Q E st h=>by
  obtain⟨⟨old,he⟩,hit⟩:=st;exact wpAny_pyIter_enum he h
def Jm.QZ{K:PySem.W.Frag}{H:Hp}{J:List Addr}{a:Addr}{c:Nat}{xs:List D}{g:Option (Nat×List D)}(Hc:∀(H1:Hp) (J1:List Addr) (S:List Cell),Ext H J H1 J1->G6 K H1 J1 S->Ld g S->∃vs,JQ K H1 a vs/\l_ K H1 J1 xs vs) :
  Jm K (FC K a c) ⟨xs.zipIdx.map fun p=>.tup [.int ((c+p.2:Nat):Int),p.1],g⟩ H J:=by
 intro H1 J1 S x rs gk;obtain⟨vs,hq,Hz⟩:=Hc H1 J1 S x rs gk;have hl:=Hz.length;have hlen:(xs.zipIdx.map fun(p:D×Nat)=>D.tup [.int ((c+p.2:Nat):Int),p.1]).length=xs.length:=by simp
 refine⟨fun i hi=>⟨vs,vs[i]'(by rw[hl];simpa using hi),hq,by simp⟩,⟨vs,hq,by rw[hl];simp⟩,?_⟩;rintro i y H' ⟨p,v,hp,rfl,rfl,hv⟩ d hd;have L1:(xs.zipIdx.map fun(p:D×Nat)=>D.tup [.int ((c+p.2:Nat):Int),p.1])[i]?=some d:=hd;rw[getElem?_map,List.getElem?_zipIdx] at L1;cases e:xs[i]? with
 |none=>rw[e] at L1;cases L1
 |some z=>
  rw[e] at L1;simp only[map_some,Option.some.injEq,Nat.zero_add] at L1;subst L1;obtain⟨v',h1,h2⟩:=Hz.get e;have:=hv vs hq;rw[h1] at this;cases this;obtain⟨J',x',O_,VL⟩:=Got.tup (p:=p) rs (l_.cons (s_.int K H1 J1 ((c+i:Nat):Int)) (.one h2)) hp;exact⟨J',x',O_,VL⟩
def j3{prog:Program}{w:World}{A:Around}{E:Value->Shared->Prop}{s:Shared}{e it a:Addr}{i:Nat}{c:Int}{old:Value}{items:Array Value}{Q:Option Value->Shared->Prop}(hh:A.handled=none)(he:IsEnum s.heap e it c old)(hit:s.heap.IsListIter it a i)
  (ot:s.heap.IsList a items) (ha:a≠it) (hx:items.size<=i) (hQ:∀h',ExtBut it s.heap h'->Q none { s with heap:=h' }):wpAny (model prog w) A (pyNext (.ref e)) Q E s:=by
 have hT:s.TypeIs (.ref e) "enumerate":=⟨_,he,rfl⟩;unfold pyNext;refine wpAny_bind (wpAny_attempt (wpAny_callSpecial?_slot (name:=Str.ofString "__next__") hT F.slot_enumerate_next
  (wpAny_call_entry F.slot_enumerate_next hT F.entry_enumerate_next ?_ (F.args_enumerate_next_1 _))))
 show wpAny _ _ (field (.ref e) 2 >>= _) _ _ _;refine wpAny_bind (wpAny_field he rfl (x:=.ref it) rfl ?_);refine wpAny_bind (wpAny_nextOf_list_end hh hit ot (by simpa using hx) fun h' x Ol VH=>?_);obtain⟨o,ho,hc⟩:=VH;refine wpAny_bind (wpAny_isInstance (T:="StopIteration") (b:=true) ⟨o,ho,hc⟩ isSubtype_stop ?_);exact wpAny_pure (hQ _ Ol)
def Fs(K:PySem.W.Frag)(a:Addr)(c:Nat):It:=
 ⟨fun i H=>∃vs x,Jl K H a vs/\vs[i]?=some x,fun i H x H'=>∃p v,H p=none/\H'=upd H p (.tup [.int ((c+i:Nat):Int),v])/\x=.ref p/\∀vs,Jl K H a vs->vs[i]?=some v,fun i H=>∃vs,Jl K H a vs/\vs.length<=i⟩
def w5{P:Program}{w:World}{K:PySem.W.Frag}{elts:List Expr}{k1:Nat}{pos:Pos}(a it e:Addr)(c:Nat)(RF:e≠it) :
  Turn P w K (.Tuple elts k1 pos) (Fs K a c) [e,it] e (fun i h=>(∃old,IsEnum h e it ((c+i:Nat):Int) old)/\h.IsListIter it a i) where
 mem:=by simp
 obj:=fun i h st b hb=>by
  obtain⟨⟨old,he⟩,hit⟩:=st;simp at hb;rcases hb with rfl|rfl
  ·exact⟨_,he,fun v z=>by
    have z':Data.fields _=Data.cell v:=z;cases z'⟩
  ·obtain⟨o,ho,hc,hd⟩:=hit;exact⟨o,ho,fun v z=>by rw[hd] at z;cases z⟩
 keep:=fun i h h' st k=>by
  obtain⟨⟨old,he⟩,hit⟩:=st;exact⟨⟨old,k e (by simp) _ he⟩,hit.at fun o ho=>k it (by simp) o ho⟩
 item:=by
  intro X hP hw hK hc i pins s σ H E I hf st hg;subst hP hw hK;obtain⟨⟨old,he⟩,hit⟩:=st;obtain⟨vs,x,hq,hx⟩:=hg;obtain⟨its,rv,pl,hz⟩:=I.list hq;have ot:s.heap.IsList a its.toArray:=pl.isList;have RG:a≠it:=by
   rintro rfl;obtain⟨o1,h1,h2,_⟩:=ot;obtain⟨o2,h3,h4,_⟩:=hit;rw[h1] at h3;cases h3;rw[h2] at h4;exact absurd h4 (by simp)
  have VI:e≠a:=by
   rintro rfl;obtain⟨o1,h1,h2,_⟩:=ot;rw[he] at h1;cases h1;exact absurd h2 (by simp)
  have hlen:=rv.length;have Oh:i<its.length:=by
   have:=(List.getElem?_eq_some_iff.mp hx).1;omega
  have Dw:=qw (Draws.list (prog:=X.prog) (w:=X.w) (A:=X.A.in1) (I.ok.hd hc) it a RG its.toArray) c;refine wpAny_pyNext_enum_itemD Dw (i:=c+i) he ⟨Nat.le_add_right _ _,by rw[show c+i-c=i by omega];exact⟨hit,ot⟩⟩ (by simp;omega) RF (by simp;exact⟨RF,VI⟩) fun y h1 tk hP RH IU hT hsz hk=>?_
  obtain⟨_,hP⟩:=hP;rw[show c+i-c=i by omega] at hP;have hy:its[i]?=some y:=by simpa using hP
  obtain⟨_,IU⟩:=IU;rw[show c+i+1-c=i+1 by omega] at IU;refine⟨_,rfl,?_⟩;refine wpAny_letOwnedTupleGo_enum RH fun h2 Sl Lj=>?_
  obtain⟨u,hu,ru⟩:=rv.get hx;rw[hy] at hu;cases hu;have PS:H s.heap.objs.size=none:=I.Hc.fresh (Nat.le_refl _);have VJ:e≠s.heap.objs.size:=ne_of_lt (lt_size he);have Pa:∀b u,b∉[e,it]->s.heap.get? b=some u->h2.get? b=some u:=fun b u hb q=>by
   simp at hb;exact Lj.extBut b u hb.1 (hk b u hb.1 hb.2 q)
  have NT:h2.get? s.heap.objs.size=some { cls:=.type "tuple",data:=.seq #[.int ((c+i:Nat):Int) tk,y] }:=Lj.extBut _ _ (Ne.symm VJ) hT;refine⟨.ref s.heap.objs.size,upd H s.heap.objs.size (.tup [.int ((c+i:Nat):Int),x]),Inv.Oj (s:=s) (h':=h2) (tk:=tk+1) I hf Pa (Nat.le_refl _) ⟨by show 2<=sizeLine;decide,[.int ((c+i:Nat):Int) tk,y],.cons ⟨_,rfl⟩ (.cons ru .nil),_,NT,rfl,_,rfl⟩,rfl,
   ⟨s.heap.objs.size,x,PS,rfl,rfl,fun ws hw=>by rw[I.Nd hw hq];exact hx⟩,⟨⟨y,?_⟩,?_⟩,?_⟩
  ·rw[show((c+(i+1):Nat):Int)=((c+i:Nat):Int)+1 by push_cast;omega];exact Sl
  ·exact IU.1.extBut Lj.extBut (Ne.symm RF)
  ·intro b hb;obtain⟨f0,_⟩:=hf b hb;have:∃o,s.heap.get? b=some o:=by
    simp at hb;rcases hb with rfl|rfl
    ·exact⟨_,he⟩
    ·obtain⟨o,ho,_⟩:=hit;exact⟨o,ho⟩
   obtain⟨o,ho⟩:=this;rw[bg (ne_of_lt (lt_size ho))];exact f0
 done:=by
  intro X hP hw hK hc i pins s σ H E I hf st hg;subst hP hw hK;obtain⟨⟨old,he⟩,hit⟩:=st;obtain⟨vs,hq,hx⟩:=hg;obtain⟨its,rv,pl,hz⟩:=I.list hq;have ot:s.heap.IsList a its.toArray:=pl.isList;have RG:a≠it:=by
   rintro rfl;obtain⟨o1,h1,h2,_⟩:=ot;obtain⟨o2,h3,h4,_⟩:=hit;rw[h1] at h3;cases h3;rw[h2] at h4;exact absurd h4 (by simp)
  have hlen:=rv.length;obtain⟨f0,f1,f2,f3,f4,f5⟩:=hf it (by simp);refine j3 (I.ok.hd hc) he hit ot RG (by simp;omega) fun h' eb=>⟨rfl,I.turned (t':=s.toks) (fun b o hb e=>eb b o hb e) f0 f1 f3 f4 f5⟩
 self:=fun A i s Q E st h=>by
  obtain⟨⟨old,he⟩,hit⟩:=st;exact wpAny_pyIter_enum he h
def Jm.Tn{K:PySem.W.Frag}{H:Hp}{J:List Addr}{a:Addr}{c:Nat}{xs:List D}{g:Option (Nat×List D)}(Hc:∀(H1:Hp) (J1:List Addr) (S:List Cell),Ext H J H1 J1->G6 K H1 J1 S->Ld g S->∃vs,Jl K H1 a vs/\l_ K H1 J1 xs vs) :
  Jm K (Fs K a c) ⟨xs.zipIdx.map fun p=>.tup [.int ((c+p.2:Nat):Int),p.1],g⟩ H J:=by
 intro H1 J1 S x rs gk;obtain⟨vs,hq,Hz⟩:=Hc H1 J1 S x rs gk;have hl:=Hz.length;have hlen:(xs.zipIdx.map fun(p:D×Nat)=>D.tup [.int ((c+p.2:Nat):Int),p.1]).length=xs.length:=by simp
 refine⟨fun i hi=>⟨vs,vs[i]'(by rw[hl];simpa using hi),hq,by simp⟩,⟨vs,hq,by rw[hl];simp⟩,?_⟩;rintro i y H' ⟨p,v,hp,rfl,rfl,hv⟩ d hd;have L1:(xs.zipIdx.map fun(p:D×Nat)=>D.tup [.int ((c+p.2:Nat):Int),p.1])[i]?=some d:=hd;rw[getElem?_map,List.getElem?_zipIdx] at L1;cases e:xs[i]? with
 |none=>rw[e] at L1;cases L1
 |some z=>
  rw[e] at L1;simp only[map_some,Option.some.injEq,Nat.zero_add] at L1;subst L1;obtain⟨v',h1,h2⟩:=Hz.get e;have:=hv vs hq;rw[h1] at this;cases this;obtain⟨J',x',O_,VL⟩:=Got.tup (p:=p) rs (l_.cons (s_.int K H1 J1 ((c+i:Nat):Int)) (.one h2)) hp;exact⟨J',x',O_,VL⟩
section
variable{prog:Program}{w:World}{A:Around}{E:Value->Shared->Prop}{s:Shared}
def sJ{l:Addr}{items:Array Value}{Q:Value->Shared->Prop}(hL:s.heap.IsTuple l items)
  (h:∀h',IsEnum h' (s.heap.objs.size+1) s.heap.objs.size 0 .none->h'.IsTupleIter s.heap.objs.size l 0->(∀b o,s.heap.get? b=some o->h'.get? b=some o)->Q (.ref (s.heap.objs.size+1)) { s with heap:=h' }) :
  wpAny (model prog w) A (call (.type "enumerate") [.ref l]) Q E s:=by
 obtain⟨⟨c,RE,dt,sl⟩,hl,hc,n,hd⟩:=hL;simp only at hc hd;subst hc hd;refine callType_new F.called_enumerate (by decide) (F.typeCall_enumerate_1 _) (F.newCall_enumerate_1 _) (fun obj=>F.args_object_init_2 obj _) F.entry_enumerate_new (qm l items n RE sl) ⟨hl,?_⟩;have hz:(s.heap.push { cls:=.type "tuple_iterator",data:=.fields #[.ref l,.int 0 0] }).objs.size=s.heap.objs.size+1:=size_push ..;show _/\_;rw[hz];have he:IsEnum ((s.heap.push { cls:=.type "tuple_iterator",data:=.fields #[.ref l,.int 0 0] }).push { cls:=.type "enumerate",data:=.fields #[.none,.bool false,.ref s.heap.objs.size,rawInt 0,.none,.none] }) (s.heap.objs.size+1) s.heap.objs.size 0 .none:=by
  have q:=get?_push_size (s.heap.push { cls:=.type "tuple_iterator",data:=.fields #[.ref l,.int 0 0] }) (o:={ cls:=.type "enumerate",data:=.fields #[.none,.bool false,.ref s.heap.objs.size,rawInt 0,.none,.none] }) rfl;rw[hz] at q;exact q
 exact⟨⟨_,he,rfl⟩,h _ he ⟨_,get?_push_of_some _ (get?_push_size _ rfl),rfl,rfl⟩ fun b o x=>get?_push_of_some _ (get?_push_of_some _ x)⟩
end
def jt(c:Nat)(xs:List D):List D:=xs.zipIdx.map fun p=>.tup [.int ((c+p.2:Nat):Int),p.1]
def yu(c:Nat):D->M Wk
 |.tup xs=>M.ret ⟨jt c xs,none⟩
 |.ob n=>fun S=>match cQ S n with
  |some xs=>.ok ⟨jt c xs,some (n,xs)⟩ S
  |none=>.bad
 |_=>M.bad
def zn(c:Nat)(fe:tB->M D):tB->M Wk:=fun r=>(fe r).bind (yu c)
section
variable{X:Cx}{e:Expr}{fe:tB->M D}{pos:Pos}{elts:List Expr}{k1:Nat}{Lv:Pos}
def uC{pins:G4}{σ:L2.St}{H:Hp}{s:Shared}(I:Inv X pins σ H s):∀b∈[s.heap.objs.size+1,s.heap.objs.size],Li X pins H b:=fun b hb=>by
 simp at hb;rcases hb with rfl|rfl
 ·exact I.Oy (le_succ _) (I.Hc.fresh (le_succ _))
 ·exact I.Oy (Nat.le_refl _) (I.Hc.fresh (Nat.le_refl _))
def Bf{p:Pos}(hg:Gl X "enumerate")(hm:X.mg "enumerate"=none)(he:Hu X e fe)(hs:starEach [e] X.env=[(false,eval e X.env)]:=by rfl):PId X (.Tuple elts k1 Lv) (.Call (.Name "enumerate" p) [e] [] pos) (zn 0 fe):=by
 intro pins s σ H J r S Q E I m;have m':NP X pins σ H J (.Tuple elts k1 Lv) ((aa fe ai r).bind (uG (yu 0)) S) Q E:=by
  unfold zn M.bind at m;unfold aa ai M.bind M.ret;cases e1:fe r S<;>(rw[e1] at m;exact m)
 refine Call_ (kH I.inv hg hm boot_enumerate (PyProof.Rows.callWith_type1 (Tf (ae he ag (by rw[hs];rfl)) I m' (fun xs S1 s1 H1 J1 vs us I1 rv r1 m1=>?_) pos) hs rfl))
 match xs,m1,rv with
 |[],m1,rv=>exact m1.elim
 |_ :: _ :: _,m1,rv=>exact m1.elim
 |[x],m1,rv=>
  obtain⟨v,rfl,h1⟩:=rv.Kk;obtain⟨u,rfl,ru⟩:=Vals.one r1
  change NP X pins σ H1 J1 (.Tuple elts k1 Lv) (yu 0 x S1) Q E at m1
  cases x with
  |tup ys=>
   obtain⟨a,ws,rfl,hq,Hz⟩:=h1.Kv;cases ru;obtain⟨its,rl,pl,hz⟩:=I1.inv.tuple hq;refine sJ pl fun h' Ol Nk hk'=>wpAny_pyIter_enum Ol ?_
   refine m1 _ _ ⟨s1.heap.objs.size+1,[s1.heap.objs.size+1,s1.heap.objs.size],_,_,H1,rfl,I1.inv.kept (t':=s1.toks) hk',qJ a s1.heap.objs.size (s1.heap.objs.size+1) 0 (succ_ne_self _),⟨⟨_,Ol⟩,Nk⟩,uC I1.inv,J1,Ext.refl _ _,I1.st,trivial,?_⟩;exact Jm.QZ fun H2 J2 S2 x2 KP _=>⟨ws,JQ.ext x2 hq,Hz.ext x2⟩
  |ob n=>
   obtain⟨a,rfl,hn⟩:=h1.Kw;cases ru;simp only[yu] at m1;cases e1:cQ S1 n with
   |none=>rw[e1] at m1;exact m1.elim
   |some ys=>
    rw[e1] at m1;obtain⟨ws,hv,Hz⟩:=I1.st.lst e1 hn;obtain⟨its,rl,pl,hz⟩:=I1.inv.list (Jl.of hv);refine call_enumerate_list pl.isList fun h' Ol Nk Us hk'=>wpAny_pyIter_enum Ol ?_
    refine m1 _ _ ⟨s1.heap.objs.size+1,[s1.heap.objs.size+1,s1.heap.objs.size],_,_,H1,rfl,I1.inv.kept (t':=s1.toks) hk',w5 a s1.heap.objs.size (s1.heap.objs.size+1) 0 (succ_ne_self _),⟨⟨_,Ol⟩,Nk⟩,uC I1.inv,J1,Ext.refl _ _,I1.st,qr e1,?_⟩;refine Jm.Tn fun H2 J2 S2 x2 KP gk=>?_
    have R8:J2[n]?=some a:=by
     obtain⟨m,em⟩:=x2.pre;rw[em,getElem?_append_left (List.getElem?_eq_some_iff.mp hn).1];exact hn
    obtain⟨vs2,h2,MK⟩:=KP.at_ n _ a gk R8;exact⟨vs2,Jl.of h2,MK⟩
  |_=>exact m1.elim
def RI(X:Cx)(id:String)(g:D->List D->M D):Prop:=∀(pins:G4) (s:Shared) (σ:L2.St) (H:Hp) (J:List Addr) (S:List Cell) (x:D) (xs:List D) (vx:V) (vs:List V) (v:Value) (us:List Value) (Q E:Value->Shared->Prop),
 Inv X pins σ H s->G6 X.K H J S->s_ X.K H J x vx->l_ X.K H J xs vs->RelV vx v->Vals vs us->Mt X pins σ H J (g x xs S) Q E->wpAny (model X.prog X.w) X.A (call (.builtin id) (v :: us)) Q E s
def EL{es:List Expr}{ft:tB->M (List D)}(h:M8 X es ft){k:List D->M D}{pins:G4}{s:Shared}{σ:L2.St}{H:Hp}{J:List Addr}{r:tB}{S:List Cell}{Q E:Value->Shared->Prop}{Q':List Value->Shared->Prop}(I:At X pins σ H J r S s)
  (m:Mt X pins σ H J ((ft r).bind k S) Q E) (hk:∀xs S1 s1 H1 J1 vs us,At X pins σ H1 J1 r S1 s1->Ext H J H1 J1->l_ X.K H1 J1 xs vs->Vals vs us->Mt X pins σ H1 J1 (k xs S1) Q E->Q' us s1) (pos:Pos) :
  wpAny (model X.prog X.w) X.A (spliced (backTo pos (starEach es X.env))) Q' E s:=by
 refine h pos pins s σ H J r S _ E I ?_;unfold M.bind at m;cases e1:ft r S with
 |bad=>rw[e1] at m;exact m
 |exc c S1=>rw[e1] at m;exact m
 |ok x S1=>
  rw[e1] at m;intro us s1 ⟨vs,H1,I1,r1,J1,JS,Ke,Jx⟩;exact hk x S1 s1 H1 J1 vs us ⟨I1,I.loc.ext JS,Ke⟩ JS Jx r1 (Mt.ext JS m)
def CH(x:D):M Unit:=fun S=>match x with
 |.ob n=>(match cQ S n with
  |some _=>.ok () S
  |none=>.bad)
 |_=>.bad
def KG(g:D->List D->M D)(fo:tB->M D)(ft:tB->M (List D)):tB->M D:=fun r=>(fo r).bind fun x=>(CH x).bind fun _=>(ft r).bind fun xs=>g x xs
def d8{o:Expr}{es:List Expr}{fo:tB->M D}{ft:tB->M (List D)}{name:Str}{apos HQ:Pos}{id:String}{g:D->List D->M D}(slot:Slot "list" name id)(VM:typeOf (.builtin id)=pure (.type "method_descriptor"))(hm:RI X id g)
  (ho:Hu X o fo) (ha:M8 X (e :: es) ft)
  (Lz:attributeBase o name X.env (eval o X.env)=eval o X.env:=by rfl)
  (NU:((backTo HQ (starEach (e :: es) X.env)).all (fun x=>!x.1) && (backToKw HQ (keywordEach [] X.env)).all (fun x=>x.1.isSome)
   && decide ((e :: es).length+([]:List Keyword).length+(if ([]:List Keyword).isEmpty then 0 else 1)<30))=true:=by rfl)
  (LB:(apos.endLine == HQ.line)=true:=by rfl) (hs:starEach (e :: es) X.env=(false,eval e X.env) :: starEach es X.env:=by rfl) (LC:(backTo HQ (starEach es X.env)).any (·.1)=false:=by rfl) :
  Hu X (.Call (.Attribute o name apos) (e :: es) [] HQ) (KG g fo ft):=by
 intro pins s σ H J r S Q E I m;refine wpAny_Call_method_late Lz NU LB rfl (ho pins s σ H J r S _ E I ?_);unfold KG M.bind at m;cases e1:fo r S with
 |bad=>rw[e1] at m;exact m
 |exc c S1=>rw[e1] at m;exact m
 |ok x S1=>
  rw[e1] at m;dsimp only at m;rintro v s1 ⟨vx,H1,I1,r1,J1,JS,Ke,Jx⟩;cases x with
  |ob n=>
   obtain⟨a,rfl,hn⟩:=Jx.Kw;simp only[CH] at m;cases e2:cQ S1 n with
   |none=>rw[e2] at m;exact m.elim
   |some xs=>
    rw[e2] at m;obtain⟨ws,hv,Hz⟩:=Ke.lst e2 hn;obtain⟨h1,h2⟩:=EX I1 r1 (T:="list") (.inl ⟨rfl,ws,Jl.of hv⟩);refine⟨"list",id,PySem.F.plainAttrs_list,slot,VM,h1,h2,?_⟩;have m:=Mt.ext JS m;have hA:=EL (k:=fun xs=>g (.ob n) xs) (Q':=fun us s2=>wpAny (model X.prog X.w) X.A (call (.builtin id) (v :: us)) Q E s2) ha ⟨I1,I.loc.ext JS,Ke⟩ m (fun xs S2 s2 H2 J2 vs us I2 x2 rv r2 m2=>?_) HQ
    ·rw[hs] at hA ⊢;exact Calls.callWith_builtin (by show(false || (backTo HQ (starEach es X.env)).any (·.1))=false;rw[LC]<;>rfl) (evalArgs_plain hA)
    ·exact hm pins s2 σ H2 J2 S2 (.ob n) xs (.ref a) vs v us Q E I2.inv I2.st (Jx.ext x2) rv r1 r2 m2
  |_=>exact m.elim
def j2:D->List D->M D
 |.ob n,[y]=>fun S=>match cQ S n with
  |some xs=>JC (xs.length<sizeLine) (.ok .G0 (S.set n (.lst (xs++[y])))) .bad
  |none=>.bad
 |_,_=>M.bad
def dh:RI X "list.append" j2:=by
 intro pins s σ H J S x xs vx vs v us Q E I rs rx MN rv Hz m
 match x,xs,m,rx,MN with
 |.ob n,[y],m,rx,MN=>
  obtain⟨a,rfl,hn⟩:=rx.Kw;obtain⟨w,rfl,KD⟩:=MN.Kk;simp only[j2,JC] at m;cases e1:cQ S n with
  |none=>rw[e1] at m;exact m.elim
  |some xs=>
   rw[e1] at m;dsimp only at m;obtain⟨ws,hv,rws⟩:=rs.lst e1 hn;split at m
   ·rename_i hz;refine wpAny_mono (sY (X:=X.Hw E) pins s σ H (.ref a) [w] v us (Got X.K H J .G0 (S.set n (.lst (xs++[y])))) (I.Hw E) rv Hz ⟨a,ws,w,rfl,rfl,hv,by rw[rws.length];exact hz,?_⟩) (fun u s' q=>m u s' (EP.HN q)) fun _ _ z=>z
    have x9:Ext H J (upd H a (.lst (ws++[w]))) J:=Ext.write hv rfl;exact⟨J,x9,rs.write hn ⟨_,bC,(rws.ext x9).append (.one (KD.ext x9))⟩,s_.G0 _ _ _⟩
   ·exact m.elim
 |.ob n,[],m,_,_=>exact m.elim
 |.ob n,_ :: _ :: _,m,_,_=>exact m.elim
 |.G0,xs,m,_,_=>cases xs<;>exact m.elim
 |.bl _,xs,m,_,_=>cases xs<;>exact m.elim
 |.int _,xs,m,_,_=>cases xs<;>exact m.elim
 |.str _,xs,m,_,_=>cases xs<;>exact m.elim
 |.tup _,xs,m,_,_=>cases xs<;>exact m.elim
 |.JG _,xs,m,_,_=>cases xs<;>exact m.elim
 |.xn _,xs,m,_,_=>cases xs<;>exact m.elim
end
structure Jn(P:Program)(w:World)(K:PySem.W.Frag)(mg:Str->Option Value)(base:Heap)(CX:Lk)(x:Str)(k:Nat)(ps:List Str)(F:List D->M D):Prop where
 ex:∃f fd,mg x=some (.ref f)/\keepIn K (.ref f)=true/\Binds K fd ps []/\HW P w K mg base CX k f fd ps F
def aM{X:Cx}{CX:Lk}{k:Nat}{ps:List Str}{F:List D->M D}{x:Str}{p pos:Pos}{e:Expr}{es:List Expr}{ft:tB->M (List D)}(h:Jn X.prog X.w X.K X.mg X.base CX x k ps F)(hr:IL k X.A)(hg:Gl X x)(hx:o6 CX X)(ha:M8 X (e :: es) ft)
  (hl:∀r S xs S',ft r S=.ok xs S'->xs.length=ps.length)
  (OD:(x == ("__debug__":Str))=false:=by decide) (he:starEach (e :: es) X.env=(false,eval e X.env) :: starEach es X.env:=by rfl) (Ng:(backTo pos (starEach es X.env)).any (·.1)=false:=by rfl) :
  Hu X (.Call (.Name x p) (e :: es) [] pos) (ak F ft):=by
 obtain⟨f,fd,hm,hk,hb,hF⟩:=h.ex;exact DC hF hr hg hm hk hb hx ha hl OD he Ng
def aC:∀(r:tB) (S:List Cell) (xs:List D) (S':List Cell),ai r S=.ok xs S'->xs.length=0:=by
 intro r S xs S' e;cases e;rfl
def aj{n:Nat}{f:tB->M D}{g:tB->M (List D)}(h:∀(r:tB) (S:List Cell) (xs:List D) (S':List Cell),g r S=.ok xs S'->xs.length=n):∀(r:tB) (S:List Cell) (xs:List D) (S':List Cell),aa f g r S=.ok xs S'->xs.length=n+1:=by
 intro r S xs S' e;unfold aa M.bind at e;cases e1:f r S with
 |bad=>rw[e1] at e;cases e
 |exc c S1=>rw[e1] at e;cases e
 |ok x S1=>
  rw[e1] at e;dsimp only at e;cases e2:g r S1 with
  |bad=>rw[e2] at e;cases e
  |exc c S1=>rw[e2] at e;cases e
  |ok ys S2=>
   rw[e2] at e;have e':R.ok (x :: ys) S2=R.ok xs S':=e
   injection e' with e3 e4
   rw[<-e3,length_cons,h r S1 ys S2 e2]
def fin(S0:List Cell):NG->R D
 |some (.rt d,S')=>.ok d S'
 |some (.nx _,S')=>.ok .G0 S'
 |some (.xc c _,S')=>.exc c S'
 |_=>.bad
def nz{S0:List Cell}{x:NG}:Fb S0 x (fin S0 x):=by
 match x with
 |none=>trivial
 |some (.rt d,S')=>exact⟨[],.inl rfl,.inl (by rw[append_nil])⟩
 |some (.nx r,S')=>exact⟨[],.inl rfl,.inr ⟨rfl,r,by rw[append_nil]⟩⟩
 |some (.xc c r,S')=>exact⟨r,rfl⟩
 |some (.bk r,S')=>trivial
 |some (.ct r,S')=>trivial
open Classical in
def cI(S0:List Cell):NG->R D
 |some (.rt d,S')=>if (∃G,S'=S0++G)/\IM S0.length d then .ok d S0 else .bad
 |some (.nx _,S')=>if ∃G,S'=S0++G then .ok .G0 S0 else .bad
 |some (.xc c _,S')=>.exc c S'
 |_=>.bad
def Ay{S0:List Cell}{x:NG}:Fb S0 x (cI S0 x):=by
 match x with
 |none=>trivial
 |some (.rt d,S')=>
  simp only[cI];by_cases h:(∃G,S'=S0++G)/\IM S0.length d
  ·rw[if_pos h];obtain⟨⟨G,rfl⟩,hd⟩:=h;exact⟨G,.inr ⟨Nat.le_refl _,hd,.inl rfl⟩,.inl rfl⟩
  ·rw[if_neg h];trivial
 |some (.nx r,S')=>
  simp only[cI];by_cases h:∃G,S'=S0++G
  ·rw[if_pos h];obtain⟨G,rfl⟩:=h;exact⟨G,.inr ⟨Nat.le_refl _,by unfold IM;trivial,.inl rfl⟩,.inr ⟨rfl,r,rfl⟩⟩
  ·rw[if_neg h];trivial
 |some (.xc c r,S')=>exact⟨r,rfl⟩
 |some (.bk r,S')=>trivial
 |some (.ct r,S')=>trivial
def gQ:tB->M Bool:=fun _=>M.ret true
def JO:D->D->M D:=uT fun i j=>decide (i<j)
def Om:D->D->M D:=uT fun i j=>decide (i<=j)
def Q0:D->D->M D:=uT fun i j=>decide (j<i)
def Lm:D->D->M D:=uT fun i j=>decide (j<=i)
def Ae:List D->M D:=vL fun i j=>if j > i then j else i
def zF:List D->M D:=vL fun i j=>if j<i then j else i
def Sm(g:D->M D)(fa:tB->M D):tB->M D:=fun r=>(fa r).bind g
def FJ{X:Cx}{a:Expr}{fa:tB->M D}{pos:Pos}{op:UnaryOp}{g:D->M D}(ho:S_ X (unaryOp op) g)(ha:Hu X a fa):Hu X (.UnaryOp op a pos) (Sm g fa):=by
 intro pins s σ H J r S Q E I m;refine UnaryOp_ (ha pins s σ H J r S _ E I ?_);unfold Sm M.bind at m;cases e1:fa r S with
 |bad=>rw[e1] at m;exact m
 |exc c S1=>rw[e1] at m;exact m
 |ok x S1=>
  rw[e1] at m;rintro v s1 ⟨vx,H1,I1,r1,J1,ex,rs,rv⟩;exact ho pins s1 σ H1 J1 S1 x vx v Q E I1 rs rv r1 (Mt.ext ex m)
def Dk:D->M D
 |.int i=>M.ret (.int (-i))
 |_=>M.bad
def E7{X:Cx}:S_ X (unaryOp .USub) Dk:=by
 refine S_.of (fun E=>EK) (fun H J S x vx d S' rs rx e=>?_) (fun x S c S' e=>?_)
 ·cases x with
  |int i=>
   cases rx.Ic;cases e;exact⟨i,rfl,J,Ext.refl _ _,rs,s_.int _ _ _ _⟩
  |_=>cases e
 ·cases x with
  |int i=>cases e
  |_=>cases e
def uW(x:D):M Bool:=fun S=>match x with
 |.G0=>.ok false S
 |.bl b=>.ok b S
 |.int i=>.ok (i != 0) S
 |.tup xs=>.ok (!xs.isEmpty) S
 |.JG xs=>.ok (!xs.isEmpty) S
 |.ob n=>(match S[n]? with
  |some (.lst xs)=>.ok (!xs.isEmpty) S
  |some (.IT kvs)=>.ok (!kvs.isEmpty) S
  |_=>.bad)
 |_=>.bad
def bW(f:tB->M D):tB->M Bool:=fun r=>(f r).bind uW
def l_.isEmpty{K:PySem.W.Frag}{H:Hp}{J:List Addr}{xs:List D}{vs:List V}(h:l_ K H J xs vs):vs.isEmpty=xs.isEmpty:=by
 have:=h.length;cases xs with
 |nil=>cases vs with
  |nil=>rfl
  |cons _ _=>cases this
 |cons _ _=>cases vs with
  |nil=>cases this
  |cons _ _=>rfl
def G1.isEmpty{κ:Type}{K:PySem.W.Frag}{H:Hp}{J:List Addr}{xs:List (κ×D)}{vs:List (κ×V)}(h:G1 K H J xs vs):vs.isEmpty=xs.isEmpty:=by
 have:=h.length;cases xs with
 |nil=>cases vs with
  |nil=>rfl
  |cons _ _=>cases this
 |cons _ _=>cases vs with
  |nil=>cases this
  |cons _ _=>rfl
def da{X:Cx}{a:Expr}{fa:tB->M D}(ha:Hu X a fa)(he:∀whole,isTrue a X.env whole=(do let v <-whole;standAt a.pos;holding [v] (truthy v)):=by intro _;rfl):Og X a (bW fa):=by
 intro pins s σ H J r S Q E I m;refine isTrue_plain (ha pins s σ H J r S _ E I ?_) (he _);unfold bW M.bind at m;cases e1:fa r S with
 |bad=>rw[e1] at m;exact m
 |exc c S1=>rw[e1] at m;exact m
 |ok x S1=>
  rw[e1] at m;rintro v s1 ⟨vx,H1,I1,r1,J1,ex,rs,rv⟩;have fin:∀k,FG X.K vx H1 k->uW x S1=.ok k S1->wpAny (model X.prog X.w) X.A (truthy v) Q E s1:=fun k ht hk=>by
   dsimp only at m;rw[hk] at m;exact wpAny_mono (Ed (X:=X.Hw E) pins s1 σ H1 vx v (fun b H'=>b=k/\H'=H1) (I1.Hw E) r1 ⟨k,ht,rfl,rfl⟩) (fun b s2 ⟨H2,I2,hb,hH⟩=>by subst hb hH;exact m s2 ⟨_,I2.HN,J1,ex,rs⟩) fun _ _ z=>z
  cases x with
  |G0=>cases rv.NN;exact fin false rfl rfl
  |bl b=>cases rv.O4;exact fin b rfl rfl
  |int i=>cases rv.Ic;exact fin _ rfl rfl
  |tup xs=>
   obtain⟨a,vs,rfl,hq,Hz⟩:=rv.Kv;exact fin _ (.inr (.inl ⟨vs,hq,by rw[Hz.isEmpty]⟩)) rfl
  |JG xs=>
   obtain⟨a,vs,rfl,hq,Hz⟩:=rv.ML;exact fin _ (.inl ⟨vs,hq.sq,by rw[Hz.isEmpty]⟩) rfl
  |ob n=>
   obtain⟨a,rfl,hn⟩:=rv.Kw;obtain⟨c,hc,rc⟩:=rs.Ly hn;cases c with
   |lst xs=>
    obtain⟨vs,hv,Hz⟩:=rc;exact fin (!xs.isEmpty) (.inl ⟨vs,Jl.of hv,by rw[Hz.isEmpty]⟩) (by simp only[uW,hc])
   |IT xs=>
    obtain⟨vs,hv,Hz⟩:=rc;exact fin (!xs.isEmpty) (.inr (.inr ⟨vs,hv,by rw[Hz.isEmpty]⟩)) (by simp only[uW,hc])
   |ins C ns ds=>
    dsimp only[uW] at m;rw[hc] at m;exact m.elim
  |_=>exact m.elim
def Kx(X:Cx):List (Str×Addr)->Prop
 |[]=>True
 |p :: r=>X.env.cells.lookup p.1=some p.2/\Kx X r
theorem Kx.all{X:Cx}:∀{cl:List (Str×Addr)},Kx X cl->∀p∈cl,X.env.cells.lookup p.1=some p.2
 |[],_,p,hp=>by cases hp
 |q :: r,h,p,hp=>by
  rcases List.mem_cons.mp hp with rfl|hp
  ·exact h.1
  ·exact Kx.all h.2 p hp
def yJ(K:PySem.W.Frag):Sp:=fun vs H Q _=>∃(a:Addr) (ns:List Int),vs=[.ref a]/\Jl K H a (ns.map V.int)/\ns.length<=63/\Cp H/\∀H',Q (.bl true) H'
def AE{K:PySem.W.Frag}{F:List D->M D}(hF:∀ns:List Int,ns.length<=63->∃S',F [.JG (ns.map D.int)] []=.ok (.bl true) S'):∀vs H Q E,yJ K vs H Q E->Yt K 1 F vs H Q E:=by
 rintro vs H Q E ⟨a,ns,rfl,hS,hl,ho,k⟩;refine⟨rfl,[],[.JG (ns.map D.int)],[],?_,⟨rfl,nodup_nil,fun n c a h=>by simp at h⟩,?_⟩
 ·refine .one ?_;unfold s_;refine⟨a,ns.map V.int,rfl,?_,l_.ints ns⟩;rcases hS with (h|⟨o,h⟩)|h
  ·rcases ho a with e|⟨o,xs,e⟩
   ·rw[h] at e;cases e
   ·rw[h] at e;cases e
  ·exact .inl ⟨o,h⟩
  ·exact .inr h
 ·obtain⟨S',e⟩:=hF ns hl;rw[e];rintro v H' ⟨J',_,_,rv⟩;rw[rv.O4];exact k H'
@[simp] theorem FQ{α:Type}{a b:α}:JC True a b=a:=cf trivial
@[simp] theorem Fi{α:Type}{a b:α}:JC False a b=b:=yp (fun h=>h)
theorem cK{g:Option (Nat×List D)}{tg:MC}{b:Hd}(Iv:Nat->tB->List Cell->Prop):∀(items:List D) (k:Nat) (r:tB) (S:List Cell),
  (∀i x r S,items[i]?=some x->Iv (k+i) r S->∃r1 r2 S2,tg x r=some r1/\b r1 S=some (.nx r2,S2)/\Ld g S2/\Iv (k+i+1) r2 S2)->Iv k r S->
  ∃r' S',jg g tg b items r S=some (.nx r',S')/\Iv (k+items.length) r' S'
 |[],k,r,S,_,h=>⟨r,S,rfl,by simpa using h⟩
 |x :: xs,k,r,S,hs,h=>by
  obtain⟨r1,r2,S2,h1,h2,h3,h4⟩:=hs 0 x r S rfl h;obtain⟨r',S',e1,e2⟩:=cK Iv xs (k+1) r2 S2 (fun i y r S hy hi=>by
   have:=hs (i+1) y r S (by simpa using hy) (by rw[show k+(i+1)=k+1+i by omega];exact hi);rw[show k+(i+1)+1=k+1+i+1 by omega] at this;exact this) h4
  refine⟨r',S',?_,by rw[length_cons,show k+(xs.length+1)=k+1+xs.length by omega];exact e2⟩;unfold jg;rw[h1];dsimp only;rw[h2];dsimp only;rw[if_pos h3];exact e1
theorem vS(S:List Cell)(n:Nat):∀is:List Int,K5 S (n+1) (is.map D.int)=some (is.map PyData.int)
 |[]=>by simp[K5]
 |i :: is=>by simp[K5,pD,vS S n is]
def mW(S:List Cell)(n:Nat)(is:List Int):pD S (n+2) (.tup (is.map D.int))=some (.tuple (is.map PyData.int)):=by
 simp[pD,vS]
theorem kZ:∀is js:List Int,PyData.eqvAll (is.map PyData.int) (js.map PyData.int)=decide (is=js)
 |[],[]=>by simp[PyData.eqvAll]
 |[],_ :: _=>by simp[PyData.eqvAll]
 |_ :: _,[]=>by simp[PyData.eqvAll]
 |i :: is,j :: js=>by
  simp only[map_cons,PyData.eqvAll,PyData.eqv,kZ is js,List.cons.injEq];by_cases h1:i=j<;>by_cases h2:is=js<;>simp[h1,h2]
def BE(S:List Cell)(is js:List Int):G_ (.tup (is.map D.int)) (.tup (js.map D.int)) S=.ok (.bl (decide (is=js))) S:=by
 simp only[G_,mW S 28,PyData.eqv,kZ]
def By(S:List Cell)(is js:List Int):Jp (.tup (is.map D.int)) (.tup (js.map D.int)) S=.ok (.bl (!decide (is=js))) S:=by
 simp only[Jp,mW S 28,PyData.eqv,kZ]
def DF(S:List Cell)(i j:Int):G_ (.int i) (.int j) S=.ok (.bl (decide (i=j))) S:=by
 have e:(i == j)=decide (i=j):=by
  by_cases h:i=j<;>simp[h]
 simp only[G_,pD,PyData.eqv,e]
def DP(S:List Cell)(i j:Int):Jp (.int i) (.int j) S=.ok (.bl (!decide (i=j))) S:=by
 have e:(i == j)=decide (i=j):=by
  by_cases h:i=j<;>simp[h]
 simp only[Jp,pD,PyData.eqv,e]
def xB{S:List Cell}{n:Nat}(h:n<=1000000):rZ 0 (n:Int) 1 S=.ok ⟨eI 0 1 n,none⟩ S:=by
 have hs:small 0 (n:Int) 1=true:=small_one (by omega) (by omega) (by omega) (by omega);unfold rZ;have e:(if (0:Int)<(n:Int) then (n:Int)-0 else 0).toNat=n:=by split<;>omega
 rw[cf ⟨⟨by omega,by omega⟩,hs⟩,rangeSize_one,e]
def Ai{xs:List D}{k:Nat}(h:k<=xs.length):gg xs none (some (k:Int))=xs.take k:=by
 unfold gg;rw[HT.KJ,HT.JF,Nat.min_eq_left h];simp
def gp{xs:List D}{k:Nat}(h:k<=xs.length):gg xs (some (k:Int)) none=xs.drop k:=by
 unfold gg;rw[HT.KJ,HT.JF,Nat.min_eq_left h];rw[take_of_length_le];simp
end DL
namespace DL
open PySem PySem.Spec PyProof.Rows L2
open AutoSeq1 (wpAny_loadPart')
open SeqAt
theorem j5{prog:Program}{w:World}{A:Around}{items:Array Value}{x:Value}{e:Value->Bool}{j:Nat}(hj:j<items.size)(hit:e items[j]=true)(Ob:∀m (hm:m<items.size),m<j->e items[m]=false){s:Shared}
  (he:∀y,y∈items->EqAt A s y x (e y)) {Q:Option PySem.Fin×PUnit->Shared->Prop}{E:Value->Shared->Prop}(hQ:Q (some (.done (.ret (.int j s.toks))),()) { s with toks:=s.toks+1 }):∀(k pre:Nat),pre+k=items.size->pre<=j->
  wpAny (model prog w) A (forIn (range' pre k) ((none,()):Option PySem.Fin×PUnit) fun(i:Nat) (_:Option PySem.Fin×PUnit)=>match items[i]? with
      |some y=>do
       let b <-eqBool y x
       if b=true then do
         let r <-retInt ((i:Nat):Int)
         pure (ForInStep.done (some r,()))
        else pure (ForInStep.yield (none,()))
      |_=>pure (ForInStep.yield (none,()))) Q E s
 |0,pre,h1,h2=>by omega
 |k+1,pre,h1,h2=>by
  rw[List.range'_succ,List.forIn_cons];have hp:pre<items.size:=by omega
  have hg:items[pre]?=some items[pre]:=by simp[hp]
  rw[hg];dsimp only;refine wpAny_bind (wpAny_bind (he _ (Array.getElem_mem hp) prog w E _ ?_));by_cases hpj:pre=j
  ·subst hpj;rw[hit,if_pos rfl];refine wpAny_bind (m:=retInt _) (wpAny_bind (wpAny_mkInt (wpAny_pure ?_)));exact wpAny_pure (wpAny_pure hQ)
  ·rw[Ob pre hp (by omega),if_neg (by decide)];exact wpAny_pure (j5 hj hit Ob he hQ k (pre+1) (by omega) (by omega))
def nM(l:Addr)(items:Array Value)(n:Nat)(dd:Option Addr)(sl:Array (Option Value))(x:Value)(e:Value->Bool)(j:Nat)(hj:j<items.size)
  (hit:e items[j]=true) (Ob:∀m (hm:m<items.size),m<j->e items[m]=false) :
  Meets (Builtin.«tuple.index» ⟨[.ref l,x],[]⟩)
   (fun A R s=>s.heap.get? l=some { cls:=.type "tuple",dict:=dd,data:=.seq items n,slots:=sl }/\(∀y,y∈items->EqAt A.in1 s y x (e y))/\R (.ok (.ret (.int j s.toks))) { s with toks:=s.toks+1 }):=by
 refine .of_wp fun prog w A R s h=>?_
 obtain⟨hp,g,d,tk,os⟩:=s;obtain⟨hl,he,h⟩:=h;unfold Builtin.«tuple.index»;simp only[Std.Legacy.Range.forIn_eq_forIn_range']
 wp_walk using wpAny_loadPart' hl
 refine j5 (s:=⟨hp,g,d,tk,os⟩) hj hit Ob he ?_ _ 0 ?_ (zero_le _)
 ·exact wpAny_pure ⟨_,rfl,h⟩
 ·simp[Std.Legacy.Range.size]
def fv:D->Option V
 |.G0=>some .G0
 |.bl b=>some (.bl b)
 |.int i=>some (.int i)
 |.str x=>some (.str x)
 |_=>none
def Qc:List D->Option (List V)
 |[]=>some []
 |x :: xs=>match fv x,Qc xs with
  |some v,some vs=>some (v :: vs)
  |_,_=>none
def ye{K:PySem.W.Frag}{H:Hp}{J:List Addr}{d:D}{v w:V}(h:fv d=some w)(r:s_ K H J d v):v=w/\j0 w=true:=by
 cases d with
 |G0=>cases h;exact⟨r.NN,rfl⟩
 |bl b=>cases h;exact⟨r.O4,rfl⟩
 |int b=>cases h;exact⟨r.Ic,rfl⟩
 |str b=>cases h;exact⟨r.O5,rfl⟩
 |_=>cases h
theorem vh{K:PySem.W.Frag}{H:Hp}{J:List Addr}:∀{xs:List D}{vs ws:List V},Qc xs=some ws->l_ K H J xs vs->vs=ws/\ws.all j0=true
 |[],vs,ws,h,r=>by
  cases h;unfold l_ at r;exact⟨r,rfl⟩
 |x :: xs,vs,ws,h,r=>by
  unfold l_ at r;obtain⟨v,t,rfl,r1,r2⟩:=r;unfold Qc at h;cases e1:fv x with
  |none=>rw[e1] at h;cases h
  |some w=>
   cases e2:Qc xs with
   |none=>rw[e1,e2] at h;cases h
   |some ws'=>
    rw[e1,e2] at h;cases h;obtain⟨rfl,h1⟩:=ye e1 r1;obtain⟨rfl,h2⟩:=vh e2 r2;exact⟨rfl,by simp[h1,h2]⟩
def inD(x y:D):M D:=fun S=>match fv x,gW S y with
 |some w,some ys=>(match Qc ys with
  |some ws=>.ok (.bl (Od w ws)) S
  |none=>.bad)
 |_,_=>.bad
section
variable{X:Cx}
def FN(hu:X.A.units+64<cLine):KU X (compareOp .In) inD:=by
 intro pins s σ H J S x y vx vy v u Q E I rs rx ry rv ru m;unfold inD at m;cases e1:fv x with
 |none=>rw[e1] at m;exact m.elim
 |some w=>
  cases e2:gW S y with
  |none=>rw[e1,e2] at m;exact m.elim
  |some ys=>
   rw[e1,e2] at m;dsimp only at m;cases e3:Qc ys with
   |none=>rw[e3] at m;exact m.elim
   |some ws=>
    rw[e3] at m;obtain⟨rfl,h1⟩:=ye e1 rx;obtain⟨a,vs,rfl,hq,Hz⟩:=lG rs ry e2;obtain⟨rfl,h2⟩:=vh e3 Hz;exact wpAny_mono (zQ (X:=X.Hw E) pins s σ H vx (.ref a) v u (Got X.K H J (.bl (Od vx vs)) S) (I.Hw E) rv ru ⟨a,vs,rfl,hq,h1,h2,J,Ext.refl _ _,rs,s_.bl _ _ _ _⟩) (fun u s' q=>m u s' (EP.HN q)) fun _ _ z=>z
def k9:List D->Option (List Int)
 |[]=>some []
 |.int i :: xs=>(k9 xs).map (i :: ·)
 |_ :: _=>none
def pi:List D->Option (List Bool)
 |[]=>some []
 |.bl i :: xs=>(pi xs).map (i :: ·)
 |_ :: _=>none
theorem rg:∀{xs:List D}{is:List Int},k9 xs=some is->xs=is.map D.int
 |[],is,h=>by cases h;rfl
 |x :: xs,is,h=>by
  cases x with
  |int i=>
   simp only[k9] at h;cases e:k9 xs with
   |none=>rw[e] at h;cases h
   |some js=>
    rw[e] at h;cases h;rw[rg e];rfl
  |_=>cases h
theorem tm:∀{xs:List D}{is:List Bool},pi xs=some is->xs=is.map D.bl
 |[],is,h=>by cases h;rfl
 |x :: xs,is,h=>by
  cases x with
  |bl i=>
   simp only[pi] at h;cases e:pi xs with
   |none=>rw[e] at h;cases h
   |some js=>
    rw[e] at h;cases h;rw[tm e];rfl
  |_=>cases h
def gJ:∀is:List Int,k9 (is.map D.int)=some is
 |[]=>rfl
 |i :: is=>by simp[k9,gJ is]
def tf:∀is:List Bool,pi (is.map D.bl)=some is
 |[]=>rfl
 |i :: is=>by simp[pi,tf is]
def lX:List D->M D
 |[x]=>fun S=>match gW S x with
  |some xs=>(match k9 xs with
   |some is=>.ok (.int is.sum) S
   |none=>.bad)
  |none=>.bad
 |_=>M.bad
def B4:List D->M D
 |[x]=>fun S=>match gW S x with
  |some xs=>(match pi xs with
   |some is=>.ok (.bl (is.all id)) S
   |none=>.bad)
  |none=>.bad
 |_=>M.bad
theorem o4(is:List Int):∀n,n<=is.length->preSum (fun i=>is.getD i 0) n=(is.take n).sum
 |0,_=>by simp[preSum]
 |n+1,h=>by
  rw[preSum,o4 is n (by omega),take_add_one,List.sum_append];have hg:is[n]?=some (is.getD n 0):=by simp[getD,getElem?_eq_getElem (show n<is.length by omega)]
  rw[hg];simp
def zw(is:List Bool):(range is.length).all (fun i=>is.getD i true)=is.all id:=by
 rw[Bool.eq_iff_iff,all_eq_true,all_eq_true];constructor
 ·intro h b hb;obtain⟨i,hi,rfl⟩:=List.mem_iff_getElem.mp hb;have:=h i (List.mem_range.mpr hi);simpa[getD,getElem?_eq_getElem hi] using this
 ·intro h i hi;have hi:=List.mem_range.mp hi;have:=h _ (getElem_mem hi);simpa[getD,getElem?_eq_getElem hi] using this
theorem qF{α:Type}{f:α->D}{g:α->V}{K:PySem.W.Frag}{H:Hp}{J:List Addr}(YB:∀a v,s_ K H J (f a) v->v=g a):∀{as:List α}{vs:List V},l_ K H J (as.map f) vs->vs=as.map g
 |[],vs,h=>by unfold l_ at h;simpa using h
 |a :: as,vs,h=>by
  rw[map_cons] at h;unfold l_ at h;obtain⟨v,r,rfl,h1,h2⟩:=h;rw[YB a v h1,qF YB h2];rfl
def wI{pins:G4}{σ:L2.St}{H:Hp}{s:Shared}{a:Addr}{vs:List V}(hc:X.calm=true)(I:Inv X pins σ H s)(hq:Jl X.K H a vs\/JQ X.K H a vs){Q E:Value->Shared->Prop}
  (h:∀(it:Addr) (fp:List Addr) (St:Nat->Heap->Prop) (its:List Value) (s2:Shared),Vals vs its->Walks X.prog X.w X.A.in1 it fp [it] its.length (fun i v=>its[i]?=some v) St->St 0 s2.heap->(∀b∈fp,b<s2.heap.objs.size)->s2.toks=s.toks->
   (∀h' tk,(∀b o,b∉[it]->s2.heap.get? b=some o->h'.get? b=some o)->Inv X pins σ H { s2 with heap:=h',toks:=tk })->Q (.ref it) s2):wpAny (model X.prog X.w) X.A.in1 (pyIter (.ref a)) Q E s:=by
 rcases hq with hq|hq
 ·obtain⟨its,rl,pl,hz⟩:=I.list hq;have JD:a<s.heap.objs.size:=by
   obtain⟨o,ho,_⟩:=pl.isList;exact lt_size ho
  refine wpAny_pyIter_list pl.isList (h s.heap.objs.size [s.heap.objs.size,a] (fun i h=>h.IsListIter s.heap.objs.size a i/\h.IsList a its.toArray) its _ rl (by simpa using Walks.list (prog:=X.prog) (w:=X.w) (A:=X.A.in1) (I.ok.hd hc) s.heap.objs.size a (ne_of_lt JD) its.toArray) ⟨⟨_,get?_push_size _ rfl,rfl,rfl⟩,pl.isList.at fun o e=>get?_push_of_some _ e⟩ (fun b hb=>?_) rfl fun h' tk hk=>?_)
  ·simp at hb;rw[size_push];rcases hb with rfl|rfl
   ·exact lt_succ_self _
   ·exact lt_succ_of_lt JD
  ·exact I.kept fun b o e=>hk b o (by simp;exact ne_of_lt (lt_size e)) (get?_push_of_some _ e)
 ·obtain⟨its,rl,pl,hz⟩:=I.tuple hq;have hT:s.heap.IsTuple a its.toArray:=pl;have JD:a<s.heap.objs.size:=by
   obtain⟨o,ho,_⟩:=hT;exact lt_size ho
  refine wpAny_pyIter_tuple hT (h s.heap.objs.size [s.heap.objs.size,a] (fun i h=>h.IsTupleIter s.heap.objs.size a i/\h.IsTuple a its.toArray) its _ rl (by simpa using Walks.tuple (prog:=X.prog) (w:=X.w) (A:=X.A.in1) (I.ok.hd hc) s.heap.objs.size a (ne_of_lt JD) its.toArray) ⟨⟨_,get?_push_size _ rfl,rfl,rfl⟩,hT.at fun o e=>get?_push_of_some _ e⟩ (fun b hb=>?_) rfl fun h' tk hk=>?_)
  ·simp at hb;rw[size_push];rcases hb with rfl|rfl
   ·exact lt_succ_self _
   ·exact lt_succ_of_lt JD
  ·exact I.kept fun b o e=>hk b o (by simp;exact ne_of_lt (lt_size e)) (get?_push_of_some _ e)
def vk(hc:X.calm=true):IJ X (.builtin "sum") lX:=by
 intro pins s σ H J S xs vs us Q E I rs rx rv m
 match xs,m,rx with
 |[],m,rx=>exact m.elim
 |_ :: _ :: _,m,rx=>exact m.elim
 |[x],m,rx=>
  obtain⟨v,rfl,h1⟩:=rx.Kk;obtain⟨u,rfl,ru⟩:=Vals.one rv;simp only[lX] at m;cases e1:gW S x with
  |none=>rw[e1] at m;exact m.elim
  |some ys=>
   rw[e1] at m;dsimp only at m;cases e2:k9 ys with
   |none=>rw[e2] at m;exact m.elim
   |some is=>
    rw[e2] at m;cases rg e2;obtain⟨a,ws,rfl,hq,Hz⟩:=lG rs h1 e1;cases ru;have ew:=qF (g:=V.int) (fun i v h=>h.Ic) Hz;subst ew;refine call_sum_walkG (wI hc I hq fun it fp St its s2 rl W st hf Yl hI=>?_);have hi:=xK rl;have hlen:its.length=is.length:=by have:=rl.length;simpa using this.symm
    refine⟨it,fp,[it],its.length,_,St,(fun i=>is.getD i 0),rfl,W,st,hf,?_,?_⟩
    ·intro i v hv;obtain⟨x,hx,rx⟩:∃x,(is.map V.int)[i]?=some x/\RelV x v:=by
      have JD:=(List.getElem?_eq_some_iff.mp hv).1;obtain⟨u,hu,ru⟩:=Vals.get (x:=.int (is.getD i 0)) rl (i:=i) (by simp[getD,getElem?_eq_getElem (show i<is.length by omega)]);rw[hv] at hu;cases hu;exact⟨_,by simp[getD,getElem?_eq_getElem (show i<is.length by omega)],ru⟩
     rw[getElem?_map] at hx;cases e:is[i]? with
     |none=>rw[e] at hx;cases hx
     |some k=>
      rw[e] at hx;cases hx;obtain⟨t,rfl⟩:=rx;exact⟨t,by simp[getD,e]⟩
    ·intro h' tk t' hk;rw[hlen,o4 is _ (Nat.le_refl _),take_length];exact m.JU (hI h' tk hk) rs (s_.int _ _ _ _) ⟨_,rfl⟩
def Fd(hc:X.calm=true):IJ X (.builtin "all") B4:=by
 intro pins s σ H J S xs vs us Q E I rs rx rv m
 match xs,m,rx with
 |[],m,rx=>exact m.elim
 |_ :: _ :: _,m,rx=>exact m.elim
 |[x],m,rx=>
  obtain⟨v,rfl,h1⟩:=rx.Kk;obtain⟨u,rfl,ru⟩:=Vals.one rv;simp only[B4] at m;cases e1:gW S x with
  |none=>rw[e1] at m;exact m.elim
  |some ys=>
   rw[e1] at m;dsimp only at m;cases e2:pi ys with
   |none=>rw[e2] at m;exact m.elim
   |some is=>
    rw[e2] at m;cases tm e2;obtain⟨a,ws,rfl,hq,Hz⟩:=lG rs h1 e1;cases ru;have ew:=qF (g:=V.bl) (fun i v h=>h.O4) Hz;subst ew;refine call_all_walk (wI hc I hq fun it fp St its s2 rl W st hf Yl hI=>?_);have hlen:its.length=is.length:=by have:=rl.length;simpa using this.symm
    refine⟨it,fp,[it],its.length,_,St,(fun i=>is.getD i true),rfl,W,st,?_,?_⟩
    ·intro i v s Q E hv hQ;have JD:=(List.getElem?_eq_some_iff.mp hv).1;obtain⟨u,hu,ru⟩:=Vals.get (x:=.bl (is.getD i true)) rl (i:=i) (by simp[getD,getElem?_eq_getElem (show i<is.length by omega)]);rw[hv] at hu;cases hu;cases ru;exact wpAny_truthy_bool hQ
    ·intro h' tk hk;rw[hlen,zw];exact m.JU (hI h' tk hk) rs (s_.bl _ _ _ _) rfl
def qt(w:V):List V->Option Nat
 |[]=>none
 |y :: ys=>if OQ y w=true then some 0 else (qt w ys).map (·+1)
theorem zj{w:V}:∀{ys:List V}{j:Nat},qt w ys=some j->∃h:j<ys.length,OQ ys[j] w=true/\∀m (hm:m<ys.length),m<j->OQ ys[m] w=false
 |[],j,h=>by cases h
 |y :: ys,j,h=>by
  unfold qt at h;split at h
  ·rename_i e;cases h;exact⟨by simp,e,fun m hm h0=>absurd h0 (Nat.not_lt_zero _)⟩
  ·rename_i e;cases e2:qt w ys with
   |none=>rw[e2] at h;cases h
   |some k=>
    rw[e2] at h;cases h;obtain⟨h1,h2,h3⟩:=zj e2;refine⟨by simp;omega,by simpa using h2,fun m hm hk=>?_⟩;cases m with
    |zero=>simpa using e
    |succ m=>simpa using h3 m (by simpa using hm) (Nat.lt_of_succ_lt_succ hk)
def Am(ys:List D)(x:D):M D:=fun S=>match fv x,Qc ys with
 |some w,some ws=>(match qt w ws with
  |some j=>.ok (.int j) S
  |none=>.bad)
 |_,_=>.bad
def zx{A:Around}{s:Shared}{x:V}{v:Value}(rx:RelV x v)(fx:j0 x=true){ws:List V}{its:List Value}(rl:Vals ws its)(hf:ws.all j0=true):∀y,y∈its.toArray->SeqAt.EqAt A s y v (OR x y):=fun y hy=>
 n8 rx fx rl hf y (by simpa using hy)
def yV{x:V}{ws:List V}{its:List Value}(rl:Vals ws its)(hf:ws.all j0=true){m:Nat}(h1:m<ws.length)(h2:m<its.toArray.size):OR x its.toArray[m]=OQ ws[m] x:=by
 obtain⟨u,hu,ru⟩:=rl.get (i:=m) (x:=ws[m]) (by simp);have e:its.toArray[m]=u:=by
  have h3:m<its.length:=by simpa using h2
  rw[getElem?_eq_getElem h3] at hu;simpa using Option.some.inj hu
 rw[e];exact xV ru (List.all_eq_true.mp hf _ (getElem_mem h1))
def zv{pins:G4}{s:Shared}{σ:L2.St}{H:Hp}{J:List Addr}{S:List Cell}{a:Addr}{ys:List D}{vs:List V}{x:D}{vx:V}{v:Value}{Q E:Value->Shared->Prop}(I:Inv X pins σ H s)(rs:G6 X.K H J S)(hq:JQ X.K H a vs)(Hz:l_ X.K H J ys vs)
  (rx:s_ X.K H J x vx) (rv:RelV vx v) (m:Mt X pins σ H J (Am ys x S) Q E):wpAny (model X.prog X.w) X.A (call (.builtin "tuple.index") [.ref a,v]) Q E s:=by
 unfold Am at m;cases e1:fv x with
 |none=>rw[e1] at m;exact m.elim
 |some w=>
  cases e2:Qc ys with
  |none=>rw[e1,e2] at m;exact m.elim
  |some ws=>
   rw[e1,e2] at m;dsimp only at m;cases e3:qt w ws with
   |none=>rw[e3] at m;exact m.elim
   |some j=>
    rw[e3] at m;obtain⟨rfl,h1⟩:=ye e1 rx;obtain⟨rfl,h2⟩:=vh e2 Hz;obtain⟨hj,hit,Ob⟩:=zj e3;obtain⟨its,rl,⟨o,ho,hc,n,hd⟩,hz⟩:=I.tuple hq;obtain⟨cls,dd,data,sl⟩:=o;simp only at hc hd;subst hc hd;have hl:=rl.length;refine call_meets PySem.F.slot_tuple_index ⟨_,ho,rfl⟩ PySem.F.entry_tuple_index (PySem.F.args_tuple_index_2 _ _)
     (nM a its.toArray n dd sl v (OR vx) j (by simp;omega) (by rw[yV rl h2 hj];exact hit) (fun m hm hmj=>by rw[yV rl h2 (by omega)];exact Ob m (by omega) hmj)) ⟨ho,zx rv h1 rl h2,?_⟩
    exact m.JU (I.tok _) rs (s_.int _ _ _ _) ⟨_,rfl⟩
structure Qd(K:PySem.W.Frag)(u:Value)(vs:List V):Prop where
 ex:∃(a:Addr) (o:Obj) (its:Array Value) (n:Nat),u=.ref a/\K.lookup a=some o/\o.cls=.type "tuple"/\o.dict=none/\o.data=.seq its n/\its.size<=sizeLine/\Vals vs its.toList
def Qd.rep{K:PySem.W.Frag}{u:Value}{vs:List V}{ds:List D}(h:Qd K u vs)(hd:∀H J,l_ K H J ds vs):Ll K (.tup ds) u:=by
 obtain⟨a,o,its,n,rfl,h1,h2,h3,h4,h5,h6⟩:=h.ex;exact fun H J=>⟨.ref a,rfl,.tup (.inr ⟨o,its,n,h1,h2,h4,h5,h6⟩) (hd H J)⟩
def nj(k:D)(ft:tB->M (List D)):tB->M D:=fun r=>(ft r).bind fun xs=>match k,xs with
 |.tup ys,[x]=>Am ys x
 |_,_=>M.bad
def zU{x:Str}{e:Expr}{np apos HQ:Pos}{u:Value}{vs:List V}{ds:List D}{ft:tB->M (List D)}(hg:Gl X x)(hm:X.mg x=some u)(hk:Qd X.K u vs)(Rk:∀H J,l_ X.K H J ds vs)(ha:M8 X [e] ft)(hd:(x == ("__debug__":Str))=false:=by decide)
  (Lz:attributeBase (.Name x np) "index" X.env (eval (.Name x np) X.env)=eval (.Name x np) X.env:=by rfl)
  (NU:((backTo HQ (starEach [e] X.env)).all (fun x=>!x.1) && (backToKw HQ (keywordEach [] X.env)).all (fun x=>x.1.isSome)
   && decide ([e].length+([]:List Keyword).length+(if ([]:List Keyword).isEmpty then 0 else 1)<30))=true:=by rfl)
  (LB:(apos.endLine == HQ.line)=true:=by rfl) (hs:starEach [e] X.env=[(false,eval e X.env)]:=by rfl) :
  Hu X (.Call (.Attribute (.Name x np) "index" apos) [e] [] HQ) (nj (.tup ds) ft):=by
 intro pins s σ H J r S Q E I m;obtain⟨a,o,its,n,rfl,h1,h2,h3,h4,h5,h6⟩:=hk.ex;refine wpAny_Call_method_late Lz NU LB rfl (lV I.inv hg hm ?_ hd);have ho:=I.inv.Ls a o h1;refine⟨"tuple","tuple.index",PySem.F.plainAttrs_tuple,PySem.F.slot_tuple_index,PySem.F.type_tuple_index,⟨o,ho,h2⟩,fun b hb=>?_,?_⟩
 ·cases hb;exact⟨o,ho,h3⟩
 ·have hA:=EL (k:=fun xs=>match D.tup ds,xs with|.tup ys,[x]=>Am ys x|_,_=>M.bad) (Q':=fun us s2=>wpAny (model X.prog X.w) X.A (call (.builtin "tuple.index") (.ref a :: us)) Q E s2) ha I m (fun xs S2 s2 H2 J2 ws us I2 x2 rv r2 m2=>?_) HQ
  ·rw[hs] at hA ⊢;exact Calls.callWith_builtin rfl (evalArgs_plain hA)
  ·match xs,m2,rv with
   |[],m2,rv=>exact m2.elim
   |_ :: _ :: _,m2,rv=>exact m2.elim
   |[y],m2,rv=>
    obtain⟨w,rfl,hw⟩:=rv.Kk;obtain⟨uu,rfl,ru⟩:=Vals.one r2;exact zv I2.inv I2.st (.inr ⟨o,its,n,h1,h2,h4,h5,h6⟩) (Rk H2 J2) hw ru m2
end
end DL
namespace DL
open PySem PySem.Spec PyProof.Rows L2
theorem oG{f:Str}{v:V}:∀{ws:List (Str×V)}{i:Nat},(ws.map (·.1)).Nodup->(ws.map (·.1))[i]?=some f->(ws.map (·.2))[i]?=some v->ws.lookup f=some v
 |[],_,_,h,_=>by simp at h
 |(g,x) :: r,0,nd,h,h2=>by
  simp at h h2;subst h h2;simp[lookup_cons]
 |(g,x) :: r,i+1,nd,h,h2=>by
  simp only[map_cons,List.nodup_cons] at nd;simp only[map_cons,getElem?_cons_succ] at h h2;have hm:f∈r.map (·.1):=mem_of_getElem? h;have hb:(f == g)=false:=beq_eq_false_iff_ne.mpr fun e=>nd.1 (e ▸ hm)
  rw[lookup_cons,hb];exact oG nd.2 h h2
theorem oj{f:Str}:∀{ws:List (Str×V)},f∉ws.map (·.1)->ws.lookup f=none
 |[],_=>rfl
 |(g,x) :: r,h=>by
  simp only[map_cons,mem_cons,not_or] at h;have hb:(f == g)=false:=beq_eq_false_iff_ne.mpr h.1;rw[lookup_cons,hb];exact oj h.2
def ou(f g:Str)(y x:V)(r:List (Str×V)):ig f y ((g,x) :: r)=if g=f then (g,y) :: r else (g,x) :: ig f y r:=rfl
theorem yK{f:Str}{y:V}:∀{ws:List (Str×V)}{i:Nat},(ws.map (·.1)).Nodup->(ws.map (·.1))[i]?=some f->(ig f y ws).map (·.1)=ws.map (·.1)/\(ig f y ws).map (·.2)=(ws.map (·.2)).set i y
 |[],_,_,h=>by simp at h
 |(g,x) :: r,0,nd,h=>by
  simp at h;subst h;rw[ou,if_pos rfl];exact⟨rfl,rfl⟩
 |(g,x) :: r,i+1,nd,h=>by
  simp only[map_cons,List.nodup_cons] at nd;simp only[map_cons,getElem?_cons_succ] at h;have hm:f∈r.map (·.1):=mem_of_getElem? h;have hb:¬g=f:=fun e=>nd.1 (e ▸ hm)
  rw[ou,if_neg hb];obtain⟨h1,h2⟩:=yK (y:=y) nd.2 h;exact⟨by rw[map_cons,map_cons,h1],by rw[map_cons,map_cons,List.set_cons_succ,h2]⟩
theorem wB{f:Str}{y:V}:∀{ws:List (Str×V)},f∉ws.map (·.1)->ig f y ws=ws++[(f,y)]
 |[],_=>rfl
 |(g,x) :: r,h=>by
  simp only[map_cons,mem_cons,not_or] at h;rw[ou,if_neg (fun e=>h.1 e.symm),wB h.2];rfl
def iY(C:Addr)(ns:List Str)(x:D):M (Nat×List D):=fun S=>match x with
 |.ob n=>(match S[n]? with
  |some (.ins C' VN ds)=>JC (C'=C/\VN=ns) (.ok (n,ds) S) .bad
  |_=>.bad)
 |_=>.bad
def lP{C:Addr}{ns:List Str}{n:Nat}{ds:List D}{S:List Cell}(h:S[n]?=some (.ins C ns ds)):iY C ns (.ob n) S=.ok (n,ds) S:=by
 simp only[iY,h]
 first
  |exact cf ⟨rfl,rfl⟩
  |exact cf ⟨trivial,trivial⟩
def kD{C:Addr}{ns:List Str}{x:D}{S S':List Cell}{p:Nat×List D}(h:iY C ns x S=.ok p S'):S'=S/\x=.ob p.1/\S[p.1]?=some (.ins C ns p.2):=by
 unfold iY at h;cases x with
 |ob n=>
  dsimp only at h;cases e:S[n]? with
  |none=>rw[e] at h;cases h
  |some c=>
   rw[e] at h;cases c with
   |ins C' VN ds=>
    dsimp only at h;unfold JC at h;split at h
    ·rename_i q;obtain⟨rfl,rfl⟩:=q
     injection h with h1 h2
     subst h1 h2;exact⟨rfl,rfl,e⟩
    ·cases h
   |_=>cases h
 |_=>cases h
def kg{C:Addr}{ns:List Str}{x:D}{S S':List Cell}{c:Addr}:iY C ns x S≠.exc c S':=by
 intro h;unfold iY at h;cases x with
 |ob n=>
  dsimp only at h;cases e:S[n]? with
  |none=>rw[e] at h;cases h
  |some c=>
   rw[e] at h;cases c with
   |ins C' VN ds=>
    dsimp only at h;unfold JC at h;split at h<;>cases h
   |_=>cases h
 |_=>cases h
def Do(o:Option D):M D:=fun S=>match o with
 |some d=>.ok d S
 |none=>.bad
section
variable{X:Cx}{o e:Expr}{es:List Expr}{fo fe:tB->M D}{ft:tB->M (List D)}{pos Lv apos:Pos}{C:Addr}{ns:List Str}{i:Nat}{f:Str}
def aA(C:Addr)(ns:List Str)(i:Nat)(fo:tB->M D):tB->M D:=fun r=>(fo r).bind fun x=>(iY C ns x).bind fun p=>Do p.2[i]?
def aE(c:Nf X.K C)(na:Hm X.K C f)(nd:ns.Nodup)(ho:Hu X o fo)(hi:ns[i]?=some f:=by rfl)(hb:attributeBase o f X.env (eval o X.env)=eval o X.env:=by rfl):Hu X (.Attribute o f pos) (aA C ns i fo):=by
 intro pins s σ H J r S Q E I m;refine Cz hb (ho pins s σ H J r S _ E I ?_);unfold aA M.bind at m;cases e1:fo r S with
 |bad=>rw[e1] at m;exact m
 |exc c S1=>rw[e1] at m;exact m
 |ok x S1=>
  rw[e1] at m;dsimp only at m;rintro v s1 ⟨vx,H1,I1,r1,J1,JS,Ke,Jx⟩
  replace m:=Mt.ext JS m
  cases e2:iY C ns x S1 with
  |bad=>rw[e2] at m;exact m.elim
  |exc c S2=>exact absurd e2 kg
  |ok p S2=>
   rw[e2] at m;obtain⟨n,ds⟩:=p;obtain⟨rfl,rfl,hc⟩:=kD e2;obtain⟨a,rfl,hn⟩:=Jx.Kw;obtain⟨dx,ws,hv,KO,Qe⟩:=Ke.at_ n _ a hc hn;dsimp only[Do] at m;cases e3:ds[i]? with
   |none=>rw[e3] at m;exact m.elim
   |some d=>
    rw[e3] at m;obtain⟨w,hw,KD⟩:=Qe.get e3;cases r1;exact qB I1 hv c na (oG (KO ▸ nd) (KO ▸ hi) hw) fun u s2 I2 ru=>m.JU I2 Ke KD ru
def kt(C:Addr)(ns:List Str)(i:Nat)(fo fe:tB->M D):Hd:=fun r=>cA (fe r) r fun d=>cA (fo r) r fun x S1=>match iY C ns x S1 with
 |.ok p S2=>some (.nx r,S2.set p.1 (.ins C ns (p.2.set i d)))
 |_=>none
def ur(he:Hu X e fe){k:D->List Cell->NG}{pins:G4}{s:Shared}{σ:L2.St}{H:Hp}{J:List Addr}{r:tB}{S:List Cell}{Q:Flow->Shared->Prop}{E:Value->Shared->Prop}{Q':Value->Shared->Prop}(I:At X pins σ H J r S s)
  (m:L5 X pins H J (cA (fe r) r k S) Q E) (hk:∀x S1 v s1 vx H1 J1,At X pins σ H1 J1 r S1 s1->Ext H J H1 J1->s_ X.K H1 J1 x vx->RelV vx v->L5 X pins H1 J1 (k x S1) Q E->Q' v s1) :
  wpAny (model X.prog X.w) X.A (eval e X.env) Q' E s:=by
 refine he pins s σ H J r S _ E I ?_;unfold cA at m;cases e1:fe r S with
 |bad=>rw[e1] at m;exact m
 |exc c S1=>
  rw[e1] at m;exact fun x s' ⟨H',XI,J',ex,rs⟩=>m x s' σ H' J' XI (I.loc.ext ex) rs ex
 |ok x S1=>
  rw[e1] at m;exact fun v s1 ⟨vx,H1,I1,r1,J1,ex,rs,rv⟩=>hk x S1 v s1 vx H1 J1 ⟨I1,I.loc.ext ex,rs⟩ ex rv r1 (L5.ext ex m)
def vO{pins:G4}{s:Shared}{σ:L2.St}{H:Hp}{J:List Addr}{r:tB}{S:List Cell}{n:Nat}{ds:List D}{d:D}{vd:V}{u:Value}{a:Addr}{Q:Flow->Shared->Prop}{E:Value->Shared->Prop}
  (c:Nf X.K C) (na:Hm X.K C f) (nd:ns.Nodup) (hz:ns.length<1000) (hi:ns[i]?=some f) (I:At X pins σ H J r S s) (hc:S[n]?=some (.ins C ns ds)) (hn:J[n]?=some a) (rd:s_ X.K H J d vd) (ru:RelV vd u)
  (m:L5 X pins H J (some (.nx r,S.set n (.ins C ns (ds.set i d)))) Q E):wpAny (model X.prog X.w) X.A (setAttr (.ref a) f u) (fun _ s'=>Q .next s') E s:=by
 obtain⟨dx,ws,hv,KO,Qe⟩:=I.st.at_ n _ a hc hn;refine qK I.inv hv c na (by rw[<-length_map (f:=(·.1)),KO];exact hz) ru fun s3 I3=>?_
 have x3:Ext H J (upd H a (.ins C dx (ig f vd ws))) J:=Ext.write hv rfl;obtain⟨p1,p2⟩:=yK (y:=vd) (KO ▸ nd) (KO ▸ hi);refine m s3 σ _ J ⟨I3,I.loc.ext x3,I.st.write hn ⟨dx,_,bC,p1.trans KO,?_⟩⟩ x3;rw[p2];exact l_.set (rd.ext x3) i (Qe.ext x3)
def ib{pos':Pos}(c:Nf X.K C)(na:Hm X.K C f)(nd:ns.Nodup)(hz:ns.length<1000)(ho:Hu X o fo)(he:Hu X e fe)(hi:ns[i]?=some f:=by rfl)
  (hs:swapsWith e (some (.Attribute o f pos')) pos.line X.env=pure false:=by rfl):NO X (.Assign [.Attribute o f pos'] e pos) (kt C ns i fo fe):=by
 intro pins s σ H J r S Q E I m;refine plainObj_wpAny_Assign_Attribute (ur he I m fun d S1 u s1 vd H1 J1 I1 x1 rd ru m1=>ur ho I1 m1 fun x S2 v s2 vx H2 J2 I2 x2 rx rv m2=>?_) hs;cases e2:iY C ns x S2 with
 |bad=>rw[e2] at m2;exact m2.elim
 |exc c S2=>exact absurd e2 kg
 |ok p S3=>
  rw[e2] at m2;obtain⟨n,ds⟩:=p;obtain⟨rfl,rfl,hc⟩:=kD e2;obtain⟨a,rfl,hn⟩:=rx.Kw;cases rv;exact vO c na nd hz hi I2 hc hn (rd.ext x2) ru m2
def cN(C:Addr)(ns:List Str)(f:Str)(fo fe:tB->M D):Hd:=fun r=>cA (fe r) r fun d=>cA (fo r) r fun x S1=>match iY C ns x S1 with
 |.ok p S2=>some (.nx r,S2.set p.1 (.ins C (ns++[f]) (p.2++[d])))
 |_=>none
def cP{pos':Pos}(c:Nf X.K C)(na:Hm X.K C f)(hz:ns.length<1000)(hf:f∉ns)(ho:Hu X o fo)(he:Hu X e fe)
  (hs:swapsWith e (some (.Attribute o f pos')) pos.line X.env=pure false:=by rfl):NO X (.Assign [.Attribute o f pos'] e pos) (cN C ns f fo fe):=by
 intro pins s σ H J r S Q E I m;refine plainObj_wpAny_Assign_Attribute (ur he I m fun d S1 u s1 vd H1 J1 I1 x1 rd ru m1=>ur ho I1 m1 fun x S2 v s2 vx H2 J2 I2 x2 rx rv m2=>?_) hs;cases e2:iY C ns x S2 with
 |bad=>rw[e2] at m2;exact m2.elim
 |exc c S2=>exact absurd e2 kg
 |ok p S3=>
  rw[e2] at m2;obtain⟨n,ds⟩:=p;obtain⟨rfl,rfl,hc⟩:=kD e2;obtain⟨a,rfl,hn⟩:=rx.Kw;cases rv;obtain⟨dx,ws,hv,KO,Qe⟩:=I2.st.at_ n _ a hc hn;refine qK I2.inv hv c na (by rw[<-length_map (f:=(·.1)),KO];exact hz) ru fun s3 I3=>?_
  have x3:Ext H2 J2 (upd H2 a (.ins C dx (ig f vd ws))) J2:=Ext.write hv rfl;have pn:ig f vd ws=ws++[(f,vd)]:=wB (KO ▸ hf);have pn2:(ig f vd ws).map (·.2)=ws.map (·.2)++[vd]:=by rw[pn,map_append];rfl
  refine m2 s3 σ _ J2 ⟨I3,I2.loc.ext x3,I2.st.write hn ⟨dx,_,bC,by rw[pn,map_append,KO];rfl,?_⟩⟩ x3;rw[pn2];exact(Qe.ext x3).append (.one ((rd.ext x2).ext x3))
def pd(C:Addr)(ns:List Str)(i:Nat)(fo fe:tB->M D):Hd:=fun r=>cA (fo r) r fun x S1=>match iY C ns x S1 with
 |.ok p S2=>(match p.2[i]? with
  |some (.int a)=>cA (fe r) r (fun y S3=>match y with
   |.int b=>(match iY C ns x S3 with
    |.ok q S4=>some (.nx r,S4.set q.1 (.ins C ns (q.2.set i (.int (a+b)))))
    |_=>none)
   |_=>none) S2
  |_=>none)
 |_=>none
def uM(c:Nf X.K C)(na:Hm X.K C f)(nd:ns.Nodup)(hz:ns.length<1000)(ho:Hu X o fo)(he:Hu X e fe)(hi:ns[i]?=some f:=by rfl) :
  NO X (.AugAssign (.Attribute o f Lv) .Add e pos) (pd C ns i fo fe):=by
 intro pins s σ H J r S Q E I m;refine wpAny_AugAssign_AttributeAny (ur ho I m fun x S1 v s1 vx H1 J1 I1 x1 rx rv m1=>?_);cases e2:iY C ns x S1 with
 |bad=>rw[e2] at m1;exact m1.elim
 |exc c S2=>exact absurd e2 kg
 |ok p S2=>
  rw[e2] at m1;obtain⟨n,ds⟩:=p;obtain⟨rfl,rfl,hc⟩:=kD e2;obtain⟨a,rfl,hn⟩:=rx.Kw;cases rv;dsimp only at m1;cases e3:ds[i]? with
  |none=>rw[e3] at m1;exact m1.elim
  |some d=>
   rw[e3] at m1;cases d with
   |int j=>
    obtain⟨dx,ws,hv,KO,Qe⟩:=I1.st.at_ n _ a hc hn;obtain⟨w,hw,KD⟩:=Qe.get e3;cases KD.Ic;refine qB I1.inv hv c na (oG (KO ▸ nd) (KO ▸ hi) hw) fun u s2 I2 ru=>?_
    refine ur he ⟨I2,I1.loc,I1.st⟩ m1 fun y S3 v3 s3 vy H3 J3 I3 x3 ry Tb m3=>?_
    cases y with
    |int k=>
     dsimp only at m3;cases e4:iY C ns (.ob n) S3 with
     |bad=>rw[e4] at m3;exact m3.elim
     |exc c S2=>exact absurd e4 kg
     |ok q S4=>
      rw[e4] at m3;obtain⟨n',Q2⟩:=q;obtain⟨rfl,Qf,SK⟩:=kD e4
      injection Qf with Qf
      subst Qf;cases ry.Ic;obtain⟨t1,rfl⟩:=ru;obtain⟨t2,rfl⟩:=Tb;have hn3:J3[n]?=some a:=by
       obtain⟨mm,em⟩:=x3.pre;rw[em,getElem?_append_left (List.getElem?_eq_some_iff.mp hn).1];exact hn
      exact iadd_int (vO c na nd hz hi ⟨I3.inv.tok _,I3.loc,I3.st⟩ SK hn3 (s_.int _ _ _ (j+k)) ⟨_,rfl⟩ m3)
    |_=>exact m3.elim
   |_=>exact m1.elim
structure Hx(P:Program)(w:World)(K:PySem.W.Frag)(mg:Str->Option Value)(base:Heap)(CX:Lk)(C:Addr)(m:Str)(k:Nat)(ps:List Str)(F:List D->M D):Prop where
 ex:∃f fd,Meth K C m f/\Binds K fd ps []/\HW P w K mg base CX k f fd ps F
def aX(C:Addr)(ns:List Str)(F:List D->M D)(fo:tB->M D)(ft:tB->M (List D)):tB->M D:=fun r=>(fo r).bind fun x=>(iY C ns x).bind fun _=>(ft r).bind fun xs=>F (x :: xs)
def bB{CX:Lk}{k:Nat}{ps:List Str}{F:List D->M D}{m:Str}{pl:Sem Bool}(h:Hx X.prog X.w X.K X.mg X.base CX C m k ps F)(hr:IL k X.A)(c:Nf X.K C)(hm:m∉ns)(hx:o6 CX X)(ho:Hu X o fo)(ha:M8 X (e :: es) ft)
  (hl:∀r S xs S',ft r S=.ok xs S'->xs.length+1=ps.length)
  (IU:starEach (e :: es) X.env=(false,eval e X.env) :: starEach es X.env:=by rfl) (Ng:(backTo pos (starEach es X.env)).any (·.1)=false:=by rfl)
  (ht:eval (.Call (.Attribute o m apos) (e :: es) [] pos) X.env=(do
   let ov <-eval o X.env
   standAt apos.atName
   let (f,first) <-holding [ov] (getMethod ov m pl)
   callWith pos f first (backTo pos (starEach (e :: es) X.env)) (backToKw pos (keywordEach [] X.env))):=by rfl) :
  Hu X (.Call (.Attribute o m apos) (e :: es) [] pos) (aX C ns F fo ft):=by
 obtain⟨f,fd,hM,hb,hF⟩:=h.ex;intro pins s σ H J r S Q E I mm;refine PySem.W.methodCall_KW (pl:=pl) (ho pins s σ H J r S _ E I ?_) ht;unfold aX M.bind at mm;cases e1:fo r S with
 |bad=>rw[e1] at mm;exact mm
 |exc c S1=>rw[e1] at mm;exact mm
 |ok x S1=>
  rw[e1] at mm;dsimp only at mm;rintro v s1 ⟨vx,H1,I1,r1,J1,JS,Ke,Jx⟩
  replace mm:=Mt.ext JS mm
  cases e2:iY C ns x S1 with
  |bad=>rw[e2] at mm;exact mm.elim
  |exc c S2=>exact absurd e2 kg
  |ok p S2=>
   rw[e2] at mm;obtain⟨n,ds⟩:=p;obtain⟨rfl,rfl,hc⟩:=kD e2;obtain⟨a,rfl,hn⟩:=Jx.Kw;cases r1;obtain⟨dx,ws,hv,KO,Qe⟩:=Ke.at_ n _ a hc hn;refine rj I1 hv c hM (oj (KO ▸ hm)) ?_;refine callWith_K (first:=[.ref a]) (h₀:=X.base) I1.ok.mod.R5 hM.kp ?_ IU Ng;refine ha pos pins s1 σ H1 J1 r _ _ E ⟨I1,I.loc.ext JS,Ke⟩ ?_;dsimp only at mm;cases e3:ft r S2 with
   |bad=>rw[e3] at mm;exact mm
   |exc c S3=>rw[e3] at mm;exact mm
   |ok xs S3=>
    rw[e3] at mm;intro us s2 ⟨vs,H2,I2,r2,J2,LY,KP,MK⟩;exact⟨I2.Ls,uB (us:=.ref a :: us) (vs:=.ref a :: vs) (xs:=.ob n :: xs) hF hr hb hx I2 KP (.cons (Jx.ext LY) MK) (.cons rfl r2) (by rw[length_cons];exact hl r _ xs S3 e3) (Mt.ext LY mm)⟩
def cw{CX:Lk}{k:Nat}{ps:List Str}{F:List D->M D}{m:Str}{pl:Sem Bool}(h:Hx X.prog X.w X.K X.mg X.base CX C m k ps F)(hr:IL k X.A)(c:Nf X.K C)(hm:m∉ns)(hx:o6 CX X)(ho:Hu X o fo)
  (hl:1=ps.length:=by rfl)
  (ht:eval (.Call (.Attribute o m apos) [] [] pos) X.env=(do
   let ov <-eval o X.env
   standAt apos.atName
   let (f,first) <-holding [ov] (getMethod ov m pl)
   callWith pos f first (backTo pos (starEach [] X.env)) (backToKw pos (keywordEach [] X.env))):=by rfl) :
  Hu X (.Call (.Attribute o m apos) [] [] pos) (aX C ns F fo ai):=by
 obtain⟨f,fd,hM,hb,hF⟩:=h.ex;intro pins s σ H J r S Q E I mm;refine PySem.W.methodCall_KW (pl:=pl) (ho pins s σ H J r S _ E I ?_) ht;unfold aX M.bind at mm;cases e1:fo r S with
 |bad=>rw[e1] at mm;exact mm
 |exc c S1=>rw[e1] at mm;exact mm
 |ok x S1=>
  rw[e1] at mm;dsimp only at mm;rintro v s1 ⟨vx,H1,I1,r1,J1,JS,Ke,Jx⟩
  replace mm:=Mt.ext JS mm
  cases e2:iY C ns x S1 with
  |bad=>rw[e2] at mm;exact mm.elim
  |exc c S2=>exact absurd e2 kg
  |ok p S2=>
   rw[e2] at mm;obtain⟨n,ds⟩:=p;obtain⟨rfl,rfl,hc⟩:=kD e2;obtain⟨a,rfl,hn⟩:=Jx.Kw;cases r1;obtain⟨dx,ws,hv,KO,Qe⟩:=Ke.at_ n _ a hc hn;refine rj I1 hv c hM (oj (KO ▸ hm)) ?_;exact PySem.W.callWith_K0 (first:=[.ref a]) I1.Ls hM.kp (uB (us:=[.ref a]) (vs:=[.ref a]) (xs:=[.ob n]) hF hr hb hx I1 Ke (.one Jx) (.cons rfl .nil) hl mm)
structure NV(P:Program)(w:World)(K:PySem.W.Frag)(mg:Str->Option Value)(base:Heap)(CX:Lk)(x:Str)(C:Addr)(k:Nat)(ps:List Str)(F:List D->M D):Prop where
 ex:∃f fd,mg x=some (.ref C)/\Mk K C f/\Binds K fd ps []/\HW P w K mg base CX k f fd ps F
def jf(C:Addr)(F:List D->M D)(xs:List D):M D:=fun S=>match F (.ob S.length :: xs) (S++[.ins C [] []]) with
 |.ok .G0 S'=>.ok (.ob S.length) S'
 |_=>.bad
def zV{CX:Lk}{k:Nat}{fI:Addr}{fd:FuncData}{ps:List Str}{F:List D->M D}{pins:G4}{σ:L2.St}{H:Hp}{J:List Addr}{S:List Cell}{s:Shared}{Q E:Value->Shared->Prop}{xs:List D}{vs:List V}{us:List Value}
  (hM:Mk X.K C fI) (hF:HW X.prog X.w X.K X.mg X.base CX k fI fd ps F) (hr:IL (k+1) X.A) (hb:Binds X.K fd ps []) (hx:o6 CX X) (I:Inv X pins σ H s) (rs:G6 X.K H J S) (rx:l_ X.K H J xs vs) (rv:Vals vs us) (hl:xs.length+1=ps.length)
  (m:Mt X pins σ H J (jf C F xs S) Q E):wpAny (model X.prog X.w) X.A (call (.ref C) us) Q E s:=by
 have Si:H s.heap.objs.size=none:=I.Hc.fresh (Nat.le_refl _);have hf1:H (s.heap.objs.size+1)=none:=I.Hc.fresh (le_succ _);have ne:s.heap.objs.size+1≠s.heap.objs.size:=succ_ne_self _;have I2:=Inv.made (C:=C) I;have To:upd H s.heap.objs.size (.own (s.heap.objs.size+1)) (s.heap.objs.size+1)=none:=by rw[bg ne];exact hf1
 have x1:Ext H J (upd H s.heap.objs.size (.own (s.heap.objs.size+1))) J:=Ext.new Si;have x2:Ext (upd H s.heap.objs.size (.own (s.heap.objs.size+1))) J (upd (upd H s.heap.objs.size (.own (s.heap.objs.size+1))) (s.heap.objs.size+1) (.ins C s.heap.objs.size [])) (J++[s.heap.objs.size+1]):=(Ext.new To).snoc _;have YC:=x1.trans x2;have KP:G6 X.K (upd (upd H s.heap.objs.size (.own (s.heap.objs.size+1))) (s.heap.objs.size+1) (.ins C s.heap.objs.size [])) (J++[s.heap.objs.size+1]) (S++[.ins C [] []]):=
  (rs.new Si).push To ⟨s.heap.objs.size,[],bC,rfl,.nil⟩
 have ro:s_ X.K (upd (upd H s.heap.objs.size (.own (s.heap.objs.size+1))) (s.heap.objs.size+1) (.ins C s.heap.objs.size [])) (J++[s.heap.objs.size+1]) (.ob S.length) (.ref (s.heap.objs.size+1)):=.ob (by rw[<-rs.len];simp);have VO:l_ X.K (upd (upd H s.heap.objs.size (.own (s.heap.objs.size+1))) (s.heap.objs.size+1) (.ins C s.heap.objs.size [])) (J++[s.heap.objs.size+1]) (.ob S.length :: xs) (.ref (s.heap.objs.size+1) :: vs):=.cons ro (rx.ext YC);have MK:Vals (V.ref (s.heap.objs.size+1) :: vs) (Value.ref (s.heap.objs.size+1) :: us):=.cons rfl rv;have hlen:(Value.ref (s.heap.objs.size+1) :: us++[]).length=ps.length:=by
  rw[append_nil,<-MK.length,VO.length];exact hl
 have P9:=hb _ (Value.ref (s.heap.objs.size+1) :: us) I2.Ls hlen;rw[append_nil] at P9;unfold jf at m;cases e:F (.ob S.length :: xs) (S++[.ins C [] []]) with
 |bad=>rw[e] at m;exact m.elim
 |exc c S'=>rw[e] at m;exact m.elim
 |ok d S'=>
  rw[e] at m;cases d with
  |G0=>
   dsimp only at m;refine wpAny_call (AT (f:=fI) I.Ls hM.makes hM.init (beq_iff_eq.mp hM.fn) (codeAny_mono (hF.run _ X.stack _ _ ⟨Value.ref (s.heap.objs.size+1) :: us,[]⟩ (Value.ref (s.heap.objs.size+1) :: us) _
    (fun v H'=>Got X.K (upd (upd H s.heap.objs.size (.own (s.heap.objs.size+1))) (s.heap.objs.size+1) (.ins C s.heap.objs.size [])) (J++[s.heap.objs.size+1]) .G0 S' v H') (fun _ _ _=>False) (hr.make C us []) (I2.SQ.make C us []) P9 MK ?_) fun rr s' hq=>?_))
   ·refine⟨by rw[VO.length];exact hl,J++[s.heap.objs.size+1],_,_,VO,KP,?_⟩;rw[e];exact fun v H' g=>g
   ·cases rr with
    |error er=>
     obtain⟨c,H',XI,z⟩:=hx _ pins σ _ _ er s' I2 hq;exact z.elim
    |ok fl=>
     cases fl with
     |ret u=>
      obtain⟨v,H',I3,Tb,J3,x3,QS,Vn⟩:=I2.after hq;cases Vn.NN;exact⟨Tb,m _ s' ⟨V.ref (s.heap.objs.size+1),H',I3,rfl,J3,YC.trans x3,QS,ro.ext x3⟩⟩
     |next=>exact False.elim hq
     |brk=>exact False.elim hq
     |cont=>exact False.elim hq
  |_=>exact m.elim
def u9{CX:Lk}{k:Nat}{ps:List Str}{F:List D->M D}{x:Str}{p:Pos}(h:NV X.prog X.w X.K X.mg X.base CX x C k ps F)(hr:IL (k+1) X.A)(hg:Gl X x)(hx:o6 CX X)(ha:M8 X (e :: es) ft)
  (hl:∀r S xs S',ft r S=.ok xs S'->xs.length+1=ps.length)
  (OD:(x == ("__debug__":Str))=false:=by decide) (he:starEach (e :: es) X.env=(false,eval e X.env) :: starEach es X.env:=by rfl) (Ng:(backTo pos (starEach es X.env)).any (·.1)=false:=by rfl) :
  Hu X (.Call (.Name x p) (e :: es) [] pos) (ak (jf C F) ft):=by
 obtain⟨f,fd,hm,hM,hb,hF⟩:=h.ex;intro pins s σ H J r S Q E I m;refine wpAny_Call_Name_kw (lV I.inv hg hm ?_ OD);refine callWith_K (h₀:=X.base) I.inv.ok.mod.R5 hM.kp ?_ he Ng;refine ha pos pins s σ H J r S _ E I ?_;unfold ak M.bind at m;cases e1:ft r S with
 |bad=>rw[e1] at m;exact m
 |exc c S1=>rw[e1] at m;exact m
 |ok xs S1=>
  rw[e1] at m;intro us s1 ⟨vs,H1,I1,r1,J1,JS,Ke,Jx⟩;exact⟨I1.Ls,zV hM hF hr hb hx I1 Ke Jx r1 (hl r S xs S1 e1) (Mt.ext JS m)⟩
end
end DL
namespace L2
open PySem PySem.Spec PyProof.Rows
section
variable{κ:Type}[DecidableEq κ]
def j9(kvs:List (κ×V))(k:κ):Option V:=(kvs.find? fun kv=>decide (kv.1=k)).map (·.2)
def kz(kvs:List (κ×V))(k:κ)(v:V):List (κ×V):=
 if (kvs.any fun kv=>decide (kv.1=k))=true then kvs.map (fun kv=>if kv.1=k then (kv.1,v) else kv) else kvs++[(k,v)]
def pw(kvs:List (κ×V))(k:κ):List (κ×V):=kvs.filter fun kv=>decide (kv.1≠k)
def nP{p:κ×V}{r:List (κ×V)}{k:κ}(e:p.1=k):j9 (p :: r) k=some p.2:=by simp[j9,find?_cons,e]
def m5{p:κ×V}{r:List (κ×V)}{k:κ}(e:¬p.1=k):j9 (p :: r) k=j9 r k:=by simp[j9,find?_cons,e]
theorem wj(k:κ):∀kvs:List (κ×V),(kvs.any fun kv=>decide (kv.1=k))=(j9 kvs k).isSome
 |[]=>rfl
 |p :: r=>by
  rw[any_cons];by_cases e:p.1=k
  ·simp only[nP e,decide_eq_true e,Bool.true_or,Option.isSome_some]
  ·rw[m5 e,decide_eq_false e,Bool.false_or];exact wj k r
def lh(kvs:List (κ×V))(k:κ)(v:V):(kz kvs k v).length<=kvs.length+1:=by
 unfold kz;split
 ·rw[length_map];omega
 ·rw[length_append,length_cons,length_nil];omega
def JV.Jc{o:Option V}{u:Option Value}(r:JV o u):o.isSome=u.isSome:=by
 cases o with
 |none=>cases u with
  |none=>rfl
  |some _=>exact(show False from r).elim
 |some _=>cases u with
  |none=>exact(show False from r).elim
  |some _=>rfl
def KV.val{kvs:List (κ×V)}{vs:List (κ×Value)}(r:KV kvs vs)(k:κ):JV (j9 kvs k) (valueAt vs k):=by
 unfold KV at r
 induction r with
 |nil=>exact True.intro
 |@cons p q ps qs h t ih=>
  obtain⟨h1,h2⟩:=h;by_cases e:p.1=k
  ·have e':q.1=k:=h1.symm.trans e;have b:valueAt (q :: qs) k=some q.2:=by simp[valueAt,find?_cons,e']
   rw[nP e,b];exact h2
  ·have e':¬q.1=k:=fun z=>e (h1.trans z)
   have b:valueAt (q :: qs) k=valueAt qs k:=by simp[valueAt,find?_cons,e']
   rw[m5 e,b];exact ih
def KV.any{kvs:List (κ×V)}{vs:List (κ×Value)}(r:KV kvs vs)(k:κ):(kvs.any fun kv=>decide (kv.1=k))=vs.any fun kv=>decide (kv.1=k):=by
 unfold KV at r
 induction r with
 |nil=>rfl
 |cons h t ih=>rw[any_cons,any_cons,ih,h.1]
def KV.RJ{kvs:List (κ×V)}{vs:List (κ×Value)}(r:KV kvs vs)(k:κ){y:V}{u:Value}(ry:RelV y u) :
  KV (kvs.map fun kv=>if kv.1=k then (kv.1,y) else kv) (vs.map fun kv=>if kv.1=k then (kv.1,u) else kv):=by
 unfold KV at r ⊢
 induction r with
 |nil=>exact .nil
 |@cons p q ps qs h t ih=>
  rw[map_cons,map_cons];refine .cons ?_ ih;obtain⟨h1,h2⟩:=h;by_cases e:p.1=k
  ·rw[if_pos e,if_pos (h1.symm.trans e)];exact⟨h1,ry⟩
  ·rw[if_neg e,if_neg (fun z=>e (h1.trans z))];exact⟨h1,h2⟩
def KV.put{kvs:List (κ×V)}{vs:List (κ×Value)}(r:KV kvs vs)(k:κ){y:V}{u:Value}(ry:RelV y u):KV (kz kvs k y) (stored vs k u):=by
 unfold kz stored;rw[r.any k];by_cases e:(vs.any fun kv=>decide (kv.1=k))=true
 ·rw[if_pos e,if_pos e];exact r.RJ k ry
 ·rw[if_neg e,if_neg e];exact Paired.snoc r ⟨rfl,ry⟩
def KV.drop{kvs:List (κ×V)}{vs:List (κ×Value)}(r:KV kvs vs)(k:κ):KV (pw kvs k) (without vs k):=by
 unfold KV at r ⊢;unfold pw without
 induction r with
 |nil=>exact .nil
 |@cons p q ps qs h t ih=>
  obtain⟨h1,h2⟩:=h;rw[filter_cons,filter_cons];by_cases e:p.1=k
  ·have a:¬decide (p.1≠k)=true:=by simp[e]
   have b:¬decide (q.1≠k)=true:=by simp[h1.symm.trans e]
   rw[if_neg a,if_neg b];exact ih
  ·have e':¬q.1=k:=fun z=>e (h1.trans z)
   have a:decide (p.1≠k)=true:=by simp[e]
   have b:decide (q.1≠k)=true:=by simp[e']
   rw[if_pos a,if_pos b];exact .cons ⟨h1,h2⟩ ih
def KV.length{kvs:List (κ×V)}{vs:List (κ×Value)}(r:KV kvs vs):kvs.length=vs.length:=Paired.length r
def vp(kvs:List (κ×V))(k:κ):(pw kvs k).length<=kvs.length:=List.length_filter_le _ _
end
def pj{P:Program}{w:World}{k:Key}{u:Value}(r:RelV (kV k) u):(cO P w).is k u=true:=by
 cases k with
 |inl i=>obtain⟨t,e⟩:=(show ∃t,u=Value.int i t from r);subst e;exact wy P w i t
 |inr x=>obtain⟨t,e⟩:=(show ∃t,u=Value.str x t from r);subst e;exact vB P w x t
theorem ub{P:Program}{w:World}:∀{ks:List Key}{us:List Value},Vals (ks.map kV) us->ItemsAre (cO P w) ks us
 |[],_,r=>by rw[map_nil] at r;cases r;exact .nil
 |k :: ks,_,r=>by
  rw[map_cons] at r;cases r with
  |cons h t=>exact .cons (pj h) (ub t)
abbrev KT(H:Hp):List (List Key×V)->List (List Key×Addr×Value)->Prop:=Paired fun p q=>p.1=q.1/\H q.2.1=some (.tup (p.1.map kV))/\RelV p.2 q.2.2
def KT.val{H:Hp}{kvs:List (List Key×V)}{xs:List (List Key×Addr×Value)}(r:KT H kvs xs)(k:List Key):JV (j9 kvs k) ((atKey xs k).map (·.2)):=by
 induction r with
 |nil=>exact True.intro
 |@cons p q ps qs h t ih=>
  obtain⟨h1,_,h2⟩:=h;by_cases e:p.1=k
  ·have e':q.1=k:=h1.symm.trans e;have b:atKey (q :: qs) k=some q.2:=by simp[atKey,find?_cons,e']
   rw[nP e,b];exact h2
  ·have e':¬q.1=k:=fun z=>e (h1.trans z)
   have b:atKey (q :: qs) k=atKey qs k:=by simp[atKey,find?_cons,e']
   rw[m5 e,b];exact ih
def KT.RJ{H:Hp}{kvs:List (List Key×V)}{xs:List (List Key×Addr×Value)}(r:KT H kvs xs)(k:List Key){y:V}{u:Value}(ry:RelV y u) :
  KT H (kvs.map fun kv=>if kv.1=k then (kv.1,y) else kv) (xs.map (putAt k u)):=by
 induction r with
 |nil=>exact .nil
 |@cons p q ps qs h t ih=>
  rw[map_cons,map_cons];refine .cons ?_ ih;obtain⟨h1,h2,h3⟩:=h;unfold putAt;by_cases e:p.1=k
  ·rw[if_pos e,if_pos (h1.symm.trans e)];exact⟨h1,h2,ry⟩
  ·rw[if_neg e,if_neg (fun z=>e (h1.trans z))];exact⟨h1,h2,h3⟩
def KT.put{H:Hp}{kvs:List (List Key×V)}{xs:List (List Key×Addr×Value)}(r:KT H kvs xs)(k:List Key){b:Addr}{y:V}{u:Value}(hb:H b=some (.tup (k.map kV)))(ry:RelV y u) :
  KT H (kz kvs k y) (storedH xs k b u):=by
 have e:(kvs.any fun kv=>decide (kv.1=k))=(atKey xs k).isSome:=by
  rw[wj,(r.val k).Jc,isSome_map]
 unfold kz storedH;rw[e];by_cases q:(atKey xs k).isSome=true
 ·rw[if_pos q,if_pos q];exact r.RJ k ry
 ·rw[if_neg q,if_neg q];exact Paired.snoc r ⟨rfl,hb,ry⟩
def KT.keeps{H H':Hp}{kvs:List (List Key×V)}{xs:List (List Key×Addr×Value)}(r:KT H kvs xs)(ht:∀b ys,H b=some (.tup ys)->H' b=some (.tup ys)):KT H' kvs xs:=
 Paired.Rf r fun _ _ z=>⟨z.1,ht _ _ z.2.1,z.2.2⟩
section
variable{P:Program}{w:World}{H:Hp}{h:Heap}{a:Addr}
def D4{u:HO}(ok:Jb P w H h)(e:Rd H a u):HG P w H h a u:=e.ok ok
def uc{kvs:List (Key×V)}(ok:Jb P w H h)(e:Rd H a (.dK kvs)):kvs.length<=sizeLine/\(a == sysModules)=false/\∃vs,KV kvs vs/\h.DictOf (cO P w) a vs:=
 show HG P w H h a (.dK kvs) from D4 ok e
def zd{kvs:List (Key×V)}(ok:Jb P w H h)(e:H a=some (.dK kvs)):kvs.length<=sizeLine/\(a == sysModules)=false/\∃vs,KV kvs vs/\h.DictOf (cO P w) a vs:=uc ok (.inl e)
def qE{ks:List Key}(ok:Jb P w H h)(e:H a=some (.tup (ks.map kV))):(tupleKind (cO P w)).is h ks a:=by
 obtain⟨_,its,r,o,h1,h2,n,h3⟩:=(show HG P w H h a (.tup (ks.map kV)) from ok a _ e);exact⟨o,its.toArray,n,h1,h2,h3,by simpa using ub r⟩
def sW{kvs:List (List Key×V)}(ok:Jb P w H h)(e:Rd H a (.dT kvs)):kvs.length<=sizeLine/\(a == sysModules)=false/\
  ∃xs,KT H kvs xs/\h.DictOfH (tupleKind (cO P w)) a xs:=by
 obtain⟨z,y,xs,r,o,es,ep,h1,h2,h3,h4,h5⟩:=(show HG P w H h a (.dT kvs) from D4 ok e);refine⟨z,y,xs,r,o,es,ep,h1,h2,h3,h4,fun x hx=>?_,h5⟩;have all:∀{l:List (List Key×V)}{m:List (List Key×Addr×Value)},KT H l m->∀x∈m,(tupleKind (cO P w)).is h x.1 x.2.1:=by
  intro l m q
  induction q with
  |nil=>intro x hx;exact nomatch hx
  |@cons p q ps qs hq t ih=>
   intro x hx;rcases List.mem_cons.mp hx with e|hx
   ·subst e;exact qE ok (by rw[<-hq.1];exact hq.2.1)
   ·exact ih x hx
 exact all r x hx
def FE{kvs:List (List Key×V)}(ok:Jb P w H h)(e:H a=some (.dT kvs)):kvs.length<=sizeLine/\(a == sysModules)=false/\
  ∃xs,KT H kvs xs/\h.DictOfH (tupleKind (cO P w)) a xs:=sW ok (.inl e)
end
def L6(H:Hp)(a:Addr)(y:V)(r:Option V):Prop:=
 (∃kvs k,Rd H a (.dK kvs)/\y=kV k/\r=j9 kvs k)\/∃kvs k b,Rd H a (.dT kvs)/\y=.ref b/\H b=some (.tup (k.map kV))/\r=j9 kvs k
def Qg(H:Hp)(a:Addr)(y v:V)(H':Hp):Prop:=
 (∃kvs k,H a=some (.dK kvs)/\y=kV k/\kvs.length<sizeLine/\H'=upd H a (.dK (kz kvs k v)))\/
 ∃kvs k b,H a=some (.dT kvs)/\y=.ref b/\H b=some (.tup (k.map kV))/\kvs.length<sizeLine/\H'=upd H a (.dT (kz kvs k v))
def L6.k{H:Hp}{a:Addr}{kvs:List (Key×V)}{k:Key}(e:H a=some (.dK kvs)):L6 H a (kV k) (j9 kvs k):=.inl ⟨kvs,k,.inl e,rfl,rfl⟩
def Qg.k{H:Hp}{a:Addr}{kvs:List (Key×V)}{k:Key}{v:V}(e:H a=some (.dK kvs))(hl:kvs.length<sizeLine):Qg H a (kV k) v (upd H a (.dK (kz kvs k v))):=.inl ⟨kvs,k,e,rfl,hl,rfl⟩
section
variable{X:Cx}{pins:List (Addr×Obj)}{σ:St}{H:Hp}{s:Shared}{a:Addr}{y v:V}{u r:Value}{o:Option V}{A:Around}{E:Value->Shared->Prop}
def Inv.big(I:Inv X pins σ H s):sysModules<s.heap.objs.size:=by
 have h:mainGlobals<s.heap.objs.size:=(I.mod.glob.keeps I.bk).lt;exact Nat.lt_trans (by decide) h
def Ar{Q:Value->Shared->Prop}(hu:A.units+1<cLine)(I:Inv X pins σ H s)(g:L6 H a y (some v))(ry:RelV y u)(h:∀w' s',Inv X pins σ H s'->RelV v w'->Q w' s') :
  wpAny (model X.prog X.w) A (getItem (.ref a) u) Q E s:=by
 rcases g with ⟨kvs,k,e,ey,l⟩|⟨kvs,k,b,e,ey,eb,l⟩
 ·subst ey;obtain⟨z,hd,vs,rel,dd⟩:=uc I.Hc e;obtain⟨w',hw,KD⟩:=JV.some_of (v:=v) (o:=valueAt vs k) (by rw[l];exact rel.val k);exact wpAny_getItem_of (pj ry) dd.mapOf hw (h w' _ (I.tok _) KD)
 ·subst ey;cases(show u=Value.ref b from ry);obtain⟨z,hd,xs,rel,dd⟩:=sW I.Hc e;obtain⟨w',hw,KD⟩:=JV.some_of (v:=v) (o:=(atKey xs k).map (·.2)) (by rw[l];exact rel.val k);obtain⟨p,hp,hp2⟩:=Option.map_eq_some_iff.mp hw;refine wpAny_getItem_heap (tupleKind_room_in1 hu) (qE I.Hc eb) dd hp ?_;rw[hp2];exact h w' _ (I.tok _) KD
def Gp{Q:Value->Shared->Prop}(hu:A.units+1<cLine)(I:Inv X pins σ H s)(g:L6 H a y o)(ry:RelV y u)(h:∀s',Inv X pins σ H s'->Q (.bool o.isSome) s') :
  wpAny (model X.prog X.w) A (compareOp .In u (.ref a)) Q E s:=by
 rcases g with ⟨kvs,k,e,ey,l⟩|⟨kvs,k,b,e,ey,eb,l⟩
 ·subst ey;obtain⟨z,hd,vs,rel,dd⟩:=uc I.Hc e;refine wpAny_in_of (pj ry) hd dd.mapOf ?_;rw[<-(rel.val k).Jc,<-l];exact h _ (I.tok _)
 ·subst ey;cases(show u=Value.ref b from ry);obtain⟨z,hd,xs,rel,dd⟩:=sW I.Hc e;refine wpAny_in_heap (tupleKind_room_in1 hu) (qE I.Hc eb) hd dd ?_;have q:=(rel.val k).Jc;rw[isSome_map] at q;rw[<-q,<-l];exact h _ (I.tok _)
def DB{Q:Value->Shared->Prop}(hu:A.units+1<cLine)(I:Inv X pins σ H s)(g:L6 H a y o)(ry:RelV y u)(h:∀s',Inv X pins σ H s'->Q (.bool (!o.isSome)) s') :
  wpAny (model X.prog X.w) A (compareOp .NotIn u (.ref a)) Q E s:=by
 rcases g with ⟨kvs,k,e,ey,l⟩|⟨kvs,k,b,e,ey,eb,l⟩
 ·subst ey;obtain⟨z,hd,vs,rel,dd⟩:=uc I.Hc e;refine wpAny_notIn_of (pj ry) hd dd.mapOf ?_;rw[<-(rel.val k).Jc,<-l];exact h _ (I.tok _)
 ·subst ey;cases(show u=Value.ref b from ry);obtain⟨z,hd,xs,rel,dd⟩:=sW I.Hc e;refine wpAny_notIn_heap (tupleKind_room_in1 hu) (qE I.Hc eb) hd dd ?_;have q:=(rel.val k).Jc;rw[isSome_map] at q;rw[<-q,<-l];exact h _ (I.tok _)
def nG{h':Heap}{t':Nat}{ob:HO}(I:Inv X pins σ H s)(mu:SF (H a))(hs:SameBut a s.heap h')(he:∃q,h'.get? a=some q)(new:HG X.prog X.w (upd H a ob) h' a ob) :
  Inv X pins σ (upd H a ob) { s with heap:=h',toks:=t' }:=
 I.write (x:=a) (e:=a) mu (.inl rfl) (fun b q hb z=>(hs.2 b hb).trans z) he new
def u7{P:Program}{w:World}{H':Hp}{h':Heap}{kvs:List (Key×V)}{vs:List (Key×Value)}(z:kvs.length<=sizeLine)(hd:(a == sysModules)=false)(rel:KV kvs vs)(dd:h'.DictOf (cO P w) a vs) :
  HG P w H' h' a (.dK kvs):=⟨z,hd,vs,rel,dd⟩
def An{H':Hp}{Q:Unit->Shared->Prop}(hu:A.units+1<cLine)(I:Inv X pins σ H s)(g:Qg H a y v H')(ry:RelV y u)(rv:RelV v r)(h:∀s',Inv X pins σ H' s'->Q () s') :
  wpAny (model X.prog X.w) A (setItem (.ref a) u r) Q E s:=by
 rcases g with ⟨kvs,k,e,ey,l,eH⟩|⟨kvs,k,b,e,ey,eb,l,eH⟩
 ·subst ey eH;obtain⟨z,hd,vs,rel,dd⟩:=zd I.Hc e;have hz:vs.length<=sizeLine:=by rw[<-rel.length];exact z
  have hl:(kz kvs k v).length<=sizeLine:=by have:=lh kvs k v;omega
  refine wpAny_setItem_pairs (hsz:=hz) (pj ry) dd fun h' OH hs=>h _ ?_
  have he:∃q,h'.get? a=some q:=let ⟨q,_,_,hq,_⟩:=OH;⟨q,hq⟩
  exact nG I (by rw[e];exact True.intro) hs he (u7 hl hd (rel.put k rv) OH)
 ·subst ey eH;cases(show u=Value.ref b from ry);obtain⟨z,hd,xs,rel,dd⟩:=FE I.Hc e;have hz:xs.length<=sizeLine:=by rw[<-Paired.length rel];exact z
  have hl:(kz kvs k v).length<=sizeLine:=by have:=lh kvs k v;omega
  refine wpAny_setItem_heap (hsz:=hz) (tupleKind_room_in1 hu) (qE I.Hc eb) dd fun h' OH hs=>h _ ?_
  obtain⟨q,es,ep,hq,h2,h3,h4,_,h5⟩:=OH;refine nG I (by rw[e];exact True.intro) hs ⟨q,hq⟩ ⟨hl,hd,_,(rel.put k eb rv).keeps fun c ys ec=>?_,q,es,ep,hq,h2,h3,h4,h5⟩;rw[bg (FS ec e (fun z=>nomatch z))];exact ec
end
section
variable{X:Cx}{pins:List (Addr×Obj)}{σ:St}{H:Hp}{s:Shared}{a:Addr}{kvs:List (Key×V)}{k:Key}{u:Value}{A:Around}{E:Value->Shared->Prop}
def Fj{Q:Unit->Shared->Prop}(I:Inv X pins σ H s)(e:H a=some (.dK kvs))(ry:RelV (kV k) u)(l:(j9 kvs k).isSome=true)(h:∀s',Inv X pins σ (upd H a (.dK (pw kvs k))) s'->Q () s') :
  wpAny (model X.prog X.w) A (delItem (.ref a) u) Q E s:=by
 obtain⟨z,hd,vs,rel,dd⟩:=zd I.Hc e;refine wpAny_delItem_slot dd.typeIs (by decide) PySem.F.slot_dict_delitem
  (call_meetsIn PySem.F.slot_dict_delitem dd.typeIs PySem.F.entry_dict_delitem (PySem.F.args_dict_delitem_2 _ _) (meets_dict_delitem_pairs (cO X.prog X.w) a (pj ry)) ⟨vs,dd,by rw[<-rel.length];exact z,by rw[<-(rel.val k).Jc];exact l,fun h' OH hs=>h _ ?_⟩)
 have he:∃q,h'.get? a=some q:=let ⟨q,_,_,hq,_⟩:=OH;⟨q,hq⟩
 exact nG I (by rw[e];exact True.intro) hs he (u7 (Nat.le_trans (vp kvs k) z) hd (rel.drop k) OH)
def FT{v:V}{more:List Value}{Q:Value->Shared->Prop}(I:Inv X pins σ H s)(e:H a=some (.dK kvs))(ry:RelV (kV k) u)(l:j9 kvs k=some v)(hm:more=[]\/∃x,more=[x])
  (h:∀w' s',Inv X pins σ (upd H a (.dK (pw kvs k))) s'->RelV v w'->Q w' s'):wpAny (model X.prog X.w) A (call (.builtin "dict.pop") (.ref a :: u :: more)) Q E s:=by
 obtain⟨z,hd,vs,rel,dd⟩:=zd I.Hc e;obtain⟨w',hw,KD⟩:=JV.some_of (v:=v) (o:=valueAt vs k) (by rw[<-l];exact rel.val k);have hp:(keyPart u).isSome=true:=by
  cases k with
  |inl i=>obtain⟨t,q⟩:=(show ∃t,u=Value.int i t from ry);subst q;rfl
  |inr x=>obtain⟨t,q⟩:=(show ∃t,u=Value.str x t from ry);subst q;rfl
 have ha:argsOk "dict.pop" ⟨.ref a :: u :: more,[]⟩:=by
  rcases hm with q|⟨x,q⟩
  ·subst q;exact PySem.F.args_dict_pop_2 _ _
  ·subst q;exact PySem.F.args_dict_pop_3 _ _ _
 refine call_meetsIn PySem.F.slot_dict_pop dd.typeIs PySem.F.entry_dict_pop ha (meets_dict_pop_there (cO X.prog X.w) a (pj ry) more hm hp)
  ⟨vs,w',dd,by rw[<-rel.length];exact z,hw,fun h' OH hs=>h w' _ ?_ KD⟩
 have he:∃q,h'.get? a=some q:=let ⟨q,_,_,hq,_⟩:=OH;⟨q,hq⟩
 exact nG I (by rw[e];exact True.intro) hs he (u7 (Nat.le_trans (vp kvs k) z) hd (rel.drop k) OH)
end
def wd{X:Cx}{pins:List (Addr×Obj)}{σ:St}{H:Hp}{s:Shared}{a:Addr}{y:V}{o:Option V}(I:Inv X pins σ H s)(g:L6 H a y o):s.TypeIs (.ref a) "dict":=by
 rcases g with ⟨kvs,k,e,_,_⟩|⟨kvs,k,b,e,_,_,_⟩
 ·obtain⟨_,_,vs,_,dd⟩:=uc I.Hc e;exact dd.typeIs
 ·obtain⟨_,_,xs,_,dd⟩:=sW I.Hc e;exact dd.typeIs
section
variable{X:Cx}{o i e value:Expr}{pos pos' Lv:Pos}{td ty tv:TE}
end
def vI{P:Program}{w:World}{H:Hp}(h:Heap)(hb:sysModules<h.objs.size):HG P w H (h.push { cls:=.type "dict",data:=.dict #[] }) h.objs.size (.dK []):=
 ⟨zero_le _,beq_eq_false_iff_ne.mpr (Ne.symm (ne_of_lt hb)),[],.nil,Heap.DictOf.new h⟩
def Es:TE:=fun _ H Q=>∀p,H p=none->Q (.ref p) (upd H p (.dK []))
section
variable{X:Cx}{pos:Pos}
def BR:PE X (.Dict [] [] pos) Es:=fun pins s σ H Q I h=>
 wpAny_Dict_empty ⟨.ref s.heap.objs.size,_,I.laid (a:=s.heap.objs.size) (o:=.dK []) (t':=s.toks) (fun _ _ q=>get?_push_of_some _ q) (Nat.le_refl _) (vI s.heap I.big),rfl,h _ (I.Hc.fresh (Nat.le_refl _))⟩
end
abbrev VV:List (V×V)->List (Value×Value)->Prop:=Paired fun p q=>RelV p.1 q.1/\RelV p.2 q.2
def oY(kvs more:List (Key×V)):List (Key×V):=more.foldl (fun acc kv=>kz acc kv.1 kv.2) kvs
def KV.merge:∀{more:List (Key×V)}{rs:List (Key×Value)}{kvs:List (Key×V)}{vs:List (Key×Value)},KV more rs->KV kvs vs->KV (oY kvs more) (merged vs rs):=by
 intro more rs kvs vs r;unfold KV at r
 induction r generalizing kvs vs with
 |nil=>intro q;exact q
 |@cons p q ps qs h t ih=>
  intro r0;have e:KV (kz kvs p.1 p.2) (stored vs q.1 q.2):=by
   have:=r0.put p.1 h.2;rw[<-h.1];exact this
  exact ih e
theorem mj:∀(more kvs:List (Key×V)),(oY kvs more).length<=kvs.length+more.length
 |[],kvs=>by show kvs.length<=kvs.length+0;omega
 |p :: r,kvs=>by
  have h1:=mj r (kz kvs p.1 p.2);have h2:=lh kvs p.1 p.2;show(oY (kz kvs p.1 p.2) r).length<=_;rw[length_cons];omega
theorem rS{P:Program}{w:World}:∀{kvs:List (Key×V)}{ws:List (Value×Value)},VV (kvs.map fun kv=>(kV kv.1,kv.2)) ws->∃rs,Carries (cO P w) ws rs/\KV kvs rs
 |[],_,r=>by rw[map_nil] at r;cases r;exact⟨[],True.intro,.nil⟩
 |p :: kvs,_,r=>by
  rw[map_cons] at r;cases r with
  |@cons a b as bs h t=>
   obtain⟨rs,c,q⟩:=rS (P:=P) (w:=w) t;obtain⟨b1,b2⟩:=b;exact⟨(p.1,b2) :: rs,⟨pj h.1,rfl,c⟩,.cons ⟨rfl,h.2⟩ q⟩
structure M1(X:Cx)(o:Expr)(m:Str)(apos:Pos)(e:Expr)(HQ:Pos):Prop where
 base:attributeBase o m X.env (eval o X.env)=eval o X.env
 few:((backTo HQ (starEach [e] X.env)).all (fun x=>!x.1) && (backToKw HQ (keywordEach [] X.env)).all (fun x=>x.1.isSome)
  && decide (([e]:List Expr).length+([]:List Keyword).length+(if ([]:List Keyword).isEmpty then 0 else 1)<30))=true
 line:(apos.endLine == HQ.line)=true
 trees:backTo HQ (starEach [e] X.env)=[(false,eval e X.env)]
structure M2(X:Cx)(o:Expr)(m:Str)(apos:Pos)(e f:Expr)(HQ:Pos):Prop where
 base:attributeBase o m X.env (eval o X.env)=eval o X.env
 few:((backTo HQ (starEach [e,f] X.env)).all (fun x=>!x.1) && (backToKw HQ (keywordEach [] X.env)).all (fun x=>x.1.isSome)
  && decide (([e,f]:List Expr).length+([]:List Keyword).length+(if ([]:List Keyword).isEmpty then 0 else 1)<30))=true
 line:(apos.endLine == HQ.line)=true
 trees:backTo HQ (starEach [e,f] X.env)=[(false,eval e X.env),(false,eval f X.env)]
def IsD(H:Hp)(a:Addr):Prop:=(∃kvs,Rd H a (.dK kvs))\/∃kvs,Rd H a (.dT kvs)
def EY{X:Cx}{pins:List (Addr×Obj)}{σ:St}{H:Hp}{s:Shared}{a:Addr}(I:Inv X pins σ H s)(d:IsD H a) :
  s.TypeIs (.ref a) "dict"/\(∀b,Value.ref a=.ref b->∃ob,s.heap.get? b=some ob/\ob.dict=none)/\(a == sysModules)=false:=by
 rcases d with ⟨kvs,e⟩|⟨kvs,e⟩
 ·obtain⟨_,hd,vs,_,dd⟩:=uc I.Hc e;refine⟨dd.typeIs,fun b q=>?_,hd⟩;cases q;obtain⟨ob,_,_,h1,h2,_⟩:=dd;exact⟨ob,h1,h2.2.1⟩
 ·obtain⟨_,hd,xs,_,dd⟩:=sW I.Hc e;refine⟨dd.typeIs,fun b q=>?_,hd⟩;cases q;obtain⟨ob,_,_,h1,h2,_⟩:=dd;exact⟨ob,h1,h2.2.1⟩
section
variable{X:Cx}{pins:List (Addr×Obj)}{σ:St}{H:Hp}{s:Shared}{a:Addr}{y d:V}{u r:Value}{o:Option V}{A:Around}{E:Value->Shared->Prop}
end
section
variable{X:Cx}{o e f:Expr}{apos HQ:Pos}{td ty tx:TE}
end
end L2
namespace DL
open PySem PySem.Spec PyProof.Rows L2
def iC(kvs:List (Key×D))(k:Key):Option D:=(kvs.find? fun kv=>decide (kv.1=k)).map (·.2)
def sM(kvs:List (Key×D))(k:Key)(d:D):List (Key×D):=
 if (kvs.any fun kv=>decide (kv.1=k))=true then kvs.map (fun kv=>if kv.1=k then (kv.1,d) else kv) else kvs++[(k,d)]
def vK(kvs:List (Key×D))(k:Key):List (Key×D):=kvs.filter fun kv=>decide (kv.1≠k)
section
variable{K:PySem.W.Frag}{H:Hp}{J:List Addr}
theorem G1.val:∀{kvs:List (Key×D)}{ws:List (Key×V)}(k:Key),G1 K H J kvs ws->(∀d,iC kvs k=some d->∃v,j9 ws k=some v/\s_ K H J d v)/\(iC kvs k=none->j9 ws k=none)
 |[],_,k,h=>by
  have h':_=[]:=h;subst h';exact⟨fun d e=>(by cases e),fun _=>rfl⟩
 |(k0,d0) :: r,ws,k,h=>by
  obtain⟨v,t,rfl,h2,h3⟩:=h;by_cases e:k0=k
  ·have e1:iC ((k0,d0) :: r) k=some d0:=by simp[iC,find?_cons,e]
   have e2:j9 ((k0,v) :: t) k=some v:=nP e;rw[e1,e2];exact⟨fun d q=>⟨v,rfl,by cases q;exact h2⟩,fun q=>(by cases q)⟩
  ·have e1:iC ((k0,d0) :: r) k=iC r k:=by simp[iC,find?_cons,e]
   have e2:j9 ((k0,v) :: t) k=j9 t k:=m5 e;rw[e1,e2];exact G1.val k h3
theorem G1.Tp:∀{kvs:List (Key×D)}{ws:List (Key×V)}(k:Key),G1 K H J kvs ws->(kvs.any fun kv=>decide (kv.1=k))=ws.any fun kv=>decide (kv.1=k)
 |[],_,k,h=>by
  have h':_=[]:=h;subst h';rfl
 |(k0,d0) :: r,ws,k,h=>by
  obtain⟨v,t,rfl,h2,h3⟩:=h;rw[any_cons,any_cons,G1.Tp k h3]
theorem G1.RK{d:D}{v:V}(hd:s_ K H J d v):∀{kvs:List (Key×D)}{ws:List (Key×V)}(k:Key),G1 K H J kvs ws->
  G1 K H J (kvs.map fun kv=>if kv.1=k then (kv.1,d) else kv) (ws.map fun kv=>if kv.1=k then (kv.1,v) else kv)
 |[],_,k,h=>by
  have h':_=[]:=h;subst h';exact h
 |(k0,d0) :: r,ws,k,h=>by
  obtain⟨v0,t,rfl,h2,h3⟩:=h;rw[map_cons,map_cons];by_cases e:k0=k
  ·rw[if_pos e,if_pos e];exact⟨v,_,rfl,hd,G1.RK hd k h3⟩
  ·rw[if_neg e,if_neg e];exact⟨v0,_,rfl,h2,G1.RK hd k h3⟩
theorem G1.snoc{d:D}{v:V}(hd:s_ K H J d v):∀{kvs:List (Key×D)}{ws:List (Key×V)}(k:Key),G1 K H J kvs ws->G1 K H J (kvs++[(k,d)]) (ws++[(k,v)])
 |[],_,k,h=>by
  have h':_=[]:=h;subst h';exact⟨v,[],rfl,hd,rfl⟩
 |(k0,d0) :: r,ws,k,h=>by
  obtain⟨v0,t,rfl,h2,h3⟩:=h;exact⟨v0,_,rfl,h2,G1.snoc hd k h3⟩
def G1.put{d:D}{v:V}(hd:s_ K H J d v){kvs:List (Key×D)}{ws:List (Key×V)}(k:Key)(h:G1 K H J kvs ws):G1 K H J (sM kvs k d) (kz ws k v):=by
 unfold sM kz;rw[h.Tp k];by_cases e:(ws.any fun kv=>decide (kv.1=k))=true
 ·rw[if_pos e,if_pos e];exact h.RK hd k
 ·rw[if_neg e,if_neg e];exact h.snoc hd k
theorem G1.Pb:∀{kvs:List (Key×D)}{ws:List (Key×V)}(k:Key),G1 K H J kvs ws->G1 K H J (vK kvs k) (pw ws k)
 |[],_,k,h=>by
  have h':_=[]:=h;subst h';exact h
 |(k0,d0) :: r,ws,k,h=>by
  obtain⟨v0,t,rfl,h2,h3⟩:=h;unfold vK pw;rw[filter_cons,filter_cons];by_cases e:decide (k0≠k)=true
  ·rw[if_pos e,if_pos e];exact⟨v0,_,rfl,h2,G1.Pb k h3⟩
  ·rw[if_neg e,if_neg e];exact G1.Pb k h3
end
def iA:D->Option Key
 |.int i=>some (.inl i)
 |.str x=>some (.inr x)
 |_=>none
def j6{K:PySem.W.Frag}{H:Hp}{J:List Addr}{x:D}{k:Key}{v:V}(h:iA x=some k)(r:s_ K H J x v):v=kV k:=by
 cases x with
 |int i=>cases h;cases r.Ic;rfl
 |str i=>cases h;cases r.O5;rfl
 |_=>cases h
def dE(S:List Cell)(n:Nat):Option (List (Key×D)):=match S[n]? with
 |some (.IT kvs)=>some kvs
 |_=>none
def w9{S:List Cell}{n:Nat}{kvs:List (Key×D)}(h:dE S n=some kvs):S[n]?=some (.IT kvs):=by
 unfold dE at h;split at h
 ·rename_i e;cases h;exact e
 ·cases h
def fM{S:List Cell}{n:Nat}{kvs:List (Key×D)}(h:S[n]?=some (.IT kvs)):dE S n=some kvs:=by unfold dE;rw[h]
def G6.IT{K:PySem.W.Frag}{H:Hp}{J:List Addr}{S:List Cell}{n:Nat}{kvs:List (Key×D)}{a:Addr}(rs:G6 K H J S)(h:dE S n=some kvs)(hn:J[n]?=some a):∃ws,H a=some (.dK ws)/\G1 K H J kvs ws:=rs.at_ n _ a (w9 h) hn
section
variable{X:Cx}{a b o e:Expr}{es:List Expr}{fa fb fo fi fe:tB->M D}{ft:tB->M (List D)}{pos:Pos}
def rR(x y:D):M D:=fun S=>match iA x,y with
 |some k,.ob n=>(match dE S n with
  |some kvs=>.ok (.bl (iC kvs k).isSome) S
  |none=>.bad)
 |_,_=>.bad
def fT(x y:D):M D:=fun S=>match iA x,y with
 |some k,.ob n=>(match dE S n with
  |some kvs=>.ok (.bl (!(iC kvs k).isSome)) S
  |none=>.bad)
 |_,_=>.bad
def va{K:PySem.W.Frag}{H:Hp}{J:List Addr}{S:List Cell}{n:Nat}{kvs:List (Key×D)}{ad:Addr}(rs:G6 K H J S)(h:dE S n=some kvs)(hn:J[n]?=some ad)(k:Key) :
  (∀d,iC kvs k=some d->∃v,L6 H ad (kV k) (some v)/\s_ K H J d v)/\∃ov,L6 H ad (kV k) ov/\ov.isSome=(iC kvs k).isSome:=by
 obtain⟨ws,hv,rp⟩:=rs.IT h hn;obtain⟨h1,h2⟩:=rp.val k;refine⟨fun d e=>?_,j9 ws k,L6.k hv,?_⟩
 ·obtain⟨v,e1,e2⟩:=h1 d e;exact⟨v,by rw[<-e1];exact L6.k hv,e2⟩
 ·cases e:iC kvs k with
  |none=>rw[h2 e];rfl
  |some d=>obtain⟨v,e1,_⟩:=h1 d e;rw[e1];rfl
def BP(hu:X.A.units+64<cLine):KU X (compareOp .In) rR:=by
 intro pins s σ H J S x y vx vy v u Q E I rs rx ry rv ru m;unfold rR at m;cases ek:iA x with
 |none=>rw[ek] at m;exact m.elim
 |some k=>
  rw[ek] at m;cases y with
  |ob n=>
   dsimp only at m;obtain⟨ad,rfl,hn⟩:=ry.Kw;cases ru;cases ed:dE S n with
   |none=>rw[ed] at m;exact m.elim
   |some kvs=>
    rw[ed] at m;have:=j6 ek rx;subst this;obtain⟨_,ov,g,e⟩:=va rs ed hn k;refine Gp (by omega) I g rv fun s' I'=>?_
    rw[e];exact m.JU I' rs (s_.bl _ _ _ _) rfl
  |_=>exact m.elim
def uh(hu:X.A.units+64<cLine):KU X (compareOp .NotIn) fT:=by
 intro pins s σ H J S x y vx vy v u Q E I rs rx ry rv ru m;unfold fT at m;cases ek:iA x with
 |none=>rw[ek] at m;exact m.elim
 |some k=>
  rw[ek] at m;cases y with
  |ob n=>
   dsimp only at m;obtain⟨ad,rfl,hn⟩:=ry.Kw;cases ru;cases ed:dE S n with
   |none=>rw[ed] at m;exact m.elim
   |some kvs=>
    rw[ed] at m;have:=j6 ek rx;subst this;obtain⟨_,ov,g,e⟩:=va rs ed hn k;refine DB (by omega) I g rv fun s' I'=>?_
    rw[e];exact m.JU I' rs (s_.bl _ _ _ _) rfl
  |_=>exact m.elim
def gK(x y:D):M D:=fun S=>match x,iA y with
 |.ob n,some k=>(match dE S n with
  |some kvs=>(match iC kvs k with
   |some d=>.ok d S
   |none=>.bad)
  |none=>.bad)
 |_,_=>.bad
def sk(hu:X.A.units+64<cLine):Sd X gK:=by
 intro value slice pins s σ H J S x y vx vy v u Q E I rs rx ry rv ru hs m;unfold gK at m;cases ek:iA y with
 |none=>rw[ek] at m;cases x<;>exact m.elim
 |some k=>
  rw[ek] at m;cases x with
  |ob n=>
   dsimp only at m;obtain⟨ad,rfl,hn⟩:=rx.Kw;cases rv;cases ed:dE S n with
   |none=>rw[ed] at m;exact m.elim
   |some kvs=>
    rw[ed] at m;dsimp only at m;have:=j6 ek ry;subst this;cases ev:iC kvs k with
    |none=>rw[ev] at m;exact m.elim
    |some d=>
     rw[ev] at m;obtain⟨h1,_⟩:=va rs ed hn k;obtain⟨w,g,KD⟩:=h1 d ev;exact tail_any (wd I g) PySem.F.slot_dict_getitem.lookup (Ar (by omega) I g ru fun w' s' I' rr=>m.JU I' rs KD rr) hs
  |_=>exact m.elim
def kO:tB->M D:=fun _ S=>.ok (.ob S.length) (S++[.IT []])
def pV:Hu X (.Dict [] [] pos) kO:=by
 intro pins s σ H J r S Q E I m;refine wpAny_mono (BR (X:=X.Hw E) pins s σ H (Got X.K H J (.ob S.length) (S++[.IT []])) (I.inv.Hw E) ?_) (fun u s' q=>m u s' (EP.HN q)) fun _ _ z=>z
 intro p hp;exact⟨J++[p],(Ext.new hp).snoc _,I.st.push hp ⟨[],bC,rfl⟩,.ob (by rw[<-I.st.len];simp)⟩
def VP(X:Cx)(g:D->D->D->List Cell->Option (List Cell)):Prop:=∀(pins:G4) (s:Shared) (σ:L2.St) (H:Hp) (J:List Addr) (S:List Cell) (x y d:D) (vx vy vd:V) (ux uy ud:Value) (S':List Cell) (Q:Unit->Shared->Prop) (E:Value->Shared->Prop),
 Inv X pins σ H s->G6 X.K H J S->s_ X.K H J x vx->s_ X.K H J y vy->s_ X.K H J d vd->RelV vx ux->RelV vy uy->RelV vd ud->g x y d S=some S'->(∀s' H',Inv X pins σ H' s'->Ext H J H' J->G6 X.K H' J S'->Q () s')->wpAny (model X.prog X.w) X.A (setItem ux uy ud) Q E s
def xP(g:D->D->D->List Cell->Option (List Cell))(fo fi fe:tB->M D):Hd:=fun r=>cA (fe r) r fun d=>cA (fo r) r fun x=>cA (fi r) r fun y S=>match g x y d S with
 |some S'=>some (.nx r,S')
 |none=>none
def vn{i:Expr}{pos':Pos}{g:D->D->D->List Cell->Option (List Cell)}(hg:VP X g)(ho:Hu X o fo)(hi:Hu X i fi)(he:Hu X e fe)(hs:swapsWith e (some (.Subscript o i pos')) pos.line X.env=pure false:=by rfl) :
  NO X (.Assign [.Subscript o i pos'] e pos) (xP g fo fi fe):=by
 intro pins s σ H J r S Q E I m;refine wpAny_Assign_Subscript (ur he I m fun d S1 ud s1 vd H1 J1 I1 x1 rd ru m1=>ur ho I1 m1 fun x S2 ux s2 vx H2 J2 I2 x2 rx rvx m2=>ur hi I2 m2 fun y S3 uy s3 vy H3 J3 I3 x3 ry rvy m3=>?_) hs;cases eg:g x y d S3 with
 |none=>rw[eg] at m3;exact m3.elim
 |some S'=>
  rw[eg] at m3;exact hg pins s3 σ H3 J3 S3 x y d vx vy vd ux uy ud S' _ E I3.inv I3.st (rx.ext x3) ry ((rd.ext x2).ext x3) rvx rvy ru eg fun s' H' I' x' O_=>m3 s' σ H' J3 ⟨I',I3.loc.ext x',O_⟩ x'
def qo(x y d:D)(S:List Cell):Option (List Cell):=match x,iA y with
 |.ob n,some k=>(match dE S n with
  |some kvs=>JC (kvs.length<sizeLine) (some (S.set n (.IT (sM kvs k d)))) none
  |none=>none)
 |_,_=>none
def zb(hu:X.A.units+64<cLine):VP X qo:=by
 intro pins s σ H J S x y d vx vy vd ux uy ud S' Q E I rs rx ry rd VQ VR VS eg k;unfold qo at eg;cases ek:iA y with
 |none=>rw[ek] at eg;cases x<;>cases eg
 |some ky=>
  rw[ek] at eg;cases x with
  |ob n=>
   dsimp only at eg;obtain⟨ad,rfl,hn⟩:=rx.Kw;cases VQ;cases ed:dE S n with
   |none=>rw[ed] at eg;cases eg
   |some kvs=>
    rw[ed] at eg;dsimp only at eg;unfold JC at eg;split at eg
    ·rename_i hz;cases eg;have:=j6 ek ry;subst this;obtain⟨ws,hv,rp⟩:=rs.IT ed hn;refine An (by omega) I (Qg.k hv (by rw[rp.length];exact hz)) VR VS fun s' I'=>?_
     have x':Ext H J (upd H ad (.dK (kz ws ky vd))) J:=Ext.write hv rfl;exact k s' _ I' x' (rs.write hn ⟨_,bC,(rp.ext x').put (rd.ext x') ky⟩)
    ·cases eg
  |_=>cases eg
def o3(x y d:D)(S:List Cell):Option (List Cell):=match x,y with
 |.ob n,.int i=>(match cQ S n with
  |some xs=>(match Oc xs.length i with
   |some j=>some (S.set n (.lst (xs.set j d)))
   |none=>none)
  |none=>none)
 |_,_=>none
def zg:VP X o3:=by
 intro pins s σ H J S x y d vx vy vd ux uy ud S' Q E I rs rx ry rd VQ VR VS eg k;unfold o3 at eg;cases x with
 |ob n=>
  cases y with
  |int i=>
   dsimp only at eg;obtain⟨ad,rfl,hn⟩:=rx.Kw;cases ry.Ic;cases ed:cQ S n with
   |none=>rw[ed] at eg;cases eg
   |some xs=>
    rw[ed] at eg;dsimp only at eg;cases ej:Oc xs.length i with
    |none=>rw[ej] at eg;cases eg
    |some j=>
     rw[ej] at eg;cases eg;obtain⟨ws,hv,KD⟩:=rs.lst ed hn;refine wpAny_mono (AK (X:=X.Hw E) pins s σ H (.ref ad) (.int i) vd ux uy ud (fun H'=>H'=upd H ad (.lst (ws.set j vd))) (I.Hw E) VQ VR VS ⟨ad,ws,i,j,rfl,rfl,hv,by rw[KD.length];exact ej,rfl⟩) (fun _ s' q=>?_) fun _ _ z=>z
     obtain⟨H',I',rfl⟩:=q;have x':Ext H J (upd H ad (.lst (ws.set j vd))) J:=Ext.write hv rfl;exact k s' _ I'.HN x' (rs.write hn ⟨_,bC,l_.set (rd.ext x') j (KD.ext x')⟩)
  |_=>cases eg
 |_=>cases eg
def Dp(x:D):M Unit:=fun S=>match x with
 |.ob n=>(match dE S n with
  |some _=>.ok () S
  |none=>.bad)
 |_=>.bad
def zZ(g:D->List D->M D)(fo:tB->M D)(ft:tB->M (List D)):tB->M D:=fun r=>(fo r).bind fun x=>(Dp x).bind fun _=>(ft r).bind fun xs=>g x xs
def Et{name:Str}{apos HQ:Pos}{id:String}{g:D->List D->M D}(slot:Slot "dict" name id)(VM:typeOf (.builtin id)=pure (.type "method_descriptor"))(hm:RI X id g)
  (ho:Hu X o fo) (ha:M8 X (e :: es) ft)
  (Lz:attributeBase o name X.env (eval o X.env)=eval o X.env:=by rfl)
  (NU:((backTo HQ (starEach (e :: es) X.env)).all (fun x=>!x.1) && (backToKw HQ (keywordEach [] X.env)).all (fun x=>x.1.isSome)
   && decide ((e :: es).length+([]:List Keyword).length+(if ([]:List Keyword).isEmpty then 0 else 1)<30))=true:=by rfl)
  (LB:(apos.endLine == HQ.line)=true:=by rfl) (hs:starEach (e :: es) X.env=(false,eval e X.env) :: starEach es X.env:=by rfl) (LC:(backTo HQ (starEach es X.env)).any (·.1)=false:=by rfl) :
  Hu X (.Call (.Attribute o name apos) (e :: es) [] HQ) (zZ g fo ft):=by
 intro pins s σ H J r S Q E I m;refine wpAny_Call_method_late Lz NU LB rfl (ho pins s σ H J r S _ E I ?_);unfold zZ M.bind at m;cases e1:fo r S with
 |bad=>rw[e1] at m;exact m
 |exc c S1=>rw[e1] at m;exact m
 |ok x S1=>
  rw[e1] at m;dsimp only at m;rintro v s1 ⟨vx,H1,I1,r1,J1,JS,Ke,Jx⟩;cases x with
  |ob n=>
   obtain⟨a,rfl,hn⟩:=Jx.Kw;simp only[Dp] at m;cases e2:dE S1 n with
   |none=>rw[e2] at m;exact m.elim
   |some kvs=>
    rw[e2] at m;obtain⟨ws,hv,Hz⟩:=Ke.IT e2 hn;cases r1;obtain⟨h1,h2,_⟩:=EY I1 (.inl ⟨ws,.inl hv⟩);refine⟨"dict",id,PySem.F.plainAttrs_dict,slot,VM,h1,h2,?_⟩;have m:=Mt.ext JS m;have hA:=EL (k:=fun xs=>g (.ob n) xs) (Q':=fun us s2=>wpAny (model X.prog X.w) X.A (call (.builtin id) (.ref a :: us)) Q E s2) ha ⟨I1,I.loc.ext JS,Ke⟩ m (fun xs S2 s2 H2 J2 vs us I2 x2 rv r2 m2=>?_) HQ
    ·rw[hs] at hA ⊢;exact Calls.callWith_builtin (by show(false || (backTo HQ (starEach es X.env)).any (·.1))=false;rw[LC]<;>rfl) (evalArgs_plain hA)
    ·exact hm pins s2 σ H2 J2 S2 (.ob n) xs (.ref a) vs (.ref a) us Q E I2.inv I2.st (Jx.ext x2) rv rfl r2 m2
  |_=>exact m.elim
def wO:D->List D->M D
 |.ob n,[y]=>fun S=>match iA y,dE S n with
  |some k,some kvs=>(match iC kvs k with
   |some d=>.ok d (S.set n (.IT (vK kvs k)))
   |none=>.bad)
  |_,_=>.bad
 |_,_=>M.bad
def Df:RI X "dict.pop" wO:=by
 intro pins s σ H J S x xs vx vs v us Q E I rs rx MN rv Hz m;cases x with
 |ob n=>
  match xs,m,MN with
  |[y],m,MN=>
   obtain⟨ad,rfl,hn⟩:=rx.Kw;obtain⟨w,rfl,KD⟩:=MN.Kk;obtain⟨u,rfl,ru⟩:=Hz.one;cases rv;simp only[wO] at m;cases ek:iA y with
   |none=>rw[ek] at m;exact m.elim
   |some k=>
    rw[ek] at m;cases ed:dE S n with
    |none=>rw[ed] at m;exact m.elim
    |some kvs=>
     rw[ed] at m;dsimp only at m;cases ev:iC kvs k with
     |none=>rw[ev] at m;exact m.elim
     |some d=>
      rw[ev] at m;have:=j6 ek KD;subst this;obtain⟨ws,hv,rp⟩:=rs.IT ed hn;obtain⟨vd,e1,rd⟩:=(rp.val k).1 d ev;refine FT I hv ru e1 (.inl rfl) fun w' s' I' rr=>?_
      have x':Ext H J (upd H ad (.dK (pw ws k))) J:=Ext.write hv rfl;exact m w' s' ⟨vd,_,I',rr,J,x',rs.write hn ⟨_,bC,(rp.ext x').Pb k⟩,rd.ext x'⟩
  |[],m,_=>exact m.elim
  |_ :: _ :: _,m,_=>exact m.elim
 |_=>exact m.elim
end
def pR(l:Addr)(items:Array Value)(n:Nat)(b:Addr)(LD:Array Value)(n2:Nat)(dd:Option Addr)(sl:Array (Option Value))(Yq:¬(!items.isEmpty && Builtin.List.listTooLong (items.size+LD.size))=true)(VT:items.size<=sizeLine)(Lj:items.size+LD.size<=sizeLine+1) :
  Meets (Builtin.«list.extend» ⟨[.ref l,.ref b],[]⟩) (fun _ R s=>s.heap.get? l=some { cls:=.type "list",dict:=none,data:=.seq items n,slots:=#[] }/\s.heap.get? b=some { cls:=.type "tuple",dict:=dd,data:=.seq LD n2,slots:=sl }/\R (.ok (.ret Value.none)) { s with heap:=s.heap.update l (Obj.mapSeq fun x=>x++LD),toks:=s.toks }):=
 .of_wp fun prog w A R s h=>by
  obtain⟨hp,g,d,tk,os⟩:=s;obtain⟨hl,hb,h⟩:=h;have f1:=PySem.AutoSeq1.idx_int;have f2:=PySem.AutoSeq1.sub_tuple_tuple;have f3:=PySem.AutoSeq1.sub_list_list;have f4:=PySem.AutoSeq1.sub_tuple_list;have f5:=PySem.AutoSeq1.sub_list_tuple;have Us:(items++LD).size<=sizeLine+1:=by rw[Array.size_append];exact Lj
  wp_walk using (wpAny_updateSeq hl rfl (hz:=VT) (_hz':=Us)),wpAny_loadPart' hl,wpAny_loadPart' hb
  exact⟨_,rfl,h⟩
section
variable{X:Cx}
def sU:D->List D->M D
 |.ob n,[.tup ys]=>fun S=>match cQ S n with
  |some xs=>JC (xs.length+ys.length<=sizeLine) (.ok .G0 (S.set n (.lst (xs++ys)))) .bad
  |none=>.bad
 |_,_=>M.bad
def oB:RI X "list.extend" sU:=by
 intro pins s σ H J S x xs vx vs v us Q E I rs rx MN rv Hz m;cases x with
 |ob n=>
  match xs,m,MN with
  |[.tup ys],m,MN=>
   obtain⟨ad,rfl,hn⟩:=rx.Kw;obtain⟨w,rfl,KD⟩:=MN.Kk;obtain⟨u,rfl,ru⟩:=Hz.one;cases rv;obtain⟨b,zs,rfl,hq,rz⟩:=KD.Kv;cases ru;simp only[sU,JC] at m;cases ed:cQ S n with
   |none=>rw[ed] at m;exact m.elim
   |some Ut=>
    rw[ed] at m;dsimp only at m;split at m
    ·rename_i hz;obtain⟨ws,hv,rws⟩:=rs.lst ed hn;obtain⟨z,its,n1,r,hl,e⟩:=I.L4 hv;obtain⟨K4,r2,ht,YD⟩:=I.tuple hq;obtain⟨⟨SU,R9,data2,R_⟩,OB,QR,n2,hd2⟩:=id ht;simp only at QR hd2;subst QR hd2;have P2:=r2.length;have l1:=rws.length;have l2:=rz.length;have hsz:its.toArray.size+K4.toArray.size<=sizeLine:=by rw[size_toArray,size_toArray];omega
     have Nh:¬(!its.toArray.isEmpty && Builtin.List.listTooLong (its.toArray.size+K4.toArray.size))=true:=by
      rw[qD hsz,Bool.and_false];exact Bool.false_ne_true
     refine call_meets F.slot_list_extend ⟨_,e,rfl⟩ F.entry_list_extend (F.args_list_extend_2 _ _) (pR ad its.toArray n1 b K4.toArray n2 R9 R_ Nh (by rw[size_toArray];omega) (by omega)) ⟨e,OB,?_⟩;have x':Ext H J (upd H ad (.lst (ws++zs))) J:=Ext.write hv rfl;refine m _ _ ⟨.G0,_,I.O1 (its':=its++K4) hv e (by simp) (r.append r2) (by rw[length_append];omega),rfl,J,x',rs.write hn ⟨_,bC,(rws.ext x').append (rz.ext x')⟩,s_.G0 _ _ _⟩
    ·exact m.elim
  |[],m,_=>exact m.elim
  |[.G0],m,_=>exact m.elim
  |[.bl _],m,_=>exact m.elim
  |[.int _],m,_=>exact m.elim
  |[.str _],m,_=>exact m.elim
  |[.JG _],m,_=>exact m.elim
  |[.ob _],m,_=>exact m.elim
  |[.xn _],m,_=>exact m.elim
  |y :: _ :: _,m,_=>cases y<;>exact m.elim
 |_=>exact m.elim
theorem l_.eraseIdx{K:PySem.W.Frag}{H:Hp}{J:List Addr}:∀{xs:List D}{vs:List V}(i:Nat),l_ K H J xs vs->l_ K H J (xs.eraseIdx i) (vs.eraseIdx i)
 |[],_,i,h=>by unfold l_ at h;subst h;simp;exact .nil
 |x :: xs,vs,0,h=>by
  unfold l_ at h;obtain⟨v,r,h1,h2,h3⟩:=h;subst h1;exact h3
 |x :: xs,vs,i+1,h=>by
  unfold l_ at h;obtain⟨v,r,h1,h2,h3⟩:=h;subst h1;exact .cons h2 (l_.eraseIdx i h3)
def w4:D->List D->M D
 |.ob n,[.int i]=>fun S=>match cQ S n with
  |some xs=>JC (0<=i/\i<xs.length) (match xs[i.toNat]? with
   |some d=>.ok d (S.set n (.lst (xs.eraseIdx i.toNat)))
   |none=>.bad) .bad
  |none=>.bad
 |_,_=>M.bad
def Bg:RI X "list.pop" w4:=by
 intro pins s σ H J S x xs vx vs v us Q E I rs rx MN rv Hz m;cases x with
 |ob n=>
  match xs,m,MN with
  |[.int i],m,MN=>
   obtain⟨ad,rfl,hn⟩:=rx.Kw;obtain⟨w,rfl,KD⟩:=MN.Kk;cases KD.Ic;simp only[w4,JC] at m;cases ed:cQ S n with
   |none=>rw[ed] at m;exact m.elim
   |some Ut=>
    rw[ed] at m;dsimp only at m;split at m
    ·rename_i hz;cases e3:Ut[i.toNat]? with
     |none=>rw[e3] at m;exact m.elim
     |some d=>
      rw[e3] at m;obtain⟨ws,hv,rws⟩:=rs.lst ed hn;obtain⟨w,hw,KD⟩:=rws.get e3;have hl:=rws.length;have VU:=mX;have hz0:=(I.L4 hv).1;refine wpAny_mono (A9 (X:=X.Hw E) pins s σ H (.ref ad) [.int i] v us (Got X.K H J d (S.set n (.lst (Ut.eraseIdx i.toNat)))) (I.Hw E) rv Hz ⟨ad,ws,i,i.toNat,w,rfl,rfl,hv,by omega,by omega,seqIndex_of hz.1 (by rw[hl];exact hz.2),hw,?_⟩) (fun u s' q=>m u s' (EP.HN q)) fun _ _ z=>z
      have x':Ext H J (upd H ad (.lst (ws.eraseIdx i.toNat))) J:=Ext.write hv rfl;exact⟨J,x',rs.write hn ⟨_,bC,l_.eraseIdx _ (rws.ext x')⟩,KD.ext x'⟩
    ·exact m.elim
  |[],m,_=>exact m.elim
  |[.G0],m,_=>exact m.elim
  |[.bl _],m,_=>exact m.elim
  |[.tup _],m,_=>exact m.elim
  |[.str _],m,_=>exact m.elim
  |[.JG _],m,_=>exact m.elim
  |[.ob _],m,_=>exact m.elim
  |[.xn _],m,_=>exact m.elim
  |y :: _ :: _,m,_=>cases y<;>exact m.elim
 |_=>exact m.elim
def vC:D->List D->M D
 |.ob n,[.int i,y]=>fun S=>match cQ S n with
  |some xs=>JC ((0<=i/\i<=xs.length)/\xs.length<sizeLine) (.ok .G0 (S.set n (.lst (xs.take i.toNat++y :: xs.drop i.toNat)))) .bad
  |none=>.bad
 |_,_=>M.bad
def Au:RI X "list.insert" vC:=by
 intro pins s σ H J S x xs vx vs v us Q E I rs rx MN rv Hz m;cases x with
 |ob n=>
  match xs,m,MN with
  |[.int i,y],m,MN=>
   obtain⟨ad,rfl,hn⟩:=rx.Kw;obtain⟨w1,w2,rfl,rw1,rw2⟩:=MN.O7;cases rw1.Ic;obtain⟨u1,u2,rfl,ru1,ru2⟩:=Hz.two;obtain⟨t1,rfl⟩:=ru1;cases rv;simp only[vC,JC] at m;cases ed:cQ S n with
   |none=>rw[ed] at m;exact m.elim
   |some Ut=>
    rw[ed] at m;dsimp only at m;split at m
    ·rename_i hz;obtain⟨ws,hv,rws⟩:=rs.lst ed hn;obtain⟨z,its,n1,r,hl,e⟩:=I.L4 hv;have l1:=rws.length;have VU:=mX;have O2:Builtin.List.listFitsIndex i=true:=fitsIndex_both (by omega) (by omega);refine call_meets PySem.F.slot_list_insert ⟨_,e,rfl⟩ PySem.F.entry_list_insert (PySem.F.args_list_insert_3 _ _ _) (PySem.AutoSeq1.list_insert_list_int_val_1 ad its.toArray n1 i t1 u2 (by simp[O2]) (by rw[size_toArray];omega)) ⟨e,?_⟩;have x':Ext H J (upd H ad (.lst (ws.take i.toNat++w2 :: ws.drop i.toNat))) J:=Ext.write hv rfl;refine m _ _ ⟨.G0,_,I.O1 (its':=its.take i.toNat++u2 :: its.drop i.toNat) hv e ?_ ((r.take _).append (.cons ru2 (r.drop _))) ?_,rfl,J,x',rs.write hn ⟨_,bC,((rws.ext x').take _).append (.cons (rw2.ext x') ((rws.ext x').drop _))⟩,s_.G0 _ _ _⟩
     ·have h0:¬i<0:=by omega
      have hk:min i.toNat its.toArray.size=i.toNat:=by rw[size_toArray];omega
      simp only[if_neg h0,hk];apply Array.toList_inj.mp;simp;exact take_of_length_le (by rw[length_drop];exact Nat.le_refl _)
     ·rw[length_append,length_cons,length_take,length_drop];omega
    ·exact m.elim
  |[],m,_=>exact m.elim
  |[.int _],m,_=>exact m.elim
  |[.G0],m,_=>exact m.elim
  |[.bl _],m,_=>exact m.elim
  |[.tup _],m,_=>exact m.elim
  |[.str _],m,_=>exact m.elim
  |[.JG _],m,_=>exact m.elim
  |[.ob _],m,_=>exact m.elim
  |[.xn _],m,_=>exact m.elim
  |.G0 :: _ :: _,m,_=>exact m.elim
  |.bl _ :: _ :: _,m,_=>exact m.elim
  |.tup _ :: _ :: _,m,_=>exact m.elim
  |.str _ :: _ :: _,m,_=>exact m.elim
  |.JG _ :: _ :: _,m,_=>exact m.elim
  |.ob _ :: _ :: _,m,_=>exact m.elim
  |.xn _ :: _ :: _,m,_=>exact m.elim
  |.int _ :: _ :: _ :: _,m,_=>exact m.elim
 |_=>exact m.elim
def d9{n:Nat}{g:tB->M (List D)}(h:∀(r:tB) (S:List Cell) (xs:List D) (S':List Cell),g r S=.ok xs S'->xs.length=n):∀(r:tB) (S:List Cell) (xs:List D) (S':List Cell),g r S=.ok xs S'->xs.length+1=n+1:=
 fun r S xs S' e=>by rw[h r S xs S' e]
def sX:tB->M (List (D×D)):=fun _=>M.ret []
def jc(fk fv:tB->M D)(f:tB->M (List (D×D))):tB->M (List (D×D)):=fun r=>(fk r).bind fun k=>(fv r).bind fun v=>(f r).bind fun ps=>M.ret ((k,v) :: ps)
def Sn(X:Cx)(pins:G4)(σ:L2.St)(H:Hp)(J:List Addr)(r:R (List (D×D)))(Q:List (Value×Value)->Shared->Prop)(E:Value->Shared->Prop):Prop:=match r with
 |.ok ps S'=>∀us s',(∃vs H' J',Inv X pins σ H' s'/\VV vs us/\Ext H J H' J'/\G6 X.K H' J' S'/\l_ X.K H' J' (ps.map (·.1)) (vs.map (·.1))/\l_ X.K H' J' (ps.map (·.2)) (vs.map (·.2)))->Q us s'
 |.exc c S'=>∀e s',XP X pins σ c (Kj X.K H J S') e s'->E e s'
 |.bad=>False
def Sn.ext{pins:G4}{σ:L2.St}{H H1:Hp}{J J1:List Addr}{r:R (List (D×D))}{Q:List (Value×Value)->Shared->Prop}{E:Value->Shared->Prop}(e:Ext H J H1 J1)(h:Sn X pins σ H J r Q E):Sn X pins σ H1 J1 r Q E:=by
 cases r with
 |ok d S=>exact fun u s' ⟨v,H',J',I,rv,x,g⟩=>h u s' ⟨v,H',J',I,rv,e.trans x,g⟩
 |exc c S=>exact fun u s' x=>h u s' (x.ext e)
 |bad=>exact h
def Uu(X:Cx)(pos:Pos)(keys:List (Option Expr))(values:List Expr)(f:tB->M (List (D×D))):Prop:=∀(pins:G4) (s:Shared) (σ:L2.St) (H:Hp) (J:List Addr) (r:tB) (S:List Cell) (Q:List (Value×Value)->Shared->Prop) (E:Value->Shared->Prop),
 At X pins σ H J r S s->Sn X pins σ H J (f r S) Q E->wpAny (model X.prog X.w) X.A (evalPairs (pairTrees keys values X.env pos)) Q E s
def CW{pos:Pos}:Uu X pos [] [] sX:=fun pins s σ H J r S Q E I m=>pairTrees_nil_walk (m [] s ⟨[],H,J,I.inv,.nil,Ext.refl _ _,I.st,.nil,.nil⟩)
def vP{pos:Pos}{k v:Expr}{ks:List (Option Expr)}{vs:List Expr}{fk fv:tB->M D}{f:tB->M (List (D×D))}(hk:Hu X k fk)(hv:Hu X v fv)(hr:Uu X pos ks vs f):Uu X pos (some k :: ks) (v :: vs) (jc fk fv f):=by
 intro pins s σ H J r S Q E I m;refine pairTrees_cons_walk (hk pins s σ H J r S _ E I ?_);unfold jc M.bind at m;cases e1:fk r S with
 |bad=>rw[e1] at m;exact m
 |exc c S1=>rw[e1] at m;exact m
 |ok x S1=>
  rw[e1] at m;intro u1 s1 ⟨v1,H1,I1,r1,J1,x1,Ke,Jx⟩;have m:=Sn.ext x1 m;dsimp only at m;refine hv pins s1 σ H1 J1 r S1 _ E ⟨I1,I.loc.ext x1,Ke⟩ ?_;cases e2:fv r S1 with
  |bad=>rw[e2] at m;exact m
  |exc c S2=>rw[e2] at m;exact m
  |ok y S2=>
   rw[e2] at m;intro u2 s2 ⟨v2,H2,I2,r2,J2,x2,KP,MK⟩;have m:=Sn.ext x2 m;dsimp only at m;refine hr pins s2 σ H2 J2 r S2 _ E ⟨I2,(I.loc.ext x1).ext x2,KP⟩ ?_;cases e3:f r S2 with
   |bad=>rw[e3] at m;exact m
   |exc c S3=>rw[e3] at m;exact m
   |ok ps S3=>
    rw[e3] at m;intro us s3 ⟨vs3,H3,J3,I3,rel,x3,QS,ra,rb⟩;exact m _ s3 ⟨(v1,v2) :: vs3,H3,J3,I3,.cons ⟨r1,r2⟩ rel,x3,QS,.cons ((Jx.ext x2).ext x3) ra,.cons (MK.ext x3) rb⟩
def pb:List (D×D)->Option (List (Key×D))
 |[]=>some []
 |(k,d) :: r=>match iA k,pb r with
  |some k',some t=>some ((k',d) :: t)
  |_,_=>none
def vc(kvs more:List (Key×D)):List (Key×D):=more.foldl (fun acc kv=>sM acc kv.1 kv.2) kvs
def qj(f:tB->M (List (D×D))):tB->M D:=fun r S=>match f r (S++[.IT []]) with
 |.ok ps S1=>(match dE S1 S.length,pb ps with
  |some [],some kvs=>JC (kvs.length<=15) (.ok (.ob S.length) (S1.set S.length (.IT (vc [] kvs)))) .bad
  |_,_=>.bad)
 |.exc c S1=>.exc c S1
 |.bad=>.bad
theorem tF{K:PySem.W.Frag}{H:Hp}{J:List Addr}:∀{ps:List (D×D)}{vs:List (V×V)}{kvs:List (Key×D)},pb ps=some kvs->l_ K H J (ps.map (·.1)) (vs.map (·.1))->l_ K H J (ps.map (·.2)) (vs.map (·.2))->
  ∃ws:List (Key×V),vs=ws.map (fun kv=>(kV kv.1,kv.2))/\G1 K H J kvs ws/\ws.length=kvs.length
 |[],vs,kvs,e,ra,rb=>by
  cases e;have:=ra.length;cases vs with
  |nil=>exact⟨[],rfl,rfl,rfl⟩
  |cons v vs=>simp at this
 |(k,d) :: r,vs,kvs,e,ra,rb=>by
  cases vs with
  |nil=>have:=ra.length;simp at this
  |cons v vs=>
   unfold pb at e;cases e1:iA k with
   |none=>rw[e1] at e;cases e
   |some k'=>
    rw[e1] at e;cases e2:pb r with
    |none=>rw[e2] at e;cases e
    |some t=>
     rw[e2] at e;cases e;rw[map_cons,map_cons] at ra rb;unfold l_ at ra rb;obtain⟨a1,a2,a3,a4,a5⟩:=ra;obtain⟨b1,b2,b3,b4,b5⟩:=rb
     injection a3 with a6 a7
     injection b3 with b6 b7
     subst a6 a7 b6 b7;obtain⟨ws,h1,h2,h3⟩:=tF e2 a5 b5;refine⟨(k',v.2) :: ws,?_,⟨v.2,ws,rfl,b4,h2⟩,by simp[h3]⟩;rw[map_cons,<-h1,<-j6 e1 a4]
theorem G1.merge{K:PySem.W.Frag}{H:Hp}{J:List Addr}:∀{more:List (Key×D)}{ms:List (Key×V)}{kvs:List (Key×D)}{ws:List (Key×V)},G1 K H J more ms->G1 K H J kvs ws->G1 K H J (vc kvs more) (oY ws ms)
 |[],_,kvs,ws,h,g=>by
  have h':_=[]:=h;subst h';exact g
 |(k,d) :: r,ms,kvs,ws,h,g=>by
  obtain⟨v,t,rfl,h2,h3⟩:=h;exact G1.merge (kvs:=sM kvs k d) (ws:=kz ws k v) h3 (g.put h2 k)
def Db{pos:Pos}{keys:List (Option Expr)}{values:List Expr}{f:tB->M (List (D×D))}(h:Uu X pos keys values f)(Rn:keys.all (·.isSome)=true:=by rfl)(hl:keys.length=values.length:=by rfl)(h0:keys≠[]:=by simp)
  (h15:keys.length<=15:=by decide):Hu X (.Dict keys values pos) (qj f):=by
 intro pins s σ H J r S Q E I m;have hn:=I.inv.Hc.fresh (Nat.le_refl s.heap.objs.size);have I1:=I.inv.laid (a:=s.heap.objs.size) (o:=.dK []) (h':=s.heap.push { cls:=.type "dict",data:=.dict #[] }) (t':=s.toks) (fun _ _ q=>get?_push_of_some _ q) (Nat.le_refl _) (vI s.heap I.inv.big);have x1:Ext H J (upd H s.heap.objs.size (.dK [])) (J++[s.heap.objs.size]):=(Ext.new hn).snoc _;have Ke:G6 X.K (upd H s.heap.objs.size (.dK [])) (J++[s.heap.objs.size]) (S++[.IT []]):=I.st.push hn ⟨[],bC,rfl⟩;have hJ:(J++[s.heap.objs.size])[S.length]?=some s.heap.objs.size:=by rw[<-I.st.len];simp
 refine wpAny_Dict_walk (knd:=cO X.prog X.w) Rn hl h0 h15 (h pins _ σ _ _ r (S++[.IT []]) _ E ⟨I1,I.loc.ext x1,Ke⟩ ?_);unfold qj at m;cases e1:f r (S++[.IT []]) with
 |bad=>rw[e1] at m;exact m
 |exc c S1=>rw[e1] at m;exact fun u s' x=>m u s' (x.ext x1)
 |ok ps S1=>
  rw[e1] at m;have m:=Mt.ext x1 m;intro us s2 ⟨vs,H2,J2,I2,rel,x2,KP,ra,rb⟩;have m:=Mt.ext x2 m;dsimp only at m;have VW:J2[S.length]?=some s.heap.objs.size:=by
   obtain⟨mm,em⟩:=x2.pre;rw[em,getElem?_append_left (List.getElem?_eq_some_iff.mp hJ).1];exact hJ
  cases e2:dE S1 S.length with
  |none=>rw[e2] at m;exact m.elim
  |some VX=>
   rw[e2] at m;cases VX with
   |cons p q=>exact m.elim
   |nil=>
    cases e3:pb ps with
    |none=>rw[e3] at m;exact m.elim
    |some kvs=>
     rw[e3] at m;dsimp only at m;unfold JC at m;split at m
     ·rename_i hz;obtain⟨ws,rfl,rp,Ul⟩:=tF e3 ra rb;obtain⟨w0,hv,rp0⟩:=KP.IT e2 VW;have VY:w0=[]:=rp0;subst VY;obtain⟨rs,c,rk⟩:=rS (P:=X.prog) (w:=X.w) rel;obtain⟨z,hd,vs0,r0,dd⟩:=zd I2.Hc hv;cases r0;refine⟨rs,c,dd,fun h' OH hs=>?_⟩;have Us:(oY [] ws).length<=sizeLine:=by
       have h1:=mj ws [];rw[length_nil] at h1;rw[sizeLine_eq];omega
      have he:∃q,h'.get? s.heap.objs.size=some q:=let ⟨q,_,_,hq,_⟩:=OH;⟨q,hq⟩
      have x':Ext H2 J2 (upd H2 s.heap.objs.size (.dK (oY [] ws))) J2:=Ext.write hv rfl;exact m _ _ ⟨.ref s.heap.objs.size,_,nG I2 (by rw[hv];exact True.intro) hs he (u7 Us hd (rk.merge .nil) OH),rfl,J2,x',KP.write VW ⟨_,bC,(rp.ext x').merge rfl⟩,.ob VW⟩
     ·exact m.elim
end
def Pd{n:Nat}(h:n<=1000000):n<sizeLine:=Nat.lt_of_le_of_lt h (by rw[sizeLine_eq];decide)
section
variable{α β:Type}{S:List Cell}{r:tB}
@[simp] theorem au(m:M α)(k:α->M β):(m.bind k) S=match m S with
 |.ok a S'=>k a S'
 |.exc c S'=>.exc c S'
 |.bad=>.bad:=rfl
@[simp] theorem kP(a:α):(M.ret a) S=.ok a S:=rfl
@[simp] theorem jI(i:Nat):ox i r S=match r[i]? with
 |some (some d)=>.ok d S
 |_=>.bad:=rfl
@[simp] theorem uU(d:D):dC d r S=.ok d S:=rfl
@[simp] theorem FU(g:D->D->M D)(fa fb:tB->M D):g_ g fa fb r=(fa r).bind fun x=>(fb r).bind fun y=>g x y:=rfl
@[simp] theorem GR(g:D->M D)(fa:tB->M D):Sm g fa r=(fa r).bind g:=rfl
@[simp] theorem Ge(g:List D->M D)(ft:tB->M (List D)):ak g ft r=(ft r).bind g:=rfl
@[simp] theorem GC:ai r=M.ret []:=rfl
@[simp] theorem FY(f:tB->M D)(g:tB->M (List D)):aa f g r=(f r).bind fun x=>(g r).bind fun xs=>M.ret (x :: xs):=rfl
@[simp] theorem FZ(f:tB->M D):am f r=(f r).bind Rq:=rfl
@[simp] theorem FL(b:Bool):Rq (.bl b) S=.ok b S:=rfl
@[simp] theorem cX(f:tB->M D):bW f r=(f r).bind uW:=rfl
@[simp] theorem Fg(b:Bool):uW (.bl b) S=.ok b S:=rfl
@[simp] theorem cR(t u:tB->M Bool):dg t u r=(t r).bind fun c=>if c=true then u r else M.ret false:=rfl
@[simp] theorem fz(t u:tB->M Bool):JH t u r=(t r).bind fun c=>if c=true then M.ret true else u r:=rfl
@[simp] theorem cY(t:tB->M Bool):dl t r=(t r).bind fun c=>M.ret (!c):=rfl
@[simp] theorem iy(fa fb:tB->M D):kM fa fb r=(am fa r).bind fun c=>if c=true then fb r else M.ret (.bl false):=rfl
@[simp] theorem Eu(fa fb:tB->M D):Ey fa fb r=(am fa r).bind fun c=>if c=true then M.ret (.bl true) else fb r:=rfl
@[simp] theorem Gc(fa:tB->M D):BZ fa r=(am fa r).bind fun c=>M.ret (.bl (!c)):=rfl
@[simp] theorem Fm(t:tB->M Bool)(fa fb:tB->M D):Ta t fa fb r=(t r).bind fun c=>if c=true then fa r else fb r:=rfl
@[simp] theorem Ca(g g':D->D->M D)(fa fb fc:tB->M D):oW g g' fa fb fc r=(fa r).bind fun x=>(fb r).bind fun y=>((g x y).bind Rq).bind fun k=>if k=true then (fc r).bind fun z=>g' y z else M.ret (.bl false):=rfl
@[simp] theorem GG(ft:tB->M (List D)):bY ft r=(ft r).bind oJ:=rfl
@[simp] theorem GK(ft:tB->M (List D)):cg ft r=(ft r).bind oS:=rfl
@[simp] theorem li(g:D->Option Int->Option Int->M D)(fe:tB->M D)(fl fh:tB->M (Option Int)):JT g fe fl fh r=(fe r).bind fun x=>(fl r).bind fun l=>(fh r).bind fun h=>g x l h:=rfl
@[simp] theorem el:bV r=M.ret none:=rfl
@[simp] theorem eU(f:tB->M D):bL f r=(f r).bind Bo:=rfl
@[simp] theorem fX(i:Int):Bo (.int i)=M.ret (some i):=rfl
@[simp] theorem GO(T:String)(f:tB->M D):M_ T f r=(f r).bind (PR T):=rfl
@[simp] theorem jW(f:tB->M D):Js f r=(f r).bind i8:=rfl
@[simp] theorem GA:gQ r=M.ret true:=rfl
@[simp] theorem Gq(C:Addr)(ns:List Str)(i:Nat)(fo:tB->M D):aA C ns i fo r=(fo r).bind fun x=>(iY C ns x).bind fun p=>Do p.2[i]?:=rfl
@[simp] theorem Gv(d:D):Do (some d) S=.ok d S:=rfl
@[simp] theorem Ga(C:Addr)(ns:List Str)(F:List D->M D)(fo:tB->M D)(ft:tB->M (List D)):aX C ns F fo ft r=(fo r).bind fun x=>(iY C ns x).bind fun _=>(ft r).bind fun xs=>F (x :: xs):=rfl
@[simp] theorem GN(g:D->List D->M D)(fo:tB->M D)(ft:tB->M (List D)):KG g fo ft r=(fo r).bind fun x=>(CH x).bind fun _=>(ft r).bind fun xs=>g x xs:=rfl
@[simp] theorem GH(g:D->List D->M D)(fo:tB->M D)(ft:tB->M (List D)):zZ g fo ft r=(fo r).bind fun x=>(Dp x).bind fun _=>(ft r).bind fun xs=>g x xs:=rfl
@[simp] theorem Gh:kO r S=.ok (.ob S.length) (S++[.IT []]):=rfl
@[simp] theorem GV(i:Nat)(d:D):gN i d r=some (r.set i (some d)):=rfl
def ca{n:Nat}{xs:List D}(h:S[n]?=some (.lst xs)):cQ S n=some xs:=by unfold cQ;rw[h]
@[simp] theorem GB{n:Nat}:CH (.ob n) S=match cQ S n with
 |some _=>.ok () S
 |none=>.bad:=rfl
@[simp] theorem Gu{n:Nat}:Dp (.ob n) S=match dE S n with
 |some _=>.ok () S
 |none=>.bad:=rfl
@[simp] theorem bS(i j:Int):bK (.int i) (.int j) S=.ok (.int (i+j)) S:=rfl
@[simp] theorem tJ(i j:Int):sL (.int i) (.int j) S=.ok (.int (i-j)) S:=cf trivial
def iD{i j:Int}(h:OA i j):ix (.int i) (.int j) S=.ok (.int (i * j)) S:=cf h
@[simp] theorem Gz(j:Int):ix (.int 2) (.int j) S=.ok (.int (2 * j)) S:=iD (.inl ⟨by decide,by decide⟩)
def cS{i j:Int}(h:0<j):jT (.int i) (.int j) S=.ok (.int (i % j)) S:=cf h
def qg{i j:Int}(h:Eg i j):wF (.int i) (.int j) S=.ok (.int (i / j)) S:=cf h
@[simp] theorem qv(i j:Int):JO (.int i) (.int j) S=.ok (.bl (decide (i<j))) S:=rfl
@[simp] theorem zR(i j:Int):Om (.int i) (.int j) S=.ok (.bl (decide (i<=j))) S:=rfl
@[simp] theorem Ew(i j:Int):Q0 (.int i) (.int j) S=.ok (.bl (decide (j<i))) S:=rfl
@[simp] theorem wH(i j:Int):Lm (.int i) (.int j) S=.ok (.bl (decide (j<=i))) S:=rfl
@[simp] theorem gO(i j:Int):G_ (.int i) (.int j) S=.ok (.bl (decide (i=j))) S:=DF S i j
@[simp] theorem gL(i j:Int):Jp (.int i) (.int j) S=.ok (.bl (!decide (i=j))) S:=DP S i j
@[simp] theorem D2(i j:Int):zF [.int i,.int j] S=.ok (.int (min i j)) S:=by
 show R.ok (D.int (if j<i then j else i)) S=_;congr 2;omega
@[simp] theorem D6(i j:Int):Ae [.int i,.int j] S=.ok (.int (max i j)) S:=by
 show R.ok (D.int (if j > i then j else i)) S=_;congr 2;omega
def aR{xs:List D}{i:Nat}{d:D}(h:xs[i]?=some d):y_ (.tup xs) (.int (i:Int)) S=.ok d S:=by
 simp only[y_,gW,uX h]
def jp{xs:List D}{n i:Nat}{d:D}(hn:S[n]?=some (.lst xs))(h:xs[i]?=some d):y_ (.ob n) (.int (i:Int)) S=.ok d S:=by
 simp only[y_,gW,ca hn,uX h]
def fZ{xs:List D}{n:Nat}(hn:S[n]?=some (.lst xs)):bq [.ob n] S=.ok (.int xs.length) S:=by
 simp only[bq,gW,ca hn]
@[simp] theorem cn(xs:List D):bq [.tup xs] S=.ok (.int xs.length) S:=rfl
@[simp] theorem DZ(xs:List D):fm [.tup xs] S=.ok (.tup xs) S:=rfl
def d7{xs:List D}{n:Nat}(hn:S[n]?=some (.lst xs)):fm [.ob n] S=.ok (.tup xs) S:=by
 simp only[fm,gW,ca hn]
def vF{xs:List D}(h:xs.length<=1000000):oJ xs S=.ok (.tup xs) S:=cf (Nat.le_of_lt (Pd h))
def wu{xs:List D}(h:xs.length<=1000000):oS xs S=.ok (.ob S.length) (S++[.lst xs]):=cf (Nat.le_of_lt (Pd h))
def tu{xs:List D}{n:Nat}{d:D}(hn:S[n]?=some (.lst xs))(h:xs.length<1000000):j2 (.ob n) [d] S=.ok .G0 (S.set n (.lst (xs++[d]))):=by
 simp only[j2,ca hn];exact cf (Pd (by omega))
def Ea{xs ys:List D}{n:Nat}(hn:S[n]?=some (.lst xs))(h:xs.length+ys.length<=1000000):sU (.ob n) [.tup ys] S=.ok .G0 (S.set n (.lst (xs++ys))):=by
 simp only[sU,ca hn];exact cf (Nat.le_of_lt (Pd h))
@[simp] theorem Gf:bD r S=some (.nx r,S):=rfl
@[simp] theorem uz(m:M α)(k:α->List Cell->NG):cA m r k S=match m S with
 |.ok a S'=>k a S'
 |.exc c S'=>some (.xc c r,S')
 |.bad=>none:=rfl
@[simp] theorem rf(t u:Hd):aI t u r S=match t r S with
 |some (.nx r',S')=>u r' S'
 |o=>o:=rfl
@[simp] theorem Gx(f:tB->M D):bJ f r=cA (f r) r fun d S=>some (.rt d,S):=rfl
@[simp] theorem Gg(f:tB->M D):bu f r=cA (f r) r fun _ S=>some (.nx r,S):=rfl
@[simp] theorem GP(c:tB->M Bool)(t u:Hd):HX c t u r=cA (c r) r fun b S=>if b=true then t r S else u r S:=rfl
@[simp] theorem GI(f:tB->M D)(g:MC):cz f g r=cA (f r) r fun d S=>match g d r with
 |some r'=>some (.nx r',S)
 |none=>none:=rfl
@[simp] theorem Gw(C:Addr)(ns:List Str)(i:Nat)(fo fe:tB->M D):kt C ns i fo fe r=cA (fe r) r fun d=>cA (fo r) r fun x S1=>match iY C ns x S1 with
 |.ok p S2=>some (.nx r,S2.set p.1 (.ins C ns (p.2.set i d)))
 |_=>none:=rfl
@[simp] theorem Gb(C:Addr)(ns:List Str)(f:Str)(fo fe:tB->M D):cN C ns f fo fe r=cA (fe r) r fun d=>cA (fo r) r fun x S1=>match iY C ns x S1 with
 |.ok p S2=>some (.nx r,S2.set p.1 (.ins C (ns++[f]) (p.2++[d])))
 |_=>none:=rfl
@[simp] theorem GL(g:D->D->D->List Cell->Option (List Cell))(fo fi fe:tB->M D):xP g fo fi fe r=cA (fe r) r fun d=>cA (fo r) r fun x=>cA (fi r) r fun y S=>match g x y d S with
 |some S'=>some (.nx r,S')
 |none=>none:=rfl
@[simp] theorem Fx(S0:List Cell)(d:D):fin S0 (some (.rt d,S))=.ok d S:=rfl
@[simp] theorem Fu(S0:List Cell):fin S0 (some (.nx r,S))=.ok .G0 S:=rfl
@[simp] theorem FD(S0:List Cell)(c:Addr):fin S0 (some (.xc c r,S))=.exc c S:=rfl
def lQ{S0 G:List Cell}{d:D}(h:IM S0.length d):cI S0 (some (.rt d,S0++G))=.ok d S0:=if_pos ⟨⟨G,rfl⟩,h⟩
def bx{S0:List Cell}{d:D}(h:IM S0.length d):cI S0 (some (.rt d,S0))=.ok d S0:=if_pos ⟨⟨[],by simp⟩,h⟩
end
def Fr(fp:List Nat)(S S':List Cell):Prop:=S.length<=S'.length/\∀i,i<S.length->i∉fp->S'[i]?=S[i]?
def Fr.refl(fp:List Nat)(S:List Cell):Fr fp S S:=⟨Nat.le_refl _,fun _ _ _=>rfl⟩
def Fr.trans{fp fq:List Nat}{S S1 S2:List Cell}(a:Fr fp S S1)(b:Fr fq S1 S2)(h:∀i∈fq,i<S.length->i∈fp):Fr fp S S2:=
 ⟨Nat.le_trans a.1 b.1,fun i hi hn=>(b.2 i (Nat.lt_of_lt_of_le hi a.1) fun hq=>hn (h i hq hi)).trans (a.2 i hi hn)⟩
def Fr.tr{fp:List Nat}{S S1 S2:List Cell}(a:Fr fp S S1)(b:Fr fp S1 S2):Fr fp S S2:=a.trans b fun _ h _=>h
def Fr.set{fp:List Nat}{S:List Cell}{n:Nat}{c:Cell}(h:n∈fp):Fr fp S (S.set n c):=
 ⟨by rw[length_set];exact Nat.le_refl _,fun i _ hn=>getElem?_set_ne fun e:n=i=>hn (e ▸ h)⟩
def Fr.push{fp:List Nat}{S:List Cell}{c:List Cell}:Fr fp S (S++c):=
 ⟨by rw[length_append];omega,fun i hi _=>getElem?_append_left hi⟩
def Fr.get{fp:List Nat}{S S':List Cell}{i:Nat}{c:Cell}(a:Fr fp S S')(h:S[i]?=some c)(hn:i∉fp):S'[i]?=some c:=
 (a.2 i (List.getElem?_eq_some_iff.mp h).1 hn).trans h
def Fr.mono{fp fq:List Nat}{S S':List Cell}(a:Fr fp S S')(h:∀i∈fp,i<S.length->i∈fq):Fr fq S S':=⟨a.1,fun i hi hn=>a.2 i hi fun z=>hn (h i z hi)⟩
def br{S:List Cell}{i:Nat}{c:Cell}(h:S[i]?=some c):i<S.length:=(List.getElem?_eq_some_iff.mp h).1
def dA{S:List Cell}{i:Nat}{c d:Cell}(h:S[i]?=some c):(S.set i d)[i]?=some d:=by
 rw[getElem?_set];simp[br h]
def cG{S:List Cell}{i j:Nat}{c d:Cell}(h:S[j]?=some c)(hn:i≠j):(S.set i d)[j]?=some c:=by rw[getElem?_set_ne hn];exact h
def aB{S G:List Cell}{j:Nat}{c:Cell}(h:S[j]?=some c):(S++G)[j]?=some c:=by rw[getElem?_append_left (br h)];exact h
def bO{S:List Cell}{c:Cell}:(S++[c])[S.length]?=some c:=by simp
section
variable{S S1 S2:List Cell}{r r1:tB}{d x y:D}{n:Nat}{C:Addr}{ns:List Str}{ds:List D}
def aw{t u:Hd}(h:t r S=some (.nx r1,S1)):aI t u r S=u r1 S1:=by rw[rf,h]
def di{t u:Hd}(h:t r S=some (.rt d,S1)):aI t u r S=some (.rt d,S1):=by rw[rf,h]
def bz{fe:tB->M D}{i:Nat}(h:fe r S=.ok d S1):cz fe (gN i) r S=some (.nx (r.set i (some d)),S1):=by simp[h]
def aU{fe:tB->M D}(h:fe r S=.ok d S1):bu fe r S=some (.nx r,S1):=by simp[h]
def aN{fe:tB->M D}(h:fe r S=.ok d S1):bJ fe r S=some (.rt d,S1):=by simp[h]
def D0{c:tB->M Bool}{t u:Hd}{b:Bool}(h:c r S=.ok b S1):HX c t u r S=if b=true then t r S1 else u r S1:=by simp[h]
def aW{c:tB->M Bool}{t u:Hd}(h:c r S=.ok true S1):HX c t u r S=t r S1:=by rw[D0 h,if_pos rfl]
def ax{c:tB->M Bool}{t u:Hd}(h:c r S=.ok false S1):HX c t u r S=u r S1:=by rw[D0 h,if_neg (by decide)]
def Ei{i:Nat}{fo fe:tB->M D}(h1:fe r S=.ok d S1)(h2:fo r S1=.ok (.ob n) S2)(h3:S2[n]?=some (.ins C ns ds)):kt C ns i fo fe r S=some (.nx r,S2.set n (.ins C ns (ds.set i d))):=by
 simp[h1,h2,lP h3]
def kK{f:Str}{fo fe:tB->M D}(h1:fe r S=.ok d S1)(h2:fo r S1=.ok (.ob n) S2)(h3:S2[n]?=some (.ins C ns ds)):cN C ns f fo fe r S=some (.nx r,S2.set n (.ins C (ns++[f]) (ds++[d]))):=by
 simp[h1,h2,lP h3]
def yC{i:Nat}{fo fe:tB->M D}{a b:Int}{Q2:List D}{S3:List Cell}(h2:fo r S=.ok (.ob n) S1)(h3:S1[n]?=some (.ins C ns ds))(h4:ds[i]?=some (.int a))(h1:fe r S1=.ok (.int b) S3)(h5:S3[n]?=some (.ins C ns Q2)) :
  pd C ns i fo fe r S=some (.nx r,S3.set n (.ins C ns (Q2.set i (.int (a+b))))):=by
 unfold pd;simp[h2,lP h3,h4,h1,lP h5]
def uD{g:D->D->D->List Cell->Option (List Cell)}{fo fi fe:tB->M D}{S3 S4:List Cell}(h1:fe r S=.ok d S1)(h2:fo r S1=.ok x S2)(h3:fi r S2=.ok y S3)(h4:g x y d S3=some S4):xP g fo fi fe r S=some (.nx r,S4):=by
 simp[h1,h2,h3,h4]
def bT{i:Nat}{fo:tB->M D}(h:fo r S=.ok (.ob n) S1)(h3:S1[n]?=some (.ins C ns ds))(hd:ds[i]?=some d):aA C ns i fo r S=.ok d S1:=by
 simp[h,lP h3,hd]
def aO{F:List D->M D}{fo:tB->M D}{ft:tB->M (List D)}{xs:List D}{a:R D}(h:fo r S=.ok (.ob n) S1)(h3:S1[n]?=some (.ins C ns ds))(h4:ft r S1=.ok xs S2)(h5:F (.ob n :: xs) S2=a):aX C ns F fo ft r S=a:=by
 simp[h,lP h3,h4,h5]
def av{F:List D->M D}{ft:tB->M (List D)}{xs:List D}{a:R D}(h4:ft r S=.ok xs S1)(h5:F xs S1=a):ak F ft r S=a:=by simp[h4,h5]
def ar{g:D->D->M D}{fa fb:tB->M D}{a:R D}(h1:fa r S=.ok x S1)(h2:fb r S1=.ok y S2)(h3:g x y S2=a):g_ g fa fb r S=a:=by simp[h1,h2,h3]
def af{f:tB->M D}{g:tB->M (List D)}{xs:List D}(h1:f r S=.ok x S1)(h2:g r S1=.ok xs S2):aa f g r S=.ok (x :: xs) S2:=by simp[h1,h2]
def ah:ai r S=.ok [] S:=rfl
def ay{f:tB->M D}{b:Bool}(h:f r S=.ok (.bl b) S1):am f r S=.ok b S1:=by simp[h]
def ld{g:D->List D->M D}{fo:tB->M D}{ft:tB->M (List D)}{xs ys:List D}{a:R D}(h:fo r S=.ok (.ob n) S1)(h3:S1[n]?=some (.lst ys))(h4:ft r S1=.ok xs S2)(h5:g (.ob n) xs S2=a):KG g fo ft r S=a:=by
 simp[h,ca h3,h4,h5]
def Em{g:D->List D->M D}{fo:tB->M D}{ft:tB->M (List D)}{xs:List D}{kvs:List (Key×D)}{a:R D}(h:fo r S=.ok (.ob n) S1)(h3:S1[n]?=some (.IT kvs))(h4:ft r S1=.ok xs S2)(h5:g (.ob n) xs S2=a):zZ g fo ft r S=a:=by
 simp[h,fM h3,h4,h5]
def bF{ft:tB->M (List D)}{xs:List D}(h:ft r S=.ok xs S1)(hl:xs.length<=1000000):bY ft r S=.ok (.tup xs) S1:=by simp[h,vF hl]
def ck{ft:tB->M (List D)}{xs:List D}(h:ft r S=.ok xs S1)(hl:xs.length<=1000000):cg ft r S=.ok (.ob S1.length) (S1++[.lst xs]):=by simp[h,wu hl]
def bc{a b:Str}{c:Bool}(h1:(PyData.str a).canLay0=true:=by decide +kernel)(h2:(PyData.str b).canLay0=true:=by decide +kernel)(h3:decide (a=b)=c:=by decide +kernel):G_ (.str a) (.str b) S=.ok (.bl c) S:=by
 subst h3;have h:(PyData.str a).eqv (.str b)=decide (a=b):=by
  by_cases e:a=b
  ·subst e;simp[PyData.eqv]
  ·simp[PyData.eqv,e]
 simp only[G_,pD,h1,h2,if_true,h]
def wc{a b:Str}{c:Bool}(h1:(PyData.str a).canLay0=true:=by decide +kernel)(h2:(PyData.str b).canLay0=true:=by decide +kernel)(h3:(!decide (a=b))=c:=by decide +kernel):Jp (.str a) (.str b) S=.ok (.bl c) S:=by
 subst h3;have h:(PyData.str a).eqv (.str b)=decide (a=b):=by
  by_cases e:a=b
  ·subst e;simp[PyData.eqv]
  ·simp[PyData.eqv,e]
 simp only[Jp,pD,h1,h2,if_true,h]
end
section
variable{S S1 S2:List Cell}{r r1:tB}{d x y:D}{n i:Nat}{C:Addr}{ns:List Str}{ds Q2:List D}{fo fe:tB->M D}
def aS{S:List Cell}{i:Nat}{c:Cell}(h:i=S.length):(S++[c])[i]?=some c:=by subst h;exact bO
structure Ch(n:Nat)(c:Cell)(S S':List Cell):Prop where
 at_:S'[n]?=some c
 fr:Fr [n] S S'
 len:S'.length=S.length
def Ch.old{m:Nat}{c c':Cell}(h:Ch n c S S1)(hm:S[m]?=some c')(hn:n≠m):S1[m]?=some c':=h.fr.get hm (by simpa using Ne.symm hn)
def Ch.set{c c':Cell}(h:S[n]?=some c'):Ch n c S (S.set n c):=⟨dA h,Fr.set (by simp),by simp⟩
def ic(h1:fe r S=.ok d S1)(h2:fo r S1=.ok (.ob n) S1)(h3:S1[n]?=some (.ins C ns ds))(h4:ds.set i d=Q2):∃S2,kt C ns i fo fe r S=some (.nx r,S2)/\Ch n (.ins C ns Q2) S1 S2:=by
 subst h4;exact⟨_,Ei h1 h2 h3,Ch.set h3⟩
def yl{a b:Int}(h2:fo r S=.ok (.ob n) S)(h3:S[n]?=some (.ins C ns ds))(h5:ds[i]?=some (.int a))(h1:fe r S=.ok (.int b) S)(h4:ds.set i (.int (a+b))=Q2):∃S2,pd C ns i fo fe r S=some (.nx r,S2)/\Ch n (.ins C ns Q2) S S2:=by
 subst h4;exact⟨_,yC h2 h3 h5 h1 h3,Ch.set h3⟩
def vf{xs:List D}{ft:tB->M (List D)}(h1:fo r S=.ok (.ob n) S)(h2:S[n]?=some (.lst xs))(h3:ft r S=.ok [d] S)(hz:xs.length<1000000):∃S2,KG j2 fo ft r S=.ok .G0 S2/\Ch n (.lst (xs++[d])) S S2:=
 ⟨_,ld h1 h2 h3 (tu h2 hz),Ch.set h2⟩
def AJ{xs ys:List D}{ft:tB->M (List D)}(h1:fo r S=.ok (.ob n) S)(h2:S[n]?=some (.lst xs))(h3:ft r S=.ok [.tup ys] S)(hz:xs.length+ys.length<=1000000):∃S2,KG sU fo ft r S=.ok .G0 S2/\Ch n (.lst (xs++ys)) S S2:=
 ⟨_,ld h1 h2 h3 (Ea h2 hz),Ch.set h2⟩
def Ch.fp{fp:List Nat}{c:Cell}(h:Ch n c S S1)(hn:n∈fp):Fr fp S S1:=h.fr.mono fun i hi _=>by
 have:i=n:=by simpa using hi
 rw[this];exact hn
end
theorem mG{tg:MC}{ti:tB->M Bool}{fe:tB->M D}{r0:tB}(kp:D->Bool)(h:D->D)(g:Option (Nat×List D))(S:List Cell)(hg:Ld g S):∀(items ys:List D),
  (∀x,x∈items->∃r1,tg x r0=some r1/\(∀zs,ti r1 (S++[.lst zs])=.ok (kp x) (S++[.lst zs]))/\(kp x=true->∀zs,fe r1 (S++[.lst zs])=.ok (h x) (S++[.lst zs])))->ys.length+items.length<=1000000->
  eJ tg ti fe S.length g r0 items (S++[.lst ys])=.ok () (S++[.lst (ys++(items.filter kp).map h)])
 |[],ys,_,_=>by simp[eJ]
 |x :: xs,ys,hx,hl=>by
  obtain⟨r1,h1,h2,h3⟩:=hx x (by simp);have YE:∀zs,Ld g (S++[Cell.lst zs]):=fun zs=>by
   cases g with
   |none=>trivial
   |some p=>exact aB hg
  unfold eJ;rw[h1];dsimp only;rw[h2];cases hk:kp x with
  |false=>
   dsimp only;rw[if_pos (YE _),mG kp h g S hg xs ys (fun y hy=>hx y (mem_cons_of_mem _ hy)) (by simp at hl;omega)];rw[List.filter_cons_of_neg (by simp[hk])]
  |true=>
   have K6:(S++[Cell.lst ys]).set S.length (.lst (ys++[h x]))=S++[.lst (ys++[h x])]:=by
    rw[set_append_right _ _ (Nat.le_refl _)];simp
   dsimp only;rw[h3 hk];dsimp only;rw[getElem?_append_right (Nat.le_refl _)];simp only[Nat.sub_self,getElem?_cons_zero];rw[K6,cf ⟨Pd (by simp at hl;omega),YE _⟩,mG kp h g S hg xs (ys++[h x]) (fun y hy=>hx y (mem_cons_of_mem _ hy)) (by simp at hl ⊢;omega)];rw[List.filter_cons_of_pos hk,map_cons,append_assoc];rfl
def fY{f:tB->M Wk}{tg:MC}{ti:tB->M Bool}{fe:tB->M D}{own:Nat}{caps:List Nat}{r:tB}{S S1:List Cell}{w:Wk}(kp:D->Bool)(h:D->D)(h1:f r S=.ok w S1)(hg:Ld w.guard S1)(hz:w.items.length<=1000000)
  (hx:∀x,x∈w.items->∃r1,tg x (iB own caps r)=some r1/\(∀zs,ti r1 (S1++[.lst zs])=.ok (kp x) (S1++[.lst zs]))/\(kp x=true->∀zs,fe r1 (S1++[.lst zs])=.ok (h x) (S1++[.lst zs]))) :
  eC f tg ti fe own caps r S=.ok (.ob S1.length) (S1++[.lst ((w.items.filter kp).map h)]):=by
 unfold eC;rw[au,h1];dsimp only;rw[mG kp h w.guard S1 hg w.items [] hx (by simpa using hz)];rfl
def EQ{c:tB->M Bool}{b:Hd}{k:Nat}{r:tB}{S S1:List Cell}(h:c r S=.ok false S1):gf c b (k+1) r S=some (.nx r,S1):=by
 unfold gf;rw[h]
def FX{c:tB->M Bool}{b:Hd}{k:Nat}{r r2:tB}{S S1 S2:List Cell}(h:c r S=.ok true S1)(hb:b r S1=some (.nx r2,S2)):gf c b (k+1) r S=gf c b k r2 S2:=by
 rw[gf];dsimp only;rw[h];dsimp only;rw[hb]
def jC{f:tB->M Wk}{tg:MC}{b:Hd}{r:tB}{S S1:List Cell}{w:Wk}(h:f r S=.ok w S1):ny f tg b r S=jg w.guard tg b w.items r S1:=by
 unfold ny;rw[uz,h]
def uo{S:List Cell}{n:Nat}(h:n<=1000000):yI (.int (n:Int)) S=.ok ⟨eI 0 1 n,none⟩ S:=xB h
mutual
theorem xt{S:List Cell}:∀{n:Nat}{d:D}{p:PyData},pD S n d=some p->p.canLay0=true
 |0,d,p,h=>by unfold pD at h;cases h
 |n+1,.G0,p,h=>by simp only[pD] at h;cases h;rfl
 |n+1,.bl b,p,h=>by simp only[pD] at h;cases h;rfl
 |n+1,.int i,p,h=>by simp only[pD] at h;cases h;rfl
 |n+1,.str x,p,h=>by
  simp only[pD] at h;split at h
  ·rename_i q;cases h;exact q
  ·cases h
 |n+1,.tup xs,p,h=>by
  simp only[pD] at h;cases e:K5 S n xs with
  |none=>rw[e] at h;cases h
  |some ps=>rw[e] at h;cases h;exact p6 e
 |n+1,.JG xs,p,h=>by
  simp only[pD] at h;cases e:K5 S n xs with
  |none=>rw[e] at h;cases h
  |some ps=>rw[e] at h;cases h;exact p6 e
 |n+1,.ob k,p,h=>by
  simp only[pD] at h;split at h
  ·rename_i xs _;cases e:K5 S n xs with
   |none=>rw[e] at h;cases h
   |some ps=>rw[e] at h;cases h;exact p6 e
  ·cases h
 |n+1,.xn c,p,h=>by simp only[pD] at h;cases h
theorem p6{S:List Cell}:∀{n:Nat}{xs:List D}{ps:List PyData},K5 S n xs=some ps->PyData.canLayAll0 ps=true
 |n,[],ps,h=>by simp only[K5] at h;cases h;rfl
 |n,x :: xs,ps,h=>by
  simp only[K5] at h;cases e1:pD S n x with
  |none=>rw[e1] at h;cases h
  |some p=>
   rw[e1] at h;cases e2:K5 S n xs with
   |none=>rw[e2] at h;cases h
   |some qs=>
    rw[e2] at h;cases h;show(PyData.canLay0 p && PyData.canLayAll0 qs)=true;rw[xt e1,p6 e2];rfl
end
section
variable{S:List Cell}{x y:D}{p:PyData}
def CP(h1:pD S 30 x=some p)(h2:pD S 30 y=some p):G_ x y S=.ok (.bl true) S:=by
 simp only[G_,h1,h2,PySem.SeqAt.eqv_refl p (xt h1)]
def yD(h1:pD S 30 x=some p)(h2:pD S 30 y=some p):Jp x y S=.ok (.bl false) S:=by
 simp only[Jp,h1,h2,PySem.SeqAt.eqv_refl p (xt h1)];rfl
def xa{n:Nat}{xs:List D}:pD S (n+1) (.tup xs)=(K5 S n xs).map .tuple:=by simp only[pD]
theorem yr{α:Type}{f:α->D}{n:Nat}:∀{l:List α},(∀a,a∈l->∃p,pD S n (f a)=some p)->∃ps,K5 S n (l.map f)=some ps
 |[],_=>⟨[],by simp[K5]⟩
 |a :: l,h=>by
  obtain⟨p,hp⟩:=h a (by simp);obtain⟨ps,So⟩:=yr (l:=l) fun b hb=>h b (mem_cons_of_mem _ hb)
  exact⟨p :: ps,by rw[map_cons];simp only[K5,hp,So]⟩
end
section
variable{X:Cx}
end
def qV(a b:Value):checkTypeCall "enumerate" ⟨[a],[("start",b)]⟩=pure ():=by kernel_rfl
def sx(a b:Value):checkBuiltinCall "enumerate.__new__" ⟨[.type "enumerate",a],[("start",b)]⟩=pure ():=by kernel_rfl
section
variable{prog:Program}{w:World}{A:Around}{E:Value->Shared->Prop}{s:Shared}
def pQ(l:Addr)(items:Array Value)(n:Nat)(RE:Option Addr)(sl:Array (Option Value))(i:Int)(t:Tok)(hi:Builtin.SmallTypes.fitsIndex i=true) :
  Meets (Builtin.«enumerate.__new__» ⟨[.type "enumerate",.ref l],[("start",.int i t)]⟩) (fun _ R s=>s.heap.get? l=some { cls:=.type "tuple",dict:=RE,data:=.seq items n,slots:=sl }/\
   R (.ok (.ret (.ref (s.heap.push { cls:=.type "tuple_iterator",data:=.fields #[.ref l,.int 0 0] }).objs.size)))
    { s with heap:=(s.heap.push { cls:=.type "tuple_iterator",data:=.fields #[.ref l,.int 0 0] }).push { cls:=.type "enumerate",data:=.fields #[.none,.bool false,.ref s.heap.objs.size,rawInt i,.none,.none] } }):=
 .of_wp fun prog w A R s h=>by
  obtain⟨hp,g,d,tk,os⟩:=s;obtain⟨hl,h⟩:=h;have Tj:=sub_enumerate;have f1:=AutoSeq1.idx_int;have hT:Heap.IsTuple (Shared.heap ⟨hp,g,d,tk,os⟩) l items:=⟨_,hl,rfl,n,rfl⟩
  wp_walk using wpAny_loadPart' hl
  refine wpAny_stack_any fun st=>wpAny_pure ?_
  split
  ·rename_i c _ _ _ _ _;cases(c == type "enumerate")
   ·wp_walk using wpAny_loadPart' hl,wpAny_pyIter_tuple hT
    exact⟨_,rfl,h⟩
   ·wp_walk using wpAny_loadPart' hl,wpAny_pyIter_tuple hT
    exact⟨_,rfl,h⟩
  ·wp_walk using wpAny_loadPart' hl,wpAny_pyIter_tuple hT
   exact⟨_,rfl,h⟩
def me(a b c:Value):argsOk "object.__init__" ⟨[a,b],[("start",c)]⟩:=by
 unfold argsOk;rw[signature?_of (id:="object.__init__") (n:=['_','_','t','i','n','i','_','_']) (o:=['t','c','e','j','b','o']) (by kernel_rfl) PySem.F.owner_object];kernel_rfl
def rL{self a c:Value} :
  Meets (Builtin.«object.__init__» ⟨[self,a],[("start",c)]⟩) (fun _ R s=>s.TypeIs self "enumerate"/\R (.ok (.ret .none)) s):=by
 refine Meets.of_wp fun prog w A R s hs=>?_
 obtain⟨hT,hq⟩:=hs;have hl:=PySem.F.called_enumerate.init.lookup;have hm:=PySem.F.called_enumerate.made;have Oi:(some "enumerate.__new__" != some "object.__new__")=true:=by decide
 repeat (any_goals (first|assumption|wp_step))
 exact⟨_,rfl,hq⟩
def qU{l:Addr}{items:Array Value}{i:Int}{t:Tok}{Q:Value->Shared->Prop}(hL:s.heap.IsTuple l items)(hi:Builtin.SmallTypes.fitsIndex i=true)
  (h:∀h',IsEnum h' (s.heap.objs.size+1) s.heap.objs.size i .none->h'.IsTupleIter s.heap.objs.size l 0->(∀b o,s.heap.get? b=some o->h'.get? b=some o)->Q (.ref (s.heap.objs.size+1)) { s with heap:=h' }) :
  wpAny (model prog w) A (call (.type "enumerate") [.ref l] [("start",.int i t)]) Q E s:=by
 obtain⟨⟨c,RE,dt,sl⟩,hl,hc,n,hd⟩:=hL;simp only at hc hd;subst hc hd;have ft:=PySem.F.called_enumerate;obtain⟨c0,tl,hmro⟩:=ft.mro;have YF:=ft.made;have Tj:=ft.sub;have YG:=qV (.ref l) (.int i t);refine wpAny_call (codeAny_of_tree ?_);show wpAny _ _ (callAny (.type "enumerate") _) _ _ _;refine wpAny_pure ⟨Code.quiet_builtin _ (by decide +kernel),codeAny_builtin PySem.F.entry_type_call ?_⟩;rw[Around.under_plain (weight_type_call_type "enumerate" [.ref l] [("start",.int i t)]) (units_type_call_type "enumerate" [.ref l] [("start",.int i t)])];have h1:=ft.notType;have h2:=ft.canCreate
 repeat (any_goals (first|assumption|wp_step))
 have hz:(s.heap.push { cls:=.type "tuple_iterator",data:=.fields #[.ref l,.int 0 0] }).objs.size=s.heap.objs.size+1:=size_push ..;have he:IsEnum ((s.heap.push { cls:=.type "tuple_iterator",data:=.fields #[.ref l,.int 0 0] }).push { cls:=.type "enumerate",data:=.fields #[.none,.bool false,.ref s.heap.objs.size,rawInt i,.none,.none] }) (s.heap.objs.size+1) s.heap.objs.size i .none:=by
  have q:=get?_push_size (s.heap.push { cls:=.type "tuple_iterator",data:=.fields #[.ref l,.int 0 0] }) (o:={ cls:=.type "enumerate",data:=.fields #[.none,.bool false,.ref s.heap.objs.size,rawInt i,.none,.none] }) rfl;rw[hz] at q;exact q
 have fin:=h _ he ⟨_,get?_push_of_some _ (get?_push_size _ rfl),rfl,rfl⟩ fun b o x=>get?_push_of_some _ (get?_push_of_some _ x)
 refine codeAny_mono (codeAny_call_builtin ft.plain PySem.F.entry_enumerate_new (wpAny_of_eq (sx (.ref l) (.int i t)) (pQ l items n RE sl i t hi prog w A.in1 (wants (fun obj Ho=>Ho.TypeIs obj "enumerate"/\Q obj Ho) E) s ⟨hl,?_⟩))) fun r Ho hr=>?_
 ·show _/\_;rw[hz];exact⟨⟨_,he,rfl⟩,fin⟩
 ·cases r with
  |error e=>exact hr
  |ok fl=>
   cases fl with
   |ret obj=>
    obtain⟨hT,OE⟩:=hr;have hli:=ft.init.lookup;have hbi:=ft.init.bind obj
    repeat (any_goals (first|assumption|wp_step))
    refine codeAny_mono (codeAny_call_builtin ft.init.plain PySem.F.entry_object_init (ft.init.check _ _ _ _ _ _ _ _ hT (me _ _ _) (rL prog w A.in1 (wants (fun r O3=>r=.none/\Q obj O3) E) Ho ⟨hT,rfl,OE⟩))) fun VZ O3 Pe=>?_
    cases VZ with
    |error e=>exact Pe
    |ok Tq=>
     cases Tq with
     |ret r=>
      obtain⟨rfl,hq⟩:=Pe
      repeat (any_goals (first|assumption|wp_step))
     |_=>exact Pe.elim
   |_=>exact hr.elim
end
section
variable{M:Model}{A:Around}{E:Value->Shared->Prop}{s:Shared}{env:Env}
def nC{pos:Pos}{T:String}{first:List Value}{args:List (Bool×Sem Value)}{keywords:List (Option Str×Sem Value)}{Q:Value->Shared->Prop}
  (LC:args.any (·.1)=false) (hkw:keywords.any (·.1.isNone)=false)
  (h:wpAny M A (evalArgs (.type T) true args keywords) (fun a Ho=>wpAny M A (call (.type T) (first++a.pos) a.kw) Q E Ho) E s) :
  wpAny M A (callWith pos (.type T) first args keywords) Q E s:=by
 unfold callWith;refine wpAny_bind (wpAny_holding (wpAny_mono h (fun a Ho OF=>wpAny_bind (wpAny_standAt ?_)) fun _ _ x=>x));simp only[LC,hkw,Bool.or_false];refine wpAny_bind (wpAny_pure ?_);exact wpAny_bind (wpAny_mono OF (fun r O3 hr=>wpAny_bind (wpAny_holding (wpAny_point (wpAny_pure hr)))) fun _ _ x=>x)
end
section
variable{X:Cx}{e:Expr}{fe:tB->M D}{pos:Pos}{elts:List Expr}{k1:Nat}{Lv:Pos}
def xZ(c:Nat):D->M Wk
 |.tup xs=>M.ret ⟨jt c xs,none⟩
 |_=>M.bad
def uE(c:Nat)(fe:tB->M D):tB->M Wk:=fun r=>(fe r).bind (xZ c)
def Af{p kp cp:Pos}{i:Int}{c j:Nat}(hg:Gl X "enumerate")(hm:X.mg "enumerate"=none)(he:Hu X e fe)(hic:i=(c:Int):=by decide)(hc:c<=1000:=by decide)(hs:starEach [e] X.env=[(false,eval e X.env)]:=by rfl) :
  PId X (.Tuple elts k1 Lv) (.Call (.Name "enumerate" p) [e] [⟨some "start",.Constant (.int i) j cp,kp⟩] pos) (uE c fe):=by
 intro pins s σ H J r S Q E I m;subst hic;have m':NP X pins σ H J (.Tuple elts k1 Lv) ((aa fe ai r).bind (uG (xZ c)) S) Q E:=by
  unfold uE M.bind at m;unfold aa ai M.bind M.ret;cases e1:fe r S<;>(rw[e1] at m;exact m)
 refine wpAny_Call_Name_kw (kH I.inv hg hm boot_enumerate (nC (by rw[hs];rfl) rfl ?_));have hb:backTo pos (starEach [e] X.env)=(false,eval e X.env) :: []:=by rw[hs];rfl
 rw[hb];refine evalArgs_kwB rfl ?_;rw[<-hb];refine Tf (ae he ag (by rw[hs];rfl)) I m' (fun xs S1 s1 H1 J1 vs us I1 rv r1 m1=>?_) pos;refine kws_cons (wpAny_Constant_int (kws_nil ?_));have O2:Builtin.SmallTypes.fitsIndex (c:Int)=true:=by
  unfold Builtin.SmallTypes.fitsIndex;simp only[and_eq_true,decide_eq_true_eq];omega
 match xs,m1,rv with
 |[],m1,rv=>exact m1.elim
 |_ :: _ :: _,m1,rv=>exact m1.elim
 |[x],m1,rv=>
  obtain⟨v,rfl,h1⟩:=rv.Kk;obtain⟨u,rfl,ru⟩:=Vals.one r1
  change NP X pins σ H1 J1 (.Tuple elts k1 Lv) (xZ c x S1) Q E at m1
  cases x with
  |tup ys=>
   obtain⟨a,ws,rfl,hq,Hz⟩:=h1.Kv;cases ru;obtain⟨its,rl,pl,hz⟩:=I1.inv.tuple hq;refine qU (s:={ s1 with toks:=s1.toks+1 }) pl O2 fun h' Ol Nk hk'=>wpAny_pyIter_enum Ol ?_
   refine m1 _ _ ⟨s1.heap.objs.size+1,[s1.heap.objs.size+1,s1.heap.objs.size],_,_,H1,rfl,I1.inv.kept (t':=s1.toks+1) hk',qJ a s1.heap.objs.size (s1.heap.objs.size+1) c (succ_ne_self _),⟨⟨_,Ol⟩,Nk⟩,uC I1.inv,J1,Ext.refl _ _,I1.st,trivial,?_⟩;exact Jm.QZ fun H2 J2 S2 x2 KP _=>⟨ws,JQ.ext x2 hq,Hz.ext x2⟩
  |_=>exact m1.elim
def db{x:Str}{d:D}{pos:Pos}(hg:Gl X x)(h:∃u,X.mg x=some u/\Ll X.K d u)(hd:(x == ("__debug__":Str))=false:=by decide):Hu X (.Name x pos) (dC d):=by
 obtain⟨u,h1,h2⟩:=h;exact DD hg h1 h2 hd
def MD(K:PySem.W.Frag)(mg:Str->Option Value)(x:Str)(ss:List Str):Prop:=∃u,mg x=some u/\Qd K u (ss.map V.str)
def qa{K:PySem.W.Frag}(ss:List Str)(H:Hp)(J:List Addr):l_ K H J (ss.map D.str) (ss.map V.str):=by
 induction ss with
 |nil=>exact .nil
 |cons a r ih=>exact .cons (by unfold s_;rfl) ih
def MD.glob{K:PySem.W.Frag}{mg:Str->Option Value}{x:Str}{ss:List Str}(h:MD K mg x ss):∃u,mg x=some u/\Ll K (.tup (ss.map D.str)) u:=by
 obtain⟨u,h1,h2⟩:=h;exact⟨u,h1,h2.rep (qa ss)⟩
def xQ{x:Str}{e:Expr}{np apos HQ:Pos}{ss:List Str}{ft:tB->M (List D)}(hg:Gl X x)(h:MD X.K X.mg x ss)(ha:M8 X [e] ft)(hd:(x == ("__debug__":Str))=false:=by decide)
  (Lz:attributeBase (.Name x np) "index" X.env (eval (.Name x np) X.env)=eval (.Name x np) X.env:=by rfl)
  (NU:((backTo HQ (starEach [e] X.env)).all (fun x=>!x.1) && (backToKw HQ (keywordEach [] X.env)).all (fun x=>x.1.isSome)
   && decide ([e].length+([]:List Keyword).length+(if ([]:List Keyword).isEmpty then 0 else 1)<30))=true:=by rfl)
  (LB:(apos.endLine == HQ.line)=true:=by rfl) (hs:starEach [e] X.env=[(false,eval e X.env)]:=by rfl) :
  Hu X (.Call (.Attribute (.Name x np) "index" apos) [e] [] HQ) (nj (.tup (ss.map D.str)) ft):=by
 obtain⟨u,h1,h2⟩:=h;exact zU hg h1 h2 (qa ss) ha hd Lz NU LB hs
def jm{K:PySem.W.Frag}{i:Int}{t:Tok}:Ll K (.int i) (.int i t):=fun H J=>⟨.int i,⟨_,rfl⟩,s_.int _ _ _ _⟩
theorem sV:∀{ss:List Str}{vs:List Value},(zip ss vs).all (fun p=>match p.2 with|.str x _=>x == p.1|_=>false)=true->ss.length=vs.length->Vals (ss.map V.str) vs
 |[],[],_,_=>.nil
 |a :: r,v :: vs,h,hl=>by
  simp only[List.zip_cons_cons,all_cons,and_eq_true] at h;refine .cons ?_ (sV h.2 (by simpa using hl));cases v with
  |str x t=>
   have:=beq_iff_eq.mp h.1;subst this;exact⟨_,rfl⟩
  |_=>exact absurd h.1 Bool.false_ne_true
 |[],_ :: _,_,h=>by cases h
 |_ :: _,[],_,h=>by cases h
def v6{K:PySem.W.Frag}{mg:Str->Option Value}{x:Str}{ss:List Str}{a:Addr}{its:Array Value}{n:Nat}{sl:Array (Option Value)}(hm:mg x=some (.ref a))(hl:K.lookup a=some ⟨.type "tuple",none,.seq its n,sl⟩)(hv:(zip ss its.toList).all (fun p=>match p.2 with|.str x _=>x == p.1|_=>false)=true)(hn:ss.length=its.toList.length)(hz:ss.length<=1000):MD K mg x ss:=
 ⟨_,hm,⟨⟨a,_,its,n,rfl,hl,rfl,rfl,rfl,by rw[<-length_toList,<-hn];exact Nat.le_of_lt (Pd (by omega)),sV hv hn⟩⟩⟩
end
section
variable{X:Cx}{body:List Stmt}{h0:ExceptHandler}{hs:List ExceptHandler}{t:Hd}{pos:Pos}
end
def u8(l:List Env)(ex:List Addr)(h h':Heap):Prop:=
 (∀b o,h.get? b=some o->b∉ex->b∉l.filterMap (·.frame)->h'.get? b=some o)/\(∀b o,h.get? b=some o->b∉ex->∃sl,h'.get? b=some { o with slots:=sl })
section
variable{M:Model}{A:Around}{E:Value->Shared->Prop}{s:Shared}
def tN{base:Heap}{env:Env}{outer:List Env}{L e:Addr}{oe:Obj}{vs:Array Value}{head a0:Value}{Qh:Bool}{Q:Unit->Shared->Prop}
  (PS:A.frames=some (env :: outer)) (hl:s.heap.FunFrames base (env :: outer)) (hf:env.frame=some L)
  (he:s.heap.get? e=some oe) (Sq:base.StaysIn s.heap) (V0:base.get? e=none) (hd:oe.data=.fields vs) (hsz:1<vs.size) (h0:vs[0]?=some a0)
  (h:∀h',Heap.LeftW base (env :: outer) e oe.cls a0 s.heap h'->u8 (env :: outer) [e] s.heap h'->(∃Q3 Q4 T,h'.get? e=some Q3/\Q3.data=.fields Q4/\Q4[1]?=some (.ref T)/\s.heap.objs.size<=T)->Q () { s with heap:=h' }) :
  wpAny M A (do let a <-frameOf env;let pl <-entryPlaceOf L Qh;let b <-EntryCells.newEntry head a .none (rawInt L) .none pl;setField (.ref e) 1 b) (fun _ s'=>wpAny M A (setFlight (.ref e) none) Q E s') E s:=by
 have V1:e∉(env :: outer).filterMap (·.frame):=fun hm=>by
  obtain⟨_,o,ho,Oo⟩:=hl.mem hm;rw[he] at ho
  injection ho with ho
  subst ho;exact Oo vs hd
 refine wpAny_bind (wpAny_frameOf_fun PS hl hf fun h1 q=>?_);refine wpAny_bind (wpAny_entryPlaceOf fun pl Ng=>?_);unfold EntryCells.newEntry newFields;refine wpAny_bind (wpAny_newObj_type ?_ (Ng.sizeOk5 _ _ _ _ _));obtain⟨tb,V2⟩:∃tb:Obj,tb = { cls:=.type "traceback",dict:=none,data:=.fields ([head,.ref L,.none,rawInt L,.none]++(if pl.isEmpty then replicate 6 Value.none else pl)).toArray }:=⟨_,rfl⟩;rw[<-V2];have Ts:h1.get? e=some oe:=(q.2.1 e V1).trans he;have kb1:base.StaysIn h1:=fun b o NH=>(q.2.1 b fun hm=>by rw[(hl.mem hm).1] at NH;cases NH).trans (Sq b o NH)
 have Sl:=get?_push_of_some (h:=h1) tb Ts;refine wpAny_setField Sl hd hsz ?_;obtain⟨T,hT⟩:∃T,T=h1.objs.size:=⟨_,rfl⟩;have OI:T≠e:=by rw[hT];exact Nat.ne_of_gt (lt_size Ts)
 have Q5:s.heap.objs.size<=T:=by rw[hT,q.1];exact Nat.le_refl _
 obtain⟨h2,Uv⟩:∃h2,h2=(h1.push tb).update e (Obj.mapFields (·.setIfInBounds 1 (Value.ref T))):=⟨_,rfl⟩;have Uw:=Obj.data_mapFields hd (·.setIfInBounds 1 (Value.ref T));have YH:h2.get? e=some (Obj.mapFields (·.setIfInBounds 1 (Value.ref T)) oe):=by rw[Uv];exact get?_update_self _ Sl (Obj.isFreed_of_fields Uw)
 have NW:h2.get? T=some tb:=by rw[Uv,get?_update_other _ _ (Ne.symm OI),hT];exact get?_push_size h1 (by rw[V2];rfl)
 have NX:tb.data=.fields ([head,.ref L,.none,rawInt L,.none]++(if pl.isEmpty then replicate 6 Value.none else pl)).toArray:=by rw[V2]
 have goal:wpAny M A (setFlight (.ref e) none) Q E { s with heap:=h2 }:=by
  unfold setFlight;refine wpAny_bind (wpAny_field YH Uw (x:=.ref T) (by simp[hsz]) ?_);rw[if_pos (show(Value.ref T != Value.none)=true from by simp)];refine wpAny_setField NW NX (by simp only[size_toArray,length_append,length_cons,length_nil]<;>omega) ?_;obtain⟨h3,Ux⟩:∃h3,h3=h2.update T (Obj.mapFields (·.setIfInBounds 3 ((none:Option Addr).elim Value.none fun f=>rawInt f))):=⟨_,rfl⟩;have keep:∀b o,b≠e->h1.get? b=some o->h3.get? b=some o:=fun b o L0 hb=>by
   have VD:T≠b:=by rw[hT];exact Nat.ne_of_gt (lt_size hb)
   rw[Ux,Uv,get?_update_other _ _ VD,get?_update_other _ _ (Ne.symm L0)];exact get?_push_of_some _ hb
  have YI:h3.get? e=some (Obj.mapFields (·.setIfInBounds 1 (Value.ref T)) oe):=by rw[Ux,get?_update_other _ _ OI];exact YH
  have Nl:∀b o,s.heap.get? b=some o->(∀vs,o.data≠.fields vs)->b≠e:=fun b o hb Oo z=>by
   rw[z,he] at hb
   injection hb with hb
   subst hb;exact Oo vs hd
  have Ss:h3.get? T=some (Obj.mapFields (·.setIfInBounds 3 ((none:Option Addr).elim Value.none fun f=>rawInt f)) tb):=by rw[Ux];exact get?_update_self _ NW (Obj.isFreed_of_fields (Obj.data_mapFields NX _))
  have V3:=Obj.data_mapFields NX (·.setIfInBounds 3 ((none:Option Addr).elim Value.none fun f=>rawInt f));have hq:Q () { s with heap:=h3 }:=by
   refine h h3 ⟨fun b o NH=>keep b o (fun z=>by rw[z,V0] at NH;cases NH) (kb1 b o NH),hl.of_keeps fun b o hb Oo=>?_,?_,fun b o hb Oo=>?_⟩ ⟨fun b o hb L0 Tg=>?_,fun b o hb L0=>?_⟩ ⟨_,_,T,YI,Uw,by simp[hsz],Q5⟩
   ·obtain⟨sl,hs⟩:=q.2.2 b o hb;exact⟨_,keep b _ (Nl b o hb Oo) hs,rfl⟩
   ·refine⟨_,_,T,_,_,YI,⟨Obj.cls_mapFields _ _,by rw[Array.getElem?_setIfInBounds_ne (by decide)];exact h0⟩,Uw,by simp[hsz],?_,OI,Ss,V3,?_⟩
    ·rw[hT];exact kb1.fresh
    ·first|(simp;done)|(rcases Ng with rfl|⟨_,_,_,_,_,_,_,rfl⟩<;>simp)
   ·obtain⟨sl,hs⟩:=q.2.2 b o hb;exact⟨sl,keep b _ (Nl b o hb Oo) hs⟩
   ·exact keep b o (by simpa using L0) ((q.2.1 b Tg).trans hb)
   ·obtain⟨sl,hs⟩:=q.2.2 b o hb;exact⟨sl,keep b _ (by simpa using L0) hs⟩
  rw[Ux] at hq;exact hq
 rw[Uv,hT] at goal;exact goal
def p8(h:Heap)(e T:Addr):Prop:=∃oe vs,h.get? e=some oe/\oe.data=.fields vs/\vs[1]?=some (.ref T)
def xx{base:Heap}{env:Env}{outer:List Env}{L e T:Addr}{cls a0:Value}{Q:Unit->Shared->Prop}
  (PS:A.frames=some (env :: outer)) (hl:s.heap.FunFrames base (env :: outer)) (hf:env.frame=some L) (ht:s.heap.TracedW base e cls a0) (hTr:p8 s.heap e T) (Sq:base.StaysIn s.heap) (V0:base.get? e=none)
  (h:∀h' T',Heap.LeftW base (env :: outer) e cls a0 s.heap h'->u8 (env :: outer) [e,T] s.heap h'->p8 h' e T'->s.heap.objs.size<=T'->(∃oT,h'.get? T=some oT)->Q () { s with heap:=h' }):wpAny M A (noteFrame (.ref e) env) (fun _ s2=>wpAny M A (setFlight (.ref e) none) Q E s2) E s:=by
 obtain⟨oe,vs,T0,oT,ts,he,⟨KH,h0⟩,hd,h1,YJ,OI,hT,NX,h3⟩:=ht;obtain⟨Q3,Q4,b1,b2,b3⟩:=hTr;rw[he] at b1;cases b1;rw[hd] at b2;cases b2;rw[h1] at b3;cases b3;subst KH;unfold noteFrame;simp only[hf];refine wpAny_bind (wpAny_field he hd h1 ?_);rw[if_pos (show(Value.ref T != Value.none)=true from by simp)];refine wpAny_bind (wpAny_field hT NX h3 ?_);rw[if_neg (show ¬((Value.none == rawInt L)=true) from by simp[rawInt])];refine wpAny_bind (wpAny_setField hT NX (Array.getElem?_eq_some_iff.mp h3).1 ?_);have other:∀b,b≠T->(s.heap.update T (Obj.mapFields (·.setIfInBounds 3 Value.none))).get? b=s.heap.get? b:=fun b hb=>get?_update_other _ _ (Ne.symm hb)
 have Q6:∀b o,s.heap.get? b=some o->(∀vs,o.data≠.fields vs)->b≠T:=fun b o hb Oo z=>by
  rw[z,hT] at hb
  injection hb with hb
  subst hb;exact Oo ts NX
 refine tN PS (hl.of_keeps fun b o hb Oo=>⟨o,(other b (Q6 b o hb Oo)).trans hb,rfl⟩) hf ((other e (Ne.symm OI)).trans he)
  (fun b o NH=>(other b fun z=>by rw[z,YJ] at NH;cases NH).trans (Sq b o NH)) V0 hd (Array.getElem?_eq_some_iff.mp h1).1 h0
  fun h' ⟨x1,x2,x3,x4⟩ ⟨y1,y2⟩ ⟨Q3,Q4,T',c1,c2,c3,c4⟩=>h h' T' ⟨x1,x2,x3,fun b o hb Oo=>x4 b o ((other b (Q6 b o hb Oo)).trans hb) Oo⟩ ⟨fun b o hb L0 Tg=>?_,fun b o hb L0=>?_⟩ ⟨Q3,Q4,c1,c2,c3⟩ ?_ ?_
 ·simp only[mem_cons,not_mem_nil,or_false,not_or] at L0;exact y1 b o ((other b L0.2).trans hb) (by simpa using L0.1) Tg
 ·simp only[mem_cons,not_mem_nil,or_false,not_or] at L0;exact y2 b o ((other b L0.2).trans hb) (by simpa using L0.1)
 ·have hsz:(s.heap.update T (Obj.mapFields (·.setIfInBounds 3 Value.none))).objs.size=s.heap.objs.size:=Heap.size_update ..;rw[<-hsz];exact c4
 ·have NT:(s.heap.update T (Obj.mapFields (·.setIfInBounds 3 Value.none))).get? T=some (Obj.mapFields (·.setIfInBounds 3 Value.none) oT):=get?_update_self _ hT (Obj.isFreed_of_fields (Obj.data_mapFields NX _));obtain⟨sl,q⟩:=y2 T _ NT (by simpa using OI);exact⟨_,q⟩
end
section
variable{P:Program}{w:World}{H H':Hp}{h h':Heap}{a:Addr}{o:HO}
def vA(x:HG P w H h a o):∃u,h.get? a=some u:=by
 cases o with
 |lst xs=>obtain⟨_,_,_,_,e⟩:=x;exact⟨_,e⟩
 |tup xs=>obtain⟨_,_,_,_,e,_⟩:=x;exact⟨_,e⟩
 |dK kvs=>obtain⟨_,_,_,_,o,_,_,e,_⟩:=x;exact⟨_,e⟩
 |dT kvs=>obtain⟨_,_,_,_,o,_,_,e,_⟩:=x;exact⟨_,e⟩
 |set S n=>obtain⟨o,_,_,_,e,_⟩:=x;exact⟨_,e⟩
 |ins C dx fs=>obtain⟨_,_,_,e,_⟩:=x;exact⟨_,e⟩
 |own y=>obtain⟨_,e⟩:=x;exact⟨_,e⟩
 |xd fs=>obtain⟨_,⟨_,_,_,e,_⟩,_⟩:=x;exact⟨_,e⟩
 |R3 lo hi=>obtain⟨_,_,_,e⟩:=x;exact⟨_,e⟩
 |NK ob u=>obtain⟨e,_⟩:=x;exact⟨_,e⟩
 |QL ps=>exact⟨_,(show h.get? a=some _ from x)⟩
 |met f y=>exact⟨_,(show h.get? a=some _ from x)⟩
 |ext φ=>obtain⟨_,⟨_,e⟩,_⟩:=x;exact⟨_,e⟩
def vQ(x:Jb P w H h)(hp:h.get? a=none):H a=none:=by
 cases q:H a with
 |none=>rfl
 |some u=>obtain⟨v,e⟩:=vA (x a u q);rw[hp] at e;cases e
def Aq(x:Jb P w H h)(k:∀b u,h.get? b=some u->h'.get? b=some u)(hp:h.get? a=none)(new:HG P w (upd H a o) h' a o):Jb P w (upd H a o) h':=fun b u e=>by
 have hn:=vQ x hp;by_cases hb:b=a
 ·subst hb;rw[bC] at e;cases e;exact new
 ·rw[bg hb] at e;exact(x b u e).KZ (fun c v _ q=>k c v q) (fun c q=>by rw[bg (ba q hn)];exact q) fun c xs q=>by rw[bg (ba q hn)];exact q
def BY{fs ex:List Addr}(k:∀b u,h.get? b=some u->h'.get? b=some u)(hp:h.get? a=none)(hn:H a=none):Un fs ex H (upd H a o) h h' where
 keep:=fun b u q _ _ _=>k b u q
 slot:=fun b u q _ _ _=>⟨u.slots,k b u q⟩
 free:=fun b u q n _=>by rw[bg (fun z=>by rw[z,hp] at q;cases q)];exact n
 there:=fun b u q _=>⟨u,k b u q⟩
 Ks:=fun b xs q=>by rw[bg (ba q hn)];exact q
 Kh:=fun b u xs q=>by rw[bg (ba q hn)];exact q
 Kt:=fun b ps q=>⟨#[],by rw[bg (ba q hn),q];simp⟩
def vN{c:Addr}(e:∃o,h.get? a=some o/\o.cls=.ref c):HG P w H h a (XO a c):=by
 obtain⟨o,e1,e2⟩:=e;exact⟨⟨o,e1,e2⟩,⟨o,e1⟩,fun h1 h2 ⟨u,q1,q2⟩ k=>⟨u,k u q1,q2⟩⟩
def q8(e:∃o,h.get? a=some o):HG P w H h a (TO a):=by
 obtain⟨o,e1⟩:=e;exact⟨⟨o,e1⟩,⟨o,e1⟩,fun h1 h2 ⟨u,q1⟩ k=>⟨u,k u q1⟩⟩
def wp{l:List Env}{ex:List Addr}{T:Addr}(x:Jb P w H h)(kb:u8 l ex h h')(hf:∀b∈NB l,H b=none)
  (hx:∀b∈ex,(∃c,H b=some (XO b c)/\∃o,h'.get? b=some o/\o.cls=.ref c)\/(H b=some (TO b)/\∃o,h'.get? b=some o)) (hT:h.objs.size<=T) (Uy:∃o,h'.get? T=some o) :
  Un (NB l) [] H (upd H T (TO T)) h h'/\Jb P w (upd H T (TO T)) h':=by
 have hn:H T=none:=x.fresh hT;have YK:∀b,H b=none->b∉ex:=fun b n z=>by
  rcases hx b z with ⟨c,q,_⟩|⟨q,_⟩<;>(rw[n] at q;cases q)
 refine⟨⟨fun b u q n hb _=>kb.1 b u q (YK b n) hb,fun b u q n _ _=>kb.2 b u q (YK b n),fun b u q n _=>?_,fun b u q _=>?_,fun b xs q=>by rw[bg (ba q hn)];exact q,fun b u xs q=>by rw[bg (ba q hn)];exact q,fun b ps q=>⟨#[],by rw[bg (ba q hn),q];simp⟩⟩,fun b u e=>?_⟩
 ·rw[bg (ne_of_lt (Nat.lt_of_lt_of_le (lt_size q) hT))];exact n
 ·by_cases z:b∈ex
  ·rcases hx b z with ⟨c,_,o,e1,_⟩|⟨_,o,e1⟩<;>exact⟨o,e1⟩
  ·obtain⟨sl,e1⟩:=kb.2 b u q z;exact⟨_,e1⟩
 ·by_cases hb:b=T
  ·subst hb;rw[bC] at e;cases e;exact q8 Uy
  ·rw[bg hb] at e;by_cases z:b∈ex
   ·rcases hx b z with ⟨c,q,y⟩|⟨q,y⟩
    ·rw[q] at e;cases e;exact vN y
    ·rw[q] at e;cases e;exact q8 y
   ·refine(x b u e).KZ (fun c v hc q=>kb.1 c v q ?_ ?_) (fun c q=>by rw[bg (ba q hn)];exact q) fun c xs q=>by rw[bg (ba q hn)];exact q
    ·rcases hc with rfl|hc
     ·exact z
     ·intro zc;rcases hx c zc with ⟨_,q',_⟩|⟨q',_⟩<;>(rw[hc] at q';cases q')
    ·intro zf;have:=hf c zf;rcases hc with rfl|hc
     ·rw[e] at this;cases this
     ·rw[hc] at this;cases this
def zN{L:Addr}{fs ex:List Addr}(u:Un (L :: fs) ex H H' h h')(hL:h.objs.size<=L):Un fs ex H H' h h' where
 keep:=fun b o q n hb hx=>u.keep b o q n (fun z=>(List.mem_cons.mp z).elim (fun e=>absurd (lt_size q) (by rw[e];exact Nat.not_lt.mpr hL)) hb) hx
 slot:=fun b o q n hb hx=>u.slot b o q n (mem_cons_of_mem _ hb) hx
 free:=u.free
 there:=u.there
 Ks:=u.Ks
 Kh:=u.Kh
 Kt:=u.Kt
end
def Tr.of{base h:Heap}{a c T:Addr}{a0:Value}(t:h.TracedW base a (.ref c) a0)(ta:p8 h a T):Tr h a c T:=by
 obtain⟨oe,vs,T0,oT,ts,he,⟨KH,h0⟩,hd,h1,YJ,OI,hT,NX,h3⟩:=t;obtain⟨Q3,Q4,b1,b2,b3⟩:=ta;rw[he] at b1;cases b1;rw[hd] at b2;cases b2;rw[h1] at b3;cases b3;exact⟨oe,vs,oT,ts,a0,he,KH,hd,h0,h1,OI,hT,NX,h3⟩
def Tr.to{base h:Heap}{a c T:Addr}(t:Tr h a c T)(hb:base.get? T=none):∃a0,h.TracedW base a (.ref c) a0/\p8 h a T:=by
 obtain⟨oe,vs,oT,ts,a0,he,KH,hd,h0,h1,OI,hT,NX,h3⟩:=t;exact⟨a0,⟨oe,vs,T,oT,ts,he,⟨KH,h0⟩,hd,h1,hb,OI,hT,NX,h3⟩,oe,vs,he,hd,h1⟩
def Tr.cls{h:Heap}{a c T:Addr}(t:Tr h a c T):∃o,h.get? a=some o/\o.cls=.ref c:=by
 obtain⟨oe,vs,oT,ts,a0,he,KH,_⟩:=t;exact⟨oe,he,KH⟩
def Tr.end{h:Heap}{a c T:Addr}(t:Tr h a c T):∃o,h.get? T=some o:=by
 obtain⟨oe,vs,oT,ts,a0,he,KH,hd,h0,h1,OI,hT,_⟩:=t;exact⟨oT,hT⟩
def A_(P:Program)(w:World):Lk:=fun outer H s E e s'=>∃a c T H',e=.ref a/\s'.os=s.os/\AllBare s'.gens/\Un (NB outer) [] H H' s.heap s'.heap/\Jb P w H' s'.heap/\H' a=some (XO a c)/\H' T=some (TO T)/\Tr s'.heap a c T/\E (.ref c) none H'
def Az{P:Program}{w:World}{H:Hp}{s:Shared}{e:Value}{s':Shared}:A_ P w [] H s (fun _ _ _=>False) e s'->False:=fun ⟨_,_,_,_,_,_,_,_,_,_,_,_,z⟩=>z
def kj{X:Cx}{pins:G4}{σ:L2.St}{H:Hp}{s:Shared}{a:Addr}{o:HO}(I:Inv X pins σ H s)(e:H a=some o):X.base.get? a=none:=by
 cases q:X.base.get? a with
 |none=>rfl
 |some u=>have:=(I.bs a u q).2;rw[e] at this;cases this
def yo{X:Cx}{pins:G4}{σ:L2.St}{H:Hp}{s:Shared}{a c:Addr}{Q:Unit->Shared->Prop}{E:Value->Shared->Prop}(IU:X.stack=X.env :: X.outer/\X.env.frame=some X.env.locals)(I:Inv X pins σ H s)(hX:H a=some (XO a c))(hc:FH s.heap a c\/∃T,H T=some (TO T)/\Tr s.heap a c T)
  (hq:∀h' T',H T'=none->Un (NB X.stack) [] H (upd H T' (TO T')) s.heap h'->Jb X.prog X.w (upd H T' (TO T')) h'->Tr h' a c T'->Q () { s with heap:=h' }) :
  wpAny (model X.prog X.w) X.A (noteFrame (.ref a) X.env) (fun _ s2=>wpAny (model X.prog X.w) X.A (setFlight (.ref a) none) Q E s2) E s:=by
 have PS:X.A.frames=some (X.env :: X.outer):=by rw[I.ok.frames,IU.1]
 have hl:s.heap.FunFrames X.base (X.env :: X.outer):=by rw[<-IU.1];exact I.stack
 have YL:∀b∈NB (X.env :: X.outer),H b=none:=by rw[<-IU.1];exact I.MH
 have Sq:X.base.StaysIn s.heap:=I.bk;rcases hc with ⟨oe,vs,a0,he,OS,hd,h0,h1⟩|⟨T,YM,tr⟩
 ·unfold noteFrame;simp only[IU.2];refine wpAny_bind (wpAny_field he hd h1 ?_);rw[if_neg (by decide)];refine tN PS hl IU.2 he Sq (kj I hX) hd (Array.getElem?_eq_some_iff.mp h1).1 h0 fun h' lw kb ⟨Q3,Q4,T',c1,c2,c3,c4⟩=>?_
  rw[OS] at lw;have tr:=Tr.of lw.2.2.1 ⟨Q3,Q4,c1,c2,c3⟩;obtain⟨u1,u2⟩:=wp I.Hc kb YL (fun b hb=>.inl ⟨c,by simp at hb;subst hb;exact⟨hX,tr.cls⟩⟩) c4 tr.end;rw[<-IU.1] at u1;exact hq h' T' (I.Hc.fresh c4) u1 u2 tr
 ·obtain⟨a0,tw,ta⟩:=tr.to (kj I YM);refine xx PS hl IU.2 tw ta Sq (kj I hX) fun h' T' lw kb ta' hs hTt=>?_
  have V4:=Tr.of lw.2.2.1 ta';obtain⟨u1,u2⟩:=wp I.Hc kb YL (fun b hb=>by
   simp only[mem_cons,not_mem_nil,or_false] at hb;rcases hb with rfl|rfl
   ·exact .inl ⟨c,hX,V4.cls⟩
   ·exact .inr ⟨YM,hTt⟩) hs V4.end
  rw[<-IU.1] at u1;exact hq h' T' (I.Hc.fresh hs) u1 u2 V4
def n9{P:Program}{w:World}{K:PySem.W.Frag}{mg:Str->Option Value}{base:Heap}{N:List Str}{qual:Str}{scope:Scope}{f:Addr}{Hb:Value}{A:Around}{outer:List Env}{s:Shared}{H:Hp}{E:XK} :
  B9 (A_ P w) (qc (A_ P w) P w K mg base N qual scope f Hb A outer s H E) E:=by
 intro σ H' s' e c XI hE;obtain⟨I,a,rfl,hX,hc⟩:=XI;show wpAny (model P w) (A.deeper (envOfC qual scope s.heap.objs.size f Hb)) (leaving (envOfC qual scope s.heap.objs.size f Hb) (.ref a)) (fun _ P0=>A_ P w outer H s E (.ref a) P0) (fun e' P0=>A_ P w outer H s E e' P0) s';unfold leaving;refine wpAny_bind (yo (X:=qc (A_ P w) P w K mg base N qual scope f Hb A outer s H E) (Q:=fun _ P0=>A_ P w outer H s E (.ref a) P0) ⟨rfl,rfl⟩ I hX hc fun h' T' hn un Hc tr=>?_);have Oi:a≠T':=ba hX hn;refine⟨a,c,T',_,rfl,I.os,I.bare,zN (L:=s.heap.objs.size) (Un.trans (I.base.mono (fun b hb=>mem_cons_of_mem _ hb) fun b hb=>hb) un) (Nat.le_refl _),Hc,by rw[bg Oi];exact hX,bC,tr,hE T' _ hn⟩
def aH{X:Cx}:o6 (A_ X.prog X.w) X:=by
 intro E0 pins σ H s e s' I h;obtain⟨a,c,T,H',rfl,os,bare,un,Hc,hX,hT,tr,hE⟩:=h;obtain⟨hh,g,d,t,Vd⟩:=s';obtain rfl:Vd=s.os:=os;exact⟨c,H',⟨I.call (h':=hh) (g':=g) (d':=d) (t':=t) (ch:=[]) un Hc bare (fun b z=>absurd z (by simp)),a,rfl,hX,.inr ⟨T,hT,tr⟩⟩,hE⟩
structure Pf(K:PySem.W.Frag)(mg:Str->Option Value)(x:Str)(C:Addr):Prop where
 nm:mg x=some (.ref C)
 cls:excIn K C [.type "ValueError",.type "Exception",.type "BaseException",.type "object"] "ValueError.__new__"=true
def tj{K:PySem.W.Frag}{h:Heap}{C:Addr}{YN:List Value}{newId:String}(X:K.In h)(q:excIn K C YN newId=true) :
  ∃bm N nm q bs hdct sn sub ab col dd k0 k1 k2 k3 k5 mN,h.get? C=some (excClassObj nm q C N bs bm hdct sn sub ab col dd k0 k1 k2 k3 k5 newId)/\h.Ns N mN/\mN "__init__"=none/\OwnTail h YN bm:=by
 unfold excIn at q;split at q
 ·rename_i dd cd sl ho;split at q
  ·rename_i C' bm k0 k1 k2 k3 n k5 hm hs;simp only[and_eq_true,beq_iff_eq,Bool.not_eq_true'] at q;obtain⟨⟨⟨⟨⟨rfl,rfl⟩,Tt⟩,ht⟩,Hc⟩,Tu⟩:=q;obtain⟨nm,bs,mro,ns,qn,hd,sn,sub,ab,col,del⟩:=cd;dsimp only at hm Tt Hc Tu;subst hm Tt;have Q5:sl = #[k0,k1,k2,k3,some (.builtin n),k5]:=by
    obtain⟨l⟩:=sl;simp only at hs;rw[hs]
   subst Q5;exact⟨bm,ns,nm,qn,bs,hd,sn,sub,ab,col,dd,k0,k1,k2,k3,k5,_,X _ _ ho,.of_isNs (PySem.W.isNs_of_in X Hc),PySem.W.nsMap_none_of_in X Hc Tu,PySem.W.tail_of_in X ht⟩
  ·cases q
 ·cases q
def oq(C:Addr)(fe:tB->M D):Hd:=fun r=>cA (fe r) r fun _ S=>some (.xc C r,S)
def oa{X:Cx}{x:Str}{C:Addr}{np HQ pos:Pos}{e:Expr}{fe:tB->M D}(hx:Pf X.K X.mg x C)(hg:Gl X x)(hc:X.calm=true)(he:Hu X e fe)
  (OD:(x == ("__debug__":Str))=false:=by decide) (hs:starEach [e] X.env=(false,eval e X.env) :: starEach [] X.env:=by rfl) :
  NO X (.Raise (some (.Call (.Name x np) [e] [] HQ)) none pos) (oq C fe):=by
 intro pins s σ H J r S Q E I m;obtain⟨tl,N,nm,q,bs,hdct,sn,sub,ab,col,dd,k0,k1,k2,k3,k5,mN,hC,hN,Tu,T⟩:=tj I.inv.mod.R5 hx.cls;refine wpAny_Raise_call_subT (C:=C) (nm:=nm) (q:=q) (N:=N) (bs:=bs) (bm:=tl) (hdct:=hdct) (sn:=sn) (sub:=sub) (ab:=ab) (col:=col) (dd:=dd) (k0:=k0) (k1:=k1) (k2:=k2) (k3:=k3) (k5:=k5)
  PySem.F.excBase_ValueError (mN:=mN) (T.hasType PySem.F.excBase_ValueError.hasBase) (I.inv.ok.hd hc) (by rw[hs];rfl) Tu (lV I.inv hg hx.nm ⟨rfl,?_⟩ OD)
 rw[hs];refine evalArgs_plain (spliced_cons (Tc he I m fun d S1 v s1 vx H1 J1 I1 rv r1 m1=>spliced_nil ⟨rfl,(by decide:(1:Nat)<=sizeLine),I1.inv.bk _ _ hC,hN.keeps I1.inv.bk,T.keeps I1.inv.bk,fun h' e' hm=>?_⟩));obtain⟨t0,Ts,_,_⟩:=hm.there;have hn:H1 e'=none:=vQ I1.inv.Hc hm.new;have I2:Inv X pins σ (upd H1 e' (XO e' C)) { s1 with heap:=h' }:=I1.inv.un (h':=h') (t':=s1.toks) (BY hm.keeps hm.new hn) (Aq I1.inv.Hc hm.keeps hm.new (vN ⟨_,Ts,rfl⟩));exact m1 (.ref e') _ σ (upd H1 e' (XO e' C)) J1 ⟨I2,e',rfl,bC,.inl ⟨_,_,_,Ts,rfl,rfl,rfl,rfl⟩⟩ (I1.loc.ext (Ext.new hn)) (I1.st.new hn) (Ext.new hn)
section
variable{P:Program}{w:World}{H H':Hp}{h h':Heap}{a:Addr}{o:HO}
def BK{T:Addr}(x:Jb P w H h)(hT:H T=some (TO T))(k:∀b,b≠T->h'.get? b=h.get? b)(Uy:∃o,h'.get? T=some o)(fs:List Addr) :
  Un fs [] H H h h'/\Jb P w H h':=by
 have ne:∀b,H b=none->b≠T:=fun b n z=>by rw[z,hT] at n;cases n
 refine⟨⟨fun b u q n _ _=>(k b (ne b n)).trans q,fun b u q n _ _=>⟨u.slots,(k b (ne b n)).trans q⟩,fun _ _ _ n _=>n,fun b u q _=>?_,fun _ _ q=>q,fun _ _ _ q=>q,fun b ps q=>⟨#[],by rw[q];simp⟩⟩,fun b u e=>?_⟩
 ·by_cases z:b=T
  ·subst z;exact Uy
  ·exact⟨u,(k b z).trans q⟩
 ·by_cases z:b=T
  ·subst z;rw[hT] at e;cases e;exact q8 Uy
  ·refine(x b u e).KZ (fun c v hc q=>(k c ?_).trans q) (fun _ q=>q) fun _ _ q=>q
   rcases hc with rfl|hc
   ·exact z
   ·rintro rfl;rw[hT] at hc;cases hc
end
def Cx.marked(X:Cx)(a:Addr):Cx:={ X with A:=X.A.mark (some (.ref a)),calm:=false }
section
variable{X:Cx}{pins:G4}{σ:L2.St}{H:Hp}{s:Shared}{a c T:Addr}
def xX(I:Inv X pins σ H s)(a:Addr):Inv (Cx.marked X a) pins σ H s:=
 ⟨⟨I.ok.mod,I.ok.kind,I.ok.glob,I.ok.blt,I.ok.above,I.ok.inj,I.ok.has,I.ok.R6,fun z=>(nomatch z),I.ok.frames,I.ok.SH,I.ok.U0,I.ok.bs,I.ok.PN,I.ok.Ox,I.ok.OX,I.ok.K0,I.ok.QM⟩,I.os,I.bare,I.base,I.loc,I.cell,I.free,I.JN,I.pin,I.Hc,I.len⟩
def ir(ok:X.Ok)(I:Inv (Cx.marked X a) pins σ H s):Inv X pins σ H s:=⟨ok,I.os,I.bare,I.base,I.loc,I.cell,I.free,I.JN,I.pin,I.Hc,I.len⟩
def pJ{M:Model}{A:Around}{Q:Unit->Shared->Prop}{E:Value->Shared->Prop}(I:Inv X pins σ H s)(hT:H T=some (TO T))(t:Tr s.heap a c T)
  (hq:∀h',Inv X pins σ H { s with heap:=h' }->(∃o,h'.get? a=some o/\o.cls=.ref c)->Q () { s with heap:=h' }):wpAny M A (setFlight (.ref a) none) Q E s:=by
 obtain⟨oe,vs,oT,ts,a0,he,KH,hd,h0,h1,OI,YO,NX,h3⟩:=t;unfold setFlight;refine wpAny_bind (wpAny_field he hd h1 ?_);rw[if_pos (show(Value.ref T != Value.none)=true from by simp)];refine wpAny_setField YO NX (Array.getElem?_eq_some_iff.mp h3).1 ?_;have k:∀b,b≠T->(s.heap.update T (Obj.mapFields (·.setIfInBounds 3 ((none:Option Addr).elim Value.none fun f=>rawInt f)))).get? b=s.heap.get? b:=fun b hb=>get?_update_other _ _ (Ne.symm hb)
 obtain⟨u1,u2⟩:=BK I.Hc hT k ⟨_,get?_update_self _ YO (Obj.isFreed_of_fields (Obj.data_mapFields NX _))⟩ X.fs;exact hq _ (I.un (t':=s.toks) u1 u2) ⟨oe,(k a (Ne.symm OI)).trans he,KH⟩
end
def uI{M:Model}{A:Around}{E:Value->Shared->Prop}{s:Shared}{K:PySem.W.Frag}{a c C:Addr}{x:Str}{mg:Str->Option Value}{Q:Bool->Shared->Prop}(X:K.In s.heap)(hC:Pf K mg x C)(hs:subIn K (.ref c) (.ref C)=some true)
  (he:∃o,s.heap.get? a=some o/\o.cls=.ref c) (hq:Q true s):wpAny M A (excMatches (.ref a) (.ref C)) Q E s:=by
 obtain⟨tl,N,nm,q,bs,hdct,sn,sub,ab,col,dd,k0,k1,k2,k3,k5,mN,YQ,hN,Tu,T⟩:=tj X hC.cls;obtain⟨oe,he,KH⟩:=he;have hcB:(Value.ref C :: tl).contains (.type "BaseException")=true:=by rw[List.contains_cons,T.hasType PySem.F.excBase_ValueError.hasBase,Bool.or_true]
 have f:=tc_notTuple;obtain⟨hh,g,d,tk,os⟩:=s;have L:=PySem.W.looks_subIn (M:=M) X hs;unfold excMatches
 repeat (first|(with_reducible refine wpAny_loadPart_at he ?_;rw[KH])|with_reducible refine wpAny_loadPart_at YQ ?_|(with_reducible refine wpAny_isSubtype_exc YQ ?_;rw[hcB])|(with_reducible refine L.here ?_)|wp_step)
 exact hq
def YR:NG->NG
 |some (.xc _ _,_)=>none
 |x=>x
def xm(L:List Addr)(t u:Hd):Hd:=fun r S=>match t r S with
 |some (.xc c r',S')=>if c∈L then YR (u r' S') else none
 |x=>x
section
variable{X:Cx}{body Pg:List Stmt}{RL:Stmt}{t u:Hd}{pos np hp:Pos}{x:Str}{C:Addr}{L:List Addr}
def Ex(hC:Pf X.K X.mg x C)(hL:∀c∈L,subIn X.K (.ref c) (.ref C)=some true)(hg:Gl X x)(IU:X.stack=X.env :: X.outer/\X.env.frame=some X.env.locals)(hb:oo X body t)(hs:∀a,oo (Cx.marked X a) (RL :: Pg) u)
  (OD:(x == ("__debug__":Str))=false:=by decide) :
  NO X (.Try body [.ExceptHandler (some (.Name x np)) none (RL :: Pg) hp] [] [] pos) (xm L t u):=by
 intro pins s σ H J r S Q E I m;refine wpAny_Try_except (hb pins s σ H J r S _ _ I ?_);unfold xm at m
 match e:t r S with
 |none=>rw[e] at m;exact m
 |some (.nx r',S')=>
  rw[e] at m;exact fun s' HE H' J' a x=>wpAny_execs_nil (m s' HE H' J' a x)
 |some (.bk r',S')=>rw[e] at m;exact m
 |some (.ct r',S')=>rw[e] at m;exact m
 |some (.rt d,S')=>rw[e] at m;exact m
 |some (.xc c r',S')=>
  rw[e] at m;dsimp only at m;split at m
  ·rename_i hcL;rintro ev s' HE H' J' ⟨I1,a,rfl,hX,hc⟩ rl rs ex;refine yo IU I1 hX hc fun h' T' hn un Hc tr=>?_
   have Oi:a≠T':=ba hX hn;have I2:Inv X pins HE (upd H' T' (TO T')) { s' with heap:=h' }:=I1.call (h':=h') (g':=s'.gens) (d':=s'.drawn) (t':=s'.toks) (ch:=[]) un Hc I1.bare (fun b z=>absurd z (by simp));have I3:=xX I2 a;refine wpAny_handleBy_cons (codeAny_handlers_test (lV (X:=Cx.marked X a) I3 hg hC.nm ?_ OD)) (by intro q;cases q);refine uI I2.Ls hC (hL c hcL) tr.cls (codeAny_handlers_suite ?_);refine pJ I3 bC tr fun h2 I4 _=>?_
   have LY:Ext H' J' (upd H' T' (TO T')) J':=Ext.new hn;refine hs a pins _ HE _ J' r' S' _ _ ⟨I4,rl.ext LY,rs.new hn⟩ ?_;have m2:=L5.ext (ex.trans LY) m
   match e2:u r' S' with
   |none=>rw[e2] at m2;exact m2
   |some (.nx r2,S2)=>rw[e2] at m2;exact fun s3 Nj H3 J3 a3 x3=>m2 s3 Nj H3 J3 ⟨ir I2.ok a3.inv,a3.loc,a3.st⟩ x3
   |some (.bk r2,S2)=>rw[e2] at m2;exact fun s3 Nj H3 J3 a3 x3=>m2 s3 Nj H3 J3 ⟨ir I2.ok a3.inv,a3.loc,a3.st⟩ x3
   |some (.ct r2,S2)=>rw[e2] at m2;exact fun s3 Nj H3 J3 a3 x3=>m2 s3 Nj H3 J3 ⟨ir I2.ok a3.inv,a3.loc,a3.st⟩ x3
   |some (.rt d,S2)=>rw[e2] at m2;exact fun v s3 Nj ⟨vv,H3,I5,rv,g⟩=>m2 v s3 Nj ⟨vv,H3,ir I2.ok I5,rv,g⟩
   |some (.xc c2 r2,S2)=>rw[e2] at m2;exact m2.elim
  ·exact m.elim
end
section
variable{X:Cx}{pins:G4}{σ:L2.St}{H:Hp}{s:Shared}
end
section
variable{X:Cx}{body Pg:List Stmt}{RL:Stmt}{t u:Hd}{pos np hp:Pos}{x n:Str}{C:Addr}{L:List Addr}{i:Nat}
end
section
variable{X:Cx}{e:Expr}{fe:tB->M D}{pos:Pos}
end
def EO{α:Type}{P:α->Prop}:∀c∈([]:List α),P c:=fun _ h=>nomatch h
def CD{α:Type}{P:α->Prop}{x:α}{l:List α}(h:P x)(t:∀c∈l,P c):∀c∈x :: l,P c:=fun c hc=>(List.mem_cons.mp hc).elim (fun e=>e ▸ h) (t c)
section
variable{X:Cx}{pos p p2 p3 p4:Pos}
end
def Fo:D->Bool
 |.G0=>true
 |_=>false
def lj(x y:D):M D:=fun S=>match y with
 |.G0=>.ok (.bl (!Fo x)) S
 |_=>.bad
def s_.RM{K:PySem.W.Frag}{H:Hp}{J:List Addr}{d:D}{v:V}(h:s_ K H J d v):decide (v=.G0)=Fo d:=by
 cases d with
 |G0=>cases h.NN;rfl
 |bl b=>cases h.O4;rfl
 |int i=>cases h.Ic;rfl
 |str x=>cases h.O5;rfl
 |tup xs=>obtain⟨a,vs,rfl,_⟩:=h.Kv;rfl
 |JG xs=>obtain⟨a,vs,rfl,_⟩:=h.ML;rfl
 |ob n=>obtain⟨a,rfl,_⟩:=h.Kw;rfl
 |xn c=>obtain⟨a,rfl,_⟩:=h.xn_;rfl
section
variable{X:Cx}
def ut:KU X (compareOp .IsNot) lj:=by
 intro pins s σ H J S x y vx vy v u Q E I rs rx ry rv ru m;cases y with
 |G0=>
  cases ry.NN;cases ru;refine isnot_none_gen ?_;rw[rv.OY,rx.RM];exact m.JU I rs (s_.bl _ _ _ _) rfl
 |_=>exact m.elim
end
section
variable{prog:Program}{w:World}{A:Around}{E:Value->Shared->Prop}{h:Heap}{g:Array GenState}{d:Drawn}{t:Nat}{os:OsState}{a:Addr}{o:Obj}{K:PySem.W.Frag}
 {nm q:Str}{C N:Addr}{bs bm:List Value}{hdct:Bool}{sn:List Str}{sub:List Value}{ab:Bool}{col:Option Bool}{dd:Option Addr}{k0 k1 k2 k3 k5:Option Value}{newId:String}
end
section
variable{env:Env}{es:List Expr}
def GW{c k p}:starEach (.Constant c k p :: es) env=(false,eval (.Constant c k p) env) :: starEach es env:=rfl
def GY{c k p}:starEach (.Tuple c k p :: es) env=(false,eval (.Tuple c k p) env) :: starEach es env:=rfl
def GX{a o b p}:starEach (.BinOp a o b p :: es) env=(false,eval (.BinOp a o b p) env) :: starEach es env:=rfl
def GU{x p}:starEach (.Name x p :: es) env=(false,eval (.Name x p) env) :: starEach es env:=rfl
def GS{f a k p}:starEach (.Call f a k p :: es) env=(false,eval (.Call f a k p) env) :: starEach es env:=rfl
def GT{a b p}:starEach (.Subscript a b p :: es) env=(false,eval (.Subscript a b p) env) :: starEach es env:=rfl
def GQ{a b c p}:starEach (.ListComp a b c p :: es) env=(false,eval (.ListComp a b c p) env) :: starEach es env:=rfl
end
end DL
namespace DL
open PySem PySem.Spec PyProof.Rows
section
variable{prog:Program}{w:World}{A:Around}{E:Value->Shared->Prop}{s:Shared}{b:Array Keyed}
end
end DL
namespace DL
open PySem PySem.Spec PyProof.Rows L2
section
variable{X:Cx}
end
end DL
namespace Lw
open PySem L2 DL
open PyProof.Rows (boot_max boot_min boot_sum boot_all boot_int boot_tuple boot_list boot_isinstance boot_range boot_enumerate boot_bool)
def Ih{N P:List Str}{sc:Scope}(a:sc.kind=.function:=by rfl)(b:sc.isCoroutine=false:=by rfl)(c:sc.isGenerator=false:=by rfl)(d:N.Nodup:=by decide +kernel)(e:N.take P.length=P:=by rfl)(f:∀x∈P,sc.names.lookup x=some .local\/sc.names.lookup x=some .cell:=by decide +kernel)(g:∀y∈sc.names,y.2≠.free:=by decide +kernel):n_ N P sc:=⟨a,b,c,d,e,f,g⟩
@[simp] def mF(n:Nat)(c:Hd):List D->M D:=fun xs S=>fin S (c (xs.map some++replicate (n-xs.length) none) S)
@[simp] def mP(n:Nat)(c:Hd):List D->M D:=fun xs S=>cI S (c (xs.map some++replicate (n-xs.length) none) S)
def fE{P:Program}{w:World}{K:PySem.W.Frag}{mg:Str->Option Value}{base:Heap}{x qual:Str}{st:Stmt}{f:Addr}{fd:FuncData}{N ps:List Str}{k:Nat}{t:Hd}(hF:HP K x qual st f fd)(S:n_ N ps (j_ st))(h:∀(Hb:Value) (A:Around) (outer:List Env) (s:Shared) (H:Hp) (E:XK),IL k (A.deeper (PyProof.Rows.envOfC qual (j_ st) s.heap.objs.size f Hb))->oo (qc (A_ P w) P w K mg base N qual (j_ st) f Hb A outer s H E) (HR st) t):HW P w K mg base (A_ P w) (k+1) f fd ps (mF N.length t):=qP hF S (fun _ _ _ _ _ _=>n9) (fun Hb A outer s H E hr=>⟨t,h Hb A outer s H E hr,fun xs S0 hl=>nz⟩)
def fG{P:Program}{w:World}{K:PySem.W.Frag}{mg:Str->Option Value}{base:Heap}{x qual:Str}{st:Stmt}{f:Addr}{fd:FuncData}{N ps:List Str}{k:Nat}{t:Hd}(hF:HP K x qual st f fd)(S:n_ N ps (j_ st))(h:∀(Hb:Value) (A:Around) (outer:List Env) (s:Shared) (H:Hp) (E:XK),IL k (A.deeper (PyProof.Rows.envOfC qual (j_ st) s.heap.objs.size f Hb))->oo (qc (A_ P w) P w K mg base N qual (j_ st) f Hb A outer s H E) (HR st) t):HW P w K mg base (A_ P w) (k+1) f fd ps (mP N.length t):=qP hF S (fun _ _ _ _ _ _=>n9) (fun Hb A outer s H E hr=>⟨t,h Hb A outer s H E hr,fun xs S0 hl=>Ay⟩)
abbrev sO(n:Nat):Option D:=some (.ob n)
abbrev sI(n:Int):Option D:=some (.int n)
abbrev sS(x:Str):Option D:=some (.str x)
abbrev sR(ns:List Int):Option D:=some (.JG (ns.map D.int))
abbrev dI(n:Int):tB->M D:=dC (.int n)
abbrev dT(x:Str):tB->M D:=dC (.str x)
abbrev h_:tB->M D:=ox 0
abbrev w_:tB->M D:=ox 1
abbrev Hv:tB->M D:=ox 2
abbrev Hk:tB->M D:=ox 3
abbrev Jy:tB->M D:=ox 4
abbrev PT:tB->M D:=ox 5
abbrev vV6:tB->M D:=ox 6
abbrev OJ:tB->M D:=ox 7
abbrev YS:tB->M D:=ox 8
abbrev vV9:tB->M D:=ox 9
def top(i:Nat):Stmt:=PySem.Challenge.pw_sureroad_k16_whole_calm_brings_all.main.body.getD i (.Pass ⟨0,0,0,0⟩)
abbrev mV:Stmt:=top 43
abbrev lg:Stmt:=top 42
abbrev iO:Stmt:=top 46
abbrev fH:Stmt:=bh (top 15) 0
abbrev fO:Stmt:=bh (top 13) 0
abbrev gi:Stmt:=bh (top 37) 0
abbrev lb:Stmt:=top 47
abbrev iS:Stmt:=top 44
abbrev jA:Stmt:=top 49
abbrev lA:Stmt:=top 10
abbrev jy:Stmt:=bh (top 15) 1
abbrev kG:Stmt:=bh (top 37) 1
abbrev jB:Stmt:=top 32
abbrev mR:Stmt:=top 26
abbrev qi:Stmt:=top 27
abbrev mU:Stmt:=top 28
abbrev mL:Stmt:=top 29
abbrev oz:Stmt:=top 30
abbrev mv:Stmt:=top 31
abbrev oP:Stmt:=top 33
abbrev ff:Stmt:=bh (top 37) 15
abbrev kY:Stmt:=top 7
abbrev gq:Stmt:=bh (top 15) 7
abbrev hV:Stmt:=bh (top 15) 6
abbrev jM:Stmt:=bh (top 15) 5
abbrev ka:Stmt:=bh (top 37) 3
abbrev fC:Stmt:=bh (top 37) 14
abbrev lz:Stmt:=top 34
abbrev xo:Stmt:=top 35
abbrev iH:Stmt:=bh (top 13) 2
abbrev dZ:Stmt:=bh (top 13) 4
abbrev kE:Stmt:=top 6
abbrev kB:Stmt:=top 8
abbrev jG:Stmt:=bh (top 13) 6
abbrev kf:Stmt:=top 11
abbrev jL:Stmt:=bh (top 13) 8
abbrev fD:Stmt:=bh (top 13) 7
abbrev jK:Stmt:=bh (top 13) 9
abbrev eK:Stmt:=bh (top 13) 5
abbrev iU:Stmt:=bh (top 13) 3
abbrev eY:Stmt:=bh (top 15) 4
abbrev eX:Stmt:=bh (top 15) 11
abbrev d5:Stmt:=bh (top 15) 12
abbrev eL:Stmt:=bh (top 15) 10
abbrev eW:Stmt:=bh (top 15) 9
abbrev iM:Stmt:=bh (top 15) 8
abbrev i9:Stmt:=bh (top 37) 16
abbrev kJ:Stmt:=bh (top 37) 4
abbrev kI:Stmt:=bh (top 37) 5
abbrev je:Stmt:=bh (top 37) 6
abbrev oE:Stmt:=top 38
abbrev jF:Stmt:=bh (top 37) 7
abbrev jD:Stmt:=bh (top 15) 3
abbrev jx:Stmt:=bh (top 13) 1
abbrev kh:Stmt:=bh (top 37) 8
abbrev iI:Stmt:=bh (top 15) 2
abbrev jN:Stmt:=bh (top 37) 2
abbrev oN:Stmt:=top 48
abbrev ia:Stmt:=bh (top 37) 9
abbrev mJ:Stmt:=top 40
abbrev xf:Stmt:=top 39
abbrev gZ:Stmt:=bh (top 37) 11
abbrev gl:Stmt:=bh (top 37) 12
abbrev iJ:Stmt:=top 50
abbrev fK:Stmt:=bh (top 37) 10
abbrev jz:Stmt:=top 45
abbrev tL:Stmt:=top 51
structure Cs where
 i_:Addr
 c_:Addr
 World:Addr
 Ph:Addr
 Ig:Addr
abbrev d_:List Str:=["window","given","opening","next_index","early","begun"]
def aY:d_.Nodup:=by decide +kernel
abbrev a_:List Str:=["window","most","messages","sure","opening","state","pieces","base","noted"]
def aF:a_.Nodup:=by decide +kernel
abbrev m_:List Str:=["sender","hearer","roads"]
def bZ:m_.Nodup:=by decide +kernel
abbrev JA:List Str:=["hello","welcome","who","data","note"]
abbrev ez:D:=.tup (JA.map D.str)
abbrev IC:List Str:=["hello","welcome","who"]
abbrev eO:D:=.tup (IC.map D.str)
abbrev Hy:D:=.int 65535
abbrev Hf:D:=.int 13
abbrev HC:D:=.int 255
abbrev HH:D:=.int 8
abbrev Jq:D:=.int 7
abbrev Hg:D:=.int 3
abbrev G8:D:=.int 2
structure Txt(K:PySem.W.Frag)(mg:Str->Option Value)(G:Cs):Prop where
 Tv:mg "all"=none
 RN:mg "bool"=none
 Lf:mg "enumerate"=none
 Q7:mg "int"=none
 ID:mg "isinstance"=none
 Ie:mg "len"=none
 RO:mg "list"=none
 Q8:mg "max"=none
 Q9:mg "min"=none
 KQ:mg "range"=none
 Oq:mg "sum"=none
 IE:mg "tuple"=none
 r_:Nf K G.i_
 HA:Hm K G.i_ "window"
 IV:Hm K G.i_ "given"
 G7:Hm K G.i_ "opening"
 C_:Hm K G.i_ "next_index"
 Hq:Hm K G.i_ "early"
 HY:Hm K G.i_ "begun"
 k_:Nf K G.c_
 HB:Hm K G.c_ "window"
 Je:Hm K G.c_ "most"
 Iq:Hm K G.c_ "messages"
 IF:Hm K G.c_ "sure"
 HI:Hm K G.c_ "opening"
 E_:Hm K G.c_ "state"
 G5:Hm K G.c_ "pieces"
 G9:Hm K G.c_ "base"
 Im:Hm K G.c_ "noted"
 u_:Nf K G.World
 Hl:Hm K G.World "sender"
 Io:Hm K G.World "hearer"
 G3:Hm K G.World "roads"
 Pj:Pf K mg "NoCard" G.Ph
 Kf:Pf K mg "NoStrip" G.Ig
 Ir:subIn K (.ref G.Ig) (.ref G.Ig)=some true
 MO:MD K mg "KINDS" JA
 L7:MD K mg "SHORT_KINDS" IC
 L8:∃u,mg "TOP_OPENING"=some u/\Ll K Hy u
 MP:∃u,mg "TOP_NUMBER"=some u/\Ll K Hf u
 LF:∃u,mg "TOP_CELL"=some u/\Ll K HC u
 JW:∃u,mg "MOST_PIECE_LETTERS"=some u/\Ll K HH u
 Nm:∃u,mg "MOST_BITS"=some u/\Ll K Jq u
 KR:∃u,mg "HEAD_CELLS"=some u/\Ll K Hg u
 Kp:∃u,mg "CHECK_CELLS"=some u/\Ll K G8 u
section
variable{P:Program}{w:World}{K:PySem.W.Frag}{mg:Str->Option Value}{base:Heap}
def vt:n_ ["_law_cell_here","_law_prime","_law_many"] ["_law_cell_here","_law_prime","_law_many"] (j_ mV):=Ih
def o8:Hd:=(bJ (g_ jT (g_ jT (g_ ix h_ (dI 48271)) w_) Hv))
def aG:List D->M D:=mF 3 o8
def wT{G:Cs}(T:Txt K mg G){f:Addr}{fd:FuncData}(F:HP K "_law_mix" "_law_mix" mV f fd):HW P w K mg base (A_ P w) 1 f fd ["_law_cell_here","_law_prime","_law_many"] aG:=by
 refine fE F vt fun Hb A outer s H E hr=>?_
 have hu:=hr.units;exact(al (aV (bG iX (bG iX (bG lB (ac 0) ao) (ac 1)) (ac 2))))
def uQ:n_ ["_law_script","_law_k"] ["_law_script","_law_k"] (j_ lg):=Ih
def kc:Hd:=(aI (HX (am (g_ JO w_ (ak bq (aa h_ ai)))) (bJ (g_ y_ h_ w_)) bD)
 (bJ (dI 0)))
def bA:List D->M D:=mF 2 kc
def uJ{G:Cs}(T:Txt K mg G){f:Addr}{fd:FuncData}(F:HP K "_law_cell" "_law_cell" lg f fd):HW P w K mg base (A_ P w) 1 f fd ["_law_script","_law_k"] bA:=by
 refine fE F uQ fun Hb A outer s H E hr=>?_
 have hu:=hr.units;exact(aq (bw (aD jV (ac 1) (bj cJ rfl T.Ie boot_len (ae (ac 0) ag)) (aJ _)) (al (aV (aL HS (ac 0) (ac 1) (fun _ _=>rfl)))) aZ)
   (al (aV ao)))
def IW:n_ ["_law_script","_law_window","_law_most"] ["_law_script"] (j_ iO):=Ih
def ii:Hd:=(aI (cz (g_ bK (dI 1) (ak aG (aa (ak bA (aa h_ (aa (dI 0) ai))) (aa (dI 9883) (aa (dI 7) ai))))) (gN 1))
 (aI (cz (g_ bK (dI 1) (ak aG (aa (ak bA (aa h_ (aa (dI 1) ai))) (aa (dI 9871) (aa (dI 8) ai))))) (gN 2))
 (bJ (bY (aa w_ (aa Hv ai))))))
def fP:List D->M D:=mF 3 ii
def pA{G:Cs}(T:Txt K mg G)(Iw:Jn P w K mg base (A_ P w) "_law_cell" 1 ["_law_script","_law_k"] bA)(Hh:Jn P w K mg base (A_ P w) "_law_mix" 1 ["_law_cell_here","_law_prime","_law_many"] aG){f:Addr}{fd:FuncData}(F:HP K "_law_setting" "_law_setting" iO f fd):HW P w K mg base (A_ P w) 2 f fd ["_law_script"] fP:=by
 refine fE F IW fun Hb A outer s H E hr=>?_
 have hu:=hr.units;exact(aq (bI (i:=1) IW.nd (bG cm ao (aM Hh (hr.mono (by decide)) rfl aH (ae (aM Iw (hr.mono (by decide)) rfl aH (ae (ac 0) (ae ao ag)) (aj (aj aC))) (ae ao (ae ao ag))) (aj (aj (aj aC))))))
   (aq (bI (i:=2) IW.nd (bG cm ao (aM Hh (hr.mono (by decide)) rfl aH (ae (aM Iw (hr.mono (by decide)) rfl aH (ae (ac 0) (ae ao ag)) (aj (aj aC))) (ae ao (ae ao ag))) (aj (aj (aj aC))))))
   (al (aV (bU (ae (ac 1) (ae (ac 2) ag)))))))
def mZ:n_ ["self","window","most"] ["self","window","most"] (j_ fH):=Ih
def du(G:Cs):Hd:=(aI (cN G.c_ [] "window" h_ w_)
 (aI (cN G.c_ ["window"] "most" h_ Hv)
 (aI (cN G.c_ ["window","most"] "messages" h_ (cg ai))
 (aI (cN G.c_ ["window","most","messages"] "sure" h_ (dI 0))
 (aI (cN G.c_ ["window","most","messages","sure"] "opening" h_ (dI 0))
 (aI (cN G.c_ ["window","most","messages","sure","opening"] "state" h_ (dT "shut"))
 (aI (cN G.c_ ["window","most","messages","sure","opening","state"] "pieces" h_ (cg ai))
 (aI (cN G.c_ ["window","most","messages","sure","opening","state","pieces"] "base" h_ (dI 0))
 (cN G.c_ ["window","most","messages","sure","opening","state","pieces","base"] "noted" h_ kO)))))))))
def b9(G:Cs):List D->M D:=fun xs S=>fin S (du G (xs.map some++replicate (3-xs.length) none) S)
def mO{G:Cs}(T:Txt K mg G){f:Addr}{fd:FuncData}(F:HP K "__init__" "Sender.__init__" fH f fd):HW P w K mg base (A_ P w) 1 f fd ["self","window","most"] (b9 G):=by
 refine qP F mZ (fun _ _ _ _ _ _=>n9) (fun Hb A outer s H E hr=>⟨du G,?_,fun xs S0 hl=>nz⟩);have hu:=hr.units;exact(aq (cP T.k_ T.HB (by decide) (by decide +kernel) (ac 0) (ac 1))
   (aq (cP T.k_ T.Je (by decide) (by decide +kernel) (ac 0) (ac 2))
   (aq (cP T.k_ T.Iq (by decide) (by decide +kernel) (ac 0) (cq ag))
   (aq (cP T.k_ T.IF (by decide) (by decide +kernel) (ac 0) ao)
   (aq (cP T.k_ T.HI (by decide) (by decide +kernel) (ac 0) ao)
   (aq (cP T.k_ T.E_ (by decide) (by decide +kernel) (ac 0) aK)
   (aq (cP T.k_ T.G5 (by decide) (by decide +kernel) (ac 0) (cq ag))
   (aq (cP T.k_ T.G9 (by decide) (by decide +kernel) (ac 0) ao)
   (al (cP T.k_ T.Im (by decide) (by decide +kernel) (ac 0) pV))))))))))
def mD:n_ ["self","window"] ["self","window"] (j_ fO):=Ih
def dq(G:Cs):Hd:=(aI (cN G.i_ [] "window" h_ w_)
 (aI (cN G.i_ ["window"] "given" h_ (cg ai))
 (aI (cN G.i_ ["window","given"] "opening" h_ (dI 0))
 (aI (cN G.i_ ["window","given","opening"] "next_index" h_ (dI 0))
 (aI (cN G.i_ ["window","given","opening","next_index"] "early" h_ kO)
 (cN G.i_ ["window","given","opening","next_index","early"] "begun" h_ (cg ai)))))))
def bQ(G:Cs):List D->M D:=fun xs S=>fin S (dq G (xs.map some++replicate (2-xs.length) none) S)
def mz{G:Cs}(T:Txt K mg G){f:Addr}{fd:FuncData}(F:HP K "__init__" "Hearer.__init__" fO f fd):HW P w K mg base (A_ P w) 1 f fd ["self","window"] (bQ G):=by
 refine qP F mD (fun _ _ _ _ _ _=>n9) (fun Hb A outer s H E hr=>⟨dq G,?_,fun xs S0 hl=>nz⟩);have hu:=hr.units;exact(aq (cP T.r_ T.HA (by decide) (by decide +kernel) (ac 0) (ac 1))
   (aq (cP T.r_ T.IV (by decide) (by decide +kernel) (ac 0) (cq ag))
   (aq (cP T.r_ T.G7 (by decide) (by decide +kernel) (ac 0) ao)
   (aq (cP T.r_ T.C_ (by decide) (by decide +kernel) (ac 0) ao)
   (aq (cP T.r_ T.Hq (by decide) (by decide +kernel) (ac 0) pV)
   (al (cP T.r_ T.HY (by decide) (by decide +kernel) (ac 0) (cq ag))))))))
def nQ:n_ ["self","window","most"] ["self","window","most"] (j_ gi):=Ih
def dS(G:Cs):Hd:=(aI (cN G.World [] "sender" h_ (ak (jf G.c_ (b9 G)) (aa w_ (aa Hv ai))))
 (aI (cN G.World ["sender"] "hearer" h_ (ak (jf G.i_ (bQ G)) (aa w_ ai)))
 (cN G.World ["sender","hearer"] "roads" h_ (qj (jc (dT "there") (cg ai) (jc (dT "back") (cg ai) sX))))))
def cH(G:Cs):List D->M D:=fun xs S=>fin S (dS G (xs.map some++replicate (3-xs.length) none) S)
def nw{G:Cs}(T:Txt K mg G)(Pk:NV P w K mg base (A_ P w) "Sender" G.c_ 1 ["self","window","most"] (b9 G))(Pl:NV P w K mg base (A_ P w) "Hearer" G.i_ 1 ["self","window"] (bQ G)){f:Addr}{fd:FuncData}(F:HP K "__init__" "World.__init__" gi f fd):HW P w K mg base (A_ P w) 3 f fd ["self","window","most"] (cH G):=by
 refine qP F nQ (fun _ _ _ _ _ _=>n9) (fun Hb A outer s H E hr=>⟨dS G,?_,fun xs S0 hl=>nz⟩);have hu:=hr.units;exact(aq (cP T.u_ T.Hl (by decide) (by decide +kernel) (ac 0) (u9 Pk (hr.mono (by decide)) rfl aH (ae (ac 1) (ae (ac 2) ag)) (d9 (aj (aj aC)))))
   (aq (cP T.u_ T.Io (by decide) (by decide +kernel) (ac 0) (u9 Pl (hr.mono (by decide)) rfl aH (ae (ac 1) ag) (d9 (aj aC))))
   (al (cP T.u_ T.G3 (by decide) (by decide +kernel) (ac 0) (Db (vP aK (cq ag) (vP aK (cq ag) CW)))))))
def HU:n_ ["_law_script","_law_falls","_law_found","_law_cell_here","_law_turn","_law_road"] ["_law_script","_law_falls"] (j_ lb):=Ih
def fA:Hd:=(aI (cz (ak aG (aa Hk (aa (dI 9859) (aa (dI 20) ai)))) (gN 4))
 (aI (cz (g_ y_ (cg (aa (dT "there") (aa (dT "back") ai))) (ak aG (aa Hk (aa (dI 9857) (aa (dI 2) ai))))) (gN 5))
 (HX (am (g_ JO Jy (dI 2))) (bu (KG j2 Hv (aa (bY (aa (dT "hand") (aa Hk ai))) ai))) (HX (am (g_ JO Jy (dI 6))) (bu (KG j2 Hv (aa (bY (aa (dT "tick") ai)) ai))) (HX (am (g_ JO Jy (dI 14))) (cz (g_ bK Hv (g_ ix (cg (aa (bY (aa (dT "step") (aa PT ai))) ai)) (g_ bK (dI 1) (ak aG (aa Hk (aa (dI 9851) (aa (dI 4) ai))))))) (gN 2)) (HX (am (g_ JO Jy (dI 17))) (bu (KG j2 Hv (aa (bY (aa (g_ y_ (cg (aa (dT "lose") (aa (dT "double") (aa (dT "spoil") ai)))) (g_ sL Jy (dI 14))) (aa PT (aa (ak aG (aa Hk (aa (dI 9839) (aa (dI 6) ai)))) (aa Hk ai))))) ai))) (HX (dg (am (g_ G_ Jy (dI 17))) (bW w_)) (cz (g_ bK Hv (cg (aa (bY (aa (dT "fall") (aa (g_ y_ (cg (aa (dT "sender") (aa (dT "hearer") ai))) (ak aG (aa Hk (aa (dI 9833) (aa (dI 2) ai))))) ai))) ai))) (gN 2)) (bu (KG j2 Hv (aa (bY (aa (dT "open") ai)) ai))))))))))
def kL:Hd:=(aI (cz (cg (aa (bY (aa (dT "open") ai)) (aa (bY (aa (dT "hand") (aa (ak bA (aa h_ (aa (dI 2) ai))) ai))) ai))) (gN 2))
 (aI (ny (Js (JT Jd h_ (bL (dI 3)) (bL (dI 63)))) (gN 3) fA)
 (bJ Hv)))
def jq:List D->M D:=mF 6 kL
def vi{G:Cs}(T:Txt K mg G)(Iw:Jn P w K mg base (A_ P w) "_law_cell" 1 ["_law_script","_law_k"] bA)(Hh:Jn P w K mg base (A_ P w) "_law_mix" 1 ["_law_cell_here","_law_prime","_law_many"] aG){f:Addr}{fd:FuncData}(F:HP K "_law_acts" "_law_acts" lb f fd):HW P w K mg base (A_ P w) 2 f fd ["_law_script","_law_falls"] jq:=by
 refine fE F HU fun Hb A outer s H E hr=>?_
 have hu:=hr.units;exact(aq (bI (i:=2) HU.nd (cq (ae (bU (ae aK ag)) (ae (bU (ae aK (ae (aM Iw (hr.mono (by decide)) rfl aH (ae (ac 0) (ae ao ag)) (aj (aj aC))) ag))) ag))))
   (aq (jR rfl (dQ (eR PQ (ac 0) (df ao) (df ao))) (bP (i:=3) HU.nd) (aq (bI (i:=4) HU.nd (aM Hh (hr.mono (by decide)) rfl aH (ae (ac 3) (ae ao (ae ao ag))) (aj (aj (aj aC)))))
   (aq (bI (i:=5) HU.nd (aL HS (cq (ae aK (ae aK ag))) (aM Hh (hr.mono (by decide)) rfl aH (ae (ac 3) (ae ao (ae ao ag))) (aj (aj (aj aC)))) (fun _ _=>rfl)))
   (al (bw (aD jV (ac 4) ao (aJ _)) (al (aP (d8 PySem.F.slot_list_append PySem.F.type_list_append dh (ac 2) (ae (bU (ae aK (ae (ac 3) ag))) ag)))) (al (bw (aD jV (ac 4) ao (aJ _)) (al (aP (d8 PySem.F.slot_list_append PySem.F.type_list_append dh (ac 2) (ae (bU (ae aK ag)) ag)))) (al (bw (aD jV (ac 4) ao (aJ _)) (al (bI (i:=2) HU.nd (bG cm (ac 2) (bG lB (cq (ae (bU (ae aK (ae (ac 5) ag))) ag)) (bG cm ao (aM Hh (hr.mono (by decide)) rfl aH (ae (ac 3) (ae ao (ae ao ag))) (aj (aj (aj aC))))))))) (al (bw (aD jV (ac 4) ao (aJ _)) (al (aP (d8 PySem.F.slot_list_append PySem.F.type_list_append dh (ac 2) (ae (bU (ae (aL HS (cq (ae aK (ae aK (ae aK ag)))) (bG w8 (ac 4) ao) (fun _ _=>rfl)) (ae (ac 5) (ae (aM Hh (hr.mono (by decide)) rfl aH (ae (ac 3) (ae ao (ae ao ag))) (aj (aj (aj aC)))) (ae (ac 3) ag))))) ag)))) (al (bw (Lc.pt (eA (aD (cj hu) (ac 4) ao (aJ _)) (dD (da (ac 1))))) (al (bI (i:=2) HU.nd (bG cm (ac 2) (cq (ae (bU (ae aK (ae (aL HS (cq (ae aK (ae aK ag))) (aM Hh (hr.mono (by decide)) rfl aH (ae (ac 3) (ae ao (ae ao ag))) (aj (aj (aj aC)))) (fun _ _=>rfl)) ag))) ag))))) (al (aP (d8 PySem.F.slot_list_append PySem.F.type_list_append dh (ac 2) (ae (bU (ae aK ag)) ag)))))))))))))))))
   (al (aV (ac 2)))))
def JP:n_ ["_law_cell_here","_law_longest","_law_many"] ["_law_cell_here","_law_longest"] (j_ iS):=Ih
def ie:Hd:=(aI (cz (ak aG (aa h_ (aa (dI 9973) (aa (g_ bK w_ (dI 1)) ai)))) (gN 2))
 (bJ (ak fm (aa (eC (o7 Hv) (gN 0) gQ (ak aG (aa (g_ bK w_ (g_ ix (dI 31) h_)) (aa (dI 9967) (aa (dI 256) ai)))) 1 [0]) ai))))
def cy:List D->M D:=mP 3 ie
def pz{G:Cs}(T:Txt K mg G)(Hh:Jn P w K mg base (A_ P w) "_law_mix" 1 ["_law_cell_here","_law_prime","_law_many"] aG){f:Addr}{fd:FuncData}(F:HP K "_law_message" "_law_message" iS f fd):HW P w K mg base (A_ P w) 2 f fd ["_law_cell_here","_law_longest"] cy:=by
 refine fG F JP fun Hb A outer s H E hr=>?_
 have hu:=hr.units;exact(aq (bI (i:=2) JP.nd (aM Hh (hr.mono (by decide)) rfl aH (ae (ac 0) (ae ao (ae (bG cm (ac 1) ao) ag))) (aj (aj (aj aC)))))
   (al (aV (dG gS rfl T.IE boot_tuple (ae (ga (own:=["_law_k"]) (capN:=["_law_cell_here"]) (caps:=[0]) ⟨rfl,Kx.all ⟨rfl,trivial⟩,rfl,by decide +kernel,rfl,by decide +kernel,⟨⟨rfl,Or.inl rfl,Or.inl rfl,rfl⟩,trivial⟩,by decide +kernel⟩ rfl (mI rfl T.KQ (ac 2)) (gF (by decide)) (fun C s2 H2 fp=>⟨(bP (i:=0) (show(["_law_k","_law_cell_here"]:List Str).Nodup from by decide +kernel)),kq,(aM Hh (hr.mono (by decide)) rfl aH (ae (bG cm (ac 1) (bG lB ao (ac 0))) (ae ao (ae ao ag))) (aj (aj (aj aC))))⟩)) ag)))))
def rM:n_ ["_law_acts_here"] ["_law_acts_here"] (j_ jA):=Ih
def d6:Hd:=(bJ (eC (Js h_) (gN 0) (am (g_ G_ (g_ y_ h_ (dI 0)) (dT "hand"))) (ak cy (aa (g_ y_ h_ (dI 1)) (aa (dI 12) ai))) 1 []))
def eN:List D->M D:=mF 1 d6
def qz{G:Cs}(T:Txt K mg G)(Jf:Jn P w K mg base (A_ P w) "_law_message" 2 ["_law_cell_here","_law_longest"] cy){f:Addr}{fd:FuncData}(F:HP K "_law_handed" "_law_handed" jA f fd):HW P w K mg base (A_ P w) 3 f fd ["_law_acts_here"] eN:=by
 refine fE F rM fun Hb A outer s H E hr=>?_
 have hu:=hr.units;exact(al (aV (ga (own:=["_law_act"]) (capN:=[]) (caps:=[]) ⟨rfl,Kx.all trivial,rfl,by decide +kernel,rfl,by decide +kernel,trivial,by decide +kernel⟩ rfl (dQ (ac 0)) (gF (by decide)) (fun C s2 H2 fp=>⟨(bP (i:=0) (show(["_law_act"]:List Str).Nodup from by decide +kernel)),(BH (aD (cj hu) (aL HS (ac 0) ao (fun _ _=>rfl)) aK (aJ _))),(aM Jf (hr.mono (by decide)) rfl aH (ae (aL HS (ac 0) ao (fun _ _=>rfl)) (ae ao ag)) (aj (aj aC)))⟩))))
def IG:n_ ["message","most","size","pieces","rest"] ["message","most"] (j_ lA):=Ih
def ko(fuel:Nat):Hd:=(aI (cz (ak Ae (aa w_ (aa (dI 1) ai))) (gN 2))
 (aI (cz (cg ai) (gN 3))
 (aI (cz h_ (gN 4))
 (aI (gf (am (g_ Q0 (ak bq (aa Jy ai)) Hv)) (aI (bu (KG j2 Hk (aa (bY (aa (dI 0) (aa (JT Jd Jy bV (bL Hv)) ai))) ai)))
 (cz (JT Jd Jy (bL Hv) bV) (gN 4))) fuel)
 (aI (bu (KG j2 Hk (aa (bY (aa (dI 1) (aa Jy ai))) ai)))
 (bJ (ak fm (aa Hk ai))))))))
def dm:List D->M D:=fun xs S=>cI S (ko 100 (xs.map some++replicate (5-xs.length) none) S)
def uR{G:Cs}(T:Txt K mg G){f:Addr}{fd:FuncData}(F:HP K "pieces_of" "pieces_of" lA f fd):HW P w K mg base (A_ P w) 1 f fd ["message","most"] dm:=by
 refine fG F IG fun Hb A outer s H E hr=>?_
 have hu:=hr.units;have V5:(100:Nat)=100:=rfl
 generalize hfe:(100:Nat)=fuel at V5
 exact(aq (bI (i:=2) IG.nd (bj (BV rfl) rfl T.Q8 boot_max (ae (ac 1) (ae ao ag))))
   (aq (bI (i:=3) IG.nd (cq ag))
   (aq (bI (i:=4) IG.nd (ac 0))
   (aq (wg fuel (aD Bx (bj cJ rfl T.Ie boot_len (ae (ac 4) ag)) (ac 2) (aJ _)) (aq (aP (d8 PySem.F.slot_list_append PySem.F.type_list_append dh (ac 3) (ae (bU (ae ao (ae (eR PQ (ac 4) jl (df (ac 2))) ag))) ag)))
   (al (bI (i:=4) IG.nd (eR PQ (ac 4) (df (ac 2)) jl)))))
   (aq (aP (d8 PySem.F.slot_list_append PySem.F.type_list_append dh (ac 3) (ae (bU (ae ao (ae (ac 4) ag))) ag)))
   (al (aV (dG gS rfl T.IE boot_tuple (ae (ac 3) ag)))))))))
def qQ:n_ ["self","message"] ["self","message"] (j_ jy):=Ih
def ji(G:Cs):Hd:=(aI (bu (KG j2 (aA G.c_ a_ 2 h_) (aa w_ ai)))
 (HX (am (g_ Jp (aA G.c_ a_ 5 h_) (dT "shut"))) (bu (KG sU (aA G.c_ a_ 6 h_) (aa (ak dm (aa w_ (aa (aA G.c_ a_ 1 h_) ai))) ai))) bD))
def gB(G:Cs):List D->M D:=mF 2 (ji G)
def sd{G:Cs}(T:Txt K mg G)(JX:Jn P w K mg base (A_ P w) "pieces_of" 1 ["message","most"] dm){f:Addr}{fd:FuncData}(F:HP K "hand" "Sender.hand" jy f fd):HW P w K mg base (A_ P w) 2 f fd ["self","message"] (gB G):=by
 refine fE F qQ fun Hb A outer s H E hr=>?_
 have hu:=hr.units;exact(aq (aP (d8 PySem.F.slot_list_append PySem.F.type_list_append dh (aE T.k_ T.Iq aF (ac 0)) (ae (ac 1) ag)))
   (al (bw (aD (n5 hu) (aE T.k_ T.E_ aF (ac 0)) aK (aJ _)) (al (aP (d8 slot_list_extend type_list_extend oB (aE T.k_ T.G5 aF (ac 0)) (ae (aM JX (hr.mono (by decide)) rfl aH (ae (ac 1) (ae (aE T.k_ T.Je aF (ac 0)) ag)) (aj (aj aC))) ag)))) aZ)))
def sm:n_ ["self","message"] ["self","message"] (j_ kG):=Ih
def jS(G:Cs):Hd:=(bu (aX G.c_ a_ (gB G) (aA G.World m_ 0 h_) (aa w_ ai)))
def ip(G:Cs):List D->M D:=mF 2 (jS G)
def sK{G:Cs}(T:Txt K mg G)(L9:Hx P w K mg base (A_ P w) G.c_ "hand" 2 ["self","message"] (gB G)){f:Addr}{fd:FuncData}(F:HP K "hand" "World.hand" kG f fd):HW P w K mg base (A_ P w) 3 f fd ["self","message"] (ip G):=by
 refine fE F sm fun Hb A outer s H E hr=>?_
 have hu:=hr.units;exact(al (aP (bB L9 (hr.mono (by decide)) T.k_ (by decide +kernel) aH (aE T.u_ T.Hl bZ (ac 0)) (ae (ac 1) ag) (d9 (aj aC)))))
def Jg:n_ ["cells","summed","weighed"] ["cells"] (j_ jB):=Ih
def jn:Hd:=(aI (cz (g_ bK h_ (bY (aa (g_ jT (ak lX (aa h_ ai)) (dI 256)) ai))) (gN 1))
 (aI (cz (ak lX (aa (eC (uE 1 w_) (gT [0,1]) gQ (g_ ix h_ w_) 2 []) ai)) (gN 2))
 (bJ (g_ bK w_ (bY (aa (g_ jT Hv (dI 256)) ai))))))
def cE:List D->M D:=mP 3 jn
def rV{G:Cs}(T:Txt K mg G){f:Addr}{fd:FuncData}(F:HP K "with_checks" "with_checks" jB f fd):HW P w K mg base (A_ P w) 1 f fd ["cells"] cE:=by
 refine fG F Jg fun Hb A outer s H E hr=>?_
 have hu:=hr.units;exact(aq (bI (i:=1) Jg.nd (bG cm (ac 0) (bU (ae (bG iX (bj (vk rfl) rfl T.Oq boot_sum (ae (ac 0) ag)) ao) ag))))
   (aq (bI (i:=2) Jg.nd (bj (vk rfl) rfl T.Oq boot_sum (ae (ga (own:=["place","cell"]) (capN:=[]) (caps:=[]) ⟨rfl,Kx.all trivial,rfl,by decide +kernel,rfl,by decide +kernel,trivial,by decide +kernel⟩ rfl (Af rfl T.Lf (ac 1)) (DU (by decide)) (fun C s2 H2 fp=>⟨(uY rfl (gP (bP (i:=0) (show(["place","cell"]:List Str).Nodup from by decide +kernel)) (gP (bP (i:=1) (show(["place","cell"]:List Str).Nodup from by decide +kernel)) pY))),kq,(bG lB (ac 0) (ac 1))⟩)) ag)))
   (al (aV (bG cm (ac 1) (bU (ae (bG iX (ac 2) ao) ag)))))))
def wP:n_ ["thing","top"] ["thing","top"] (j_ mR):=Ih
def lv:Hd:=(bJ (kM (M_ "int" h_) (kM (BZ (M_ "bool" h_)) (oW Om Om (dI 0) h_ w_))))
def aQ:List D->M D:=mF 2 lv
def wS{G:Cs}(T:Txt K mg G){f:Addr}{fd:FuncData}(F:HP K "is_whole" "is_whole" mR f fd):HW P w K mg base (A_ P w) 1 f fd ["thing","top"] aQ:=by
 refine fE F wP fun Hb A outer s H E hr=>?_
 have hu:=hr.units;exact(al (aV (mt (jU (ac 0) rfl T.ID rfl T.Q7 boot_int (Cj _)) (mt (EU (jU (ac 0) rfl T.ID rfl T.RN boot_bool (Bm _))) (ol (qO qu qu ao (ac 0) (ac 1)))))))
def z9:n_ ["thing","top"] ["thing","top"] (j_ qi):=Ih
def oU:Hd:=(bJ (kM (M_ "tuple" h_) (ak B4 (aa (eC (Js h_) (gN 0) gQ (ak aQ (aa h_ (aa w_ ai))) 1 [1]) ai))))
def cb:List D->M D:=mP 2 oU
def zP{G:Cs}(T:Txt K mg G)(IP:Jn P w K mg base (A_ P w) "is_whole" 1 ["thing","top"] aQ){f:Addr}{fd:FuncData}(F:HP K "is_row" "is_row" qi f fd):HW P w K mg base (A_ P w) 2 f fd ["thing","top"] cb:=by
 refine fG F z9 fun Hb A outer s H E hr=>?_
 have hu:=hr.units;exact(al (aV (mt (jU (ac 0) rfl T.ID rfl T.IE boot_tuple (oK _)) (ol (bj (Fd rfl) rfl T.Tv boot_all (ae (ga (own:=["part"]) (capN:=["top"]) (caps:=[1]) ⟨rfl,Kx.all ⟨rfl,trivial⟩,rfl,by decide +kernel,rfl,by decide +kernel,⟨⟨rfl,Or.inl rfl,Or.inl rfl,rfl⟩,trivial⟩,by decide +kernel⟩ rfl (dQ (ac 0)) (gF (by decide)) (fun C s2 H2 fp=>⟨(bP (i:=0) (show(["part","top"]:List Str).Nodup from by decide +kernel)),kq,(aM IP (hr.mono (by decide)) rfl aH (ae (ac 0) (ae (ac 1) ag)) (aj (aj aC)))⟩)) ag))))))
def vw:n_ ["thing"] ["thing"] (j_ mU):=Ih
def gM:Hd:=(aI (HX (JH (dl (bW (M_ "tuple" h_))) (am (g_ Jp (ak bq (aa h_ ai)) (dI 2)))) (bJ (dC (.bl false))) bD)
 (bJ (kM (ak aQ (aa (g_ y_ h_ (dI 0)) (aa (dI 1) ai))) (kM (ak cb (aa (g_ y_ h_ (dI 1)) (aa (dC HC) ai))) (g_ Om (ak bq (aa (g_ y_ h_ (dI 1)) ai)) (dC HH))))))
def iP:List D->M D:=mP 1 gM
def wD{G:Cs}(T:Txt K mg G)(IP:Jn P w K mg base (A_ P w) "is_whole" 1 ["thing","top"] aQ)(JY:Jn P w K mg base (A_ P w) "is_row" 2 ["thing","top"] cb){f:Addr}{fd:FuncData}(F:HP K "is_piece" "is_piece" mU f fd):HW P w K mg base (A_ P w) 3 f fd ["thing"] iP:=by
 refine fG F vw fun Hb A outer s H E hr=>?_
 have hu:=hr.units;exact(aq (bw (Lc.pt (ku (iw (da (jU (ac 0) rfl T.ID rfl T.IE boot_tuple (oK _)))) (lM (aD (n5 hu) (bj cJ rfl T.Ie boot_len (ae (ac 0) ag)) ao (aJ _))))) (al (aV nY)) aZ)
   (al (aV (mt (aM IP (hr.mono (by decide)) rfl aH (ae (aL HS (ac 0) ao (fun _ _=>rfl)) (ae ao ag)) (aj (aj aC))) (mt (aM JY (hr.mono (by decide)) rfl aH (ae (aL HS (ac 0) ao (fun _ _=>rfl)) (ae (db rfl T.LF) ag)) (aj (aj aC))) (ol (lr qu (bj cJ rfl T.Ie boot_len (ae (aL HS (ac 0) ao (fun _ _=>rfl)) ag)) (db rfl T.JW) (aJ _))))))))
def wo:n_ ["thing"] ["thing"] (j_ mL):=Ih
def gX:Hd:=(bJ (kM (ak cb (aa h_ (aa (dI 1) ai))) (g_ Om (ak bq (aa h_ ai)) (dC Jq))))
def iV:List D->M D:=mP 1 gX
def wK{G:Cs}(T:Txt K mg G)(JY:Jn P w K mg base (A_ P w) "is_row" 2 ["thing","top"] cb){f:Addr}{fd:FuncData}(F:HP K "are_bits" "are_bits" mL f fd):HW P w K mg base (A_ P w) 3 f fd ["thing"] iV:=by
 refine fG F wo fun Hb A outer s H E hr=>?_
 have hu:=hr.units;exact(al (aV (mt (aM JY (hr.mono (by decide)) rfl aH (ae (ac 0) (ae ao ag)) (aj (aj aC))) (ol (lr qu (bj cJ rfl T.Ie boot_len (ae (ac 0) ag)) (db rfl T.Nm) (aJ _))))))
def xl:n_ ["thing"] ["thing"] (j_ oz):=Ih
def fj:Hd:=(aI (HX (JH (dl (bW (M_ "tuple" h_))) (JH (am (g_ JO (ak bq (aa h_ ai)) (dI 2))) (dl (bW (ak aQ (aa (g_ y_ h_ (dI 1)) (aa (dC Hy) ai))))))) (bJ (dC (.bl false))) bD)
 (aI (HX (am (g_ inD (g_ y_ h_ (dI 0)) (dC eO))) (bJ (g_ G_ (ak bq (aa h_ ai)) (dI 2))) bD)
 (aI (HX (JH (am (g_ Jp (ak bq (aa h_ ai)) (dI 4))) (dl (bW (ak aQ (aa (g_ y_ h_ (dI 2)) (aa (dC Hf) ai)))))) (bJ (dC (.bl false))) bD)
 (aI (HX (am (g_ G_ (g_ y_ h_ (dI 0)) (dT "data"))) (bJ (ak iP (aa (g_ y_ h_ (dI 3)) ai))) bD)
 (bJ (kM (g_ G_ (g_ y_ h_ (dI 0)) (dT "note")) (ak iV (aa (g_ y_ h_ (dI 3)) ai))))))))
def cU:List D->M D:=mP 1 fj
def xW{G:Cs}(T:Txt K mg G)(IP:Jn P w K mg base (A_ P w) "is_whole" 1 ["thing","top"] aQ)(NY:Jn P w K mg base (A_ P w) "is_piece" 3 ["thing"] iP)(NZ:Jn P w K mg base (A_ P w) "are_bits" 3 ["thing"] iV){f:Addr}{fd:FuncData}(F:HP K "is_card" "is_card" oz f fd):HW P w K mg base (A_ P w) 4 f fd ["thing"] cU:=by
 refine fG F xl fun Hb A outer s H E hr=>?_
 have hu:=hr.units;exact(aq (bw (Lc.pt (ku (iw (da (jU (ac 0) rfl T.ID rfl T.IE boot_tuple (oK _)))) (ku (aD jV (bj cJ rfl T.Ie boot_len (ae (ac 0) ag)) ao (aJ _)) (lM (iw (da (aM IP (hr.mono (by decide)) rfl aH (ae (aL HS (ac 0) ao (fun _ _=>rfl)) (ae (db rfl T.L8) ag)) (aj (aj aC))))))))) (al (aV nY)) aZ)
   (aq (bw (aD (FN hu) (aL HS (ac 0) ao (fun _ _=>rfl)) (db rfl T.L7.glob) (by with_unfolding_all rfl)) (al (aV (lr (cj hu) (bj cJ rfl T.Ie boot_len (ae (ac 0) ag)) ao (aJ _)))) aZ)
   (aq (bw (Lc.pt (ku (aD (n5 hu) (bj cJ rfl T.Ie boot_len (ae (ac 0) ag)) ao (aJ _)) (lM (iw (da (aM IP (hr.mono (by decide)) rfl aH (ae (aL HS (ac 0) ao (fun _ _=>rfl)) (ae (db rfl T.MP) ag)) (aj (aj aC)))))))) (al (aV nY)) aZ)
   (aq (bw (aD (cj hu) (aL HS (ac 0) ao (fun _ _=>rfl)) aK (aJ _)) (al (aV (aM NY (hr.mono (by decide)) rfl aH (ae (aL HS (ac 0) ao (fun _ _=>rfl)) ag) (aj aC)))) aZ)
   (al (aV (mt (lr (cj hu) (aL HS (ac 0) ao (fun _ _=>rfl)) aK (aJ _)) (ol (aM NZ (hr.mono (by decide)) rfl aH (ae (aL HS (ac 0) ao (fun _ _=>rfl)) ag) (aj aC))))))))))
def Lg:n_ ["card","head"] ["card"] (j_ mv):=Ih
def lu:Hd:=(aI (cz (bY (aa (nj ez (aa (g_ y_ h_ (dI 0)) ai)) (aa (g_ wF (g_ y_ h_ (dI 1)) (dI 256)) (aa (g_ jT (g_ y_ h_ (dI 1)) (dI 256)) ai)))) (gN 1))
 (aI (HX (am (g_ G_ (g_ y_ h_ (dI 0)) (dT "data"))) (bJ (g_ bK (g_ bK w_ (bY (aa (g_ y_ h_ (dI 2)) (aa (g_ y_ (g_ y_ h_ (dI 3)) (dI 0)) ai)))) (g_ y_ (g_ y_ h_ (dI 3)) (dI 1)))) bD)
 (aI (HX (am (g_ G_ (g_ y_ h_ (dI 0)) (dT "note"))) (bJ (g_ bK (g_ bK w_ (bY (aa (g_ y_ h_ (dI 2)) ai))) (g_ y_ h_ (dI 3)))) bD)
 (bJ w_))))
def kF:List D->M D:=mP 2 lu
def wM{G:Cs}(T:Txt K mg G){f:Addr}{fd:FuncData}(F:HP K "cells_of" "cells_of" mv f fd):HW P w K mg base (A_ P w) 1 f fd ["card"] kF:=by
 refine fG F Lg fun Hb A outer s H E hr=>?_
 have hu:=hr.units;exact(aq (bI (i:=1) Lg.nd (bU (ae (xQ rfl T.MO (ae (aL HS (ac 0) ao (fun _ _=>rfl)) ag)) (ae (bG yY (aL HS (ac 0) ao (fun _ _=>rfl)) ao) (ae (bG iX (aL HS (ac 0) ao (fun _ _=>rfl)) ao) ag)))))
   (aq (bw (aD (cj hu) (aL HS (ac 0) ao (fun _ _=>rfl)) aK (aJ _)) (al (aV (bG cm (bG cm (ac 1) (bU (ae (aL HS (ac 0) ao (fun _ _=>rfl)) (ae (aL HS (aL HS (ac 0) ao (fun _ _=>rfl)) ao (fun _ _=>rfl)) ag)))) (aL HS (aL HS (ac 0) ao (fun _ _=>rfl)) ao (fun _ _=>rfl))))) aZ)
   (aq (bw (aD (cj hu) (aL HS (ac 0) ao (fun _ _=>rfl)) aK (aJ _)) (al (aV (bG cm (bG cm (ac 1) (bU (ae (aL HS (ac 0) ao (fun _ _=>rfl)) ag))) (aL HS (ac 0) ao (fun _ _=>rfl))))) aZ)
   (al (aV (ac 1))))))
def xw:n_ ["card"] ["card"] (j_ oP):=Ih
def mQ(G:Cs):Hd:=(aI (HX (dl (bW (ak cU (aa h_ ai)))) (oq G.Ph (dT "this is no card")) bD)
 (bJ (ak cE (aa (ak kF (aa h_ ai)) ai))))
def jX(G:Cs):List D->M D:=mP 1 (mQ G)
def xG{G:Cs}(T:Txt K mg G)(K7:Jn P w K mg base (A_ P w) "is_card" 4 ["thing"] cU)(N0:Jn P w K mg base (A_ P w) "cells_of" 1 ["card"] kF)(Jt:Jn P w K mg base (A_ P w) "with_checks" 1 ["cells"] cE){f:Addr}{fd:FuncData}(F:HP K "written" "written" oP f fd):HW P w K mg base (A_ P w) 5 f fd ["card"] (jX G):=by
 refine fG F xw fun Hb A outer s H E hr=>?_
 have hu:=hr.units;exact(aq (bw (iw (da (aM K7 (hr.mono (by decide)) rfl aH (ae (ac 0) ag) (aj aC)))) (al (oa T.Pj rfl rfl aK)) aZ)
   (al (aV (aM Jt (hr.mono (by decide)) rfl aH (ae (aM N0 (hr.mono (by decide)) rfl aH (ae (ac 0) ag) (aj aC)) ag) (aj aC)))))
def IY:n_ ["self","road","cards","card"] ["self","road","cards"] (j_ ff):=Ih
def dM(G:Cs):Hd:=(bu (KG j2 (g_ gK (aA G.World m_ 2 h_) w_) (aa (bY (aa (ak (jX G) (aa Hk ai)) (aa (dC (.bl false)) ai))) ai)))
def eE(G:Cs):Hd:=(ny (Js Hv) (gN 3) (dM G))
def bX(G:Cs):List D->M D:=mF 4 (eE G)
def lW{G:Cs}(T:Txt K mg G)(OK:Jn P w K mg base (A_ P w) "written" 5 ["card"] (jX G)){f:Addr}{fd:FuncData}(F:HP K "put_behind" "World.put_behind" ff f fd):HW P w K mg base (A_ P w) 6 f fd ["self","road","cards"] (bX G):=by
 refine fE F IY fun Hb A outer s H E hr=>?_
 have hu:=hr.units;exact(al (jR rfl (dQ (ac 2)) (bP (i:=3) IY.nd) (al (aP (d8 PySem.F.slot_list_append PySem.F.type_list_append dh (aL (sk hu) (aE T.u_ T.G3 bZ (ac 0)) (ac 1) (fun _ _=>rfl)) (ae (bU (ae (aM OK (hr.mono (by decide)) rfl aH (ae (ac 3) ag) (aj aC)) (ae nY ag))) ag))))))
def um:n_ ["index","window"] ["index","window"] (j_ kY):=Ih
def nU:Hd:=(bJ (g_ jT h_ (g_ ix (dI 2) w_)))
def d4:List D->M D:=mF 2 nU
def uH{G:Cs}(T:Txt K mg G){f:Addr}{fd:FuncData}(F:HP K "number_of" "number_of" kY f fd):HW P w K mg base (A_ P w) 1 f fd ["index","window"] d4:=by
 refine fE F um fun Hb A outer s H E hr=>?_
 have hu:=hr.units;exact(al (aV (bG iX (ac 0) (bG lB ao (ac 1)))))
def m0:n_ ["self","index"] ["self","index"] (j_ gq):=Ih
def fR(G:Cs):Hd:=(bJ (bY (aa (dT "data") (aa (aA G.c_ a_ 4 h_) (aa (ak d4 (aa w_ (aa (aA G.c_ a_ 0 h_) ai))) (aa (g_ y_ (aA G.c_ a_ 6 h_) w_) ai))))))
def dj(G:Cs):List D->M D:=mF 2 (fR G)
def nr{G:Cs}(T:Txt K mg G)(JZ:Jn P w K mg base (A_ P w) "number_of" 1 ["index","window"] d4){f:Addr}{fd:FuncData}(F:HP K "data_of" "Sender.data_of" gq f fd):HW P w K mg base (A_ P w) 2 f fd ["self","index"] (dj G):=by
 refine fE F m0 fun Hb A outer s H E hr=>?_
 have hu:=hr.units;exact(al (aV (bU (ae aK (ae (aE T.k_ T.HI aF (ac 0)) (ae (aM JZ (hr.mono (by decide)) rfl aH (ae (ac 1) (ae (aE T.k_ T.HB aF (ac 0)) ag)) (aj (aj aC))) (ae (aL HS (aE T.k_ T.G5 aF (ac 0)) (ac 1) (fun _ _=>rfl)) ag)))))))
def JB:n_ ["self","end"] ["self"] (j_ hV):=Ih
def gm(G:Cs):Hd:=(aI (cz (ak zF (aa (g_ bK (aA G.c_ a_ 7 h_) (aA G.c_ a_ 0 h_)) (aa (ak bq (aa (aA G.c_ a_ 6 h_) ai)) ai))) (gN 1))
 (bJ (eC (zk (aA G.c_ a_ 7 h_) w_) (gN 0) (am (g_ fT h_ (aA G.c_ a_ 8 w_))) h_ 1 [0])))
def dB(G:Cs):List D->M D:=mF 2 (gm G)
def oX{G:Cs}(T:Txt K mg G){f:Addr}{fd:FuncData}(F:HP K "wanted" "Sender.wanted" hV f fd):HW P w K mg base (A_ P w) 1 f fd ["self"] (dB G):=by
 refine fE F JB fun Hb A outer s H E hr=>?_
 have hu:=hr.units;exact(aq (bI (i:=1) JB.nd (bj (AR rfl) rfl T.Q9 boot_min (ae (bG cm (aE T.k_ T.G9 aF (ac 0)) (aE T.k_ T.HB aF (ac 0))) (ae (bj cJ rfl T.Ie boot_len (ae (aE T.k_ T.G5 aF (ac 0)) ag)) ag))))
   (al (aV (ga (own:=["index"]) (capN:=["self"]) (caps:=[0]) ⟨rfl,Kx.all ⟨rfl,trivial⟩,rfl,by decide +kernel,rfl,by decide +kernel,⟨⟨rfl,Or.inl rfl,Or.inl rfl,rfl⟩,trivial⟩,by decide +kernel⟩ rfl (xH rfl T.KQ (aE T.k_ T.G9 aF (ac 0)) (ac 1)) (gF (by decide)) (fun C s2 H2 fp=>⟨(bP (i:=0) (show(["index","self"]:List Str).Nodup from by decide +kernel)),(BH (aD (uh hu) (ac 0) (aE T.k_ T.Im aF (ac 1)) (by with_unfolding_all rfl))),(ac 0)⟩)))))
def qe:n_ ["self"] ["self"] (j_ jM):=Ih
def iG(G:Cs):Hd:=(aI (HX (am (g_ G_ (aA G.c_ a_ 5 h_) (dT "opening"))) (bJ (cg (aa (bY (aa (dT "hello") (aa (aA G.c_ a_ 4 h_) ai))) ai))) bD)
 (aI (HX (am (g_ G_ (aA G.c_ a_ 5 h_) (dT "open"))) (bJ (eC (Js (aX G.c_ a_ (dB G) h_ ai)) (gN 0) gQ (aX G.c_ a_ (dj G) w_ (aa h_ ai)) 1 [0])) bD)
 (bJ (cg ai))))
def gA(G:Cs):List D->M D:=mF 1 (iG G)
def rF{G:Cs}(T:Txt K mg G)(Ln:Hx P w K mg base (A_ P w) G.c_ "wanted" 1 ["self"] (dB G))(K8:Hx P w K mg base (A_ P w) G.c_ "data_of" 2 ["self","index"] (dj G)){f:Addr}{fd:FuncData}(F:HP K "tick" "Sender.tick" jM f fd):HW P w K mg base (A_ P w) 3 f fd ["self"] (gA G):=by
 refine fE F qe fun Hb A outer s H E hr=>?_
 have hu:=hr.units;exact(aq (bw (aD (cj hu) (aE T.k_ T.E_ aF (ac 0)) aK (aJ _)) (al (aV (cq (ae (bU (ae aK (ae (aE T.k_ T.HI aF (ac 0)) ag))) ag)))) aZ)
   (aq (bw (aD (cj hu) (aE T.k_ T.E_ aF (ac 0)) aK (aJ _)) (al (aV (ga (own:=["index"]) (capN:=["self"]) (caps:=[0]) ⟨rfl,Kx.all ⟨rfl,trivial⟩,rfl,by decide +kernel,rfl,by decide +kernel,⟨⟨rfl,Or.inl rfl,Or.inl rfl,rfl⟩,trivial⟩,by decide +kernel⟩ rfl (dQ (cw Ln (hr.mono (by decide)) T.k_ (by decide +kernel) aH (ac 0))) (gF (by decide)) (fun C s2 H2 fp=>⟨(bP (i:=0) (show(["index","self"]:List Str).Nodup from by decide +kernel)),kq,(bB K8 (hr.mono (by decide)) T.k_ (by decide +kernel) aH (ac 1) (ae (ac 0) ag) (d9 (aj aC)))⟩)))) aZ)
   (al (aV (cq ag)))))
def sP:n_ ["self"] ["self"] (j_ ka):=Ih
def jw(G:Cs):Hd:=(bu (aX G.World m_ (bX G) h_ (aa (dT "there") (aa (aX G.c_ a_ (gA G) (aA G.World m_ 0 h_) ai) ai))))
def ei(G:Cs):List D->M D:=mF 1 (jw G)
def sD{G:Cs}(T:Txt K mg G)(L_:Hx P w K mg base (A_ P w) G.c_ "tick" 3 ["self"] (gA G))(HV:Hx P w K mg base (A_ P w) G.World "put_behind" 6 ["self","road","cards"] (bX G)){f:Addr}{fd:FuncData}(F:HP K "tick" "World.tick" ka f fd):HW P w K mg base (A_ P w) 7 f fd ["self"] (ei G):=by
 refine fE F sP fun Hb A outer s H E hr=>?_
 have hu:=hr.units;exact(al (aP (bB HV (hr.mono (by decide)) T.u_ (by decide +kernel) aH (ac 0) (ae aK (ae (cw L_ (hr.mono (by decide)) T.k_ (by decide +kernel) aH (aE T.u_ T.Hl bZ (ac 0))) ag)) (d9 (aj (aj aC))))))
def my:n_ ["self","road","k"] ["self","road","k"] (j_ fC):=Ih
def eV(G:Cs):Hd:=(bJ (oW Om JO (dI 0) Hv (ak bq (aa (g_ gK (aA G.World m_ 2 h_) w_) ai))))
def aT(G:Cs):List D->M D:=mF 3 (eV G)
def mr{G:Cs}(T:Txt K mg G){f:Addr}{fd:FuncData}(F:HP K "has_strip" "World.has_strip" fC f fd):HW P w K mg base (A_ P w) 1 f fd ["self","road","k"] (aT G):=by
 refine fE F my fun Hb A outer s H E hr=>?_
 have hu:=hr.units;exact(al (aV (qO qu jV ao (ac 2) (bj cJ rfl T.Ie boot_len (ae (aL (sk hu) (aE T.u_ T.G3 bZ (ac 0)) (ac 1) (fun _ _=>rfl)) ag)))))
def Ja:n_ ["cells","kind","opening","rest"] ["cells"] (j_ lz):=Ih
def fW:Hd:=(aI (cz (g_ y_ (dC ez) (g_ y_ h_ (dI 0))) (gN 1))
 (aI (cz (g_ bK (g_ ix (g_ y_ h_ (dI 1)) (dI 256)) (g_ y_ h_ (dI 2))) (gN 2))
 (aI (cz (JT Jd h_ (bL (dC Hg)) bV) (gN 3))
 (aI (HX (dg (am (g_ G_ w_ (dT "data"))) (am (g_ Lm (ak bq (aa Hk ai)) (dI 2)))) (bJ (bY (aa w_ (aa Hv (aa (g_ y_ Hk (dI 0)) (aa (bY (aa (g_ y_ Hk (dI 1)) (aa (JT Jd Hk (bL (dI 2)) bV) ai))) ai)))))) bD)
 (aI (HX (dg (am (g_ G_ w_ (dT "note"))) (am (g_ Lm (ak bq (aa Hk ai)) (dI 1)))) (bJ (bY (aa w_ (aa Hv (aa (g_ y_ Hk (dI 0)) (aa (JT Jd Hk (bL (dI 1)) bV) ai)))))) bD)
 (bJ (g_ bK (bY (aa w_ (aa Hv ai))) Hk)))))))
def gR:List D->M D:=mP 4 fW
def uZ{G:Cs}(T:Txt K mg G){f:Addr}{fd:FuncData}(F:HP K "card_from" "card_from" lz f fd):HW P w K mg base (A_ P w) 1 f fd ["cells"] gR:=by
 refine fG F Ja fun Hb A outer s H E hr=>?_
 have hu:=hr.units;exact(aq (bI (i:=1) Ja.nd (aL HS (db rfl T.MO.glob) (aL HS (ac 0) ao (fun _ _=>rfl)) (fun _ _=>rfl)))
   (aq (bI (i:=2) Ja.nd (bG cm (bG lB (aL HS (ac 0) ao (fun _ _=>rfl)) ao) (aL HS (ac 0) ao (fun _ _=>rfl))))
   (aq (bI (i:=3) Ja.nd (eR PQ (ac 0) (df (db rfl T.KR)) jl))
   (aq (bw (Lc.pt (eA (aD (cj hu) (ac 1) aK (aJ _)) (dD (aD v7 (bj cJ rfl T.Ie boot_len (ae (ac 3) ag)) ao (aJ _))))) (al (aV (bU (ae (ac 1) (ae (ac 2) (ae (aL HS (ac 3) ao (fun _ _=>rfl)) (ae (bU (ae (aL HS (ac 3) ao (fun _ _=>rfl)) (ae (eR PQ (ac 3) (df ao) jl) ag))) ag))))))) aZ)
   (aq (bw (Lc.pt (eA (aD (cj hu) (ac 1) aK (aJ _)) (dD (aD v7 (bj cJ rfl T.Ie boot_len (ae (ac 3) ag)) ao (aJ _))))) (al (aV (bU (ae (ac 1) (ae (ac 2) (ae (aL HS (ac 3) ao (fun _ _=>rfl)) (ae (eR PQ (ac 3) (df ao) jl) ag))))))) aZ)
   (al (aV (bG cm (bU (ae (ac 1) (ae (ac 2) ag))) (ac 3)))))))))
def MQ:n_ ["strip","cells","card"] ["strip"] (j_ xo):=Ih
def nJ(G:Cs):Hd:=(aI (HX (JH (dl (bW (ak cb (aa h_ (aa (dC HC) ai))))) (JH (am (g_ JO (ak bq (aa h_ ai)) (g_ bK (dC Hg) (dC G8)))) (am (g_ Lm (g_ y_ h_ (dI 0)) (ak bq (aa (dC ez) ai)))))) (oq G.Ig (dT "these are not the cells of a strip")) bD)
 (aI (cz (JT Jd h_ bV (bL (Sm Dk (dC G8)))) (gN 1))
 (aI (HX (am (g_ Jp h_ (ak cE (aa w_ ai)))) (oq G.Ig (dT "the checks do not fit the cells")) bD)
 (aI (cz (ak gR (aa w_ ai)) (gN 2))
 (aI (HX (dl (bW (ak cU (aa Hv ai)))) (oq G.Ig (dT "the cells tell no card")) bD)
 (bJ Hv))))))
def kX(G:Cs):List D->M D:=mP 3 (nJ G)
def CT{G:Cs}(T:Txt K mg G)(JY:Jn P w K mg base (A_ P w) "is_row" 2 ["thing","top"] cb)(Jt:Jn P w K mg base (A_ P w) "with_checks" 1 ["cells"] cE)(Nn:Jn P w K mg base (A_ P w) "card_from" 1 ["cells"] gR)(K7:Jn P w K mg base (A_ P w) "is_card" 4 ["thing"] cU){f:Addr}{fd:FuncData}(F:HP K "read" "read" xo f fd):HW P w K mg base (A_ P w) 5 f fd ["strip"] (kX G):=by
 refine fG F MQ fun Hb A outer s H E hr=>?_
 have hu:=hr.units;exact(aq (bw (Lc.pt (ku (iw (da (aM JY (hr.mono (by decide)) rfl aH (ae (ac 0) (ae (db rfl T.LF) ag)) (aj (aj aC))))) (ku (aD jV (bj cJ rfl T.Ie boot_len (ae (ac 0) ag)) (bG cm (db rfl T.KR) (db rfl T.Kp)) (aJ _)) (lM (aD v7 (aL HS (ac 0) ao (fun _ _=>rfl)) (bj cJ rfl T.Ie boot_len (ae (db rfl T.MO.glob) ag)) (aJ _)))))) (al (oa T.Kf rfl rfl aK)) aZ)
   (aq (bI (i:=1) MQ.nd (eR PQ (ac 0) jl (df (FJ E7 (db rfl T.Kp)))))
   (aq (bw (aD (n5 hu) (ac 0) (aM Jt (hr.mono (by decide)) rfl aH (ae (ac 1) ag) (aj aC)) (aJ _)) (al (oa T.Kf rfl rfl aK)) aZ)
   (aq (bI (i:=2) MQ.nd (aM Nn (hr.mono (by decide)) rfl aH (ae (ac 1) ag) (aj aC)))
   (aq (bw (iw (da (aM K7 (hr.mono (by decide)) rfl aH (ae (ac 2) ag) (aj aC)))) (al (oa T.Kf rfl rfl aK)) aZ)
   (al (aV (ac 2))))))))
def pB:n_ ["self","opening"] ["self","opening"] (j_ iH):=Ih
def hW(G:Cs):Hd:=(aI (kt G.i_ d_ 2 h_ w_)
 (aI (kt G.i_ d_ 3 h_ (dI 0))
 (aI (kt G.i_ d_ 4 h_ kO)
 (kt G.i_ d_ 5 h_ (cg ai)))))
def cL(G:Cs):List D->M D:=mF 2 (hW G)
def pG{G:Cs}(T:Txt K mg G){f:Addr}{fd:FuncData}(F:HP K "begin" "Hearer.begin" iH f fd):HW P w K mg base (A_ P w) 1 f fd ["self","opening"] (cL G):=by
 refine fE F pB fun Hb A outer s H E hr=>?_
 have hu:=hr.units;exact(aq (ib T.r_ T.G7 aY (by decide) (ac 0) (ac 1))
   (aq (ib T.r_ T.C_ aY (by decide) (ac 0) ao)
   (aq (ib T.r_ T.Hq aY (by decide) (ac 0) pV)
   (al (ib T.r_ T.HY aY (by decide) (ac 0) (cq ag))))))
def kR:n_ ["self","opening"] ["self","opening"] (j_ dZ):=Ih
def dO(G:Cs):Hd:=(aI (HX (am (g_ JO w_ (aA G.i_ d_ 2 h_))) (bJ (cg ai)) bD)
 (aI (HX (am (g_ Q0 w_ (aA G.i_ d_ 2 h_))) (bu (aX G.i_ d_ (cL G) h_ (aa w_ ai))) bD)
 (bJ (cg (aa (bY (aa (dT "welcome") (aa w_ ai))) ai)))))
def cx(G:Cs):List D->M D:=mF 2 (dO G)
def kT{G:Cs}(T:Txt K mg G)(Jh:Hx P w K mg base (A_ P w) G.i_ "begin" 1 ["self","opening"] (cL G)){f:Addr}{fd:FuncData}(F:HP K "hears_hello" "Hearer.hears_hello" dZ f fd):HW P w K mg base (A_ P w) 2 f fd ["self","opening"] (cx G):=by
 refine fE F kR fun Hb A outer s H E hr=>?_
 have hu:=hr.units;exact(aq (bw (aD jV (ac 1) (aE T.r_ T.G7 aY (ac 0)) (aJ _)) (al (aV (cq ag))) aZ)
   (aq (bw (aD Bx (ac 1) (aE T.r_ T.G7 aY (ac 0)) (aJ _)) (al (aP (bB Jh (hr.mono (by decide)) T.r_ (by decide +kernel) aH (ac 0) (ae (ac 1) ag) (d9 (aj aC))))) aZ)
   (al (aV (cq (ae (bU (ae aK (ae (ac 1) ag))) ag))))))
def sF:n_ ["number","window"] ["number","window"] (j_ kE):=Ih
def jE:Hd:=(bJ (oW Om JO (dI 0) h_ (g_ ix (dI 2) w_)))
def b8:List D->M D:=mF 2 jE
def sN{G:Cs}(T:Txt K mg G){f:Addr}{fd:FuncData}(F:HP K "goes_round" "goes_round" kE f fd):HW P w K mg base (A_ P w) 1 f fd ["number","window"] b8:=by
 refine fE F sF fun Hb A outer s H E hr=>?_
 have hu:=hr.units;exact(al (aV (qO qu jV ao (ac 0) (bG lB ao (ac 1)))))
def sA:n_ ["number","low","window"] ["number","low","window"] (j_ kB):=Ih
def jv:Hd:=(bJ (g_ bK w_ (g_ jT (g_ sL h_ w_) (g_ ix (dI 2) Hv))))
def cu:List D->M D:=mF 3 jv
def sB{G:Cs}(T:Txt K mg G){f:Addr}{fd:FuncData}(F:HP K "index_near" "index_near" kB f fd):HW P w K mg base (A_ P w) 1 f fd ["number","low","window"] cu:=by
 refine fE F sA fun Hb A outer s H E hr=>?_
 have hu:=hr.units;exact(al (aV (bG cm (ac 1) (bG iX (bG w8 (ac 0) (ac 1)) (bG lB ao (ac 2))))))
def J9:n_ ["self","number","piece","index"] ["self","number","piece"] (j_ jG):=Ih
def iT(G:Cs):Hd:=(HX (bW (ak b8 (aa w_ (aa (aA G.i_ d_ 0 h_) ai)))) (aI (cz (ak cu (aa w_ (aa (g_ sL (aA G.i_ d_ 3 h_) (aA G.i_ d_ 0 h_)) (aa (aA G.i_ d_ 0 h_) ai)))) (gN 3))
 (HX (dg (am (g_ Lm Hk (aA G.i_ d_ 3 h_))) (am (g_ fT Hk (aA G.i_ d_ 4 h_)))) (xP qo (aA G.i_ d_ 4 h_) Hk Hv) bD)) bD)
def gD(G:Cs):List D->M D:=mF 4 (iT G)
def rq{G:Cs}(T:Txt K mg G)(JI:Jn P w K mg base (A_ P w) "goes_round" 1 ["number","window"] b8)(JJ:Jn P w K mg base (A_ P w) "index_near" 1 ["number","low","window"] cu){f:Addr}{fd:FuncData}(F:HP K "keep" "Hearer.keep" jG f fd):HW P w K mg base (A_ P w) 2 f fd ["self","number","piece"] (gD G):=by
 refine fE F J9 fun Hb A outer s H E hr=>?_
 have hu:=hr.units;exact(al (bw (da (aM JI (hr.mono (by decide)) rfl aH (ae (ac 1) (ae (aE T.r_ T.HA aY (ac 0)) ag)) (aj (aj aC)))) (aq (bI (i:=3) J9.nd (aM JJ (hr.mono (by decide)) rfl aH (ae (ac 1) (ae (bG w8 (aE T.r_ T.C_ aY (ac 0)) (aE T.r_ T.HA aY (ac 0))) (ae (aE T.r_ T.HA aY (ac 0)) ag))) (aj (aj (aj aC)))))
   (al (bw (Lc.pt (eA (aD v7 (ac 3) (aE T.r_ T.C_ aY (ac 0)) (aJ _)) (dD (aD (uh hu) (ac 3) (aE T.r_ T.Hq aY (ac 0)) (by with_unfolding_all rfl))))) (al (vn (zb hu) (aE T.r_ T.Hq aY (ac 0)) (ac 3) (ac 2))) aZ))) aZ))
def Ju:n_ ["pieces","letters","piece"] ["pieces"] (j_ kf):=Ih
def pL:Hd:=(bu (KG sU w_ (aa (g_ y_ Hv (dI 1)) ai)))
def jO:Hd:=(aI (cz (cg ai) (gN 1))
 (aI (ny (Js h_) (gN 2) pL)
 (bJ (ak fm (aa w_ ai)))))
def eu:List D->M D:=mP 3 jO
def sG{G:Cs}(T:Txt K mg G){f:Addr}{fd:FuncData}(F:HP K "letters_of" "letters_of" kf f fd):HW P w K mg base (A_ P w) 1 f fd ["pieces"] eu:=by
 refine fG F Ju fun Hb A outer s H E hr=>?_
 have hu:=hr.units;exact(aq (bI (i:=1) Ju.nd (cq ag))
   (aq (jR rfl (dQ (ac 0)) (bP (i:=2) Ju.nd) (al (aP (d8 slot_list_extend type_list_extend oB (ac 1) (ae (aL HS (ac 2) ao (fun _ _=>rfl)) ag)))))
   (al (aV (dG gS rfl T.IE boot_tuple (ae (ac 1) ag))))))
def rQ:n_ ["self","piece"] ["self","piece"] (j_ jL):=Ih
def ja(G:Cs):Hd:=(aI (bu (KG j2 (aA G.i_ d_ 5 h_) (aa w_ ai)))
 (HX (am (g_ G_ (g_ y_ w_ (dI 0)) (dI 1))) (aI (bu (KG j2 (aA G.i_ d_ 1 h_) (aa (bY (aa (aA G.i_ d_ 2 h_) (aa (ak eu (aa (aA G.i_ d_ 5 h_) ai)) ai))) ai)))
 (kt G.i_ d_ 5 h_ (cg ai))) bD))
def gG(G:Cs):List D->M D:=mF 2 (ja G)
def qL{G:Cs}(T:Txt K mg G)(MR:Jn P w K mg base (A_ P w) "letters_of" 1 ["pieces"] eu){f:Addr}{fd:FuncData}(F:HP K "take" "Hearer.take" jL f fd):HW P w K mg base (A_ P w) 2 f fd ["self","piece"] (gG G):=by
 refine fE F rQ fun Hb A outer s H E hr=>?_
 have hu:=hr.units;exact(aq (aP (d8 PySem.F.slot_list_append PySem.F.type_list_append dh (aE T.r_ T.HY aY (ac 0)) (ae (ac 1) ag)))
   (al (bw (aD (cj hu) (aL HS (ac 1) ao (fun _ _=>rfl)) ao (aJ _)) (aq (aP (d8 PySem.F.slot_list_append PySem.F.type_list_append dh (aE T.r_ T.IV aY (ac 0)) (ae (bU (ae (aE T.r_ T.G7 aY (ac 0)) (ae (aM MR (hr.mono (by decide)) rfl aH (ae (aE T.r_ T.HY aY (ac 0)) ag) (aj aC)) ag))) ag)))
   (al (ib T.r_ T.HY aY (by decide) (ac 0) (cq ag)))) aZ)))
def Ji:n_ ["self","piece"] ["self"] (j_ fD):=Ih
def cr(G:Cs)(fuel:Nat):Hd:=(gf (am (g_ rR (aA G.i_ d_ 3 h_) (aA G.i_ d_ 4 h_))) (aI (cz (zZ wO (aA G.i_ d_ 4 h_) (aa (aA G.i_ d_ 3 h_) ai)) (gN 1))
 (aI (pd G.i_ d_ 3 h_ (dI 1))
 (bu (aX G.i_ d_ (gG G) h_ (aa w_ ai))))) fuel)
def dP(G:Cs):List D->M D:=fun xs S=>fin S (cr G 1000000 (xs.map some++replicate (2-xs.length) none) S)
def mB{G:Cs}(T:Txt K mg G)(Ma:Hx P w K mg base (A_ P w) G.i_ "take" 2 ["self","piece"] (gG G)){f:Addr}{fd:FuncData}(F:HP K "take_all" "Hearer.take_all" fD f fd):HW P w K mg base (A_ P w) 3 f fd ["self"] (dP G):=by
 refine fE F Ji fun Hb A outer s H E hr=>?_
 have hu:=hr.units;have V5:(1000000:Nat)=1000000:=rfl
 generalize hfe:(1000000:Nat)=fuel at V5
 exact(al (wg fuel (aD (BP hu) (aE T.r_ T.C_ aY (ac 0)) (aE T.r_ T.Hq aY (ac 0)) (by with_unfolding_all rfl)) (aq (bI (i:=1) Ji.nd (Et PySem.F.slot_dict_pop PySem.F.type_dict_pop Df (aE T.r_ T.Hq aY (ac 0)) (ae (aE T.r_ T.C_ aY (ac 0)) ag)))
   (aq (uM T.r_ T.C_ aY (by decide) (ac 0) ao)
   (al (aP (bB Ma (hr.mono (by decide)) T.r_ (by decide +kernel) aH (ac 0) (ae (ac 1) ag) (d9 (aj aC)))))))))
def J_:n_ ["self","bits"] ["self"] (j_ jK):=Ih
def iQ(G:Cs):Hd:=(aI (cz (ak fm (aa (eC (o7 (aA G.i_ d_ 0 h_)) (gN 0) gQ (Ta (am (g_ rR (g_ bK (aA G.i_ d_ 3 w_) h_) (aA G.i_ d_ 4 w_))) (dI 1) (dI 0)) 1 [0]) ai)) (gN 1))
 (bJ (bY (aa (dT "note") (aa (aA G.i_ d_ 2 h_) (aa (ak d4 (aa (aA G.i_ d_ 3 h_) (aa (aA G.i_ d_ 0 h_) ai))) (aa w_ ai)))))))
def gE(G:Cs):List D->M D:=mF 2 (iQ G)
def rN{G:Cs}(T:Txt K mg G)(JZ:Jn P w K mg base (A_ P w) "number_of" 1 ["index","window"] d4){f:Addr}{fd:FuncData}(F:HP K "note" "Hearer.note" jK f fd):HW P w K mg base (A_ P w) 2 f fd ["self"] (gE G):=by
 refine fE F J_ fun Hb A outer s H E hr=>?_
 have hu:=hr.units;exact(aq (bI (i:=1) J_.nd (dG gS rfl T.IE boot_tuple (ae (ga (own:=["k"]) (capN:=["self"]) (caps:=[0]) ⟨rfl,Kx.all ⟨rfl,trivial⟩,rfl,by decide +kernel,rfl,by decide +kernel,⟨⟨rfl,Or.inl rfl,Or.inl rfl,rfl⟩,trivial⟩,by decide +kernel⟩ rfl (mI rfl T.KQ (aE T.r_ T.HA aY (ac 0))) (gF (by decide)) (fun C s2 H2 fp=>⟨(bP (i:=0) (show(["k","self"]:List Str).Nodup from by decide +kernel)),kq,(Ce (aD (BP hu) (bG cm (aE T.r_ T.C_ aY (ac 1)) (ac 0)) (aE T.r_ T.Hq aY (ac 1)) (by with_unfolding_all rfl)) ao ao)⟩)) ag)))
   (al (aV (bU (ae aK (ae (aE T.r_ T.G7 aY (ac 0)) (ae (aM JZ (hr.mono (by decide)) rfl aH (ae (aE T.r_ T.C_ aY (ac 0)) (ae (aE T.r_ T.HA aY (ac 0)) ag)) (aj (aj aC))) (ae (ac 1) ag))))))))
def lx:n_ ["self","opening","number","piece"] ["self","opening","number","piece"] (j_ eK):=Ih
def eh(G:Cs):Hd:=(aI (HX (am (g_ JO w_ (aA G.i_ d_ 2 h_))) (bJ (cg ai)) bD)
 (aI (HX (am (g_ Q0 w_ (aA G.i_ d_ 2 h_))) (bJ (cg (aa (bY (aa (dT "who") (aa w_ ai))) ai))) bD)
 (aI (bu (aX G.i_ d_ (gD G) h_ (aa Hv (aa Hk ai))))
 (aI (bu (aX G.i_ d_ (dP G) h_ ai))
 (bJ (cg (aa (aX G.i_ d_ (gE G) h_ ai) ai)))))))
def cD(G:Cs):List D->M D:=mF 4 (eh G)
def lc{G:Cs}(T:Txt K mg G)(Mb:Hx P w K mg base (A_ P w) G.i_ "keep" 2 ["self","number","piece"] (gD G))(KS:Hx P w K mg base (A_ P w) G.i_ "take_all" 3 ["self"] (dP G))(Mc:Hx P w K mg base (A_ P w) G.i_ "note" 2 ["self"] (gE G)){f:Addr}{fd:FuncData}(F:HP K "hears_data" "Hearer.hears_data" eK f fd):HW P w K mg base (A_ P w) 4 f fd ["self","opening","number","piece"] (cD G):=by
 refine fE F lx fun Hb A outer s H E hr=>?_
 have hu:=hr.units;exact(aq (bw (aD jV (ac 1) (aE T.r_ T.G7 aY (ac 0)) (aJ _)) (al (aV (cq ag))) aZ)
   (aq (bw (aD Bx (ac 1) (aE T.r_ T.G7 aY (ac 0)) (aJ _)) (al (aV (cq (ae (bU (ae aK (ae (ac 1) ag))) ag)))) aZ)
   (aq (aP (bB Mb (hr.mono (by decide)) T.r_ (by decide +kernel) aH (ac 0) (ae (ac 2) (ae (ac 3) ag)) (d9 (aj (aj aC)))))
   (aq (aP (cw KS (hr.mono (by decide)) T.r_ (by decide +kernel) aH (ac 0)))
   (al (aV (cq (ae (cw Mc (hr.mono (by decide)) T.r_ (by decide +kernel) aH (ac 0)) ag))))))))
def pF:n_ ["self","card"] ["self","card"] (j_ iU):=Ih
def ik(G:Cs):Hd:=(aI (HX (am (g_ G_ (g_ y_ w_ (dI 0)) (dT "hello"))) (bJ (aX G.i_ d_ (cx G) h_ (aa (g_ y_ w_ (dI 1)) ai))) bD)
 (aI (HX (am (g_ G_ (g_ y_ w_ (dI 0)) (dT "data"))) (bJ (aX G.i_ d_ (cD G) h_ (aa (g_ y_ w_ (dI 1)) (aa (g_ y_ w_ (dI 2)) (aa (g_ y_ w_ (dI 3)) ai))))) bD)
 (bJ (cg ai))))
def fV(G:Cs):List D->M D:=mF 2 (ik G)
def pM{G:Cs}(T:Txt K mg G)(Ka:Hx P w K mg base (A_ P w) G.i_ "hears_hello" 2 ["self","opening"] (cx G))(Kl:Hx P w K mg base (A_ P w) G.i_ "hears_data" 4 ["self","opening","number","piece"] (cD G)){f:Addr}{fd:FuncData}(F:HP K "hears" "Hearer.hears" iU f fd):HW P w K mg base (A_ P w) 5 f fd ["self","card"] (fV G):=by
 refine fE F pF fun Hb A outer s H E hr=>?_
 have hu:=hr.units;exact(aq (bw (aD (cj hu) (aL HS (ac 1) ao (fun _ _=>rfl)) aK (aJ _)) (al (aV (bB Ka (hr.mono (by decide)) T.r_ (by decide +kernel) aH (ac 0) (ae (aL HS (ac 1) ao (fun _ _=>rfl)) ag) (d9 (aj aC))))) aZ)
   (aq (bw (aD (cj hu) (aL HS (ac 1) ao (fun _ _=>rfl)) aK (aJ _)) (al (aV (bB Kl (hr.mono (by decide)) T.r_ (by decide +kernel) aH (ac 0) (ae (aL HS (ac 1) ao (fun _ _=>rfl)) (ae (aL HS (ac 1) ao (fun _ _=>rfl)) (ae (aL HS (ac 1) ao (fun _ _=>rfl)) ag))) (d9 (aj (aj (aj aC))))))) aZ)
   (al (aV (cq ag)))))
def IZ:n_ ["self","message"] ["self"] (j_ eY):=Ih
def dJ(G:Cs):Hd:=(bu (KG sU (aA G.c_ a_ 6 h_) (aa (ak dm (aa w_ (aa (aA G.c_ a_ 1 h_) ai))) ai)))
def eF(G:Cs):Hd:=(aI (pd G.c_ a_ 4 h_ (dI 1))
 (aI (kt G.c_ a_ 5 h_ (dT "opening"))
 (aI (kt G.c_ a_ 6 h_ (cg ai))
 (aI (ny (Js (JT Jd (aA G.c_ a_ 2 h_) (bL (aA G.c_ a_ 3 h_)) bV)) (gN 1) (dJ G))
 (aI (kt G.c_ a_ 7 h_ (dI 0))
 (kt G.c_ a_ 8 h_ kO))))))
def bM(G:Cs):List D->M D:=mF 2 (eF G)
def lY{G:Cs}(T:Txt K mg G)(JX:Jn P w K mg base (A_ P w) "pieces_of" 1 ["message","most"] dm){f:Addr}{fd:FuncData}(F:HP K "open_anew" "Sender.open_anew" eY f fd):HW P w K mg base (A_ P w) 2 f fd ["self"] (bM G):=by
 refine fE F IZ fun Hb A outer s H E hr=>?_
 have hu:=hr.units;exact(aq (uM T.k_ T.HI aF (by decide) (ac 0) ao)
   (aq (ib T.k_ T.E_ aF (by decide) (ac 0) aK)
   (aq (ib T.k_ T.G5 aF (by decide) (ac 0) (cq ag))
   (aq (jR rfl (dQ (eR PQ (aE T.k_ T.Iq aF (ac 0)) (df (aE T.k_ T.IF aF (ac 0))) jl)) (bP (i:=1) IZ.nd) (al (aP (d8 slot_list_extend type_list_extend oB (aE T.k_ T.G5 aF (ac 0)) (ae (aM JX (hr.mono (by decide)) rfl aH (ae (ac 1) (ae (aE T.k_ T.Je aF (ac 0)) ag)) (aj (aj aC))) ag)))))
   (aq (ib T.k_ T.G9 aF (by decide) (ac 0) ao)
   (al (ib T.k_ T.Im aF (by decide) (ac 0) pV)))))))
def md:n_ ["self","index"] ["self","index"] (j_ eX):=Ih
def eG(G:Cs):Hd:=(aI (pd G.c_ a_ 3 h_ (ak lX (aa (eC (Js (JT Jd (aA G.c_ a_ 6 h_) (bL (aA G.c_ a_ 7 h_)) (bL w_))) (gN 0) gQ (g_ y_ h_ (dI 0)) 1 []) ai)))
 (kt G.c_ a_ 7 h_ w_))
def dn(G:Cs):List D->M D:=mF 2 (eG G)
def lZ{G:Cs}(T:Txt K mg G){f:Addr}{fd:FuncData}(F:HP K "move_base" "Sender.move_base" eX f fd):HW P w K mg base (A_ P w) 1 f fd ["self","index"] (dn G):=by
 refine fE F md fun Hb A outer s H E hr=>?_
 have hu:=hr.units;exact(aq (uM T.k_ T.IF aF (by decide) (ac 0) (bj (vk rfl) rfl T.Oq boot_sum (ae (ga (own:=["piece"]) (capN:=[]) (caps:=[]) ⟨rfl,Kx.all trivial,rfl,by decide +kernel,rfl,by decide +kernel,trivial,by decide +kernel⟩ rfl (dQ (eR PQ (aE T.k_ T.G5 aF (ac 0)) (df (aE T.k_ T.G9 aF (ac 0))) (df (ac 1)))) (gF (by decide)) (fun C s2 H2 fp=>⟨(bP (i:=0) (show(["piece"]:List Str).Nodup from by decide +kernel)),kq,(aL HS (ac 0) ao (fun _ _=>rfl))⟩)) ag)))
   (al (ib T.k_ T.G9 aF (by decide) (ac 0) (ac 1))))
def Ia:n_ ["self","bits","k","bit"] ["self","bits"] (j_ d5):=Ih
def cC(G:Cs):Hd:=(HX (dg (am (g_ G_ Hk (dI 1))) (am (g_ JO (g_ bK (aA G.c_ a_ 7 h_) Hv) (ak bq (aa (aA G.c_ a_ 6 h_) ai))))) (xP qo (aA G.c_ a_ 8 h_) (g_ bK (aA G.c_ a_ 7 h_) Hv) (dC (.bl true))) bD)
def dN(G:Cs):Hd:=(ny (zn 0 w_) (gT [2,3]) (cC G))
def cV(G:Cs):List D->M D:=mF 4 (dN G)
def kS{G:Cs}(T:Txt K mg G){f:Addr}{fd:FuncData}(F:HP K "note_pieces" "Sender.note_pieces" d5 f fd):HW P w K mg base (A_ P w) 1 f fd ["self","bits"] (cV G):=by
 refine fE F Ia fun Hb A outer s H E hr=>?_
 have hu:=hr.units;exact(al (jR rfl (Bf rfl T.Lf (ac 1)) (uY rfl (gP (bP (i:=2) Ia.nd) (gP (bP (i:=3) Ia.nd) pY))) (al (bw (Lc.pt (eA (aD (cj hu) (ac 3) ao (aJ _)) (dD (aD jV (bG cm (aE T.k_ T.G9 aF (ac 0)) (ac 2)) (bj cJ rfl T.Ie boot_len (ae (aE T.k_ T.G5 aF (ac 0)) ag)) (aJ _))))) (al (vn (zb hu) (aE T.k_ T.Im aF (ac 0)) (bG cm (aE T.k_ T.G9 aF (ac 0)) (ac 2)) nY)) aZ))))
def IQ:n_ ["self","number","bits","index"] ["self","number","bits"] (j_ eL):=Ih
def dU(G:Cs):Hd:=(HX (bW (ak b8 (aa w_ (aa (aA G.c_ a_ 0 h_) ai)))) (aI (cz (ak cu (aa w_ (aa (aA G.c_ a_ 7 h_) (aa (aA G.c_ a_ 0 h_) ai)))) (gN 3))
 (HX (am (g_ Om Hk (ak zF (aa (g_ bK (aA G.c_ a_ 7 h_) (aA G.c_ a_ 0 h_)) (aa (ak bq (aa (aA G.c_ a_ 6 h_) ai)) ai))))) (aI (bu (aX G.c_ a_ (dn G) h_ (aa Hk ai)))
 (bu (aX G.c_ a_ (cV G) h_ (aa Hv ai)))) bD)) bD)
def ci(G:Cs):List D->M D:=mF 4 (dU G)
def kU{G:Cs}(T:Txt K mg G)(JI:Jn P w K mg base (A_ P w) "goes_round" 1 ["number","window"] b8)(JJ:Jn P w K mg base (A_ P w) "index_near" 1 ["number","low","window"] cu)(Ky:Hx P w K mg base (A_ P w) G.c_ "move_base" 1 ["self","index"] (dn G))(Kb:Hx P w K mg base (A_ P w) G.c_ "note_pieces" 1 ["self","bits"] (cV G)){f:Addr}{fd:FuncData}(F:HP K "hears_note" "Sender.hears_note" eL f fd):HW P w K mg base (A_ P w) 2 f fd ["self","number","bits"] (ci G):=by
 refine fE F IQ fun Hb A outer s H E hr=>?_
 have hu:=hr.units;exact(al (bw (da (aM JI (hr.mono (by decide)) rfl aH (ae (ac 1) (ae (aE T.k_ T.HB aF (ac 0)) ag)) (aj (aj aC)))) (aq (bI (i:=3) IQ.nd (aM JJ (hr.mono (by decide)) rfl aH (ae (ac 1) (ae (aE T.k_ T.G9 aF (ac 0)) (ae (aE T.k_ T.HB aF (ac 0)) ag))) (aj (aj (aj aC)))))
   (al (bw (aD qu (ac 3) (bj (AR rfl) rfl T.Q9 boot_min (ae (bG cm (aE T.k_ T.G9 aF (ac 0)) (aE T.k_ T.HB aF (ac 0))) (ae (bj cJ rfl T.Ie boot_len (ae (aE T.k_ T.G5 aF (ac 0)) ag)) ag))) (aJ _)) (aq (aP (bB Ky (hr.mono (by decide)) T.k_ (by decide +kernel) aH (ac 0) (ae (ac 3) ag) (d9 (aj aC))))
   (al (aP (bB Kb (hr.mono (by decide)) T.k_ (by decide +kernel) aH (ac 0) (ae (ac 2) ag) (d9 (aj aC)))))) aZ))) aZ))
def mf:n_ ["self","card"] ["self","card"] (j_ eW):=Ih
def eM(G:Cs):Hd:=(HX (dg (am (g_ G_ (g_ y_ w_ (dI 0)) (dT "welcome"))) (am (g_ G_ (aA G.c_ a_ 5 h_) (dT "opening")))) (kt G.c_ a_ 5 h_ (dT "open")) (HX (dg (am (g_ G_ (g_ y_ w_ (dI 0)) (dT "who"))) (am (g_ G_ (aA G.c_ a_ 5 h_) (dT "open")))) (bu (aX G.c_ a_ (bM G) h_ ai)) (HX (dg (am (g_ G_ (g_ y_ w_ (dI 0)) (dT "note"))) (am (g_ G_ (aA G.c_ a_ 5 h_) (dT "open")))) (bu (aX G.c_ a_ (ci G) h_ (aa (g_ y_ w_ (dI 2)) (aa (g_ y_ w_ (dI 3)) ai)))) bD)))
def dy(G:Cs):List D->M D:=mF 2 (eM G)
def ma{G:Cs}(T:Txt K mg G)(Iu:Hx P w K mg base (A_ P w) G.c_ "open_anew" 2 ["self"] (bM G))(Km:Hx P w K mg base (A_ P w) G.c_ "hears_note" 2 ["self","number","bits"] (ci G)){f:Addr}{fd:FuncData}(F:HP K "hears_own" "Sender.hears_own" eW f fd):HW P w K mg base (A_ P w) 3 f fd ["self","card"] (dy G):=by
 refine fE F mf fun Hb A outer s H E hr=>?_
 have hu:=hr.units;exact(al (bw (Lc.pt (eA (aD (cj hu) (aL HS (ac 1) ao (fun _ _=>rfl)) aK (aJ _)) (dD (aD (cj hu) (aE T.k_ T.E_ aF (ac 0)) aK (aJ _))))) (al (ib T.k_ T.E_ aF (by decide) (ac 0) aK)) (al (bw (Lc.pt (eA (aD (cj hu) (aL HS (ac 1) ao (fun _ _=>rfl)) aK (aJ _)) (dD (aD (cj hu) (aE T.k_ T.E_ aF (ac 0)) aK (aJ _))))) (al (aP (cw Iu (hr.mono (by decide)) T.k_ (by decide +kernel) aH (ac 0)))) (al (bw (Lc.pt (eA (aD (cj hu) (aL HS (ac 1) ao (fun _ _=>rfl)) aK (aJ _)) (dD (aD (cj hu) (aE T.k_ T.E_ aF (ac 0)) aK (aJ _))))) (al (aP (bB Km (hr.mono (by decide)) T.k_ (by decide +kernel) aH (ac 0) (ae (aL HS (ac 1) ao (fun _ _=>rfl)) (ae (aL HS (ac 1) ao (fun _ _=>rfl)) ag)) (d9 (aj (aj aC)))))) aZ))))))
def pU:n_ ["self","card"] ["self","card"] (j_ iM):=Ih
def hZ(G:Cs):Hd:=(aI (HX (am (g_ G_ (g_ y_ w_ (dI 1)) (aA G.c_ a_ 4 h_))) (bu (aX G.c_ a_ (dy G) h_ (aa w_ ai))) bD)
 (bJ (cg ai)))
def fL(G:Cs):List D->M D:=mF 2 (hZ G)
def pE{G:Cs}(T:Txt K mg G)(Kz:Hx P w K mg base (A_ P w) G.c_ "hears_own" 3 ["self","card"] (dy G)){f:Addr}{fd:FuncData}(F:HP K "hears" "Sender.hears" iM f fd):HW P w K mg base (A_ P w) 4 f fd ["self","card"] (fL G):=by
 refine fE F pU fun Hb A outer s H E hr=>?_
 have hu:=hr.units;exact(aq (bw (aD (cj hu) (aL HS (ac 1) ao (fun _ _=>rfl)) (aE T.k_ T.HI aF (ac 0)) (aJ _)) (al (aP (bB Kz (hr.mono (by decide)) T.k_ (by decide +kernel) aH (ac 0) (ae (ac 1) ag) (d9 (aj aC))))) aZ)
   (al (aV (cq ag))))
def IX:n_ ["self","road","strip","card"] ["self","road","strip"] (j_ i9):=Ih
def il(G:Cs):Hd:=(aI (xm [G.Ig] (cz (ak (kX G) (aa Hv ai)) (gN 3)) (cz (dC .G0) (gN 3)))
 (aI (HX (dg (am (g_ lj Hk (dC .G0))) (am (g_ G_ w_ (dT "there")))) (bu (aX G.World m_ (bX G) h_ (aa (dT "back") (aa (aX G.i_ d_ (fV G) (aA G.World m_ 1 h_) (aa Hk ai)) ai)))) bD)
 (HX (dg (am (g_ lj Hk (dC .G0))) (am (g_ G_ w_ (dT "back")))) (bu (aX G.World m_ (bX G) h_ (aa (dT "there") (aa (aX G.c_ a_ (fL G) (aA G.World m_ 0 h_) (aa Hk ai)) ai)))) bD)))
def fQ(G:Cs):List D->M D:=mF 4 (il G)
def pK{G:Cs}(T:Txt K mg G)(RP:Jn P w K mg base (A_ P w) "read" 5 ["strip"] (kX G))(LG:Hx P w K mg base (A_ P w) G.i_ "hears" 5 ["self","card"] (fV G))(HV:Hx P w K mg base (A_ P w) G.World "put_behind" 6 ["self","road","cards"] (bX G))(LH:Hx P w K mg base (A_ P w) G.c_ "hears" 4 ["self","card"] (fL G)){f:Addr}{fd:FuncData}(F:HP K "arrive" "World.arrive" i9 f fd):HW P w K mg base (A_ P w) 7 f fd ["self","road","strip"] (fQ G):=by
 refine fE F IX fun Hb A outer s H E hr=>?_
 have hu:=hr.units;exact(aq (Ex T.Kf (CD T.Ir EO) rfl ⟨rfl,rfl⟩ (al (bI (i:=3) IX.nd (aM RP (hr.mono (by decide)) rfl aH (ae (ac 2) ag) (aj aC)))) (fun _=>(al (bI (i:=3) IX.nd uF))))
   (aq (bw (Lc.pt (eA (aD ut (ac 3) uF (aJ _)) (dD (aD (cj hu) (ac 1) aK (aJ _))))) (al (aP (bB HV (hr.mono (by decide)) T.u_ (by decide +kernel) aH (ac 0) (ae aK (ae (bB LG (hr.mono (by decide)) T.r_ (by decide +kernel) aH (aE T.u_ T.Io bZ (ac 0)) (ae (ac 3) ag) (d9 (aj aC))) ag)) (d9 (aj (aj aC)))))) aZ)
   (al (bw (Lc.pt (eA (aD ut (ac 3) uF (aJ _)) (dD (aD (cj hu) (ac 1) aK (aJ _))))) (al (aP (bB HV (hr.mono (by decide)) T.u_ (by decide +kernel) aH (ac 0) (ae aK (ae (bB LH (hr.mono (by decide)) T.k_ (by decide +kernel) aH (aE T.u_ T.Hl bZ (ac 0)) (ae (ac 3) ag) (d9 (aj aC))) ag)) (d9 (aj (aj aC)))))) aZ))))
def sC:n_ ["self","road"] ["self","road"] (j_ kJ):=Ih
def jQ(G:Cs):Hd:=(HX (bW (aX G.World m_ (aT G) h_ (aa w_ (aa (dI 0) ai)))) (bu (aX G.World m_ (fQ G) h_ (aa w_ (aa (g_ y_ (KG w4 (g_ gK (aA G.World m_ 2 h_) w_) (aa (dI 0) ai)) (dI 0)) ai)))) bD)
def eo(G:Cs):List D->M D:=mF 2 (jQ G)
def sg{G:Cs}(T:Txt K mg G)(Hi:Hx P w K mg base (A_ P w) G.World "has_strip" 1 ["self","road","k"] (aT G))(LI:Hx P w K mg base (A_ P w) G.World "arrive" 7 ["self","road","strip"] (fQ G)){f:Addr}{fd:FuncData}(F:HP K "step" "World.step" kJ f fd):HW P w K mg base (A_ P w) 8 f fd ["self","road"] (eo G):=by
 refine fE F sC fun Hb A outer s H E hr=>?_
 have hu:=hr.units;exact(al (bw (da (bB Hi (hr.mono (by decide)) T.u_ (by decide +kernel) aH (ac 0) (ae (ac 1) (ae ao ag)) (d9 (aj (aj aC))))) (al (aP (bB LI (hr.mono (by decide)) T.u_ (by decide +kernel) aH (ac 0) (ae (ac 1) (ae (aL HS (d8 PySem.F.slot_list_pop PySem.F.type_list_pop Bg (aL (sk hu) (aE T.u_ T.G3 bZ (ac 0)) (ac 1) (fun _ _=>rfl)) (ae ao ag)) ao (fun _ _=>rfl)) ag)) (d9 (aj (aj aC)))))) aZ))
def sv:n_ ["self","road","k"] ["self","road","k"] (j_ kI):=Ih
def jJ(G:Cs):Hd:=(HX (bW (aX G.World m_ (aT G) h_ (aa w_ (aa Hv ai)))) (bu (KG w4 (g_ gK (aA G.World m_ 2 h_) w_) (aa Hv ai))) bD)
def iu(G:Cs):List D->M D:=mF 3 (jJ G)
def sy{G:Cs}(T:Txt K mg G)(Hi:Hx P w K mg base (A_ P w) G.World "has_strip" 1 ["self","road","k"] (aT G)){f:Addr}{fd:FuncData}(F:HP K "lose" "World.lose" kI f fd):HW P w K mg base (A_ P w) 2 f fd ["self","road","k"] (iu G):=by
 refine fE F sv fun Hb A outer s H E hr=>?_
 have hu:=hr.units;exact(al (bw (da (bB Hi (hr.mono (by decide)) T.u_ (by decide +kernel) aH (ac 0) (ae (ac 1) (ae (ac 2) ag)) (d9 (aj (aj aC))))) (al (aP (d8 PySem.F.slot_list_pop PySem.F.type_list_pop Bg (aL (sk hu) (aE T.u_ T.G3 bZ (ac 0)) (ac 1) (fun _ _=>rfl)) (ae (ac 2) ag)))) aZ))
def pT:n_ ["self","road","k"] ["self","road","k"] (j_ je):=Ih
def io(G:Cs):Hd:=(HX (bW (aX G.World m_ (aT G) h_ (aa w_ (aa Hv ai)))) (bu (KG vC (g_ gK (aA G.World m_ 2 h_) w_) (aa Hv (aa (g_ y_ (g_ gK (aA G.World m_ 2 h_) w_) Hv) ai)))) bD)
def fJ(G:Cs):List D->M D:=mF 3 (io G)
def pO{G:Cs}(T:Txt K mg G)(Hi:Hx P w K mg base (A_ P w) G.World "has_strip" 1 ["self","road","k"] (aT G)){f:Addr}{fd:FuncData}(F:HP K "double" "World.double" je f fd):HW P w K mg base (A_ P w) 2 f fd ["self","road","k"] (fJ G):=by
 refine fE F pT fun Hb A outer s H E hr=>?_
 have hu:=hr.units;exact(al (bw (da (bB Hi (hr.mono (by decide)) T.u_ (by decide +kernel) aH (ac 0) (ae (ac 1) (ae (ac 2) ag)) (d9 (aj (aj aC))))) (al (aP (d8 PySem.F.slot_list_insert PySem.F.type_list_insert Au (aL (sk hu) (aE T.u_ T.G3 bZ (ac 0)) (ac 1) (fun _ _=>rfl)) (ae (ac 2) (ae (aL HS (aL (sk hu) (aE T.u_ T.G3 bZ (ac 0)) (ac 1) (fun _ _=>rfl)) (ac 2) (fun _ _=>rfl)) ag))))) aZ))
def KA:n_ ["strip","place","by","cells","at"] ["strip","place","by"] (j_ oE):=Ih
def mT:Hd:=(aI (cz (ak yO (aa h_ ai)) (gN 3))
 (aI (cz (g_ jT w_ (ak bq (aa Hk ai))) (gN 4))
 (aI (xP o3 Hk Jy (g_ jT (g_ bK (g_ y_ Hk Jy) Hv) (dI 256)))
 (bJ (ak fm (aa Hk ai))))))
def jY:List D->M D:=mP 5 mT
def yc{G:Cs}(T:Txt K mg G){f:Addr}{fd:FuncData}(F:HP K "changed" "changed" oE f fd):HW P w K mg base (A_ P w) 1 f fd ["strip","place","by"] jY:=by
 refine fG F KA fun Hb A outer s H E hr=>?_
 have hu:=hr.units;exact(aq (bI (i:=3) KA.nd (dG Dz rfl T.RO boot_list (ae (ac 0) ag)))
   (aq (bI (i:=4) KA.nd (bG iX (ac 1) (bj cJ rfl T.Ie boot_len (ae (ac 3) ag))))
   (aq (vn zg (ac 3) (ac 4) (bG iX (bG cm (aL HS (ac 3) (ac 4) (fun _ _=>rfl)) (ac 2)) ao))
   (al (aV (dG gS rfl T.IE boot_tuple (ae (ac 3) ag)))))))
def qA:n_ ["self","road","k","place","by"] ["self","road","k","place","by"] (j_ jF):=Ih
def jh(G:Cs):Hd:=(HX (dg (bW (aX G.World m_ (aT G) h_ (aa w_ (aa Hv ai)))) (dg (dl (bW (g_ y_ (g_ y_ (g_ gK (aA G.World m_ 2 h_) w_) Hv) (dI 1)))) (am (g_ Jp (g_ jT Jy (dI 256)) (dI 0))))) (xP o3 (g_ gK (aA G.World m_ 2 h_) w_) Hv (bY (aa (ak jY (aa (g_ y_ (g_ y_ (g_ gK (aA G.World m_ 2 h_) w_) Hv) (dI 0)) (aa Hk (aa Jy ai)))) (aa (dC (.bl true)) ai)))) bD)
def gy(G:Cs):List D->M D:=mF 5 (jh G)
def rm{G:Cs}(T:Txt K mg G)(Hi:Hx P w K mg base (A_ P w) G.World "has_strip" 1 ["self","road","k"] (aT G))(OL:Jn P w K mg base (A_ P w) "changed" 1 ["strip","place","by"] jY){f:Addr}{fd:FuncData}(F:HP K "spoil" "World.spoil" jF f fd):HW P w K mg base (A_ P w) 2 f fd ["self","road","k","place","by"] (gy G):=by
 refine fE F qA fun Hb A outer s H E hr=>?_
 have hu:=hr.units;exact(al (bw (Lc.pt (eA (da (bB Hi (hr.mono (by decide)) T.u_ (by decide +kernel) aH (ac 0) (ae (ac 1) (ae (ac 2) ag)) (d9 (aj (aj aC))))) (eA (iw (da (aL HS (aL HS (aL (sk hu) (aE T.u_ T.G3 bZ (ac 0)) (ac 1) (fun _ _=>rfl)) (ac 2) (fun _ _=>rfl)) ao (fun _ _=>rfl)))) (dD (aD (n5 hu) (bG iX (ac 4) ao) ao (aJ _)))))) (al (vn zg (aL (sk hu) (aE T.u_ T.G3 bZ (ac 0)) (ac 1) (fun _ _=>rfl)) (ac 2) (bU (ae (aM OL (hr.mono (by decide)) rfl aH (ae (aL HS (aL HS (aL (sk hu) (aE T.u_ T.G3 bZ (ac 0)) (ac 1) (fun _ _=>rfl)) (ac 2) (fun _ _=>rfl)) ao (fun _ _=>rfl)) (ae (ac 3) (ae (ac 4) ag))) (aj (aj (aj aC)))) (ae nY ag))))) aZ))
def rX:n_ ["self"] ["self"] (j_ jD):=Ih
def iK(G:Cs):Hd:=(kt G.c_ a_ 5 h_ (dT "shut"))
def gz(G:Cs):List D->M D:=mF 1 (iK G)
def rH{G:Cs}(T:Txt K mg G){f:Addr}{fd:FuncData}(F:HP K "fall" "Sender.fall" jD f fd):HW P w K mg base (A_ P w) 1 f fd ["self"] (gz G):=by
 refine fE F rX fun Hb A outer s H E hr=>?_
 have hu:=hr.units;exact(al (ib T.k_ T.E_ aF (by decide) (ac 0) aK))
def se:n_ ["self"] ["self"] (j_ jx):=Ih
def iN(G:Cs):Hd:=(bu (aX G.i_ d_ (cL G) h_ (aa (dI 0) ai)))
def gI(G:Cs):List D->M D:=mF 1 (iN G)
def qd{G:Cs}(T:Txt K mg G)(Jh:Hx P w K mg base (A_ P w) G.i_ "begin" 1 ["self","opening"] (cL G)){f:Addr}{fd:FuncData}(F:HP K "fall" "Hearer.fall" jx f fd):HW P w K mg base (A_ P w) 2 f fd ["self"] (gI G):=by
 refine fE F se fun Hb A outer s H E hr=>?_
 have hu:=hr.units;exact(al (aP (bB Jh (hr.mono (by decide)) T.r_ (by decide +kernel) aH (ac 0) (ae ao ag) (d9 (aj aC)))))
def si:n_ ["self","who"] ["self","who"] (j_ kh):=Ih
def eQ(G:Cs):Hd:=(aI (HX (am (g_ G_ w_ (dT "sender"))) (bu (aX G.c_ a_ (gz G) (aA G.World m_ 0 h_) ai)) bD)
 (HX (am (g_ G_ w_ (dT "hearer"))) (bu (aX G.i_ d_ (gI G) (aA G.World m_ 1 h_) ai)) bD))
def iq(G:Cs):List D->M D:=mF 2 (eQ G)
def sH{G:Cs}(T:Txt K mg G)(Md:Hx P w K mg base (A_ P w) G.c_ "fall" 1 ["self"] (gz G))(Me:Hx P w K mg base (A_ P w) G.i_ "fall" 2 ["self"] (gI G)){f:Addr}{fd:FuncData}(F:HP K "fall" "World.fall" kh f fd):HW P w K mg base (A_ P w) 3 f fd ["self","who"] (iq G):=by
 refine fE F si fun Hb A outer s H E hr=>?_
 have hu:=hr.units;exact(aq (bw (aD (cj hu) (ac 1) aK (aJ _)) (al (aP (cw Md (hr.mono (by decide)) T.k_ (by decide +kernel) aH (aE T.u_ T.Hl bZ (ac 0))))) aZ)
   (al (bw (aD (cj hu) (ac 1) aK (aJ _)) (al (aP (cw Me (hr.mono (by decide)) T.r_ (by decide +kernel) aH (aE T.u_ T.Io bZ (ac 0))))) aZ)))
def pI:n_ ["self"] ["self"] (j_ iI):=Ih
def gY(G:Cs):Hd:=(HX (am (g_ G_ (aA G.c_ a_ 5 h_) (dT "shut"))) (bu (aX G.c_ a_ (bM G) h_ ai)) bD)
def fF(G:Cs):List D->M D:=mF 1 (gY G)
def pH{G:Cs}(T:Txt K mg G)(Iu:Hx P w K mg base (A_ P w) G.c_ "open_anew" 2 ["self"] (bM G)){f:Addr}{fd:FuncData}(F:HP K "start" "Sender.start" iI f fd):HW P w K mg base (A_ P w) 3 f fd ["self"] (fF G):=by
 refine fE F pI fun Hb A outer s H E hr=>?_
 have hu:=hr.units;exact(al (bw (aD (cj hu) (aE T.k_ T.E_ aF (ac 0)) aK (aJ _)) (al (aP (cw Iu (hr.mono (by decide)) T.k_ (by decide +kernel) aH (ac 0)))) aZ))
def qX:n_ ["self"] ["self"] (j_ jN):=Ih
def iW(G:Cs):Hd:=(bu (aX G.c_ a_ (fF G) (aA G.World m_ 0 h_) ai))
def dH(G:Cs):List D->M D:=mF 1 (iW G)
def rK{G:Cs}(T:Txt K mg G)(LJ:Hx P w K mg base (A_ P w) G.c_ "start" 3 ["self"] (fF G)){f:Addr}{fd:FuncData}(F:HP K "start" "World.start" jN f fd):HW P w K mg base (A_ P w) 4 f fd ["self"] (dH G):=by
 refine fE F qX fun Hb A outer s H E hr=>?_
 have hu:=hr.units;exact(al (aP (cw LJ (hr.mono (by decide)) T.k_ (by decide +kernel) aH (aE T.u_ T.Hl bZ (ac 0)))))
def w3:n_ ["_law_world","_law_act"] ["_law_world","_law_act"] (j_ oN):=Ih
def mY(G:Cs):Hd:=(HX (am (g_ G_ (g_ y_ w_ (dI 0)) (dT "hand"))) (bu (aX G.World m_ (ip G) h_ (aa (ak cy (aa (g_ y_ w_ (dI 1)) (aa (dI 12) ai))) ai))) (HX (am (g_ G_ (g_ y_ w_ (dI 0)) (dT "tick"))) (bu (aX G.World m_ (ei G) h_ ai)) (HX (am (g_ G_ (g_ y_ w_ (dI 0)) (dT "step"))) (bu (aX G.World m_ (eo G) h_ (aa (g_ y_ w_ (dI 1)) ai))) (HX (am (g_ G_ (g_ y_ w_ (dI 0)) (dT "lose"))) (bu (aX G.World m_ (iu G) h_ (aa (g_ y_ w_ (dI 1)) (aa (g_ y_ w_ (dI 2)) ai)))) (HX (am (g_ G_ (g_ y_ w_ (dI 0)) (dT "double"))) (bu (aX G.World m_ (fJ G) h_ (aa (g_ y_ w_ (dI 1)) (aa (g_ y_ w_ (dI 2)) ai)))) (HX (am (g_ G_ (g_ y_ w_ (dI 0)) (dT "spoil"))) (bu (aX G.World m_ (gy G) h_ (aa (g_ y_ w_ (dI 1)) (aa (g_ y_ w_ (dI 2)) (aa (ak aG (aa (g_ y_ w_ (dI 3)) (aa (dI 9829) (aa (dI 16) ai)))) (aa (ak aG (aa (g_ y_ w_ (dI 3)) (aa (dI 9817) (aa (dI 256) ai)))) ai)))))) (HX (am (g_ G_ (g_ y_ w_ (dI 0)) (dT "fall"))) (bu (aX G.World m_ (iq G) h_ (aa (g_ y_ w_ (dI 1)) ai))) (bu (aX G.World m_ (dH G) h_ ai)))))))))
def lJ(G:Cs):List D->M D:=mF 2 (mY G)
def xY{G:Cs}(T:Txt K mg G)(Jf:Jn P w K mg base (A_ P w) "_law_message" 2 ["_law_cell_here","_law_longest"] cy)(MS:Hx P w K mg base (A_ P w) G.World "hand" 3 ["self","message"] (ip G))(JK:Hx P w K mg base (A_ P w) G.World "tick" 7 ["self"] (ei G))(JL:Hx P w K mg base (A_ P w) G.World "step" 8 ["self","road"] (eo G))(MT:Hx P w K mg base (A_ P w) G.World "lose" 2 ["self","road","k"] (iu G))(LK:Hx P w K mg base (A_ P w) G.World "double" 2 ["self","road","k"] (fJ G))(Hh:Jn P w K mg base (A_ P w) "_law_mix" 1 ["_law_cell_here","_law_prime","_law_many"] aG)(Mf:Hx P w K mg base (A_ P w) G.World "spoil" 2 ["self","road","k","place","by"] (gy G))(MU:Hx P w K mg base (A_ P w) G.World "fall" 3 ["self","who"] (iq G))(Jv:Hx P w K mg base (A_ P w) G.World "start" 4 ["self"] (dH G)){f:Addr}{fd:FuncData}(F:HP K "_law_do" "_law_do" oN f fd):HW P w K mg base (A_ P w) 9 f fd ["_law_world","_law_act"] (lJ G):=by
 refine fE F w3 fun Hb A outer s H E hr=>?_
 have hu:=hr.units;exact(al (bw (aD (cj hu) (aL HS (ac 1) ao (fun _ _=>rfl)) aK (aJ _)) (al (aP (bB MS (hr.mono (by decide)) T.u_ (by decide +kernel) aH (ac 0) (ae (aM Jf (hr.mono (by decide)) rfl aH (ae (aL HS (ac 1) ao (fun _ _=>rfl)) (ae ao ag)) (aj (aj aC))) ag) (d9 (aj aC))))) (al (bw (aD (cj hu) (aL HS (ac 1) ao (fun _ _=>rfl)) aK (aJ _)) (al (aP (cw JK (hr.mono (by decide)) T.u_ (by decide +kernel) aH (ac 0)))) (al (bw (aD (cj hu) (aL HS (ac 1) ao (fun _ _=>rfl)) aK (aJ _)) (al (aP (bB JL (hr.mono (by decide)) T.u_ (by decide +kernel) aH (ac 0) (ae (aL HS (ac 1) ao (fun _ _=>rfl)) ag) (d9 (aj aC))))) (al (bw (aD (cj hu) (aL HS (ac 1) ao (fun _ _=>rfl)) aK (aJ _)) (al (aP (bB MT (hr.mono (by decide)) T.u_ (by decide +kernel) aH (ac 0) (ae (aL HS (ac 1) ao (fun _ _=>rfl)) (ae (aL HS (ac 1) ao (fun _ _=>rfl)) ag)) (d9 (aj (aj aC)))))) (al (bw (aD (cj hu) (aL HS (ac 1) ao (fun _ _=>rfl)) aK (aJ _)) (al (aP (bB LK (hr.mono (by decide)) T.u_ (by decide +kernel) aH (ac 0) (ae (aL HS (ac 1) ao (fun _ _=>rfl)) (ae (aL HS (ac 1) ao (fun _ _=>rfl)) ag)) (d9 (aj (aj aC)))))) (al (bw (aD (cj hu) (aL HS (ac 1) ao (fun _ _=>rfl)) aK (aJ _)) (al (aP (bB Mf (hr.mono (by decide)) T.u_ (by decide +kernel) aH (ac 0) (ae (aL HS (ac 1) ao (fun _ _=>rfl)) (ae (aL HS (ac 1) ao (fun _ _=>rfl)) (ae (aM Hh (hr.mono (by decide)) rfl aH (ae (aL HS (ac 1) ao (fun _ _=>rfl)) (ae ao (ae ao ag))) (aj (aj (aj aC)))) (ae (aM Hh (hr.mono (by decide)) rfl aH (ae (aL HS (ac 1) ao (fun _ _=>rfl)) (ae ao (ae ao ag))) (aj (aj (aj aC)))) ag)))) (d9 (aj (aj (aj (aj aC)))))))) (al (bw (aD (cj hu) (aL HS (ac 1) ao (fun _ _=>rfl)) aK (aJ _)) (al (aP (bB MU (hr.mono (by decide)) T.u_ (by decide +kernel) aH (ac 0) (ae (aL HS (ac 1) ao (fun _ _=>rfl)) ag) (d9 (aj aC))))) (al (aP (cw Jv (hr.mono (by decide)) T.u_ (by decide +kernel) aH (ac 0))))))))))))))))))
def oA:n_ ["self","road"] ["self","road"] (j_ ia):=Ih
def gh(G:Cs):Hd:=(bJ (ak fm (aa (eC (Js (g_ gK (aA G.World m_ 2 h_) w_)) (gN 0) gQ (g_ y_ h_ (dI 0)) 1 []) ai)))
def bN(G:Cs):List D->M D:=mF 2 (gh G)
def oR{G:Cs}(T:Txt K mg G){f:Addr}{fd:FuncData}(F:HP K "on_road" "World.on_road" ia f fd):HW P w K mg base (A_ P w) 1 f fd ["self","road"] (bN G):=by
 refine fE F oA fun Hb A outer s H E hr=>?_
 have hu:=hr.units;exact(al (aV (dG gS rfl T.IE boot_tuple (ae (ga (own:=["entry"]) (capN:=[]) (caps:=[]) ⟨rfl,Kx.all trivial,rfl,by decide +kernel,rfl,by decide +kernel,trivial,by decide +kernel⟩ rfl (dQ (aL (sk hu) (aE T.u_ T.G3 bZ (ac 0)) (ac 1) (fun _ _=>rfl))) (gF (by decide)) (fun C s2 H2 fp=>⟨(bP (i:=0) (show(["entry"]:List Str).Nodup from by decide +kernel)),kq,(aL HS (ac 0) ao (fun _ _=>rfl))⟩)) ag))))
def Lh:n_ ["world","road","strip"] ["world","road"] (j_ mJ):=Ih
def mi(G:Cs):Hd:=(bu (aX G.World m_ (eo G) h_ (aa w_ ai)))
def lf(G:Cs):Hd:=(ny (Js (aX G.World m_ (bN G) h_ (aa w_ ai))) (gN 2) (mi G))
def iL(G:Cs):List D->M D:=mF 3 (lf G)
def wE{G:Cs}(T:Txt K mg G)(Ip:Hx P w K mg base (A_ P w) G.World "on_road" 1 ["self","road"] (bN G))(JL:Hx P w K mg base (A_ P w) G.World "step" 8 ["self","road"] (eo G)){f:Addr}{fd:FuncData}(F:HP K "walk_off" "walk_off" mJ f fd):HW P w K mg base (A_ P w) 9 f fd ["world","road"] (iL G):=by
 refine fE F Lh fun Hb A outer s H E hr=>?_
 have hu:=hr.units;exact(al (jR rfl (dQ (bB Ip (hr.mono (by decide)) T.u_ (by decide +kernel) aH (ac 0) (ae (ac 1) ag) (d9 (aj aC)))) (bP (i:=2) Lh.nd) (al (aP (bB JL (hr.mono (by decide)) T.u_ (by decide +kernel) aH (ac 0) (ae (ac 1) ag) (d9 (aj aC)))))))
def Ot:n_ ["world","count","turn"] ["world","count"] (j_ xf):=Ih
def lI(G:Cs):Hd:=(aI (bu (aX G.World m_ (dH G) h_ ai))
 (aI (bu (aX G.World m_ (ei G) h_ ai))
 (aI (bu (ak (iL G) (aa h_ (aa (dT "there") ai))))
 (bu (ak (iL G) (aa h_ (aa (dT "back") ai)))))))
def uq(G:Cs):Hd:=(ny (o7 w_) (gN 2) (lI G))
def rT(G:Cs):List D->M D:=mF 3 (uq G)
def Ct{G:Cs}(T:Txt K mg G)(Jv:Hx P w K mg base (A_ P w) G.World "start" 4 ["self"] (dH G))(JK:Hx P w K mg base (A_ P w) G.World "tick" 7 ["self"] (ei G))(LL:Jn P w K mg base (A_ P w) "walk_off" 9 ["world","road"] (iL G)){f:Addr}{fd:FuncData}(F:HP K "calm" "calm" xf f fd):HW P w K mg base (A_ P w) 10 f fd ["world","count"] (rT G):=by
 refine fE F Ot fun Hb A outer s H E hr=>?_
 have hu:=hr.units;exact(al (jR rfl (mI rfl T.KQ (ac 1)) (bP (i:=2) Ot.nd) (aq (aP (cw Jv (hr.mono (by decide)) T.u_ (by decide +kernel) aH (ac 0)))
   (aq (aP (cw JK (hr.mono (by decide)) T.u_ (by decide +kernel) aH (ac 0)))
   (aq (aP (aM LL (hr.mono (by decide)) rfl aH (ae (ac 0) (ae aK ag)) (aj (aj aC))))
   (al (aP (aM LL (hr.mono (by decide)) rfl aH (ae (ac 0) (ae aK ag)) (aj (aj aC))))))))))
def oM:n_ ["self"] ["self"] (j_ gZ):=Ih
def gr(G:Cs):Hd:=(bJ (aA G.c_ a_ 3 (aA G.World m_ 0 h_)))
def dF(G:Cs):List D->M D:=mF 1 (gr G)
def oC{G:Cs}(T:Txt K mg G){f:Addr}{fd:FuncData}(F:HP K "sure_of" "World.sure_of" gZ f fd):HW P w K mg base (A_ P w) 1 f fd ["self"] (dF G):=by
 refine fE F oM fun Hb A outer s H E hr=>?_
 have hu:=hr.units;exact(al (aV (aE T.k_ T.IF aF (aE T.u_ T.Hl bZ (ac 0)))))
def nL:n_ ["self"] ["self"] (j_ gl):=Ih
def fB(G:Cs):Hd:=(bJ (aA G.c_ a_ 5 (aA G.World m_ 0 h_)))
def de(G:Cs):List D->M D:=mF 1 (fB G)
def nD{G:Cs}(T:Txt K mg G){f:Addr}{fd:FuncData}(F:HP K "state_of" "World.state_of" gl f fd):HW P w K mg base (A_ P w) 1 f fd ["self"] (de G):=by
 refine fE F nL fun Hb A outer s H E hr=>?_
 have hu:=hr.units;exact(al (aV (aE T.k_ T.E_ aF (aE T.u_ T.Hl bZ (ac 0)))))
def HZ:n_ ["_law_handed_here","_law_found","_law_at","_law_opening","_law_message_here"] ["_law_handed_here","_law_found"] (j_ iJ):=Ih
def dR:Hd:=(HX (dg (am (g_ JO Hv (ak bq (aa h_ ai)))) (am (g_ G_ (g_ y_ h_ Hv) Jy))) (cz (g_ bK Hv (dI 1)) (gN 2)) bD)
def ij:Hd:=(aI (cz (dI 0) (gN 2))
 (aI (ny (Js w_) (gT [3,4]) dR)
 (bJ (g_ G_ Hv (ak bq (aa h_ ai))))))
def dY:List D->M D:=mF 5 ij
def pP{G:Cs}(T:Txt K mg G){f:Addr}{fd:FuncData}(F:HP K "_law_all_out" "_law_all_out" iJ f fd):HW P w K mg base (A_ P w) 1 f fd ["_law_handed_here","_law_found"] dY:=by
 refine fE F HZ fun Hb A outer s H E hr=>?_
 have hu:=hr.units;exact(aq (bI (i:=2) HZ.nd ao)
   (aq (jR rfl (dQ (ac 1)) (uY rfl (gP (bP (i:=3) HZ.nd) (gP (bP (i:=4) HZ.nd) pY))) (al (bw (Lc.pt (eA (aD jV (ac 2) (bj cJ rfl T.Ie boot_len (ae (ac 0) ag)) (aJ _)) (dD (aD (cj hu) (aL HS (ac 0) (ac 2) (fun _ _=>rfl)) (ac 4) (aJ _))))) (al (bI (i:=2) HZ.nd (bG cm (ac 2) ao))) aZ)))
   (al (aV (lr (cj hu) (ac 2) (bj cJ rfl T.Ie boot_len (ae (ac 0) ag)) (aJ _))))))
def mH:n_ ["self"] ["self"] (j_ fK):=Ih
def fu(G:Cs):Hd:=(bJ (ak fm (aa (aA G.i_ d_ 1 (aA G.World m_ 1 h_)) ai)))
def b0(G:Cs):List D->M D:=mF 1 (fu G)
def mn{G:Cs}(T:Txt K mg G){f:Addr}{fd:FuncData}(F:HP K "given_out" "World.given_out" fK f fd):HW P w K mg base (A_ P w) 1 f fd ["self"] (b0 G):=by
 refine fE F mH fun Hb A outer s H E hr=>?_
 have hu:=hr.units;exact(al (aV (dG gS rfl T.IE boot_tuple (ae (aE T.r_ T.IV aY (aE T.u_ T.Io bZ (ac 0))) ag))))
def Jj:n_ ["_law_message_here","_law_most","_law_found","_law_at"] ["_law_message_here","_law_most"] (j_ jz):=Ih
def gx:Hd:=(bu (KG j2 Hv (aa (bY (aa (ak BX (aa (g_ Lm (g_ bK Hk w_) (ak bq (aa h_ ai))) ai)) (aa (JT Jd h_ (bL Hk) (bL (g_ bK Hk w_))) ai))) ai)))
def jj:Hd:=(aI (cz (cg ai) (gN 2))
 (aI (ny (wz (dI 0) (ak Ae (aa (dI 1) (aa (ak bq (aa h_ ai)) ai))) w_) (gN 3) gx)
 (bJ Hv)))
def cZ:List D->M D:=mF 4 jj
def rJ{G:Cs}(T:Txt K mg G){f:Addr}{fd:FuncData}(F:HP K "_law_pieces" "_law_pieces" jz f fd):HW P w K mg base (A_ P w) 1 f fd ["_law_message_here","_law_most"] cZ:=by
 refine fE F Jj fun Hb A outer s H E hr=>?_
 have hu:=hr.units;exact(aq (bI (i:=2) Jj.nd (cq ag))
   (aq (jR rfl (xi rfl T.KQ ao (bj (BV rfl) rfl T.Q8 boot_max (ae ao (ae (bj cJ rfl T.Ie boot_len (ae (ac 0) ag)) ag))) (ac 1)) (bP (i:=3) Jj.nd) (al (aP (d8 PySem.F.slot_list_append PySem.F.type_list_append dh (ac 2) (ae (bU (ae (dG EF rfl T.Q7 boot_int (ae (lr v7 (bG cm (ac 3) (ac 1)) (bj cJ rfl T.Ie boot_len (ae (ac 0) ag)) (aJ _)) ag)) (ae (eR PQ (ac 0) (df (ac 3)) (df (bG cm (ac 3) (ac 1)))) ag))) ag)))))
   (al (aV (ac 2)))))
def JM:n_ ["_law_script","_law_window","_law_most","_law_world","_law_falls","_law_acts_here","_law_act","_law_handed_here","_law_many"] ["_law_script"] (j_ tL):=Ih
def qC(G:Cs):Hd:=(bu (ak (lJ G) (aa Hk (aa vV6 ai))))
def wY(G:Cs):Hd:=(aI (cz (ak fP (aa h_ ai)) (gT [1,2]))
 (aI (cz (ak (jf G.World (cH G)) (aa w_ (aa Hv ai))) (gN 3))
 (aI (cz (g_ G_ (g_ jT (g_ wF (ak bA (aa h_ (aa (dI 1) ai))) (dI 8)) (dI 2)) (dI 1)) (gN 4))
 (aI (cz (ak jq (aa h_ (aa Jy ai))) (gN 5))
 (aI (ny (Js PT) (gN 6) (qC G))
 (aI (cz (ak eN (aa PT ai)) (gN 7))
 (aI (cz (ak lX (aa (eC (Js OJ) (gN 0) gQ (ak bq (aa (ak cZ (aa h_ (aa w_ ai))) ai)) 1 [2]) ai)) (gN 8))
 (aI (HX (am (g_ lj (ak (rT G) (aa Hk (aa (g_ bK YS (dI 4)) ai))) (dC .G0))) (bJ (dC (.bl false))) bD)
 (aI (HX (JH (am (g_ Jp (aX G.World m_ (dF G) Hk ai) (ak bq (aa OJ ai)))) (JH (am (g_ Jp (aX G.World m_ (de G) Hk ai) (dT "open"))) (dl (bW (ak dY (aa OJ (aa (aX G.World m_ (b0 G) Hk ai) ai))))))) (bJ (dC (.bl false))) bD)
 (aI (HX (JH (am (g_ Jp (aX G.World m_ (bN G) Hk (aa (dT "there") ai)) (bY ai))) (am (g_ Jp (aX G.World m_ (bN G) Hk (aa (dT "back") ai)) (bY ai)))) (bJ (dC (.bl false))) bD)
 (bJ (Ey Jy (g_ G_ (aX G.World m_ (b0 G) Hk ai) (ak fm (aa (eC (Js OJ) (gN 0) gQ (bY (aa (dI 1) (aa h_ ai))) 1 []) ai)))))))))))))))
def D7(G:Cs):List D->M D:=mF 9 (wY G)
def EN{G:Cs}(T:Txt K mg G)(LM:Jn P w K mg base (A_ P w) "_law_setting" 2 ["_law_script"] fP)(Qi:NV P w K mg base (A_ P w) "World" G.World 3 ["self","window","most"] (cH G))(Iw:Jn P w K mg base (A_ P w) "_law_cell" 1 ["_law_script","_law_k"] bA)(Np:Jn P w K mg base (A_ P w) "_law_acts" 2 ["_law_script","_law_falls"] jq)(OM:Jn P w K mg base (A_ P w) "_law_do" 9 ["_law_world","_law_act"] (lJ G))(Mg:Jn P w K mg base (A_ P w) "_law_handed" 3 ["_law_acts_here"] eN)(Mh:Jn P w K mg base (A_ P w) "_law_pieces" 1 ["_law_message_here","_law_most"] cZ)(RQ:Jn P w K mg base (A_ P w) "calm" 10 ["world","count"] (rT G))(Lo:Hx P w K mg base (A_ P w) G.World "sure_of" 1 ["self"] (dF G))(K9:Hx P w K mg base (A_ P w) G.World "state_of" 1 ["self"] (de G))(Jr:Hx P w K mg base (A_ P w) G.World "given_out" 1 ["self"] (b0 G))(LN:Jn P w K mg base (A_ P w) "_law_all_out" 1 ["_law_handed_here","_law_found"] dY)(Ip:Hx P w K mg base (A_ P w) G.World "on_road" 1 ["self","road"] (bN G)){f:Addr}{fd:FuncData}(F:HP K "law" "law" tL f fd):HW P w K mg base (A_ P w) 11 f fd ["_law_script"] (D7 G):=by
 refine fE F JM fun Hb A outer s H E hr=>?_
 have hu:=hr.units;exact(aq (E5 (aM LM (hr.mono (by decide)) rfl aH (ae (ac 0) ag) (aj aC)) (uY rfl (gP (bP (i:=1) JM.nd) (gP (bP (i:=2) JM.nd) pY))))
   (aq (bI (i:=3) JM.nd (u9 Qi (hr.mono (by decide)) rfl aH (ae (ac 1) (ae (ac 2) ag)) (d9 (aj (aj aC)))))
   (aq (bI (i:=4) JM.nd (lr (cj hu) (bG iX (bG yY (aM Iw (hr.mono (by decide)) rfl aH (ae (ac 0) (ae ao ag)) (aj (aj aC))) ao) ao) ao (aJ _)))
   (aq (bI (i:=5) JM.nd (aM Np (hr.mono (by decide)) rfl aH (ae (ac 0) (ae (ac 4) ag)) (aj (aj aC))))
   (aq (jR rfl (dQ (ac 5)) (bP (i:=6) JM.nd) (al (aP (aM OM (hr.mono (by decide)) rfl aH (ae (ac 3) (ae (ac 6) ag)) (aj (aj aC))))))
   (aq (bI (i:=7) JM.nd (aM Mg (hr.mono (by decide)) rfl aH (ae (ac 5) ag) (aj aC)))
   (aq (bI (i:=8) JM.nd (bj (vk rfl) rfl T.Oq boot_sum (ae (ga (own:=["_law_message_here"]) (capN:=["_law_most"]) (caps:=[2]) ⟨rfl,Kx.all ⟨rfl,trivial⟩,rfl,by decide +kernel,rfl,by decide +kernel,⟨⟨rfl,Or.inl rfl,Or.inl rfl,rfl⟩,trivial⟩,by decide +kernel⟩ rfl (dQ (ac 7)) (gF (by decide)) (fun C s2 H2 fp=>⟨(bP (i:=0) (show(["_law_message_here","_law_most"]:List Str).Nodup from by decide +kernel)),kq,(bj cJ rfl T.Ie boot_len (ae (aM Mh (hr.mono (by decide)) rfl aH (ae (ac 0) (ae (ac 1) ag)) (aj (aj aC))) ag))⟩)) ag)))
   (aq (bw (aD ut (aM RQ (hr.mono (by decide)) rfl aH (ae (ac 3) (ae (bG cm (ac 8) ao) ag)) (aj (aj aC))) uF (aJ _)) (al (aV nY)) aZ)
   (aq (bw (Lc.pt (ku (aD (n5 hu) (cw Lo (hr.mono (by decide)) T.u_ (by decide +kernel) aH (ac 3)) (bj cJ rfl T.Ie boot_len (ae (ac 7) ag)) (aJ _)) (ku (aD (n5 hu) (cw K9 (hr.mono (by decide)) T.u_ (by decide +kernel) aH (ac 3)) aK (aJ _)) (lM (iw (da (aM LN (hr.mono (by decide)) rfl aH (ae (ac 7) (ae (cw Jr (hr.mono (by decide)) T.u_ (by decide +kernel) aH (ac 3)) ag)) (aj (aj aC))))))))) (al (aV nY)) aZ)
   (aq (bw (Lc.pt (ku (aD (n5 hu) (bB Ip (hr.mono (by decide)) T.u_ (by decide +kernel) aH (ac 3) (ae aK ag) (d9 (aj aC))) (bU ag) (aJ _)) (lM (aD (n5 hu) (bB Ip (hr.mono (by decide)) T.u_ (by decide +kernel) aH (ac 3) (ae aK ag) (d9 (aj aC))) (bU ag) (aJ _))))) (al (aV nY)) aZ)
   (al (aV (Fn (ac 4) (ol (lr (cj hu) (cw Jr (hr.mono (by decide)) T.u_ (by decide +kernel) aH (ac 3)) (dG gS rfl T.IE boot_tuple (ae (ga (own:=["_law_message_here"]) (capN:=[]) (caps:=[]) ⟨rfl,Kx.all trivial,rfl,by decide +kernel,rfl,by decide +kernel,trivial,by decide +kernel⟩ rfl (dQ (ac 7)) (gF (by decide)) (fun C s2 H2 fp=>⟨(bP (i:=0) (show(["_law_message_here"]:List Str).Nodup from by decide +kernel)),kq,(bU (ae ao (ae (ac 0) ag)))⟩)) ag)) (aJ _))))))))))))))))
end
end Lw
namespace Lw
abbrev HM:=List Int
abbrev Pc:=Int×List Int
inductive v_ where
 |x_ (o:Nat)|t_ (o:Nat)|Iy (o:Nat)|data (o n:Nat) (p:Pc)|note (o n:Nat) (bs:List Int)
 deriving DecidableEq
def km(k:Nat):Nat->HM->List Pc
 |0,m=>[(1,m)]
 |n+1,m=>if k<m.length then (0,m.take k) :: km k n (m.drop k) else [(1,m)]
def dW(k:Nat)(m:HM):List Pc:=km k 100 m
def bf(ps:List Pc):HM:=ps.flatMap (·.2)
def He(ps:List Pc):Nat:=(ps.filter fun p=>decide (p.1=1)).length
def iz(num low:Int)(w:Nat):Int:=low+(num-low) % (2 * (w:Int))
structure Hr where
 w:Nat
 given:List (Nat×HM)
 op:Nat
 nx:Nat
 early:List (Nat×Pc)
 begun:List Pc
namespace Hr
def new(w:Nat):Hr:=⟨w,[],0,0,[],[]⟩
def begin_(h:Hr)(o:Nat):Hr:={ h with op:=o,nx:=0,early:=[],begun:=[] }
def HD(h:Hr):Hr:=h.begin_ 0
def idx(h:Hr)(num:Nat):Int:=iz num ((h.nx:Int)-h.w) h.w
def keep(h:Hr)(num:Nat)(p:Pc):Hr:=if num<2 * h.w/\(h.nx:Int)<=h.idx num/\h.early.lookup (h.idx num).toNat=none then { h with early:=h.early++[((h.idx num).toNat,p)] } else h
def take(h:Hr)(p:Pc):Hr:=if p.1=1 then { h with given:=h.given++[(h.op,bf (h.begun++[p]))],begun:=[] } else { h with begun:=h.begun++[p] }
def pop(h:Hr):Hr:={ h with early:=h.early.filter fun e=>decide (e.1≠h.nx),nx:=h.nx+1 }
def F_:Nat->Hr->Hr
 |0,h=>h
 |n+1,h=>match h.early.lookup h.nx with
  |none=>h
  |some p=>F_ n (h.pop.take p)
def bits(h:Hr):List Int:=(range h.w).map fun k=>if (h.early.lookup (h.nx+k)).isSome then 1 else 0
def note(h:Hr):v_:=.note h.op (h.nx % (2 * h.w)) h.bits
def data(h:Hr)(num:Nat)(p:Pc):Hr:=F_ (h.keep num p).early.length (h.keep num p)
def f_(h:Hr):v_->Hr×List v_
 |.x_ o=>if o<h.op then (h,[]) else if h.op<o then (h.begin_ o,[.t_ o]) else (h,[.t_ o])
 |.data o n p=>if o<h.op then (h,[]) else if h.op<o then (h,[.Iy o]) else (h.data n p,[(h.data n p).note])
 |_=>(h,[])
end Hr
inductive St where
 |Hs|opening|opened
 deriving DecidableEq
structure Sr where
 w:Nat
 most:Nat
 msgs:List HM
 sure:Nat
 op:Nat
 st:St
 ps:List Pc
 base:Nat
 GZ:List Nat
namespace Sr
def new(w most:Nat):Sr:=⟨w,most,[],0,0,.Hs,[],0,[]⟩
def hand(s:Sr)(m:HM):Sr:={ s with msgs:=s.msgs++[m],ps:=if s.st=.Hs then s.ps else s.ps++dW s.most m }
def anew(s:Sr):Sr:={ s with op:=s.op+1,st:=.opening,ps:=(s.msgs.drop s.sure).flatMap (dW s.most),base:=0,GZ:=[] }
def start(s:Sr):Sr:=if s.st=.Hs then s.anew else s
def HD(s:Sr):Sr:={ s with st:=.Hs }
def wanted(s:Sr):List Nat:=(range' s.base (min (s.base+s.w) s.ps.length-s.base)).filter fun i=>decide (i∉s.GZ)
def dataOf(s:Sr)(i:Nat):v_:=.data s.op (i % (2 * s.w)) (s.ps.getD i (0,[]))
def tick(s:Sr):List v_:=match s.st with
 |.Hs=>[]
 |.opening=>[.x_ s.op]
 |.opened=>s.wanted.map s.dataOf
def Hj(s:Sr):Nat->List Int->Sr
 |_,[]=>s
 |k,b :: bs=>Hj (if b=1/\s.base+k<s.ps.length/\s.base+k∉s.GZ then { s with GZ:=s.GZ++[s.base+k] } else s) (k+1) bs
def I0(s:Sr)(i:Nat):Sr:={ s with sure:=s.sure+He ((s.ps.take i).drop s.base),base:=i }
def z_(s:Sr)(num:Nat)(bs:List Int):Sr:=
 if num<2 * s.w/\iz num s.base s.w<=min (s.base+s.w) s.ps.length then (s.I0 (iz num s.base s.w).toNat).Hj 0 bs else s
def f_(s:Sr):v_->Sr
 |.t_ o=>if o=s.op/\s.st=.opening then { s with st:=.opened } else s
 |.Iy o=>if o=s.op/\s.st=.opened then s.anew else s
 |.note o n bs=>if o=s.op/\s.st=.opened then s.z_ n bs else s
 |_=>s
end Sr
def iZ(a b:List Pc):bf (a++b)=bf a++bf b:=by simp[bf]
def we(p:Pc):bf [p]=p.2:=by simp[bf]
def eB(a b:List Pc):He (a++b)=He a+He b:=by simp[He]
def qy{a:List Pc}(h:∀p∈a,p.1=0):He a=0:=by
 unfold He;rw[List.length_eq_zero_iff,List.filter_eq_nil_iff];intro p hp;rw[h p hp]
 decide
theorem uf(k:Nat):∀(n:Nat) (m:HM),∃pre l,km k n m=pre++[(1,l)]/\(∀p∈pre,p.1=0)/\bf pre++l=m
 |0,m=>⟨[],m,rfl,by simp,by simp[bf]⟩
 |n+1,m=>by
  unfold km;split
  ·obtain⟨pre,l,h1,h2,h3⟩:=uf k n (m.drop k);refine⟨(0,m.take k) :: pre,l,by rw[h1];rfl,?_,?_⟩
   ·intro p hp;rcases List.mem_cons.mp hp with rfl|hp
    ·rfl
    ·exact h2 p hp
   ·rw[show bf ((0,m.take k) :: pre)=m.take k++bf pre by simp[bf],append_assoc,h3,take_append_drop]
  ·exact⟨[],m,rfl,by simp,by simp[bf]⟩
def lK(k:Nat)(m:HM):∃pre l,dW k m=pre++[(1,l)]/\(∀p∈pre,p.1=0)/\bf pre++l=m:=uf k 100 m
def qY(k:Nat)(m:HM):He (dW k m)=1:=by
 obtain⟨pre,l,h1,h2,_⟩:=lK k m;rw[h1,eB,qy h2];rfl
def qI(k:Nat)(m:HM):∀p∈dW k m,p.1=0\/p.1=1:=by
 obtain⟨pre,l,h1,h2,_⟩:=lK k m;intro p hp;rw[h1] at hp;rcases List.mem_append.mp hp with hp|hp
 ·exact .inl (h2 p hp)
 ·rw[List.mem_singleton.mp hp];exact .inr rfl
def sE(x:List HM×List Pc)(p:Pc):List HM×List Pc:=if p.1=1 then (x.1++[bf (x.2++[p])],[]) else (x.1,x.2++[p])
def PU(ps:List Pc):List HM×List Pc:=ps.foldl sE ([],[])
def vV(ps:List Pc)(p:Pc):PU (ps++[p])=sE (PU ps) p:=by simp[PU,foldl_append]
theorem qG:∀(ps:List Pc) (x:List HM×List Pc),(∀p∈ps,p.1=0)->ps.foldl sE x=(x.1,x.2++ps)
 |[],x,_=>by simp
 |p :: ps,x,h=>by
  have h0:p.1=0:=h p (by simp);have h1:¬p.1=1:=by rw[h0];decide
  rw[foldl_cons,show sE x p=(x.1,x.2++[p]) by simp[sE,h1],qG ps _ fun q hq=>h q (mem_cons_of_mem _ hq)];simp
def Cl(k:Nat)(m:HM)(ms:List HM):(dW k m).foldl sE (ms,[])=(ms++[m],[]):=by
 obtain⟨pre,l,h1,h2,h3⟩:=lK k m;rw[h1,foldl_append,qG pre _ h2];simp[sE,iZ,we,h3]
def fl(k:Nat)(ms:List HM):List Pc:=ms.flatMap (dW k)
def oI(k:Nat)(a b:List HM):fl k (a++b)=fl k a++fl k b:=by simp[fl]
def nX(k:Nat)(m:HM)(ms:List HM):fl k (m :: ms)=dW k m++fl k ms:=by simp[fl]
theorem rP(k:Nat):∀ms:List HM,He (fl k ms)=ms.length
 |[]=>rfl
 |m :: ms=>by rw[nX,eB,qY,rP k ms,length_cons];omega
def BJ(k:Nat)(ms:List HM):∀p∈fl k ms,p.1=0\/p.1=1:=by
 intro p hp;obtain⟨m,_,h⟩:=List.mem_flatMap.mp hp;exact qI k m p h
theorem AM(k:Nat):∀(ms:List HM) (n:Nat) (acc:List HM),∃b,((fl k ms).take n).foldl sE (acc,[])=(acc++ms.take (He ((fl k ms).take n)),b)
 |[],n,acc=>⟨[],by simp[fl]⟩
 |m :: ms,n,acc=>by
  rw[nX];by_cases h:(dW k m).length<=n
  ·obtain⟨b,hb⟩:=AM k ms (n-(dW k m).length) (acc++[m]);refine⟨b,?_⟩;rw[List.take_append,take_of_length_le h,foldl_append,Cl,hb,eB,qY,Nat.add_comm 1,List.take_succ_cons,append_assoc];rfl
  ·obtain⟨pre,l,h1,h2,h3⟩:=lK k m;have hz:∀p∈((dW k m++fl k ms).take n),p.1=0:=by
    intro p hp;rw[List.take_append_of_le_length (by omega),h1] at hp;rw[h1,length_append,length_singleton] at h;rw[List.take_append_of_le_length (by omega)] at hp;exact h2 p (mem_of_mem_take hp)
   refine⟨(dW k m++fl k ms).take n,?_⟩;rw[qG _ _ hz,qy hz];simp
def wN(k:Nat)(ms:List HM)(n:Nat):(PU ((fl k ms).take n)).1=ms.take (He ((fl k ms).take n)):=by
 obtain⟨b,hb⟩:=AM k ms n [];unfold PU;rw[hb];simp
def qb(a:List Pc){i j:Nat}(h:i<=j):He (a.take i)<=He (a.take j):=by
 have e:a.take j=a.take i++(a.take j).drop i:=by
  have:=take_append_drop i (a.take j);rw[List.take_take,Nat.min_eq_left h] at this;exact this.symm
 rw[e,eB];omega
def pf(k:Nat)(ms:List HM)(n:Nat):He ((fl k ms).take n)<=ms.length:=by
 rw[<-rP k ms];have:=eB ((fl k ms).take n) ((fl k ms).drop n);rw[take_append_drop] at this;omega
def nE{i low:Int}{w:Nat}(hw:0<w)(h1:low<=i)(h2:i<low+2 * w):iz (i % (2 * (w:Int))) low w=i:=by
 unfold iz;have hm:(0:Int)<2 * (w:Int):=by omega
 have e:(i % (2 * (w:Int))-low) % (2 * (w:Int))=(i-low) % (2 * (w:Int)):=by
  rw[Int.sub_emod,Int.emod_emod_of_dvd _ (Int.dvd_refl _),<-Int.sub_emod]
 rw[e,Int.emod_eq_of_lt (by omega) (by omega)];omega
end Lw
namespace Lw
open PySem L2 DL
def Hn(p:Pc):D:=.tup [.int p.1,.tup (p.2.map D.int)]
def B_(m:HM):D:=.tup (m.map D.int)
def o_:v_->D
 |.x_ o=>.tup [.str "hello",.int (o:Int)]
 |.t_ o=>.tup [.str "welcome",.int (o:Int)]
 |.Iy o=>.tup [.str "who",.int (o:Int)]
 |.data o n p=>.tup [.str "data",.int (o:Int),.int (n:Int),Hn p]
 |.note o n bs=>.tup [.str "note",.int (o:Int),.int (n:Int),.tup (bs.map D.int)]
def dz{S:List Cell}{i j:Nat}{c d:Cell}(h1:S[i]?=some c)(h2:S[j]?=some d)(h:c≠d):i≠j:=fun e=>h (by subst e;rw[h1] at h2;injection h2)
def dc(n:Nat):∀is:List Int,jP n (is.map D.int)
 |[]=>by simp[jP]
 |i :: is=>by simp[jP,IM,dc n is]
def EH(n:Nat)(x:HM):IM n (B_ x):=by simp[B_,IM,dc]
def FP(n:Nat)(p:Pc):IM n (Hn p):=by simp[Hn,IM,jP,dc]
def B1(n:Nat):∀ps:List Pc,jP n (ps.map Hn)
 |[]=>by simp[jP]
 |p :: ps=>by rw[map_cons];exact⟨FP n p,B1 n ps⟩
theorem wL{k:Nat}(hk:1<=k):∀(n:Nat) (m:HM),(km k n m).length<=m.length+1
 |0,m=>by simp[km]
 |n+1,m=>by
  unfold km;split
  ·have:=wL hk n (m.drop k);rw[length_drop] at this;rw[length_cons];omega
  ·simp
def nZ{k:Nat}(hk:1<=k)(m:HM):(dW k m).length<=m.length+1:=wL hk 100 m
theorem pc{k:Nat}(hk:1<=k){x0 x1:Option D}{S:List Cell}:∀(fuel:Nat) (acc:List Pc) (m:HM),m.length<fuel->acc.length+m.length<1000000->∃pre l,km k fuel m=pre++[(1,l)]/\pre.length<=m.length/\
  gf (am (g_ Q0 (ak bq (aa Jy ai)) Hv)) (aI (bu (KG j2 Hk (aa (bY (aa (dI 0) (aa (JT Jd Jy bV (bL Hv)) ai))) ai)))
 (cz (JT Jd Jy (bL Hv) bV) (gN 4))) fuel [x0,x1,sI (k:Int),sO S.length,some (B_ m)] (S++[.lst (acc.map Hn)])=some (.nx [x0,x1,sI (k:Int),sO S.length,some (B_ l)],S++[.lst ((acc++pre).map Hn)])
 |0,_,_,h,_=>by omega
 |f+1,acc,m,h,hz=>by
  have t1:am (g_ Q0 (ak bq (aa Jy ai)) Hv) [x0,x1,sI (k:Int),sO S.length,some (B_ m)] (S++[.lst (acc.map Hn)])=.ok (decide (k<m.length)) (S++[.lst (acc.map Hn)]):=by
   refine ay (ar (x:=.int (m.length:Int)) (av (af rfl ah) (by unfold B_;rw[cn,length_map])) rfl ?_);rw[Ew];congr 2;rw[decide_eq_decide];omega
  by_cases hc:k<m.length
  ·rw[decide_eq_true hc] at t1;obtain⟨pre,l,p1,p2,p3⟩:=pc (x0:=x0) (x1:=x1) (S:=S) hk f (acc++[(0,m.take k)]) (m.drop k) (by rw[length_drop];omega) (by rw[length_append,length_drop,length_singleton];omega);refine⟨(0,m.take k) :: pre,l,?_,?_,?_⟩
   ·rw[km,if_pos hc,p1];rfl
   ·rw[length_drop] at p2;rw[length_cons];omega
   ·have c1:gg (m.map D.int) none (some (k:Int))=(m.take k).map D.int:=by rw[Ai (by simp;omega),map_take]
    have c2:gg (m.map D.int) (some (k:Int)) none=(m.drop k).map D.int:=by rw[gp (by simp;omega),map_drop]
    have s1:∀T,JT Jd Jy bV (bL Hv) [x0,x1,sI (k:Int),sO S.length,some (B_ m)] T=.ok (B_ (m.take k)) T:=fun T=>by
     simp only[li,au,jI,getElem?_cons_succ,getElem?_cons_zero,el,kP,eU,fX,B_,Jd,c1]
    have s2:∀T,JT Jd Jy (bL Hv) bV [x0,x1,sI (k:Int),sO S.length,some (B_ m)] T=.ok (B_ (m.drop k)) T:=fun T=>by
     simp only[li,au,jI,getElem?_cons_succ,getElem?_cons_zero,el,kP,eU,fX,B_,Jd,c2]
    have K6:∀a c:Cell,(S++[a]).set S.length c=S++[c]:=fun a c=>by rw[set_append_right _ _ (Nat.le_refl _)];simp
    have ee:=tu (S:=S++[.lst (acc.map Hn)]) (n:=S.length) (xs:=acc.map Hn) (d:=Hn (0,m.take k)) (aS rfl) (by simp;omega);rw[K6] at ee;have e2:acc.map Hn++[Hn (0,m.take k)]=(acc++[(0,m.take k)]).map Hn:=by simp
    rw[e2] at ee;rw[FX t1 (r2:=[x0,x1,sI (k:Int),sO S.length,some (B_ (m.drop k))]) (S2:=S++[.lst ((acc++[(0,m.take k)]).map Hn)])]
    ·rw[p3];simp
    ·rw[aw (aU (ld rfl (aS rfl) (af (bF (af rfl (af (s1 _) ah)) (by simp)) ah) ee)),bz (s2 _)];rfl
  ·rw[decide_eq_false hc] at t1;refine⟨[],m,by rw[km,if_neg hc];rfl,by simp,?_⟩;rw[EQ t1,append_nil]
def ua{k:Nat}(hk:1<=k){m:HM}(hm:m.length<=40)(S:List Cell):dm [B_ m,.int (k:Int)] S=.ok (.tup ((dW k m).map Hn)) S:=by
 show cI S (ko 100 [some (B_ m),sI (k:Int),none,none,none] S)=_;unfold ko;have V6:Ae [.int (k:Int),.int 1] S=.ok (.int (k:Int)) S:=by
  rw[D6];congr 2;omega
 rw[aw (bz (av (af rfl (af rfl ah)) V6))];show cI S (aI _ _ [some (B_ m),sI (k:Int),sI (k:Int),none,none] S)=_;rw[aw (bz (ck ah (by decide)))];show cI S (aI _ _ [some (B_ m),sI (k:Int),sI (k:Int),sO S.length,none] (S++[.lst []]))=_;rw[aw (bz (d:=B_ m) rfl)];show cI S (aI _ _ [some (B_ m),sI (k:Int),sI (k:Int),sO S.length,some (B_ m)] (S++[.lst []]))=_;obtain⟨pre,l,p1,p2,p3⟩:=pc (x0:=some (B_ m)) (x1:=some (.int (k:Int))) (S:=S) hk 100 [] m (by omega) (by simp;omega);rw[map_nil] at p3;have K6:∀a c:Cell,(S++[a]).set S.length c=S++[c]:=fun a c=>by rw[set_append_right _ _ (Nat.le_refl _)];simp
 have ee:=tu (S:=S++[.lst (pre.map Hn)]) (n:=S.length) (xs:=pre.map Hn) (d:=Hn (1,l)) (aS rfl) (by simp;omega);rw[K6] at ee;have e2:pre.map Hn++[Hn (1,l)]=(dW k m).map Hn:=by unfold dW;rw[p1];simp
 rw[e2] at ee;rw[aw p3,nil_append,aw (aU (ld rfl (aS rfl) (af (bF (af rfl (af rfl ah)) (by simp)) ah) ee)),aN (av (af (x:=.ob S.length) rfl ah) (d7 (aS rfl)))];exact lQ (by unfold IM;exact B1 _ _)
def Qj:St->Str
 |.Hs=>"shut"
 |.opening=>"opening"
 |.opened=>"open"
def OT(l:List Nat):List (Key×D):=l.map fun(k:Nat)=>(Sum.inl (k:Int),.bl true)
structure Ht(G:Cs)(S:List Cell)(n m p q:Nat)(s:Sr):Prop where
 ob:S[n]?=some (.ins G.c_ a_ [.int (s.w:Int),.int (s.most:Int),.ob m,.int (s.sure:Int),.int (s.op:Int),.str (Qj s.st),.ob p,.int (s.base:Int),.ob q])
 ms:S[m]?=some (.lst (s.msgs.map B_))
 ps:S[p]?=some (.lst (s.ps.map Hn))
 nt:S[q]?=some (.IT (OT s.GZ))
 mp:m≠p
section
variable{G:Cs}{S S' S1 S2:List Cell}{n m p q p1 q1 p2 q2 p' q':Nat}{s s' s1 s2:Sr}
def Ht.nm(a:Ht G S n m p q s):n≠m:=dz a.ob a.ms (by intro z;cases z)
def Ht.np(a:Ht G S n m p q s):n≠p:=dz a.ob a.ps (by intro z;cases z)
def Ht.nq(a:Ht G S n m p q s):n≠q:=dz a.ob a.nt (by intro z;cases z)
def Ht.mq(a:Ht G S n m p q s):m≠q:=dz a.ms a.nt (by intro z;cases z)
def Ht.pq(a:Ht G S n m p q s):p≠q:=dz a.ps a.nt (by intro z;cases z)
def Ht.push(a:Ht G S n m p q s)(c:List Cell):Ht G (S++c) n m p q s:=⟨aB a.ob,aB a.ms,aB a.ps,aB a.nt,a.mp⟩
structure II(G:Cs)(n m p q:Nat)(S:List Cell)(p' q':Nat)(S':List Cell)(s':Sr):Prop where
 at_:Ht G S' n m p' q' s'
 fr:Fr [n,m,p,q] S S'
 p_:p'=p\/S.length<=p'
 q_:q'=q\/S.length<=q'
def II.trans(a:II G n m p q S p1 q1 S1 s1)(c:II G n m p1 q1 S1 p2 q2 S2 s2):II G n m p q S p2 q2 S2 s2:=by
 have hl:=a.fr.1;refine⟨c.at_,a.fr.trans c.fr fun i hi hs=>?_,?_,?_⟩
 ·simp only[mem_cons,not_mem_nil,or_false] at hi ⊢;have he:=a.p_;have hb:=a.q_;omega
 ·have:=a.p_;have:=c.p_;omega
 ·have:=a.q_;have:=c.q_;omega
def II.refl(a:Ht G S n m p q s):II G n m p q S p q S s:=⟨a,Fr.refl _ _,.inl rfl,.inl rfl⟩
def II.push(a:II G n m p q S p' q' S' s')(c:List Cell):II G n m p q S p' q' (S'++c) s':=⟨a.at_.push c,a.fr.tr Fr.push,a.p_,a.q_⟩
def B5(a:Ht G S n m p q s)(r:tB):aA G.c_ a_ 0 h_ (some (.ob n) :: r) S=.ok (.int (s.w:Int)) S:=bT rfl a.ob rfl
def ym(a:Ht G S n m p q s)(r:tB):aA G.c_ a_ 1 h_ (some (.ob n) :: r) S=.ok (.int (s.most:Int)) S:=bT rfl a.ob rfl
def D3(a:Ht G S n m p q s)(r:tB):aA G.c_ a_ 2 h_ (some (.ob n) :: r) S=.ok (.ob m) S:=bT rfl a.ob rfl
def Dt(a:Ht G S n m p q s)(r:tB):aA G.c_ a_ 3 h_ (some (.ob n) :: r) S=.ok (.int (s.sure:Int)) S:=bT rfl a.ob rfl
def AL(a:Ht G S n m p q s)(r:tB):aA G.c_ a_ 4 h_ (some (.ob n) :: r) S=.ok (.int (s.op:Int)) S:=bT rfl a.ob rfl
def tT(a:Ht G S n m p q s)(r:tB):aA G.c_ a_ 5 h_ (some (.ob n) :: r) S=.ok (.str (Qj s.st)) S:=bT rfl a.ob rfl
def rA(a:Ht G S n m p q s)(r:tB):aA G.c_ a_ 6 h_ (some (.ob n) :: r) S=.ok (.ob p) S:=bT rfl a.ob rfl
def lH(a:Ht G S n m p q s)(r:tB):aA G.c_ a_ 7 h_ (some (.ob n) :: r) S=.ok (.int (s.base:Int)) S:=bT rfl a.ob rfl
def FA(a:Ht G S n m p q s)(r:tB):aA G.c_ a_ 8 h_ (some (.ob n) :: r) S=.ok (.ob q) S:=bT rfl a.ob rfl
def vG(a b:St)(S:List Cell):G_ (.str (Qj a)) (.str (Qj b)) S=.ok (.bl (decide (a=b))) S:=by
 cases a<;>cases b<;>exact bc
def Fk(a b:St)(S:List Cell):Jp (.str (Qj a)) (.str (Qj b)) S=.ok (.bl (!decide (a=b))) S:=by
 cases a<;>cases b<;>exact wc
structure Sb(N:Nat)(s:Sr):Prop where
 most:1<=s.most
 ml:s.msgs.length<=N
 PV:∀x,x∈s.msgs->x.length<=40
 pl:s.ps.length<=41 * N
 fg:∀x,x∈s.ps->x.1=0\/x.1=1
 nl:s.GZ.length<=7 * N
theorem xk{k:Nat}(hk:1<=k):∀{ms:List HM},(∀x,x∈ms->x.length<=40)->(fl k ms).length<=41 * ms.length
 |[],_=>by simp[fl]
 |x :: ms,h=>by
  have h1:=nZ hk x;have h2:=h x (by simp);have h3:=xk hk (ms:=ms) fun y hy=>h y (mem_cons_of_mem _ hy)
  rw[nX,length_append,length_cons];omega
def Sb.mono{N M:Nat}(b:Sb N s)(h:N<=M):Sb M s:=⟨b.most,Nat.le_trans b.ml h,b.PV,by have:=b.pl;omega,b.fg,by have:=b.nl;omega⟩
def Sb.hand{N:Nat}{x:HM}(b:Sb N s)(hx:x.length<=40):Sb (N+1) (s.hand x):=by
 have h1:=b.ml;have h2:=b.pl;have h3:=nZ b.most x;refine⟨b.most,?_,?_,?_,?_,by have:=b.nl;show s.GZ.length<=_;omega⟩
 ·show(s.msgs++[x]).length<=_;rw[length_append,length_singleton];omega
 ·intro y hy;rcases List.mem_append.mp hy with hy|hy
  ·exact b.PV y hy
  ·rw[List.mem_singleton.mp hy];exact hx
 ·show(if s.st=.Hs then s.ps else s.ps++dW s.most x).length<=_;split
  ·omega
  ·rw[length_append];omega
 ·intro y hy;have V7:y∈(if s.st=.Hs then s.ps else s.ps++dW s.most x):=hy;split at V7
  ·exact b.fg y V7
  ·rcases List.mem_append.mp V7 with hy|hy
   ·exact b.fg y hy
   ·exact qI _ _ y hy
def Sb.anew{N:Nat}(b:Sb N s):Sb N s.anew:=by
 refine⟨b.most,b.ml,b.PV,?_,BJ _ _,zero_le _⟩;have:=xk b.most (ms:=s.msgs.drop s.sure) fun x hx=>b.PV x (mem_of_mem_drop hx)
 rw[length_drop] at this;have h1:=b.ml;show(fl s.most (s.msgs.drop s.sure)).length<=_;omega
def CJ{N:Nat}(a:Ht G S n m p q s)(b:Sb N s)(hN:N<24300){x:HM}(hx:x.length<=40):∃S',gB G [.ob n,B_ x] S=.ok .G0 S'/\II G n m p q S p q S' (s.hand x):=by
 show ∃S',fin S (ji G [sO n,some (B_ x)] S)=_/\_;unfold ji;have hml:=b.ml;have Ng:=b.pl;have OS:=nZ b.most x;obtain⟨S1,q1,c1⟩:=vf (fo:=aA G.c_ a_ 2 h_) (ft:=aa w_ ai) (r:=[sO n,some (B_ x)]) (D3 a _) a.ms (af rfl ah) (by rw[length_map];omega);have a1:Ht G S1 n m p q { s with msgs:=s.msgs++[x] }:=⟨c1.old a.ob a.nm.symm,by simpa using c1.at_,c1.old a.ps a.mp,c1.old a.nt a.mq,a.mp⟩;have f1:Fr [n,m,p,q] S S1:=c1.fp (by simp);rw[aw (aU q1)];have t1:am (g_ Jp (aA G.c_ a_ 5 h_) (dT "shut")) [sO n,some (B_ x)] S1=.ok (!decide (s.st=.Hs)) S1:=ay (ar (tT a1 _) rfl (Fk s.st .Hs _));by_cases hs:s.st=.Hs
 ·rw[decide_eq_true hs] at t1;have e1:s.hand x = { s with msgs:=s.msgs++[x] }:=by unfold Sr.hand;rw[if_pos hs]
  rw[ax t1,e1];exact⟨S1,rfl,a1,f1,.inl rfl,.inl rfl⟩
 ·rw[decide_eq_false hs] at t1;have e1:s.hand x = { s with msgs:=s.msgs++[x],ps:=s.ps++dW s.most x }:=by unfold Sr.hand;rw[if_neg hs]
  obtain⟨S2,q2,c2⟩:=AJ (fo:=aA G.c_ a_ 6 h_) (ft:=aa (ak dm (aa w_ (aa (aA G.c_ a_ 1 h_) ai))) ai) (r:=[sO n,some (B_ x)]) (rA a1 _) a1.ps
   (af (av (af rfl (af (ym a1 _) ah)) (ua b.most hx S1)) ah) (by rw[length_map,length_map];show s.ps.length+_<=_;omega)
  rw[aW t1,aU q2,e1];refine⟨S2,rfl,⟨c2.old a1.ob a.np.symm,c2.old a1.ms a.mp.symm,by simpa using c2.at_,c2.old a1.nt a.pq,a.mp⟩,f1.tr (c2.fp (by simp)),.inl rfl,.inl rfl⟩
def Di(a:Ht G S n m p q s):∃S',gz G [.ob n] S=.ok .G0 S'/\II G n m p q S p q S' s.HD:=by
 show ∃S',fin S (iK G [sO n] S)=_/\_;unfold iK;obtain⟨S1,q1,c1⟩:=ic (fo:=h_) (fe:=dT "shut") (r:=[sO n]) (i:=5) rfl rfl a.ob rfl;rw[q1];exact⟨S1,rfl,⟨c1.at_,c1.old a.ms a.nm,c1.old a.ps a.np,c1.old a.nt a.nq,a.mp⟩,c1.fp (by simp),.inl rfl,.inl rfl⟩
end
section
variable{G:Cs}{S S' S1 S2:List Cell}{n m p q p1 q1 p2 q2 p' q':Nat}{s s' s1 s2:Sr}{N:Nat}
def Bb{k:Nat}{ms:List HM}{i:Nat}{x:HM}(h:ms[i]?=some x):fl k (ms.take (i+1))=fl k (ms.take i)++dW k x:=by
 rw[take_add_one,h,toList_some,oI];simp[fl]
def zL{s:Sr}(b:Sb N s)(hN:N<=24300){ms:List HM}(Uz:∀x,x∈ms->x.length<=40)(hl:ms.length<=N){kk:Nat}{x1:Option D}(a:Ht G S n m p q s)(hp0:s.ps=[])(hk:S[kk]?=some (.lst (ms.map B_)))(YT:kk≠p) :
  ∃S' Q_,jg (some (kk,ms.map B_)) (gN 1) (dJ G) (ms.map B_) [sO n,x1] S=some (.nx [sO n,Q_],S')/\Ht G S' n m p q { s with ps:=fl s.most ms }/\Fr [p] S S':=by
 obtain⟨r',S',e,Q_,rfl,a',f',_⟩:=cK (g:=some (kk,ms.map B_)) (tg:=gN 1) (b:=dJ G)
  (fun i r S'=>∃Q_,r=[sO n,Q_]/\Ht G S' n m p q { s with ps:=fl s.most (ms.take i) }/\Fr [p] S S'/\S'[kk]?=some (.lst (ms.map B_))) (ms.map B_) 0 [sO n,x1] S
  (by
   rintro i y r S' hy ⟨Q_,rfl,a',f',k'⟩;rw[getElem?_map] at hy;cases hx:ms[i]? with
   |none=>rw[hx] at hy;cases hy
   |some x=>
    rw[hx] at hy;cases hy;rw[Nat.zero_add] at a' ⊢;have hxm:=mem_of_getElem? hx;have Oh:=(List.getElem?_eq_some_iff.mp hx).1;have l1:=xk b.most (ms:=ms.take i) fun y hy=>Uz y (mem_of_mem_take hy)
    have l2:=nZ b.most x;have l3:=Uz x hxm;rw[length_take] at l1;obtain⟨S2,q2,c2⟩:=AJ (fo:=aA G.c_ a_ 6 h_) (ft:=aa (ak dm (aa w_ (aa (aA G.c_ a_ 1 h_) ai))) ai) (r:=[sO n,some (B_ x)]) (rA a' _) a'.ps
     (af (av (af rfl (af (ym a' _) ah)) (ua b.most l3 S')) ah) (by rw[length_map,length_map];show(fl s.most (ms.take i)).length+_<=_;omega)
    refine⟨[sO n,some (B_ x)],[sO n,some (B_ x)],S2,rfl,aU q2,c2.old k' YT.symm,some (B_ x),rfl,?_,f'.tr (c2.fp (by simp)),c2.old k' YT.symm⟩;refine⟨c2.old a'.ob a.np.symm,c2.old a'.ms a.mp.symm,?_,c2.old a'.nt a.pq,a.mp⟩;show S2[p]?=some (.lst ((fl s.most (ms.take (i+1))).map Hn));rw[Bb hx,map_append];exact c2.at_)
  ⟨x1,rfl,⟨a.ob,a.ms,by show S[p]?=some (.lst ((fl s.most (ms.take 0)).map Hn));rw[take_zero];have:=a.ps;rw[hp0] at this;exact this,a.nt,a.mp⟩,Fr.refl _ _,hk⟩
 refine⟨S',Q_,e,?_,f'⟩;rw[show 0+(ms.map B_).length=ms.length by simp,take_length] at a';exact a'
def y7(a:Ht G S n m p q s)(b:Sb N s)(hN:N<=24300):∃S' p' q',bM G [.ob n] S=.ok .G0 S'/\II G n m p q S p' q' S' s.anew:=by
 show ∃S' p' q',fin S (eF G [sO n,none] S)=_/\_;unfold eF;have ln:=br a.ob;have lm:=br a.ms;have lp:=br a.ps;have lq:=br a.nt;obtain⟨S1,e1,c1⟩:=yl (fo:=h_) (fe:=dI 1) (r:=[sO n,none]) (i:=4) rfl a.ob rfl rfl rfl;obtain⟨S2,e2,c2⟩:=ic (fo:=h_) (fe:=dT "opening") (r:=[sO n,none]) (i:=5) rfl rfl c1.at_ rfl;obtain⟨S3,e3,c3⟩:=ic (fo:=h_) (fe:=cg ai) (r:=[sO n,none]) (i:=6) (ck ah (by decide)) rfl (aB (G:=[.lst []]) c2.at_) rfl;have l1:=c1.len;have l2:=c2.len;have l3:=c3.len;rw[length_append,length_singleton] at l3;have ms3:S3[m]?=some (.lst (s.msgs.map B_)):=c3.old (aB (c2.old (c1.old a.ms a.nm) a.nm)) a.nm;have a3:Ht G S3 n m S2.length q { s with op:=s.op+1,st:=.opening,ps:=[] }:=
  ⟨c3.at_,ms3,c3.old (aS rfl) (by omega),c3.old (aB (c2.old (c1.old a.nt a.nq) a.nq)) a.nq,by omega⟩
 have f3:Fr [n] S S3:=((c1.fr.tr c2.fr).tr Fr.push).tr c3.fr;have b3:Sb N { s with op:=s.op+1,st:=.opening,ps:=[] }:=⟨b.most,b.ml,b.PV,zero_le _,by simp,b.nl⟩;have RS:gg (s.msgs.map B_) (some (s.sure:Int)) none=(s.msgs.drop s.sure).map B_:=by
  unfold gg;rw[HT.JF,HT.KJ,map_drop];by_cases h:s.sure<=(s.msgs.map B_).length
  ·rw[Nat.min_eq_left h,take_of_length_le (by rw[length_drop];omega)]
  ·rw[Nat.min_eq_right (by omega),List.drop_of_length_le (Nat.le_refl _),List.drop_of_length_le (by omega)];simp
 have w1:Js (JT Jd (aA G.c_ a_ 2 h_) (bL (aA G.c_ a_ 3 h_)) bV) [sO n,none] S3=.ok ⟨(s.msgs.drop s.sure).map B_,some (S3.length,(s.msgs.drop s.sure).map B_)⟩ (S3++[.lst ((s.msgs.drop s.sure).map B_)]):=by
  have:JT Jd (aA G.c_ a_ 2 h_) (bL (aA G.c_ a_ 3 h_)) bV [sO n,none] S3=.ok (.ob S3.length) (S3++[.lst ((s.msgs.drop s.sure).map B_)]):=by
   rw[li,au,D3 a3];dsimp only;rw[au,eU,au,Dt a3];simp only[fX,kP,el,au,Jd,ca a3.ms];rw[show({ s with op:=s.op+1,st:=.opening,ps:=[] }:Sr).sure=s.sure from rfl,RS]
  rw[jW,au,this];simp only[i8,bO]
 have hdl:(s.msgs.drop s.sure).length<=N:=by have:=b.ml;rw[length_drop];omega
 obtain⟨S4,x4,e4,a4,f4⟩:=zL (x1:=none) b3 hN (ms:=s.msgs.drop s.sure) (fun x hx=>b.PV x (mem_of_mem_drop hx)) hdl (kk:=S3.length) (a3.push [.lst ((s.msgs.drop s.sure).map B_)]) rfl (aS rfl) (by omega);have l4:=f4.1;rw[length_append,length_singleton] at l4;obtain⟨S5,e5,c5⟩:=ic (fo:=h_) (fe:=dI 0) (r:=[sO n,x4]) (i:=7) rfl rfl a4.ob rfl;obtain⟨S6,e6,c6⟩:=ic (fo:=h_) (fe:=kO) (r:=[sO n,x4]) (i:=8) rfl rfl (aB (G:=[.IT []]) c5.at_) rfl;have l5:=c5.len;have lp4:=br a4.ps;refine⟨S6,S2.length,S5.length,?_,⟨⟨c6.at_,c6.old (aB (c5.old a4.ms a.nm)) a.nm,c6.old (aB (c5.old a4.ps (by omega))) (by omega),c6.old (aS rfl) (by omega),by omega⟩,?_,.inr (by omega),.inr (by omega)⟩⟩
 ·rw[aw e1,aw e2,aw e3,aw (by rw[jC w1];exact e4),aw e5,e6];rfl
 ·have g1:Fr [n,m,p,q] S S3:=f3.mono fun i hi _=>by simp at hi;simp[hi]
  have g2:Fr [n,m,p,q] S S4:=(g1.tr Fr.push).trans f4 fun i hi hs=>by
   have:i=S2.length:=by simpa using hi
   omega
  exact((g2.tr (c5.fp (by simp))).tr Fr.push).tr (c6.fp (by simp))
def BO(a:Ht G S n m p q s)(b:Sb N s)(hN:N<=24300):∃S' p' q',fF G [.ob n] S=.ok .G0 S'/\II G n m p q S p' q' S' s.start:=by
 show ∃S' p' q',fin S (gY G [sO n] S)=_/\_;unfold gY;have t1:am (g_ G_ (aA G.c_ a_ 5 h_) (dT "shut")) [sO n] S=.ok (decide (s.st=.Hs)) S:=ay (ar (tT a _) rfl (vG s.st .Hs _));by_cases hs:s.st=.Hs
 ·rw[decide_eq_true hs] at t1;obtain⟨S',p',q',e1,k1⟩:=y7 a b hN;refine⟨S',p',q',?_,?_⟩
  ·rw[aW t1,aU (aO rfl a.ob ah e1)];rfl
  ·unfold Sr.start;rw[if_pos hs];exact k1
 ·rw[decide_eq_false hs] at t1;refine⟨S,p,q,?_,?_⟩
  ·rw[ax t1];rfl
  ·unfold Sr.start;rw[if_neg hs];exact II.refl a
def ER(l:List Nat)(k:Nat):(iC (OT l) (.inl (k:Int))).isSome=decide (k∈l):=by
 induction l with
 |nil=>rfl
 |cons a r ih=>
  unfold OT at ih ⊢;rw[map_cons];unfold iC at ih ⊢;rw[find?_cons];by_cases h:a=k
  ·subst h;simp
  ·have h2:decide ((Sum.inl (a:Int):Key)=Sum.inl (k:Int))=false:=decide_eq_false fun z=>h (by injection z with z;omega)
   simp only[h2];rw[ih];simp[Ne.symm h]
def wV{m w:Nat}(hw:0<w)(S:List Cell):d4 [.int (m:Int),.int (w:Int)] S=.ok (.int ((m % (2 * w):Nat):Int)) S:=by
 have h1:(0:Int)<2 * (w:Int):=by omega
 simp[d4,nU,cS h1]
def Ak(a:Ht G S n m p q s)(hw:0<s.w){i:Nat}(hi:i<s.ps.length):dj G [.ob n,.int (i:Int)] S=.ok (o_ (s.dataOf i)) S:=by
 show fin S (fR G [sO n,sI (i:Int)] S)=_;unfold fR;have hx:s.ps[i]?=some (s.ps.getD i (0,[])):=by simp[getD,hi]
 have e1:y_ (.ob p) (.int (i:Int)) S=.ok (Hn (s.ps.getD i (0,[]))) S:=jp a.ps (by rw[getElem?_map,hx];rfl);rw[aN (bF (af rfl (af (AL a _) (af (av (af rfl (af (B5 a _) ah)) (wV hw S)) (af (ar (rA a _) rfl e1) ah)))) (by simp))];rfl
def DE{lo hi:Nat}(h:hi<=1000000)(S:List Cell):vT (.int (lo:Int)) (.int (hi:Int)) S=.ok ⟨eI (lo:Int) 1 (hi-lo),none⟩ S\/hi<lo:=by
 by_cases hl:hi<lo
 ·exact .inr hl
 ·refine .inl ?_;show rZ (lo:Int) (hi:Int) 1 S=_;have hs:small (lo:Int) (hi:Int) 1=true:=small_one (by omega) (by omega) (by omega) (by omega);unfold rZ;have e:(if (lo:Int)<(hi:Int) then (hi:Int)-(lo:Int) else 0).toNat=hi-lo:=by split<;>omega
  rw[cf ⟨⟨by omega,by omega⟩,hs⟩,rangeSize_one,e]
def Al(a:Ht G S n m p q s)(hN:s.ps.length<=1000000)(hb:s.base<=s.ps.length):dB G [.ob n] S=.ok (.ob S.length) (S++[.lst (s.wanted.map fun(i:Nat)=>.int (i:Int))]):=by
 show fin S (gm G [sO n,none] S)=_;unfold gm;have e1:ak zF (aa (g_ bK (aA G.c_ a_ 7 h_) (aA G.c_ a_ 0 h_)) (aa (ak bq (aa (aA G.c_ a_ 6 h_) ai)) ai)) [sO n,none] S=.ok (.int ((min (s.base+s.w) s.ps.length:Nat):Int)) S:=by
  refine av (af (ar (lH a _) (B5 a _) (bS _ _)) (af (av (af (rA a _) ah) (fZ a.ps)) ah)) ?_;rw[D2,length_map];congr 2;omega
 rw[aw (bz e1)];show fin S (bJ _ [sO n,sI ((min (s.base+s.w) s.ps.length:Nat):Int)] S)=_;obtain⟨hi,V8⟩:∃hi,min (s.base+s.w) s.ps.length=hi:=⟨_,rfl⟩;have SX:s.base<=hi:=by omega
 have q1:=fY (f:=zk (aA G.c_ a_ 7 h_) w_) (tg:=gN 0) (ti:=am (g_ fT h_ (aA G.c_ a_ 8 w_))) (fe:=h_) (own:=1) (caps:=[0])
  (r:=[sO n,sI (hi:Int)]) (S:=S) (S1:=S) (w:=⟨eI (s.base:Int) 1 (hi-s.base),none⟩) (fun x=>match x with
   |.int k=>decide (k.toNat∉s.GZ)
   |_=>false) id (by
   show((aA G.c_ a_ 7 h_ [sO n,sI (hi:Int)]).bind fun x=>(w_ [sO n,sI (hi:Int)]).bind fun y=>vT x y) S=_;rw[au,lH a];show vT (.int (s.base:Int)) (.int (hi:Int)) S=_;rcases DE (lo:=s.base) (hi:=hi) (by omega) S with h|h
   ·exact h
   ·omega) trivial (by simp[eI];omega) (by
   intro x hx;simp only[eI,mem_map,mem_range] at hx;obtain⟨k,_,rfl⟩:=hx;have hk:(s.base:Int)+(k:Int) * 1=((s.base+k:Nat):Int):=by omega
   rw[hk];refine⟨_,rfl,fun zs=>?_,fun _ zs=>rfl⟩;have ap:=a.push [.lst zs];have g2:aA G.c_ a_ 8 w_ [sI ((s.base+k:Nat):Int),sO n] (S++[.lst zs])=.ok (.ob q) (S++[.lst zs]):=bT rfl ap.ob rfl;show am _ [sI ((s.base+k:Nat):Int),sO n] (S++[.lst zs])=_;refine ay (ar rfl g2 ?_);simp only[fT,iA,fM ap.nt,ER,toNat_natCast];simp)
 have hw:((eI (s.base:Int) 1 (hi-s.base)).filter (fun x=>match x with
   |.int k=>decide (k.toNat∉s.GZ)
   |_=>false)).map id=s.wanted.map fun(i:Nat)=>.int (i:Int):=by
  unfold eI Sr.wanted;rw[V8,List.map_id,List.range'_eq_map_range,List.filter_map,List.filter_map,map_map];have:((fun x:D=>match x with
   |.int k=>decide (k.toNat∉s.GZ)
   |_=>false) ∘ fun(i:Nat)=>D.int ((s.base:Int)+(i:Int) * 1))=((fun i=>decide (i∉s.GZ)) ∘ fun x=>s.base+x):=by
   funext i;have hk:((s.base:Int)+(i:Int) * 1).toNat=s.base+i:=by omega
   simp only[Function.comp_def,hk]
  rw[this];refine map_congr_left fun i _=>?_
  simp only[Function.comp_def];congr 1;omega
 rw[hw] at q1;rw[V8,aN q1];rfl
def DO(a:Ht G S n m p q s)(hw:0<s.w)(hN:s.ps.length<=1000000)(hb:s.st=.opened->s.base<=s.ps.length):∃S' l,gA G [.ob n] S=.ok (.ob l) S'/\II G n m p q S p q S' s/\S'[l]?=some (.lst (s.tick.map o_))/\S.length<=l:=by
 show ∃S' l,fin S (iG G [sO n] S)=_/\_;unfold iG;have t1:am (g_ G_ (aA G.c_ a_ 5 h_) (dT "opening")) [sO n] S=.ok (decide (s.st=.opening)) S:=ay (ar (tT a _) rfl (vG s.st .opening _));have t2:am (g_ G_ (aA G.c_ a_ 5 h_) (dT "open")) [sO n] S=.ok (decide (s.st=.opened)) S:=ay (ar (tT a _) rfl (vG s.st .opened _));cases hs:s.st with
 |opening=>
  rw[hs] at t1;have e1:s.tick=[.x_ s.op]:=by unfold Sr.tick;rw[hs]
  rw[di (by rw[aW t1];exact aN (ck (af (bF (af rfl (af (AL a _) ah)) (by simp)) ah) (by simp))),e1];exact⟨_,_,rfl,(II.refl a).push _,aS rfl,Nat.le_refl _⟩
 |Hs=>
  rw[hs] at t1 t2;have e1:s.tick=[]:=by unfold Sr.tick;rw[hs]
  rw[aw (by rw[ax t1];rfl),aw (by rw[ax t2];rfl),aN (ck ah (by decide)),e1];exact⟨_,_,rfl,(II.refl a).push _,aS rfl,Nat.le_refl _⟩
 |opened=>
  rw[hs] at t1 t2;have e1:s.tick=s.wanted.map s.dataOf:=by unfold Sr.tick;rw[hs]
  obtain⟨S1,NI⟩:∃S1,S++[Cell.lst (s.wanted.map fun(i:Nat)=>.int (i:Int))]=S1:=⟨_,rfl⟩;have w1:=Al a hN (hb hs);rw[NI] at w1;have k1:S1[S.length]?=some (.lst (s.wanted.map fun(i:Nat)=>.int (i:Int))):=by rw[<-NI];exact aS rfl
  have a1:Ht G S1 n m p q s:=by rw[<-NI];exact a.push _
  have wl:s.wanted.length<=1000000:=by
   unfold Sr.wanted;refine Nat.le_trans (List.length_filter_le _ _) ?_;rw[List.length_range'];omega
  have q1:=fY (f:=Js (aX G.c_ a_ (dB G) h_ ai)) (tg:=gN 0) (ti:=gQ) (fe:=aX G.c_ a_ (dj G) w_ (aa h_ ai)) (own:=1) (caps:=[0])
   (r:=[sO n]) (S:=S) (S1:=S1) (w:=⟨s.wanted.map fun(i:Nat)=>.int (i:Int),some (S.length,s.wanted.map fun(i:Nat)=>.int (i:Int))⟩) (fun _=>true) (fun x=>match x with
    |.int k=>o_ (s.dataOf k.toNat)
    |_=>.G0) (by
    rw[jW,au,aO rfl a.ob ah w1];simp only[i8,k1]) k1 (by rw[length_map];exact wl) (by
    intro x hx;obtain⟨i,hi,rfl⟩:=List.mem_map.mp hx;refine⟨_,rfl,fun _=>rfl,fun _ zs=>?_⟩;have ap:=a1.push [.lst zs];have hi2:i<s.ps.length:=by
     unfold Sr.wanted at hi;have:=(List.mem_range'_1.mp (List.mem_filter.mp hi).1).2;have:=hb hs;omega
    show aX _ _ _ _ _ [sI (i:Int),sO n] (S1++[.lst zs])=_;refine aO rfl ap.ob (af rfl ah) ?_;rw[Ak ap hw hi2];dsimp only;rw[toNat_natCast])
  have hm:((s.wanted.map fun(i:Nat)=>D.int (i:Int)).filter fun _=>true).map (fun x=>match x with
    |.int k=>o_ (s.dataOf k.toNat)
    |_=>.G0)=(s.wanted.map s.dataOf).map o_:=by
   rw[List.filter_eq_self.mpr (by simp),map_map,map_map];refine map_congr_left fun i _=>?_
   simp only[Function.comp_def,toNat_natCast]
  dsimp only at q1;rw[hm] at q1;rw[aw (by rw[ax t1];rfl),di (by rw[aW t2];exact aN q1),e1];refine⟨_,_,rfl,⟨a1.push _,?_,.inl rfl,.inl rfl⟩,aS rfl,?_⟩
  ·rw[<-NI];exact Fr.push.tr Fr.push
  ·rw[<-NI];simp
def BW{xs:List D}{i j:Nat}(h1:i<=j)(h2:j<=xs.length):gg xs (some (i:Int)) (some (j:Int))=(xs.take j).drop i:=by
 unfold gg;rw[HT.JF,HT.JF,Nat.min_eq_left (show i<=xs.length by omega),Nat.min_eq_left h2,List.drop_take]
def Ap{ps:List Pc}(h:∀x,x∈ps->x.1=0\/x.1=1):(ps.map (·.1)).sum=(He ps:Int):=by
 induction ps with
 |nil=>rfl
 |cons a r ih=>
  have h1:=h a (by simp);have h2:=ih fun x hx=>h x (mem_cons_of_mem _ hx)
  have e:He (a :: r)=(if a.1=1 then 1 else 0)+He r:=by
   unfold He;rw[filter_cons];rcases h1 with h1|h1
   ·simp[h1]
   ·simp[h1];omega
  rw[map_cons,sum_cons,h2,e];rcases h1 with h1|h1
  ·rw[h1];simp
  ·rw[h1];simp
def CV(a:Ht G S n m p q s)(b:Sb N s)(hN:N<=24300){i:Nat}(h1:s.base<=i)(h2:i<=s.ps.length):∃S',dn G [.ob n,.int (i:Int)] S=.ok .G0 S'/\II G n m p q S p q S' (s.I0 i):=by
 show ∃S',fin S (eG G [sO n,sI (i:Int)] S)=_/\_;unfold eG;have Ng:=b.pl;obtain⟨qs,UA⟩:∃qs,(s.ps.take i).drop s.base=qs:=⟨_,rfl⟩;have hql:qs.length<=1000000:=by rw[<-UA,length_drop,length_take];omega
 have hqf:∀x,x∈qs->x.1=0\/x.1=1:=fun x hx=>b.fg x (by rw[<-UA] at hx;exact mem_of_mem_take (mem_of_mem_drop hx))
 have w1:Js (JT Jd (aA G.c_ a_ 6 h_) (bL (aA G.c_ a_ 7 h_)) (bL w_)) [sO n,sI (i:Int)] S=.ok ⟨qs.map Hn,some (S.length,qs.map Hn)⟩ (S++[.lst (qs.map Hn)]):=by
  have:JT Jd (aA G.c_ a_ 6 h_) (bL (aA G.c_ a_ 7 h_)) (bL w_) [sO n,sI (i:Int)] S=.ok (.ob S.length) (S++[.lst (qs.map Hn)]):=by
   rw[li,au,rA a];dsimp only;rw[au,eU,au,lH a];simp only[fX,kP,au,eU,jI,getElem?_cons_succ,getElem?_cons_zero,Jd,ca a.ps];rw[BW h1 (by rw[length_map];exact h2),<-map_take,<-map_drop,UA]
  rw[jW,au,this];simp only[i8,bO]
 have q1:=fY (f:=Js (JT Jd (aA G.c_ a_ 6 h_) (bL (aA G.c_ a_ 7 h_)) (bL w_))) (tg:=gN 0) (ti:=gQ) (fe:=g_ y_ h_ (dI 0)) (own:=1) (caps:=[]) (r:=[sO n,sI (i:Int)]) (S:=S)
  (S1:=S++[.lst (qs.map Hn)]) (w:=⟨qs.map Hn,some (S.length,qs.map Hn)⟩) (fun _=>true) (fun x=>match x with
   |.tup (y :: _)=>y
   |_=>.G0) w1 (aS rfl) (by rw[length_map];exact hql) (by
   intro x hx;obtain⟨y,_,rfl⟩:=List.mem_map.mp hx;exact⟨_,rfl,fun _=>rfl,fun _ zs=>ar rfl rfl rfl⟩)
 have hm:((qs.map Hn).filter fun _=>true).map (fun x=>match x with
   |.tup (y :: _)=>y
   |_=>.G0)=(qs.map (·.1)).map D.int:=by
  rw[List.filter_eq_self.mpr (by simp),map_map,map_map];rfl
 dsimp only at q1;rw[hm] at q1;have e1:ak lX (aa (eC (Js (JT Jd (aA G.c_ a_ 6 h_) (bL (aA G.c_ a_ 7 h_)) (bL w_))) (gN 0) gQ (g_ y_ h_ (dI 0)) 1 []) ai) [sO n,sI (i:Int)] S=.ok (.int (He qs:Int)) ((S++[.lst (qs.map Hn)])++[.lst ((qs.map (·.1)).map D.int)]):=by
  refine av (af q1 ah) ?_;simp only[lX,gW,ca bO,gJ];rw[Ap hqf]
 obtain⟨S2,Su⟩:∃S2,(S++[Cell.lst (qs.map Hn)])++[Cell.lst ((qs.map (·.1)).map D.int)]=S2:=⟨_,rfl⟩;have a2:Ht G S2 n m p q s:=by rw[<-Su];exact(a.push _).push _
 have f2:Fr [n,m,p,q] S S2:=by rw[<-Su];exact Fr.push.tr Fr.push
 rw[Su] at e1;have q3:=yC (fo:=h_) (r:=[sO n,sI (i:Int)]) (i:=3) rfl a.ob rfl e1 a2.ob;have c3:=Ch.set (c:=.ins G.c_ a_ [.int (s.w:Int),.int (s.most:Int),.ob m,.int ((s.sure:Int)+(He qs:Int)),.int (s.op:Int),.str (Qj s.st),.ob p,.int (s.base:Int),.ob q]) a2.ob;obtain⟨S3,YU⟩:∃S3,S2.set n (.ins G.c_ a_ [.int (s.w:Int),.int (s.most:Int),.ob m,.int ((s.sure:Int)+(He qs:Int)),.int (s.op:Int),.str (Qj s.st),.ob p,.int (s.base:Int),.ob q])=S3:=⟨_,rfl⟩;have V9:pd G.c_ a_ 3 h_ (ak lX (aa (eC (Js (JT Jd (aA G.c_ a_ 6 h_) (bL (aA G.c_ a_ 7 h_)) (bL w_))) (gN 0) gQ (g_ y_ h_ (dI 0)) 1 []) ai)) [sO n,sI (i:Int)] S=some (.nx [sO n,sI (i:Int)],S3):=by
  rw[q3,<-YU];rfl
 rw[YU] at c3;obtain⟨S4,q4,c4⟩:=ic (fo:=h_) (fe:=w_) (r:=[sO n,sI (i:Int)]) (i:=7) rfl rfl c3.at_ rfl;rw[aw V9,q4];have V_:(s.sure:Int)+(He qs:Int)=((s.sure+He qs:Nat):Int):=by omega
 refine⟨S4,rfl,⟨?_,c4.old (c3.old a2.ms a.nm) a.nm,c4.old (c3.old a2.ps a.np) a.np,c4.old (c3.old a2.nt a.nq) a.nq,a.mp⟩,(f2.tr (c3.fp (by simp))).tr (c4.fp (by simp)),.inl rfl,.inl rfl⟩;have:=c4.at_;rw[V_] at this;unfold Sr.I0;rw[UA];exact this
def EV{l:List Nat}(k:Nat):sM (OT l) (.inl (k:Int)) (.bl true)=OT (if k∈l then l else l++[k]):=by
 have Wa:((OT l).any fun kv=>decide (kv.1=(Sum.inl (k:Int):Key)))=decide (k∈l):=by
  induction l with
  |nil=>rfl
  |cons a r ih=>
   unfold OT at ih ⊢;rw[map_cons,any_cons,ih];by_cases h:a=k
   ·subst h;simp
   ·have h2:decide ((Sum.inl (a:Int):Key)=Sum.inl (k:Int))=false:=decide_eq_false fun z=>h (by injection z with z;omega)
    rw[h2];simp[Ne.symm h]
 unfold sM;rw[Wa];by_cases h:k∈l
 ·rw[if_pos (decide_eq_true h),if_pos h];unfold OT;rw[map_map];refine map_congr_left fun a _=>?_
  simp only[Function.comp_def];split<;>rfl
 ·rw[if_neg (by simp[h]),if_neg h];simp[OT]
theorem qW:∀(bs:List Int) (s:Sr) (k:Nat) (b:Int),s.Hj k (bs++[b])=(s.Hj k bs).Hj (k+bs.length) [b]
 |[],s,k,b=>rfl
 |c :: bs,s,k,b=>by
  rw[cons_append];unfold Sr.Hj;rw[qW bs _ (k+1) b,length_cons,show k+1+bs.length=k+(bs.length+1) by omega];rfl
theorem dr:∀(bs:List Int) (s:Sr) (k:Nat),(s.Hj k bs).w=s.w/\(s.Hj k bs).most=s.most/\(s.Hj k bs).msgs=s.msgs/\(s.Hj k bs).sure=s.sure/\(s.Hj k bs).op=s.op/\(s.Hj k bs).st=s.st/\(s.Hj k bs).ps=s.ps/\(s.Hj k bs).base=s.base/\(s.Hj k bs).GZ.length<=s.GZ.length+bs.length
 |[],s,k=>⟨rfl,rfl,rfl,rfl,rfl,rfl,rfl,rfl,by simp[Sr.Hj]⟩
 |b :: bs,s,k=>by
  unfold Sr.Hj;split
  ·obtain⟨h1,h2,h3,h4,h5,h6,h7,h8,h9⟩:=dr bs { s with GZ:=s.GZ++[s.base+k] } (k+1);refine⟨h1,h2,h3,h4,h5,h6,h7,h8,?_⟩;rw[length_append,length_singleton] at h9;rw[length_cons];omega
  ·obtain⟨h1,h2,h3,h4,h5,h6,h7,h8,h9⟩:=dr bs s (k+1);refine⟨h1,h2,h3,h4,h5,h6,h7,h8,?_⟩;rw[length_cons];omega
def AH(a:Ht G S n m p q s)(hz:s.GZ.length<=500000){bs:List Int}(hb:bs.length<=1000):∃S',cV G [.ob n,.tup (bs.map D.int)] S=.ok .G0 S'/\II G n m p q S p q S' (s.Hj 0 bs):=by
 show ∃S',fin S (dN G [sO n,some (.tup (bs.map D.int)),none,none] S)=_/\_;unfold dN;have w1:zn 0 w_ [sO n,some (.tup (bs.map D.int)),none,none] S=.ok ⟨jt 0 (bs.map D.int),none⟩ S:=rfl;have Qk:∀{i:Nat}{y:D},(jt 0 (bs.map D.int))[i]?=some y->∃b,bs[i]?=some b/\y=.tup [.int (i:Int),.int b]:=by
  intro i y h;unfold jt at h;rw[getElem?_map,List.getElem?_zipIdx,getElem?_map] at h;cases e:bs[i]? with
  |none=>rw[e] at h;simp at h
  |some b=>
   rw[e] at h;simp at h;exact⟨b,rfl,h.symm⟩
 obtain⟨r',S',e,x2,x3,rfl,a',f'⟩:=cK (g:=none) (tg:=gT [2,3]) (b:=cC G)
  (fun i r S'=>∃x2 x3,r=[sO n,some (.tup (bs.map D.int)),x2,x3]/\Ht G S' n m p q (s.Hj 0 (bs.take i))/\Fr [n,m,p,q] S S') (jt 0 (bs.map D.int)) 0 [sO n,some (.tup (bs.map D.int)),none,none] S
  (by
   rintro i y r S' hy ⟨x2,x3,rfl,a',f'⟩;obtain⟨b,UB,rfl⟩:=Qk hy;rw[Nat.zero_add] at a' ⊢;have Oh:=(List.getElem?_eq_some_iff.mp UB).1;obtain⟨s',Qa⟩:∃s',s.Hj 0 (bs.take i)=s':=⟨_,rfl⟩;have Tw:s.Hj 0 (bs.take (i+1))=s'.Hj i [b]:=by
    rw[take_add_one,UB,toList_some,qW,Qa,length_take,Nat.min_eq_left (by omega),Nat.zero_add]
   have YV:=dr (bs.take i) s 0;rw[Qa] at YV a';rw[Tw];obtain⟨_,_,_,_,_,_,g7,g8,g9⟩:=YV;rw[length_take] at g9;refine⟨[sO n,some (.tup (bs.map D.int)),sI (i:Int),sI b],[sO n,some (.tup (bs.map D.int)),sI (i:Int),sI b],?_⟩;have t1:am (g_ G_ Hk (dI 1)) [sO n,some (.tup (bs.map D.int)),sI (i:Int),sI b] S'=.ok (decide (b=1)) S':=ay (ar rfl rfl (gO _ _));have k1:g_ bK (aA G.c_ a_ 7 h_) Hv [sO n,some (.tup (bs.map D.int)),sI (i:Int),sI b] S'=.ok (.int ((s'.base+i:Nat):Int)) S':=by
    refine ar (lH a' _) rfl ?_;rw[bS];congr 2
   have t2:am (g_ JO (g_ bK (aA G.c_ a_ 7 h_) Hv) (ak bq (aa (aA G.c_ a_ 6 h_) ai))) [sO n,some (.tup (bs.map D.int)),sI (i:Int),sI b] S'=.ok (decide (s'.base+i<s'.ps.length)) S':=by
    refine ay (ar k1 (av (af (rA a' _) ah) (fZ a'.ps)) ?_);rw[qv,length_map];congr 2;rw[decide_eq_decide];omega
   by_cases hc:b=1/\s'.base+i<s'.ps.length
   ·have tt:dg (am (g_ G_ Hk (dI 1))) (am (g_ JO (g_ bK (aA G.c_ a_ 7 h_) Hv) (ak bq (aa (aA G.c_ a_ 6 h_) ai)))) [sO n,some (.tup (bs.map D.int)),sI (i:Int),sI b] S'=.ok true S':=by
     rw[cR,au,t1,decide_eq_true hc.1];show am _ _ S'=_;rw[t2,decide_eq_true hc.2]
    have hp:qo (.ob q) (.int ((s'.base+i:Nat):Int)) (.bl true) S'=some (S'.set q (.IT (OT (if s'.base+i∈s'.GZ then s'.GZ else s'.GZ++[s'.base+i])))):=by
     simp only[qo,iA,fM a'.nt,EV];exact cf (Pd (by unfold OT;rw[length_map];omega))
    have hn:s'.Hj i [b] = { s' with GZ:=if s'.base+i∈s'.GZ then s'.GZ else s'.GZ++[s'.base+i] }:=by
     unfold Sr.Hj;by_cases hm:s'.base+i∈s'.GZ
     ·rw[if_neg (by simp[hm]),if_pos hm];rfl
     ·rw[if_pos ⟨hc.1,hc.2,hm⟩,if_neg hm];rfl
    refine⟨S'.set q (.IT (OT (if s'.base+i∈s'.GZ then s'.GZ else s'.GZ++[s'.base+i]))),rfl,?_,trivial,_,_,rfl,?_,f'.tr (Fr.set (by simp))⟩
    ·unfold cC;rw[aW tt,uD (d:=.bl true) rfl (FA a' _) k1 hp]
    ·rw[hn];exact⟨cG a'.ob a.nq.symm,cG a'.ms a.mq.symm,cG a'.ps a.pq.symm,dA a'.nt,a.mp⟩
   ·have tt:dg (am (g_ G_ Hk (dI 1))) (am (g_ JO (g_ bK (aA G.c_ a_ 7 h_) Hv) (ak bq (aa (aA G.c_ a_ 6 h_) ai)))) [sO n,some (.tup (bs.map D.int)),sI (i:Int),sI b] S'=.ok false S':=by
     rw[cR,au,t1];by_cases Ql:b=1
     ·rw[decide_eq_true Ql];show am _ _ S'=_;rw[t2,decide_eq_false fun z=>hc ⟨Ql,z⟩]
     ·rw[decide_eq_false Ql];rfl
    have hn:s'.Hj i [b]=s':=by
     unfold Sr.Hj;rw[if_neg fun z=>hc ⟨z.1,z.2.1⟩];rfl
    refine⟨S',rfl,?_,trivial,_,_,rfl,?_,f'⟩
    ·unfold cC;rw[ax tt];rfl
    ·rw[hn];exact a')
  ⟨none,none,rfl,by rw[take_zero];exact a,Fr.refl _ _⟩
 have hlen:(jt 0 (bs.map D.int)).length=bs.length:=by simp[jt]
 rw[hlen,Nat.zero_add,take_length] at a';rw[jC w1,e];exact⟨S',rfl,a',f',.inl rfl,.inl rfl⟩
def xg(m w:Nat)(S:List Cell):b8 [.int (m:Int),.int (w:Int)] S=.ok (.bl (decide (m<2 * w))) S:=by
 have h1:decide ((0:Int)<=(m:Int))=true:=decide_eq_true (by omega);have h2:decide ((m:Int)<2 * (w:Int))=decide (m<2 * w):=by rw[decide_eq_decide];omega
 simp[b8,jE,h1,h2]
def zE{n l:Int}{w:Nat}(hw:0<w)(S:List Cell):cu [.int n,.int l,.int (w:Int)] S=.ok (.int (iz n l w)) S:=by
 simp[cu,jv,cS (show(0:Int)<2 * (w:Int) by omega),iz]
def uk(n l:Int){w:Nat}(hw:0<w):l<=iz n l w:=by
 unfold iz;have:=Int.emod_nonneg (n-l) (show(2 * (w:Int))≠0 by omega);omega
def uN(a:Ht G S n m p q s)(b:Sb N s)(hN:N<=24300)(hw:0<s.w){num:Nat}{bs:List Int}(hb:bs.length<=1000) :
  ∃S',ci G [.ob n,.int (num:Int),.tup (bs.map D.int)] S=.ok .G0 S'/\II G n m p q S p q S' (s.z_ num bs):=by
 show ∃S',fin S (dU G [sO n,sI (num:Int),some (.tup (bs.map D.int)),none] S)=_/\_;unfold dU;have t1:bW (ak b8 (aa w_ (aa (aA G.c_ a_ 0 h_) ai))) [sO n,sI (num:Int),some (.tup (bs.map D.int)),none] S=.ok (decide (num<2 * s.w)) S:=by
  rw[cX,au,av (af rfl (af (B5 a _) ah)) (xg num s.w S)];rfl
 by_cases c1:num<2 * s.w
 ·rw[decide_eq_true c1] at t1;obtain⟨i,hi⟩:∃i:Nat,iz num s.base s.w=(i:Int):=⟨(iz num s.base s.w).toNat,by have:=uk num s.base hw;omega⟩;have Tx:s.base<=i:=by have:=uk num s.base hw;omega
  rw[aW t1,aw (bz (av (af rfl (af (lH a _) (af (B5 a _) ah))) (zE hw S)))];rw[hi];show ∃S',fin S (HX _ _ _ [sO n,sI (num:Int),some (.tup (bs.map D.int)),sI (i:Int)] S)=_/\_;have e1:ak zF (aa (g_ bK (aA G.c_ a_ 7 h_) (aA G.c_ a_ 0 h_)) (aa (ak bq (aa (aA G.c_ a_ 6 h_) ai)) ai)) [sO n,sI (num:Int),some (.tup (bs.map D.int)),sI (i:Int)] S=.ok (.int ((min (s.base+s.w) s.ps.length:Nat):Int)) S:=by
   refine av (af (ar (lH a _) (B5 a _) (bS _ _)) (af (av (af (rA a _) ah) (fZ a.ps)) ah)) ?_;rw[D2,length_map];congr 2;omega
  have t2:am (g_ Om Hk (ak zF (aa (g_ bK (aA G.c_ a_ 7 h_) (aA G.c_ a_ 0 h_)) (aa (ak bq (aa (aA G.c_ a_ 6 h_) ai)) ai)))) [sO n,sI (num:Int),some (.tup (bs.map D.int)),sI (i:Int)] S=.ok (decide (i<=min (s.base+s.w) s.ps.length)) S:=by
   refine ay (ar rfl e1 ?_);rw[zR];congr 2;rw[decide_eq_decide];omega
  by_cases c2:i<=min (s.base+s.w) s.ps.length
  ·rw[decide_eq_true c2] at t2;have he:s.z_ num bs=(s.I0 i).Hj 0 bs:=by
    unfold Sr.z_;rw[if_pos ⟨c1,by rw[hi];omega⟩,hi];rfl
   obtain⟨S1,q1,k1⟩:=CV a b hN Tx (by omega);obtain⟨S2,q2,k2⟩:=AH (bs:=bs) k1.at_ (by have:=b.nl;show s.GZ.length<=_;omega) hb;rw[aW t2,aw (aU (aO rfl a.ob (af rfl ah) q1)),aU (aO rfl k1.at_.ob (af rfl ah) q2),he];exact⟨S2,rfl,k1.trans k2⟩
  ·rw[decide_eq_false c2] at t2;have he:s.z_ num bs=s:=by
    unfold Sr.z_;rw[if_neg (by rw[hi];omega)]
   rw[ax t2,he];exact⟨S,rfl,II.refl a⟩
 ·rw[decide_eq_false c1] at t1;have he:s.z_ num bs=s:=by
   unfold Sr.z_;rw[if_neg (fun z=>c1 z.1)]
  rw[ax t1,he];exact⟨S,rfl,II.refl a⟩
def v_.Kq:v_->Nat
 |.x_ o=>o
 |.t_ o=>o
 |.Iy o=>o
 |.data o _ _=>o
 |.note o _ _=>o
def v_.knd:v_->Str
 |.x_ _=>"hello"
 |.t_ _=>"welcome"
 |.Iy _=>"who"
 |.data _ _ _=>"data"
 |.note _ _ _=>"note"
def N1:v_->Prop
 |.note _ _ bs=>bs.length<=7
 |_=>True
def AU(c:v_)(S:List Cell):y_ (o_ c) (.int 0) S=.ok (.str c.knd) S:=by cases c<;>rfl
def YW:v_->Bool
 |.t_ _=>true
 |_=>false
def isQ:v_->Bool
 |.Iy _=>true
 |_=>false
def YX:v_->Bool
 |.note _ _ _=>true
 |_=>false
def kW(c:v_)(S:List Cell):G_ (.str c.knd) (.str "welcome") S=.ok (.bl (YW c)) S:=by cases c<;>simp only[v_.knd,YW]<;>exact bc
def kQ(c:v_)(S:List Cell):G_ (.str c.knd) (.str "who") S=.ok (.bl (isQ c)) S:=by cases c<;>simp only[v_.knd,isQ]<;>exact bc
def kN(c:v_)(S:List Cell):G_ (.str c.knd) (.str "note") S=.ok (.bl (YX c)) S:=by cases c<;>simp only[v_.knd,YX]<;>exact bc
def Bn(c:v_)(S:List Cell):y_ (o_ c) (.int 1) S=.ok (.int (c.Kq:Int)) S:=by cases c<;>rfl
def EZ(a:Ht G S n m p q s)(b:Sb N s)(hN:N<=24300)(hw:0<s.w){c:v_}(hc:N1 c)(ho:c.Kq=s.op) :
  ∃S' p' q',dy G [.ob n,o_ c] S=.ok .G0 S'/\II G n m p q S p' q' S' (s.f_ c):=by
 show ∃S' p' q',fin S (eM G [sO n,some (o_ c)] S)=_/\_;unfold eM;have t1:am (g_ G_ (aA G.c_ a_ 5 h_) (dT "opening")) [sO n,some (o_ c)] S=.ok (decide (s.st=.opening)) S:=ay (ar (tT a _) rfl (vG s.st .opening _));have t2:am (g_ G_ (aA G.c_ a_ 5 h_) (dT "open")) [sO n,some (o_ c)] S=.ok (decide (s.st=.opened)) S:=ay (ar (tT a _) rfl (vG s.st .opened _));have k0:∀{k:Str}{y:Bool},G_ (.str c.knd) (.str k) S=.ok (.bl y) S->am (g_ G_ (g_ y_ w_ (dI 0)) (dC (.str k))) [sO n,some (o_ c)] S=.ok y S:=fun h=>ay (ar (ar rfl rfl (AU c S)) rfl h)
 have nothing:s.f_ c=s->HX (dg (am (g_ G_ (g_ y_ w_ (dI 0)) (dT "welcome"))) (am (g_ G_ (aA G.c_ a_ 5 h_) (dT "opening")))) (kt G.c_ a_ 5 h_ (dT "open")) (HX (dg (am (g_ G_ (g_ y_ w_ (dI 0)) (dT "who"))) (am (g_ G_ (aA G.c_ a_ 5 h_) (dT "open")))) (bu (aX G.c_ a_ (bM G) h_ ai)) (HX (dg (am (g_ G_ (g_ y_ w_ (dI 0)) (dT "note"))) (am (g_ G_ (aA G.c_ a_ 5 h_) (dT "open")))) (bu (aX G.c_ a_ (ci G) h_ (aa (g_ y_ w_ (dI 2)) (aa (g_ y_ w_ (dI 3)) ai)))) bD)) [sO n,some (o_ c)] S=some (.nx [sO n,some (o_ c)],S)->
   ∃S' p' q',fin S (HX (dg (am (g_ G_ (g_ y_ w_ (dI 0)) (dT "welcome"))) (am (g_ G_ (aA G.c_ a_ 5 h_) (dT "opening")))) (kt G.c_ a_ 5 h_ (dT "open")) (HX (dg (am (g_ G_ (g_ y_ w_ (dI 0)) (dT "who"))) (am (g_ G_ (aA G.c_ a_ 5 h_) (dT "open")))) (bu (aX G.c_ a_ (bM G) h_ ai)) (HX (dg (am (g_ G_ (g_ y_ w_ (dI 0)) (dT "note"))) (am (g_ G_ (aA G.c_ a_ 5 h_) (dT "open")))) (bu (aX G.c_ a_ (ci G) h_ (aa (g_ y_ w_ (dI 2)) (aa (g_ y_ w_ (dI 3)) ai)))) bD)) [sO n,some (o_ c)] S)=.ok .G0 S'/\II G n m p q S p' q' S' (s.f_ c):=by
  intro h1 h2;rw[h2,h1];exact⟨S,p,q,rfl,II.refl a⟩
 have an:∀{f g:tB->M Bool}{y z:Bool},f [sO n,some (o_ c)] S=.ok y S->g [sO n,some (o_ c)] S=.ok z S->dg f g [sO n,some (o_ c)] S=.ok (y && z) S:=by
  intro f g y z h1 h2;rw[cR,au,h1];cases y
  ·rfl
  ·show g _ S=_;rw[h2,Bool.true_and]
 cases c with
 |x_ o=>exact nothing rfl (by rw[ax (an (k0 (kW _ S)) t1),ax (an (k0 (kQ _ S)) t2),ax (an (k0 (kN _ S)) t2)];rfl)
 |data o i x=>exact nothing rfl (by rw[ax (an (k0 (kW _ S)) t1),ax (an (k0 (kQ _ S)) t2),ax (an (k0 (kN _ S)) t2)];rfl)
 |t_ o=>
  have Nc:o=s.op:=ho;by_cases hs:s.st=.opening
  ·rw[decide_eq_true hs] at t1;have he:s.f_ (.t_ o) = { s with st:=.opened }:=by unfold Sr.f_;exact if_pos ⟨Nc,hs⟩
   obtain⟨S1,q1,c1⟩:=ic (fo:=h_) (fe:=dT "open") (r:=[sO n,some (o_ (.t_ o))]) (i:=5) rfl rfl a.ob rfl;rw[aW (an (k0 (kW _ S)) t1),q1,he];exact⟨S1,p,q,rfl,⟨c1.at_,c1.old a.ms a.nm,c1.old a.ps a.np,c1.old a.nt a.nq,a.mp⟩,c1.fp (by simp),.inl rfl,.inl rfl⟩
  ·rw[decide_eq_false hs] at t1;exact nothing (by unfold Sr.f_;exact if_neg fun z=>hs z.2) (by rw[ax (an (k0 (kW _ S)) t1),ax (an (k0 (kQ _ S)) t2),ax (an (k0 (kN _ S)) t2)];rfl)
 |Iy o=>
  have Nc:o=s.op:=ho;by_cases hs:s.st=.opened
  ·rw[decide_eq_true hs] at t2;have he:s.f_ (.Iy o)=s.anew:=by unfold Sr.f_;exact if_pos ⟨Nc,hs⟩
   obtain⟨S1,p1,q1,e1,k1⟩:=y7 a b hN;rw[ax (an (k0 (kW _ S)) t1),aW (an (k0 (kQ _ S)) t2),aU (aO rfl a.ob ah e1),he];exact⟨S1,p1,q1,rfl,k1⟩
  ·rw[decide_eq_false hs] at t2;exact nothing (by unfold Sr.f_;exact if_neg fun z=>hs z.2) (by rw[ax (an (k0 (kW _ S)) t1),ax (an (k0 (kQ _ S)) t2),ax (an (k0 (kN _ S)) t2)];rfl)
 |note o i bs=>
  have Nc:o=s.op:=ho;by_cases hs:s.st=.opened
  ·rw[decide_eq_true hs] at t2;have he:s.f_ (.note o i bs)=s.z_ i bs:=by unfold Sr.f_;exact if_pos ⟨Nc,hs⟩
   have hb:bs.length<=7:=hc;obtain⟨S1,e1,k1⟩:=uN (num:=i) (bs:=bs) a b hN hw (by omega);rw[ax (an (k0 (kW _ S)) t1),ax (an (k0 (kQ _ S)) t2),aW (an (k0 (kN _ S)) t2),aU (aO rfl a.ob (af (ar rfl rfl rfl) (af (ar rfl rfl rfl) ah)) e1),he];exact⟨S1,p,q,rfl,k1⟩
  ·rw[decide_eq_false hs] at t2;exact nothing (by unfold Sr.f_;exact if_neg fun z=>hs z.2) (by rw[ax (an (k0 (kW _ S)) t1),ax (an (k0 (kQ _ S)) t2),ax (an (k0 (kN _ S)) t2)];rfl)
def vM{c:v_}(ho:c.Kq≠s.op):s.f_ c=s:=by
 cases c with
 |x_ o=>rfl
 |data o i x=>rfl
 |t_ o=>unfold Sr.f_;exact if_neg fun z=>ho z.1
 |Iy o=>unfold Sr.f_;exact if_neg fun z=>ho z.1
 |note o i bs=>unfold Sr.f_;exact if_neg fun z=>ho z.1
def B3(a:Ht G S n m p q s)(b:Sb N s)(hN:N<=24300)(hw:0<s.w){c:v_}(hc:N1 c) :
  ∃S' p' q' l,fL G [.ob n,o_ c] S=.ok (.ob l) S'/\II G n m p q S p' q' S' (s.f_ c)/\S'[l]?=some (.lst [])/\S.length<=l:=by
 show ∃S' p' q' l,fin S (hZ G [sO n,some (o_ c)] S)=_/\_;unfold hZ;have t1:am (g_ G_ (g_ y_ w_ (dI 1)) (aA G.c_ a_ 4 h_)) [sO n,some (o_ c)] S=.ok (decide (c.Kq=s.op)) S:=by
  refine ay (ar (ar rfl rfl (Bn c S)) (AL a _) ?_);rw[gO];congr 2;rw[decide_eq_decide];omega
 by_cases ho:c.Kq=s.op
 ·rw[decide_eq_true ho] at t1;obtain⟨S1,p1,q1,e1,k1⟩:=EZ a b hN hw hc ho;rw[aw (by rw[aW t1];exact aU (aO rfl a.ob (af rfl ah) e1)),aN (ck ah (by decide))];exact⟨_,p1,q1,_,rfl,k1.push _,aS rfl,k1.fr.1⟩
 ·rw[decide_eq_false ho] at t1;rw[aw (by rw[ax t1];rfl),aN (ck ah (by decide)),vM ho];exact⟨_,p,q,_,rfl,(II.refl a).push _,aS rfl,Nat.le_refl _⟩
def Sb.note{num:Nat}{bs:List Int}(b:Sb N s)(h:bs.length<=7):Sb (N+1) (s.z_ num bs):=by
 unfold Sr.z_;split
 ·obtain⟨h1,h2,h3,h4,h5,h6,h7,h8,h9⟩:=dr bs (s.I0 (iz num s.base s.w).toNat) 0;have hn:=b.nl;have hm:=b.ml;have hp:=b.pl;refine⟨by rw[h2];exact b.most,by rw[h3];show s.msgs.length<=_;omega,by rw[h3];exact b.PV,by rw[h7];show s.ps.length<=_;omega,by rw[h7];exact b.fg,?_⟩;have:(s.I0 (iz num s.base s.w).toNat).GZ.length=s.GZ.length:=rfl;omega
 ·exact b.mono (le_succ _)
def Sb.f_{c:v_}(b:Sb N s)(hc:N1 c):Sb (N+1) (s.f_ c):=by
 cases c with
 |x_ o=>exact b.mono (le_succ _)
 |data o i x=>exact b.mono (le_succ _)
 |t_ o=>
  unfold Sr.f_;dsimp only;split
  ·exact⟨b.most,Nat.le_succ_of_le b.ml,b.PV,by have:=b.pl;show s.ps.length<=_;omega,b.fg,by have:=b.nl;show s.GZ.length<=_;omega⟩
  ·exact b.mono (le_succ _)
 |Iy o=>
  unfold Sr.f_;dsimp only;split
  ·exact b.anew.mono (le_succ _)
  ·exact b.mono (le_succ _)
 |note o i bs=>
  unfold Sr.f_;dsimp only;split
  ·exact b.note hc
  ·exact b.mono (le_succ _)
def Sb.HD(b:Sb N s):Sb N s.HD:=⟨b.most,b.ml,b.PV,b.pl,b.fg,b.nl⟩
def Sb.start(b:Sb N s):Sb N s.start:=by
 unfold Sr.start;split
 ·exact b.anew
 ·exact b
def Bl(s:Sr):Prop:=s.base<=s.ps.length
def Bl.hand(b:Bl s)(x:HM):Bl (s.hand x):=by
 unfold Bl Sr.hand at *;dsimp only;split
 ·exact b
 ·rw[length_append];omega
def Bl.anew:Bl s.anew:=zero_le _
def Bl.start(b:Bl s):Bl s.start:=by
 unfold Sr.start;split
 ·exact Bl.anew
 ·exact b
def Bl.f_(hw:0<s.w)(b:Bl s)(c:v_):Bl (s.f_ c):=by
 cases c with
 |x_ o=>exact b
 |data o i x=>exact b
 |t_ o=>
  unfold Sr.f_;dsimp only;split<;>exact b
 |Iy o=>
  unfold Sr.f_;dsimp only;split
  ·exact Bl.anew
  ·exact b
 |note o i bs=>
  unfold Sr.f_;dsimp only;split
  ·unfold Sr.z_;split
   ·rename_i h;obtain⟨h1,h2,h3,h4,h5,h6,h7,h8,h9⟩:=dr bs (s.I0 (iz i s.base s.w).toNat) 0;unfold Bl;rw[h7,h8];have:=uk i s.base hw;show(iz i s.base s.w).toNat<=s.ps.length;omega
   ·exact b
  ·exact b
def AO(s:Sr)(c:v_):(s.f_ c).w=s.w:=by
 cases c with
 |x_ o=>rfl
 |data o i x=>rfl
 |t_ o=>unfold Sr.f_;dsimp only;split<;>rfl
 |Iy o=>unfold Sr.f_;dsimp only;split<;>rfl
 |note o i bs=>
  unfold Sr.f_;dsimp only;split
  ·unfold Sr.z_;split
   ·exact(dr bs (s.I0 (iz i s.base s.w).toNat) 0).1
   ·rfl
  ·rfl
def eT{f:Str}{C:Addr}{ns:List Str}{ds:List D}{d:D}{fo fe:tB->M D}{r:tB}(h1:fe r S=.ok d S1)(h2:fo r S1=.ok (.ob n) S1)(h3:S1[n]?=some (.ins C ns ds)):∃S2,cN C ns f fo fe r S=some (.nx r,S2)/\Ch n (.ins C (ns++[f]) (ds++[d])) S1 S2:=
 ⟨_,kK h1 h2 h3,Ch.set h3⟩
def Dx(w most:Nat)(S:List Cell):∃S' m p q,jf G.c_ (b9 G) [.int (w:Int),.int (most:Int)] S=.ok (.ob S.length) S'/\Ht G S' S.length m p q (Sr.new w most)/\Fr [] S S'/\S.length<=m/\S.length<=p/\S.length<=q:=by
 obtain⟨n,hn⟩:∃n,n=S.length:=⟨_,rfl⟩;have s0:(S++[Cell.ins G.c_ [] []])[n]?=some (.ins G.c_ [] []):=aS hn;obtain⟨r,hr⟩:∃r:tB,r=[sO n,sI (w:Int),sI (most:Int)]:=⟨_,rfl⟩;have v0:∀S,h_ r S=.ok (.ob n) S:=fun S=>by rw[hr];rfl
 have v1:∀S,w_ r S=.ok (.int (w:Int)) S:=fun S=>by rw[hr];rfl
 have v2:∀S,Hv r S=.ok (.int (most:Int)) S:=fun S=>by rw[hr];rfl
 obtain⟨T1,e1,c1⟩:=eT (f:="window") (fo:=h_) (fe:=w_) (v1 _) (v0 _) s0;obtain⟨T2,e2,c2⟩:=eT (f:="most") (fo:=h_) (fe:=Hv) (v2 _) (v0 _) c1.at_;obtain⟨T3,e3,c3⟩:=eT (f:="messages") (fo:=h_) (fe:=cg ai) (r:=r) (ck ah (by decide)) (v0 _) (aB (G:=[.lst []]) c2.at_);obtain⟨T4,e4,c4⟩:=eT (f:="sure") (fo:=h_) (fe:=dI 0) (r:=r) rfl (v0 _) c3.at_;obtain⟨T5,e5,c5⟩:=eT (f:="opening") (fo:=h_) (fe:=dI 0) (r:=r) rfl (v0 _) c4.at_;obtain⟨T6,e6,c6⟩:=eT (f:="state") (fo:=h_) (fe:=dT "shut") (r:=r) rfl (v0 _) c5.at_;obtain⟨T7,e7,c7⟩:=eT (f:="pieces") (fo:=h_) (fe:=cg ai) (r:=r) (ck ah (by decide)) (v0 _) (aB (G:=[.lst []]) c6.at_);obtain⟨T8,e8,c8⟩:=eT (f:="base") (fo:=h_) (fe:=dI 0) (r:=r) rfl (v0 _) c7.at_;obtain⟨T9,e9,c9⟩:=eT (f:="noted") (fo:=h_) (fe:=kO) (r:=r) rfl (v0 _) (aB (G:=[.IT []]) c8.at_);have l1:=c1.len;have l2:=c2.len;have l3:=c3.len;have l4:=c4.len;have l5:=c5.len;have l6:=c6.len;have l7:=c7.len;have l8:=c8.len;have l9:=c9.len;rw[length_append,length_singleton] at l1 l3 l7 l9;have m3:T3[T2.length]?=some (.lst []):=c3.old (aS rfl) (by omega);have m6:T6[T2.length]?=some (.lst []):=c6.old (c5.old (c4.old m3 (by omega)) (by omega)) (by omega);have m7:T7[T2.length]?=some (.lst []):=c7.old (aB m6) (by omega);have p7:T7[T6.length]?=some (.lst []):=c7.old (aS rfl) (by omega);have m9:T9[T2.length]?=some (.lst []):=c9.old (aB (c8.old m7 (by omega))) (by omega);have p9:T9[T6.length]?=some (.lst []):=c9.old (aB (c8.old p7 (by omega))) (by omega);have q9:T9[T8.length]?=some (.IT []):=c9.old (aS rfl) (by omega);refine⟨T9,T2.length,T6.length,T8.length,?_,?_,?_,by omega,by omega,by omega⟩
 ·unfold jf;rw[<-hn];have:b9 G [.ob n,.int (w:Int),.int (most:Int)] (S++[.ins G.c_ [] []])=.ok .G0 T9:=by
   show fin _ (du G [sO n,sI (w:Int),sI (most:Int)] _)=_;rw[<-hr];simp only[nil_append,cons_append] at e2 e3 e4 e5 e6 e7 e8;unfold du;rw[aw e1,aw e2,aw e3,aw e4,aw e5,aw e6,aw e7,aw e8];rw[show cN G.c_ ["window","most","messages","sure","opening","state","pieces","base"] "noted" h_ kO r T8=some (.nx r,T9) from e9];rfl
  rw[this]
 ·rw[<-hn];exact⟨c9.at_,m9,p9,q9,by omega⟩
 ·have f:Fr [n] S T9:=((((((((((Fr.push.tr c1.fr).tr c2.fr).tr Fr.push).tr c3.fr).tr c4.fr).tr c5.fr).tr c6.fr).tr Fr.push).tr c7.fr).tr c8.fr).tr (Fr.push.tr c9.fr);exact f.mono fun i hi hs=>by
   have:i=n:=by simpa using hi
   omega
end
def K_(g:Nat×HM):D:=.tup [.int (g.1:Int),.tup (g.2.map D.int)]
def Nq(e:List (Nat×Pc)):List (Key×D):=e.map fun q=>(Sum.inl (q.1:Int),Hn q.2)
def qx(e:List (Nat×Pc))(k:Nat):iC (Nq e) (.inl (k:Int))=(e.lookup k).map Hn:=by
 induction e with
 |nil=>rfl
 |cons a r ih=>
  obtain⟨a1,a2⟩:=a;rw[lookup_cons];unfold Nq at ih ⊢;rw[map_cons];unfold iC at ih ⊢;rw[find?_cons];by_cases h:k=a1
  ·subst h;simp
  ·have h1:(k == a1)=false:=beq_eq_false_iff_ne.mpr h;have h2:decide ((Sum.inl (a1:Int):Key)=Sum.inl (k:Int))=false:=decide_eq_false fun z=>h (by injection z with z;omega)
   simp only[h2,h1];exact ih
def E3(e:List (Nat×Pc))(k:Nat):((Nq e).any fun kv=>decide (kv.1=(Sum.inl (k:Int):Key)))=(e.lookup k).isSome:=by
 induction e with
 |nil=>rfl
 |cons a r ih=>
  obtain⟨a1,a2⟩:=a;rw[lookup_cons];unfold Nq at ih ⊢;rw[map_cons,any_cons];by_cases h:k=a1
  ·subst h;simp
  ·have h1:(k == a1)=false:=beq_eq_false_iff_ne.mpr h;have h2:decide ((Sum.inl (a1:Int):Key)=Sum.inl (k:Int))=false:=decide_eq_false fun z=>h (by injection z with z;omega)
   simp only[h2,h1,Bool.false_or];exact ih
def E1{e:List (Nat×Pc)}{k:Nat}(p:Pc)(h:e.lookup k=none):sM (Nq e) (.inl (k:Int)) (Hn p)=Nq (e++[(k,p)]):=by
 unfold sM;rw[E3,h];simp[Nq]
def Cu(e:List (Nat×Pc))(k:Nat):vK (Nq e) (.inl (k:Int))=Nq (e.filter fun q=>decide (q.1≠k)):=by
 induction e with
 |nil=>rfl
 |cons a r ih=>
  obtain⟨a1,a2⟩:=a;unfold vK Nq at ih ⊢;rw[map_cons,filter_cons,filter_cons];by_cases h:a1=k
  ·subst h;simpa using ih
  ·have h2:decide ((Sum.inl (a1:Int):Key)≠Sum.inl (k:Int))=true:=decide_eq_true fun z=>h (by injection z with z;omega)
   have h3:decide (a1≠k)=true:=decide_eq_true h;simp only[h2,h3,if_true,map_cons];rw[ih]
def Ef(e:List (Nat×Pc)):(Nq e).length=e.length:=by simp[Nq]
structure HL(G:Cs)(S:List Cell)(n g e b:Nat)(h:Hr):Prop where
 ob:S[n]?=some (.ins G.i_ d_ [.int (h.w:Int),.ob g,.int (h.op:Int),.int (h.nx:Int),.ob e,.ob b])
 gv:S[g]?=some (.lst (h.given.map K_))
 ea:S[e]?=some (.IT (Nq h.early))
 be:S[b]?=some (.lst (h.begun.map Hn))
 gb:g≠b
section
variable{G:Cs}{S:List Cell}{n g e b:Nat}{h:Hr}
def HL.ng(a:HL G S n g e b h):n≠g:=dz a.ob a.gv (by intro z;cases z)
def HL.ne(a:HL G S n g e b h):n≠e:=dz a.ob a.ea (by intro z;cases z)
def HL.nb(a:HL G S n g e b h):n≠b:=dz a.ob a.be (by intro z;cases z)
def HL.ge(a:HL G S n g e b h):g≠e:=dz a.gv a.ea (by intro z;cases z)
def HL.eb(a:HL G S n g e b h):e≠b:=dz a.ea a.be (by intro z;cases z)
def HL.fr{S':List Cell}{fp:List Nat}(a:HL G S n g e b h)(f:Fr fp S S')(h1:n∉fp)(h2:g∉fp)(h3:e∉fp)(h4:b∉fp):HL G S' n g e b h:=⟨f.get a.ob h1,f.get a.gv h2,f.get a.ea h3,f.get a.be h4,a.gb⟩
def HL.push(a:HL G S n g e b h)(c:List Cell):HL G (S++c) n g e b h:=⟨aB a.ob,aB a.gv,aB a.ea,aB a.be,a.gb⟩
def Bc(a:HL G S n g e b h)(o:Nat):∃S' e' b',cL G [.ob n,.int (o:Int)] S=.ok .G0 S'/\HL G S' n g e' b' (h.begin_ o)/\Fr [n] S S'/\S.length<=e'/\S.length<=b':=by
 have hn:=br a.ob;have hg:=br a.gv;have ng:=a.ng;obtain⟨S1,q1,c1⟩:=ic (fo:=h_) (fe:=w_) (r:=[sO n,sI (o:Int)]) (i:=2) rfl rfl a.ob rfl;obtain⟨S2,q2,c2⟩:=ic (fo:=h_) (fe:=dI 0) (r:=[sO n,sI (o:Int)]) (i:=3) rfl rfl c1.at_ rfl;obtain⟨S3,q3,c3⟩:=ic (fo:=h_) (fe:=kO) (r:=[sO n,sI (o:Int)]) (i:=4) rfl rfl (aB (G:=[.IT []]) c2.at_) rfl;obtain⟨S4,q4,c4⟩:=ic (fo:=h_) (fe:=cg ai) (r:=[sO n,sI (o:Int)]) (i:=5) (ck ah (by decide)) rfl (aB (G:=[.lst []]) c3.at_) rfl;have l1:=c1.len;have l2:=c2.len;have l3:=c3.len;have l4:=c4.len;rw[length_append,length_singleton] at l3 l4;refine⟨S4,S2.length,S3.length,?_,⟨c4.at_,c4.old (aB (c3.old (aB (c2.old (c1.old a.gv ng) ng)) ng)) ng,c4.old (aB (c3.old (aS rfl) (by omega))) (by omega),c4.old (aS rfl) (by omega),by omega⟩,?_,by omega,by omega⟩
 ·show fin S (hW G [sO n,sI (o:Int)] S)=_;unfold hW;rw[aw q1,aw q2,aw q3,q4];rfl
 ·exact((((c1.fr.tr c2.fr).tr Fr.push).tr c3.fr).tr Fr.push).tr c4.fr
end
section
variable{G:Cs}{S S' S1 S2:List Cell}{n g e b e' b' e1 b1 e2 b2:Nat}{h h' h1 h2:Hr}
structure Ii(G:Cs)(n g e b:Nat)(S:List Cell)(e' b':Nat)(S':List Cell)(h':Hr):Prop where
 at_:HL G S' n g e' b' h'
 fr:Fr [n,g,e,b] S S'
 e_:e'=e\/S.length<=e'
 b_:b'=b\/S.length<=b'
def Ii.trans(a:Ii G n g e b S e1 b1 S1 h1)(c:Ii G n g e1 b1 S1 e2 b2 S2 h2):Ii G n g e b S e2 b2 S2 h2:=by
 have hl:=a.fr.1;refine⟨c.at_,a.fr.trans c.fr fun i hi hs=>?_,?_,?_⟩
 ·simp only[mem_cons,not_mem_nil,or_false] at hi ⊢;have he:=a.e_;have hb:=a.b_;omega
 ·have:=a.e_;have:=c.e_;omega
 ·have:=a.b_;have:=c.b_;omega
def Ii.refl(a:HL G S n g e b h):Ii G n g e b S e b S h:=⟨a,Fr.refl _ _,.inl rfl,.inl rfl⟩
def Ii.push(a:Ii G n g e b S e' b' S' h')(c:List Cell):Ii G n g e b S e' b' (S'++c) h':=⟨a.at_.push c,a.fr.tr Fr.push,a.e_,a.b_⟩
def tG(a:HL G S n g e b h)(o:Nat):∃S' e' b',cL G [.ob n,.int (o:Int)] S=.ok .G0 S'/\Ii G n g e b S e' b' S' (h.begin_ o):=by
 obtain⟨S',e',b',q,c,f,h1,h2⟩:=Bc a o;exact⟨S',e',b',q,⟨c,f.mono (fun i hi _=>by simp at hi;simp[hi]),.inr h1,.inr h2⟩⟩
def tC(a:HL G S n g e b h)(r:tB):aA G.i_ d_ 2 h_ (some (.ob n) :: r) S=.ok (.int (h.op:Int)) S:=bT rfl a.ob rfl
def tU(a:HL G S n g e b h)(r:tB):aA G.i_ d_ 3 h_ (some (.ob n) :: r) S=.ok (.int (h.nx:Int)) S:=bT rfl a.ob rfl
def Bz(a:HL G S n g e b h)(r:tB):aA G.i_ d_ 0 h_ (some (.ob n) :: r) S=.ok (.int (h.w:Int)) S:=bT rfl a.ob rfl
def wJ(a:HL G S n g e b h)(r:tB):aA G.i_ d_ 4 h_ (some (.ob n) :: r) S=.ok (.ob e) S:=bT rfl a.ob rfl
def D9(a:HL G S n g e b h)(r:tB):aA G.i_ d_ 5 h_ (some (.ob n) :: r) S=.ok (.ob b) S:=bT rfl a.ob rfl
def FM(a:HL G S n g e b h)(r:tB):aA G.i_ d_ 1 h_ (some (.ob n) :: r) S=.ok (.ob g) S:=bT rfl a.ob rfl
structure Out(S:List Cell)(l:Nat)(S':List Cell)(cs:List v_):Prop where
 at_:S'[l]?=some (.lst (cs.map o_))
 new:S.length<=l
def AA(a:HL G S n g e b h)(o:Nat):∃S' e' b' l,cx G [.ob n,.int (o:Int)] S=.ok (.ob l) S'/\Ii G n g e b S e' b' S' (h.f_ (.x_ o)).1/\Out S l S' (h.f_ (.x_ o)).2:=by
 show ∃S' e' b' l,fin S (dO G [sO n,sI (o:Int)] S)=_/\_;unfold dO;have t1:am (g_ JO w_ (aA G.i_ d_ 2 h_)) [sO n,sI (o:Int)] S=.ok (decide (o<h.op)) S:=by
  refine ay (ar rfl (tC a _) ?_);rw[qv];congr 2;rw[decide_eq_decide];omega
 have t2:am (g_ Q0 w_ (aA G.i_ d_ 2 h_)) [sO n,sI (o:Int)] S=.ok (decide (h.op<o)) S:=by
  refine ay (ar rfl (tC a _) ?_);rw[Ew];congr 2;rw[decide_eq_decide];omega
 have wl:∀S0,bJ (cg (aa (bY (aa (dT "welcome") (aa w_ ai))) ai)) [sO n,sI (o:Int)] S0=some (.rt (.ob S0.length),S0++[.lst [o_ (.t_ o)]]):=fun S0=>
  aN (ck (af (bF (af rfl (af rfl ah)) (by simp)) ah) (by simp))
 by_cases c1:o<h.op
 ·have e1:h.f_ (.x_ o)=(h,[]):=by simp[Hr.f_,c1]
  rw[decide_eq_true c1] at t1;rw[di (by rw[aW t1];exact aN (ck ah (by decide))),e1];exact⟨_,e,b,_,rfl,(Ii.refl a).push _,⟨aS rfl,Nat.le_refl _⟩⟩
 ·rw[decide_eq_false c1] at t1;rw[aw (by rw[ax t1];rfl)];by_cases c2:h.op<o
  ·have e1:h.f_ (.x_ o)=(h.begin_ o,[.t_ o]):=by simp[Hr.f_,c1,c2]
   rw[decide_eq_true c2] at t2;obtain⟨S1,e1',b1',q,c⟩:=tG a o;rw[aw (by rw[aW t2];exact aU (aO rfl a.ob (af rfl ah) q)),wl,e1];exact⟨_,e1',b1',_,rfl,c.push _,⟨aS rfl,c.fr.1⟩⟩
  ·have e1:h.f_ (.x_ o)=(h,[.t_ o]):=by simp[Hr.f_,c1,c2]
   rw[decide_eq_false c2] at t2;rw[aw (by rw[ax t2];rfl),wl,e1];exact⟨_,e,b,_,rfl,(Ii.refl a).push _,⟨aS rfl,Nat.le_refl _⟩⟩
def Cc(m w:Nat)(S:List Cell):b8 [.int (m:Int),.int (w:Int)] S=.ok (.bl (decide (m<2 * w))) S:=by
 have h1:(0:Int)<=(m:Int):=by omega
 have h2:decide ((m:Int)<2 * (w:Int))=decide (m<2 * w):=by rw[decide_eq_decide];omega
 simp[b8,jE,h1,h2]
def Bh{m:Int}{low:Int}{w:Nat}(hw:0<w)(S:List Cell):cu [.int m,.int low,.int (w:Int)] S=.ok (.int (iz m low w)) S:=by
 have h1:(0:Int)<2 * (w:Int):=by omega
 simp[cu,jv,cS h1,iz]
def DM(a:HL G S n g e b h)(hw:0<h.w)(num:Nat)(p:Pc)(hz:h.early.length<1000000):∃S',gD G [.ob n,.int (num:Int),Hn p] S=.ok .G0 S'/\Ii G n g e b S e b S' (h.keep num p):=by
 show ∃S',fin S (iT G [sO n,sI (num:Int),some (Hn p),none] S)=_/\_;unfold iT;have t1:bW (ak b8 (aa w_ (aa (aA G.i_ d_ 0 h_) ai))) [sO n,sI (num:Int),some (Hn p),none] S=.ok (decide (num<2 * h.w)) S:=by
  rw[cX,au,av (af rfl (af (Bz a _) ah)) (Cc num h.w S)];rfl
 by_cases c1:num<2 * h.w
 ·rw[decide_eq_true c1] at t1;have t2:ak cu (aa w_ (aa (g_ sL (aA G.i_ d_ 3 h_) (aA G.i_ d_ 0 h_)) (aa (aA G.i_ d_ 0 h_) ai))) [sO n,sI (num:Int),some (Hn p),none] S=.ok (.int (h.idx num)) S:=
   av (af rfl (af (ar (tU a _) (Bz a _) (tJ _ _)) (af (Bz a _) ah))) (Bh hw S)
  rw[aW t1,aw (bz t2)];show ∃S',fin S (HX _ _ _ [sO n,sI (num:Int),some (Hn p),sI (h.idx num)] S)=_/\_;have t3:am (g_ Lm Hk (aA G.i_ d_ 3 h_)) [sO n,sI (num:Int),some (Hn p),sI (h.idx num)] S=.ok (decide ((h.nx:Int)<=h.idx num)) S:=
   ay (ar rfl (tU a _) (wH _ _))
  by_cases c2:(h.nx:Int)<=h.idx num
  ·obtain⟨k,hk⟩:∃k:Nat,h.idx num=(k:Int):=⟨(h.idx num).toNat,by omega⟩;have t4:am (g_ fT Hk (aA G.i_ d_ 4 h_)) [sO n,sI (num:Int),some (Hn p),sI (h.idx num)] S=.ok (!(h.early.lookup k).isSome) S:=by
    refine ay (ar rfl (wJ a _) ?_);rw[hk];simp only[fT,iA,fM a.ea,qx,isSome_map]
   by_cases c3:h.early.lookup k=none
   ·have e1:h.keep num p = { h with early:=h.early++[(k,p)] }:=by
     unfold Hr.keep;rw[if_pos ⟨c1,c2,by rw[hk];exact c3⟩,hk];rfl
    have tt:dg (am (g_ Lm Hk (aA G.i_ d_ 3 h_))) (am (g_ fT Hk (aA G.i_ d_ 4 h_))) [sO n,sI (num:Int),some (Hn p),sI (h.idx num)] S=.ok true S:=by
     rw[cR,au,t3,decide_eq_true c2];show am _ _ S=_;rw[t4,c3];rfl
    rw[aW tt,uD (d:=Hn p) rfl (wJ a _) (y:=.int (h.idx num)) rfl (S4:=S.set e (.IT (Nq (h.early++[(k,p)])))) (by
     rw[hk];simp only[qo,iA,fM a.ea,E1 p c3];exact cf (Pd (by rw[Ef];omega)))]
    refine⟨_,rfl,?_⟩;rw[e1];exact⟨⟨cG a.ob a.ne.symm,cG a.gv a.ge.symm,dA a.ea,cG a.be a.eb,a.gb⟩,Fr.set (by simp),.inl rfl,.inl rfl⟩
   ·have e1:h.keep num p=h:=by
     unfold Hr.keep;exact if_neg fun q=>c3 (by have:=q.2.2;rw[hk] at this;exact this)
    have tt:dg (am (g_ Lm Hk (aA G.i_ d_ 3 h_))) (am (g_ fT Hk (aA G.i_ d_ 4 h_))) [sO n,sI (num:Int),some (Hn p),sI (h.idx num)] S=.ok false S:=by
     rw[cR,au,t3,decide_eq_true c2];show am _ _ S=_;rw[t4];cases q:h.early.lookup k with
     |none=>exact absurd q c3
     |some _=>rfl
    rw[ax tt,e1];exact⟨_,rfl,Ii.refl a⟩
  ·have e1:h.keep num p=h:=by
    unfold Hr.keep;exact if_neg fun q=>c2 q.2.1
   have tt:dg (am (g_ Lm Hk (aA G.i_ d_ 3 h_))) (am (g_ fT Hk (aA G.i_ d_ 4 h_))) [sO n,sI (num:Int),some (Hn p),sI (h.idx num)] S=.ok false S:=by
    rw[cR,au,t3,decide_eq_false c2];rfl
   rw[ax tt,e1];exact⟨_,rfl,Ii.refl a⟩
 ·rw[decide_eq_false c1] at t1;have e1:h.keep num p=h:=by
   unfold Hr.keep;exact if_neg fun q=>c1 q.1
  rw[ax t1,e1];exact⟨_,rfl,Ii.refl a⟩
def Dv(a:HL G S n g e b h):∃S' e' b',gI G [.ob n] S=.ok .G0 S'/\Ii G n g e b S e' b' S' h.HD:=by
 obtain⟨S',e',b',q,c⟩:=tG a 0;refine⟨S',e',b',?_,c⟩;show fin S (iN G [sO n] S)=_;unfold iN;rw[aU (aO rfl a.ob rfl q)];rfl
def ES(p:Pc)(S:List Cell):y_ (Hn p) (.int 0) S=.ok (.int p.1) S:=rfl
def Er(p:Pc)(S:List Cell):y_ (Hn p) (.int 1) S=.ok (.tup (p.2.map D.int)) S:=rfl
def oZ(ps:List Pc)(k:Nat):(bf (ps.take k)).length<=(bf ps).length:=by
 have:=iZ (ps.take k) (ps.drop k);rw[take_append_drop] at this;rw[this,length_append];omega
def n6{ps:List Pc}{k:Nat}{p:Pc}(h:ps[k]?=some p):bf (ps.take (k+1))=bf (ps.take k)++p.2:=by
 rw[take_add_one,h];simp[iZ,bf]
def xA{x:D}{ps:List Pc}{gd:Option (Nat×List D)}(hx:∀T,i8 x (S++T)=.ok ⟨ps.map Hn,gd⟩ (S++T))(hg:Ld gd S)(hz:(bf ps).length<=1000000):eu [x] S=.ok (.tup ((bf ps).map D.int)) S:=by
 show cI S (jO [some x,none,none] S)=_;unfold jO;rw[aw (bz (ck ah (by decide)))];show cI S (aI _ _ [some x,sO S.length,none] (S++[.lst []]))=_;have hw:Js h_ [some x,sO S.length,none] (S++[.lst []])=.ok ⟨ps.map Hn,gd⟩ (S++[.lst []]):=by
  rw[jW,au];exact hx _
 obtain⟨r',S',q,last,rfl,rfl⟩:=cK (g:=gd) (tg:=gN 2) (b:=bu (KG sU w_ (aa (g_ y_ Hv (dI 1)) ai)))
  (fun k r S'=>∃last,r=[some x,sO S.length,last]/\S'=S++[.lst ((bf (ps.take k)).map D.int)]) (ps.map Hn) 0 [some x,sO S.length,none] (S++[.lst []])
  (by
   rintro i y r S' hy ⟨last,rfl,rfl⟩;rw[getElem?_map] at hy;cases hp:ps[i]? with
   |none=>rw[hp] at hy;cases hy
   |some p=>
    rw[hp] at hy;cases hy;rw[Nat.zero_add];have K6:∀a c:Cell,(S++[a]).set S.length c=S++[c]:=fun a c=>by rw[set_append_right _ _ (Nat.le_refl _)];simp
    refine⟨[some x,sO S.length,some (Hn p)],[some x,sO S.length,some (Hn p)],S++[.lst ((bf (ps.take i)).map D.int++p.2.map D.int)],rfl,?_,?_,some (Hn p),rfl,?_⟩
    ·have hl:=oZ ps (i+1);rw[n6 hp,length_append] at hl;have ee:=aU (r:=[some x,sO S.length,some (Hn p)]) (fe:=KG sU w_ (aa (g_ y_ Hv (dI 1)) ai)) (ld (n:=S.length) (S:=S++[.lst ((bf (ps.take i)).map D.int)]) rfl (aS rfl) (af (ar rfl rfl (Er p _)) ah)
      (Ea (xs:=(bf (ps.take i)).map D.int) (ys:=p.2.map D.int) (aS rfl) (by rw[length_map,length_map];omega)))
     rw[K6] at ee;exact ee
    ·cases gd with
     |none=>trivial
     |some q=>exact aB hg
    ·rw[n6 hp,map_append])
  ⟨none,rfl,by simp[bf]⟩
 rw[aw (by rw[jC hw];exact q),aN (av (af (x:=.ob S.length) rfl ah) (d7 (aS rfl)))];rw[show 0+(ps.map Hn).length=ps.length by simp,take_length];exact lQ (by unfold IM;exact dc _ _)
def xE{k:Nat}{ps:List Pc}(hk:S[k]?=some (.lst (ps.map Hn)))(hz:(bf ps).length<=1000000):eu [.ob k] S=.ok (.tup ((bf ps).map D.int)) S:=by
 refine xA (gd:=some (k,ps.map Hn)) (fun T=>?_) hk hz;simp only[i8];rw[aB hk]
def Ci(a:HL G S n g e b h)(p:Pc)(z1:h.begun.length<1000000)(z2:h.given.length<1000000)(z3:(bf (h.begun++[p])).length<=1000000) :
  ∃S' b',gG G [.ob n,Hn p] S=.ok .G0 S'/\Ii G n g e b S e b' S' (h.take p):=by
 show ∃S' b',fin S (ja G [sO n,some (Hn p)] S)=_/\_;unfold ja;obtain⟨S1,q1,c1⟩:=vf (fo:=aA G.i_ d_ 5 h_) (ft:=aa w_ ai) (r:=[sO n,some (Hn p)]) (D9 a _) a.be (af rfl ah) (by simpa using z1);have a1:HL G S1 n g e b { h with begun:=h.begun++[p] }:=⟨c1.old a.ob a.nb.symm,c1.old a.gv a.gb.symm,c1.old a.ea a.eb.symm,by simpa using c1.at_,a.gb⟩;have f1:Fr [n,g,e,b] S S1:=c1.fp (by simp);rw[aw (aU q1)];have t1:am (g_ G_ (g_ y_ w_ (dI 0)) (dI 1)) [sO n,some (Hn p)] S1=.ok (decide (p.1=1)) S1:=ay (ar (ar rfl rfl (ES p _)) rfl (gO _ _));by_cases hl:p.1=1
 ·rw[decide_eq_true hl] at t1;have e1:h.take p = { h with given:=h.given++[(h.op,bf (h.begun++[p]))],begun:=[] }:=by unfold Hr.take;rw[if_pos hl]
  obtain⟨S2,q2,c2⟩:=vf (d:=K_ (h.op,bf (h.begun++[p]))) (fo:=aA G.i_ d_ 1 h_) (ft:=aa (bY (aa (aA G.i_ d_ 2 h_) (aa (ak eu (aa (aA G.i_ d_ 5 h_) ai)) ai))) ai)
   (r:=[sO n,some (Hn p)]) (FM a1 _) a1.gv (af (bF (af (tC a1 _) (af (av (af (D9 a1 _) ah) (xE a1.be z3)) ah)) (by simp)) ah) (by simpa using z2)
  obtain⟨S3,q3,c3⟩:=ic (fo:=h_) (fe:=cg ai) (r:=[sO n,some (Hn p)]) (i:=5) (ck ah (by decide)) rfl (aB (G:=[.lst []]) (c2.old a1.ob a.ng.symm)) rfl;have l2:=c2.len;have JD:=br a1.ob;have hlg:=br a1.gv;have hl1:=f1.1;have a3:HL G S3 n g e S2.length { h with given:=h.given++[(h.op,bf (h.begun++[p]))],begun:=[] }:=
   ⟨c3.at_,c3.old (aB (by simpa using c2.at_)) a.ng,c3.old (aB (c2.old a1.ea a.ge)) a.ne,c3.old (aS rfl) (by omega),by omega⟩
  refine⟨S3,S2.length,?_,?_⟩
  ·rw[aW t1,aw (aU q2),q3];rfl
  ·rw[e1];exact⟨a3,((f1.tr (c2.fp (by simp))).tr Fr.push).tr (c3.fp (by simp)),.inl rfl,.inr (by omega)⟩
 ·rw[decide_eq_false hl] at t1;have e1:h.take p = { h with begun:=h.begun++[p] }:=by unfold Hr.take;rw[if_neg hl]
  refine⟨S1,b,?_,?_⟩
  ·rw[ax t1];rfl
  ·rw[e1];exact⟨a1,f1,.inl rfl,.inl rfl⟩
end
structure Bd(N:Nat)(h:Hr):Prop where
 cnt:h.given.length+h.begun.length+h.early.length<=N
 bp:∀p,p∈h.begun->p.2.length<=40
 ep:∀q,q∈h.early->q.2.2.length<=40
theorem rG:∀{ps:List Pc},(∀p,p∈ps->p.2.length<=40)->(bf ps).length<=40 * ps.length
 |[],_=>by simp[bf]
 |p :: ps,h=>by
  have h1:=h p (by simp);have h2:=rG fun q hq=>h q (mem_cons_of_mem _ hq)
  have:bf (p :: ps)=p.2++bf ps:=by simp[bf]
  rw[this,length_append,length_cons];omega
def o0{l:List (Nat×Pc)}{k:Nat}{p:Pc}(h:l.lookup k=some p):(k,p)∈l:=by
 induction l with
 |nil=>simp at h
 |cons a r ih=>
  obtain⟨a1,a2⟩:=a;rw[lookup_cons] at h;cases e:k == a1 with
  |true=>
   rw[e] at h;simp at h;have:=beq_iff_eq.mp e;subst this h;simp
  |false=>
   rw[e] at h;exact mem_cons_of_mem _ (ih h)
section
variable{N:Nat}{h:Hr}
def Bd.mono{M:Nat}(b:Bd N h)(hm:N<=M):Bd M h:=⟨Nat.le_trans b.cnt hm,b.bp,b.ep⟩
def Bd.begin_(b:Bd N h)(o:Nat):Bd N (h.begin_ o):=⟨by have:=b.cnt;simp[Hr.begin_];omega,by simp[Hr.begin_],by simp[Hr.begin_]⟩
def Bd.keep(b:Bd N h)(num:Nat){p:Pc}(hp:p.2.length<=40):Bd (N+1) (h.keep num p):=by
 unfold Hr.keep;split
 ·refine⟨?_,b.bp,fun q hq=>?_⟩
  ·have:=b.cnt;show h.given.length+h.begun.length+(h.early++_).length<=_;rw[length_append,length_singleton];omega
  ·rcases List.mem_append.mp hq with hq|hq
   ·exact b.ep q hq
   ·rw[List.mem_singleton.mp hq];exact hp
 ·exact b.mono (le_succ _)
def Bd.one(b:Bd N h){p:Pc}(hp:h.early.lookup h.nx=some p):Bd N (h.pop.take p)/\(h.pop.take p).early.length<h.early.length:=by
 have hm:=o0 hp;have JD:(h.early.filter fun e=>decide (e.1≠h.nx)).length<h.early.length:=List.length_filter_lt_length_iff_exists.mpr ⟨_,hm,by simp⟩;have hc:=b.cnt;have Uz:=b.ep _ hm;unfold Hr.take Hr.pop;split
 ·refine⟨⟨?_,by simp,fun q hq=>b.ep q (List.mem_filter.mp hq).1⟩,JD⟩;show(h.given++[_]).length+0+(h.early.filter _).length<=N;rw[length_append,length_singleton];omega
 ·refine⟨⟨?_,fun q hq=>?_,fun q hq=>b.ep q (List.mem_filter.mp hq).1⟩,JD⟩
  ·show h.given.length+(h.begun++[p]).length+(h.early.filter _).length<=N;rw[length_append,length_singleton];omega
  ·rcases List.mem_append.mp hq with hq|hq
   ·exact b.bp q hq
   ·rw[List.mem_singleton.mp hq];exact Uz
theorem Bd.F_:∀{k:Nat}{h:Hr},Bd N h->Bd N (Hr.F_ k h)
 |0,_,b=>b
 |k+1,h,b=>by
  unfold Hr.F_;cases e:h.early.lookup h.nx with
  |none=>exact b
  |some p=>exact Bd.F_ (b.one e).1
end
section
variable{G:Cs}{S S' S1 S2:List Cell}{n g e b e' b' e1 b1 e2 b2:Nat}{h h' h1 h2:Hr}{N:Nat}
def ya(hN:N<=24300):∀(k fuel:Nat) (S:List Cell) (b:Nat) (h:Hr) (x1:Option D),HL G S n g e b h->h.early.length<=k->k<fuel->Bd N h->
  ∃S' b' Q_,cr G fuel [sO n,x1] S=some (.nx [sO n,Q_],S')/\Ii G n g e b S e b' S' (Hr.F_ k h):=by
 intro k
 induction k with
 |zero=>
  intro fuel S b h x1 a hk hf _;obtain⟨f,rfl⟩:∃f,fuel=f+1:=⟨fuel-1,by omega⟩;have he:h.early=[]:=List.length_eq_zero_iff.mp (by omega);have t1:am (g_ rR (aA G.i_ d_ 3 h_) (aA G.i_ d_ 4 h_)) [sO n,x1] S=.ok false S:=by
   refine ay (ar (tU a _) (wJ a _) ?_);simp only[rR,iA,fM a.ea,qx,isSome_map,he];rfl
  refine⟨S,b,x1,?_,Ii.refl a⟩;unfold cr;exact EQ t1
 |succ k ih=>
  intro fuel S b h x1 a hk hf hb;obtain⟨f,rfl⟩:∃f,fuel=f+1:=⟨fuel-1,by omega⟩;have t1:am (g_ rR (aA G.i_ d_ 3 h_) (aA G.i_ d_ 4 h_)) [sO n,x1] S=.ok (h.early.lookup h.nx).isSome S:=by
   refine ay (ar (tU a _) (wJ a _) ?_);simp only[rR,iA,fM a.ea,qx,isSome_map]
  cases hp:h.early.lookup h.nx with
  |none=>
   rw[hp] at t1;refine⟨S,b,x1,?_,?_⟩
   ·unfold cr;exact EQ t1
   ·unfold Hr.F_;rw[hp];exact Ii.refl a
  |some p=>
   rw[hp] at t1;obtain⟨UB,JD⟩:=hb.one hp;have hm:=o0 hp;have p40:=hb.ep _ hm;have hc:=hb.cnt;have q1:zZ wO (aA G.i_ d_ 4 h_) (aa (aA G.i_ d_ 3 h_) ai) [sO n,x1] S=.ok (Hn p) (S.set e (.IT (Nq (h.early.filter fun q=>decide (q.1≠h.nx))))):=by
    refine Em (wJ a _) a.ea (af (tU a _) ah) ?_;simp only[wO,iA,fM a.ea,qx,hp,map_some,Cu]
   have a1:HL G (S.set e (.IT (Nq (h.early.filter fun q=>decide (q.1≠h.nx))))) n g e b { h with early:=h.early.filter fun q=>decide (q.1≠h.nx) }:=
    ⟨cG a.ob a.ne.symm,cG a.gv a.ge.symm,dA a.ea,cG a.be a.eb,a.gb⟩
   obtain⟨S1,NI⟩:∃S1,S.set e (.IT (Nq (h.early.filter fun q=>decide (q.1≠h.nx))))=S1:=⟨_,rfl⟩;have f1:Fr [n,g,e,b] S S1:=by rw[<-NI];exact Fr.set (by simp)
   rw[NI] at q1 a1;obtain⟨S2,q2,c2⟩:=yl (fo:=h_) (fe:=dI 1) (r:=[sO n,some (Hn p)]) (i:=3) rfl a1.ob rfl rfl rfl;have a2:HL G S2 n g e b h.pop:=⟨c2.at_,c2.old a1.gv a.ng,c2.old a1.ea a.ne,c2.old a1.be a.nb,a.gb⟩;have f2:Fr [n,g,e,b] S1 S2:=c2.fp (by simp);obtain⟨S3,b3,q3,c3⟩:=Ci a2 p (by show h.begun.length<_;omega) (by show h.given.length<_;omega) (by
    have:=rG (ps:=h.begun++[p]) fun q hq=>(List.mem_append.mp hq).elim (hb.bp q) fun z=>by rw[List.mem_singleton.mp z];exact p40
    rw[length_append,length_singleton] at this;show(bf (h.begun++[p])).length<=_;omega)
   obtain⟨S4,b4,x4,q4,c4⟩:=ih f S3 b3 _ (some (Hn p)) c3.at_ (by omega) (by omega) UB;refine⟨S4,b4,x4,?_,?_⟩
   ·unfold cr at q4 ⊢;rw[FX t1 (r2:=[sO n,some (Hn p)]) (S2:=S3) ?_]
    ·exact q4
    ·rw[aw (bz q1)];show aI _ _ [sO n,some (Hn p)] S1=_;rw[aw q2,aU (aO rfl a2.ob (af rfl ah) q3)]
   ·have e1:Hr.F_ (k+1) h=Hr.F_ k (h.pop.take p):=by
     rw[Hr.F_,hp]
    rw[e1];exact(Ii.trans ⟨a2,f1.tr f2,.inl rfl,.inl rfl⟩ c3).trans c4
def DJ(a:HL G S n g e b h)(hw:0<h.w)(UC:h.w<=1000):∃S',gE G [.ob n] S=.ok (o_ h.note) S'/\Ii G n g e b S e b S' h:=by
 show ∃S',fin S (iQ G [sO n,none] S)=_/\_;unfold iQ;have q1:=fY (f:=o7 (aA G.i_ d_ 0 h_)) (tg:=gN 0) (ti:=gQ) (fe:=Ta (am (g_ rR (g_ bK (aA G.i_ d_ 3 w_) h_) (aA G.i_ d_ 4 w_))) (dI 1) (dI 0)) (own:=1) (caps:=[0])
  (r:=[sO n,none]) (S:=S) (S1:=S) (w:=⟨eI 0 1 h.w,none⟩) (fun _=>true) (fun x=>match x with
   |.int k=>.int (if (h.early.lookup (h.nx+k.toNat)).isSome then 1 else 0)
   |_=>.G0) (by
   show((aA G.i_ d_ 0 h_ [sO n,none]).bind yI) S=_;rw[au,Bz a];exact uo (by omega)) trivial (by simp[eI];omega) (by
   intro x hx;simp only[eI,mem_map,mem_range] at hx;obtain⟨k,_,rfl⟩:=hx;refine⟨_,rfl,fun _=>rfl,fun _ zs=>?_⟩;have ap:=a.push [.lst zs];have g1:aA G.i_ d_ 3 w_ [sI (0+(k:Int) * 1),sO n] (S++[.lst zs])=.ok (.int (h.nx:Int)) (S++[.lst zs]):=bT rfl ap.ob rfl;have g2:aA G.i_ d_ 4 w_ [sI (0+(k:Int) * 1),sO n] (S++[.lst zs])=.ok (.ob e) (S++[.lst zs]):=bT rfl ap.ob rfl;have g3:am (g_ rR (g_ bK (aA G.i_ d_ 3 w_) h_) (aA G.i_ d_ 4 w_)) [sI (0+(k:Int) * 1),sO n] (S++[.lst zs])=.ok (h.early.lookup (h.nx+k)).isSome (S++[.lst zs]):=by
    refine ay (ar (ar g1 rfl (bS _ _)) g2 ?_);have:(h.nx:Int)+(0+(k:Int) * 1)=((h.nx+k:Nat):Int):=by omega
    rw[this];simp only[rR,iA,fM ap.ea,qx,isSome_map]
   show Ta _ _ _ [sI (0+(k:Int) * 1),sO n] (S++[.lst zs])=_;rw[Fm,au,g3];have hk:(0+(k:Int) * 1).toNat=k:=by omega
   dsimp only;rw[hk];cases(h.early.lookup (h.nx+k)).isSome<;>rfl)
 have Pm:((eI 0 1 h.w).filter fun _=>true).map (fun x=>match x with
   |.int k=>.int (if (h.early.lookup (h.nx+k.toNat)).isSome then 1 else 0)
   |_=>.G0)=h.bits.map D.int:=by
  rw[List.filter_eq_self.mpr (by simp)];unfold eI Hr.bits;rw[map_map,map_map];refine map_congr_left fun k _=>?_
  have hk:(0+(k:Int) * 1).toNat=k:=by omega
  simp only[Function.comp_def,hk]
 rw[Pm] at q1;have ap:=a.push [.lst (h.bits.map D.int)];rw[aw (bz (av (af q1 ah) (d7 (aS rfl))))];show ∃S',fin S (bJ _ [sO n,some (.tup (h.bits.map D.int))] (S++[.lst (h.bits.map D.int)]))=_/\_;rw[aN (bF (af rfl (af (tC ap _) (af (av (af (tU ap _) (af (Bz ap _) ah)) (wV hw _)) (af rfl ah)))) (by simp))];exact⟨_,rfl,(Ii.refl a).push _⟩
def YY(d:D)(xs:List D)(S:List Cell):y_ (.tup (d :: xs)) (.int 0) S=.ok d S:=aR (i:=0) rfl
def Sv:v_->Prop
 |.data _ _ p=>p.2.length<=40
 |_=>True
def Bd.f_{c:v_}(d:Bd N h)(hc:Sv c):Bd (N+1) (h.f_ c).1:=by
 cases c with
 |x_ o=>
  dsimp only[Hr.f_];split
  ·exact d.mono (le_succ _)
  ·split
   ·exact(d.begin_ o).mono (le_succ _)
   ·exact d.mono (le_succ _)
 |data o m p=>
  dsimp only[Hr.f_];split
  ·exact d.mono (le_succ _)
  ·split
   ·exact d.mono (le_succ _)
   ·exact Bd.F_ (d.keep m hc)
 |t_ o=>exact d.mono (le_succ _)
 |Iy o=>exact d.mono (le_succ _)
 |note o j bs=>exact d.mono (le_succ _)
def Fc(h:Hr)(p:Pc):(h.take p).w=h.w:=by unfold Hr.take;split<;>rfl
theorem tD:∀(k:Nat) (h:Hr),(Hr.F_ k h).w=h.w
 |0,_=>rfl
 |k+1,h=>by
  unfold Hr.F_;cases e:h.early.lookup h.nx with
  |none=>rfl
  |some p=>exact(tD k _).trans (Fc _ _)
def Fe(h:Hr)(m:Nat)(p:Pc):(h.keep m p).w=h.w:=by unfold Hr.keep;split<;>rfl
def uL(h:Hr)(m:Nat)(p:Pc):(h.data m p).w=h.w:=(tD _ _).trans (Fe _ _ _)
def Dd(h:Hr)(c:v_):(h.f_ c).1.w=h.w:=by
 cases c with
 |x_ o=>
  dsimp only[Hr.f_];split
  ·rfl
  ·split<;>rfl
 |data o m p=>
  dsimp only[Hr.f_];split
  ·rfl
  ·split
   ·rfl
   ·exact uL h m p
 |_=>rfl
def DR(a:HL G S n g e b h)(hw:0<h.w)(UC:h.w<=1000)(d:Bd N h)(hN:N<24300)(o m:Nat)(p:Pc)(hp:p.2.length<=40) :
  ∃S' e' b' l,cD G [.ob n,.int (o:Int),.int (m:Int),Hn p] S=.ok (.ob l) S'/\Ii G n g e b S e' b' S' (h.f_ (.data o m p)).1/\Out S l S' (h.f_ (.data o m p)).2:=by
 show ∃S' e' b' l,fin S (eh G [sO n,sI (o:Int),sI (m:Int),some (Hn p)] S)=_/\_;unfold eh;have t1:am (g_ JO w_ (aA G.i_ d_ 2 h_)) [sO n,sI (o:Int),sI (m:Int),some (Hn p)] S=.ok (decide (o<h.op)) S:=by
  refine ay (ar rfl (tC a _) ?_);rw[qv];congr 2;rw[decide_eq_decide];omega
 have t2:am (g_ Q0 w_ (aA G.i_ d_ 2 h_)) [sO n,sI (o:Int),sI (m:Int),some (Hn p)] S=.ok (decide (h.op<o)) S:=by
  refine ay (ar rfl (tC a _) ?_);rw[Ew];congr 2;rw[decide_eq_decide];omega
 by_cases c1:o<h.op
 ·have e1:h.f_ (.data o m p)=(h,[]):=by simp[Hr.f_,c1]
  rw[decide_eq_true c1] at t1;rw[di (by rw[aW t1];exact aN (ck ah (by decide))),e1];exact⟨_,e,b,_,rfl,(Ii.refl a).push _,⟨aS rfl,Nat.le_refl _⟩⟩
 ·rw[decide_eq_false c1] at t1;rw[aw (by rw[ax t1];rfl)];by_cases c2:h.op<o
  ·have e1:h.f_ (.data o m p)=(h,[.Iy o]):=by simp[Hr.f_,c1,c2]
   rw[decide_eq_true c2] at t2;rw[di (by rw[aW t2];exact aN (ck (af (bF (af rfl (af rfl ah)) (by simp)) ah) (by simp))),e1];exact⟨_,e,b,_,rfl,(Ii.refl a).push _,⟨aS rfl,Nat.le_refl _⟩⟩
  ·have e1:h.f_ (.data o m p)=(h.data m p,[(h.data m p).note]):=by simp[Hr.f_,c1,c2]
   rw[decide_eq_false c2] at t2;have hc:=d.cnt;have dk:=d.keep m hp;obtain⟨S1,q1,k1⟩:=DM a hw m p (by omega);obtain⟨S2,b2,x2,q2,k2⟩:=ya (G:=G) (n:=n) (g:=g) (e:=e) (N:=N+1) (by omega) (h.keep m p).early.length 1000000 S1 b (h.keep m p) none k1.at_ (Nat.le_refl _) (by have:=dk.cnt;omega) dk;have Wb:dP G [.ob n] S1=.ok .G0 S2:=by
    show fin S1 (cr G 1000000 [sO n,none] S1)=_;rw[q2];rfl
   have PW:Ii G n g e b S1 e b2 S2 (h.data m p):=k2;obtain⟨S3,q3,k3⟩:=DJ PW.at_ (by rw[uL];exact hw) (by rw[uL];exact UC);have YZ:=(k1.trans PW).trans k3;rw[aw (by rw[ax t2];rfl),aw (aU (aO rfl a.ob (af rfl (af rfl ah)) q1)),aw (aU (aO rfl k1.at_.ob ah Wb)),aN (ck (af (aO rfl PW.at_.ob ah q3) ah) (by simp)),e1];exact⟨_,e,b2,_,rfl,YZ.push _,⟨aS rfl,YZ.fr.1⟩⟩
def BI(a:HL G S n g e b h)(hw:0<h.w)(UC:h.w<=1000)(d:Bd N h)(hN:N<24300){c:v_}(hc:Sv c) :
  ∃S' e' b' l,fV G [.ob n,o_ c] S=.ok (.ob l) S'/\Ii G n g e b S e' b' S' (h.f_ c).1/\Out S l S' (h.f_ c).2:=by
 show ∃S' e' b' l,fin S (ik G [sO n,some (o_ c)] S)=_/\_;unfold ik;have Wc:∀{k:Str}{xs:List D},o_ c=.tup (.str k :: xs)->(∀S:List Cell,G_ (.str k) (.str "hello") S=.ok (.bl false) S)->(∀S:List Cell,G_ (.str k) (.str "data") S=.ok (.bl false) S)->h.f_ c=(h,[])->
   ∃S' e' b' l,fin S (aI (HX (am (g_ G_ (g_ y_ w_ (dI 0)) (dT "hello"))) (bJ (aX G.i_ d_ (cx G) h_ (aa (g_ y_ w_ (dI 1)) ai))) bD)
 (aI (HX (am (g_ G_ (g_ y_ w_ (dI 0)) (dT "data"))) (bJ (aX G.i_ d_ (cD G) h_ (aa (g_ y_ w_ (dI 1)) (aa (g_ y_ w_ (dI 2)) (aa (g_ y_ w_ (dI 3)) ai))))) bD)
 (bJ (cg ai))) [sO n,some (o_ c)] S)=.ok (.ob l) S'/\Ii G n g e b S e' b' S' (h.f_ c).1/\Out S l S' (h.f_ c).2:=by
  intro k xs N_ h1 h2 he;rw[N_,aw (by rw[ax (ay (ar (ar rfl rfl (YY _ _ _)) rfl (h1 _)))];rfl),aw (by rw[ax (ay (ar (ar rfl rfl (YY _ _ _)) rfl (h2 _)))];rfl),aN (ck ah (by decide)),he];exact⟨_,e,b,_,rfl,(Ii.refl a).push _,⟨aS rfl,Nat.le_refl _⟩⟩
 cases c with
 |x_ o=>
  obtain⟨S',e',b',l,q,k1,k2⟩:=AA a o;rw[di (by rw[aW (ay (ar (ar rfl rfl rfl) rfl bc))];exact aN (aO rfl a.ob (af (ar rfl rfl rfl) ah) q))];exact⟨S',e',b',l,rfl,k1,k2⟩
 |data o m p=>
  obtain⟨S',e',b',l,q,k1,k2⟩:=DR a hw UC d hN o m p hc;rw[aw (by rw[ax (ay (ar (ar rfl rfl rfl) rfl bc))];rfl),
   di (by rw[aW (ay (ar (ar rfl rfl rfl) rfl bc))];exact aN (aO rfl a.ob (af (ar rfl rfl rfl) (af (ar rfl rfl rfl) (af (ar rfl rfl rfl) ah))) q))]
  exact⟨S',e',b',l,rfl,k1,k2⟩
 |t_ o=>exact Wc (k:="welcome") rfl (fun _=>bc) (fun _=>bc) rfl
 |Iy o=>exact Wc (k:="who") rfl (fun _=>bc) (fun _=>bc) rfl
 |note o m bs=>exact Wc (k:="note") rfl (fun _=>bc) (fun _=>bc) rfl
def Cr(w:Nat)(S:List Cell):∃S' g e b,jf G.i_ (bQ G) [.int (w:Int)] S=.ok (.ob S.length) S'/\HL G S' S.length g e b (Hr.new w)/\Fr [] S S'/\S.length<=g/\S.length<=e/\S.length<=b:=by
 obtain⟨n,hn⟩:∃n,n=S.length:=⟨_,rfl⟩;have s0:(S++[Cell.ins G.i_ [] []])[n]?=some (.ins G.i_ [] []):=aS hn;have q1:=kK (f:="window") (fo:=h_) (fe:=w_) (r:=[sO n,sI (w:Int)]) rfl rfl s0;have s1:=dA (d:=Cell.ins G.i_ ["window"] [.int (w:Int)]) s0;have q2:=kK (f:="given") (fo:=h_) (fe:=cg ai) (r:=[sO n,sI (w:Int)]) (ck ah (by decide)) rfl (aB (G:=[.lst []]) s1);obtain⟨T1,UD⟩:∃T1,(S++[Cell.ins G.i_ [] []]).set n (.ins G.i_ ["window"] [.int (w:Int)])=T1:=⟨_,rfl⟩;have l1:T1.length=S.length+1:=by rw[<-UD];simp
 have f1:Fr [n] S T1:=by rw[<-UD];exact Fr.push.tr (Fr.set (by simp))
 have q1':cN G.i_ [] "window" h_ w_ [sO n,sI (w:Int)] (S++[.ins G.i_ [] []])=some (.nx [sO n,sI (w:Int)],T1):=by rw[q1,<-UD];rfl
 rw[UD] at s1 q2;have s2:=dA (d:=Cell.ins G.i_ ["window","given"] [.int (w:Int),.ob T1.length]) (aB (G:=[.lst []]) s1);obtain⟨T2,NT⟩:∃T2,(T1++[Cell.lst []]).set n (.ins G.i_ ["window","given"] [.int (w:Int),.ob T1.length])=T2:=⟨_,rfl⟩;have l2:T2.length=S.length+2:=by rw[<-NT];simp;omega
 have f2:Fr [n] T1 T2:=by rw[<-NT];exact Fr.push.tr (Fr.set (by simp))
 have g2:T2[T1.length]?=some (.lst []):=by rw[<-NT];exact cG (aS rfl) (by omega)
 have Wb:cN G.i_ ["window"] "given" h_ (cg ai) [sO n,sI (w:Int)] T1=some (.nx [sO n,sI (w:Int)],T2):=by rw[q2,<-NT];rfl
 rw[NT] at s2;have q3:=kK (f:="opening") (fo:=h_) (fe:=dI 0) (r:=[sO n,sI (w:Int)]) rfl rfl s2;have s3:=dA (d:=Cell.ins G.i_ ["window","given","opening"] [.int (w:Int),.ob T1.length,.int 0]) s2;obtain⟨T3,NW⟩:∃T3,T2.set n (.ins G.i_ ["window","given","opening"] [.int (w:Int),.ob T1.length,.int 0])=T3:=⟨_,rfl⟩;have l3:T3.length=S.length+2:=by rw[<-NW];simp;omega
 have f3:Fr [n] T2 T3:=by rw[<-NW];exact Fr.set (by simp)
 have V9:cN G.i_ ["window","given"] "opening" h_ (dI 0) [sO n,sI (w:Int)] T2=some (.nx [sO n,sI (w:Int)],T3):=by rw[q3,<-NW];rfl
 rw[NW] at s3;have q4:=kK (f:="next_index") (fo:=h_) (fe:=dI 0) (r:=[sO n,sI (w:Int)]) rfl rfl s3;have s4:=dA (d:=Cell.ins G.i_ ["window","given","opening","next_index"] [.int (w:Int),.ob T1.length,.int 0,.int 0]) s3;obtain⟨T4,Ss⟩:∃T4,T3.set n (.ins G.i_ ["window","given","opening","next_index"] [.int (w:Int),.ob T1.length,.int 0,.int 0])=T4:=⟨_,rfl⟩;have l4:T4.length=S.length+2:=by rw[<-Ss];simp;omega
 have f4:Fr [n] T3 T4:=by rw[<-Ss];exact Fr.set (by simp)
 have q4':cN G.i_ ["window","given","opening"] "next_index" h_ (dI 0) [sO n,sI (w:Int)] T3=some (.nx [sO n,sI (w:Int)],T4):=by rw[q4,<-Ss];rfl
 rw[Ss] at s4;have q5:=kK (f:="early") (fo:=h_) (fe:=kO) (r:=[sO n,sI (w:Int)]) rfl rfl (aB (G:=[.IT []]) s4);have s5:=dA (d:=Cell.ins G.i_ ["window","given","opening","next_index","early"] [.int (w:Int),.ob T1.length,.int 0,.int 0,.ob T4.length]) (aB (G:=[.IT []]) s4);obtain⟨T5,Tz⟩:∃T5,(T4++[Cell.IT []]).set n (.ins G.i_ ["window","given","opening","next_index","early"] [.int (w:Int),.ob T1.length,.int 0,.int 0,.ob T4.length])=T5:=⟨_,rfl⟩;have l5:T5.length=S.length+3:=by rw[<-Tz];simp;omega
 have f5:Fr [n] T4 T5:=by rw[<-Tz];exact Fr.push.tr (Fr.set (by simp))
 have g5:T5[T4.length]?=some (.IT []):=by rw[<-Tz];exact cG (aS rfl) (by omega)
 have q5':cN G.i_ ["window","given","opening","next_index"] "early" h_ kO [sO n,sI (w:Int)] T4=some (.nx [sO n,sI (w:Int)],T5):=by rw[q5,<-Tz];rfl
 rw[Tz] at s5;have q6:=kK (f:="begun") (fo:=h_) (fe:=cg ai) (r:=[sO n,sI (w:Int)]) (ck ah (by decide)) rfl (aB (G:=[.lst []]) s5);have s6:=dA (d:=Cell.ins G.i_ d_ [.int (w:Int),.ob T1.length,.int 0,.int 0,.ob T4.length,.ob T5.length]) (aB (G:=[.lst []]) s5);have q6':cN G.i_ ["window","given","opening","next_index","early"] "begun" h_ (cg ai) [sO n,sI (w:Int)] T5=some (.nx [sO n,sI (w:Int)],(T5++[Cell.lst []]).set n (.ins G.i_ d_ [.int (w:Int),.ob T1.length,.int 0,.int 0,.ob T4.length,.ob T5.length])):=by rw[q6];rfl
 have f6:Fr [n] T5 ((T5++[Cell.lst []]).set n (.ins G.i_ d_ [.int (w:Int),.ob T1.length,.int 0,.int 0,.ob T4.length,.ob T5.length])):=Fr.push.tr (Fr.set (by simp));have TB:∀m,m≠n->m∉[n]:=fun m hm=>by simpa using hm
 refine⟨(T5++[Cell.lst []]).set n (.ins G.i_ d_ [.int (w:Int),.ob T1.length,.int 0,.int 0,.ob T4.length,.ob T5.length]),T1.length,T4.length,T5.length,?_,?_,?_,by omega,by omega,by omega⟩
 ·unfold jf;rw[<-hn];have:bQ G [.ob n,.int (w:Int)] (S++[.ins G.i_ [] []])=.ok .G0 ((T5++[Cell.lst []]).set n (.ins G.i_ d_ [.int (w:Int),.ob T1.length,.int 0,.int 0,.ob T4.length,.ob T5.length])):=by
   show fin _ (dq G [sO n,sI (w:Int)] _)=_;unfold dq;rw[aw q1',aw Wb,aw V9,aw q4',aw q5',q6'];rfl
  rw[this]
 ·rw[<-hn];refine⟨s6,?_,?_,cG (aS rfl) (by omega),by omega⟩
  ·exact f6.get (f5.get (f4.get (f3.get g2 (TB _ (by omega))) (TB _ (by omega))) (TB _ (by omega))) (TB _ (by omega))
  ·exact f6.get g5 (TB _ (by omega))
 ·exact(((((f1.tr f2).tr f3).tr f4).tr f5).tr f6).mono fun i hi hs=>by
   have:i=n:=by simpa using hi
   omega
end
def ve{S:List Cell}{n:Nat}(is:List Int):pD S (n+2) (.tup (is.map D.int))=some (.tuple (is.map PyData.int)):=mW S n is
def lS(n:Nat)(c:v_):IM n (o_ c):=by
 cases c<;>simp[o_,Hn,IM,jP,dc]
def Fv(S:List Cell)(n:Nat)(q:Nat×HM):∃p,pD S (n+4) (K_ q)=some p:=by
 have:=ve (S:=S) (n:=n+1) q.2;exact⟨_,by simp only[K_,xa,K5,this];simp only[pD];rfl⟩
def UE(ss:List Int):Int:=(ss.zipIdx.map fun p=>((1+p.2:Nat):Int) * p.1).sum
def IK(cs:List Int):List Int:=(cs++[cs.sum % 256])++[UE (cs++[cs.sum % 256]) % 256]
def az:v_->List Int
 |.x_ o=>[0,(o:Int) / 256,(o:Int) % 256]
 |.t_ o=>[1,(o:Int) / 256,(o:Int) % 256]
 |.Iy o=>[2,(o:Int) / 256,(o:Int) % 256]
 |.data o n p=>[3,(o:Int) / 256,(o:Int) % 256,(n:Int),p.1]++p.2
 |.note o n bs=>[4,(o:Int) / 256,(o:Int) % 256,(n:Int)]++bs
def Lp:v_->Prop
 |.x_ o=>o<=65535
 |.t_ o=>o<=65535
 |.Iy o=>o<=65535
 |.data o n p=>o<=65535/\n<=13/\(0<=p.1/\p.1<=1)/\p.2.length<=8/\∀x,x∈p.2->0<=x/\x<=255
 |.note o n bs=>o<=65535/\n<=13/\bs.length<=7/\∀x,x∈bs->0<=x/\x<=1
section
variable{S:List Cell}
def gC{xs ys:List D}(hz:(xs++ys).length<=1000000):bK (.tup xs) (.tup ys) S=.ok (.tup (xs++ys)) S:=vF hz
def Ck(is:List Int):lX [.tup (is.map D.int)] S=.ok (.int is.sum) S:=by
 simp only[lX,gW,gJ]
def Ek{l:Nat}{is:List Int}(h:S[l]?=some (.lst (is.map D.int))):lX [.ob l] S=.ok (.int is.sum) S:=by
 simp only[lX,gW,ca h,gJ]
def oV(cs:List Int)(hl:cs.length<=1000)(S:List Cell):cE [.tup (cs.map D.int)] S=.ok (.tup ((IK cs).map D.int)) S:=by
 show cI S (jn [some (.tup (cs.map D.int)),none,none] S)=_;unfold jn;obtain⟨ss,Wd⟩:∃ss,cs++[cs.sum % 256]=ss:=⟨_,rfl⟩;have Q5:ss.length=cs.length+1:=by rw[<-Wd];simp
 have e1:g_ bK h_ (bY (aa (g_ jT (ak lX (aa h_ ai)) (dI 256)) ai)) [some (.tup (cs.map D.int)),none,none] S=.ok (.tup (ss.map D.int)) S:=by
  refine ar rfl (bF (af (ar (av (af rfl ah) (Ck cs)) rfl (cS (by decide))) ah) (by simp)) ?_;rw[gC (by simp;omega),<-Wd,map_append];rfl
 rw[aw (bz e1)];show cI S (aI _ _ [some (.tup (cs.map D.int)),some (.tup (ss.map D.int)),none] S)=_;have q1:=fY (f:=uE 1 w_) (tg:=gT [0,1]) (ti:=gQ) (fe:=g_ ix h_ w_) (own:=2) (caps:=[])
  (r:=[some (.tup (cs.map D.int)),some (.tup (ss.map D.int)),none]) (S:=S) (S1:=S) (w:=⟨jt 1 (ss.map D.int),none⟩) (fun _=>true) (fun x=>match x with
   |.tup [.int i,.int j]=>.int (i * j)
   |_=>.G0) rfl trivial (by simp[jt];omega) (by
   intro x hx;unfold jt at hx;obtain⟨y,hy,rfl⟩:=List.mem_map.mp hx;rw[List.zipIdx_map] at hy;obtain⟨z,hz,rfl⟩:=List.mem_map.mp hy;have JD:z.2<ss.length:=by
    have:=List.mem_zipIdx hz;omega
   refine⟨_,rfl,fun _=>rfl,fun _ zs=>?_⟩;show g_ ix h_ w_ [sI ((1+z.2:Nat):Int),sI z.1] (S++[.lst zs])=_;exact ar rfl rfl (iD (.inl ⟨by omega,by omega⟩)))
 have hw:((jt 1 (ss.map D.int)).filter fun _=>true).map (fun x=>match x with
   |.tup [.int i,.int j]=>D.int (i * j)
   |_=>.G0)=(ss.zipIdx.map fun p=>((1+p.2:Nat):Int) * p.1).map D.int:=by
  rw[List.filter_eq_self.mpr (by simp)];unfold jt;rw[List.zipIdx_map,map_map,map_map,map_map];rfl
 rw[hw] at q1;rw[aw (bz (av (af q1 ah) (Ek (aS rfl))))];show cI S (bJ _ [some (.tup (cs.map D.int)),some (.tup (ss.map D.int)),sI (UE ss)] (S++[.lst ((ss.zipIdx.map fun p=>((1+p.2:Nat):Int) * p.1).map D.int)]))=_;have e3:g_ bK w_ (bY (aa (g_ jT Hv (dI 256)) ai)) [some (.tup (cs.map D.int)),some (.tup (ss.map D.int)),sI (UE ss)] (S++[.lst ((ss.zipIdx.map fun p=>((1+p.2:Nat):Int) * p.1).map D.int)])=.ok (.tup ((IK cs).map D.int)) (S++[.lst ((ss.zipIdx.map fun p=>((1+p.2:Nat):Int) * p.1).map D.int)]):=by
  refine ar rfl (bF (af (ar rfl rfl (cS (by decide))) ah) (by simp)) ?_;rw[gC (by simp;omega)];unfold IK;rw[Wd,map_append];rfl
 rw[aN e3];exact lQ (by unfold IM;exact dc _ _)
def eP(i top:Int)(S:List Cell):aQ [.int i,.int top] S=.ok (.bl (decide (0<=i) && decide (i<=top))) S:=by
 by_cases h:0<=i
 ·simp[aQ,lv,PR,Sk,zo,h]
 ·simp[aQ,lv,PR,Sk,zo,h]
def uP(is:List Int)(top:Int)(hl:is.length<=1000000)(S:List Cell):cb [.tup (is.map D.int),.int top] S=.ok (.bl (is.all fun i=>decide (0<=i) && decide (i<=top))) S:=by
 show cI S (oU [some (.tup (is.map D.int)),sI top] S)=_;unfold oU;have q1:=fY (f:=Js h_) (tg:=gN 0) (ti:=gQ) (fe:=ak aQ (aa h_ (aa w_ ai))) (own:=1) (caps:=[1])
  (r:=[some (.tup (is.map D.int)),sI top]) (S:=S) (S1:=S) (w:=⟨is.map D.int,none⟩) (fun _=>true) (fun x=>match x with
   |.int i=>.bl (decide (0<=i) && decide (i<=top))
   |_=>.G0) rfl trivial (by simpa using hl) (by
   intro x hx;obtain⟨i,_,rfl⟩:=List.mem_map.mp hx;refine⟨_,rfl,fun _=>rfl,fun _ zs=>?_⟩;show ak _ _ [sI i,sI top] _=_;exact av (af rfl (af rfl ah)) (eP i top _))
 have hw:((is.map D.int).filter fun _=>true).map (fun x=>match x with
   |.int i=>D.bl (decide (0<=i) && decide (i<=top))
   |_=>.G0)=(is.map fun i=>decide (0<=i) && decide (i<=top)).map D.bl:=by
  rw[List.filter_eq_self.mpr (by simp),map_map,map_map];rfl
 rw[hw] at q1;have t1:am (M_ "tuple" h_) [some (.tup (is.map D.int)),sI top] S=.ok true S:=rfl;have t2:kM (M_ "tuple" h_) (ak B4 (aa (eC (Js h_) (gN 0) gQ (ak aQ (aa h_ (aa w_ ai))) 1 [1]) ai)) [some (.tup (is.map D.int)),sI top] S=.ok (.bl (is.all fun i=>decide (0<=i) && decide (i<=top))) (S++[.lst ((is.map fun i=>decide (0<=i) && decide (i<=top)).map D.bl)]):=by
  rw[iy,au,t1];refine av (af q1 ah) ?_;simp only[B4,gW,ca bO,tf,List.all_map];rfl
 rw[aN t2];exact lQ (by simp[IM])
def xT{is:List Int}{top:Int}(hl:is.length<=1000000)(h:∀x,x∈is->0<=x/\x<=top)(S:List Cell):cb [.tup (is.map D.int),.int top] S=.ok (.bl true) S:=by
 rw[uP is top hl];congr 2;rw[all_eq_true];intro x hx;simp[h x hx]
def BF{p:Pc}(h1:0<=p.1/\p.1<=1)(h2:p.2.length<=8)(h3:∀x,x∈p.2->0<=x/\x<=255)(S:List Cell):iP [Hn p] S=.ok (.bl true) S:=by
 show cI S (gM [some (Hn p)] S)=_;unfold gM;have t1:JH (dl (bW (M_ "tuple" h_))) (am (g_ Jp (ak bq (aa h_ ai)) (dI 2))) [some (Hn p)] S=.ok false S:=by
  have u:am (g_ Jp (ak bq (aa h_ ai)) (dI 2)) [some (Hn p)] S=.ok false S:=ay (ar (x:=.int 2) (av (af rfl ah) rfl) rfl (gL 2 2));rw[fz,au,cY,au];exact u
 rw[aw (by rw[ax t1];rfl)];have i0:g_ y_ h_ (dI 0) [some (Hn p)] S=.ok (.int p.1) S:=rfl;have i1:g_ y_ h_ (dI 1) [some (Hn p)] S=.ok (.tup (p.2.map D.int)) S:=rfl;have e1:am (ak aQ (aa (g_ y_ h_ (dI 0)) (aa (dI 1) ai))) [some (Hn p)] S=.ok true S:=by
  refine ay (av (af i0 (af rfl ah)) ?_);rw[eP];simp[h1]
 have e2:am (ak cb (aa (g_ y_ h_ (dI 1)) (aa (dC HC) ai))) [some (Hn p)] S=.ok true S:=ay (av (af i1 (af rfl ah)) (xT (by omega) h3 S));have e3:g_ Om (ak bq (aa (g_ y_ h_ (dI 1)) ai)) (dC HH) [some (Hn p)] S=.ok (.bl true) S:=by
  refine ar (av (af i1 ah) (cn _)) rfl ?_;rw[zR,length_map,decide_eq_true (by omega)]
 rw[aN (d:=.bl true) (S1:=S)]
 ·exact bx (by simp[IM])
 ·rw[iy,au,e1];show kM _ _ _ S=_;rw[iy,au,e2];exact e3
def DT{bs:List Int}(h2:bs.length<=7)(h3:∀x,x∈bs->0<=x/\x<=1)(S:List Cell):iV [.tup (bs.map D.int)] S=.ok (.bl true) S:=by
 show cI S (gX [some (.tup (bs.map D.int))] S)=_;unfold gX;have e2:am (ak cb (aa h_ (aa (dI 1) ai))) [some (.tup (bs.map D.int))] S=.ok true S:=ay (av (af rfl (af rfl ah)) (xT (by omega) h3 S));have e3:g_ Om (ak bq (aa h_ ai)) (dC Jq) [some (.tup (bs.map D.int))] S=.ok (.bl true) S:=by
  refine ar (av (af rfl ah) (cn _)) rfl ?_;rw[zR,length_map,decide_eq_true (by omega)]
 rw[aN (d:=.bl true) (S1:=S)]
 ·exact bx (by simp[IM])
 ·rw[iy,au,e2];exact e3
end
def v_.H_:v_->Nat
 |.x_ o=>o
 |.t_ o=>o
 |.Iy o=>o
 |.data o _ _=>o
 |.note o _ _=>o
def v_.kn:v_->Str
 |.x_ _=>"hello"
 |.t_ _=>"welcome"
 |.Iy _=>"who"
 |.data _ _ _=>"data"
 |.note _ _ _=>"note"
def v_.ki:v_->Nat
 |.x_ _=>0
 |.t_ _=>1
 |.Iy _=>2
 |.data _ _ _=>3
 |.note _ _ _=>4
section
variable{S:List Cell}{G:Cs}
def wX(c:v_)(S:List Cell):y_ (o_ c) (.int 0) S=.ok (.str c.kn) S:=by cases c<;>rfl
def xy(c:v_)(S:List Cell):y_ (o_ c) (.int 1) S=.ok (.int (c.H_:Int)) S:=by cases c<;>rfl
def Lp.op{c:v_}(h:Lp c):c.H_<=65535:=by
 cases c with
 |x_ o=>exact h
 |t_ o=>exact h
 |Iy o=>exact h
 |data o n p=>exact h.1
 |note o n bs=>exact h.1
def nO(c:v_)(S:List Cell):G_ (.str c.kn) (.str "data") S=.ok (.bl (decide (c.ki=3))) S:=by
 cases c with
 |x_ o=>exact(show G_ (.str "hello") (.str "data") S=.ok (.bl false) S from bc)
 |t_ o=>exact(show G_ (.str "welcome") (.str "data") S=.ok (.bl false) S from bc)
 |Iy o=>exact(show G_ (.str "who") (.str "data") S=.ok (.bl false) S from bc)
 |data o n p=>exact(show G_ (.str "data") (.str "data") S=.ok (.bl true) S from bc)
 |note o n bs=>exact(show G_ (.str "note") (.str "data") S=.ok (.bl false) S from bc)
def nV(c:v_)(S:List Cell):G_ (.str c.kn) (.str "note") S=.ok (.bl (decide (c.ki=4))) S:=by
 cases c with
 |x_ o=>exact(show G_ (.str "hello") (.str "note") S=.ok (.bl false) S from bc)
 |t_ o=>exact(show G_ (.str "welcome") (.str "note") S=.ok (.bl false) S from bc)
 |Iy o=>exact(show G_ (.str "who") (.str "note") S=.ok (.bl false) S from bc)
 |data o n p=>exact(show G_ (.str "data") (.str "note") S=.ok (.bl false) S from bc)
 |note o n bs=>exact(show G_ (.str "note") (.str "note") S=.ok (.bl true) S from bc)
def rD(c:v_)(S:List Cell):inD (.str c.kn) eO S=.ok (.bl (decide (c.ki<3))) S:=by
 have h1:Od (.str "hello") [.str "hello",.str "welcome",.str "who"]=true:=by decide +kernel
 have h2:Od (.str "welcome") [.str "hello",.str "welcome",.str "who"]=true:=by decide +kernel
 have h3:Od (.str "who") [.str "hello",.str "welcome",.str "who"]=true:=by decide +kernel
 have h4:Od (.str "data") [.str "hello",.str "welcome",.str "who"]=false:=by decide +kernel
 have h5:Od (.str "note") [.str "hello",.str "welcome",.str "who"]=false:=by decide +kernel
 cases c with
 |x_ o=>show R.ok (D.bl (Od (.str "hello") [.str "hello",.str "welcome",.str "who"])) S=_;rw[h1];rfl
 |t_ o=>show R.ok (D.bl (Od (.str "welcome") [.str "hello",.str "welcome",.str "who"])) S=_;rw[h2];rfl
 |Iy o=>show R.ok (D.bl (Od (.str "who") [.str "hello",.str "welcome",.str "who"])) S=_;rw[h3];rfl
 |data o n p=>show R.ok (D.bl (Od (.str "data") [.str "hello",.str "welcome",.str "who"])) S=_;rw[h4];rfl
 |note o n bs=>show R.ok (D.bl (Od (.str "note") [.str "hello",.str "welcome",.str "who"])) S=_;rw[h5];rfl
def DQ(c:v_)(S:List Cell):Am (JA.map D.str) (.str c.kn) S=.ok (.int (c.ki:Int)) S:=by
 have h1:qt (.str "hello") [.str "hello",.str "welcome",.str "who",.str "data",.str "note"]=some 0:=by decide +kernel
 have h2:qt (.str "welcome") [.str "hello",.str "welcome",.str "who",.str "data",.str "note"]=some 1:=by decide +kernel
 have h3:qt (.str "who") [.str "hello",.str "welcome",.str "who",.str "data",.str "note"]=some 2:=by decide +kernel
 have h4:qt (.str "data") [.str "hello",.str "welcome",.str "who",.str "data",.str "note"]=some 3:=by decide +kernel
 have h5:qt (.str "note") [.str "hello",.str "welcome",.str "who",.str "data",.str "note"]=some 4:=by decide +kernel
 have e:Qc (JA.map D.str)=some [.str "hello",.str "welcome",.str "who",.str "data",.str "note"]:=rfl;unfold Am;cases c<;>simp only[v_.kn,v_.ki,fv,e,h1,h2,h3,h4,h5]<;>rfl
def yk{c:v_}(h:Lp c)(S:List Cell):cU [o_ c] S=.ok (.bl true) S:=by
 show cI S (fj [some (o_ c)] S)=_;unfold fj;have Na:=h.op;have ht:Sk S (o_ c)=some "tuple":=by cases c<;>rfl
 have i1:g_ y_ h_ (dI 1) [some (o_ c)] S=.ok (.int (c.H_:Int)) S:=ar rfl rfl (xy c S);have i0:g_ y_ h_ (dI 0) [some (o_ c)] S=.ok (.str c.kn) S:=ar rfl rfl (wX c S);have len:ak bq (aa h_ ai) [some (o_ c)] S=.ok (.int (if c.ki<3 then 2 else 4)) S:=by
  refine av (af rfl ah) ?_;cases c<;>rfl
 have tt:bW (M_ "tuple" h_) [some (o_ c)] S=.ok true S:=by
  show((PR "tuple" (o_ c)).bind uW) S=_;rw[au];simp only[PR,ht];rfl
 have t1:JH (dl (bW (M_ "tuple" h_))) (JH (am (g_ JO (ak bq (aa h_ ai)) (dI 2))) (dl (bW (ak aQ (aa (g_ y_ h_ (dI 1)) (aa (dC Hy) ai)))))) [some (o_ c)] S=.ok false S:=by
  have u1:am (g_ JO (ak bq (aa h_ ai)) (dI 2)) [some (o_ c)] S=.ok false S:=by
   refine ay (ar len rfl ?_);rw[qv,decide_eq_false (by split<;>omega)]
  have u2:bW (ak aQ (aa (g_ y_ h_ (dI 1)) (aa (dC Hy) ai))) [some (o_ c)] S=.ok true S:=by
   rw[cX,au,av (af i1 (af rfl ah)) (eP (c.H_:Int) 65535 S),decide_eq_true (show(0:Int)<=(c.H_:Int) by omega),decide_eq_true (show(c.H_:Int)<=65535 by omega)];rfl
  rw[fz,au,cY,au,tt];show JH _ _ _ S=_;rw[fz,au,u1];show dl _ _ S=_;rw[cY,au,u2];rfl
 have t2:am (g_ inD (g_ y_ h_ (dI 0)) (dC eO)) [some (o_ c)] S=.ok (decide (c.ki<3)) S:=ay (ar i0 rfl (rD c S));rw[aw (by rw[ax t1];rfl)];by_cases hk:c.ki<3
 ·rw[decide_eq_true hk] at t2;rw[di (by rw[aW t2];exact aN (d:=.bl true) (ar len rfl (by rw[if_pos hk,gO];rfl)))];exact bx (by simp[IM])
 ·rw[decide_eq_false hk] at t2;rw[aw (by rw[ax t2];rfl)];have t5:am (g_ Jp (ak bq (aa h_ ai)) (dI 4)) [some (o_ c)] S=.ok false S:=ay (ar len rfl (by rw[if_neg hk,gL];rfl));have t6:am (g_ G_ (g_ y_ h_ (dI 0)) (dT "data")) [some (o_ c)] S=.ok (decide (c.ki=3)) S:=ay (ar i0 rfl (nO c S));have t7:am (g_ G_ (g_ y_ h_ (dI 0)) (dT "note")) [some (o_ c)] S=.ok (decide (c.ki=4)) S:=ay (ar i0 rfl (nV c S));cases c with
  |x_ o=>exact absurd (show 0<3 by decide) hk
  |t_ o=>exact absurd (show 1<3 by decide) hk
  |Iy o=>exact absurd (show 2<3 by decide) hk
  |data o n p=>
   obtain⟨h1,h2,h3,h4,h5⟩:=h;have i2:g_ y_ h_ (dI 2) [some (o_ (.data o n p))] S=.ok (.int (n:Int)) S:=rfl;have i3:g_ y_ h_ (dI 3) [some (o_ (.data o n p))] S=.ok (Hn p) S:=rfl;have u2:bW (ak aQ (aa (g_ y_ h_ (dI 2)) (aa (dC Hf) ai))) [some (o_ (.data o n p))] S=.ok true S:=by
    rw[cX,au,av (af i2 (af rfl ah)) (eP (n:Int) 13 S),decide_eq_true (show(0:Int)<=(n:Int) by omega),decide_eq_true (show(n:Int)<=13 by omega)];rfl
   have t8:JH (am (g_ Jp (ak bq (aa h_ ai)) (dI 4))) (dl (bW (ak aQ (aa (g_ y_ h_ (dI 2)) (aa (dC Hf) ai))))) [some (o_ (.data o n p))] S=.ok false S:=by
    rw[fz,au,t5];show dl _ _ S=_;rw[cY,au,u2];rfl
   rw[aw (by rw[ax t8];rfl),di (by rw[aW t6];exact aN (av (af i3 ah) (BF h3 h4 h5 S)))];exact bx (by simp[IM])
  |note o n bs=>
   obtain⟨h1,h2,h4,h5⟩:=h;have i2:g_ y_ h_ (dI 2) [some (o_ (.note o n bs))] S=.ok (.int (n:Int)) S:=rfl;have i3:g_ y_ h_ (dI 3) [some (o_ (.note o n bs))] S=.ok (.tup (bs.map D.int)) S:=rfl;have u2:bW (ak aQ (aa (g_ y_ h_ (dI 2)) (aa (dC Hf) ai))) [some (o_ (.note o n bs))] S=.ok true S:=by
    rw[cX,au,av (af i2 (af rfl ah)) (eP (n:Int) 13 S),decide_eq_true (show(0:Int)<=(n:Int) by omega),decide_eq_true (show(n:Int)<=13 by omega)];rfl
   have t8:JH (am (g_ Jp (ak bq (aa h_ ai)) (dI 4))) (dl (bW (ak aQ (aa (g_ y_ h_ (dI 2)) (aa (dC Hf) ai))))) [some (o_ (.note o n bs))] S=.ok false S:=by
    rw[fz,au,t5];show dl _ _ S=_;rw[cY,au,u2];rfl
   rw[aw (by rw[ax t8];rfl),aw (by rw[ax t6];rfl),aN (d:=.bl true) (S1:=S)]
   ·exact bx (by simp[IM])
   ·rw[iy,au,t7];exact av (af i3 ah) (DT h4 h5 S)
def gj{c:v_}(h:Lp c):3<=(az c).length/\(az c).length<=13:=by
 cases c with
 |x_ o=>exact⟨by simp[az],by simp[az]⟩
 |t_ o=>exact⟨by simp[az],by simp[az]⟩
 |Iy o=>exact⟨by simp[az],by simp[az]⟩
 |data o n p=>obtain⟨h1,h2,h3,h4,h5⟩:=h;exact⟨by simp[az],by simp[az];omega⟩
 |note o n bs=>obtain⟨h1,h2,h4,h5⟩:=h;exact⟨by simp[az],by simp[az];omega⟩
def Bs{c:v_}(h:Lp c)(S:List Cell):kF [o_ c] S=.ok (.tup ((az c).map D.int)) S:=by
 show cI S (lu [some (o_ c),none] S)=_;unfold lu;have i1:g_ y_ h_ (dI 1) [some (o_ c),none] S=.ok (.int (c.H_:Int)) S:=ar rfl rfl (xy c S);have i0:∀r,g_ y_ h_ (dI 0) (some (o_ c) :: r) S=.ok (.str c.kn) S:=fun r=>ar rfl rfl (wX c S)
 have kx:nj ez (aa (g_ y_ h_ (dI 0)) ai) [some (o_ c),none] S=.ok (.int (c.ki:Int)) S:=by
  unfold nj;rw[au,af (i0 _) ah];exact DQ c S
 rw[aw (bz (bF (af kx (af (ar i1 rfl (qg ⟨by decide,by decide⟩)) (af (ar i1 rfl (cS (by decide))) ah))) (by simp)))];show cI S (aI _ _ [some (o_ c),some (.tup [.int (c.ki:Int),.int ((c.H_:Int) / 256),.int ((c.H_:Int) % 256)])] S)=_;have t6:am (g_ G_ (g_ y_ h_ (dI 0)) (dT "data")) [some (o_ c),some (.tup [.int (c.ki:Int),.int ((c.H_:Int) / 256),.int ((c.H_:Int) % 256)])] S=.ok (decide (c.ki=3)) S:=ay (ar (i0 _) rfl (nO c S));have t7:am (g_ G_ (g_ y_ h_ (dI 0)) (dT "note")) [some (o_ c),some (.tup [.int (c.ki:Int),.int ((c.H_:Int) / 256),.int ((c.H_:Int) % 256)])] S=.ok (decide (c.ki=4)) S:=ay (ar (i0 _) rfl (nV c S));cases c with
 |x_ o=>
  rw[aw (by rw[ax t6];rfl),aw (by rw[ax t7];rfl),aN rfl];exact bx (by simp[IM,jP])
 |t_ o=>
  rw[aw (by rw[ax t6];rfl),aw (by rw[ax t7];rfl),aN rfl];exact bx (by simp[IM,jP])
 |Iy o=>
  rw[aw (by rw[ax t6];rfl),aw (by rw[ax t7];rfl),aN rfl];exact bx (by simp[IM,jP])
 |data o n p=>
  obtain⟨h1,h2,h3,h4,h5⟩:=h;have e1:g_ bK (g_ bK w_ (bY (aa (g_ y_ h_ (dI 2)) (aa (g_ y_ (g_ y_ h_ (dI 3)) (dI 0)) ai)))) (g_ y_ (g_ y_ h_ (dI 3)) (dI 1)) [some (o_ (.data o n p)),some (.tup [.int ((3:Nat):Int),.int ((o:Int) / 256),.int ((o:Int) % 256)])] S=.ok (.tup ((az (.data o n p)).map D.int)) S:=by
   refine ar (ar rfl (bF (af (x:=.int (n:Int)) rfl (af (x:=.int p.1) rfl ah)) (by simp)) (gC (by simp))) (y:=.tup (p.2.map D.int)) rfl ?_;rw[gC (by simp;omega)];rfl
  rw[di (by rw[aW t6];exact aN e1)];exact bx (by unfold IM;exact dc _ _)
 |note o n bs=>
  obtain⟨h1,h2,h4,h5⟩:=h;have e1:g_ bK (g_ bK w_ (bY (aa (g_ y_ h_ (dI 2)) ai))) (g_ y_ h_ (dI 3)) [some (o_ (.note o n bs)),some (.tup [.int ((4:Nat):Int),.int ((o:Int) / 256),.int ((o:Int) % 256)])] S=.ok (.tup ((az (.note o n bs)).map D.int)) S:=by
   refine ar (ar rfl (bF (af (x:=.int (n:Int)) rfl ah) (by simp)) (gC (by simp))) (y:=.tup (bs.map D.int)) rfl ?_;rw[gC (by simp;omega)];rfl
  rw[aw (by rw[ax t6];rfl),di (by rw[aW t7];exact aN e1)];exact bx (by unfold IM;exact dc _ _)
def xb{c:v_}(h:Lp c)(S:List Cell):jX G [o_ c] S=.ok (.tup ((IK (az c)).map D.int)) S:=by
 show cI S (mQ G [some (o_ c)] S)=_;unfold mQ;have t1:dl (bW (ak cU (aa h_ ai))) [some (o_ c)] S=.ok false S:=by
  rw[cY,au,cX,au,av (af rfl ah) (yk h S)];rfl
 have hl:=gj h;rw[aw (by rw[ax t1];rfl),aN (av (af (av (af rfl ah) (Bs h S)) ah) (oV _ (by omega) S))];exact bx (by unfold IM;exact dc _ _)
def tR{xs:List D}(h:2<=xs.length):gg xs none (some (-2))=xs.take (xs.length-2):=by
 unfold gg;have e:HT.Ik xs.length xs.length (some (-2))=xs.length-2:=by
  unfold HT.Ik;simp only[];split<;>omega
 rw[HT.KJ,e];simp
def Gs(c:v_)(S:List Cell):y_ (.tup ((az c).map D.int)) (.int 0) S=.ok (.int (c.ki:Int)) S:=aR (i:=0) (by cases c<;>rfl)
def Gn(c:v_)(S:List Cell):y_ (.tup ((az c).map D.int)) (.int 1) S=.ok (.int ((c.H_:Int) / 256)) S:=aR (i:=1) (by cases c<;>rfl)
def Gi(c:v_)(S:List Cell):y_ (.tup ((az c).map D.int)) (.int 2) S=.ok (.int ((c.H_:Int) % 256)) S:=aR (i:=2) (by cases c<;>rfl)
def CZ{c:v_}(h:Lp c)(S:List Cell):gR [.tup ((az c).map D.int)] S=.ok (o_ c) S:=by
 show cI S (fW [some (.tup ((az c).map D.int)),none,none,none] S)=_;unfold fW;have Na:=h.op;have e1:g_ y_ (dC ez) (g_ y_ h_ (dI 0)) [some (.tup ((az c).map D.int)),none,none,none] S=.ok (.str c.kn) S:=ar rfl (ar rfl rfl (Gs c S)) (aR (i:=c.ki) (by cases c<;>rfl));have e2:g_ bK (g_ ix (g_ y_ h_ (dI 1)) (dI 256)) (g_ y_ h_ (dI 2)) [some (.tup ((az c).map D.int)),sS c.kn,none,none] S=.ok (.int (c.H_:Int)) S:=by
  have i1:g_ y_ h_ (dI 1) [some (.tup ((az c).map D.int)),sS c.kn,none,none] S=.ok (.int ((c.H_:Int) / 256)) S:=ar rfl rfl (Gn c S);have i2:g_ y_ h_ (dI 2) [some (.tup ((az c).map D.int)),sS c.kn,none,none] S=.ok (.int ((c.H_:Int) % 256)) S:=ar rfl rfl (Gi c S);refine ar (ar i1 rfl (iD (.inr ⟨by decide,by decide⟩))) i2 ?_;rw[bS];congr 2;omega
 rw[aw (bz e1)];show cI S (aI _ _ [some (.tup ((az c).map D.int)),sS c.kn,none,none] S)=_;rw[aw (bz e2)];show cI S (aI _ _ [some (.tup ((az c).map D.int)),sS c.kn,sI (c.H_:Int),none] S)=_;have hl:=gj h;have e3:JT Jd h_ (bL (dC Hg)) bV [some (.tup ((az c).map D.int)),sS c.kn,sI (c.H_:Int),none] S=.ok (.tup (((az c).drop 3).map D.int)) S:=by
  simp only[li,jI,getElem?_cons_succ,getElem?_cons_zero,au,el,kP,eU,fX,uU,Jd];rw[show(3:Int)=((3:Nat):Int) from rfl,gp (by rw[length_map];omega),<-map_drop]
 rw[aw (bz e3)];show cI S (aI _ _ [some (.tup ((az c).map D.int)),sS c.kn,sI (c.H_:Int),some (.tup (((az c).drop 3).map D.int))] S)=_;have t6:am (g_ G_ w_ (dT "data")) [some (.tup ((az c).map D.int)),sS c.kn,sI (c.H_:Int),some (.tup (((az c).drop 3).map D.int))] S=.ok (decide (c.ki=3)) S:=ay (ar rfl rfl (nO c S));have t7:am (g_ G_ w_ (dT "note")) [some (.tup ((az c).map D.int)),sS c.kn,sI (c.H_:Int),some (.tup (((az c).drop 3).map D.int))] S=.ok (decide (c.ki=4)) S:=ay (ar rfl rfl (nV c S));have sh:∀{r:tB},am (g_ G_ w_ (dT "data")) r S=.ok false S->am (g_ G_ w_ (dT "note")) r S=.ok false S->
   aI (HX (dg (am (g_ G_ w_ (dT "data"))) (am (g_ Lm (ak bq (aa Hk ai)) (dI 2)))) (bJ (bY (aa w_ (aa Hv (aa (g_ y_ Hk (dI 0)) (aa (bY (aa (g_ y_ Hk (dI 1)) (aa (JT Jd Hk (bL (dI 2)) bV) ai))) ai)))))) bD)
    (aI (HX (dg (am (g_ G_ w_ (dT "note"))) (am (g_ Lm (ak bq (aa Hk ai)) (dI 1)))) (bJ (bY (aa w_ (aa Hv (aa (g_ y_ Hk (dI 0)) (aa (JT Jd Hk (bL (dI 1)) bV) ai)))))) bD)
    (bJ (g_ bK (bY (aa w_ (aa Hv ai))) Hk))) r S=bJ (g_ bK (bY (aa w_ (aa Hv ai))) Hk) r S:=by
  intro r a b;rw[aw (by rw[ax (by rw[cR,au,a];rfl)];rfl),aw (by rw[ax (by rw[cR,au,b];rfl)];rfl)]
 cases c with
 |x_ o=>
  rw[sh t6 t7,aN (ar (bF (af rfl (af rfl ah)) (by simp)) rfl (gC (by simp[az])))];exact bx (lS _ (.x_ o))
 |t_ o=>
  rw[sh t6 t7,aN (ar (bF (af rfl (af rfl ah)) (by simp)) rfl (gC (by simp[az])))];exact bx (lS _ (.t_ o))
 |Iy o=>
  rw[sh t6 t7,aN (ar (bF (af rfl (af rfl ah)) (by simp)) rfl (gC (by simp[az])))];exact bx (lS _ (.Iy o))
 |data o n p=>
  obtain⟨h1,h2,h3,h4,h5⟩:=h;have We:(az (.data o n p)).drop 3=(n:Int) :: p.1 :: p.2:=rfl;rw[We] at t6 ⊢;have g1:am (g_ Lm (ak bq (aa Hk ai)) (dI 2)) [some (.tup ((az (.data o n p)).map D.int)),sS (v_.data o n p).kn,sI ((v_.data o n p).H_:Int),some (.tup (((n:Int) :: p.1 :: p.2).map D.int))] S=.ok true S:=by
   refine ay (ar (av (af rfl ah) (cn _)) rfl ?_);rw[wH,decide_eq_true (by simp;omega)]
  have g2:JT Jd Hk (bL (dI 2)) bV [some (.tup ((az (.data o n p)).map D.int)),sS (v_.data o n p).kn,sI ((v_.data o n p).H_:Int),some (.tup (((n:Int) :: p.1 :: p.2).map D.int))] S=.ok (.tup (p.2.map D.int)) S:=by
   simp only[li,jI,getElem?_cons_succ,getElem?_cons_zero,au,el,kP,eU,fX,uU,Jd];rw[show(2:Int)=((2:Nat):Int) from rfl,gp (by simp)];rfl
  rw[di (by rw[aW (by rw[cR,au,t6];exact g1)];exact aN (bF (af rfl (af rfl (af (x:=.int (n:Int)) (ar rfl rfl (aR (i:=0) rfl)) (af (bF (af (x:=.int p.1) (ar rfl rfl (aR (i:=1) rfl)) (af g2 ah)) (by simp)) ah)))) (by simp)))];exact bx (lS _ (.data o n p))
 |note o n bs=>
  obtain⟨h1,h2,h4,h5⟩:=h;have We:(az (.note o n bs)).drop 3=(n:Int) :: bs:=rfl;rw[We] at t6 t7 ⊢;have g1:am (g_ Lm (ak bq (aa Hk ai)) (dI 1)) [some (.tup ((az (.note o n bs)).map D.int)),sS (v_.note o n bs).kn,sI ((v_.note o n bs).H_:Int),some (.tup (((n:Int) :: bs).map D.int))] S=.ok true S:=by
   refine ay (ar (av (af rfl ah) (cn _)) rfl ?_);rw[wH,decide_eq_true (by simp;omega)]
  have g2:JT Jd Hk (bL (dI 1)) bV [some (.tup ((az (.note o n bs)).map D.int)),sS (v_.note o n bs).kn,sI ((v_.note o n bs).H_:Int),some (.tup (((n:Int) :: bs).map D.int))] S=.ok (.tup (bs.map D.int)) S:=by
   simp only[li,jI,getElem?_cons_succ,getElem?_cons_zero,au,el,kP,eU,fX,uU,Jd];rw[show(1:Int)=((1:Nat):Int) from rfl,gp (by simp)];rfl
  rw[aw (by rw[ax (by rw[cR,au,t6];rfl)];rfl),di (by rw[aW (by rw[cR,au,t7];exact g1)];exact aN (bF (af rfl (af rfl (af (x:=.int (n:Int)) (ar rfl rfl (aR (i:=0) rfl)) (af g2 ah)))) (by simp)))];exact bx (lS _ (.note o n bs))
def tq{c:v_}(h:Lp c):∀x,x∈az c->0<=x/\x<=255:=by
 have Na:=h.op;intro x hx;cases c with
 |x_ o=>have:o<=65535:=Na;simp[az] at hx;omega
 |t_ o=>have:o<=65535:=Na;simp[az] at hx;omega
 |Iy o=>have:o<=65535:=Na;simp[az] at hx;omega
 |data o n p=>
  obtain⟨h1,h2,h3,h4,h5⟩:=h;simp[az] at hx;rcases hx with hx|hx|hx|hx|hx|hx
  ·omega
  ·omega
  ·omega
  ·omega
  ·omega
  ·exact h5 x hx
 |note o n bs=>
  obtain⟨h1,h2,h4,h5⟩:=h;simp[az] at hx;rcases hx with hx|hx|hx|hx|hx
  ·omega
  ·omega
  ·omega
  ·omega
  ·have:=h5 x hx;omega
def AZ{cs:List Int}(h:∀x,x∈cs->0<=x/\x<=255):∀x,x∈IK cs->0<=x/\x<=255:=by
 intro x hx;unfold IK at hx;rcases List.mem_append.mp hx with hx|hx
 ·rcases List.mem_append.mp hx with hx|hx
  ·exact h x hx
  ·rw[List.mem_singleton.mp hx];omega
 ·rw[List.mem_singleton.mp hx];omega
def nc(cs:List Int):(IK cs).length=cs.length+2:=by simp[IK]
def nF(cs:List Int):(IK cs).take cs.length=cs:=by
 unfold IK;rw[append_assoc];exact List.take_left
def Da{c:v_}(h:Lp c)(S:List Cell):kX G [.tup ((IK (az c)).map D.int)] S=.ok (o_ c) S:=by
 show cI S (nJ G [some (.tup ((IK (az c)).map D.int)),none,none] S)=_;unfold nJ;have hl:=gj h;have OS:=nc (az c);have u1:bW (ak cb (aa h_ (aa (dC HC) ai))) [some (.tup ((IK (az c)).map D.int)),none,none] S=.ok true S:=by
  rw[cX,au,av (af rfl (af rfl ah)) (xT (by omega) (AZ (tq h)) S)];rfl
 have u2:am (g_ JO (ak bq (aa h_ ai)) (g_ bK (dC Hg) (dC G8))) [some (.tup ((IK (az c)).map D.int)),none,none] S=.ok false S:=by
  refine ay (ar (av (af rfl ah) (cn _)) (ar rfl rfl (bS _ _)) ?_);rw[qv,length_map,decide_eq_false (by omega)]
 have u3:am (g_ Lm (g_ y_ h_ (dI 0)) (ak bq (aa (dC ez) ai))) [some (.tup ((IK (az c)).map D.int)),none,none] S=.ok false S:=by
  have i0:g_ y_ h_ (dI 0) [some (.tup ((IK (az c)).map D.int)),none,none] S=.ok (.int (c.ki:Int)) S:=ar rfl rfl (aR (i:=0) (by cases c<;>rfl));have hk:c.ki<=4:=by cases c<;>simp[v_.ki]
  refine ay (ar i0 (av (af rfl ah) (cn _)) ?_);rw[wH,decide_eq_false];show ¬((5:Int)<=(c.ki:Int));omega
 have t1:JH (dl (bW (ak cb (aa h_ (aa (dC HC) ai))))) (JH (am (g_ JO (ak bq (aa h_ ai)) (g_ bK (dC Hg) (dC G8)))) (am (g_ Lm (g_ y_ h_ (dI 0)) (ak bq (aa (dC ez) ai))))) [some (.tup ((IK (az c)).map D.int)),none,none] S=.ok false S:=by
  rw[fz,au,cY,au,u1];show JH _ _ _ S=_;rw[fz,au,u2];exact u3
 rw[aw (by rw[ax t1];rfl)];have e1:JT Jd h_ bV (bL (Sm Dk (dC G8))) [some (.tup ((IK (az c)).map D.int)),none,none] S=.ok (.tup ((az c).map D.int)) S:=by
  have RS:gg ((IK (az c)).map D.int) none (some (-2))=(az c).map D.int:=by
   rw[tR (by rw[length_map];omega),length_map,OS,<-map_take,show(az c).length+2-2=(az c).length by omega,nF]
  show R.ok (D.tup (gg ((IK (az c)).map D.int) none (some (-2)))) S=_;rw[RS]
 rw[aw (bz e1)];show cI S (aI _ _ [some (.tup ((IK (az c)).map D.int)),some (.tup ((az c).map D.int)),none] S)=_;have t2:am (g_ Jp h_ (ak cE (aa w_ ai))) [some (.tup ((IK (az c)).map D.int)),some (.tup ((az c).map D.int)),none] S=.ok false S:=
  ay (ar rfl (av (af rfl ah) (oV _ (by omega) S)) (yD (ve (n:=28) (IK (az c))) (ve (n:=28) (IK (az c)))))
 rw[aw (by rw[ax t2];rfl),aw (bz (av (af rfl ah) (CZ h S)))];show cI S (aI _ _ [some (.tup ((IK (az c)).map D.int)),some (.tup ((az c).map D.int)),some (o_ c)] S)=_;have t3:dl (bW (ak cU (aa Hv ai))) [some (.tup ((IK (az c)).map D.int)),some (.tup ((az c).map D.int)),some (o_ c)] S=.ok false S:=by
  rw[cY,au,cX,au,av (af rfl ah) (yk h S)];rfl
 rw[aw (by rw[ax t3];rfl),aN rfl];exact bx (lS _ c)
def BT(p:Pc)(hl:p.2.length<=1000)(S:List Cell):iP [Hn p] S=.ok (.bl (decide (0<=p.1/\p.1<=1) && (p.2.all fun i=>decide (0<=i) && decide (i<=255)) && decide (p.2.length<=8))) S:=by
 show cI S (gM [some (Hn p)] S)=_;unfold gM;have t1:JH (dl (bW (M_ "tuple" h_))) (am (g_ Jp (ak bq (aa h_ ai)) (dI 2))) [some (Hn p)] S=.ok false S:=by
  have u:am (g_ Jp (ak bq (aa h_ ai)) (dI 2)) [some (Hn p)] S=.ok false S:=ay (ar (x:=.int 2) (av (af rfl ah) rfl) rfl (gL 2 2));rw[fz,au,cY,au];exact u
 rw[aw (by rw[ax t1];rfl)];have i0:g_ y_ h_ (dI 0) [some (Hn p)] S=.ok (.int p.1) S:=rfl;have i1:g_ y_ h_ (dI 1) [some (Hn p)] S=.ok (.tup (p.2.map D.int)) S:=rfl;have e1:am (ak aQ (aa (g_ y_ h_ (dI 0)) (aa (dI 1) ai))) [some (Hn p)] S=.ok (decide (0<=p.1) && decide (p.1<=1)) S:=ay (av (af i0 (af rfl ah)) (eP _ _ S));have e2:am (ak cb (aa (g_ y_ h_ (dI 1)) (aa (dC HC) ai))) [some (Hn p)] S=.ok (p.2.all fun i=>decide (0<=i) && decide (i<=255)) S:=ay (av (af i1 (af rfl ah)) (uP _ _ (by omega) S));have e3:g_ Om (ak bq (aa (g_ y_ h_ (dI 1)) ai)) (dC HH) [some (Hn p)] S=.ok (.bl (decide (p.2.length<=8))) S:=by
  refine ar (av (af i1 ah) (cn _)) rfl ?_;rw[zR,length_map];congr 2;rw[decide_eq_decide];omega
 obtain⟨b2,Qm⟩:∃b2,(p.2.all fun i=>decide (0<=i) && decide (i<=255))=b2:=⟨_,rfl⟩;rw[Qm] at e2 ⊢;have hd:decide (0<=p.1/\p.1<=1)=(decide (0<=p.1) && decide (p.1<=1)):=by simp
 rw[hd];obtain⟨b1,Ql⟩:∃b1,(decide (0<=p.1) && decide (p.1<=1))=b1:=⟨_,rfl⟩;rw[Ql] at e1 ⊢;rw[aN (d:=.bl (b1 && b2 && decide (p.2.length<=8))) (S1:=S)]
 ·exact bx (by simp[IM])
 ·rw[iy,au,e1];cases b1 with
  |false=>rfl
  |true=>
   show kM _ _ _ S=_;rw[iy,au,e2];cases b2 with
   |false=>rfl
   |true=>exact e3
def CN(bs:List Int)(hl:bs.length<=1000)(S:List Cell):iV [.tup (bs.map D.int)] S=.ok (.bl ((bs.all fun i=>decide (0<=i) && decide (i<=1)) && decide (bs.length<=7))) S:=by
 show cI S (gX [some (.tup (bs.map D.int))] S)=_;unfold gX;have e2:am (ak cb (aa h_ (aa (dI 1) ai))) [some (.tup (bs.map D.int))] S=.ok (bs.all fun i=>decide (0<=i) && decide (i<=1)) S:=ay (av (af rfl (af rfl ah)) (uP _ _ (by omega) S));have e3:g_ Om (ak bq (aa h_ ai)) (dC Jq) [some (.tup (bs.map D.int))] S=.ok (.bl (decide (bs.length<=7))) S:=by
  refine ar (av (af rfl ah) (cn _)) rfl ?_;rw[zR,length_map];congr 2;rw[decide_eq_decide];omega
 obtain⟨b2,Qm⟩:∃b2,(bs.all fun i=>decide (0<=i) && decide (i<=1))=b2:=⟨_,rfl⟩;rw[Qm] at e2 ⊢;rw[aN (d:=.bl (b2 && decide (bs.length<=7))) (S1:=S)]
 ·exact bx (by simp[IM])
 ·rw[iy,au,e2];cases b2 with
  |false=>rfl
  |true=>exact e3
def N2{l:List Int}{t:Int}:(l.all fun i=>decide (0<=i) && decide (i<=t))=true↔∀x,x∈l->0<=x/\x<=t:=by
 rw[all_eq_true];constructor
 ·intro h x hx;have:=h x hx;simp at this;exact this
 ·intro h x hx;simp[h x hx]
def yn{c:v_}(Na:c.H_<=65535)(hz:∀o n p,c=.data o n p->p.2.length<=1000)(YD:∀o n bs,c=.note o n bs->bs.length<=1000)(h:¬Lp c)(S:List Cell):cU [o_ c] S=.ok (.bl false) S:=by
 show cI S (fj [some (o_ c)] S)=_;unfold fj;have ht:Sk S (o_ c)=some "tuple":=by cases c<;>rfl
 have i1:g_ y_ h_ (dI 1) [some (o_ c)] S=.ok (.int (c.H_:Int)) S:=ar rfl rfl (xy c S);have i0:g_ y_ h_ (dI 0) [some (o_ c)] S=.ok (.str c.kn) S:=ar rfl rfl (wX c S);have len:ak bq (aa h_ ai) [some (o_ c)] S=.ok (.int (if c.ki<3 then 2 else 4)) S:=by
  refine av (af rfl ah) ?_;cases c<;>rfl
 have tt:bW (M_ "tuple" h_) [some (o_ c)] S=.ok true S:=by
  show((PR "tuple" (o_ c)).bind uW) S=_;rw[au];simp only[PR,ht];rfl
 have t1:JH (dl (bW (M_ "tuple" h_))) (JH (am (g_ JO (ak bq (aa h_ ai)) (dI 2))) (dl (bW (ak aQ (aa (g_ y_ h_ (dI 1)) (aa (dC Hy) ai)))))) [some (o_ c)] S=.ok false S:=by
  have u1:am (g_ JO (ak bq (aa h_ ai)) (dI 2)) [some (o_ c)] S=.ok false S:=by
   refine ay (ar len rfl ?_);rw[qv,decide_eq_false (by split<;>omega)]
  have u2:bW (ak aQ (aa (g_ y_ h_ (dI 1)) (aa (dC Hy) ai))) [some (o_ c)] S=.ok true S:=by
   rw[cX,au,av (af i1 (af rfl ah)) (eP (c.H_:Int) 65535 S),decide_eq_true (show(0:Int)<=(c.H_:Int) by omega),decide_eq_true (show(c.H_:Int)<=65535 by omega)];rfl
  rw[fz,au,cY,au,tt];show JH _ _ _ S=_;rw[fz,au,u1];show dl _ _ S=_;rw[cY,au,u2];rfl
 have t2:am (g_ inD (g_ y_ h_ (dI 0)) (dC eO)) [some (o_ c)] S=.ok (decide (c.ki<3)) S:=ay (ar i0 rfl (rD c S));rw[aw (by rw[ax t1];rfl)];have t6:am (g_ G_ (g_ y_ h_ (dI 0)) (dT "data")) [some (o_ c)] S=.ok (decide (c.ki=3)) S:=ay (ar i0 rfl (nO c S));have t7:am (g_ G_ (g_ y_ h_ (dI 0)) (dT "note")) [some (o_ c)] S=.ok (decide (c.ki=4)) S:=ay (ar i0 rfl (nV c S));cases c with
 |x_ o=>exact absurd Na h
 |t_ o=>exact absurd Na h
 |Iy o=>exact absurd Na h
 |data o n p=>
  rw[aw (by rw[ax t2];rfl)];have t5:am (g_ Jp (ak bq (aa h_ ai)) (dI 4)) [some (o_ (.data o n p))] S=.ok false S:=ay (ar len rfl (gL 4 4));have i2:g_ y_ h_ (dI 2) [some (o_ (.data o n p))] S=.ok (.int (n:Int)) S:=rfl;have i3:g_ y_ h_ (dI 3) [some (o_ (.data o n p))] S=.ok (Hn p) S:=rfl;have u2:bW (ak aQ (aa (g_ y_ h_ (dI 2)) (aa (dC Hf) ai))) [some (o_ (.data o n p))] S=.ok (decide (n<=13)) S:=by
   rw[cX,au,av (af i2 (af rfl ah)) (eP (n:Int) 13 S),decide_eq_true (show(0:Int)<=(n:Int) by omega)];show R.ok (true && decide ((n:Int)<=13)) S=_;rw[Bool.true_and];congr 1;rw[decide_eq_decide];omega
  have t8:JH (am (g_ Jp (ak bq (aa h_ ai)) (dI 4))) (dl (bW (ak aQ (aa (g_ y_ h_ (dI 2)) (aa (dC Hf) ai))))) [some (o_ (.data o n p))] S=.ok (!decide (n<=13)) S:=by
   rw[fz,au,t5];show dl _ _ S=_;rw[cY,au,u2];rfl
  by_cases hn:n<=13
  ·rw[decide_eq_true hn] at t8;have hp:=BT p (hz o n p rfl) S;have hf:(decide (0<=p.1/\p.1<=1) && (p.2.all fun i=>decide (0<=i) && decide (i<=255)) && decide (p.2.length<=8))=false:=by
    rw[<-not_eq_true];intro z;simp only[and_eq_true,decide_eq_true_eq] at z;exact h ⟨Na,hn,z.1.1,z.2,N2.mp z.1.2⟩
   rw[hf] at hp;rw[aw (by rw[ax t8];rfl),di (by rw[aW t6];exact aN (av (af i3 ah) hp))];exact bx (by simp[IM])
  ·rw[decide_eq_false hn] at t8;rw[di (by rw[aW t8];exact aN rfl)];exact bx (by simp[IM])
 |note o n bs=>
  rw[aw (by rw[ax t2];rfl)];have t5:am (g_ Jp (ak bq (aa h_ ai)) (dI 4)) [some (o_ (.note o n bs))] S=.ok false S:=ay (ar len rfl (gL 4 4));have i2:g_ y_ h_ (dI 2) [some (o_ (.note o n bs))] S=.ok (.int (n:Int)) S:=rfl;have i3:g_ y_ h_ (dI 3) [some (o_ (.note o n bs))] S=.ok (.tup (bs.map D.int)) S:=rfl;have u2:bW (ak aQ (aa (g_ y_ h_ (dI 2)) (aa (dC Hf) ai))) [some (o_ (.note o n bs))] S=.ok (decide (n<=13)) S:=by
   rw[cX,au,av (af i2 (af rfl ah)) (eP (n:Int) 13 S),decide_eq_true (show(0:Int)<=(n:Int) by omega)];show R.ok (true && decide ((n:Int)<=13)) S=_;rw[Bool.true_and];congr 1;rw[decide_eq_decide];omega
  have t8:JH (am (g_ Jp (ak bq (aa h_ ai)) (dI 4))) (dl (bW (ak aQ (aa (g_ y_ h_ (dI 2)) (aa (dC Hf) ai))))) [some (o_ (.note o n bs))] S=.ok (!decide (n<=13)) S:=by
   rw[fz,au,t5];show dl _ _ S=_;rw[cY,au,u2];rfl
  by_cases hn:n<=13
  ·rw[decide_eq_true hn] at t8;have hp:=CN bs (YD o n bs rfl) S;have hf:((bs.all fun i=>decide (0<=i) && decide (i<=1)) && decide (bs.length<=7))=false:=by
    rw[<-not_eq_true];intro z;simp only[and_eq_true,decide_eq_true_eq] at z;exact h ⟨Na,hn,z.2,N2.mp z.1⟩
   rw[hf] at hp;rw[aw (by rw[ax t8];rfl),aw (by rw[ax t6];rfl),aN (d:=.bl false) (S1:=S)]
   ·exact bx (by simp[IM])
   ·rw[iy,au,t7];exact av (af i3 ah) hp
  ·rw[decide_eq_false hn] at t8;rw[di (by rw[aW t8];exact aN rfl)];exact bx (by simp[IM])
def eD:Nat->Nat->v_
 |0,o=>.x_ o
 |1,o=>.t_ o
 |2,o=>.Iy o
 |3,o=>.data o 0 (0,[])
 |_,o=>.note o 0 []
def vU{k:Nat}(h:k<=4)(o:Nat):(eD k o).ki=k:=by
 match k,h with
 |0,_=>rfl
 |1,_=>rfl
 |2,_=>rfl
 |3,_=>rfl
 |4,_=>rfl
def AF{k:Nat}(h:k<=4)(o:Nat)(S:List Cell):y_ ez (.int (k:Int)) S=.ok (.str (eD k o).kn) S:=by
 match k,h with
 |0,_=>exact aR (i:=0) rfl
 |1,_=>exact aR (i:=1) rfl
 |2,_=>exact aR (i:=2) rfl
 |3,_=>exact aR (i:=3) rfl
 |4,_=>exact aR (i:=4) rfl
def gU(k o:Nat)(rest:List Int):D:=.tup (.str (eD k o).kn :: .int (o:Int) :: rest.map D.int)
def CB{k o:Nat}(hk:k<=4)(ho:o<=65535){rest:List Int}(h:(k<3/\rest≠[])\/(3<=k/\rest.length≠2))(S:List Cell):cU [gU k o rest] S=.ok (.bl false) S:=by
 show cI S (fj [some (gU k o rest)] S)=_;unfold fj;have UG:=vU hk o;have i1:g_ y_ h_ (dI 1) [some (gU k o rest)] S=.ok (.int (o:Int)) S:=ar rfl rfl (aR (i:=1) rfl);have i0:g_ y_ h_ (dI 0) [some (gU k o rest)] S=.ok (.str (eD k o).kn) S:=ar rfl rfl (aR (i:=0) rfl);have len:ak bq (aa h_ ai) [some (gU k o rest)] S=.ok (.int ((rest.length+2:Nat):Int)) S:=by
  refine av (af rfl ah) ?_;unfold gU;rw[cn];congr 2;simp;omega
 have tt:bW (M_ "tuple" h_) [some (gU k o rest)] S=.ok true S:=rfl;have t1:JH (dl (bW (M_ "tuple" h_))) (JH (am (g_ JO (ak bq (aa h_ ai)) (dI 2))) (dl (bW (ak aQ (aa (g_ y_ h_ (dI 1)) (aa (dC Hy) ai)))))) [some (gU k o rest)] S=.ok false S:=by
  have u1:am (g_ JO (ak bq (aa h_ ai)) (dI 2)) [some (gU k o rest)] S=.ok false S:=by
   refine ay (ar len rfl ?_);rw[qv,decide_eq_false (by omega)]
  have u2:bW (ak aQ (aa (g_ y_ h_ (dI 1)) (aa (dC Hy) ai))) [some (gU k o rest)] S=.ok true S:=by
   rw[cX,au,av (af i1 (af rfl ah)) (eP (o:Int) 65535 S),decide_eq_true (show(0:Int)<=(o:Int) by omega),decide_eq_true (show(o:Int)<=65535 by omega)];rfl
  rw[fz,au,cY,au,tt];show JH _ _ _ S=_;rw[fz,au,u1];show dl _ _ S=_;rw[cY,au,u2];rfl
 have t2:am (g_ inD (g_ y_ h_ (dI 0)) (dC eO)) [some (gU k o rest)] S=.ok (decide (k<3)) S:=by
  have:=rD (eD k o) S;rw[UG] at this;exact ay (ar i0 rfl this)
 rw[aw (by rw[ax t1];rfl)];by_cases Y0:k<3
 ·rw[decide_eq_true Y0] at t2;have hr:rest≠[]:=by
   rcases h with h|h
   ·exact h.2
   ·omega
  have hl:0<rest.length:=List.length_pos_iff.mpr hr;rw[di (by rw[aW t2];exact aN (d:=.bl false) (ar len rfl (by rw[gO,decide_eq_false (by omega)])))];exact bx (by simp[IM])
 ·rw[decide_eq_false Y0] at t2;rw[aw (by rw[ax t2];rfl)];have hr:rest.length≠2:=by
   rcases h with h|h
   ·omega
   ·exact h.2
  have t5:am (g_ Jp (ak bq (aa h_ ai)) (dI 4)) [some (gU k o rest)] S=.ok true S:=ay (ar len rfl (by rw[gL,decide_eq_false (by omega)];rfl));have t8:JH (am (g_ Jp (ak bq (aa h_ ai)) (dI 4))) (dl (bW (ak aQ (aa (g_ y_ h_ (dI 2)) (aa (dC Hf) ai))))) [some (gU k o rest)] S=.ok true S:=by
   rw[fz,au,t5];rfl
  rw[di (by rw[aW t8];exact aN rfl)];exact bx (by simp[IM])
def pv(k o:Nat)(rest:List Int):D:=match k,rest with
 |3,n :: f :: l=>.tup [.str "data",.int (o:Int),.int n,.tup [.int f,.tup (l.map D.int)]]
 |4,n :: bs=>.tup [.str "note",.int (o:Int),.int n,.tup (bs.map D.int)]
 |k,rest=>gU k o rest
def uw(z k o:Nat)(rest:List Int):IM z (pv k o rest):=by
 unfold pv;split<;>simp[gU,IM,jP,dc]
def AI{k hi lo:Nat}(hk:k<=4){rest:List Int}(hr:rest.length<=1000)(S:List Cell) :
  gR [.tup (((k:Int) :: (hi:Int) :: (lo:Int) :: rest).map D.int)] S=.ok (pv k (hi * 256+lo) rest) S:=by
 obtain⟨o,ho⟩:∃o,hi * 256+lo=o:=⟨_,rfl⟩;rw[ho];obtain⟨cs,NC⟩:∃cs,(k:Int) :: (hi:Int) :: (lo:Int) :: rest=cs:=⟨_,rfl⟩;rw[NC];have g0:∀S,y_ (.tup (cs.map D.int)) (.int 0) S=.ok (.int (k:Int)) S:=fun S=>by rw[<-NC];exact aR (i:=0) rfl
 have g1:∀S,y_ (.tup (cs.map D.int)) (.int 1) S=.ok (.int (hi:Int)) S:=fun S=>by rw[<-NC];exact aR (i:=1) rfl
 have g2:∀S,y_ (.tup (cs.map D.int)) (.int 2) S=.ok (.int (lo:Int)) S:=fun S=>by rw[<-NC];exact aR (i:=2) rfl
 have TF:cs.drop 3=rest:=by rw[<-NC];rfl
 have OS:3<=cs.length:=by rw[<-NC];simp
 show cI S (fW [some (.tup (cs.map D.int)),none,none,none] S)=_;unfold fW;have e1:g_ y_ (dC ez) (g_ y_ h_ (dI 0)) [some (.tup (cs.map D.int)),none,none,none] S=.ok (.str (eD k o).kn) S:=ar rfl (ar rfl rfl (g0 S)) (AF hk o S);have e2:g_ bK (g_ ix (g_ y_ h_ (dI 1)) (dI 256)) (g_ y_ h_ (dI 2)) [some (.tup (cs.map D.int)),sS (eD k o).kn,none,none] S=.ok (.int (o:Int)) S:=by
  refine ar (ar (ar rfl rfl (g1 S)) rfl (iD (.inr ⟨by decide,by decide⟩))) (ar rfl rfl (g2 S)) ?_;rw[bS];congr 2;omega
 rw[aw (bz e1)];show cI S (aI _ _ [some (.tup (cs.map D.int)),sS (eD k o).kn,none,none] S)=_;rw[aw (bz e2)];show cI S (aI _ _ [some (.tup (cs.map D.int)),sS (eD k o).kn,sI (o:Int),none] S)=_;have e3:JT Jd h_ (bL (dC Hg)) bV [some (.tup (cs.map D.int)),sS (eD k o).kn,sI (o:Int),none] S=.ok (.tup (rest.map D.int)) S:=by
  simp only[li,jI,getElem?_cons_succ,getElem?_cons_zero,au,el,kP,eU,fX,uU,Jd];rw[show(3:Int)=((3:Nat):Int) from rfl,gp (by rw[length_map];omega),<-map_drop,TF]
 rw[aw (bz e3)];show cI S (aI _ _ [some (.tup (cs.map D.int)),sS (eD k o).kn,sI (o:Int),some (.tup (rest.map D.int))] S)=_;have UG:=vU hk o;have t6:am (g_ G_ w_ (dT "data")) [some (.tup (cs.map D.int)),sS (eD k o).kn,sI (o:Int),some (.tup (rest.map D.int))] S=.ok (decide (k=3)) S:=by
  have:=nO (eD k o) S;rw[UG] at this;exact ay (ar rfl rfl this)
 have t7:am (g_ G_ w_ (dT "note")) [some (.tup (cs.map D.int)),sS (eD k o).kn,sI (o:Int),some (.tup (rest.map D.int))] S=.ok (decide (k=4)) S:=by
  have:=nV (eD k o) S;rw[UG] at this;exact ay (ar rfl rfl this)
 have n2:am (g_ Lm (ak bq (aa Hk ai)) (dI 2)) [some (.tup (cs.map D.int)),sS (eD k o).kn,sI (o:Int),some (.tup (rest.map D.int))] S=.ok (decide (2<=rest.length)) S:=by
  refine ay (ar (av (af rfl ah) (cn _)) rfl ?_);rw[wH,length_map];congr 2;rw[decide_eq_decide];omega
 have n1:am (g_ Lm (ak bq (aa Hk ai)) (dI 1)) [some (.tup (cs.map D.int)),sS (eD k o).kn,sI (o:Int),some (.tup (rest.map D.int))] S=.ok (decide (1<=rest.length)) S:=by
  refine ay (ar (av (af rfl ah) (cn _)) rfl ?_);rw[wH,length_map];congr 2;rw[decide_eq_decide];omega
 have t9:dg (am (g_ G_ w_ (dT "data"))) (am (g_ Lm (ak bq (aa Hk ai)) (dI 2))) [some (.tup (cs.map D.int)),sS (eD k o).kn,sI (o:Int),some (.tup (rest.map D.int))] S=.ok (decide (k=3) && decide (2<=rest.length)) S:=by
  rw[cR,au,t6];cases decide (k=3) with
  |false=>rfl
  |true=>exact n2
 have UH:dg (am (g_ G_ w_ (dT "note"))) (am (g_ Lm (ak bq (aa Hk ai)) (dI 1))) [some (.tup (cs.map D.int)),sS (eD k o).kn,sI (o:Int),some (.tup (rest.map D.int))] S=.ok (decide (k=4) && decide (1<=rest.length)) S:=by
  rw[cR,au,t7];cases decide (k=4) with
  |false=>rfl
  |true=>exact n1
 have last:bJ (g_ bK (bY (aa w_ (aa Hv ai))) Hk) [some (.tup (cs.map D.int)),sS (eD k o).kn,sI (o:Int),some (.tup (rest.map D.int))] S=some (.rt (gU k o rest),S):=
  aN (ar (bF (af rfl (af rfl ah)) (by simp)) rfl (gC (by simp;omega)))
 by_cases h3:k=3/\2<=rest.length
 ·obtain⟨rfl,hl⟩:=h3
  match rest,hl with
  |n :: f :: l,_=>
   rw[decide_eq_true (show(3:Nat)=3 from rfl),decide_eq_true (show 2<=(n :: f :: l).length by simp)] at t9;have c2:JT Jd Hk (bL (dI 2)) bV [some (.tup (cs.map D.int)),sS (eD 3 o).kn,sI (o:Int),some (.tup ((n :: f :: l).map D.int))] S=.ok (.tup (l.map D.int)) S:=by
    simp only[li,jI,getElem?_cons_succ,getElem?_cons_zero,au,el,kP,eU,fX,uU,Jd];rw[show(2:Int)=((2:Nat):Int) from rfl,gp (by simp)];rfl
   rw[di (by rw[aW t9];exact aN (bF (af rfl (af rfl (af (x:=.int n) (ar rfl rfl (aR (i:=0) rfl)) (af (bF (af (x:=.int f) (ar rfl rfl (aR (i:=1) rfl)) (af c2 ah)) (by simp)) ah)))) (by simp)))];exact bx (uw S.length 3 o (n :: f :: l))
 ·have f9:(decide (k=3) && decide (2<=rest.length))=false:=by
   rw[<-not_eq_true];simpa using h3
  rw[f9] at t9;rw[aw (by rw[ax t9];rfl)];by_cases h4:k=4/\1<=rest.length
  ·obtain⟨rfl,hl⟩:=h4
   match rest,hl with
   |n :: bs,_=>
    rw[decide_eq_true (show(4:Nat)=4 from rfl),decide_eq_true (show 1<=(n :: bs).length by simp)] at UH;have c2:JT Jd Hk (bL (dI 1)) bV [some (.tup (cs.map D.int)),sS (eD 4 o).kn,sI (o:Int),some (.tup ((n :: bs).map D.int))] S=.ok (.tup (bs.map D.int)) S:=by
     simp only[li,jI,getElem?_cons_succ,getElem?_cons_zero,au,el,kP,eU,fX,uU,Jd];rw[show(1:Int)=((1:Nat):Int) from rfl,gp (by simp)];rfl
    rw[di (by rw[aW UH];exact aN (bF (af rfl (af rfl (af (x:=.int n) (ar rfl rfl (aR (i:=0) rfl)) (af c2 ah)))) (by simp)))];exact bx (uw S.length 4 o (n :: bs))
  ·have TH:(decide (k=4) && decide (1<=rest.length))=false:=by
    rw[<-not_eq_true];simpa using h4
   rw[TH] at UH;rw[aw (by rw[ax UH];rfl),last];have:pv k o rest=gU k o rest:=by
    unfold pv;split
    ·exact absurd ⟨rfl,by simp⟩ h3
    ·exact absurd ⟨rfl,by simp⟩ h4
    ·rfl
   rw[this];exact bx (by rw[<-this];exact uw _ _ _ _)
def Dn{k hi lo:Nat}(hk:k<=4)(V8:hi<=255)(SX:lo<=255){rest:List Int}(hr:rest.length<=1000)(Kn:∀x,x∈rest->0<=x)(Ob:∀c,Lp c->az c≠(k:Int) :: (hi:Int) :: (lo:Int) :: rest)(S:List Cell) :
  cU [pv k (hi * 256+lo) rest] S=.ok (.bl false) S:=by
 obtain⟨o,ho⟩:∃o,hi * 256+lo=o:=⟨_,rfl⟩;have Pn:o<=65535:=by omega
 have hd:((o:Int) / 256)=hi/\((o:Int) % 256)=lo:=by omega
 rw[ho];unfold pv;split
 ·rename_i n f l;have hn:=Kn n (by simp);have Qf:(n.toNat:Int)=n:=Int.toNat_of_nonneg hn;have:=yn (c:=.data o n.toNat (f,l)) Pn (fun a b p e=>by cases e;simp at hr ⊢;omega) (fun a b p e=>by cases e) (fun z=>Ob _ z (by simp[az,hd,Qf])) S;have e:o_ (.data o n.toNat (f,l))=.tup [.str "data",.int (o:Int),.int n,.tup [.int f,.tup (l.map D.int)]]:=by simp only[o_,Hn,Qf]
  rw[e] at this;exact this
 ·rename_i n bs;have hn:=Kn n (by simp);have Qf:(n.toNat:Int)=n:=Int.toNat_of_nonneg hn;have:=yn (c:=.note o n.toNat bs) Pn (fun a b p e=>by cases e) (fun a b p e=>by cases e;simp at hr ⊢;omega) (fun z=>Ob _ z (by simp[az,hd,Qf])) S;have e:o_ (.note o n.toNat bs)=.tup [.str "note",.int (o:Int),.int n,.tup (bs.map D.int)]:=by simp only[o_,Qf]
  rw[e] at this;exact this
 ·rename_i h3 h4;refine CB hk Pn ?_ S
  match k,hk with
  |0,_=>exact .inl ⟨by decide,fun z=>Ob (.x_ o) Pn (by simp[az,hd,z])⟩
  |1,_=>exact .inl ⟨by decide,fun z=>Ob (.t_ o) Pn (by simp[az,hd,z])⟩
  |2,_=>exact .inl ⟨by decide,fun z=>Ob (.Iy o) Pn (by simp[az,hd,z])⟩
  |3,_=>exact .inr ⟨by decide,fun z=>by
    match rest,z with
    |[n,f],_=>exact h3 n f [] rfl rfl⟩
  |4,_=>exact .inr ⟨by decide,fun z=>by
    match rest,z with
    |[n,f],_=>exact h4 n [f] rfl rfl⟩
def DI{xs:List Int}(hl:xs.length<=1000)(h:∀c,Lp c->IK (az c)≠xs)(S:List Cell):kX G [.tup (xs.map D.int)] S=.exc G.Ig S:=by
 show cI S (nJ G [some (.tup (xs.map D.int)),none,none] S)=_;unfold nJ;have u1:bW (ak cb (aa h_ (aa (dC HC) ai))) [some (.tup (xs.map D.int)),none,none] S=.ok (xs.all fun i=>decide (0<=i) && decide (i<=255)) S:=by
  rw[cX,au,av (af rfl (af rfl ah)) (uP xs 255 (by omega) S)];rfl
 have u2:am (g_ JO (ak bq (aa h_ ai)) (g_ bK (dC Hg) (dC G8))) [some (.tup (xs.map D.int)),none,none] S=.ok (decide (xs.length<5)) S:=by
  refine ay (ar (av (af rfl ah) (cn _)) (ar rfl rfl (bS _ _)) ?_);rw[qv,length_map];congr 2;rw[decide_eq_decide];omega
 have La:∀{t:Hd},JH (dl (bW (ak cb (aa h_ (aa (dC HC) ai))))) (JH (am (g_ JO (ak bq (aa h_ ai)) (g_ bK (dC Hg) (dC G8)))) (am (g_ Lm (g_ y_ h_ (dI 0)) (ak bq (aa (dC ez) ai))))) [some (.tup (xs.map D.int)),none,none] S=.ok true S->
   cI S (aI (HX (JH (dl (bW (ak cb (aa h_ (aa (dC HC) ai))))) (JH (am (g_ JO (ak bq (aa h_ ai)) (g_ bK (dC Hg) (dC G8)))) (am (g_ Lm (g_ y_ h_ (dI 0)) (ak bq (aa (dC ez) ai)))))) (oq G.Ig (dT "these are not the cells of a strip")) bD) t [some (.tup (xs.map D.int)),none,none] S)=.exc G.Ig S:=by
  intro t a;rw[rf,aW a];rfl
 cases RT:(xs.all fun i=>decide (0<=i) && decide (i<=255)) with
 |false=>
  rw[RT] at u1;refine La ?_;rw[fz,au,cY,au,u1];rfl
 |true=>
  rw[RT] at u1;have Kn:=N2.mp RT;by_cases h5:xs.length<5
  ·rw[decide_eq_true h5] at u2;refine La ?_;rw[fz,au,cY,au,u1];show JH _ _ _ S=_;rw[fz,au,u2];rfl
  ·rw[decide_eq_false h5] at u2
   match xs,h5,hl,h,Kn,u1,u2,@La with
   |k :: hi :: lo :: a :: b :: tl,_,hl,h,Kn,u1,u2,La=>
    obtain⟨xs,RU⟩:∃xs,k :: hi :: lo :: a :: b :: tl=xs:=⟨_,rfl⟩;have hk0:=Kn k (by simp);have hhi0:=Kn hi (by simp);have hlo0:=Kn lo (by simp);have Y1:5<=xs.length:=by rw[<-RU];simp
    have i0:g_ y_ h_ (dI 0) [some (.tup (xs.map D.int)),none,none] S=.ok (.int k) S:=by rw[<-RU];exact ar rfl rfl (aR (i:=0) rfl)
    rw[RU] at hl h Kn u1 u2 La ⊢;have u3:am (g_ Lm (g_ y_ h_ (dI 0)) (ak bq (aa (dC ez) ai))) [some (.tup (xs.map D.int)),none,none] S=.ok (decide (5<=k)) S:=ay (ar i0 (av (af rfl ah) (cn _)) (wH _ _));have t1:JH (dl (bW (ak cb (aa h_ (aa (dC HC) ai))))) (JH (am (g_ JO (ak bq (aa h_ ai)) (g_ bK (dC Hg) (dC G8)))) (am (g_ Lm (g_ y_ h_ (dI 0)) (ak bq (aa (dC ez) ai))))) [some (.tup (xs.map D.int)),none,none] S=.ok (decide (5<=k)) S:=by
     rw[fz,au,cY,au,u1];show JH _ _ _ S=_;rw[fz,au,u2];exact u3
    by_cases Y2:5<=k
    ·rw[decide_eq_true Y2] at t1;exact La t1
    ·rw[decide_eq_false Y2] at t1;rw[aw (by rw[ax t1];rfl)];obtain⟨cs,NC⟩:∃cs,xs.take (xs.length-2)=cs:=⟨_,rfl⟩;have e1:JT Jd h_ bV (bL (Sm Dk (dC G8))) [some (.tup (xs.map D.int)),none,none] S=.ok (.tup (cs.map D.int)) S:=by
      show R.ok (D.tup (gg (xs.map D.int) none (some (-2)))) S=_;rw[tR (by rw[length_map];omega),length_map,<-map_take,NC]
     rw[aw (bz e1)];show cI S (aI _ _ [some (.tup (xs.map D.int)),some (.tup (cs.map D.int)),none] S)=_;have TJ:cs.length=xs.length-2:=by rw[<-NC,length_take];omega
     have t2:am (g_ Jp h_ (ak cE (aa w_ ai))) [some (.tup (xs.map D.int)),some (.tup (cs.map D.int)),none] S=.ok (!decide (xs=IK cs)) S:=
      ay (ar rfl (av (af rfl ah) (oV _ (by omega) S)) (By S xs (IK cs)))
     by_cases Wf:xs=IK cs
     ·rw[decide_eq_true Wf] at t2;rw[aw (by rw[ax t2];rfl)];obtain⟨kN,hkN⟩:∃kN:Nat,k=kN:=⟨k.toNat,by omega⟩;obtain⟨hN,hhN⟩:∃hN:Nat,hi=hN:=⟨hi.toNat,by omega⟩;obtain⟨lN,hlN⟩:∃lN:Nat,lo=lN:=⟨lo.toNat,by omega⟩;subst hkN hhN hlN;obtain⟨rest,Ou⟩:∃rest,cs=(kN:Int) :: (hN:Int) :: (lN:Int) :: rest:=by
       rw[<-NC,<-RU];exact⟨(a :: b :: tl).take (tl.length),by simp⟩
      have Y3:rest.length<=1000:=by rw[Ou] at TJ;simp at TJ;omega
      have Wg:∀x,x∈rest->0<=x:=fun x hx=>(Kn x (by
       have:x∈cs:=by rw[Ou];simp[hx]
       rw[<-NC] at this;exact mem_of_mem_take this)).1
      have fg:=AI (k:=kN) (hi:=hN) (lo:=lN) (by omega) Y3 S;have fn:=Dn (k:=kN) (hi:=hN) (lo:=lN) (by omega) (by omega) (by omega) Y3 Wg (fun c hc z=>h c hc (by rw[z,<-Ou];exact Wf.symm)) S;rw[<-Ou] at fg;obtain⟨dd,hdd⟩:∃dd,pv kN (hN * 256+lN) rest=dd:=⟨_,rfl⟩;rw[hdd] at fg fn;rw[aw (bz (av (af rfl ah) fg))];show cI S (aI _ _ [some (.tup (xs.map D.int)),some (.tup (cs.map D.int)),some dd] S)=_;have t3:dl (bW (ak cU (aa Hv ai))) [some (.tup (xs.map D.int)),some (.tup (cs.map D.int)),some dd] S=.ok true S:=by
       rw[cY,au,cX,au,av (af rfl ah) fn];rfl
      rw[rf,aW t3];rfl
     ·rw[decide_eq_false Wf] at t2;rw[rf,aW t2];rfl
end
def yv{xs cs:List Int}(h:xs=IK cs):cs=xs.take (xs.length-2)/\xs[xs.length-2]?=some (cs.sum % 256)/\xs[xs.length-1]?=some (UE (cs++[cs.sum % 256]) % 256)/\xs.length=cs.length+2:=by
 have hl:=nc cs;rw[<-h] at hl;refine⟨?_,?_,?_,hl⟩
 ·rw[show xs.length-2=cs.length by omega,h,nF]
 ·rw[show xs.length-2=cs.length by omega,h];unfold IK;rw[append_assoc,getElem?_append_right (Nat.le_refl _)];simp
 ·rw[show xs.length-1=cs.length+1 by omega,h];unfold IK;rw[getElem?_append_right (by simp)];simp
theorem yM:∀{l:List Int}{i:Nat}{a v:Int},l[i]?=some a->(l.set i v).sum=l.sum-a+v
 |[],_,_,_,h=>by simp at h
 |x :: l,0,a,v,h=>by
  simp at h;subst h;simp only[List.set_cons_zero,sum_cons];omega
 |x :: l,i+1,a,v,h=>by
  have:=yM (l:=l) (i:=i) (a:=a) (v:=v) (by simpa using h);simp only[List.set_cons_succ,sum_cons,this];omega
def ET{cs:List Int}{i:Nat}{a v:Int}(ha:(IK cs)[i]?=some a)(hv:¬(v-a) % 256=0):∀UI,IK UI≠(IK cs).set i v:=by
 intro UI h;obtain⟨n,hn⟩:∃n,cs.length=n:=⟨_,rfl⟩;obtain⟨h1,h2,h3,h4⟩:=yv h.symm;obtain⟨g1,g2,g3,g4⟩:=yv (rfl:IK cs=IK cs);rw[length_set,g4] at h1 h2 h3 h4;rw[g4] at g1 g2 g3;have hi:=(List.getElem?_eq_some_iff.mp ha).1;rw[g4] at hi;simp only[show cs.length+2-2=cs.length by omega,show cs.length+2-1=cs.length+1 by omega] at *;by_cases c1:i<cs.length
 ·have Qn:UI=cs.set i v:=by
   rw[h1,List.take_set,nF]
  have hai:cs[i]?=some a:=by
   rw[<-ha];unfold IK;rw[append_assoc,getElem?_append_left c1]
  have hs:=yM (v:=v) hai;rw[getElem?_set_ne (by omega),g2] at h2
  injection h2 with h2
  rw[Qn,hs] at h2;omega
 ·have Qn:UI=cs:=by
   rw[h1,List.take_set_of_le (by omega),nF]
  by_cases c2:i=cs.length
  ·subst c2;rw[List.getElem?_set_self (by rw[g4];omega)] at h2;rw[ha] at g2
   injection h2 with h2
   injection g2 with g2
   rw[Qn] at h2;omega
  ·have c3:i=cs.length+1:=by omega
   subst c3;rw[List.getElem?_set_self (by rw[g4];omega)] at h3;rw[ha] at g3
   injection h3 with h3
   injection g3 with g3
   rw[Qn] at h3;omega
end Lw
namespace Lw
inductive TC where
 |x_ (o:Nat)|data (o i:Nat)
 deriving DecidableEq
namespace TC
def op:TC->Nat
 |x_ o=>o
 |data o _=>o
def rank:TC->Nat
 |x_ o=>2 * o
 |data o _=>2 * o+1
end TC
inductive BC where
 |t_ (o:Nat)|Iy (o:Nat)|note (o j:Nat) (bs:List Int)
def BC.op:BC->Nat
 |t_ o=>o
 |Iy o=>o
 |note o _ _=>o
structure Sys where
 s:Sr
 h:Hr
 T:List TC
 B:List BC
 st:Nat->Nat
 tk:Nat->Nat
def mk(j:Nat)(bs:List Int)(x:Nat):Prop:=∃k,bs[k]?=some 1/\x=j+k
structure Cw where
 s:Sr
 h:Hr
 T:List v_
 B:List v_
namespace Sys
def P(x:Sys)(o:Nat):List Pc:=fl x.s.most (x.s.msgs.drop (x.st o))
def en(x:Sys)(o:Nat):Nat:=x.st o+He ((x.P o).take (x.tk o))
def run(x:Sys)(o:Nat):List (Nat×HM):=((x.s.msgs.drop (x.st o)).take (He ((x.P o).take (x.tk o)))).map fun m=>(o,m)
def cT(x:Sys):TC->v_
 |.x_ o=>.x_ o
 |.data o i=>.data o (i % (2 * x.s.w)) ((x.P o).getD i (0,[]))
def cB(x:Sys):BC->v_
 |.t_ o=>.t_ o
 |.Iy o=>.Iy o
 |.note o j bs=>.note o (j % (2 * x.s.w)) bs
def con(x:Sys):Cw:=⟨x.s,x.h,x.T.map x.cT,x.B.map x.cB⟩
end Sys
structure Po(x:Sys):Prop where
 w0:0<x.s.w
 ww:x.h.w=x.s.w
 ps:x.s.st≠.Hs->x.s.ps=x.P x.s.op/\1<=x.s.op
 N3:x.s.st=.opening->x.s.base=0/\x.s.GZ=[]/\x.tk x.s.op=0/\(x.h.op=x.s.op->x.h.early=[])
 su:x.s.sure=x.st x.s.op+He ((x.P x.s.op).take x.s.base)
 sl:∀o,o<=x.s.op->x.st o<=x.s.msgs.length
 ch:∀o,1<=o->o<=x.s.op->∃o',o'<o/\x.st o<=x.en o'
 s0:x.st 0=0
 bt:x.s.base<=x.tk x.s.op
 tw:x.tk x.s.op<=x.s.base+x.s.w
 tl:∀o,x.tk o<=(x.P o).length
 tz:∀o,x.s.op<o->x.tk o=0
 t0:x.tk 0=0
 ho:x.h.op<=x.s.op
 hz:x.h.op=0->x.h.early=[]
 hn:x.h.nx=x.tk x.h.op
 hl:x.h.op≠0->∀o,x.h.op<o->x.tk o=0
 he:∀e,e∈x.h.early->(x.P x.h.op)[e.1]?=some e.2/\x.h.nx<e.1
 hd:(x.h.early.map (·.1)).Nodup
 hb:x.h.begun=(PU ((x.P x.h.op).take x.h.nx)).2
 hg:x.h.given=(range (x.s.op+1)).flatMap x.run
 ek:x.h.op=x.s.op->∀e,e∈x.h.early->e.1<x.s.base+x.s.w
 n0:x.s.op=0->x.s.GZ=[]
structure TK(x:Sys):Prop where
 so:x.T.Pairwise fun a b=>a.rank<=b.rank
 bd:∀c,c∈x.T->1<=c.op/\c.rank<=2 * x.s.op+1
 bo:x.s.st=.opening->∀c,c∈x.T->c.rank<=2 * x.s.op
 rt:∀o,0<x.tk o->∀c,c∈x.T->2 * o+1<=c.rank
 rh:∀c,c∈x.T->2 * x.h.op<=c.rank
 re:x.h.early≠[]->∀c,c∈x.T->2 * x.h.op+1<=c.rank
 r2:∀o i,TC.data o i∈x.T->i<(x.P o).length
 r3:∀o i,TC.x_ o∈x.T->TC.data o i∈x.T->i<x.s.w
 r4:∀i,TC.data x.h.op i∈x.T->i<x.h.nx+x.s.w/\x.h.nx<=i+x.s.w/\∀e,e∈x.h.early->e.1<i+x.s.w
 r6:x.T.Pairwise fun a b=>∀o i j,a=TC.data o i->b=TC.data o j->i<j+x.s.w
 r7:∀i,TC.data x.s.op i∈x.T->i<x.s.base+x.s.w
structure RV(x:Sys):Prop where
 bb:∀c,c∈x.B->1<=c.op/\c.op<=x.s.op
 bn:∀j bs,BC.note x.s.op j bs∈x.B->x.s.base<=j/\j<=x.tk x.s.op
 bp:x.B.Pairwise fun a b=>∀j bs j' LO,a=BC.note x.s.op j bs->b=BC.note x.s.op j' LO->j<=j'/\¬mk j bs j'
 m1:x.h.op=x.s.op->(∀k,k∈x.s.GZ->k<x.h.nx\/k∈x.h.early.map (·.1))/\∀j bs k,BC.note x.s.op j bs∈x.B->mk j bs k->k<x.h.nx\/k∈x.h.early.map (·.1)
 m2:∀k,k∈x.s.GZ->k≠x.s.base/\∀j bs,BC.note x.s.op j bs∈x.B->k≠j
 m4:∀j bs,BC.note x.s.op j bs∈x.B->¬mk j bs j
 nh:TC.x_ x.s.op∈x.T\/x.s.st=.opening->∀j bs,¬BC.note x.s.op j bs∈x.B
 nd:TC.x_ x.s.op∈x.T->x.s.GZ=[]
structure Iv(x:Sys):Prop where
 c:Po x
 t:TK x
 b:RV x
def Sys.new(w most:Nat):Sys:=⟨Sr.new w most,Hr.new w,[],[],fun _=>0,fun _=>0⟩
def EG{w most:Nat}(hw:0<w):Iv (Sys.new w most):=by
 refine⟨?_,?_,?_⟩
 ·constructor<;>simp[Sys.new,Sr.new,Hr.new,Sys.P,Sys.en,Sys.run,fl,He,PU,hw]
  ·intro o h1 h2;omega
 ·constructor<;>simp[Sys.new,Sr.new,Hr.new]
 ·constructor<;>simp[Sys.new,Sr.new,Hr.new]
section
variable{x:Sys}{m:HM}
def Sys.hand(x:Sys)(m:HM):Sys:={ x with s:=x.s.hand m }
def Bv{o:Nat}(h:x.st o<=x.s.msgs.length):(x.hand m).P o=x.P o++dW x.s.most m:=by
 simp only[Sys.P,Sys.hand,Sr.hand];rw[List.drop_append_of_le_length h,oI];simp[fl]
def og{o n:Nat}(h:x.st o<=x.s.msgs.length)(hn:n<=(x.P o).length):((x.hand m).P o).take n=(x.P o).take n:=by
 rw[Bv h,List.take_append_of_le_length hn]
def CG(c:Po x){o:Nat}(h:o<=x.s.op):(x.hand m).en o=x.en o:=by
 unfold Sys.en;rw[show(x.hand m).st=x.st from rfl,show(x.hand m).tk=x.tk from rfl,og (c.sl o h) (c.tl o)]
def Br(c:Po x){o:Nat}(h:o<=x.s.op):(x.hand m).run o=x.run o:=by
 unfold Sys.run;rw[show(x.hand m).st=x.st from rfl,show(x.hand m).tk=x.tk from rfl,og (c.sl o h) (c.tl o)];have hk:=pf x.s.most (x.s.msgs.drop (x.st o)) (x.tk o);rw[show(x.hand m).s.msgs=x.s.msgs++[m] from rfl,List.drop_append_of_le_length (c.sl o h),List.take_append_of_le_length];exact hk
def jk{α β:Type}{l:List α}{f g:α->List β}(h:∀a,a∈l->f a=g a):l.flatMap f=l.flatMap g:=by
 induction l with
 |nil=>rfl
 |cons a r ih=>rw[flatMap_cons,flatMap_cons,h a (by simp),ih fun b hb=>h b (mem_cons_of_mem _ hb)]
def yt(v:Iv x)(m:HM):Iv (x.hand m)/\(x.hand m).con = { x.con with s:=x.s.hand m }:=by
 obtain⟨c,t,b⟩:=v;have hP:∀o,o<=x.s.op->(x.hand m).P o=x.P o++dW x.s.most m:=fun o h=>Bv (c.sl o h)
 have Y4:∀o,o<=x.s.op->(x.P o).length<=((x.hand m).P o).length:=fun o h=>by rw[hP o h,length_append];omega
 have hT:∀o n,o<=x.s.op->n<=(x.P o).length->((x.hand m).P o).take n=(x.P o).take n:=fun o n h hn=>og (c.sl o h) hn
 have PX:x.h.nx<=(x.P x.h.op).length:=by rw[c.hn];exact c.tl _
 have hbl:x.s.base<=(x.P x.s.op).length:=Nat.le_trans c.bt (c.tl _);refine⟨⟨?_,?_,?_⟩,?_⟩
 ·refine⟨c.w0,c.ww,?_,c.N3,?_,?_,?_,c.s0,c.bt,c.tw,?_,c.tz,c.t0,c.ho,c.hz,c.hn,c.hl,?_,c.hd,?_,?_,c.ek,c.n0⟩
  ·intro hs;obtain⟨h1,h2⟩:=c.ps hs;refine⟨?_,h2⟩;show(if x.s.st=.Hs then x.s.ps else x.s.ps++dW x.s.most m)=_;rw[if_neg (show ¬x.s.st=.Hs from hs),show(x.hand m).s.op=x.s.op from rfl,hP _ (Nat.le_refl _),h1]
  ·show x.s.sure=x.st x.s.op+He (((x.hand m).P x.s.op).take x.s.base);rw[hT _ _ (Nat.le_refl _) hbl];exact c.su
  ·intro o ho;have:=c.sl o ho;show x.st o<=(x.s.msgs++[m]).length;rw[length_append];omega
  ·intro o h1 h2;obtain⟨o',h3,h4⟩:=c.ch o h1 h2;exact⟨o',h3,by rw[CG c (by have:o<=x.s.op:=h2;omega)];exact h4⟩
  ·intro o;by_cases ho:o<=x.s.op
   ·exact Nat.le_trans (c.tl o) (Y4 o ho)
   ·show x.tk o<=_;rw[c.tz o (by omega)];exact zero_le _
  ·intro e he;obtain⟨h1,h2⟩:=c.he e he;refine⟨?_,h2⟩;show((x.hand m).P x.h.op)[e.1]?=_;rw[hP _ c.ho,getElem?_append_left (List.getElem?_eq_some_iff.mp h1).1];exact h1
  ·show x.h.begun=(PU (((x.hand m).P x.h.op).take x.h.nx)).2;rw[hT _ _ c.ho PX];exact c.hb
  ·show x.h.given=(range (x.s.op+1)).flatMap (x.hand m).run;rw[c.hg];exact jk fun o ho=>(Br c (by have:=List.mem_range.mp ho;omega)).symm
 ·refine⟨t.so,t.bd,t.bo,t.rt,t.rh,t.re,?_,t.r3,t.r4,t.r6,t.r7⟩;intro o i h;have:=(t.bd _ h).2;have ho:o<=x.s.op:=by simp only[TC.rank] at this;omega
  exact Nat.lt_of_lt_of_le (t.r2 o i h) (Y4 o ho)
 ·exact⟨b.bb,b.bn,b.bp,b.m1,b.m2,b.m4,b.nh,b.nd⟩
 ·unfold Sys.con;refine congr (congr (congrArg (Cw.mk (x.s.hand m)) rfl) ?_) rfl;refine map_congr_left fun a ha=>?_
  cases a with
  |x_ o=>rfl
  |data o i=>
   have h2:=(t.bd _ ha).2;have ho:o<=x.s.op:=by simp only[TC.rank] at h2;omega
   show v_.data o (i % (2 * x.s.w)) (((x.hand m).P o).getD i (0,[]))=v_.data o (i % (2 * x.s.w)) ((x.P o).getD i (0,[]));rw[hP o ho];have hi:=t.r2 o i ha;simp[getD,getElem?_append_left hi]
def Sys.anew(x:Sys):Sys:={ x with s:=x.s.anew,st:=fun o=>if o=x.s.op+1 then x.s.sure else x.st o }
def lL{o:Nat}(h:o<=x.s.op):x.anew.st o=x.st o:=if_neg (by omega)
def mE{o:Nat}(h:o<=x.s.op):x.anew.P o=x.P o:=by
 unfold Sys.P;rw[lL h];rfl
def za{o:Nat}(h:o<=x.s.op):x.anew.en o=x.en o:=by
 unfold Sys.en;rw[lL h,mE h];rfl
def Bk{o:Nat}(h:o<=x.s.op):x.anew.run o=x.run o:=by
 unfold Sys.run;rw[lL h,mE h];rfl
def DY(c:Po x){o:Nat}(h:o<=x.s.op):x.en o<=x.s.msgs.length:=by
 have h1:=c.sl o h;have h2:=pf x.s.most (x.s.msgs.drop (x.st o)) (x.tk o);rw[length_drop] at h2;unfold Sys.en Sys.P;omega
def yZ(c:Po x):x.s.sure<=x.en x.s.op:=by
 rw[c.su];unfold Sys.en;have:=qb (x.P x.s.op) c.bt;omega
def yi(v:Iv x):Iv x.anew/\x.anew.con = { x.con with s:=x.s.anew }:=by
 obtain⟨c,t,b⟩:=v;have Na:x.anew.s.op=x.s.op+1:=rfl;have IU:x.anew.st (x.s.op+1)=x.s.sure:=if_pos rfl;have hle:=DY c (Nat.le_refl x.s.op);have Y5:=yZ c;have Oi:x.h.op≠x.s.op+1:=by have:=c.ho;omega
 refine⟨⟨?_,?_,?_⟩,?_⟩
 ·refine⟨c.w0,c.ww,?_,?_,?_,?_,?_,?_,zero_le _,?_,?_,?_,c.t0,Nat.le_succ_of_le c.ho,c.hz,c.hn,c.hl,?_,c.hd,?_,?_,fun h=>absurd h Oi,fun h=>absurd h (Nat.succ_ne_zero _)⟩
  ·intro _;refine⟨?_,Nat.le_add_left _ _⟩;show(x.s.msgs.drop x.s.sure).flatMap (dW x.s.most)=fl x.s.most (x.s.msgs.drop (x.anew.st (x.s.op+1)));rw[IU];rfl
  ·exact fun _=>⟨rfl,rfl,c.tz _ (lt_succ_self _),fun h=>absurd h Oi⟩
  ·show x.s.sure=x.anew.st (x.s.op+1)+He ((x.anew.P (x.s.op+1)).take 0);rw[IU];rfl
  ·intro o ho;by_cases h:o<=x.s.op
   ·rw[lL h];exact c.sl o h
   ·have:o=x.s.op+1:=by have:o<=x.s.op+1:=ho;omega
    rw[this,IU];exact Nat.le_trans Y5 hle
  ·intro o h1 h2;by_cases h:o<=x.s.op
   ·obtain⟨o',h3,h4⟩:=c.ch o h1 h;exact⟨o',h3,by rw[lL h,za (by omega)];exact h4⟩
   ·have:o=x.s.op+1:=by have:o<=x.s.op+1:=h2;omega
    refine⟨x.s.op,by omega,?_⟩;rw[this,IU,za (Nat.le_refl _)];exact Y5
  ·rw[lL (zero_le _)];exact c.s0
  ·show x.tk (x.s.op+1)<=0+x.s.w;rw[c.tz _ (lt_succ_self _)];exact zero_le _
  ·intro o;by_cases h:o<=x.s.op
   ·rw[mE h];exact c.tl o
   ·show x.tk o<=_;rw[c.tz o (by omega)];exact zero_le _
  ·intro o ho;exact c.tz o (by have:x.s.op+1<o:=ho;omega)
  ·intro e he;rw[show x.anew.h=x.h from rfl,mE c.ho];exact c.he e he
  ·rw[show x.anew.h=x.h from rfl,mE c.ho];exact c.hb
  ·show x.h.given=(range (x.s.op+1+1)).flatMap x.anew.run;rw[range_succ,flatMap_append,c.hg];have e1:x.anew.run (x.s.op+1)=[]:=by
    unfold Sys.run;rw[show x.anew.tk (x.s.op+1)=0 from c.tz _ (lt_succ_self _)];simp[He]
   rw[flatMap_cons,e1,List.flatMap_nil,append_nil,append_nil];exact jk fun o ho=>(Bk (by have:=List.mem_range.mp ho;omega)).symm
 ·have UJ:∀cc,cc∈x.T->cc.rank<=2 * x.s.op+1:=fun cc h=>(t.bd cc h).2
  have opl:∀cc:TC,2 * cc.op<=cc.rank:=fun cc=>by cases cc<;>simp[TC.op,TC.rank]
  refine⟨t.so,?_,?_,t.rt,t.rh,t.re,?_,t.r3,t.r4,t.r6,?_⟩
  ·exact fun cc h=>⟨(t.bd cc h).1,by have:=UJ cc h;show cc.rank<=2 * (x.s.op+1)+1;omega⟩
  ·exact fun _ cc h=>by have:=UJ cc h;show cc.rank<=2 * (x.s.op+1);omega
  ·intro o i h;have h2:=UJ _ h;have ho:o<=x.s.op:=by simp only[TC.rank] at h2;omega
   rw[mE ho];exact t.r2 o i h
  ·intro i h;have h2:=UJ _ h;simp only[TC.rank,Na] at h2;omega
 ·have UK:∀j bs,¬BC.note (x.s.op+1) j bs∈x.B:=fun j bs h=>by
   have h2:=(b.bb _ h).2;simp only[BC.op] at h2;omega
  refine⟨fun cc h=>⟨(b.bb cc h).1,Nat.le_succ_of_le (b.bb cc h).2⟩,fun j bs h=>absurd h (UK j bs),?_,fun h=>absurd h Oi,fun k hk=>?_,fun j bs h=>absurd h (UK j bs),fun _=>UK,fun _=>rfl⟩
  ·refine List.Pairwise.imp_of_mem (fun {a a'} ha _ _=>?_) b.bp;intro j bs j' LO e1 _;rw[e1] at ha;exact absurd ha (UK j bs)
  ·have:k∈([]:List Nat):=hk;simp at this
 ·unfold Sys.con;refine congr (congr (congrArg (Cw.mk x.s.anew) rfl) ?_) rfl;refine map_congr_left fun a ha=>?_
  cases a with
  |x_ o=>rfl
  |data o i=>
   have h2:=(t.bd _ ha).2;have ho:o<=x.s.op:=by simp only[TC.rank] at h2;omega
   show v_.data o (i % (2 * x.s.w)) ((x.anew.P o).getD i (0,[]))=v_.data o (i % (2 * x.s.w)) ((x.P o).getD i (0,[]));rw[mE ho]
def Sys.Nr(x:Sys):Sys:={ x with s:=x.s.HD }
def vJ(v:Iv x):Iv x.Nr/\x.Nr.con = { x.con with s:=x.s.HD }:=by
 obtain⟨c,t,b⟩:=v;refine⟨⟨⟨c.w0,c.ww,fun h=>absurd rfl h,fun h=>(by cases h),c.su,c.sl,c.ch,c.s0,c.bt,c.tw,c.tl,c.tz,c.t0,c.ho,c.hz,c.hn,c.hl,c.he,c.hd,c.hb,c.hg,c.ek,c.n0⟩,
  ⟨t.so,t.bd,fun h=>(by cases h),t.rt,t.rh,t.re,t.r2,t.r3,t.r4,t.r6,t.r7⟩,⟨b.bb,b.bn,b.bp,b.m1,b.m2,b.m4,fun h=>b.nh (h.elim .inl fun e=>(by cases e)),b.nd⟩⟩,rfl⟩
def Sys.LP(x:Sys):Sys:={ x with h:=x.h.HD }
def wQ(v:Iv x):Iv x.LP/\x.LP.con = { x.con with h:=x.h.HD }:=by
 obtain⟨c,t,b⟩:=v;refine⟨⟨⟨c.w0,c.ww,c.ps,fun e=>⟨(c.N3 e).1,(c.N3 e).2.1,(c.N3 e).2.2.1,fun _=>rfl⟩,c.su,c.sl,c.ch,c.s0,c.bt,c.tw,c.tl,c.tz,c.t0,zero_le _,fun _=>rfl,c.t0.symm,fun h=>absurd rfl h,?_,nodup_nil,rfl,c.hg,?_,c.n0⟩,
  ⟨t.so,t.bd,t.bo,t.rt,fun cc _=>zero_le _,fun h=>absurd rfl h,t.r2,t.r3,?_,t.r6,t.r7⟩,⟨b.bb,b.bn,b.bp,?_,b.m2,b.m4,b.nh,b.nd⟩⟩,rfl⟩
 ·intro e he;have:e∈([]:List (Nat×Pc)):=he;simp at this
 ·intro _ e he;have:e∈([]:List (Nat×Pc)):=he;simp at this
 ·intro i h;have:=(t.bd _ h).1;have h0:x.LP.h.op=0:=rfl;simp only[TC.op,h0] at this;omega
 ·intro h0;have h0':x.s.op=0:=h0.symm;refine⟨fun k hk=>?_,fun j bs k hj _=>?_⟩
  ·have hk':k∈x.s.GZ:=hk;rw[c.n0 h0'] at hk';simp at hk'
  ·have:=(b.bb _ hj).1;simp only[BC.op] at this;have hj2:x.LP.s.op=x.s.op:=rfl;omega
end
section
variable{x:Sys}
def Sys.Ko(x:Sys)(T:List TC):Sys:={ x with T:=T }
def Sys.setB(x:Sys)(B:List BC):Sys:={ x with B:=B }
def p5(t:TK x){T:List TC}(hm:∀c,c∈T->c∈x.T)(so:T.Pairwise fun a b=>a.rank<=b.rank)(r6:T.Pairwise fun a b=>∀o i j,a=TC.data o i->b=TC.data o j->i<j+x.s.w):TK (x.Ko T):=
 ⟨so,fun c h=>t.bd c (hm c h),fun q c h=>t.bo q c (hm c h),fun o q c h=>t.rt o q c (hm c h),fun c h=>t.rh c (hm c h),fun q c h=>t.re q c (hm c h),fun o i h=>t.r2 o i (hm _ h),fun o i h h'=>t.r3 o i (hm _ h) (hm _ h'),
  fun i h=>t.r4 i (hm _ h),r6,fun i h=>t.r7 i (hm _ h)⟩
def p0(b:RV x){B:List BC}(hm:∀c,c∈B->c∈x.B)(bp:B.Pairwise fun a b=>∀j bs j' LO,a=BC.note x.s.op j bs->b=BC.note x.s.op j' LO->j<=j'/\¬mk j bs j'):RV (x.setB B):=
 ⟨fun c h=>b.bb c (hm c h),fun j bs h=>b.bn j bs (hm _ h),bp,fun q=>⟨(b.m1 q).1,fun j bs k h=>(b.m1 q).2 j bs k (hm _ h)⟩,fun k hk=>⟨(b.m2 k hk).1,fun j bs h=>(b.m2 k hk).2 j bs (hm _ h)⟩,fun j bs h=>b.m4 j bs (hm _ h),fun q j bs h=>b.nh q j bs (hm _ h),b.nd⟩
def vY(c:Po x)(T:List TC):Po (x.Ko T):=⟨c.w0,c.ww,c.ps,c.N3,c.su,c.sl,c.ch,c.s0,c.bt,c.tw,c.tl,c.tz,c.t0,c.ho,c.hz,c.hn,c.hl,c.he,c.hd,c.hb,c.hg,c.ek,c.n0⟩
def tX(c:Po x)(B:List BC):Po (x.setB B):=⟨c.w0,c.ww,c.ps,c.N3,c.su,c.sl,c.ch,c.s0,c.bt,c.tw,c.tl,c.tz,c.t0,c.ho,c.hz,c.hn,c.hl,c.he,c.hd,c.hb,c.hg,c.ek,c.n0⟩
def wA(b:RV x)(T:List TC)(hm:TC.x_ x.s.op∈T->TC.x_ x.s.op∈x.T\/x.s.st=.opening/\x.s.GZ=[]):RV (x.Ko T):=
 ⟨b.bb,b.bn,b.bp,b.m1,b.m2,b.m4,fun q=>b.nh (q.elim (fun h=>(hm h).elim .inl fun e=>.inr e.1) .inr),fun h=>(hm h).elim b.nd fun e=>e.2⟩
def tS(t:TK x)(B:List BC):TK (x.setB B):=⟨t.so,t.bd,t.bo,t.rt,t.rh,t.re,t.r2,t.r3,t.r4,t.r6,t.r7⟩
def dup{α:Type}(l:List α)(k:Nat):List α:=l.take (k+1)++l.drop k
def kA{α:Type}{l:List α}{k:Nat}{a:α}(h:a∈dup l k):a∈l:=by
 rcases List.mem_append.mp h with h|h
 ·exact mem_of_mem_take h
 ·exact mem_of_mem_drop h
def zm{α β:Type}(f:α->β)(l:List α)(k:Nat):dup (l.map f) k=(dup l k).map f:=by simp[dup]
def kC{α:Type}{R:α->α->Prop}{l:List α}(h:l.Pairwise R)(hr:∀a,a∈l->R a a):∀k,(dup l k).Pairwise R:=by
 induction l with
 |nil=>intro k;simp[dup]
 |cons a r ih=>
  intro k;obtain⟨h1,h2⟩:=List.pairwise_cons.mp h;cases k with
  |zero=>
   show(a :: ([]++a :: r)).Pairwise R;rw[nil_append];exact List.pairwise_cons.mpr ⟨fun b hb=>(List.mem_cons.mp hb).elim (fun e=>e ▸ hr a (by simp)) (h1 b),h⟩
  |succ k=>
   show(a :: dup r k).Pairwise R;exact List.pairwise_cons.mpr ⟨fun b hb=>h1 b (kA hb),ih h2 (fun b hb=>hr b (mem_cons_of_mem _ hb)) k⟩
def lR{α β:Type}(f:α->β):∀(l:List α) (k:Nat),(l.map f).eraseIdx k=(l.eraseIdx k).map f
 |[],_=>rfl
 |_ :: _,0=>rfl
 |a :: r,k+1=>by
  show f a :: (r.map f).eraseIdx k=f a :: (r.eraseIdx k).map f;rw[lR f r k]
def wn(v:Iv x)(k:Nat):Iv (x.Ko (x.T.eraseIdx k))/\(x.Ko (x.T.eraseIdx k)).con = { x.con with T:=x.con.T.eraseIdx k }:=by
 have hs:(x.T.eraseIdx k).Sublist x.T:=List.eraseIdx_sublist ..;refine⟨⟨vY v.c _,p5 v.t (fun c h=>hs.subset h) (v.t.so.sublist hs) (v.t.r6.sublist hs),wA v.b _ fun h=>.inl (hs.subset h)⟩,?_⟩;unfold Sys.con;simp only[Sys.Ko];refine congr (congr rfl ?_) rfl;show(x.T.eraseIdx k).map x.cT=(x.T.map x.cT).eraseIdx k;exact(lR ..).symm
def v8(v:Iv x)(k:Nat):Iv (x.setB (x.B.eraseIdx k))/\(x.setB (x.B.eraseIdx k)).con = { x.con with B:=x.con.B.eraseIdx k }:=by
 have hs:(x.B.eraseIdx k).Sublist x.B:=List.eraseIdx_sublist ..;refine⟨⟨tX v.c _,tS v.t _,p0 v.b (fun c h=>hs.subset h) (v.b.bp.sublist hs)⟩,?_⟩;unfold Sys.con;simp only[Sys.setB];refine congr rfl ?_;show(x.B.eraseIdx k).map x.cB=(x.B.map x.cB).eraseIdx k;exact(lR ..).symm
def yG(v:Iv x)(k:Nat):Iv (x.Ko (dup x.T k))/\(x.Ko (dup x.T k)).con = { x.con with T:=dup x.con.T k }:=by
 refine⟨⟨vY v.c _,p5 v.t (fun c h=>kA h) (kC v.t.so (fun a _=>Nat.le_refl _) k) (kC v.t.r6 (fun a _ o i j e1 e2=>?_) k),wA v.b _ fun h=>.inl (kA h)⟩,?_⟩
 ·rw[e1] at e2;cases e2;have:=v.c.w0;omega
 ·unfold Sys.con;simp only[Sys.Ko];refine congr (congr rfl ?_) rfl;exact(zm x.cT x.T k).symm
def yR(v:Iv x)(k:Nat):Iv (x.setB (dup x.B k))/\(x.setB (dup x.B k)).con = { x.con with B:=dup x.con.B k }:=by
 refine⟨⟨tX v.c _,tS v.t _,p0 v.b (fun c h=>kA h) (kC v.b.bp (fun a ha j bs j' LO e1 e2=>?_) k)⟩,?_⟩
 ·rw[e1] at e2;cases e2;rw[e1] at ha;exact⟨Nat.le_refl _,v.b.m4 j bs ha⟩
 ·unfold Sys.con;simp only[Sys.setB];refine congr rfl ?_;exact(zm x.cB x.B k).symm
def Sys.LQ(x:Sys):List TC:=match x.s.st with
 |.Hs=>[]
 |.opening=>[.x_ x.s.op]
 |.opened=>x.s.wanted.map fun i=>.data x.s.op i
def dX{s:Sr}{i:Nat}(h:i∈s.wanted):s.base<=i/\i<s.base+s.w/\i<s.ps.length/\i∉s.GZ:=by
 unfold Sr.wanted at h;obtain⟨h1,h2⟩:=List.mem_filter.mp h;obtain⟨h3,h4⟩:=List.mem_range'_1.mp h1;refine⟨h3,by omega,by omega,by simpa using h2⟩
def dw{α:Type}{R:α->α->Prop}{a b:List α}(ha:a.Pairwise R)(hb:b.Pairwise R)(h:∀x,x∈a->∀y,y∈b->R x y):(a++b).Pairwise R:=List.pairwise_append.mpr ⟨ha,hb,h⟩
def yA(v:Iv x):Iv (x.Ko (x.T++x.LQ))/\(x.Ko (x.T++x.LQ)).con = { x.con with T:=x.con.T++x.s.tick }:=by
 obtain⟨c,t,b⟩:=v;have IA:∀a,a∈x.LQ->(x.s.st=.opening/\a=.x_ x.s.op/\1<=x.s.op)\/(x.s.st=.opened/\1<=x.s.op/\x.s.ps=x.P x.s.op/\∃i,a=.data x.s.op i/\i∈x.s.wanted):=by
  intro a ha;unfold Sys.LQ at ha;cases e:x.s.st with
  |Hs=>rw[e] at ha;simp at ha
  |opening=>
   rw[e] at ha;simp at ha;exact .inl ⟨rfl,ha,(c.ps (by rw[e];simp)).2⟩
  |opened=>
   rw[e] at ha;obtain⟨i,hi,rfl⟩:=List.mem_map.mp ha;obtain⟨h1,h2⟩:=c.ps (by rw[e];simp);exact .inr ⟨rfl,h2,h1,i,rfl,hi⟩
 refine⟨⟨vY c _,?_,wA b _ fun h=>?_⟩,?_⟩
 rotate_left
 ·rcases List.mem_append.mp h with h|h
  ·exact .inl h
  ·rcases IA _ h with ⟨e,_,_⟩|⟨_,_,_,i,q,_⟩
   ·exact .inr ⟨e,(c.N3 e).2.1⟩
   ·cases q
 rotate_right
 ·have rk:∀a,a∈x.LQ->2 * x.s.op<=a.rank/\a.rank<=2 * x.s.op+1/\a.op=x.s.op/\1<=x.s.op:=by
   intro a ha;rcases IA a ha with ⟨_,rfl,h⟩|⟨_,h,_,i,rfl,_⟩<;>simp[TC.rank,TC.op,h]
  have hi0:TC.x_ x.s.op∈x.T->x.tk x.s.op=0:=fun h=>by
   cases e:x.tk x.s.op with
   |zero=>rfl
   |succ n=>
    have:=t.rt x.s.op (by omega) _ h;simp only[TC.rank] at this;omega
  refine⟨?_,?_,?_,?_,?_,?_,?_,?_,?_,?_,?_⟩
  ·refine dw t.so ?_ ?_
   ·refine List.Pairwise.imp_of_mem (R:=fun _ _=>True) ?_ (by simp[List.pairwise_iff_forall_sublist]);intro a a' ha OG _;rcases IA a ha with ⟨e,rfl,_⟩|⟨e,_,_,i,rfl,_⟩<;>rcases IA a' OG with ⟨e',rfl,_⟩|⟨e',_,_,i',rfl,_⟩<;>simp_all [TC.rank]
   ·intro a ha a' OG;rcases IA a' OG with ⟨e,rfl,_⟩|⟨e,_,_,i,rfl,_⟩
    ·exact t.bo e a ha
    ·exact(t.bd a ha).2
  ·intro a ha;rcases List.mem_append.mp ha with ha|ha
   ·exact t.bd a ha
   ·obtain⟨h1,h2,h3,h4⟩:=rk a ha;exact⟨by rw[h3];exact h4,h2⟩
  ·intro e a ha;rcases List.mem_append.mp ha with ha|ha
   ·exact t.bo e a ha
   ·rcases IA a ha with ⟨_,rfl,_⟩|⟨e',_⟩
    ·exact Nat.le_refl _
    ·have e2:x.s.st=.opening:=e;rw[e2] at e';cases e'
  ·intro o ho a ha;rcases List.mem_append.mp ha with ha|ha
   ·exact t.rt o ho a ha
   ·have hle:o<=x.s.op:=Nat.le_of_not_lt fun h=>by have:=c.tz o h;have:0<x.tk o:=ho;omega
    rcases IA a ha with ⟨e,rfl,_⟩|⟨e,_,_,i,rfl,_⟩
    ·have:=(c.N3 e).2.2.1;have Oi:o≠x.s.op:=fun q=>by rw[q] at ho;have:0<x.tk x.s.op:=ho;omega
     simp only[TC.rank];omega
    ·simp only[TC.rank];omega
  ·intro a ha;rcases List.mem_append.mp ha with ha|ha
   ·exact t.rh a ha
   ·have h1:=(rk a ha).1;have h2:=c.ho;show 2 * x.h.op<=_;omega
  ·intro he a ha;rcases List.mem_append.mp ha with ha|ha
   ·exact t.re he a ha
   ·have Ol:x.h.early≠[]:=he;show 2 * x.h.op+1<=_;have h2:=c.ho;rcases IA a ha with ⟨e,rfl,_⟩|⟨e,_,_,i,rfl,_⟩
    ·by_cases hq:x.h.op=x.s.op
     ·exact absurd ((c.N3 e).2.2.2 hq) Ol
     ·simp only[TC.rank];omega
    ·simp only[TC.rank];omega
  ·intro o i ha;rcases List.mem_append.mp ha with ha|ha
   ·exact t.r2 o i ha
   ·rcases IA _ ha with ⟨e,q,_⟩|⟨e,_,hp,i',q,hi⟩
    ·cases q
    ·cases q;have:=(dX hi).2.2.1;rw[hp] at this;exact this
  ·intro o i h1 h2;rcases List.mem_append.mp h2 with h2|h2
   ·rcases List.mem_append.mp h1 with h1|h1
    ·exact t.r3 o i h1 h2
    ·rcases IA _ h1 with ⟨e,q,_⟩|⟨e,_,_,i',q,_⟩
     ·cases q;have:=t.bo e _ h2;simp only[TC.rank] at this;omega
     ·cases q
   ·rcases IA _ h2 with ⟨e,q,_⟩|⟨e,_,_,i',q,hi⟩
    ·cases q
    ·cases q;have hw:=dX hi;rcases List.mem_append.mp h1 with h1|h1
     ·have hb:=c.bt;rw[hi0 h1] at hb;show i<x.s.w;omega
     ·rcases IA _ h1 with ⟨e',_,_⟩|⟨_,_,_,i',q,_⟩
      ·rw[e] at e';cases e'
      ·cases q
  ·intro i h;rcases List.mem_append.mp h with h|h
   ·exact t.r4 i h
   ·rcases IA _ h with ⟨e,q,_⟩|⟨e,_,_,i',q,hi⟩
    ·cases q
    ·have q':TC.data x.h.op i=TC.data x.s.op i':=q
     injection q' with q1 q2
     subst q2;have hw:=dX hi;have Ra:=c.hn;rw[q1] at Ra;have h1:=c.bt;have h2:=c.tw;refine⟨?_,?_,fun e he=>?_⟩
     ·show i<x.h.nx+x.s.w;omega
     ·show x.h.nx<=i+x.s.w;omega
     ·have:=c.ek q1 e he;show e.1<i+x.s.w;omega
  ·refine dw t.r6 ?_ ?_
   ·refine List.Pairwise.imp_of_mem (R:=fun _ _=>True) ?_ (by simp[List.pairwise_iff_forall_sublist]);intro a a' ha OG _ o i j e1 e2;rcases IA a ha with ⟨e,q,_⟩|⟨e,_,_,i1,q,h1⟩
    ·rw[q] at e1;cases e1
    ·rcases IA a' OG with ⟨e',q',_⟩|⟨e',_,_,i2,q',h2⟩
     ·rw[q'] at e2;cases e2
     ·rw[q] at e1;rw[q'] at e2;cases e1;cases e2;have:=dX h1;have:=dX h2;show i<j+x.s.w;omega
   ·intro a ha a' OG o i j e1 e2;rcases IA a' OG with ⟨e',q',_⟩|⟨e',_,_,i2,q',h2⟩
    ·rw[q'] at e2;cases e2
    ·rw[q'] at e2;cases e2;rw[e1] at ha;have:=t.r7 i ha;have:=dX h2;show i<j+x.s.w;omega
  ·intro i h;rcases List.mem_append.mp h with h|h
   ·exact t.r7 i h
   ·rcases IA _ h with ⟨e,q,_⟩|⟨e,_,_,i',q,hi⟩
    ·cases q
    ·have q':TC.data x.s.op i=TC.data x.s.op i':=q
     injection q' with q1 q2
     subst q2;exact(dX hi).2.1
 ·unfold Sys.con;simp only[Sys.Ko];refine congr (congr rfl ?_) rfl;show(x.T++x.LQ).map x.cT=x.T.map x.cT++x.s.tick;rw[map_append];congr 1;unfold Sys.LQ Sr.tick;cases e:x.s.st with
  |Hs=>rfl
  |opening=>rfl
  |opened=>
   obtain⟨h1,_⟩:=c.ps (by rw[e];simp);simp only[map_map];refine map_congr_left fun i _=>?_
   show v_.data x.s.op (i % (2 * x.s.w)) ((x.P x.s.op).getD i (0,[]))=v_.data x.s.op (i % (2 * x.s.w)) (x.s.ps.getD i (0,[]));rw[h1]
end
end Lw
namespace Lw
open PySem L2 DL
structure En where
 c:v_
 x:Option (List Int)
def En.xs(e:En):List Int:=match e.x with
 |none=>IK (az e.c)
 |some xs=>xs
def gd(c:v_):En:=⟨c,none⟩
structure WW where
 s:Sr
 h:Hr
 T:List En
 B:List En
def eZ(e:En)(place:Nat)(JE:Int):En:=match e.x with
 |some _=>e
 |none=>if JE % 256=0 then e else ⟨e.c,some (e.xs.set (place % e.xs.length) ((e.xs.getD (place % e.xs.length) 0+JE) % 256))⟩
def im(l:List En)(k place:Nat)(JE:Int):List En:=match l[k]? with
 |some e=>l.set k (eZ e place JE)
 |none=>l
def pC(l:List En)(k:Nat):List En:=match l[k]? with
 |some e=>l.insertIdx k e
 |none=>l
inductive Act where
 |hand (m:HM)|start|tick|step (r:Bool)|N4 (r:Bool) (k:Nat)|dbl (r:Bool) (k:Nat)|LR (r:Bool) (k place:Nat) (JE:Int)|HD (r:Bool)
namespace WW
def new(w most:Nat):WW:=⟨Sr.new w most,Hr.new w,[],[]⟩
def road(w:WW)(r:Bool):List En:=if r then w.T else w.B
def HJ(w:WW)(r:Bool)(l:List En):WW:=if r then { w with T:=l } else { w with B:=l }
def Ij(w:WW)(r:Bool)(e:En):WW:=match e.x with
 |some _=>w
 |none=>if r then { w with h:=(w.h.f_ e.c).1,B:=w.B++(w.h.f_ e.c).2.map gd } else { w with s:=w.s.f_ e.c }
def step(w:WW)(r:Bool):WW:=match w.road r with
 |[]=>w
 |e :: l=>(w.HJ r l).Ij r e
def act(w:WW):Act->WW
 |.hand m=>{ w with s:=w.s.hand m }
 |.start=>{ w with s:=w.s.start }
 |.tick=>{ w with T:=w.T++w.s.tick.map gd }
 |.step r=>w.step r
 |.N4 r k=>w.HJ r ((w.road r).eraseIdx k)
 |.dbl r k=>w.HJ r (pC (w.road r) k)
 |.LR r k place JE=>w.HJ r (im (w.road r) k place JE)
 |.HD r=>if r then { w with s:=w.s.HD } else { w with h:=w.h.HD }
end WW
def Qo(m:HM):Prop:=∀x,x∈m->0<=x/\x<=255
def OU(N:Nat)(e:En):Prop:=Lp e.c/\e.c.H_<=N/\e.xs.length<=100/\∀xs,e.x=some xs->∀c,Lp c->IK (az c)≠xs
structure Iz(N:Nat)(w:WW):Prop where
 sb:Sb N w.s
 bl:Bl w.s
 w0:0<w.s.w
 w7:w.s.w<=7
 m8:w.s.most<=8
 hw:w.h.w=w.s.w
 bd:Bd N w.h
 op:w.s.op<=N
 ho:w.h.op<=N
 gk:∀m,m∈w.s.msgs->Qo m
 pk:∀p,p∈w.s.ps->p.2.length<=8/\Qo p.2
 tk:∀e,e∈w.T->OU N e
 bk:∀e,e∈w.B->OU N e
 tl:w.T.length<=8 * N
 ql:w.B.length<=8 * N
def OU.mono{N M:Nat}{e:En}(h:OU N e)(hm:N<=M):OU M e:=⟨h.1,Nat.le_trans h.2.1 hm,h.2.2⟩
def wx{N:Nat}{c:v_}(h:Lp c)(ho:c.H_<=N):OU N (gd c):=by
 have:=gj h;refine⟨h,ho,?_,fun xs z=>by cases z⟩;show(IK (az c)).length<=100;rw[nc];omega
def Iz.mono{N M:Nat}{w:WW}(a:Iz N w)(h:N<=M):Iz M w:=
 ⟨a.sb.mono h,a.bl,a.w0,a.w7,a.m8,a.hw,a.bd.mono h,Nat.le_trans a.op h,Nat.le_trans a.ho h,a.gk,a.pk,fun e he=>(a.tk e he).mono h,fun e he=>(a.bk e he).mono h,by have:=a.tl;omega,by have:=a.ql;omega⟩
theorem qN{k:Nat}:∀(n:Nat) (m:HM),m.length<=n->1<=k->∀p,p∈km k n m->p.2.length<=k/\∀x,x∈p.2->x∈m
 |0,m,hm,hk,p,hp=>by
  have:m=[]:=List.eq_nil_of_length_eq_zero (by omega);subst this;simp[km] at hp;subst hp;simp
 |n+1,m,hm,hk,p,hp=>by
  unfold km at hp;split at hp
  ·rcases List.mem_cons.mp hp with rfl|hp
   ·exact⟨by rw[length_take];omega,fun x hx=>mem_of_mem_take hx⟩
   ·have:=qN n (m.drop k) (by rw[length_drop];omega) hk p hp;exact⟨this.1,fun x hx=>mem_of_mem_drop (this.2 x hx)⟩
  ·simp at hp;subst hp;exact⟨by show m.length<=k;omega,fun x hx=>hx⟩
def zp{k:Nat}(hk:1<=k)(h8:k<=8){m:HM}(hm:m.length<=40)(ho:Qo m):∀p,p∈dW k m->p.2.length<=8/\Qo p.2:=fun p hp=>by
 have:=qN 100 m (by omega) hk p hp;exact⟨by omega,fun x hx=>ho x (this.2 x hx)⟩
section
variable{N:Nat}{w:WW}
def CY{a b:Nat}(h1:0<a)(h2:a<=7)(h3:1<=b)(h4:b<=8):Iz 0 (WW.new a b):=by
 refine⟨⟨h3,by simp[WW.new,Sr.new],by simp[WW.new,Sr.new],by simp[WW.new,Sr.new],by simp[WW.new,Sr.new],by simp[WW.new,Sr.new]⟩,zero_le _,h1,h2,h4,rfl,⟨by simp[WW.new,Hr.new],by simp[WW.new,Hr.new],by simp[WW.new,Hr.new]⟩,Nat.le_refl _,Nat.le_refl _,by simp[WW.new,Sr.new],by simp[WW.new,Sr.new],by simp[WW.new],by simp[WW.new],by simp[WW.new],by simp[WW.new]⟩
def AB(a:Iz N w){m:HM}(hm:m.length<=40)(ho:Qo m):Iz (N+1) (w.act (.hand m)):=by
 have a':=a.mono (le_succ N);refine⟨a.sb.hand hm,a.bl.hand m,a.w0,a.w7,a.m8,a.hw,a'.bd,a'.op,a'.ho,fun y hy=>?_,fun p hp=>?_,a'.tk,a'.bk,a'.tl,a'.ql⟩
 ·rcases List.mem_append.mp (show y∈w.s.msgs++[m] from hy) with hy|hy
  ·exact a.gk y hy
  ·rw[List.mem_singleton.mp hy];exact ho
 ·have hp':p∈(if w.s.st=.Hs then w.s.ps else w.s.ps++dW w.s.most m):=hp;split at hp'
  ·exact a.pk p hp'
  ·rcases List.mem_append.mp hp' with hp'|hp'
   ·exact a.pk p hp'
   ·exact zp a.sb.most a.m8 hm ho p hp'
def yN(a:Iz N w):∀p,p∈w.s.anew.ps->p.2.length<=8/\Qo p.2:=fun p hp=>by
 obtain⟨m,hm,hp⟩:=List.mem_flatMap.mp (show p∈(w.s.msgs.drop w.s.sure).flatMap (dW w.s.most) from hp);have Sw:=mem_of_mem_drop hm;exact zp a.sb.most a.m8 (a.sb.PV m Sw) (a.gk m Sw) p hp
def Aj(a:Iz N w):Iz (N+1) (w.act .start):=by
 have a':=a.mono (le_succ N);by_cases h:w.s.st=.Hs
 ·have e:w.act .start = { w with s:=w.s.anew }:=by show({ w with s:=w.s.start }:WW)=_;unfold Sr.start;rw[if_pos h]
  have hb:Sb (N+1) w.s.anew:=by
   have:=(a.sb.start (s:=w.s)).mono (le_succ N);unfold Sr.start at this;rw[if_pos h] at this;exact this
  rw[e];exact⟨hb,Bl.anew,a.w0,a.w7,a.m8,a.hw,a'.bd,by have:=a.op;show w.s.op+1<=_;omega,a'.ho,a.gk,yN a,a'.tk,a'.bk,a'.tl,a'.ql⟩
 ·have e:w.act .start=w:=by show({ w with s:=w.s.start }:WW)=_;unfold Sr.start;rw[if_neg h]
  rw[e];exact a'
def yb(s:Sr):s.wanted.length<=s.w:=by
 unfold Sr.wanted;refine Nat.le_trans (List.length_filter_le _ _) ?_;rw[List.length_range'];omega
def pX(a:Iz N w)(hN:N<=24300):(∀c,c∈w.s.tick->Lp c/\c.H_<=N)/\w.s.tick.length<=7:=by
 have ho:=a.op;have hw:=a.w7;have h0:=a.w0;unfold Sr.tick;cases w.s.st with
 |Hs=>exact⟨fun c hc=>by simp at hc,by simp⟩
 |opening=>exact⟨fun c hc=>by simp at hc;subst hc;exact⟨(show w.s.op<=65535 by omega),ho⟩,by simp⟩
 |opened=>
  refine⟨fun c hc=>?_,by rw[length_map];have:=yb w.s;omega⟩;obtain⟨i,hi,rfl⟩:=List.mem_map.mp hc;obtain⟨h1,h2,h3,h4⟩:=dX hi;have Qk:w.s.ps.getD i (0,[])∈w.s.ps:=by
   rw[List.getD_eq_getElem?_getD,getElem?_eq_getElem h3];exact getElem_mem h3
  have hf:=a.sb.fg _ Qk;have hp:=a.pk _ Qk;have hm:=mod_lt i (show 0<2 * w.s.w by omega);exact⟨⟨by omega,by omega,by omega,hp.1,hp.2⟩,ho⟩
def Bw(a:Iz N w)(hN:N<=24300):Iz (N+1) (w.act .tick):=by
 have a':=a.mono (le_succ N);obtain⟨h1,h2⟩:=pX a hN;refine⟨a'.sb,a'.bl,a.w0,a.w7,a.m8,a.hw,a'.bd,a'.op,a'.ho,a.gk,a.pk,fun e he=>?_,a'.bk,?_,a'.ql⟩
 ·rcases List.mem_append.mp (show e∈w.T++w.s.tick.map gd from he) with he|he
  ·exact a'.tk e he
  ·obtain⟨c,hc,rfl⟩:=List.mem_map.mp he;exact(wx (h1 c hc).1 (h1 c hc).2).mono (le_succ _)
 ·show(w.T++w.s.tick.map gd).length<=_;have:=a.tl;rw[length_append,length_map];omega
def Iz.rd(a:Iz N w)(r:Bool):∀e,e∈w.road r->OU N e:=by
 cases r with
 |true=>exact a.tk
 |false=>exact a.bk
def Iz.rl(a:Iz N w)(r:Bool):(w.road r).length<=8 * N:=by
 cases r with
 |true=>exact a.tl
 |false=>exact a.ql
def Iz.HJ(a:Iz N w)(r:Bool){l:List En}(h1:∀e,e∈l->OU N e)(h2:l.length<=8 * N):Iz N (w.HJ r l):=by
 cases r with
 |true=>exact⟨a.sb,a.bl,a.w0,a.w7,a.m8,a.hw,a.bd,a.op,a.ho,a.gk,a.pk,h1,a.bk,h2,a.ql⟩
 |false=>exact⟨a.sb,a.bl,a.w0,a.w7,a.m8,a.hw,a.bd,a.op,a.ho,a.gk,a.pk,a.tk,h1,a.tl,h2⟩
def BM(a:Iz N w)(r:Bool)(k:Nat):Iz N (w.act (.N4 r k)):=by
 refine a.HJ r (fun e he=>a.rd r e (List.mem_of_mem_eraseIdx he)) ?_;have:=List.length_eraseIdx_le (w.road r) k;have:=a.rl r;omega
theorem lD{α:Type}:∀{l:List α}{k:Nat}{x y:α},y∈l.insertIdx k x->y=x\/y∈l
 |l,0,x,y,h=>by simpa using h
 |[],k+1,x,y,h=>by simp at h
 |z :: l,k+1,x,y,h=>by
  rw[List.insertIdx_succ_cons] at h;rcases List.mem_cons.mp h with rfl|h
  ·exact .inr mem_cons_self
  ·rcases lD h with h|h
   ·exact .inl h
   ·exact .inr (mem_cons_of_mem _ h)
def Cg(a:Iz N w)(r:Bool)(k:Nat):Iz (N+1) (w.act (.dbl r k)):=by
 have a':=a.mono (le_succ N);have hl:=a.rl r;refine a'.HJ r (fun e he=>?_) ?_
 ·unfold pC at he;split at he
  ·rename_i e' h';rcases lD he with rfl|he
   ·exact a'.rd r e (mem_of_getElem? h')
   ·exact a'.rd r e he
  ·exact a'.rd r e he
 ·unfold pC;split
  ·exact Nat.le_trans List.length_insertIdx_le_succ (by omega)
  ·omega
def qR(a:Iz N w)(hN:N<=24300){c:v_}(hc:Lp c)(Wh:c.H_<=N):(∀d,d∈(w.h.f_ c).2->Lp d/\d.H_<=N)/\(w.h.f_ c).2.length<=1/\(w.h.f_ c).1.op<=N:=by
 have ho:=a.ho;have hw:=a.hw;have h7:=a.w7;have h0:=a.w0;have Qp:∀h:Hr,h.op<=N->h.w=w.s.w->Lp h.note/\h.note.H_<=N:=by
  intro h h1 h2;refine⟨⟨by omega,?_,?_,fun x hx=>?_⟩,h1⟩
  ·have:=mod_lt h.nx (show 0<2 * h.w by omega);omega
  ·show h.bits.length<=7;unfold Hr.bits;rw[length_map,List.length_range];omega
  ·obtain⟨k,_,rfl⟩:=List.mem_map.mp (show x∈h.bits from hx);split<;>omega
 cases c with
 |x_ o=>
  have Pn:o<=65535:=hc;have TL:o<=N:=Wh;dsimp only[Hr.f_];split
  ·exact⟨fun d hd=>by simp at hd,by simp,ho⟩
  ·split
   ·exact⟨fun d hd=>by simp at hd;subst hd;exact⟨Pn,TL⟩,by simp,TL⟩
   ·exact⟨fun d hd=>by simp at hd;subst hd;exact⟨Pn,TL⟩,by simp,ho⟩
 |data o n p=>
  have Pn:=hc.1;have TL:o<=N:=Wh;dsimp only[Hr.f_];split
  ·exact⟨fun d hd=>by simp at hd,by simp,ho⟩
  ·split
   ·exact⟨fun d hd=>by simp at hd;subst hd;exact⟨Pn,TL⟩,by simp,ho⟩
   ·have e1:(w.h.data n p).op=w.h.op:=by
     unfold Hr.data;have t:∀(k:Nat) (h:Hr),(Hr.F_ k h).op=h.op:=by
      intro k
      induction k with
      |zero=>intro h;rfl
      |succ k ih=>
       intro h;unfold Hr.F_;split
       ·rfl
       ·rw[ih];unfold Hr.take;split<;>rfl
     rw[t];unfold Hr.keep;split<;>rfl
    have e2:=uL w.h n p;refine⟨fun d hd=>?_,by simp,by rw[e1];exact ho⟩;simp at hd;subst hd;exact Qp _ (by rw[e1];exact ho) (by rw[e2];exact hw)
 |t_ o=>exact⟨fun d hd=>by simp[Hr.f_] at hd,by simp[Hr.f_],ho⟩
 |Iy o=>exact⟨fun d hd=>by simp[Hr.f_] at hd,by simp[Hr.f_],ho⟩
 |note o n bs=>exact⟨fun d hd=>by simp[Hr.f_] at hd,by simp[Hr.f_],ho⟩
def Lp.Sv{c:v_}(h:Lp c):Sv c:=by
 cases c with
 |data o n p=>exact Nat.le_trans h.2.2.2.1 (by decide)
 |_=>trivial
def Lp.N1{c:v_}(h:Lp c):N1 c:=by
 cases c with
 |note o n bs=>exact h.2.2.1
 |_=>trivial
def nW(s:Sr)(n:Nat)(bs:List Int):(s.z_ n bs).ps=s.ps/\(s.z_ n bs).op=s.op/\(s.z_ n bs).msgs=s.msgs/\(s.z_ n bs).most=s.most:=by
 unfold Sr.z_;split
 ·have:=dr bs (s.I0 (iz n s.base s.w).toNat) 0;exact⟨this.2.2.2.2.2.2.1,this.2.2.2.2.1,this.2.2.1,this.2.1⟩
 ·exact⟨rfl,rfl,rfl,rfl⟩
def zW(a:Iz N w)(c:v_):(∀p,p∈(w.s.f_ c).ps->p.2.length<=8/\Qo p.2)/\(w.s.f_ c).op<=N+1/\(w.s.f_ c).msgs=w.s.msgs/\(w.s.f_ c).most=w.s.most:=by
 have ho:=a.op;cases c with
 |t_ o=>
  dsimp only[Sr.f_];split
  ·exact⟨a.pk,by show w.s.op<=_;omega,rfl,rfl⟩
  ·exact⟨a.pk,by omega,rfl,rfl⟩
 |Iy o=>
  dsimp only[Sr.f_];split
  ·exact⟨yN a,by show w.s.op+1<=_;omega,rfl,rfl⟩
  ·exact⟨a.pk,by omega,rfl,rfl⟩
 |note o n bs=>
  dsimp only[Sr.f_];split
  ·obtain⟨e1,e2,e3,e4⟩:=nW w.s n bs;rw[e1,e2,e3,e4];exact⟨a.pk,by omega,rfl,rfl⟩
  ·exact⟨a.pk,by omega,rfl,rfl⟩
 |x_ o=>exact⟨a.pk,by show w.s.op<=_;omega,rfl,rfl⟩
 |data o n p=>exact⟨a.pk,by show w.s.op<=_;omega,rfl,rfl⟩
def xr(a:Iz N w)(hN:N<=24300)(r:Bool){e:En}(he:OU N e):Iz (N+1) (w.Ij r e):=by
 have a':=a.mono (le_succ N);obtain⟨c,x⟩:=e;cases x with
 |some xs=>exact a'
 |none=>
  cases r with
  |true=>
   obtain⟨k1,k2,k3⟩:=qR a hN he.1 he.2.1;refine⟨a'.sb,a'.bl,a.w0,a.w7,a.m8,(Dd w.h c).trans a.hw,a.bd.f_ he.1.Sv,a'.op,Nat.le_succ_of_le k3,a.gk,a.pk,a'.tk,fun d hd=>?_,a'.tl,?_⟩
   ·rcases List.mem_append.mp (show d∈w.B++(w.h.f_ c).2.map gd from hd) with hd|hd
    ·exact a'.bk d hd
    ·obtain⟨q,hq,rfl⟩:=List.mem_map.mp hd;exact(wx (k1 q hq).1 (k1 q hq).2).mono (le_succ _)
   ·show(w.B++(w.h.f_ c).2.map gd).length<=_;have:=a.ql;have PW:(w.h.f_ c).2.length<=1:=k2;rw[length_append,length_map];omega
  |false=>
   obtain⟨k1,k2,k3,k4⟩:=zW a c;have hw:=AO w.s c;refine⟨a.sb.f_ he.1.N1,a.bl.f_ a.w0 c,by rw[show(w.Ij false ⟨c,none⟩).s=w.s.f_ c from rfl,hw];exact a.w0,by rw[show(w.Ij false ⟨c,none⟩).s=w.s.f_ c from rfl,hw];exact a.w7,by rw[show(w.Ij false ⟨c,none⟩).s=w.s.f_ c from rfl,k4];exact a.m8,by rw[show(w.Ij false ⟨c,none⟩).s=w.s.f_ c from rfl,hw];exact a.hw,a'.bd,k2,a'.ho,fun m hm=>a.gk m (by rw[<-k3];exact hm),k1,a'.tk,a'.bk,a'.tl,a'.ql⟩
def z7(w:WW)(r:Bool)(l:List En):(w.HJ r l).road r=l:=by cases r<;>rfl
def B0(a:Iz N w)(hN:N<=24300)(r:Bool):Iz (N+1) (w.act (.step r)):=by
 show Iz (N+1) (w.step r);unfold WW.step;cases h:w.road r with
 |nil=>exact a.mono (le_succ N)
 |cons e l=>
  have h1:=a.rd r;have h2:=a.rl r;rw[h] at h1 h2;rw[length_cons] at h2;exact xr (a.HJ r (fun d hd=>h1 d (mem_cons_of_mem _ hd)) (by omega)) hN r (h1 e mem_cons_self)
def AN{e:En}(he:OU N e)(place:Nat)(JE:Int):OU N (eZ e place JE):=by
 obtain⟨c,x⟩:=e;cases x with
 |some xs=>exact he
 |none=>
  unfold eZ;dsimp only;split
  ·exact he
  ·rename_i hb;have OS:3<=(az c).length/\(az c).length<=13:=gj he.1;have RU:(⟨c,none⟩:En).xs=IK (az c):=rfl;have UL:=nc (az c);refine⟨he.1,he.2.1,?_,?_⟩
   ·show(((⟨c,none⟩:En).xs).set _ _).length<=100;rw[length_set,RU,UL];omega
   ·intro xs hx c' SK
    injection hx with hx
    rw[<-hx,RU];obtain⟨i,hi⟩:∃i,place % (IK (az c)).length=i:=⟨_,rfl⟩;have JD:i<(IK (az c)).length:=by rw[<-hi];exact mod_lt _ (by omega)
    rw[hi];have Kn:=AZ (tq he.1);obtain⟨a,ha⟩:∃a,(IK (az c))[i]?=some a:=⟨_,getElem?_eq_getElem JD⟩;have hga:(IK (az c)).getD i 0=a:=by rw[List.getD_eq_getElem?_getD,ha];rfl
    rw[hga];exact ET ha (by omega) (az c')
def zX(a:Iz N w)(r:Bool)(k place:Nat)(JE:Int):Iz N (w.act (.LR r k place JE)):=by
 have hl:=a.rl r;refine a.HJ r (fun e he=>?_) ?_
 ·unfold im at he;split at he
  ·rename_i e' h';rcases List.mem_or_eq_of_mem_set he with he|rfl
   ·exact a.rd r e he
   ·exact AN (a.rd r e' (mem_of_getElem? h')) place JE
  ·exact a.rd r e he
 ·unfold im;split
  ·rw[length_set];exact hl
  ·exact hl
def Bq(a:Iz N w)(r:Bool):Iz N (w.act (.HD r)):=by
 cases r with
 |true=>exact⟨a.sb.HD,a.bl,a.w0,a.w7,a.m8,a.hw,a.bd,a.op,a.ho,a.gk,a.pk,a.tk,a.bk,a.tl,a.ql⟩
 |false=>exact⟨a.sb,a.bl,a.w0,a.w7,a.m8,a.hw,a.bd.begin_ 0,a.op,zero_le _,a.gk,a.pk,a.tk,a.bk,a.tl,a.ql⟩
def Act.ok:Act->Prop
 |.hand m=>m.length<=40/\Qo m
 |_=>True
def lF(a:Iz N w)(hN:N<=24300)(t:Act)(ht:t.ok):Iz (N+1) (w.act t):=by
 cases t with
 |hand m=>exact AB a ht.1 ht.2
 |start=>exact Aj a
 |tick=>exact Bw a hN
 |step r=>exact B0 a hN r
 |N4 r k=>exact(BM a r k).mono (le_succ N)
 |dbl r k=>exact Cg a r k
 |LR r k p b=>exact(zX a r k p b).mono (le_succ N)
 |HD r=>exact(Bq a r).mono (le_succ N)
end
structure Ad where
 n:Nat
 nS:Nat
 mS:Nat
 pS:Nat
 qS:Nat
 nH:Nat
 gH:Nat
 eH:Nat
 bH:Nat
 nR:Nat
 nT:Nat
 nB:Nat
def Ad.sf(a:Ad):List Nat:=[a.nS,a.mS,a.pS,a.qS]
def Ad.hf(a:Ad):List Nat:=[a.nH,a.gH,a.eH,a.bH]
def Ad.wf(a:Ad):List Nat:=[a.n,a.nR,a.nT,a.nB]
def Ad.fp(a:Ad):List Nat:=a.sf++a.hf++a.wf
def Ad.rn(a:Ad)(r:Bool):Nat:=if r then a.nT else a.nB
def bi(r:Bool):Str:=if r then "there" else "back"
def KW(e:En):D:=.tup [.tup (e.xs.map D.int),.bl e.x.isSome]
structure Jo(G:Cs)(S:List Cell)(a:Ad)(w:WW):Prop where
 ob:S[a.n]?=some (.ins G.World m_ [.ob a.nS,.ob a.nH,.ob a.nR])
 sr:Ht G S a.nS a.mS a.pS a.qS w.s
 hr:HL G S a.nH a.gH a.eH a.bH w.h
 rd:S[a.nR]?=some (.IT [(.inr "there",.ob a.nT),(.inr "back",.ob a.nB)])
 tt:S[a.nT]?=some (.lst (w.T.map KW))
 bb:S[a.nB]?=some (.lst (w.B.map KW))
 sh:∀i,i∈a.sf->∀j,j∈a.hf->i≠j
 sw:∀i,i∈a.sf->∀j,j∈a.wf->i≠j
 hw:∀i,i∈a.hf->∀j,j∈a.wf->i≠j
 tb:a.nT≠a.nB
structure Jk(G:Cs)(a:Ad)(S:List Cell)(a':Ad)(S':List Cell)(w':WW):Prop where
 at_:Jo G S' a' w'
 fr:Fr a.fp S S'
 nn:a'.n=a.n
 ad:∀i,i∈a'.fp->i∈a.fp\/S.length<=i
section
variable{G:Cs}{S S' S1 S2:List Cell}{a a' a1 a2:Ad}{w w' w1 w2:WW}{N:Nat}
def sT{i p q r s:Nat}:i∈[p,q,r,s]↔i=p\/i=q\/i=r\/i=s:=by simp
def Jo.lt(A:Jo G S a w):∀i,i∈a.fp->i<S.length:=by
 intro i hi;simp only[Ad.fp,Ad.sf,Ad.hf,Ad.wf,mem_append,sT] at hi;rcases hi with ((rfl|rfl|rfl|rfl)|(rfl|rfl|rfl|rfl))|(rfl|rfl|rfl|rfl)
 ·exact br A.sr.ob
 ·exact br A.sr.ms
 ·exact br A.sr.ps
 ·exact br A.sr.nt
 ·exact br A.hr.ob
 ·exact br A.hr.gv
 ·exact br A.hr.ea
 ·exact br A.hr.be
 ·exact br A.ob
 ·exact br A.rd
 ·exact br A.tt
 ·exact br A.bb
def Ad.RW{a:Ad}{i:Nat}(h:i∈a.sf):i∈a.fp:=by simp only[Ad.fp,mem_append];exact .inl (.inl h)
def Ad.RX{a:Ad}{i:Nat}(h:i∈a.hf):i∈a.fp:=by simp only[Ad.fp,mem_append];exact .inl (.inr h)
def Ad.Qq{a:Ad}{i:Nat}(h:i∈a.wf):i∈a.fp:=by simp only[Ad.fp,mem_append];exact .inr h
def Ht.fr{n m p q:Nat}{s:Sr}{fp:List Nat}(a:Ht G S n m p q s)(f:Fr fp S S')(h:∀i,i∈[n,m,p,q]->i∉fp):Ht G S' n m p q s:=
 ⟨f.get a.ob (h _ (by simp)),f.get a.ms (h _ (by simp)),f.get a.ps (h _ (by simp)),f.get a.nt (h _ (by simp)),a.mp⟩
def Jo.fr{fp:List Nat}(A:Jo G S a w)(f:Fr fp S S')(h:∀i,i∈a.fp->i∉fp):Jo G S' a w:=by
 have hs:∀i,i∈a.sf->i∉fp:=fun i hi=>h i (Ad.RW hi)
 have hh:∀i,i∈a.hf->i∉fp:=fun i hi=>h i (Ad.RX hi)
 have hw:∀i,i∈a.wf->i∉fp:=fun i hi=>h i (Ad.Qq hi)
 exact⟨f.get A.ob (hw _ (by simp[Ad.wf])),A.sr.fr f hs,A.hr.fr f (hh _ (by simp[Ad.hf])) (hh _ (by simp[Ad.hf])) (hh _ (by simp[Ad.hf])) (hh _ (by simp[Ad.hf])),f.get A.rd (hw _ (by simp[Ad.wf])),f.get A.tt (hw _ (by simp[Ad.wf])),f.get A.bb (hw _ (by simp[Ad.wf])),A.sh,A.sw,A.hw,A.tb⟩
def Jo.push(A:Jo G S a w)(c:List Cell):Jo G (S++c) a w:=A.fr (fp:=[]) Fr.push fun _ _ z=>nomatch z
def Jk.refl(A:Jo G S a w):Jk G a S a S w:=⟨A,Fr.refl _ _,rfl,fun i hi=>.inl hi⟩
def Jk.trans(A:Jk G a S a1 S1 w1)(C:Jk G a1 S1 a2 S2 w2):Jk G a S a2 S2 w2:=by
 have hl:=A.fr.1;refine⟨C.at_,A.fr.trans C.fr fun i hi hs=>?_,C.nn.trans A.nn,fun i hi=>?_⟩
 ·rcases A.ad i hi with h|h
  ·exact h
  ·omega
 ·rcases C.ad i hi with h|h
  ·exact A.ad i h
  ·exact .inr (by omega)
def Jk.grow(A:Jk G a S1 a' S' w')(h:Fr [] S S1):Jk G a S a' S' w':=by
 have hl:=h.1;refine⟨A.at_,(h.mono fun i hi _=>nomatch hi).tr A.fr,A.nn,fun i hi=>?_⟩;rcases A.ad i hi with z|z
 ·exact .inl z
 ·exact .inr (by omega)
def Jo.snd(A:Jo G S a w){p' q':Nat}{s':Sr}(k:II G a.nS a.mS a.pS a.qS S p' q' S' s'):Jk G a S { a with pS:=p',qS:=q' } S' { w with s:=s' }:=by
 have Wi:∀i,i∈a.wf->i<S.length:=fun i hi=>A.lt i (Ad.Qq hi)
 have lth:∀i,i∈a.hf->i<S.length:=fun i hi=>A.lt i (Ad.RX hi)
 have IA:∀i,i∈[a.nS,a.mS,p',q']->i∈a.sf\/S.length<=i:=fun i hi=>by
  have h1:=k.p_;have h2:=k.q_;simp only[sT,Ad.sf] at hi ⊢;rcases hi with rfl|rfl|rfl|rfl
  ·exact .inl (.inl rfl)
  ·exact .inl (.inr (.inl rfl))
  ·rcases h1 with rfl|h1
   ·exact .inl (.inr (.inr (.inl rfl)))
   ·exact .inr h1
  ·rcases h2 with rfl|h2
   ·exact .inl (.inr (.inr (.inr rfl)))
   ·exact .inr h2
 have ow:∀j,j∈a.wf->j∉[a.nS,a.mS,a.pS,a.qS]:=fun j hj z=>A.sw j z j hj rfl
 have oh:∀j,j∈a.hf->j∉[a.nS,a.mS,a.pS,a.qS]:=fun j hj z=>A.sh j z j hj rfl
 refine⟨⟨k.fr.get A.ob (ow _ (by simp[Ad.wf])),k.at_,A.hr.fr k.fr (oh _ (by simp[Ad.hf])) (oh _ (by simp[Ad.hf])) (oh _ (by simp[Ad.hf])) (oh _ (by simp[Ad.hf])),k.fr.get A.rd (ow _ (by simp[Ad.wf])),k.fr.get A.tt (ow _ (by simp[Ad.wf])),k.fr.get A.bb (ow _ (by simp[Ad.wf])),fun i hi j hj=>?_,fun i hi j hj=>?_,A.hw,A.tb⟩,k.fr.mono (fun i hi _=>Ad.RW hi),rfl,fun i hi=>?_⟩
 ·rcases IA i hi with h|h
  ·exact A.sh i h j hj
  ·have:=lth j hj;omega
 ·rcases IA i hi with h|h
  ·exact A.sw i h j hj
  ·have:=Wi j hj;omega
 ·simp only[Ad.fp,mem_append] at hi ⊢;rcases hi with (hi|hi)|hi
  ·rcases IA i hi with h|h
   ·exact .inl (.inl (.inl h))
   ·exact .inr h
  ·exact .inl (.inl (.inr hi))
  ·exact .inl (.inr hi)
def Jo.Y6(A:Jo G S a w){e' b':Nat}{h':Hr}(k:Ii G a.nH a.gH a.eH a.bH S e' b' S' h'):Jk G a S { a with eH:=e',bH:=b' } S' { w with h:=h' }:=by
 have Wi:∀i,i∈a.wf->i<S.length:=fun i hi=>A.lt i (Ad.Qq hi)
 have lts:∀i,i∈a.sf->i<S.length:=fun i hi=>A.lt i (Ad.RW hi)
 have IA:∀i,i∈[a.nH,a.gH,e',b']->i∈a.hf\/S.length<=i:=fun i hi=>by
  have h1:=k.e_;have h2:=k.b_;simp only[sT,Ad.hf] at hi ⊢;rcases hi with rfl|rfl|rfl|rfl
  ·exact .inl (.inl rfl)
  ·exact .inl (.inr (.inl rfl))
  ·rcases h1 with rfl|h1
   ·exact .inl (.inr (.inr (.inl rfl)))
   ·exact .inr h1
  ·rcases h2 with rfl|h2
   ·exact .inl (.inr (.inr (.inr rfl)))
   ·exact .inr h2
 have ow:∀j,j∈a.wf->j∉[a.nH,a.gH,a.eH,a.bH]:=fun j hj z=>A.hw j z j hj rfl
 have os:∀j,j∈a.sf->j∉[a.nH,a.gH,a.eH,a.bH]:=fun j hj z=>A.sh j hj j z rfl
 refine⟨⟨k.fr.get A.ob (ow _ (by simp[Ad.wf])),A.sr.fr k.fr os,k.at_,k.fr.get A.rd (ow _ (by simp[Ad.wf])),k.fr.get A.tt (ow _ (by simp[Ad.wf])),k.fr.get A.bb (ow _ (by simp[Ad.wf])),fun i hi j hj=>?_,A.sw,fun i hi j hj=>?_,A.tb⟩,k.fr.mono (fun i hi _=>Ad.RX hi),rfl,fun i hi=>?_⟩
 ·rcases IA j hj with h|h
  ·exact A.sh i hi j h
  ·have:=lts i hi;omega
 ·rcases IA i hi with h|h
  ·exact A.hw i h j hj
  ·have:=Wi j hj;omega
 ·simp only[Ad.fp,mem_append] at hi ⊢;rcases hi with (hi|hi)|hi
  ·exact .inl (.inl (.inl hi))
  ·rcases IA i hi with h|h
   ·exact .inl (.inl (.inr h))
   ·exact .inr h
  ·exact .inl (.inr hi)
def Jo.cell(A:Jo G S a w)(r:Bool):S[a.rn r]?=some (.lst ((w.road r).map KW)):=by
 cases r with
 |true=>exact A.tt
 |false=>exact A.bb
def Ad.TM(a:Ad)(r:Bool):a.rn r∈a.wf:=by cases r<;>simp[Ad.rn,Ad.wf]
def Jo.TN(A:Jo G S a w)(r:Bool){l:List En}(c:Ch (a.rn r) (.lst (l.map KW)) S S'):Jk G a S a S' (w.HJ r l):=by
 have hm:=a.TM r;have os:∀j,j∈a.sf->j∉[a.rn r]:=fun j hj z=>A.sw j hj _ hm (List.mem_singleton.mp z)
 have oh:∀j,j∈a.hf->j∉[a.rn r]:=fun j hj z=>A.hw j hj _ hm (List.mem_singleton.mp z)
 have nR:a.rn r≠a.nR:=dz (A.cell r) A.rd (by intro z;cases z);have nn:a.rn r≠a.n:=dz (A.cell r) A.ob (by intro z;cases z);refine⟨⟨?_,?_,?_,?_,?_,?_,A.sh,A.sw,A.hw,A.tb⟩,c.fr.mono (fun i hi _=>by rw[List.mem_singleton.mp hi];exact Ad.Qq hm),rfl,fun i hi=>.inl hi⟩
 ·exact c.old A.ob nn
 ·cases r<;>exact A.sr.fr c.fr os
 ·cases r<;>exact A.hr.fr c.fr (oh _ (by simp[Ad.hf])) (oh _ (by simp[Ad.hf])) (oh _ (by simp[Ad.hf])) (oh _ (by simp[Ad.hf]))
 ·exact c.old A.rd nR
 ·cases r with
  |true=>exact c.at_
  |false=>exact c.old A.tt (Ne.symm A.tb)
 ·cases r with
  |true=>exact c.old A.bb A.tb
  |false=>exact c.at_
def EA(A:Jo G S a w)(r:Bool):gK (.ob a.nR) (.str (bi r)) S=.ok (.ob (a.rn r)) S:=by
 unfold gK;have h:dE S a.nR=some [(.inr "there",.ob a.nT),(.inr "back",.ob a.nB)]:=by unfold dE;rw[A.rd]
 cases r with
 |true=>
  have:iC [(.inr "there",.ob a.nT),(.inr "back",.ob a.nB)] (.inr "there")=some (.ob a.nT):=by
   unfold iC;rw[find?_cons];simp
  simp only[iA,h,bi,if_true,this];rfl
 |false=>
  have e:decide ((Sum.inr ("there":Str):Key)=Sum.inr ("back":Str))=false:=by decide +kernel
  have:iC [(.inr "there",.ob a.nT),(.inr "back",.ob a.nB)] (.inr "back")=some (.ob a.nB):=by
   unfold iC;rw[find?_cons,e];simp
  simp only[iA,h,bi,this,Bool.false_eq_true,if_false];rfl
def pr(A:Jo G S a w)(r:Bool)(rest:tB):g_ gK (aA G.World m_ 2 h_) w_ (some (.ob a.n) :: some (.str (bi r)) :: rest) S=.ok (.ob (a.rn r)) S:=
 ar (bT rfl A.ob rfl) rfl (EA A r)
def u6(A:Jo G S a w)(r:Bool)(k:Nat):aT G [.ob a.n,.str (bi r),.int (k:Int)] S=.ok (.bl (decide (k<(w.road r).length))) S:=by
 show fin S (eV G [sO a.n,sS (bi r),sI (k:Int)] S)=_;unfold eV;have e1:ak bq (aa (g_ gK (aA G.World m_ 2 h_) w_) ai) [sO a.n,sS (bi r),sI (k:Int)] S=.ok (.int ((w.road r).length:Int)) S:=by
  refine av (af (pr A r _) ah) ?_;rw[fZ (A.cell r),length_map]
 rw[aN (d:=.bl (decide (k<(w.road r).length))) (S1:=S)]
 ·rfl
 ·rw[Ca,au];simp only[uU];rw[au];show(((Om (.int 0) (.int (k:Int))).bind Rq).bind _) S=_;rw[au,au,zR,decide_eq_true (show(0:Int)<=(k:Int) by omega)];simp only[FL,if_true];rw[au,e1];simp only[qv];congr 2;rw[decide_eq_decide];omega
def xh(A:Jo G S a w)(r:Bool){l:Nat}{cs:List v_}(hl:S[l]?=some (.lst (cs.map o_)))(Y7:l≠a.rn r)(hc:∀c,c∈cs->Lp c)(hz:(w.road r).length+cs.length<=1000000) :
  ∃S',bX G [.ob a.n,.str (bi r),.ob l] S=.ok .G0 S'/\Jk G a S a S' (w.HJ r (w.road r++cs.map gd)):=by
 show ∃S',fin S (eE G [sO a.n,sS (bi r),sO l,none] S)=_/\_;unfold eE;have hw:Js Hv [sO a.n,sS (bi r),sO l,none] S=.ok ⟨cs.map o_,some (l,cs.map o_)⟩ S:=by
  rw[jW,au];show i8 (.ob l) S=_;simp only[i8,hl]
 obtain⟨r',S',q,x3,rfl,k,_⟩:=cK (g:=some (l,cs.map o_)) (tg:=gN 3) (b:=dM G)
  (fun i r' S'=>∃x3,r'=[sO a.n,sS (bi r),sO l,x3]/\Jk G a S a S' (w.HJ r (w.road r++(cs.take i).map gd))/\S'[l]?=some (.lst (cs.map o_))) (cs.map o_) 0 [sO a.n,sS (bi r),sO l,none] S
  (by
   rintro i y r' S' hy ⟨x3,rfl,k,Y8⟩;rw[getElem?_map] at hy;cases hp:cs[i]? with
   |none=>rw[hp] at hy;cases hy
   |some c=>
    rw[hp] at hy;cases hy;rw[Nat.zero_add] at k ⊢;have Oh:=(List.getElem?_eq_some_iff.mp hp).1;have Hc:=hc c (mem_of_getElem? hp);have k':=k.at_;have HF:=k'.cell r;rw[z7] at HF;obtain⟨S2,e2,c2⟩:=vf (fo:=g_ gK (aA G.World m_ 2 h_) w_) (ft:=aa (bY (aa (ak (jX G) (aa Hk ai)) (aa (dC (.bl false)) ai))) ai) (r:=[sO a.n,sS (bi r),sO l,some (o_ c)]) (d:=KW (gd c))
     (pr k' r _) HF (af (bF (af (av (af rfl ah) (xb Hc _)) (af rfl ah)) (by simp)) ah) (by rw[length_map,length_append,length_map,length_take];omega)
    have c3:Ch (a.rn r) (.lst ((w.road r++(cs.take (i+1)).map gd).map KW)) S' S2:=by
     have e:(w.road r++(cs.take (i+1)).map gd).map KW=(w.road r++(cs.take i).map gd).map KW++[KW (gd c)]:=by rw[take_add_one,hp];simp
     rw[e];exact c2
    have kk:=k.trans (k'.TN r c3);have K6:(w.HJ r (w.road r++(cs.take i).map gd)).HJ r (w.road r++(cs.take (i+1)).map gd)=w.HJ r (w.road r++(cs.take (i+1)).map gd):=by cases r<;>rfl
    rw[K6] at kk;refine⟨[sO a.n,sS (bi r),sO l,some (o_ c)],[sO a.n,sS (bi r),sO l,some (o_ c)],S2,rfl,?_,c3.old Y8 (Ne.symm Y7),some (o_ c),rfl,kk,c3.old Y8 (Ne.symm Y7)⟩;unfold dM;exact aU e2)
  ⟨none,rfl,by
   have:w.HJ r (w.road r++(cs.take 0).map gd)=w:=by cases r<;>simp[WW.HJ,WW.road]
   rw[this];exact Jk.refl A,hl⟩
 rw[show 0+(cs.map o_).length=cs.length by simp,take_length] at k;refine⟨S',?_,k⟩;rw[jC hw,q];rfl
def CL(A:Jo G S a w)(K:Iz N w)(hN:N<24300){m:HM}(hm:m.length<=40):∃S' a',ip G [.ob a.n,B_ m] S=.ok .G0 S'/\Jk G a S a' S' (w.act (.hand m)):=by
 obtain⟨S',e,k⟩:=CJ A.sr K.sb hN hm;refine⟨S',_,?_,A.snd k⟩;show fin S (jS G [sO a.n,some (B_ m)] S)=_;unfold jS;rw[aU (aO (bT rfl A.ob rfl) A.sr.ob (af rfl ah) e)];rfl
def vW(A:Jo G S a w)(K:Iz N w)(hN:N<=24300):∃S' a',dH G [.ob a.n] S=.ok .G0 S'/\Jk G a S a' S' (w.act .start):=by
 obtain⟨S',p',q',e,k⟩:=BO A.sr K.sb hN;refine⟨S',_,?_,A.snd k⟩;show fin S (iW G [sO a.n] S)=_;unfold iW;rw[aU (aO (bT rfl A.ob rfl) A.sr.ob ah e)];rfl
def DN(A:Jo G S a w)(r:Bool):∃S' a',iq G [.ob a.n,.str (if r then "sender" else "hearer")] S=.ok .G0 S'/\Jk G a S a' S' (w.act (.HD r)):=by
 cases r with
 |true=>
  obtain⟨S',e,k⟩:=Di A.sr;refine⟨S',_,?_,A.snd k⟩;show fin S (eQ G [sO a.n,sS "sender"] S)=_;unfold eQ;rw[aw (by rw[aW (ay (ar rfl rfl bc))];exact aU (aO (bT rfl A.ob rfl) A.sr.ob ah e)),ax (ay (ar rfl rfl bc))];rfl
 |false=>
  obtain⟨S',e',b',e,k⟩:=Dv A.hr;refine⟨S',_,?_,A.Y6 k⟩;show fin S (eQ G [sO a.n,sS "hearer"] S)=_;unfold eQ;rw[aw (by rw[ax (ay (ar rfl rfl bc))];rfl),aW (ay (ar rfl rfl bc)),aU (aO (bT rfl A.ob rfl) A.hr.ob ah e)];rfl
def zi(A:Jo G S a w)(K:Iz N w)(hN:N<=24300):∃S' a',ei G [.ob a.n] S=.ok .G0 S'/\Jk G a S a' S' (w.act .tick):=by
 have hp:=K.sb.pl;obtain⟨S1,l,e,k,hl,IA⟩:=DO A.sr K.w0 (by omega) (fun _=>K.bl);have k1:=A.snd k;obtain⟨t1,t2⟩:=pX K hN;have tl:=K.tl;have PX:l≠a.nT:=fun z=>by have:=br A.tt;omega
 obtain⟨S2,e2,k2⟩:=xh k1.at_ true hl PX (fun c hc=>(t1 c hc).1) (by show w.T.length+_<=_;omega);refine⟨S2,_,?_,k1.trans k2⟩;show fin S (jw G [sO a.n] S)=_;unfold jw;rw[aU (aO rfl A.ob (af rfl (af (aO (bT rfl A.ob rfl) A.sr.ob ah e) ah)) e2)];rfl
def zC(A:Jo G S a w)(K:Iz N w)(hN:N<24300)(r:Bool){e:En}(he:OU N e):∃S' a',fQ G [.ob a.n,.str (bi r),.tup (e.xs.map D.int)] S=.ok .G0 S'/\Jk G a S a' S' (w.Ij r e):=by
 show ∃S' a',fin S (il G [sO a.n,sS (bi r),some (.tup (e.xs.map D.int)),none] S)=_/\_;unfold il;obtain⟨c,x⟩:=e;cases x with
 |some xs=>
  have Ro:=DI (G:=G) (xs:=xs) (Nat.le_trans he.2.2.1 (by decide)) (he.2.2.2 xs rfl) S;have t1:xm [G.Ig] (cz (ak (kX G) (aa Hv ai)) (gN 3)) (cz (dC .G0) (gN 3)) [sO a.n,sS (bi r),some (.tup (xs.map D.int)),none] S=some (.nx [sO a.n,sS (bi r),some (.tup (xs.map D.int)),some .G0],S):=by
   have e3:cz (ak (kX G) (aa Hv ai)) (gN 3) [sO a.n,sS (bi r),some (.tup (xs.map D.int)),none] S=some (.xc G.Ig [sO a.n,sS (bi r),some (.tup (xs.map D.int)),none],S):=by
    unfold cz;rw[uz,av (af rfl ah) Ro]
   unfold xm;rw[e3];simp[YR]
  have t2:∀(k:Str),dg (am (g_ lj Hk (dC .G0))) (am (g_ G_ w_ (dC (.str k)))) [sO a.n,sS (bi r),some (.tup (xs.map D.int)),some .G0] S=.ok false S:=fun k=>rfl
  refine⟨S,a,?_,Jk.refl A⟩;show fin S (aI _ _ [sO a.n,sS (bi r),some (.tup (xs.map D.int)),none] S)=_;rw[aw t1,aw (by rw[ax (t2 _)];rfl),ax (t2 _)];rfl
 |none=>
  have Hc:Lp c:=he.1;have Ro:=Da (G:=G) Hc S;have t1:xm [G.Ig] (cz (ak (kX G) (aa Hv ai)) (gN 3)) (cz (dC .G0) (gN 3)) [sO a.n,sS (bi r),some (.tup ((IK (az c)).map D.int)),none] S=some (.nx [sO a.n,sS (bi r),some (.tup ((IK (az c)).map D.int)),some (o_ c)],S):=by
   unfold xm;rw[bz (av (af rfl ah) Ro)];rfl
  have nn:∀T,am (g_ lj Hk (dC .G0)) [sO a.n,sS (bi r),some (.tup ((IK (az c)).map D.int)),some (o_ c)] T=.ok true T:=fun T=>by cases c<;>rfl
  show ∃S' a',fin S (aI _ _ [sO a.n,sS (bi r),some (.tup ((IK (az c)).map D.int)),none] S)=_/\_;rw[aw t1];cases r with
  |true=>
   have y1:∀T,dg (am (g_ lj Hk (dC .G0))) (am (g_ G_ w_ (dT "there"))) [sO a.n,sS (bi true),some (.tup ((IK (az c)).map D.int)),some (o_ c)] T=.ok true T:=fun T=>by
    rw[cR,au,nn];exact ay (ar rfl rfl (show G_ (.str "there") (.str "there") T=.ok (.bl true) T from bc))
   have y2:∀T,dg (am (g_ lj Hk (dC .G0))) (am (g_ G_ w_ (dT "back"))) [sO a.n,sS (bi true),some (.tup ((IK (az c)).map D.int)),some (o_ c)] T=.ok false T:=fun T=>by
    rw[cR,au,nn];exact ay (ar rfl rfl (show G_ (.str "there") (.str "back") T=.ok (.bl false) T from bc))
   obtain⟨S1,e',b',l,q1,k1,o1⟩:=BI A.hr (by rw[K.hw];exact K.w0) (by rw[K.hw];have:=K.w7;omega) K.bd hN Hc.Sv;have k2:=A.Y6 k1;obtain⟨h1,h2,h3⟩:=qR K (by omega) Hc he.2.1;have ql:=K.ql;have PX:l≠a.nB:=fun z=>by have:=br A.bb;have:=o1.new;omega
   obtain⟨S2,q2,k3⟩:=xh k2.at_ false o1.at_ PX (fun d hd=>(h1 d hd).1) (by show w.B.length+_<=_;omega);refine⟨S2,_,?_,k2.trans k3⟩;rw[aw (by rw[aW (y1 _)];exact aU (aO rfl A.ob (af rfl (af (aO (bT rfl A.ob rfl) A.hr.ob (af rfl ah) q1) ah)) q2)),ax (y2 _)];rfl
  |false=>
   have y1:∀T,dg (am (g_ lj Hk (dC .G0))) (am (g_ G_ w_ (dT "there"))) [sO a.n,sS (bi false),some (.tup ((IK (az c)).map D.int)),some (o_ c)] T=.ok false T:=fun T=>by
    rw[cR,au,nn];exact ay (ar rfl rfl (show G_ (.str "back") (.str "there") T=.ok (.bl false) T from bc))
   have y2:∀T,dg (am (g_ lj Hk (dC .G0))) (am (g_ G_ w_ (dT "back"))) [sO a.n,sS (bi false),some (.tup ((IK (az c)).map D.int)),some (o_ c)] T=.ok true T:=fun T=>by
    rw[cR,au,nn];exact ay (ar rfl rfl (show G_ (.str "back") (.str "back") T=.ok (.bl true) T from bc))
   obtain⟨S1,p',q',l,e1,k1,hl,IA⟩:=B3 A.sr K.sb (by omega) K.w0 Hc.N1;have k2:=A.snd k1;have PX:l≠a.nT:=fun z=>by have:=br A.tt;omega
   obtain⟨S2,q2,k3⟩:=xh (cs:=[]) k2.at_ true hl PX (fun d hd=>by simp at hd) (by have:=K.tl;show w.T.length+_<=_;simp;omega);refine⟨S2,{ a with pS:=p',qS:=q' },?_,?_⟩
   ·rw[aw (by rw[ax (y1 _)];rfl),aW (y2 _),aU (aO rfl A.ob (af rfl (af (aO (bT rfl A.ob rfl) A.sr.ob (af rfl ah) e1) ah)) q2)];rfl
   ·have k4:=k2.trans k3;have:({ w with s:=w.s.f_ c }:WW).HJ true (({ w with s:=w.s.f_ c }:WW).road true++([]:List v_).map gd)=w.Ij false ⟨c,none⟩:=by
     show({ s:=w.s.f_ c,h:=w.h,T:=w.T++[],B:=w.B }:WW)=_;rw[append_nil];rfl
    rw[this] at k4;exact k4
def D8{n:Nat}{xs:List D}{k:Nat}{d:D}(hn:S[n]?=some (.lst xs))(hk:xs[k]?=some d):w4 (.ob n) [.int (k:Int)] S=.ok d (S.set n (.lst (xs.eraseIdx k))):=by
 have JD:=(List.getElem?_eq_some_iff.mp hk).1;unfold w4;simp only[ca hn];rw[cf ⟨by omega,by omega⟩,toNat_natCast];simp only[hk]
def ze(A:Jo G S a w)(K:Iz N w)(hN:N<24300)(r:Bool):∃S' a',eo G [.ob a.n,.str (bi r)] S=.ok .G0 S'/\Jk G a S a' S' (w.act (.step r)):=by
 show ∃S' a',fin S (jQ G [sO a.n,sS (bi r)] S)=_/\Jk G a S a' S' (w.step r);unfold jQ;have t1:bW (aX G.World m_ (aT G) h_ (aa w_ (aa (dI 0) ai))) [sO a.n,sS (bi r)] S=.ok (decide (0<(w.road r).length)) S:=by
  rw[cX,au,aO rfl A.ob (af rfl (af rfl ah)) (u6 A r 0)];rfl
 unfold WW.step;cases hr:w.road r with
 |nil=>
  rw[hr] at t1;refine⟨S,a,?_,Jk.refl A⟩;rw[ax t1];rfl
 |cons e l=>
  rw[hr,decide_eq_true (by simp)] at t1;have HF:=A.cell r;rw[hr] at HF;have hk:=K.rd r e (by rw[hr];exact mem_cons_self);have hp:=D8 (k:=0) (d:=KW e) HF rfl;have So:((e :: l).map KW).eraseIdx 0=l.map KW:=rfl;rw[So] at hp;have c1:Ch (a.rn r) (.lst (l.map KW)) S (S.set (a.rn r) (.lst (l.map KW))):=Ch.set HF;have k1:=A.TN r c1;have K1:Iz N (w.HJ r l):=by
   have h1:=K.rd r;have h2:=K.rl r;rw[hr] at h1 h2;rw[length_cons] at h2;exact K.HJ r (fun d hd=>h1 d (mem_cons_of_mem _ hd)) (by omega)
  obtain⟨S2,a2,e2,k2⟩:=zC k1.at_ K1 hN r hk;refine⟨S2,a2,?_,k1.trans k2⟩;have e1:g_ y_ (KG w4 (g_ gK (aA G.World m_ 2 h_) w_) (aa (dI 0) ai)) (dI 0) [sO a.n,sS (bi r)] S=.ok (.tup (e.xs.map D.int)) (S.set (a.rn r) (.lst (l.map KW))):=
   ar (ld (pr A r _) HF (af rfl ah) hp) rfl (aR (i:=0) rfl)
  rw[aW t1,aU (aO rfl A.ob (af rfl (af e1 ah)) e2)];rfl
def Dj(A:Jo G S a w)(r:Bool)(k:Nat):∃S' a',iu G [.ob a.n,.str (bi r),.int (k:Int)] S=.ok .G0 S'/\Jk G a S a' S' (w.act (.N4 r k)):=by
 show ∃S' a',fin S (jJ G [sO a.n,sS (bi r),sI (k:Int)] S)=_/\Jk G a S a' S' (w.HJ r ((w.road r).eraseIdx k));unfold jJ;have t1:bW (aX G.World m_ (aT G) h_ (aa w_ (aa Hv ai))) [sO a.n,sS (bi r),sI (k:Int)] S=.ok (decide (k<(w.road r).length)) S:=by
  rw[cX,au,aO rfl A.ob (af rfl (af rfl ah)) (u6 A r k)];rfl
 by_cases hk:k<(w.road r).length
 ·rw[decide_eq_true hk] at t1;have HF:=A.cell r;obtain⟨e,he⟩:∃e,(w.road r)[k]?=some e:=⟨_,getElem?_eq_getElem hk⟩;have hp:=D8 (k:=k) (d:=KW e) HF (by rw[getElem?_map,he];rfl);rw[lR] at hp;have k1:=A.TN (l:=(w.road r).eraseIdx k) r (Ch.set HF);refine⟨_,a,?_,k1⟩;rw[aW t1,aU (ld (pr A r _) HF (af rfl ah) hp)];rfl
 ·rw[decide_eq_false hk] at t1;refine⟨S,a,?_,?_⟩
  ·rw[ax t1];rfl
  ·rw[List.eraseIdx_of_length_le (by omega)];have:w.HJ r (w.road r)=w:=by cases r<;>rfl
   rw[this];exact Jk.refl A
theorem nK{α:Type}:∀(l:List α) (k:Nat) (x:α),k<=l.length->l.insertIdx k x=l.take k++x :: l.drop k
 |l,0,x,_=>by simp
 |[],k+1,x,h=>by simp at h
 |y :: l,k+1,x,h=>by
  rw[List.insertIdx_succ_cons,nK l k x (by simpa using h)];rfl
def Ee(A:Jo G S a w)(K:Iz N w)(hN:N<=24300)(r:Bool)(k:Nat):∃S' a',fJ G [.ob a.n,.str (bi r),.int (k:Int)] S=.ok .G0 S'/\Jk G a S a' S' (w.act (.dbl r k)):=by
 show ∃S' a',fin S (io G [sO a.n,sS (bi r),sI (k:Int)] S)=_/\Jk G a S a' S' (w.HJ r (pC (w.road r) k));unfold io;have t1:bW (aX G.World m_ (aT G) h_ (aa w_ (aa Hv ai))) [sO a.n,sS (bi r),sI (k:Int)] S=.ok (decide (k<(w.road r).length)) S:=by
  rw[cX,au,aO rfl A.ob (af rfl (af rfl ah)) (u6 A r k)];rfl
 have hl:=K.rl r;unfold pC;by_cases hk:k<(w.road r).length
 ·rw[decide_eq_true hk] at t1;have HF:=A.cell r;obtain⟨e,he⟩:∃e,(w.road r)[k]?=some e:=⟨_,getElem?_eq_getElem hk⟩;rw[he];have TQ:g_ y_ (g_ gK (aA G.World m_ 2 h_) w_) Hv [sO a.n,sS (bi r),sI (k:Int)] S=.ok (KW e) S:=ar (pr A r _) rfl (jp HF (by rw[getElem?_map,he];rfl));have Kn:vC (.ob (a.rn r)) [.int (k:Int),KW e] S=.ok .G0 (S.set (a.rn r) (.lst (((w.road r).insertIdx k e).map KW))):=by
   unfold vC;simp only[ca HF];rw[cf ⟨⟨by omega,by rw[length_map];omega⟩,by rw[length_map];exact Pd (show(w.road r).length<=1000000 by omega)⟩,toNat_natCast,nK _ _ _ (by omega),map_append,map_cons,map_take,map_drop]
  have k1:=A.TN (l:=(w.road r).insertIdx k e) r (Ch.set HF);refine⟨_,a,?_,k1⟩;rw[aW t1,aU (ld (pr A r _) HF (af rfl (af TQ ah)) Kn)];rfl
 ·rw[decide_eq_false hk] at t1;rw[List.getElem?_eq_none (by omega)];refine⟨S,a,?_,?_⟩
  ·rw[ax t1];rfl
  ·have:w.HJ r (w.road r)=w:=by cases r<;>rfl
   show Jk G a S a S (w.HJ r (w.road r));rw[this];exact Jk.refl A
def wW{xs:List Int}(hx:0<xs.length)(hl:xs.length<=1000)(place:Nat)(JE:Int)(S:List Cell):jY [.tup (xs.map D.int),.int (place:Int),.int JE] S=.ok (.tup ((xs.set (place % xs.length) ((xs.getD (place % xs.length) 0+JE) % 256)).map D.int)) S:=by
 show cI S (mT [some (.tup (xs.map D.int)),sI (place:Int),sI JE,none,none] S)=_;unfold mT;rw[aw (bz (d:=.ob S.length) (S1:=S++[.lst (xs.map D.int)]) (av (af rfl ah) rfl))];show cI S (aI _ _ [some (.tup (xs.map D.int)),sI (place:Int),sI JE,sO S.length,none] (S++[.lst (xs.map D.int)]))=_;obtain⟨i,hi⟩:∃i,place % xs.length=i:=⟨_,rfl⟩;have JD:i<xs.length:=by rw[<-hi];exact mod_lt _ hx
 have e1:g_ jT w_ (ak bq (aa Hk ai)) [some (.tup (xs.map D.int)),sI (place:Int),sI JE,sO S.length,none] (S++[.lst (xs.map D.int)])=.ok (.int (i:Int)) (S++[.lst (xs.map D.int)]):=by
  refine ar rfl (av (af rfl ah) (fZ bO)) ?_;rw[length_map,cS (by omega),<-hi];congr 2
 rw[aw (bz e1),hi];show cI S (aI _ _ [some (.tup (xs.map D.int)),sI (place:Int),sI JE,sO S.length,sI (i:Int)] (S++[.lst (xs.map D.int)]))=_;have hg:xs[i]?=some (xs.getD i 0):=by rw[List.getD_eq_getElem?_getD,getElem?_eq_getElem JD];rfl
 obtain⟨v,hv⟩:∃v,(xs.getD i 0+JE) % 256=v:=⟨_,rfl⟩;have e2:g_ jT (g_ bK (g_ y_ Hk Jy) Hv) (dI 256) [some (.tup (xs.map D.int)),sI (place:Int),sI JE,sO S.length,sI (i:Int)] (S++[.lst (xs.map D.int)])=.ok (.int v) (S++[.lst (xs.map D.int)]):=by
  refine ar (ar (ar rfl rfl (jp bO (by rw[getElem?_map,hg];rfl))) rfl (bS _ _)) rfl ?_;rw[cS (by decide),hv]
 have K6:∀a c:Cell,(S++[a]).set S.length c=S++[c]:=fun a c=>by rw[set_append_right _ _ (Nat.le_refl _)];simp
 have e3:o3 (.ob S.length) (.int (i:Int)) (.int v) (S++[.lst (xs.map D.int)])=some (S++[.lst ((xs.set i v).map D.int)]):=by
  have TQ:Oc (xs.map D.int).length (i:Int)=some i:=by
   unfold Oc;rw[length_map];simp;omega
  simp only[o3,ca bO,TQ,K6];rw[List.map_set]
 rw[hv,aw (uD e2 rfl rfl e3),aN (av (af rfl ah) (d7 bO))];exact lQ (by unfold IM;exact dc _ _)
def AY(A:Jo G S a w)(K:Iz N w)(hN:N<=24300)(r:Bool)(k place:Nat)(JE:Int):∃S' a',gy G [.ob a.n,.str (bi r),.int (k:Int),.int (place:Int),.int JE] S=.ok .G0 S'/\Jk G a S a' S' (w.act (.LR r k place JE)):=by
 show ∃S' a',fin S (jh G [sO a.n,sS (bi r),sI (k:Int),sI (place:Int),sI JE] S)=_/\Jk G a S a' S' (w.HJ r (im (w.road r) k place JE));unfold jh;obtain⟨rr,Sx⟩:∃rr:tB,[sO a.n,sS (bi r),sI (k:Int),sI (place:Int),sI JE]=rr:=⟨_,rfl⟩;have t1:bW (aX G.World m_ (aT G) h_ (aa w_ (aa Hv ai))) rr S=.ok (decide (k<(w.road r).length)) S:=by
  rw[<-Sx,cX,au,aO rfl A.ob (af rfl (af rfl ah)) (u6 A r k)];rfl
 have same:w.HJ r (w.road r)=w:=by cases r<;>rfl
 have HF:=A.cell r;have rd:g_ gK (aA G.World m_ 2 h_) w_ rr S=.ok (.ob (a.rn r)) S:=by rw[<-Sx];exact pr A r _
 have v2:Hv rr S=.ok (.int (k:Int)) S:=by rw[<-Sx];rfl
 have v3:Hk rr S=.ok (.int (place:Int)) S:=by rw[<-Sx];rfl
 have v4:Jy rr S=.ok (.int JE) S:=by rw[<-Sx];rfl
 rw[Sx];unfold im;by_cases hk:k<(w.road r).length
 ·rw[decide_eq_true hk] at t1;obtain⟨e,he⟩:∃e,(w.road r)[k]?=some e:=⟨_,getElem?_eq_getElem hk⟩;rw[he];have Hc:=K.rd r e (mem_of_getElem? he);have ent:g_ y_ (g_ gK (aA G.World m_ 2 h_) w_) Hv rr S=.ok (KW e) S:=ar rd v2 (jp HF (by rw[getElem?_map,he];rfl));have t2:bW (g_ y_ (g_ y_ (g_ gK (aA G.World m_ 2 h_) w_) Hv) (dI 1)) rr S=.ok e.x.isSome S:=by
   rw[cX,au,ar ent rfl (aR (i:=1) rfl)];rfl
  have t3:am (g_ Jp (g_ jT Jy (dI 256)) (dI 0)) rr S=.ok (!decide (JE % 256=0)) S:=ay (ar (ar v4 rfl (cS (by decide))) rfl (gL _ _));have t4:dg (bW (aX G.World m_ (aT G) h_ (aa w_ (aa Hv ai)))) (dg (dl (bW (g_ y_ (g_ y_ (g_ gK (aA G.World m_ 2 h_) w_) Hv) (dI 1)))) (am (g_ Jp (g_ jT Jy (dI 256)) (dI 0)))) rr S=.ok (!e.x.isSome && !decide (JE % 256=0)) S:=by
   rw[cR,au,t1];show dg _ _ rr S=_;rw[cR,au,cY,au,t2];cases e.x.isSome with
   |true=>rfl
   |false=>exact t3
  obtain⟨c,x⟩:=e;cases x with
  |some xs=>
   refine⟨S,a,?_,?_⟩
   ·rw[ax t4];rfl
   ·have:(w.road r).set k (eZ ⟨c,some xs⟩ place JE)=w.road r:=by
     show(w.road r).set k ⟨c,some xs⟩=_;obtain⟨h1,h2⟩:=List.getElem?_eq_some_iff.mp he;rw[<-h2,List.set_getElem_self]
    dsimp only;rw[this,same];exact Jk.refl A
  |none=>
   by_cases hb:JE % 256=0
   ·rw[decide_eq_true hb] at t4;refine⟨S,a,?_,?_⟩
    ·rw[ax t4];rfl
    ·have:(w.road r).set k (eZ ⟨c,none⟩ place JE)=w.road r:=by
      unfold eZ;dsimp only;rw[if_pos hb];obtain⟨h1,h2⟩:=List.getElem?_eq_some_iff.mp he;rw[<-h2,List.set_getElem_self]
     dsimp only;rw[this,same];exact Jk.refl A
   ·rw[decide_eq_false hb] at t4;have OS:=gj Hc.1;have Y1:0<((⟨c,none⟩:En).xs).length:=by show 0<(IK (az c)).length;rw[nc];omega
    have QQ:eZ ⟨c,none⟩ place JE=⟨c,some (((⟨c,none⟩:En).xs).set (place % ((⟨c,none⟩:En).xs).length) ((((⟨c,none⟩:En).xs).getD (place % ((⟨c,none⟩:En).xs).length) 0+JE) % 256))⟩:=by
     unfold eZ;dsimp only;rw[if_neg hb]
    have OP:=wW Y1 (Nat.le_trans Hc.2.2.1 (by decide)) place JE S;have e5:bY (aa (ak jY (aa (g_ y_ (g_ y_ (g_ gK (aA G.World m_ 2 h_) w_) Hv) (dI 0)) (aa Hk (aa Jy ai)))) (aa (dC (.bl true)) ai)) rr S=.ok (KW (eZ ⟨c,none⟩ place JE)) S:=by
     rw[QQ];exact bF (af (av (af (ar ent rfl (aR (i:=0) rfl)) (af v3 (af v4 ah))) OP) (af rfl ah)) (by simp)
    have e6:o3 (.ob (a.rn r)) (.int (k:Int)) (KW (eZ ⟨c,none⟩ place JE)) S=some (S.set (a.rn r) (.lst (((w.road r).set k (eZ ⟨c,none⟩ place JE)).map KW))):=by
     have TQ:Oc ((w.road r).map KW).length (k:Int)=some k:=by
      unfold Oc;rw[length_map];simp;omega
     simp only[o3,ca HF,TQ];rw[List.map_set]
    have k1:=A.TN (l:=(w.road r).set k (eZ ⟨c,none⟩ place JE)) r (Ch.set HF);refine⟨_,a,?_,k1⟩;rw[aW t4,uD e5 rd v2 e6];rfl
 ·rw[decide_eq_false hk] at t1;rw[List.getElem?_eq_none (by omega)];refine⟨S,a,?_,?_⟩
  ·rw[ax (by rw[cR,au,t1];rfl)];rfl
  ·dsimp only;rw[same];exact Jk.refl A
end
def cv(ns:List Int)(k:Nat):Int:=ns.getD k 0
def pZ{ns:List Int}{k:Nat}(S:List Cell):bA [.JG (ns.map D.int),.int k] S=.ok (.int (cv ns k)) S:=by
 unfold cv;by_cases h:k<ns.length
 ·have e1:M7 (ns.map D.int) (k:Int)=some (.int (ns.getD k 0)):=uX (by simp[getD,h]);simp[bA,kc,bq,gW,y_,e1,h]
 ·have e1:ns.getD k 0=0:=by simp[getD,h]
  simp[bA,kc,bq,gW,y_,e1,h]
def FO{ns:List Int}(S:List Cell):bA [.JG (ns.map D.int),.int 0] S=.ok (.int (cv ns 0)) S:=pZ (k:=0) S
def FR{ns:List Int}(S:List Cell):bA [.JG (ns.map D.int),.int 1] S=.ok (.int (cv ns 1)) S:=pZ (k:=1) S
def Fq{ns:List Int}(S:List Cell):bA [.JG (ns.map D.int),.int 2] S=.ok (.int (cv ns 2)) S:=pZ (k:=2) S
def E8{a p m:Int}(hp:0<p)(hm:0<m)(S:List Cell):aG [.int a,.int p,.int m] S=.ok (.int (a * 48271 % p % m)) S:=by
 have h1:OA a 48271:=.inr ⟨by decide,by decide⟩;simp[aG,o8,iD h1,cS hp,cS hm]
def mx(a:Int)(p m:Nat):Nat:=(a * 48271 % p % m).toNat
def mh(a:Int){p m:Nat}(hm:0<m):mx a p m<m:=by
 unfold mx;have h1:=Int.emod_nonneg (a * 48271 % p) (show(m:Int)≠0 by omega);have h2:=Int.emod_lt_of_pos (a * 48271 % p) (show(0:Int)<m by omega);omega
def y6(a:Int){p m:Nat}(hp:0<p)(hm:0<m)(S:List Cell):aG [.int a,.int (p:Int),.int (m:Int)] S=.ok (.int (mx a p m:Nat)) S:=by
 rw[E8 (by omega) (by omega)];unfold mx;have h1:=Int.emod_nonneg (a * 48271 % p) (show(m:Int)≠0 by omega);rw[Int.toNat_of_nonneg h1]
def jH{f:tB->M D}{r:tB}{S:List Cell}{a:Int}(p m:Nat)(hf:f r S=.ok (.int a) S)(hp:0<p:=by decide)(hm:0<m:=by decide):ak aG (aa f (aa (dC (.int (p:Int))) (aa (dC (.int (m:Int))) ai))) r S=.ok (.int (mx a p m:Nat)) S:=
 av (af hf (af rfl (af rfl ah))) (y6 a hp hm S)
def Nt(ns:List Int):Nat:=1+mx (cv ns 0) 9883 7
def Nu(ns:List Int):Nat:=1+mx (cv ns 1) 9871 8
def yU(ns:List Int):0<Nt ns:=by unfold Nt;omega
def Ec(ns:List Int):Nt ns<=7:=by
 have:=mh (cv ns 0) (p:=9883) (m:=7) (by decide);unfold Nt;omega
def ui(ns:List Int):1<=Nu ns:=by unfold Nu;omega
def BU(ns:List Int):Nu ns<=8:=by
 have:=mh (cv ns 1) (p:=9871) (m:=8) (by decide);unfold Nu;omega
def xI(ns:List Int)(S:List Cell):fP [.JG (ns.map D.int)] S=.ok (.tup [.int (Nt ns:Int),.int (Nu ns:Int)]) S:=by
 show fin S (ii [sR ns,none,none] S)=_;unfold ii;have w1:g_ bK (dI 1) (ak aG (aa (ak bA (aa h_ (aa (dI 0) ai))) (aa (dI 9883) (aa (dI 7) ai)))) [sR ns,none,none] S=.ok (.int (Nt ns:Int)) S:=by
  refine ar rfl (jH 9883 7 (av (af rfl (af rfl ah)) (FO S))) ?_;rw[bS];unfold Nt;congr 2
 rw[aw (bz w1)];show fin S (aI _ _ [sR ns,sI (Nt ns:Int),none] S)=_;have w2:g_ bK (dI 1) (ak aG (aa (ak bA (aa h_ (aa (dI 1) ai))) (aa (dI 9871) (aa (dI 8) ai)))) [sR ns,sI (Nt ns:Int),none] S=.ok (.int (Nu ns:Int)) S:=by
  refine ar rfl (jH 9871 8 (av (af rfl (af rfl ah)) (FR S))) ?_;rw[bS];unfold Nu;congr 2
 rw[aw (bz w2),aN (bF (af rfl (af rfl ah)) (by simp))];rfl
def DA{fe:tB->M D}{r:tB}{S S1:List Cell}{x y:D}{i j:Nat}(h:fe r S=.ok (.tup [x,y]) S1):cz fe (gT [i,j]) r S=some (.nx ((r.set i (some x)).set j (some y)),S1):=by
 unfold cz;rw[uz,h];rfl
def iR(c:Int)(L:Nat):HM:=(range (mx c 9973 (L+1))).map fun(k:Nat)=>((mx (c+31 * k) 9967 256:Nat):Int)
def oQ(c:Int)(L:Nat):(iR c L).length<=L:=by
 have:=mh c (p:=9973) (m:=L+1) (by omega);unfold iR;rw[length_map,List.length_range];omega
def mw(c:Int)(L:Nat)(hL:L<=1000)(S:List Cell):cy [.int c,.int (L:Int)] S=.ok (B_ (iR c L)) S:=by
 show cI S (ie [sI c,sI (L:Int),none] S)=_;unfold ie;have m1:ak aG (aa h_ (aa (dI 9973) (aa (g_ bK w_ (dI 1)) ai))) [sI c,sI (L:Int),none] S=.ok (.int (mx c 9973 (L+1):Nat)) S:=
  av (af rfl (af rfl (af (x:=.int ((L+1:Nat):Int)) (ar rfl rfl (by rw[bS];congr 2)) ah))) (y6 c (p:=9973) (m:=L+1) (by decide) (by omega) S)
 rw[aw (bz m1)];have JD:=mh c (p:=9973) (m:=L+1) (by omega);obtain⟨z,hz⟩:∃z,mx c 9973 (L+1)=z:=⟨_,rfl⟩;have hm:iR c L=(range z).map fun(k:Nat)=>((mx (c+31 * k) 9967 256:Nat):Int):=by unfold iR;rw[hz]
 rw[hz] at JD ⊢;show cI S (bJ _ [sI c,sI (L:Int),sI (z:Int)] S)=_;have q1:=fY (f:=o7 Hv) (tg:=gN 0) (ti:=gQ) (fe:=ak aG (aa (g_ bK w_ (g_ ix (dI 31) h_)) (aa (dI 9967) (aa (dI 256) ai)))) (own:=1) (caps:=[0])
  (r:=[sI c,sI (L:Int),sI (z:Int)]) (S:=S) (S1:=S) (w:=⟨eI 0 1 z,none⟩) (fun _=>true) (fun x=>match x with
   |.int k=>.int (mx (c+31 * k) 9967 256:Nat)
   |_=>.G0) (uo (by omega)) trivial (by simp[eI];omega) (by
   intro x hx;simp only[eI,mem_map,mem_range] at hx;obtain⟨k,_,rfl⟩:=hx;refine⟨_,rfl,fun _=>rfl,fun _ zs=>?_⟩;show ak _ _ [sI (0+(k:Int) * 1),sI c] _=_;refine jH 9967 256 (ar rfl (ar rfl rfl (iD (.inl ⟨by decide,by decide⟩))) (bS _ _)))
 have Pm:((eI 0 1 z).filter fun _=>true).map (fun x=>match x with
   |.int k=>.int (mx (c+31 * k) 9967 256:Nat)
   |_=>.G0)=(iR c L).map D.int:=by
  rw[List.filter_eq_self.mpr (by simp),hm];unfold eI;rw[map_map,map_map];refine map_congr_left fun k _=>?_
  have hk:0+(k:Int) * 1=(k:Int):=by omega
  simp only[Function.comp_def,hk]
 rw[Pm] at q1;rw[aN (av (af q1 ah) (d7 (aS rfl)))];exact lQ (EH _ _)
section
variable{G:Cs}{S S' S1 S2:List Cell}{a a' a1 a2:Ad}{w w' w1 w2:WW}{N:Nat}
def Du(x y:Nat)(S:List Cell):∃S' a,jf G.World (cH G) [.int (x:Int),.int (y:Int)] S=.ok (.ob S.length) S'/\Jo G S' a (WW.new x y)/\Fr [] S S'/\a.n=S.length/\∀i,i∈a.fp->S.length<=i:=by
 obtain⟨n,hn⟩:∃n,n=S.length:=⟨_,rfl⟩;have s0:(S++[Cell.ins G.World [] []])[n]?=some (.ins G.World [] []):=aS hn;obtain⟨r,hr⟩:∃r:tB,r=[sO n,sI (x:Int),sI (y:Int)]:=⟨_,rfl⟩;have v0:∀S,h_ r S=.ok (.ob n) S:=fun S=>by rw[hr];rfl
 have v1:∀S,w_ r S=.ok (.int (x:Int)) S:=fun S=>by rw[hr];rfl
 have v2:∀S,Hv r S=.ok (.int (y:Int)) S:=fun S=>by rw[hr];rfl
 obtain⟨T0,UM⟩:∃T0,S++[Cell.ins G.World [] []]=T0:=⟨_,rfl⟩;have l0:T0.length=S.length+1:=by rw[<-UM];simp
 rw[UM] at s0;obtain⟨U1,m,p,q,e1,k1,f1,g1,g2,g3⟩:=Dx (G:=G) x y T0;have u1:=f1.get s0 (by simp);obtain⟨T1,b1,c1⟩:=eT (f:="sender") (fo:=h_) (fe:=ak (jf G.c_ (b9 G)) (aa w_ (aa Hv ai))) (r:=r) (av (af (v1 _) (af (v2 _) ah)) e1) (v0 _) u1;have TR:Ht G T1 T0.length m p q (Sr.new x y):=k1.fr c1.fr fun i hi z=>by
  simp only[sT,List.mem_singleton] at hi z;omega
 have lf1:=f1.1;have lc1:=c1.len;obtain⟨U2,g,e,b,e2,k2,f2,g4,g5,g6⟩:=Cr (G:=G) x T1;have u2:=f2.get c1.at_ (by simp);obtain⟨T2,b2,c2⟩:=eT (f:="hearer") (fo:=h_) (fe:=ak (jf G.i_ (bQ G)) (aa w_ ai)) (r:=r) (av (af (v1 _) ah) e2) (v0 _) u2;have lf2:=f2.1;have lc2:=c2.len;have hm:=br TR.ms;have hp:=br TR.ps;have hq:=br TR.nt;have hnS:=br TR.ob;have Wj:Ht G T2 T0.length m p q (Sr.new x y):=(TR.fr f2 (fun i hi z=>nomatch z)).fr c2.fr fun i hi z=>by
  simp only[sT,List.mem_singleton] at hi z;omega
 have PW:HL G T2 T1.length g e b (Hr.new x):=k2.fr c2.fr (by simp;omega) (by simp;omega) (by simp;omega) (by simp;omega);have hg:=br PW.gv;have he:=br PW.ea;have hb:=br PW.be;have hnH:=br PW.ob;obtain⟨nR,Sy⟩:∃nR,nR=T2.length:=⟨_,rfl⟩;obtain⟨T3,NW⟩:∃T3,T2++[Cell.IT [(.inr ("there":Str),.ob (nR+1)),(.inr ("back":Str),.ob (nR+2))]]++[.lst []]++[.lst []]=T3:=⟨_,rfl⟩;have dd:qj (jc (dT "there") (cg ai) (jc (dT "back") (cg ai) sX)) r T2=.ok (.ob nR) T3:=by
  unfold qj jc sX;simp only[au,uU,kP];rw[ck ah (by decide)];simp only[au];rw[ck ah (by decide)];simp only[];have hd:dE (T2++[Cell.IT []]++[.lst []]++[.lst []]) T2.length=some []:=by
   unfold dE;rw[aB (aB (aS rfl))]
  have hk:pb [(D.str "there",D.ob (T2++[Cell.IT []]).length),(D.str "back",D.ob (T2++[Cell.IT []]++[Cell.lst []]).length)]=some [(.inr ("there":Str),.ob (nR+1)),(.inr ("back":Str),.ob (nR+2))]:=by
   rw[Sy];simp[pb,iA]
  rw[hd,hk];dsimp only;have e:decide ((Sum.inr ("there":Str):Key)=Sum.inr ("back":Str))=false:=by decide +kernel
  have hmg:vc [] [((.inr ("there":Str):Key),D.ob (nR+1)),(.inr ("back":Str),D.ob (nR+2))]=[(.inr ("there":Str),.ob (nR+1)),(.inr ("back":Str),.ob (nR+2))]:=by
   simp only[vc,foldl_cons,List.foldl_nil,sM,List.any_nil,any_cons,e,Bool.false_eq_true,if_false,nil_append,Bool.or_false];rfl
  rw[cf (by simp),hmg,<-NW,Sy];congr 1;rw[append_assoc,append_assoc,set_append_right _ _ (Nat.le_refl _)];simp
 have u3:T3[n]?=some (.ins G.World ["sender","hearer"] [.ob T0.length,.ob T1.length]):=by rw[<-NW];exact aB (aB (aB c2.at_))
 obtain⟨T4,b3,c3⟩:=eT (f:="roads") (fo:=h_) (fe:=qj (jc (dT "there") (cg ai) (jc (dT "back") (cg ai) sX))) (r:=r) dd (v0 _) u3;have l3:T3.length=nR+3:=by rw[<-NW,Sy];simp
 have lc3:=c3.len;have f3:Fr [] T2 T3:=by rw[<-NW,append_assoc,append_assoc];exact Fr.push
 have PX:n<T0.length:=by omega
 have r1:T3[nR]?=some (.IT [(.inr ("there":Str),.ob (nR+1)),(.inr ("back":Str),.ob (nR+2))]):=by rw[<-NW];exact aB (aB (aS Sy))
 have r2:T3[nR+1]?=some (.lst []):=by rw[<-NW];exact aB (aS (by rw[Sy];simp))
 have r3:T3[nR+2]?=some (.lst []):=by rw[<-NW];exact aS (by rw[Sy];simp)
 have q1:n≠nR:=by omega
 have q2:n≠nR+1:=by omega
 have q3:n≠nR+2:=by omega
 refine⟨T4,⟨n,T0.length,m,p,q,T1.length,g,e,b,nR,nR+1,nR+2⟩,?_,⟨c3.at_,?_,?_,c3.old r1 q1,c3.old r2 q2,c3.old r3 q3,?_,?_,?_,by simp⟩,?_,hn,?_⟩
 ·unfold jf;have:cH G [.ob S.length,.int (x:Int),.int (y:Int)] (S++[.ins G.World [] []])=.ok .G0 T4:=by
   rw[UM,<-hn];show fin T0 (dS G [sO n,sI (x:Int),sI (y:Int)] T0)=_;rw[<-hr];unfold dS;have b2':cN G.World ["sender"] "hearer" h_ (ak (jf G.i_ (bQ G)) (aa w_ ai)) r T1=some (.nx r,T2):=b2;rw[aw b1,aw b2'];rw[show cN G.World ["sender","hearer"] "roads" h_ (qj (jc (dT "there") (cg ai) (jc (dT "back") (cg ai) sX))) r T2=some (.nx r,T4) from b3];rfl
  rw[this]
 ·exact(Wj.fr f3 (fun i hi z=>nomatch z)).fr c3.fr fun i hi z=>by
   simp only[sT,List.mem_singleton] at hi z;omega
 ·exact(PW.fr f3 (by simp) (by simp) (by simp) (by simp)).fr c3.fr (by simp;omega) (by simp;omega) (by simp;omega) (by simp;omega)
 ·intro i hi j hj;simp only[Ad.sf,Ad.hf,sT] at hi hj;omega
 ·intro i hi j hj;simp only[Ad.sf,Ad.wf,sT] at hi hj;omega
 ·intro i hi j hj;simp only[Ad.hf,Ad.wf,sT] at hi hj;omega
 ·have fS:Fr [n] S T4:=(((((show Fr [n] S T0 by rw[<-UM];exact Fr.push).tr (f1.mono fun i hi _=>nomatch hi)).tr c1.fr).tr (f2.mono fun i hi _=>nomatch hi)).tr c2.fr).tr ((f3.mono fun i hi _=>nomatch hi).tr c3.fr);exact⟨fS.1,fun i hi _=>fS.2 i hi (by simp;omega)⟩
 ·intro i hi;simp only[Ad.fp,Ad.sf,Ad.hf,Ad.wf,mem_append,sT] at hi;omega
inductive LA where
 |Kq|hand (c:Int)|tick|step (r:Bool)|HK (k:Nat) (r:Bool) (i:Nat) (c:Int)|HD (r:Bool)
def BQ:Nat->Str
 |0=>"lose"
 |1=>"double"
 |_=>"spoil"
def LA.kn:LA->Str
 |.Kq=>"open"
 |.hand _=>"hand"
 |.tick=>"tick"
 |.step _=>"step"
 |.HK k _ _ _=>BQ k
 |.HD _=>"fall"
def LA.d:LA->D
 |.Kq=>.tup [.str "open"]
 |.hand c=>.tup [.str "hand",.int c]
 |.tick=>.tup [.str "tick"]
 |.step r=>.tup [.str "step",.str (bi r)]
 |.HK k r i c=>.tup [.str (BQ k),.str (bi r),.int (i:Int),.int c]
 |.HD r=>.tup [.str "fall",.str (if r then "sender" else "hearer")]
def LA.act:LA->Act
 |.Kq=>.start
 |.hand c=>.hand (iR c 12)
 |.tick=>.tick
 |.step r=>.step r
 |.HK 0 r i _=>.N4 r i
 |.HK 1 r i _=>.dbl r i
 |.HK _ r i c=>.LR r i (mx c 9829 16) (mx c 9817 256:Nat)
 |.HD r=>.HD r
def AS(c:Int)(L:Nat):Qo (iR c L):=fun x hx=>by
 unfold iR at hx;obtain⟨k,_,rfl⟩:=List.mem_map.mp hx;have:=mh (c+31 * k) (p:=9967) (m:=256) (by decide);omega
def LA.ok(t:LA):t.act.ok:=by
 cases t with
 |hand c=>exact⟨Nat.le_trans (oQ c 12) (by decide),AS c 12⟩
 |HK k r i c=>
  match k with
  |0=>trivial
  |1=>trivial
  |_+2=>trivial
 |_=>trivial
def xz(t:LA)(S:List Cell):y_ t.d (.int 0) S=.ok (.str t.kn) S:=by cases t<;>exact aR (i:=0) rfl
def wZ(t:LA):(PyData.str t.kn).canLay0=true:=by
 cases t with
 |HK k r i c=>
  match k with
  |0=>exact(by decide +kernel:(PyData.str "lose").canLay0=true)
  |1=>exact(by decide +kernel:(PyData.str "double").canLay0=true)
  |_+2=>exact(by decide +kernel:(PyData.str "spoil").canLay0=true)
 |Kq=>exact(by decide +kernel:(PyData.str "open").canLay0=true)
 |hand c=>exact(by decide +kernel:(PyData.str "hand").canLay0=true)
 |tick=>exact(by decide +kernel:(PyData.str "tick").canLay0=true)
 |step r=>exact(by decide +kernel:(PyData.str "step").canLay0=true)
 |HD r=>exact(by decide +kernel:(PyData.str "fall").canLay0=true)
def qp(t:LA)(k:Str)(hk:(PyData.str k).canLay0=true:=by decide +kernel)(r0:Option D)(S:List Cell):am (g_ G_ (g_ y_ w_ (dI 0)) (dC (.str k))) [r0,some t.d] S=.ok (decide (t.kn=k)) S:=
 ay (ar (ar rfl rfl (xz t S)) rfl (bc (wZ t) hk rfl))
def Fw(A:Jo G S a w)(K:Iz N w)(hN:N<24300)(t:LA):∃S' a',lJ G [.ob a.n,t.d] S=.ok .G0 S'/\Jk G a S a' S' (w.act t.act):=by
 show ∃S' a',fin S (mY G [sO a.n,some t.d] S)=_/\_;unfold mY;have i1:=qp t "hand" (r0:=some (.ob a.n)) (S:=S);have i2:=qp t "tick" (r0:=some (.ob a.n)) (S:=S);have i3:=qp t "step" (r0:=some (.ob a.n)) (S:=S);have i4:=qp t "lose" (r0:=some (.ob a.n)) (S:=S);have i5:=qp t "double" (r0:=some (.ob a.n)) (S:=S);have i6:=qp t "spoil" (r0:=some (.ob a.n)) (S:=S);have i7:=qp t "fall" (r0:=some (.ob a.n)) (S:=S);have RA:N<=24300:=by omega
 cases t with
 |hand c=>
  have hl:=oQ c 12;obtain⟨S',a',e,k⟩:=CL A K hN (m:=iR c 12) (by omega);rw[show decide ((LA.hand c).kn=("hand":Str))=true from (by decide +kernel:decide (("hand":Str) = "hand")=true)] at i1;refine⟨S',a',?_,k⟩;rw[aW i1,aU (aO rfl A.ob (af (av (af (ar rfl rfl (aR (i:=1) rfl)) (af rfl ah)) (mw c 12 (by decide) S)) ah) e)];rfl
 |tick=>
  obtain⟨S',a',e,k⟩:=zi A K RA;rw[show decide (LA.tick.kn=("hand":Str))=false by decide +kernel] at i1;rw[show decide (LA.tick.kn=("tick":Str))=true by decide +kernel] at i2;refine⟨S',a',?_,k⟩;rw[ax i1,aW i2,aU (aO rfl A.ob ah e)];rfl
 |step r=>
  obtain⟨S',a',e,k⟩:=ze A K hN r;rw[show decide ((LA.step r).kn=("hand":Str))=false from (by decide +kernel:decide (("step":Str) = "hand")=false)] at i1;rw[show decide ((LA.step r).kn=("tick":Str))=false from (by decide +kernel:decide (("step":Str) = "tick")=false)] at i2;rw[show decide ((LA.step r).kn=("step":Str))=true from (by decide +kernel:decide (("step":Str) = "step")=true)] at i3;refine⟨S',a',?_,k⟩;rw[ax i1,ax i2,aW i3,aU (aO rfl A.ob (af (ar rfl rfl (aR (i:=1) rfl)) ah) e)];rfl
 |HK k r i c=>
  match k with
  |0=>
   obtain⟨S',a',e,k⟩:=Dj A r i;rw[show decide ((LA.HK 0 r i c).kn=("hand":Str))=false from (by decide +kernel:decide (("lose":Str) = "hand")=false)] at i1;rw[show decide ((LA.HK 0 r i c).kn=("tick":Str))=false from (by decide +kernel:decide (("lose":Str) = "tick")=false)] at i2;rw[show decide ((LA.HK 0 r i c).kn=("step":Str))=false from (by decide +kernel:decide (("lose":Str) = "step")=false)] at i3;rw[show decide ((LA.HK 0 r i c).kn=("lose":Str))=true from (by decide +kernel:decide (("lose":Str) = "lose")=true)] at i4;refine⟨S',a',?_,k⟩;rw[ax i1,ax i2,ax i3,aW i4,aU (aO rfl A.ob (af (ar rfl rfl (aR (i:=1) rfl)) (af (ar rfl rfl (aR (i:=2) rfl)) ah)) e)];rfl
  |1=>
   obtain⟨S',a',e,k⟩:=Ee A K RA r i;rw[show decide ((LA.HK 1 r i c).kn=("hand":Str))=false from (by decide +kernel:decide (("double":Str) = "hand")=false)] at i1;rw[show decide ((LA.HK 1 r i c).kn=("tick":Str))=false from (by decide +kernel:decide (("double":Str) = "tick")=false)] at i2;rw[show decide ((LA.HK 1 r i c).kn=("step":Str))=false from (by decide +kernel:decide (("double":Str) = "step")=false)] at i3;rw[show decide ((LA.HK 1 r i c).kn=("lose":Str))=false from (by decide +kernel:decide (("double":Str) = "lose")=false)] at i4;rw[show decide ((LA.HK 1 r i c).kn=("double":Str))=true from (by decide +kernel:decide (("double":Str) = "double")=true)] at i5;refine⟨S',a',?_,k⟩;rw[ax i1,ax i2,ax i3,ax i4,aW i5,aU (aO rfl A.ob (af (ar rfl rfl (aR (i:=1) rfl)) (af (ar rfl rfl (aR (i:=2) rfl)) ah)) e)];rfl
  |j+2=>
   obtain⟨S',a',e,k⟩:=AY A K RA r i (mx c 9829 16) (mx c 9817 256:Nat);rw[show decide ((LA.HK (j+2) r i c).kn=("hand":Str))=false from (by decide +kernel:decide (("spoil":Str) = "hand")=false)] at i1;rw[show decide ((LA.HK (j+2) r i c).kn=("tick":Str))=false from (by decide +kernel:decide (("spoil":Str) = "tick")=false)] at i2;rw[show decide ((LA.HK (j+2) r i c).kn=("step":Str))=false from (by decide +kernel:decide (("spoil":Str) = "step")=false)] at i3;rw[show decide ((LA.HK (j+2) r i c).kn=("lose":Str))=false from (by decide +kernel:decide (("spoil":Str) = "lose")=false)] at i4;rw[show decide ((LA.HK (j+2) r i c).kn=("double":Str))=false from (by decide +kernel:decide (("spoil":Str) = "double")=false)] at i5;rw[show decide ((LA.HK (j+2) r i c).kn=("spoil":Str))=true from (by decide +kernel:decide (("spoil":Str) = "spoil")=true)] at i6;refine⟨S',a',?_,k⟩;have x3:∀T,g_ y_ w_ (dI 3) [sO a.n,some (LA.HK (j+2) r i c).d] T=.ok (.int c) T:=fun T=>ar rfl rfl (aR (i:=3) rfl)
   have x1:∀T,g_ y_ w_ (dI 1) [sO a.n,some (LA.HK (j+2) r i c).d] T=.ok (.str (bi r)) T:=fun T=>ar rfl rfl (aR (i:=1) rfl)
   have x2:∀T,g_ y_ w_ (dI 2) [sO a.n,some (LA.HK (j+2) r i c).d] T=.ok (.int (i:Int)) T:=fun T=>ar rfl rfl (aR (i:=2) rfl)
   have y1:ak aG (aa (g_ y_ w_ (dI 3)) (aa (dI 9829) (aa (dI 16) ai))) [sO a.n,some (LA.HK (j+2) r i c).d] S=.ok (.int (mx c 9829 16:Nat)) S:=jH 9829 16 (x3 _);have y2:ak aG (aa (g_ y_ w_ (dI 3)) (aa (dI 9817) (aa (dI 256) ai))) [sO a.n,some (LA.HK (j+2) r i c).d] S=.ok (.int (mx c 9817 256:Nat)) S:=jH 9817 256 (x3 _);rw[ax i1,ax i2,ax i3,ax i4,ax i5,aW i6,aU (aO rfl A.ob (af (x1 _) (af (x2 _) (af y1 (af y2 ah)))) e)];rfl
 |HD r=>
  obtain⟨S',a',e,k⟩:=DN A r;rw[show decide ((LA.HD r).kn=("hand":Str))=false from (by decide +kernel:decide (("fall":Str) = "hand")=false)] at i1;rw[show decide ((LA.HD r).kn=("tick":Str))=false from (by decide +kernel:decide (("fall":Str) = "tick")=false)] at i2;rw[show decide ((LA.HD r).kn=("step":Str))=false from (by decide +kernel:decide (("fall":Str) = "step")=false)] at i3;rw[show decide ((LA.HD r).kn=("lose":Str))=false from (by decide +kernel:decide (("fall":Str) = "lose")=false)] at i4;rw[show decide ((LA.HD r).kn=("double":Str))=false from (by decide +kernel:decide (("fall":Str) = "double")=false)] at i5;rw[show decide ((LA.HD r).kn=("spoil":Str))=false from (by decide +kernel:decide (("fall":Str) = "spoil")=false)] at i6;rw[show decide ((LA.HD r).kn=("fall":Str))=true from (by decide +kernel:decide (("fall":Str) = "fall")=true)] at i7;refine⟨S',a',?_,k⟩;rw[ax i1,ax i2,ax i3,ax i4,ax i5,ax i6,aW i7,aU (aO rfl A.ob (af (ar rfl rfl (aR (i:=1) rfl)) ah) e)];rfl
 |Kq=>
  obtain⟨S',a',e,k⟩:=vW A K RA;rw[show decide (LA.Kq.kn=("hand":Str))=false by decide +kernel] at i1;rw[show decide (LA.Kq.kn=("tick":Str))=false by decide +kernel] at i2;rw[show decide (LA.Kq.kn=("step":Str))=false by decide +kernel] at i3;rw[show decide (LA.Kq.kn=("lose":Str))=false by decide +kernel] at i4;rw[show decide (LA.Kq.kn=("double":Str))=false by decide +kernel] at i5;rw[show decide (LA.Kq.kn=("spoil":Str))=false by decide +kernel] at i6;rw[show decide (LA.Kq.kn=("fall":Str))=false by decide +kernel] at i7;refine⟨S',a',?_,k⟩;rw[ax i1,ax i2,ax i3,ax i4,ax i5,ax i6,ax i7,aU (aO rfl A.ob ah e)];rfl
end
def wk{xs:List D}(i k:Nat):gg xs (some (i:Int)) (some ((i:Int)+(k:Int)))=(xs.drop i).take k:=by
 unfold gg;have e:(i:Int)+(k:Int)=((i+k:Nat):Int):=by omega
 rw[e,HT.JF,HT.JF];by_cases h:i<=xs.length
 ·rw[Nat.min_eq_left h];by_cases h2:i+k<=xs.length
  ·rw[Nat.min_eq_left h2,show i+k-i=k by omega]
  ·rw[Nat.min_eq_right (by omega),take_of_length_le (by rw[length_drop];omega),take_of_length_le (by rw[length_drop];omega)]
 ·rw[Nat.min_eq_right (show xs.length<=i by omega),Nat.min_eq_right (show xs.length<=i+k by omega),List.drop_of_length_le (Nat.le_refl _),List.drop_of_length_le (by omega)];simp
def tW{S:List Cell}{a b:Nat}{xs ys:List D}(h1:S[a]?=some (.lst xs))(h2:S[b]?=some (.lst ys))(hz:(xs++ys).length<=1000000):bK (.ob a) (.ob b) S=.ok (.ob S.length) (S++[.lst (xs++ys)]):=by
 simp only[bK,ca h1,ca h2,wu hz]
def zO{S:List Cell}{a:Nat}{xs:List D}{k:Nat}(h:S[a]?=some (.lst xs))(hz:xs.length * k<=1000000)(hk:k<=1000000):ix (.ob a) (.int (k:Int)) S=.ok (.ob S.length) (S++[.lst (replicate k xs).flatten]):=by
 unfold ix;simp only[ca h];rw[cf ⟨⟨by omega,by omega⟩,by rw[toNat_natCast];exact Nat.le_of_lt (Pd hz)⟩,toNat_natCast]
section
variable{G:Cs}{S S' S1 S2:List Cell}{a a' a1 a2:Ad}{w w' w1 w2:WW}{N:Nat}
def gn(falls:Bool)(c:Int):List LA:=
 if mx c 9859 20<2 then [.hand c] else if mx c 9859 20<6 then [.tick] else if mx c 9859 20<14 then replicate (1+mx c 9851 4) (.step (decide (mx c 9857 2=0)))
 else if mx c 9859 20<17 then [.HK (mx c 9859 20-14) (decide (mx c 9857 2=0)) (mx c 9839 6) c] else if mx c 9859 20=17/\falls=true then [.HD (decide (mx c 9833 2=0))] else [.Kq]
def dL(falls:Bool)(ns:List Int):List LA:=[.Kq,.hand (cv ns 2)]++((ns.drop 3).take 60).flatMap (gn falls)
def BN(falls:Bool)(c:Int):(gn falls c).length<=4:=by
 have:=mh c (p:=9851) (m:=4) (by decide);unfold gn;split
 ·simp
 ·split
  ·simp
  ·split
   ·rw[length_replicate];omega
   ·split
    ·simp
    ·split<;>simp
theorem oy(falls:Bool):∀l:List Int,(l.flatMap (gn falls)).length<=4 * l.length
 |[]=>by simp
 |c :: l=>by
  have h1:=BN falls c;have h2:=oy falls l;rw[flatMap_cons,length_append,length_cons];omega
def AQ(falls:Bool)(ns:List Int):(dL falls ns).length<=242:=by
 have h1:=oy falls ((ns.drop 3).take 60);have h2:((ns.drop 3).take 60).length<=60:=by rw[length_take];omega
 unfold dL;rw[length_append];simp only[length_cons,length_nil];omega
structure Row(S0 S:List Cell)(l:Nat)(xs:List LA):Prop where
 at_:S[l]?=some (.lst (xs.map LA.d))
 fr:Fr [] S0 S
 new:S0.length<=l
def wq{S0 S:List Cell}{l:Nat}{c:Cell}(f:Fr [] S0 S)(h:S0.length<=l):Fr [] S0 (S.set l c):=by
 refine⟨by rw[length_set];exact f.1,fun i hi _=>?_⟩;rw[getElem?_set_ne (by omega)];exact f.2 i hi (by simp)
def Row.app{S0:List Cell}{l:Nat}{xs:List LA}(R:Row S0 S l xs)(t:LA)(hz:xs.length<1000){ft:tB->M (List D)}{r:tB}(h2:Hv r S=.ok (.ob l) S)(h3:ft r S=.ok [t.d] S):∃S',bu (KG j2 Hv ft) r S=some (.nx r,S')/\Row S0 S' l (xs++[t])/\Fr [l] S S':=by
 have ee:=tu (n:=l) (d:=t.d) R.at_ (by rw[length_map];omega);refine⟨S.set l (.lst ((xs++[t]).map LA.d)),?_,⟨dA R.at_,wq R.fr R.new,R.new⟩,Fr.set (by simp)⟩;rw[aU (ld h2 R.at_ h3 ee),map_append];rfl
def Dy{ns:List Int}:gg (ns.map D.int) (some 3) (some 63)=((ns.drop 3).take 60).map D.int:=by
 have h:=wk (xs:=ns.map D.int) 3 60;rw[<-map_drop,<-map_take] at h;exact h
def qf{S0 S:List Cell}{l:Nat}{xs:List LA}(R:Row S0 S l xs)(c:List Cell):Row S0 (S++c) l xs:=⟨aB R.at_,R.fr.tr Fr.push,R.new⟩
def As{S0:List Cell}{falls:Bool}{ns:List Int}{c:Int}{l kk:Nat}{xs:List LA}{x4 x5:Option D}{cs:List D}(R:Row S0 S l xs)(hz:xs.length<900)(hk:S[kk]?=some (.lst cs))(Y9:kk≠l) :
  ∃S' l' y4 y5,fA [sR ns,some (.bl falls),sO l,sI c,x4,x5] S=some (.nx [sR ns,some (.bl falls),sO l',sI c,y4,y5],S')/\Row S0 S' l' (xs++gn falls c)/\S'[kk]?=some (.lst cs)/\(l'=l\/S.length<=l'):=by
 unfold fA;have t20:=mh c (p:=9859) (m:=20) (by decide);obtain⟨t,ht⟩:∃t,mx c 9859 20=t:=⟨_,rfl⟩;have m1:ak aG (aa Hk (aa (dI 9859) (aa (dI 20) ai))) [sR ns,some (.bl falls),sO l,sI c,x4,x5] S=.ok (.int (t:Int)) S:=by
  rw[<-ht];exact jH 9859 20 rfl
 rw[aw (bz m1)];show ∃S' l' y4 y5,aI _ _ [sR ns,some (.bl falls),sO l,sI c,sI (t:Int),x5] S=_/\_;have t2:=mh c (p:=9857) (m:=2) (by decide);obtain⟨rd,Ro⟩:∃rd,decide (mx c 9857 2=0)=rd:=⟨_,rfl⟩;obtain⟨T,hT⟩:∃T,S++[Cell.lst [.str "there",.str "back"]]=T:=⟨_,rfl⟩;have m2:g_ y_ (cg (aa (dT "there") (aa (dT "back") ai))) (ak aG (aa Hk (aa (dI 9857) (aa (dI 2) ai)))) [sR ns,some (.bl falls),sO l,sI c,sI (t:Int),x5] S=.ok (.str (bi rd)) T:=by
  rw[<-hT];have y:ak aG (aa Hk (aa (dI 9857) (aa (dI 2) ai))) [sR ns,some (.bl falls),sO l,sI c,sI (t:Int),x5] (S++[.lst [.str "there",.str "back"]])=.ok (.int (mx c 9857 2:Nat)) (S++[.lst [.str "there",.str "back"]]):=jH 9857 2 rfl;refine ar (ck (af rfl (af rfl ah)) (by simp)) y (jp bO ?_);rw[<-Ro];rcases (show mx c 9857 2=0\/mx c 9857 2=1 by omega) with h|h<;>rw[h]<;>rfl
 have R1:Row S0 T l xs:=by rw[<-hT];exact qf R _
 have UN:T[kk]?=some (.lst cs):=by rw[<-hT];exact aB hk
 have lT:T.length=S.length+1:=by rw[<-hT];simp
 rw[aw (bz m2)];show ∃S' l' y4 y5,HX _ _ _ [sR ns,some (.bl falls),sO l,sI c,sI (t:Int),sS (bi rd)] T=_/\_;obtain⟨r,hr⟩:∃r:tB,[sR ns,some (.bl falls),sO l,sI c,sI (t:Int),sS (bi rd)]=r:=⟨_,rfl⟩;have v1:∀S,w_ r S=.ok (.bl falls) S:=fun S=>by rw[<-hr];rfl
 have v2:∀S,Hv r S=.ok (.ob l) S:=fun S=>by rw[<-hr];rfl
 have v3:∀S,Hk r S=.ok (.int c) S:=fun S=>by rw[<-hr];rfl
 have v4:∀S,Jy r S=.ok (.int (t:Int)) S:=fun S=>by rw[<-hr];rfl
 have v5:∀S,PT r S=.ok (.str (bi rd)) S:=fun S=>by rw[<-hr];rfl
 have lt:∀k:Nat,am (g_ JO Jy (dC (.int (k:Int)))) r T=.ok (decide (t<k)) T:=fun k=>by
  refine ay (ar (v4 _) rfl ?_);rw[qv];congr 2;rw[decide_eq_decide];omega
 have UO:am (g_ JO Jy (dI 2)) r T=.ok (decide (t<2)) T:=lt 2;have UP:am (g_ JO Jy (dI 6)) r T=.ok (decide (t<6)) T:=lt 6;have Qr:am (g_ JO Jy (dI 14)) r T=.ok (decide (t<14)) T:=lt 14;have Qs:am (g_ JO Jy (dI 17)) r T=.ok (decide (t<17)) T:=lt 17;have Wl:am (g_ G_ Jy (dI 17)) r T=.ok (decide (t=17)) T:=by
  refine ay (ar (v4 _) rfl ?_);rw[gO];congr 2;rw[decide_eq_decide];omega
 rw[hr];have LS:∀{b:Hd}(la:LA) {ft:tB->M (List D)},b=bu (KG j2 Hv ft)->ft r T=.ok [la.d] T->gn falls c=[la]->∃S' l' y4 y5,b r T=some (.nx [sR ns,some (.bl falls),sO l',sI c,y4,y5],S')/\Row S0 S' l' (xs++gn falls c)/\S'[kk]?=some (.lst cs)/\(l'=l\/S.length<=l'):=by
  intro b la ft hb hf ht;obtain⟨S',e,R',f⟩:=R1.app la (by omega) (v2 _) hf;rw[ht,hb];exact⟨S',l,_,_,by rw[e,<-hr],R',f.get UN (by simpa using Y9),.inl rfl⟩
 unfold gn at *;rw[ht,Ro] at *;by_cases h2:t<2
 ·rw[decide_eq_true h2] at UO;rw[aW UO];simp only[if_pos h2] at LS ⊢;exact LS (.hand c) rfl (af (bF (af rfl (af (v3 _) ah)) (by simp)) ah) rfl
 ·rw[decide_eq_false h2] at UO;rw[ax UO];simp only[if_neg h2] at LS ⊢;by_cases h6:t<6
  ·rw[decide_eq_true h6] at UP;rw[aW UP];simp only[if_pos h6] at LS ⊢;exact LS .tick rfl (af (bF (af rfl ah) (by simp)) ah) rfl
  ·rw[decide_eq_false h6] at UP;rw[ax UP];simp only[if_neg h6] at LS ⊢;by_cases UQ:t<14
   ·rw[decide_eq_true UQ] at Qr;rw[aW Qr];simp only[if_pos UQ];have t4:=mh c (p:=9851) (m:=4) (by decide);obtain⟨j,hj⟩:∃j,mx c 9851 4=j:=⟨_,rfl⟩;rw[hj] at t4 ⊢;obtain⟨U,hU⟩:∃U,T++[Cell.lst [LA.d (.step rd)]]++[.lst ((replicate (1+j) (LA.step rd)).map LA.d)]=U:=⟨_,rfl⟩;have y:∀T,g_ bK (dI 1) (ak aG (aa Hk (aa (dI 9851) (aa (dI 4) ai)))) r T=.ok (.int ((1+j:Nat):Int)) T:=fun T=>by
     have y0:ak aG (aa Hk (aa (dI 9851) (aa (dI 4) ai))) r T=.ok (.int (mx c 9851 4:Nat)) T:=jH 9851 4 (v3 _);refine ar rfl y0 ?_;rw[bS,hj];congr 2
    have Wm:(replicate (1+j) [LA.d (.step rd)]).flatten=(replicate (1+j) (LA.step rd)).map LA.d:=by
     rw[List.map_replicate]
     induction (1+j) with
     |zero=>rfl
     |succ k ih=>rw[replicate_succ,flatten_cons,ih,replicate_succ];rfl
    have mu:g_ ix (cg (aa (bY (aa (dT "step") (aa PT ai))) ai)) (g_ bK (dI 1) (ak aG (aa Hk (aa (dI 9851) (aa (dI 4) ai))))) r T=.ok (.ob (T.length+1)) U:=by
     refine ar (ck (af (bF (af rfl (af (v5 _) ah)) (by simp)) ah) (by simp)) (y _) ?_;rw[<-hU];rw[zO (aS rfl) (by simp;omega) (by omega)];have e:(replicate (1+j) [D.tup [D.str "step",D.str (bi rd)]]).flatten=(replicate (1+j) (LA.step rd)).map LA.d:=Wm;rw[e];simp[LA.d]
    have P2:U[l]?=some (.lst (xs.map LA.d)):=by rw[<-hU];exact aB (aB R1.at_)
    have Wn:U[T.length+1]?=some (.lst ((replicate (1+j) (LA.step rd)).map LA.d)):=by rw[<-hU];exact aS (by simp)
    have ad:g_ bK Hv (g_ ix (cg (aa (bY (aa (dT "step") (aa PT ai))) ai)) (g_ bK (dI 1) (ak aG (aa Hk (aa (dI 9851) (aa (dI 4) ai)))))) r T=.ok (.ob U.length) (U++[.lst ((xs++replicate (1+j) (LA.step rd)).map LA.d)]):=by
     refine ar (v2 _) mu ?_;rw[map_append];exact tW P2 Wn (by simp;omega)
    have lU:T.length<=U.length:=by rw[<-hU];simp
    have fU:Fr [] T U:=by rw[<-hU,append_assoc];exact Fr.push
    have hs:=R1.fr.1;refine⟨_,U.length,sI (t:Int),sS (bi rd),?_,⟨bO,(R1.fr.tr fU).tr Fr.push,by omega⟩,aB (fU.get UN (by simp)),.inr (by omega)⟩;rw[bz ad,<-hr];rfl
   ·rw[decide_eq_false UQ] at Qr;rw[ax Qr];simp only[if_neg UQ] at LS ⊢;by_cases TU:t<17
    ·rw[decide_eq_true TU] at Qs;rw[aW Qs];simp only[if_pos TU] at LS ⊢;obtain⟨T2,NT⟩:∃T2,T++[Cell.lst [.str "lose",.str "double",.str "spoil"]]=T2:=⟨_,rfl⟩;have R2:Row S0 T2 l xs:=by rw[<-NT];exact qf R1 _
     have Sz:T2[kk]?=some (.lst cs):=by rw[<-NT];exact aB UN
     have sb:∀T,g_ sL Jy (dI 14) r T=.ok (.int ((t-14:Nat):Int)) T:=fun T=>ar (v4 _) rfl (by rw[tJ];congr 2;omega)
     have kd:g_ y_ (cg (aa (dT "lose") (aa (dT "double") (aa (dT "spoil") ai)))) (g_ sL Jy (dI 14)) r T=.ok (.str (BQ (t-14))) T2:=by
      rw[<-NT];refine ar (ck (af rfl (af rfl (af rfl ah))) (by simp)) (sb _) (jp bO ?_);rcases (show t-14=0\/t-14=1\/t-14=2 by omega) with h|h|h<;>rw[h]<;>rfl
     have mm:ak aG (aa Hk (aa (dI 9839) (aa (dI 6) ai))) r T2=.ok (.int (mx c 9839 6:Nat)) T2:=jH 9839 6 (v3 _);have ft:aa (bY (aa (g_ y_ (cg (aa (dT "lose") (aa (dT "double") (aa (dT "spoil") ai)))) (g_ sL Jy (dI 14))) (aa PT (aa (ak aG (aa Hk (aa (dI 9839) (aa (dI 6) ai)))) (aa Hk ai))))) ai r T=.ok [LA.d (.HK (t-14) rd (mx c 9839 6) c)] T2:=
      af (bF (af kd (af (v5 _) (af mm (af (v3 _) ah)))) (by simp)) ah
     have ee:=tu (S:=T2) (n:=l) (d:=LA.d (.HK (t-14) rd (mx c 9839 6) c)) R2.at_ (by rw[length_map];omega);refine⟨T2.set l (.lst ((xs++[LA.HK (t-14) rd (mx c 9839 6) c]).map LA.d)),l,sI (t:Int),sS (bi rd),?_,⟨dA R2.at_,wq R2.fr R2.new,R2.new⟩,cG Sz (Ne.symm Y9),.inl rfl⟩;have:bu (KG j2 Hv (aa (bY (aa (g_ y_ (cg (aa (dT "lose") (aa (dT "double") (aa (dT "spoil") ai)))) (g_ sL Jy (dI 14))) (aa PT (aa (ak aG (aa Hk (aa (dI 9839) (aa (dI 6) ai)))) (aa Hk ai))))) ai)) r T=some (.nx r,T2.set l (.lst ((xs++[LA.HK (t-14) rd (mx c 9839 6) c]).map LA.d))):=by
      refine aU (d:=.G0) ?_;rw[map_append];exact ld (v2 _) R1.at_ ft ee
     rw[this,<-hr]
    ·rw[decide_eq_false TU] at Qs;rw[ax Qs];simp only[if_neg TU] at LS ⊢;have an:dg (am (g_ G_ Jy (dI 17))) (bW w_) r T=.ok (decide (t=17/\falls=true)) T:=by
      rw[cR,au,Wl];by_cases h:t=17
      ·rw[decide_eq_true h];show bW w_ r T=_;rw[cX,au,v1];cases falls<;>simp[h]
      ·rw[decide_eq_false h];simp[h]
     by_cases hf:t=17/\falls=true
     ·rw[decide_eq_true hf] at an;rw[aW an];simp only[if_pos hf];have t2b:=mh c (p:=9833) (m:=2) (by decide);obtain⟨wh,Y_⟩:∃wh,decide (mx c 9833 2=0)=wh:=⟨_,rfl⟩;rw[Y_];obtain⟨U,hU⟩:∃U,T++[Cell.lst [.str "sender",.str "hearer"]]++[.lst [LA.d (.HD wh)]]=U:=⟨_,rfl⟩;have y:∀T,ak aG (aa Hk (aa (dI 9833) (aa (dI 2) ai))) r T=.ok (.int (mx c 9833 2:Nat)) T:=fun T=>jH 9833 2 (v3 _)
      have wi:g_ y_ (cg (aa (dT "sender") (aa (dT "hearer") ai))) (ak aG (aa Hk (aa (dI 9833) (aa (dI 2) ai)))) r T=.ok (.str (if wh then "sender" else "hearer")) (T++[.lst [.str "sender",.str "hearer"]]):=by
       refine ar (ck (af rfl (af rfl ah)) (by simp)) (y _) (jp bO ?_);rw[<-Y_];rcases (show mx c 9833 2=0\/mx c 9833 2=1 by omega) with h|h<;>rw[h]<;>rfl
      have ls:cg (aa (bY (aa (dT "fall") (aa (g_ y_ (cg (aa (dT "sender") (aa (dT "hearer") ai))) (ak aG (aa Hk (aa (dI 9833) (aa (dI 2) ai))))) ai))) ai) r T=.ok (.ob (T.length+1)) U:=by
       rw[ck (af (bF (af rfl (af wi ah)) (by simp)) ah) (by simp),<-hU];simp[LA.d]
      have P2:U[l]?=some (.lst (xs.map LA.d)):=by rw[<-hU];exact aB (aB R1.at_)
      have Wn:U[T.length+1]?=some (.lst [LA.d (.HD wh)]):=by rw[<-hU];exact aS (by simp)
      have ad:g_ bK Hv (cg (aa (bY (aa (dT "fall") (aa (g_ y_ (cg (aa (dT "sender") (aa (dT "hearer") ai))) (ak aG (aa Hk (aa (dI 9833) (aa (dI 2) ai))))) ai))) ai)) r T=.ok (.ob U.length) (U++[.lst ((xs++[LA.HD wh]).map LA.d)]):=by
       refine ar (v2 _) ls ?_;rw[map_append];exact tW P2 Wn (by simp;omega)
      have lU:T.length<=U.length:=by rw[<-hU];simp
      have fU:Fr [] T U:=by rw[<-hU,append_assoc];exact Fr.push
      have hs:=R1.fr.1;refine⟨_,U.length,sI (t:Int),sS (bi rd),?_,⟨bO,(R1.fr.tr fU).tr Fr.push,by omega⟩,aB (fU.get UN (by simp)),.inr (by omega)⟩;rw[bz ad,<-hr];rfl
     ·rw[decide_eq_false hf] at an;rw[ax an];simp only[if_neg hf] at LS ⊢;exact LS .Kq rfl (af (bF (af rfl ah) (by simp)) ah) rfl
def CM(falls:Bool)(ns:List Int)(S:List Cell):∃S' l,jq [.JG (ns.map D.int),.bl falls] S=.ok (.ob l) S'/\Row S S' l (dL falls ns):=by
 show ∃S' l,fin S (kL [sR ns,some (.bl falls),none,none,none,none] S)=_/\_;unfold kL;have e1:cg (aa (bY (aa (dT "open") ai)) (aa (bY (aa (dT "hand") (aa (ak bA (aa h_ (aa (dI 2) ai))) ai))) ai)) [sR ns,some (.bl falls),none,none,none,none] S=.ok (.ob S.length) (S++[.lst ([LA.Kq,.hand (cv ns 2)].map LA.d)]):=
  ck (af (bF (af rfl ah) (by simp)) (af (bF (af rfl (af (av (af rfl (af rfl ah)) (Fq _)) ah)) (by simp)) ah)) (by simp)
 rw[aw (bz e1)];show ∃S' l,fin S (aI _ _ [sR ns,some (.bl falls),sO S.length,none,none,none] (S++[.lst ([LA.Kq,.hand (cv ns 2)].map LA.d)]))=_/\_;obtain⟨sl,Q5⟩:∃sl,(ns.drop 3).take 60=sl:=⟨_,rfl⟩;have hsll:sl.length<=60:=by rw[<-Q5,length_take];omega
 obtain⟨S1,NI⟩:∃S1,S++[Cell.lst ([LA.Kq,.hand (cv ns 2)].map LA.d)]=S1:=⟨_,rfl⟩;have R0:Row S S1 S.length [LA.Kq,.hand (cv ns 2)]:=by rw[<-NI];exact⟨bO,Fr.push,Nat.le_refl _⟩
 have l1:S1.length=S.length+1:=by rw[<-NI];simp
 rw[NI];have s1:Js (JT Jd h_ (bL (dI 3)) (bL (dI 63))) [sR ns,some (.bl falls),sO S.length,none,none,none] S1=.ok ⟨sl.map D.int,some (S1.length,sl.map D.int)⟩ (S1++[.lst (sl.map D.int)]):=by
  rw[jW,au];have:JT Jd h_ (bL (dI 3)) (bL (dI 63)) [sR ns,some (.bl falls),sO S.length,none,none,none] S1=.ok (.ob S1.length) (S1++[.lst (sl.map D.int)]):=by
   rw[<-Q5,<-Dy];rfl
  rw[this];simp only[i8,bO]
 obtain⟨r',S',q,l,x3,x4,x5,rfl,k,Wo,UR⟩:=cK (g:=some (S1.length,sl.map D.int)) (tg:=gN 3) (b:=fA)
  (fun i r' S'=>∃l x3 x4 x5,r'=[sR ns,some (.bl falls),sO l,x3,x4,x5]/\Row S S' l ([LA.Kq,.hand (cv ns 2)]++(sl.take i).flatMap (gn falls))/\S'[S1.length]?=some (.lst (sl.map D.int))/\S1.length≠l) (sl.map D.int) 0 [sR ns,some (.bl falls),sO S.length,none,none,none] (S1++[.lst (sl.map D.int)])
  (by
   rintro i y r' S' hy ⟨l,x3,x4,x5,rfl,k,Wo,UR⟩;rw[getElem?_map] at hy;cases hp:sl[i]? with
   |none=>rw[hp] at hy;cases hy
   |some c=>
    rw[hp] at hy;cases hy;rw[Nat.zero_add] at k ⊢;have hlen:=oy falls (sl.take i);rw[length_take] at hlen;obtain⟨S2,l2,y4,y5,e2,k2,Sz,P2⟩:=As (falls:=falls) (ns:=ns) (c:=c) (x4:=x4) (x5:=x5) k (by rw[length_append];simp only[length_cons,length_nil];omega) Wo UR;have JD:=br Wo;refine⟨[sR ns,some (.bl falls),sO l,sI c,x4,x5],_,S2,rfl,e2,Sz,l2,_,_,_,rfl,?_,Sz,by omega⟩;rw[take_add_one,hp,toList_some,flatMap_append,<-append_assoc];simpa using k2)
  ⟨S.length,none,none,none,rfl,by simpa using qf R0 _,bO,by omega⟩
 rw[show 0+(sl.map D.int).length=sl.length by simp,take_length] at k;refine⟨S',l,?_,?_⟩
 ·rw[aw (by rw[jC s1];exact q),aN rfl];rfl
 ·unfold dL;rw[Q5];exact k
end
def wm{G:Cs}{S:List Cell}{a:Ad}{w:WW}(A:Jo G S a w):b0 G [.ob a.n] S=.ok (.tup (w.h.given.map K_)) S:=by
 show fin S (fu G [sO a.n] S)=_;unfold fu;rw[aN (av (af (bT (bT rfl A.ob rfl) A.hr.ob rfl) ah) (d7 A.hr.gv))];rfl
section
variable{G:Cs}{S S' S1 S2:List Cell}{a a' a1 a2:Ad}{w w' w1 w2:WW}{N:Nat}
def Jk.out(k:Jk G a S a' S' w'){j:Nat}{c:Cell}(hj:S[j]?=some c)(hn:j∉a.fp):S'[j]?=some c/\j∉a'.fp:=by
 refine⟨k.fr.get hj hn,fun z=>?_⟩;have:=br hj;rcases k.ad j z with h|h
 ·exact hn h
 ·omega
end
end Lw
namespace Lw
def j8{l:List (Nat×Pc)}{k:Nat}{p:Pc}(h:l.lookup k=some p):(k,p)∈l:=by
 induction l with
 |nil=>simp at h
 |cons a r ih=>
  obtain⟨a1,a2⟩:=a;rw[lookup_cons] at h;cases e:k == a1 with
  |true=>
   rw[e] at h;simp at h;have:=beq_iff_eq.mp e;subst this h;simp
  |false=>
   rw[e] at h;exact mem_cons_of_mem _ (ih h)
def ph{l:List (Nat×Pc)}{k:Nat}(h:l.lookup k=none):k∉l.map (·.1):=by
 induction l with
 |nil=>simp
 |cons a r ih=>
  obtain⟨a1,a2⟩:=a;rw[lookup_cons] at h;cases e:k == a1 with
  |true=>rw[e] at h;simp at h
  |false=>
   rw[e] at h;have h1:k≠a1:=fun q=>by rw[q,beq_self_eq_true] at e;cases e
   simp only[map_cons,mem_cons,not_or];exact⟨h1,ih h⟩
structure LU(Q:List Pc)(G:List (Nat×HM))(h:Hr):Prop where
 he:∀e,e∈h.early->Q[e.1]?=some e.2/\h.nx<=e.1
 hd:(h.early.map (·.1)).Nodup
 hb:h.begun=(PU (Q.take h.nx)).2
 hg:h.given=G++(PU (Q.take h.nx)).1.map fun m=>(h.op,m)
structure Pp(h h':Hr):Prop where
 w:h'.w=h.w
 op:h'.op=h.op
 nx:h.nx<=h'.nx
 keys:∀k,h.nx<=k->k<h'.nx->k∈h.early.map (·.1)
 sub:∀e,e∈h'.early->e∈h.early
 KZ:∀k,k∈h.early.map (·.1)->h'.nx<=k->k∈h'.early.map (·.1)
def Pp.refl(h:Hr):Pp h h:=⟨rfl,rfl,Nat.le_refl _,fun k a b=>by omega,fun _ q=>q,fun _ q _=>q⟩
def vD{l:List (Nat×Pc)}{n k:Nat}(hk:k∈l.map (·.1))(hn:k≠n):k∈(l.filter fun e=>decide (e.1≠n)).map (·.1):=by
 obtain⟨e,he,rfl⟩:=List.mem_map.mp hk;exact List.mem_map.mpr ⟨e,List.mem_filter.mpr ⟨he,decide_eq_true hn⟩,rfl⟩
def AV{Q:List Pc}{G:List (Nat×HM)}{h:Hr}{p:Pc}(r:LU Q G h)(hp:h.early.lookup h.nx=some p):LU Q G (h.pop.take p)/\(h.pop.take p).early=h.early.filter (fun e=>decide (e.1≠h.nx))/\(h.pop.take p).nx=h.nx+1/\(h.pop.take p).w=h.w/\(h.pop.take p).op=h.op:=by
 have hq:=(r.he _ (j8 hp)).1;have ht:Q.take (h.nx+1)=Q.take h.nx++[p]:=by
  have hl:=(List.getElem?_eq_some_iff.mp hq);obtain⟨h1,h2⟩:=hl;rw[take_add_one,hq];rfl
 have e1:(h.pop.take p).early=h.early.filter (fun e=>decide (e.1≠h.nx)):=by unfold Hr.take Hr.pop;split<;>rfl
 have e2:(h.pop.take p).nx=h.nx+1:=by unfold Hr.take Hr.pop;split<;>rfl
 have e3:(h.pop.take p).w=h.w:=by unfold Hr.take Hr.pop;split<;>rfl
 have e4:(h.pop.take p).op=h.op:=by unfold Hr.take Hr.pop;split<;>rfl
 refine⟨⟨?_,?_,?_,?_⟩,e1,e2,e3,e4⟩
 ·intro e he;rw[e1] at he;obtain⟨a1,a2⟩:=List.mem_filter.mp he;have a3:=r.he e a1;have a4:e.1≠h.nx:=by simpa using a2
  rw[e2];exact⟨a3.1,by omega⟩
 ·rw[e1];exact r.hd.sublist ((List.filter_sublist).map _)
 ·rw[e2,ht,vV];unfold Hr.take sE;by_cases hl:p.1=1
  ·rw[if_pos hl,if_pos hl]
  ·rw[if_neg hl,if_neg hl];show h.begun++[p]=_;rw[r.hb]
 ·rw[e2,e4,ht,vV];unfold Hr.take sE;by_cases hl:p.1=1
  ·rw[if_pos hl,if_pos hl];show h.given++[(h.op,bf (h.begun++[p]))]=_;rw[r.hg,r.hb];simp
  ·rw[if_neg hl,if_neg hl];exact r.hg
theorem nk{Q:List Pc}{G:List (Nat×HM)}:∀(n:Nat) (h:Hr),h.early.length<=n->LU Q G h->LU Q G (Hr.F_ n h)/\Pp h (Hr.F_ n h)/\(Hr.F_ n h).nx∉(Hr.F_ n h).early.map (·.1)
 |0,h,hl,r=>by
  have:h.early=[]:=List.length_eq_zero_iff.mp (by omega);exact⟨r,Pp.refl h,by unfold Hr.F_;rw[this];simp⟩
 |n+1,h,hl,r=>by
  unfold Hr.F_;cases e:h.early.lookup h.nx with
  |none=>exact⟨r,Pp.refl h,ph e⟩
  |some p=>
   dsimp only;obtain⟨r',e1,e2,e3,e4⟩:=AV r e;have hm:=j8 e;have JD:(h.pop.take p).early.length<=n:=by
    rw[e1];have:(h.early.filter fun e=>decide (e.1≠h.nx)).length<h.early.length:=List.length_filter_lt_length_iff_exists.mpr ⟨_,hm,by simp⟩;omega
   obtain⟨a,b,c⟩:=nk n _ JD r';refine⟨a,⟨b.w.trans e3,b.op.trans e4,by have:=b.nx;omega,?_,?_,?_⟩,c⟩
   ·intro k h1 h2;by_cases hk:k=h.nx
    ·rw[hk];exact List.mem_map.mpr ⟨_,hm,rfl⟩
    ·have:=b.keys k (by omega) h2;rw[e1] at this;obtain⟨q,hq,rfl⟩:=List.mem_map.mp this;exact List.mem_map.mpr ⟨q,(List.mem_filter.mp hq).1,rfl⟩
   ·intro q hq;have:=b.sub q hq;rw[e1] at this;exact(List.mem_filter.mp this).1
   ·intro k hk hn;have hb:=b.nx;exact b.KZ k (by rw[e1];exact vD hk (by omega)) hn
def xF{α:Type}{l:List α}{a:α}(h:l.Nodup)(ha:a∉l):(l++[a]).Nodup:=by
 rw[List.nodup_append];refine⟨h,by simp,fun x hx y hy=>?_⟩;simp at hy;subst hy;exact fun e=>ha (e ▸ hx)
def Ax{Q:List Pc}{G:List (Nat×HM)}{h:Hr}{i:Nat}{p:Pc}(hw:0<h.w)(r:LU Q G h)(h1:(h.nx:Int)-h.w<=i)(h2:i<h.nx+h.w)(hp:Q[i]?=some p) :
  LU Q G (h.keep (i % (2 * h.w)) p)/\(h.keep (i % (2 * h.w)) p).w=h.w/\(h.keep (i % (2 * h.w)) p).op=h.op/\(h.keep (i % (2 * h.w)) p).nx=h.nx/\(∀e,e∈(h.keep (i % (2 * h.w)) p).early->e∈h.early\/e=(i,p))/\(∀e,e∈h.early->e∈(h.keep (i % (2 * h.w)) p).early)/\
   (h.nx<=i->i∈(h.keep (i % (2 * h.w)) p).early.map (·.1)):=by
 have hi:h.idx (i % (2 * h.w))=(i:Int):=by
  unfold Hr.idx;have:((i % (2 * h.w):Nat):Int)=(i:Int) % (2 * (h.w:Int)):=by push_cast;rfl
  rw[this];exact nE hw h1 (by omega)
 have JD:i % (2 * h.w)<2 * h.w:=mod_lt _ (by omega);unfold Hr.keep;rw[hi];simp only[toNat_natCast];by_cases hc:i % (2 * h.w)<2 * h.w/\(h.nx:Int)<=i/\h.early.lookup i=none
 ·rw[if_pos hc];obtain⟨_,c2,c3⟩:=hc;refine⟨⟨?_,?_,r.hb,r.hg⟩,rfl,rfl,rfl,?_,?_,?_⟩
  ·intro e he;rcases List.mem_append.mp he with he|he
   ·exact r.he e he
   ·have:=List.mem_singleton.mp he;subst this;exact⟨hp,by show h.nx<=i;omega⟩
  ·show(h.early++[(i,p)]).map (·.1) |>.Nodup;rw[map_append];exact xF r.hd (ph c3)
  ·intro e he;rcases List.mem_append.mp he with he|he
   ·exact .inl he
   ·exact .inr (List.mem_singleton.mp he)
  ·exact fun e he=>mem_append_left _ he
  ·intro _;show i∈(h.early++[(i,p)]).map (·.1);rw[map_append];exact mem_append_right _ (by simp)
 ·rw[if_neg hc];refine⟨r,rfl,rfl,rfl,fun e he=>.inl he,fun e he=>he,fun hn=>?_⟩;have:h.early.lookup i≠none:=fun q=>hc ⟨JD,by omega,q⟩
  cases e:h.early.lookup i with
  |none=>exact absurd e this
  |some q=>exact List.mem_map.mpr ⟨_,j8 e,rfl⟩
def Cw.stepT(c:Cw):Cw:=match c.T with
 |[]=>c
 |a :: r=>{ c with h:=(c.h.f_ a).1,T:=r,B:=c.B++(c.h.f_ a).2 }
def Cw.Ib(c:Cw):Cw:=match c.B with
 |[]=>c
 |a :: r=>{ c with s:=c.s.f_ a,B:=r }
section
variable{x:Sys}
def rB(b:RV x){c:BC}(hb:1<=c.op/\c.op<=x.s.op)(hc:∀j bs,c≠.note x.s.op j bs):RV (x.setB (x.B++[c])):=by
 have hm:∀j bs,BC.note x.s.op j bs∈x.B++[c]->BC.note x.s.op j bs∈x.B:=fun j bs h=>by
  rcases List.mem_append.mp h with h|h
  ·exact h
  ·exact absurd (List.mem_singleton.mp h).symm (hc j bs)
 refine⟨fun a ha=>?_,fun j bs h=>b.bn j bs (hm j bs h),?_,fun q=>⟨(b.m1 q).1,fun j bs k h=>(b.m1 q).2 j bs k (hm j bs h)⟩,fun k hk=>⟨(b.m2 k hk).1,fun j bs h=>(b.m2 k hk).2 j bs (hm j bs h)⟩,fun j bs h=>b.m4 j bs (hm j bs h),
  fun q j bs h=>b.nh q j bs (hm j bs h),b.nd⟩
 ·rcases List.mem_append.mp ha with ha|ha
  ·exact b.bb a ha
  ·rw[List.mem_singleton.mp ha];exact hb
 ·refine dw b.bp (by simp) fun a _ a' OG j bs j' LO _ e2=>?_
  rw[List.mem_singleton.mp OG] at e2;exact absurd e2 (hc j' LO)
def qM{y:Sys}{s:Sr}{h:Hr}{T B:List v_}(h1:y.s=s)(h2:y.h=h)(h3:y.T.map y.cT=T)(h4:y.B.map y.cB=B):y.con=⟨s,h,T,B⟩:=by
 unfold Sys.con;rw[h1,h2,h3,h4]
def B8(v:Iv x){o:Nat}{r:List TC}(hT:x.T=.x_ o :: r):∃y:Sys,Iv y/\y.con=x.con.stepT/\y.s=x.s/\y.st=x.st:=by
 obtain⟨c,t,b⟩:=v;have Kn:TC.x_ o∈x.T:=by rw[hT];simp
 obtain⟨Pq,OB⟩:=t.bd _ Kn;have Qt:(TC.x_ o).rank=2 * o:=rfl;have Na:(TC.x_ o).op=o:=rfl;rw[Qt] at OB;rw[Na] at Pq;have Tx:=t.rh _ Kn;rw[Qt] at Tx;have so:=t.so;have r6:=t.r6;rw[hT] at so r6;obtain⟨Wq,TV⟩:=List.pairwise_cons.mp so;obtain⟨_,TX⟩:=List.pairwise_cons.mp r6;have hm:∀cc,cc∈r->cc∈x.T:=fun cc h=>by rw[hT];exact mem_cons_of_mem _ h
 have TY:o<=x.s.op:=by omega
 have t1:=p5 t hm TV TX;have c1:=vY c r;have b1:=wA b r fun h=>.inl (hm _ h)
 have Nv:x.con.stepT=⟨x.s,(x.h.f_ (.x_ o)).1,r.map x.cT,x.B.map x.cB++(x.h.f_ (.x_ o)).2⟩:=by
  unfold Sys.con Cw.stepT;rw[hT];rfl
 have Za:∀q,o<=q->x.tk q=0:=fun q hq=>by
  cases e:x.tk q with
  |zero=>rfl
  |succ n=>
   have:=t.rt q (by omega) _ Kn;rw[Qt] at this;omega
 by_cases he:x.h.op=o
 ·refine⟨(x.Ko r).setB ((x.Ko r).B++[.t_ o]),⟨tX c1 _,tS t1 _,rB (c:=.t_ o) b1 ⟨Pq,TY⟩ (fun _ _ q=>by cases q)⟩,?_,rfl,rfl⟩;rw[Nv];have e1:x.h.f_ (.x_ o)=(x.h,[.t_ o]):=by simp[Hr.f_,he]
  rw[e1];refine qM rfl rfl rfl ?_;show(x.B++[BC.t_ o]).map x.cB=_;rw[map_append];rfl
 ·have JD:x.h.op<o:=by omega
  have e1:x.h.f_ (.x_ o)=(x.h.begin_ o,[.t_ o]):=by
   simp only[Hr.f_];rw[if_neg (by omega),if_pos JD]
  refine⟨{ x with h:=x.h.begin_ o,T:=r,B:=x.B++[.t_ o] },⟨?_,?_,?_⟩,?_,rfl,rfl⟩
  ·refine⟨c.w0,c.ww,c.ps,fun q=>⟨(c.N3 q).1,(c.N3 q).2.1,(c.N3 q).2.2.1,fun _=>rfl⟩,c.su,c.sl,c.ch,c.s0,c.bt,c.tw,c.tl,c.tz,c.t0,TY,fun _=>rfl,(Za o (Nat.le_refl _)).symm,fun _ q hq=>Za q (Nat.le_of_lt hq),?_,nodup_nil,rfl,c.hg,?_,c.n0⟩
   ·intro e q;have:e∈([]:List (Nat×Pc)):=q;simp at this
   ·intro _ e q;have:e∈([]:List (Nat×Pc)):=q;simp at this
  ·refine⟨TV,t1.bd,t1.bo,t1.rt,?_,fun q=>absurd rfl q,t1.r2,t1.r3,?_,TX,t1.r7⟩
   ·intro cc h;have:=Wq cc h;rw[Qt] at this;exact this
   ·intro i h;have:=t.r3 o i Kn (hm _ h);refine⟨?_,zero_le _,fun e q=>?_⟩
    ·show i<0+x.s.w;omega
    ·have:e∈([]:List (Nat×Pc)):=q;simp at this
  ·have b2:=rB b1 (c:=.t_ o) ⟨Pq,TY⟩ (fun _ _ q=>by cases q);refine⟨b2.bb,b2.bn,b2.bp,fun q=>?_,b2.m2,b2.m4,b2.nh,b2.nd⟩;have q':o=x.s.op:=q;have TZ:TC.x_ x.s.op∈x.T:=q' ▸ Kn;refine⟨fun k hk=>?_,fun j bs k hj _=>?_⟩
   ·have hk':k∈x.s.GZ:=hk;rw[b.nd TZ] at hk';simp at hk'
   ·rcases List.mem_append.mp hj with hj|hj
    ·exact absurd hj (b.nh (.inl TZ) j bs)
    ·simp at hj
  ·rw[Nv,e1];refine qM rfl rfl rfl ?_;show(x.B++[BC.t_ o]).map x.cB=_;rw[map_append];rfl
def wr(c:Po x)(h:x.h.op≠0):x.h.given=(range x.h.op).flatMap x.run++x.run x.h.op:=by
 rw[c.hg];have e:x.s.op+1=x.h.op+1+(x.s.op-x.h.op):=by have:=c.ho;omega
 rw[e,List.range_add,flatMap_append,range_succ,flatMap_append];have z:((range (x.s.op-x.h.op)).map (x.h.op+1+·)).flatMap x.run=[]:=by
  rw[List.flatMap_eq_nil_iff];intro o ho;obtain⟨k,_,rfl⟩:=List.mem_map.mp ho;unfold Sys.run;rw[c.hl h _ (by omega)];simp[He]
 rw[z];simp
def DS(v:Iv x){o i:Nat}{r:List TC}(hT:x.T=.data o i :: r):∃y:Sys,Iv y/\y.con=x.con.stepT/\y.s=x.s/\y.st=x.st:=by
 obtain⟨c,t,b⟩:=v;have Kn:TC.data o i∈x.T:=by rw[hT];simp
 obtain⟨Pq,OB⟩:=t.bd _ Kn;have Qt:(TC.data o i).rank=2 * o+1:=rfl;have Na:(TC.data o i).op=o:=rfl;rw[Qt] at OB;rw[Na] at Pq;have Tx:=t.rh _ Kn;rw[Qt] at Tx;have so:=t.so;have r6:=t.r6;rw[hT] at so r6;obtain⟨Wq,TV⟩:=List.pairwise_cons.mp so;obtain⟨r61,TX⟩:=List.pairwise_cons.mp r6;have hm:∀cc,cc∈r->cc∈x.T:=fun cc h=>by rw[hT];exact mem_cons_of_mem _ h
 have TY:o<=x.s.op:=by omega
 have t1:=p5 t hm TV TX;have c1:=vY c r;have b1:=wA b r fun h=>.inl (hm _ h)
 have US:∀cc,cc∈r->2 * o+1<=cc.rank:=fun cc h=>by have:=Wq cc h;rw[Qt] at this;exact this
 have hP:=t.r2 o i Kn;obtain⟨p,hp⟩:∃p,(x.P o)[i]?=some p:=⟨(x.P o)[i],by simp[hP]⟩;have YG:x.cT (.data o i)=.data o (i % (2 * x.s.w)) p:=by
  show v_.data o (i % (2 * x.s.w)) ((x.P o).getD i (0,[]))=_;simp[getD,hp]
 have Nv:x.con.stepT=⟨x.s,(x.h.f_ (.data o (i % (2 * x.s.w)) p)).1,r.map x.cT,x.B.map x.cB++(x.h.f_ (.data o (i % (2 * x.s.w)) p)).2⟩:=by
  unfold Sys.con Cw.stepT;rw[hT,map_cons,YG]
 by_cases he:x.h.op=o
 rotate_left
 ·have JD:x.h.op<o:=by omega
  refine⟨(x.Ko r).setB ((x.Ko r).B++[.Iy o]),⟨tX c1 _,tS t1 _,rB (c:=.Iy o) b1 ⟨Pq,TY⟩ (fun _ _ q=>by cases q)⟩,?_,rfl,rfl⟩;rw[Nv];have e1:x.h.f_ (.data o (i % (2 * x.s.w)) p)=(x.h,[.Iy o]):=by
   simp only[Hr.f_];rw[if_neg (by omega),if_pos JD]
  rw[e1];refine qM rfl rfl rfl ?_;show(x.B++[BC.Iy o]).map x.cB=_;rw[map_append];rfl
 ·subst he;have h0:x.h.op≠0:=by omega
  obtain⟨q1,q2,q3⟩:=t.r4 i Kn;have hw:=c.ww;have PX:x.h.nx<=(x.P x.h.op).length:=by rw[c.hn];exact c.tl _
  have row:LU (x.P x.h.op) ((range x.h.op).flatMap x.run) x.h:=by
   refine⟨fun e h=>⟨(c.he e h).1,Nat.le_of_lt (c.he e h).2⟩,c.hd,c.hb,?_⟩;rw[wr c h0];congr 1;unfold Sys.run;rw[c.hn,show x.P x.h.op=fl x.s.most (x.s.msgs.drop (x.st x.h.op)) from rfl,wN]
  obtain⟨k1,k2,k3,k4,k5,k6,k7⟩:=Ax (h:=x.h) (i:=i) (p:=p) (by rw[hw];exact c.w0) row (by omega) (by omega) hp;rw[hw] at k1 k2 k3 k4 k5 k6 k7;obtain⟨a1,a2,a3⟩:=nk _ _ (Nat.le_refl _) k1;have e1:x.h.f_ (.data x.h.op (i % (2 * x.s.w)) p)=(x.h.data (i % (2 * x.s.w)) p,[(x.h.data (i % (2 * x.s.w)) p).note]):=by
   simp only[Hr.f_];rw[if_neg (Nat.lt_irrefl _),if_neg (Nat.lt_irrefl _)]
  have Wr:x.h.data (i % (2 * x.s.w)) p=Hr.F_ (x.h.keep (i % (2 * x.s.w)) p).early.length (x.h.keep (i % (2 * x.s.w)) p):=rfl;rw[<-Wr] at a1 a2 a3;obtain⟨h',hh⟩:∃h',x.h.data (i % (2 * x.s.w)) p=h':=⟨_,rfl⟩;rw[hh] at a1 a2 a3 e1;have w':h'.w=x.s.w:=a2.w.trans k2;have M9:h'.op=x.h.op:=a2.op.trans k3;have Zb:x.h.nx<=h'.nx:=by have:=a2.nx;rw[k4] at this;exact this
  have Zc:∀e,e∈h'.early->e∈x.h.early\/e=(i,p):=fun e q=>k5 e (a2.sub e q)
  have key:∀k,k∈x.h.early.map (·.1)->h'.nx<=k->k∈h'.early.map (·.1):=fun k q hk=>by
   obtain⟨e,he,rfl⟩:=List.mem_map.mp q;exact a2.KZ _ (List.mem_map.mpr ⟨e,k6 e he,rfl⟩) hk
  have gap:∀k,x.h.nx<=k->k<h'.nx->k=i\/k∈x.h.early.map (·.1):=fun k h1 h2=>by
   have:=a2.keys k (by rw[k4];exact h1) h2;obtain⟨e,he,rfl⟩:=List.mem_map.mp this;rcases k5 e he with q|q
   ·exact .inr (List.mem_map.mpr ⟨e,q,rfl⟩)
   ·rw[q];exact .inl rfl
  have bound:∀M,(∀e,e∈x.h.early->e.1<M)->i<M->x.h.nx<=M->h'.nx<=M:=fun M m1 m2 m3=>by
   apply Nat.le_of_not_lt;intro JD;rcases gap M m3 JD with q|q
   ·omega
   ·obtain⟨e,he,q⟩:=List.mem_map.mp q;have:=m1 e he;omega
  have pl:h'.nx<=(x.P x.h.op).length:=bound _ (fun e he=>(List.getElem?_eq_some_iff.mp (c.he e he).1).1) hP PX;have strict:∀e,e∈h'.early->(x.P x.h.op)[e.1]?=some e.2/\h'.nx<e.1:=fun e q=>by
   obtain⟨z1,z2⟩:=a1.he e q;have:e.1≠h'.nx:=fun z=>a3 (z ▸ List.mem_map.mpr ⟨e,q,rfl⟩)
   exact⟨z1,by omega⟩
  have Pr:x.s.st=.opening->x.h.op≠x.s.op:=fun q z=>by
   have:=t.bo q _ Kn;rw[Qt] at this;omega
  obtain⟨y,hy⟩:∃y:Sys,y = { x with h:=h',T:=r,B:=x.B++[.note x.h.op h'.nx h'.bits],tk:=fun q=>if q=x.h.op then h'.nx else x.tk q }:=⟨_,rfl⟩;have ys:y.s=x.s:=by rw[hy]
  have yh:y.h=h':=by rw[hy]
  have yT:y.T=r:=by rw[hy]
  have yB:y.B=x.B++[.note x.h.op h'.nx h'.bits]:=by rw[hy]
  have Nw:y.st=x.st:=by rw[hy]
  have LZ:∀q,q≠x.h.op->y.tk q=x.tk q:=fun q hq=>by rw[hy];exact if_neg hq
  have N5:y.tk x.h.op=h'.nx:=by rw[hy];exact if_pos rfl
  have yP:∀q,y.P q=x.P q:=fun q=>by unfold Sys.P;rw[ys,Nw]
  have Qu:∀q,q≠x.h.op->y.run q=x.run q:=fun q hq=>by unfold Sys.run;rw[ys,Nw,yP,LZ q hq]
  have Ws:∀q,x.en q<=y.en q:=fun q=>by
   unfold Sys.en;rw[Nw,yP];by_cases hq:q=x.h.op
   ·rw[hq,N5];have:=qb (x.P x.h.op) Zb;rw[c.hn] at this;omega
   ·rw[LZ q hq];exact Nat.le_refl _
  have Zd:x.tk x.s.op<=y.tk x.s.op:=by
   by_cases hq:x.s.op=x.h.op
   ·rw[hq,N5,<-c.hn];exact Zb
   ·rw[LZ _ hq];exact Nat.le_refl _
  refine⟨y,⟨?_,?_,?_⟩,?_,ys,Nw⟩
  ·refine⟨by rw[ys];exact c.w0,by rw[yh,ys];exact w',by rw[ys];intro q;rw[yP];exact c.ps q,?_,by rw[ys,Nw,yP];exact c.su,by rw[ys,Nw];exact c.sl,?_,by rw[Nw];exact c.s0,?_,?_,?_,?_,?_,by rw[yh,ys,M9];exact c.ho,?_,?_,?_,?_,?_,?_,?_,?_,by rw[ys];exact c.n0⟩
   ·rw[ys,yh,M9];intro q;refine⟨(c.N3 q).1,(c.N3 q).2.1,?_,fun z=>absurd z (Pr q)⟩;rw[LZ _ (fun z=>Pr q z.symm)];exact(c.N3 q).2.2.1
   ·rw[ys,Nw];intro q h1 h2;obtain⟨q',h3,h4⟩:=c.ch q h1 h2;exact⟨q',h3,Nat.le_trans h4 (Ws q')⟩
   ·rw[ys];exact Nat.le_trans c.bt Zd
   ·rw[ys];by_cases hq:x.s.op=x.h.op
    ·rw[hq,N5];refine bound _ (fun e he=>c.ek hq.symm e he) (t.r7 i (hq ▸ Kn)) ?_;rw[c.hn,<-hq];exact c.tw
    ·rw[LZ _ hq];exact c.tw
   ·intro q;rw[yP];by_cases hq:q=x.h.op
    ·rw[hq,N5];exact pl
    ·rw[LZ q hq];exact c.tl q
   ·rw[ys];intro q hq;rw[LZ q (by have:=c.ho;omega)];exact c.tz q hq
   ·rw[LZ 0 (fun z=>h0 z.symm)];exact c.t0
   ·rw[yh,M9];exact fun z=>absurd z h0
   ·rw[yh,M9,N5]
   ·rw[yh,M9];intro _ q hq;rw[LZ q (by omega)];exact c.hl h0 q hq
   ·rw[yh,M9];intro e q;rw[yP];exact strict e q
   ·rw[yh];exact a1.hd
   ·rw[yh,M9,yP];exact a1.hb
   ·rw[yh,ys];have e3:x.s.op+1=x.h.op+1+(x.s.op-x.h.op):=by have:=c.ho;omega
    rw[e3,List.range_add,flatMap_append,range_succ,flatMap_append,a1.hg];have z:((range (x.s.op-x.h.op)).map (x.h.op+1+·)).flatMap y.run=[]:=by
     rw[List.flatMap_eq_nil_iff];intro o ho;obtain⟨k,_,rfl⟩:=List.mem_map.mp ho;rw[Qu _ (by omega)];unfold Sys.run;rw[c.hl h0 _ (by omega)];simp[He]
    rw[z,append_nil,flatMap_cons,List.flatMap_nil,append_nil];congr 1
    ·exact jk fun q hq=>(Qu q (by have:=List.mem_range.mp hq;omega)).symm
    ·unfold Sys.run;rw[ys,Nw,yP,N5,M9,show x.P x.h.op=fl x.s.most (x.s.msgs.drop (x.st x.h.op)) from rfl,wN]
   ·rw[yh,M9,ys];intro q e he;rcases Zc e he with z|z
    ·exact c.ek q e z
    ·rw[z];exact t.r7 i (q ▸ Kn)
  ·refine⟨by rw[yT];exact TV,by rw[yT,ys];exact t1.bd,by rw[yT,ys];exact t1.bo,?_,?_,?_,?_,by rw[yT,ys];exact t1.r3,?_,by rw[yT,ys];exact TX,by rw[yT,ys];exact t1.r7⟩
   ·rw[yT];intro q hq cc h;by_cases z:q=x.h.op
    ·rw[z];exact US cc h
    ·rw[LZ q z] at hq;exact t1.rt q hq cc h
   ·rw[yT,yh,M9];intro cc h;have:=US cc h;omega
   ·rw[yT,yh,M9];exact fun _ cc h=>US cc h
   ·rw[yT];intro q j h;rw[yP];exact t1.r2 q j h
   ·rw[yT,yh,M9,ys];intro j h;obtain⟨z1,z2,z3⟩:=t.r4 j (hm _ h);have z4:=r61 _ h x.h.op i j rfl rfl;refine⟨by omega,bound _ z3 z4 z2,fun e he=>?_⟩;rcases Zc e he with q|q
    ·exact z3 e q
    ·rw[q];exact z4
  ·have Ov:∀k,x.h.op=x.s.op->(k<x.h.nx\/k∈x.h.early.map (·.1))->k≠h'.nx/\(k<h'.nx\/k∈h'.early.map (·.1)):=by
    intro k _ hk;rcases hk with hk|hk
    ·exact⟨by omega,.inl (by omega)⟩
    ·by_cases JD:k<h'.nx
     ·exact⟨by omega,.inl JD⟩
     ·have:=key k hk (by omega);exact⟨fun z=>a3 (z ▸ this),.inr this⟩
   have Nx:∀j bs,BC.note x.s.op j bs∈y.B->BC.note x.s.op j bs∈x.B\/(x.h.op=x.s.op/\j=h'.nx/\bs=h'.bits):=by
    intro j bs h;rw[yB] at h;rcases List.mem_append.mp h with h|h
    ·exact .inl h
    ·have:=List.mem_singleton.mp h
     injection this with z1 z2 z3
     exact .inr ⟨z1.symm,z2,z3⟩
   have Ze:∀k,mk h'.nx h'.bits k->k∈h'.early.map (·.1):=by
    rintro k ⟨d,hd,rfl⟩;unfold Hr.bits at hd;rw[getElem?_map] at hd;cases e:(range h'.w)[d]? with
    |none=>rw[e] at hd;simp at hd
    |some d'=>
     rw[e] at hd;obtain⟨z1,z2⟩:=List.getElem?_eq_some_iff.mp e;rw[List.getElem_range] at z2;subst z2;cases e2:h'.early.lookup (h'.nx+d) with
     |none=>rw[map_some,e2] at hd;simp at hd
     |some q=>exact List.mem_map.mpr ⟨_,j8 e2,rfl⟩
   refine⟨?_,?_,?_,?_,?_,?_,?_,?_⟩
   ·rw[yB,ys];intro a ha;rcases List.mem_append.mp ha with ha|ha
    ·exact b.bb a ha
    ·rw[List.mem_singleton.mp ha];exact⟨by show 1<=x.h.op;omega,c.ho⟩
   ·rw[ys];intro j bs h;rcases Nx j bs h with h|⟨z1,z2,_⟩
    ·exact⟨(b.bn j bs h).1,Nat.le_trans (b.bn j bs h).2 Zd⟩
    ·subst z2;rw[<-z1,N5];refine⟨?_,Nat.le_refl _⟩;have h1:=c.bt;have h2:=c.hn;rw[z1] at h2;omega
   ·rw[yB,ys];refine dw b.bp (by simp) fun a ha a' OG j bs j' LO e1 e2=>?_
    rw[List.mem_singleton.mp OG] at e2
    injection e2 with z1 z2 z3
    subst z2;rw[e1] at ha;have h1:=(b.bn j bs ha).2;have h2:=c.hn;rw[z1] at h2;refine⟨by omega,fun hk=>?_⟩;exact(Ov h'.nx z1 ((b.m1 z1).2 j bs _ ha hk)).1 rfl
   ·rw[yh,M9,ys];intro q;refine⟨fun k hk=>(Ov k q ((b.m1 q).1 k hk)).2,fun j bs k hj hk=>?_⟩;rcases Nx j bs hj with h|⟨_,z2,z3⟩
    ·exact(Ov k q ((b.m1 q).2 j bs k h hk)).2
    ·subst z2 z3;exact .inr (Ze k hk)
   ·rw[ys];intro k hk;refine⟨(b.m2 k hk).1,fun j bs hj=>?_⟩;rcases Nx j bs hj with h|⟨z1,z2,_⟩
    ·exact(b.m2 k hk).2 j bs h
    ·rw[z2];exact(Ov k z1 ((b.m1 z1).1 k hk)).1
   ·rw[ys];intro j bs hj;rcases Nx j bs hj with h|⟨z1,z2,z3⟩
    ·exact b.m4 j bs h
    ·subst z2 z3;exact fun hk=>a3 (Ze _ hk)
   ·rw[yT,ys];intro q j bs hj;rcases Nx j bs hj with h|⟨z1,_,_⟩
    ·exact b1.nh q j bs h
    ·rcases q with q|q
     ·have:=US _ q;have Sz:(TC.x_ x.s.op).rank=2 * x.s.op:=rfl;rw[Sz] at this;omega
     ·exact Pr q z1
   ·rw[yT,ys];exact b1.nd
  ·rw[Nv,e1];refine qM ys yh ?_ ?_
   ·rw[yT];refine map_congr_left fun a _=>?_
    cases a with
    |x_ q=>rfl
    |data q j=>
     show v_.data q (j % (2 * y.s.w)) ((y.P q).getD j (0,[]))=v_.data q (j % (2 * x.s.w)) ((x.P q).getD j (0,[]));rw[ys,yP]
   ·rw[yB,map_append];congr 1
    ·refine map_congr_left fun a _=>?_
     cases a<;>simp[Sys.cB,ys]
    ·show [v_.note x.h.op (h'.nx % (2 * y.s.w)) h'.bits]=[h'.note];unfold Hr.note;rw[M9,w',ys]
def BB(v:Iv x):∃y:Sys,Iv y/\y.con=x.con.stepT/\y.s=x.s/\y.st=x.st:=by
 cases e:x.T with
 |nil=>
  refine⟨x,v,?_,rfl,rfl⟩;unfold Sys.con Cw.stepT;rw[e];rfl
 |cons a r=>
  cases a with
  |x_ o=>exact B8 v e
  |data o i=>exact DS v e
theorem fw:∀(bs:List Int) (s:Sr) (k:Nat),(s.Hj k bs).w=s.w/\(s.Hj k bs).most=s.most/\(s.Hj k bs).msgs=s.msgs/\(s.Hj k bs).sure=s.sure/\(s.Hj k bs).op=s.op/\(s.Hj k bs).st=s.st/\(s.Hj k bs).ps=s.ps/\(s.Hj k bs).base=s.base/\∀t,t∈(s.Hj k bs).GZ->t∈s.GZ\/∃i,bs[i]?=some 1/\t=s.base+(k+i)
 |[],s,k=>⟨rfl,rfl,rfl,rfl,rfl,rfl,rfl,rfl,fun t h=>.inl h⟩
 |b :: bs,s,k=>by
  unfold Sr.Hj;by_cases hc:b=1/\s.base+k<s.ps.length/\s.base+k∉s.GZ
  ·rw[if_pos hc];obtain⟨h1,h2,h3,h4,h5,h6,h7,h8,h9⟩:=fw bs { s with GZ:=s.GZ++[s.base+k] } (k+1);refine⟨h1,h2,h3,h4,h5,h6,h7,h8,fun t ht=>?_⟩;rcases h9 t ht with q|⟨i,q1,q2⟩
   ·have q':t∈s.GZ++[s.base+k]:=q;rcases List.mem_append.mp q' with q'|q'
    ·exact .inl q'
    ·exact .inr ⟨0,by simp[hc.1],by have:=List.mem_singleton.mp q';omega⟩
   ·exact .inr ⟨i+1,by simpa using q1,by have:t=s.base+(k+1+i):=q2;omega⟩
  ·rw[if_neg hc];obtain⟨h1,h2,h3,h4,h5,h6,h7,h8,h9⟩:=fw bs s (k+1);refine⟨h1,h2,h3,h4,h5,h6,h7,h8,fun t ht=>?_⟩;rcases h9 t ht with q|⟨i,q1,q2⟩
   ·exact .inl q
   ·exact .inr ⟨i+1,by simpa using q1,by omega⟩
def z8(R:List Pc){b i:Nat}(h:b<=i):He (R.take b)+He ((R.take i).drop b)=He (R.take i):=by
 have:R.take i=R.take b++(R.take i).drop b:=by
  have h2:=(take_append_drop b (R.take i)).symm;rw[List.take_take,Nat.min_eq_left h] at h2;exact h2
 rw[this,eB,<-this]
def uS(v:Iv x){c:BC}{r:List BC}(hB:x.B=c :: r)(hs:x.s.f_ (x.cB c)=x.s):∃y:Sys,Iv y/\y.con=x.con.Ib:=by
 have bp:=v.b.bp;rw[hB] at bp;refine⟨x.setB r,⟨tX v.c r,tS v.t r,p0 v.b (fun a h=>by rw[hB];exact mem_cons_of_mem _ h) (List.pairwise_cons.mp bp).2⟩,?_⟩;unfold Sys.con Cw.Ib;rw[hB,map_cons];dsimp only;rw[hs];rfl
def rC{c:BC}{r:List BC}(hB:x.B=c :: r):x.con.Ib=⟨x.s.f_ (x.cB c),x.h,x.T.map x.cT,r.map x.cB⟩:=by
 unfold Sys.con Cw.Ib;rw[hB];rfl
def yd(v:Iv x){r:List BC}(hB:x.B=.t_ x.s.op :: r)(IU:x.s.st=.opening):∃y:Sys,Iv y/\y.con=x.con.Ib:=by
 obtain⟨c,t,b⟩:=v;have bp:=b.bp;rw[hB] at bp;have hm:∀a,a∈r->a∈x.B:=fun a h=>by rw[hB];exact mem_cons_of_mem _ h
 have KO:x.s.st≠.Hs:=by rw[IU];intro z;cases z
 have hs:x.s.f_ (x.cB (.t_ x.s.op)) = { x.s with st:=.opened }:=by
  show x.s.f_ (.t_ x.s.op)=_;unfold Sr.f_;exact if_pos ⟨rfl,IU⟩
 refine⟨{ x with s:={ x.s with st:=.opened },B:=r },⟨?_,?_,?_⟩,?_⟩
 ·exact⟨c.w0,c.ww,fun _=>c.ps KO,(fun q=>by cases q),c.su,c.sl,c.ch,c.s0,c.bt,c.tw,c.tl,c.tz,c.t0,c.ho,c.hz,c.hn,c.hl,c.he,c.hd,c.hb,c.hg,c.ek,c.n0⟩
 ·exact⟨t.so,t.bd,(fun q=>by cases q),t.rt,t.rh,t.re,t.r2,t.r3,t.r4,t.r6,t.r7⟩
 ·refine⟨fun a h=>b.bb a (hm a h),fun j bs h=>b.bn j bs (hm _ h),(List.pairwise_cons.mp bp).2,fun q=>⟨(b.m1 q).1,fun j bs k h=>(b.m1 q).2 j bs k (hm _ h)⟩,fun k hk=>⟨(b.m2 k hk).1,fun j bs h=>(b.m2 k hk).2 j bs (hm _ h)⟩,fun j bs h=>b.m4 j bs (hm _ h),?_,b.nd⟩;intro q j bs h;rcases q with q|q
  ·exact b.nh (.inl q) j bs (hm _ h)
  ·cases q
 ·rw[rC hB,hs];rfl
def Ez(v:Iv x){r:List BC}(hB:x.B=.Iy x.s.op :: r)(IU:x.s.st=.opened):∃y:Sys,Iv y/\y.con=x.con.Ib:=by
 have hs:x.s.f_ (x.cB (.Iy x.s.op))=x.s.anew:=by
  show x.s.f_ (.Iy x.s.op)=_;unfold Sr.f_;exact if_pos ⟨rfl,IU⟩
 have bp:=v.b.bp;rw[hB] at bp;have v1:Iv (x.setB r):=⟨tX v.c r,tS v.t r,p0 v.b (fun a h=>by rw[hB];exact mem_cons_of_mem _ h) (List.pairwise_cons.mp bp).2⟩;obtain⟨v2,e2⟩:=yi v1;refine⟨(x.setB r).anew,v2,?_⟩;rw[e2,rC hB,hs];rfl
def Dh(v:Iv x){j:Nat}{bs:List Int}{r:List BC}(hB:x.B=.note x.s.op j bs :: r)(IU:x.s.st=.opened):∃y:Sys,Iv y/\y.con=x.con.Ib:=by
 obtain⟨c,t,b⟩:=v;have bp:=b.bp;rw[hB] at bp;obtain⟨Zf,bp2⟩:=List.pairwise_cons.mp bp;have hm:∀a,a∈r->a∈x.B:=fun a h=>by rw[hB];exact mem_cons_of_mem _ h
 have Kn:BC.note x.s.op j bs∈x.B:=by rw[hB];simp
 have KO:x.s.st≠.Hs:=by rw[IU];intro z;cases z
 obtain⟨So,Na⟩:=c.ps KO;obtain⟨Ql,Qm⟩:=b.bn j bs Kn;have htl:=c.tl x.s.op;have htw:=c.tw;have hw:=c.w0;have hn:iz (((j % (2 * x.s.w):Nat)):Int) (x.s.base:Int) x.s.w=(j:Int):=by
  have:((j % (2 * x.s.w):Nat):Int)=(j:Int) % (2 * (x.s.w:Int)):=by push_cast;rfl
  rw[this];exact nE hw (by omega) (by omega)
 have hs:x.s.f_ (x.cB (.note x.s.op j bs))=(x.s.I0 j).Hj 0 bs:=by
  show x.s.f_ (.note x.s.op (j % (2 * x.s.w)) bs)=_;have h1:x.s.f_ (.note x.s.op (j % (2 * x.s.w)) bs)=x.s.z_ (j % (2 * x.s.w)) bs:=by unfold Sr.f_;exact if_pos ⟨rfl,IU⟩
  rw[h1];unfold Sr.z_;rw[if_pos ⟨mod_lt _ (by omega),by rw[hn,So];omega⟩,hn,toNat_natCast]
 obtain⟨h1,h2,h3,h4,h5,h6,h7,h8,h9⟩:=fw bs (x.s.I0 j) 0;obtain⟨s',Qa⟩:∃s',(x.s.I0 j).Hj 0 bs=s':=⟨_,rfl⟩;rw[Qa] at h1 h2 h3 h4 h5 h6 h7 h8 h9 hs;have k1:s'.w=x.s.w:=h1;have k2:s'.most=x.s.most:=h2;have k3:s'.msgs=x.s.msgs:=h3;have k4:s'.sure=x.s.sure+He ((x.s.ps.take j).drop x.s.base):=h4;have k5:s'.op=x.s.op:=h5;have k6:s'.st=x.s.st:=h6;have k7:s'.ps=x.s.ps:=h7;have k8:s'.base=j:=h8;obtain⟨y,hy⟩:∃y:Sys,y = { x with s:=s',B:=r }:=⟨_,rfl⟩;have ys:y.s=s':=by rw[hy]
 have yh:y.h=x.h:=by rw[hy]
 have yT:y.T=x.T:=by rw[hy]
 have yB:y.B=r:=by rw[hy]
 have Nw:y.st=x.st:=by rw[hy]
 have LZ:y.tk=x.tk:=by rw[hy]
 have yP:∀o,y.P o=x.P o:=fun o=>by unfold Sys.P;rw[ys,Nw,k2,k3]
 have Ws:∀o,y.en o=x.en o:=fun o=>by unfold Sys.en;rw[Nw,yP,LZ]
 have Qu:y.run=x.run:=by funext o;unfold Sys.run;rw[ys,Nw,yP,LZ,k3]
 refine⟨y,⟨?_,?_,?_⟩,?_⟩
 ·refine⟨?_,?_,?_,?_,?_,?_,?_,?_,?_,?_,?_,?_,?_,?_,?_,?_,?_,?_,?_,?_,?_,?_,?_⟩
  ·rw[ys,k1];exact c.w0
  ·rw[ys,yh,k1];exact c.ww
  ·intro q;rw[ys,k7,yP,k5];exact c.ps KO
  ·intro q;rw[ys,k6,IU] at q;cases q
  ·rw[ys,k4,k5,k8,Nw,yP,c.su,So,Nat.add_assoc,z8 _ Ql]
  ·intro o ho;rw[ys,k5] at ho;rw[ys,k3,Nw];exact c.sl o ho
  ·intro o h1 h2;rw[ys,k5] at h2;obtain⟨o',q1,q2⟩:=c.ch o h1 h2;exact⟨o',q1,by rw[Nw,Ws];exact q2⟩
  ·rw[Nw];exact c.s0
  ·rw[ys,LZ,k8,k5];exact Qm
  ·rw[ys,LZ,k8,k5,k1];omega
  ·intro o;rw[LZ,yP];exact c.tl o
  ·intro o ho;rw[ys,k5] at ho;rw[LZ];exact c.tz o ho
  ·rw[LZ];exact c.t0
  ·rw[yh,ys,k5];exact c.ho
  ·rw[yh];exact c.hz
  ·rw[yh,LZ];exact c.hn
  ·rw[yh,LZ];exact c.hl
  ·rw[yh,yP];exact c.he
  ·rw[yh];exact c.hd
  ·rw[yh,yP];exact c.hb
  ·rw[yh,ys,k5,Qu];exact c.hg
  ·intro q e he;rw[yh,ys,k5] at q;rw[yh] at he;have:=c.ek q e he;rw[ys,k8,k1];omega
  ·intro q;rw[ys,k5] at q;omega
 ·refine⟨?_,?_,?_,?_,?_,?_,?_,?_,?_,?_,?_⟩
  ·rw[yT];exact t.so
  ·rw[yT,ys,k5];exact t.bd
  ·intro q;rw[ys,k6,IU] at q;cases q
  ·rw[yT,LZ];exact t.rt
  ·rw[yT,yh];exact t.rh
  ·rw[yT,yh];exact t.re
  ·intro o i h;rw[yT] at h;rw[yP];exact t.r2 o i h
  ·rw[yT,ys,k1];exact t.r3
  ·rw[yT,yh,ys,k1];exact t.r4
  ·rw[yT,ys,k1];exact t.r6
  ·intro i h;rw[yT,ys,k5] at h;have:=t.r7 i h;rw[ys,k8,k1];omega
 ·have new:∀k,k∈s'.GZ->k∈x.s.GZ\/mk j bs k:=fun k hk=>by
   rcases h9 k hk with q|⟨i,q1,q2⟩
   ·exact .inl q
   ·exact .inr ⟨i,q1,by have:k=j+(0+i):=q2;omega⟩
  refine⟨?_,?_,?_,?_,?_,?_,?_,?_⟩
  ·intro a h;rw[yB] at h;rw[ys,k5];exact b.bb a (hm a h)
  ·intro j' LO h;rw[yB,ys,k5] at h;rw[ys,k8,LZ,k5];exact⟨(Zf _ h j bs j' LO rfl rfl).1,(b.bn j' LO (hm _ h)).2⟩
  ·rw[yB,ys,k5];exact bp2
  ·intro q;rw[yh,ys,k5] at q;obtain⟨q1,q2⟩:=b.m1 q;rw[yB,ys,yh,k5];refine⟨fun k hk=>?_,fun j' LO k h=>q2 j' LO k (hm _ h)⟩;rcases new k hk with z|z
   ·exact q1 k z
   ·exact q2 j bs k Kn z
  ·intro k hk;rw[ys] at hk;rw[yB,ys,k8,k5];rcases new k hk with z|z
   ·exact⟨(b.m2 k z).2 j bs Kn,fun j' LO h=>(b.m2 k z).2 j' LO (hm _ h)⟩
   ·exact⟨fun e=>b.m4 j bs Kn (e ▸ z),fun j' LO h e=>(Zf _ h j bs j' LO rfl rfl).2 (e ▸ z)⟩
  ·intro j' LO h;rw[yB,ys,k5] at h;exact b.m4 j' LO (hm _ h)
  ·intro q j' LO h;rw[yB,ys,k5] at h;rw[yT,ys,k5,k6,IU] at q;rcases q with q|q
   ·exact b.nh (.inl q) j' LO (hm _ h)
   ·cases q
  ·intro q;rw[yT,ys,k5] at q;exact absurd Kn (b.nh (.inl q) j bs)
 ·rw[rC hB,hs];refine qM ys yh ?_ ?_
  ·rw[yT];refine map_congr_left fun a _=>?_
   cases a with
   |x_ q=>rfl
   |data q i=>
    show v_.data q (i % (2 * y.s.w)) ((y.P q).getD i (0,[]))=v_.data q (i % (2 * x.s.w)) ((x.P q).getD i (0,[]));rw[ys,yP,k1]
  ·rw[yB];refine map_congr_left fun a _=>?_
   cases a<;>simp[Sys.cB,ys,k1]
def Bt(v:Iv x):∃y:Sys,Iv y/\y.con=x.con.Ib:=by
 cases e:x.B with
 |nil=>
  refine⟨x,v,?_⟩;unfold Sys.con Cw.Ib;rw[e];rfl
 |cons a r=>
  cases a with
  |t_ o=>
   by_cases hc:o=x.s.op/\x.s.st=.opening
   ·obtain⟨rfl,IU⟩:=hc;exact yd v e IU
   ·exact uS v e (by show x.s.f_ (.t_ o)=_;unfold Sr.f_;exact if_neg hc)
  |Iy o=>
   by_cases hc:o=x.s.op/\x.s.st=.opened
   ·obtain⟨rfl,IU⟩:=hc;exact Ez v e IU
   ·exact uS v e (by show x.s.f_ (.Iy o)=_;unfold Sr.f_;exact if_neg hc)
  |note o j bs=>
   by_cases hc:o=x.s.op/\x.s.st=.opened
   ·obtain⟨rfl,IU⟩:=hc;exact Dh v e IU
   ·exact uS v e (by show x.s.f_ (.note o (j % (2 * x.s.w)) bs)=_;unfold Sr.f_;exact if_neg hc)
def Sys.start(x:Sys):Sys:=if x.s.st=.Hs then x.anew else x
def vq(v:Iv x):Iv x.start/\x.start.con = { x.con with s:=x.s.start }:=by
 unfold Sys.start Sr.start;by_cases h:x.s.st=.Hs
 ·rw[if_pos h,if_pos h];exact yi v
 ·rw[if_neg h,if_neg h];exact⟨v,rfl⟩
end
def NF(c:Cw):Prop:=(c.s.op=0/\c.s.st=.Hs/\c.T=[]/\c.B=[]/\c.h.op=0)\/
 (c.s.op=1/\c.s.st≠.Hs/\(∀o,v_.Iy o∉c.B)/\((c.s.st=.opened\/(∃o,v_.t_ o∈c.B)\/∃o n p,v_.data o n p∈c.T)->c.h.op=1))
section
variable{x:Sys}
def NF.new(w most:Nat):NF (Sys.new w most).con:=.inl ⟨rfl,rfl,rfl,rfl,rfl⟩
def NF.hand(h:NF x.con)(m:HM):NF { x.con with s:=x.s.hand m }:=by
 rcases h with h|h
 ·exact .inl h
 ·exact .inr h
def NF.start(h:NF x.con):NF { x.con with s:=x.s.start }:=by
 unfold Sr.start;rcases h with ⟨h1,h2,h3,h4,h5⟩|h
 ·rw[if_pos (show x.s.st=.Hs from h2)];refine .inr ⟨?_,?_,?_,?_⟩
  ·show x.s.op+1=1;have:x.s.op=0:=h1;omega
  ·intro z;cases z
  ·intro o z;have:v_.Iy o∈x.con.B:=z;rw[h4] at this;cases this
  ·rintro (z|⟨o,z⟩|⟨o,n,p,z⟩)
   ·cases z
   ·have:v_.t_ o∈x.con.B:=z;rw[h4] at this;cases this
   ·have:v_.data o n p∈x.con.T:=z;rw[h3] at this;cases this
 ·rw[if_neg (show ¬x.s.st=.Hs from h.2.1)];exact .inr h
def NF.ME(h:NF x.con)(k:Nat):NF { x.con with T:=x.con.T.eraseIdx k }:=by
 rcases h with ⟨h1,h2,h3,h4,h5⟩|⟨h1,h2,h3,h4⟩
 ·exact .inl ⟨h1,h2,by show x.con.T.eraseIdx k=[];rw[h3];rfl,h4,h5⟩
 ·refine .inr ⟨h1,h2,h3,fun z=>h4 ?_⟩;rcases z with z|z|⟨o,n,p,z⟩
  ·exact .inl z
  ·exact .inr (.inl z)
  ·exact .inr (.inr ⟨o,n,p,List.mem_of_mem_eraseIdx z⟩)
def NF.MF(h:NF x.con)(k:Nat):NF { x.con with B:=x.con.B.eraseIdx k }:=by
 rcases h with ⟨h1,h2,h3,h4,h5⟩|⟨h1,h2,h3,h4⟩
 ·exact .inl ⟨h1,h2,h3,by show x.con.B.eraseIdx k=[];rw[h4];rfl,h5⟩
 ·refine .inr ⟨h1,h2,fun o z=>h3 o (List.mem_of_mem_eraseIdx z),fun z=>h4 ?_⟩;rcases z with z|⟨o,z⟩|z
  ·exact .inl z
  ·exact .inr (.inl ⟨o,List.mem_of_mem_eraseIdx z⟩)
  ·exact .inr (.inr z)
def NF.Pt(h:NF x.con)(k:Nat):NF { x.con with T:=dup x.con.T k }:=by
 rcases h with ⟨h1,h2,h3,h4,h5⟩|⟨h1,h2,h3,h4⟩
 ·exact .inl ⟨h1,h2,by show dup x.con.T k=[];rw[h3];simp[dup],h4,h5⟩
 ·refine .inr ⟨h1,h2,h3,fun z=>h4 ?_⟩;rcases z with z|z|⟨o,n,p,z⟩
  ·exact .inl z
  ·exact .inr (.inl z)
  ·exact .inr (.inr ⟨o,n,p,kA z⟩)
def NF.Pu(h:NF x.con)(k:Nat):NF { x.con with B:=dup x.con.B k }:=by
 rcases h with ⟨h1,h2,h3,h4,h5⟩|⟨h1,h2,h3,h4⟩
 ·exact .inl ⟨h1,h2,h3,by show dup x.con.B k=[];rw[h4];simp[dup],h5⟩
 ·refine .inr ⟨h1,h2,fun o z=>h3 o (kA z),fun z=>h4 ?_⟩;rcases z with z|⟨o,z⟩|z
  ·exact .inl z
  ·exact .inr (.inl ⟨o,kA z⟩)
  ·exact .inr (.inr z)
def NF.tick(h:NF x.con):NF { x.con with T:=x.con.T++x.s.tick }:=by
 rcases h with ⟨h1,h2,h3,h4,h5⟩|⟨h1,h2,h3,h4⟩
 ·have e:x.s.tick=[]:=by
   have h2':x.s.st=.Hs:=h2;unfold Sr.tick;rw[h2']
  exact .inl ⟨h1,h2,by show x.con.T++x.s.tick=[];rw[h3,e];rfl,h4,h5⟩
 ·refine .inr ⟨h1,h2,h3,fun z=>h4 ?_⟩;rcases z with z|z|⟨o,n,p,z⟩
  ·exact .inl z
  ·exact .inr (.inl z)
  ·rcases List.mem_append.mp z with z|z
   ·exact .inr (.inr ⟨o,n,p,z⟩)
   ·refine .inl ?_;show x.s.st=.opened;unfold Sr.tick at z;cases e:x.s.st with
    |Hs=>rw[e] at z;simp at z
    |opening=>rw[e] at z;simp at z
    |opened=>rfl
def zz(s:Sr)(c:v_)(h:∀o,c≠.Iy o):(s.f_ c).op=s.op/\((s.f_ c).st=s.st\/((∃o,c=.t_ o)/\(s.f_ c).st=.opened/\s.st=.opening)):=by
 cases c with
 |x_ o=>exact⟨rfl,.inl rfl⟩
 |data o n p=>exact⟨rfl,.inl rfl⟩
 |Iy o=>exact absurd rfl (h o)
 |t_ o=>
  unfold Sr.f_;dsimp only;by_cases hc:o=s.op/\s.st=.opening
  ·rw[if_pos hc];exact⟨rfl,.inr ⟨⟨o,rfl⟩,rfl,hc.2⟩⟩
  ·rw[if_neg hc];exact⟨rfl,.inl rfl⟩
 |note o n bs=>
  unfold Sr.f_;dsimp only;split
  ·unfold Sr.z_;split
   ·obtain⟨_,_,_,_,h5,h6,_⟩:=fw bs (s.I0 (iz n s.base s.w).toNat) 0;exact⟨h5,.inl h6⟩
   ·exact⟨rfl,.inl rfl⟩
  ·exact⟨rfl,.inl rfl⟩
def NF.Ib(h:NF x.con):NF x.con.Ib:=by
 cases e:x.con.B with
 |nil=>
  have:x.con.Ib=x.con:=by unfold Cw.Ib;rw[e]
  rw[this];exact h
 |cons a r=>
  have IU:x.con.Ib = { x.con with s:=x.con.s.f_ a,B:=r }:=by unfold Cw.Ib;rw[e]
  rw[IU];rcases h with ⟨h1,h2,h3,h4,h5⟩|⟨h1,h2,h3,h4⟩
  ·rw[h4] at e;cases e
  ·have hw:∀o,a≠.Iy o:=fun o z=>h3 o (by rw[e,z];simp)
   have hm:∀b,b∈r->b∈x.con.B:=fun b hb=>by rw[e];exact mem_cons_of_mem _ hb
   obtain⟨q1,q2⟩:=zz x.con.s a hw;refine .inr ⟨q1.trans h1,?_,fun o z=>h3 o (hm _ z),fun z=>h4 ?_⟩
   ·rcases q2 with q2|⟨_,q2,_⟩
    ·show(x.con.s.f_ a).st≠.Hs;rw[q2];exact h2
    ·show(x.con.s.f_ a).st≠.Hs;rw[q2];intro z;cases z
   ·rcases z with z|⟨o,z⟩|z
    ·rcases q2 with q2|⟨⟨o,q0⟩,_,_⟩
     ·exact .inl (q2 ▸ z)
     ·exact .inr (.inl ⟨o,by rw[e,q0];simp⟩)
    ·exact .inr (.inl ⟨o,hm _ z⟩)
    ·exact .inr (.inr z)
def NF.stepT(v:Iv x)(h:NF x.con):NF x.con.stepT:=by
 cases e:x.con.T with
 |nil=>
  have:x.con.stepT=x.con:=by unfold Cw.stepT;rw[e]
  rw[this];exact h
 |cons a r=>
  have IU:x.con.stepT = { x.con with h:=(x.con.h.f_ a).1,T:=r,B:=x.con.B++(x.con.h.f_ a).2 }:=by unfold Cw.stepT;rw[e]
  rw[IU];rcases h with ⟨h1,h2,h3,h4,h5⟩|⟨h1,h2,h3,h4⟩
  ·rw[h3] at e;cases e
  ·have hm:∀b,b∈r->b∈x.con.T:=fun b hb=>by rw[e];exact mem_cons_of_mem _ hb
   have ha:a∈x.con.T:=by rw[e];simp
   obtain⟨tc,htc,SM⟩:=List.mem_map.mp (show a∈x.T.map x.cT from ha);have UT:=v.t.bd tc htc;have hop1:x.s.op=1:=h1;have hho:x.h.op<=1:=by have:=v.c.ho;omega
   cases tc with
   |x_ o=>
    have ho:o=1:=by
     have q1:1<=o:=UT.1;have q2:2 * o<=2 * x.s.op+1:=UT.2;omega
    subst ho;have Wt:a=.x_ 1:=SM.symm;subst Wt;have hh:((x.h.f_ (.x_ 1)).1.op=1)/\(x.h.f_ (.x_ 1)).2=[.t_ 1]:=by
     dsimp only[Hr.f_];rw[if_neg (by omega)];split
     ·exact⟨rfl,rfl⟩
     ·exact⟨by show x.h.op=1;omega,rfl⟩
    refine .inr ⟨h1,h2,fun o z=>?_,fun _=>hh.1⟩;have z':v_.Iy o∈x.con.B++(x.h.f_ (.x_ 1)).2:=z;rw[hh.2] at z';rcases List.mem_append.mp z' with z'|z'
    ·exact h3 o z'
    ·simp at z'
   |data o i=>
    have ho:o=1:=by
     have q1:1<=o:=UT.1;have q2:2 * o+1<=2 * x.s.op+1:=UT.2;omega
    subst ho;obtain⟨nn,pp,Wt⟩:∃nn pp,a=.data 1 nn pp:=⟨_,_,SM.symm⟩;subst Wt;have hh1:x.h.op=1:=h4 (.inr (.inr ⟨1,nn,pp,ha⟩));have hh:((x.h.f_ (.data 1 nn pp)).1.op=1)/\(x.h.f_ (.data 1 nn pp)).2=[(x.h.data nn pp).note]:=by
     dsimp only[Hr.f_];rw[if_neg (by omega),if_neg (by omega)];refine⟨?_,rfl⟩;show(x.h.data nn pp).op=1;have:∀(k:Nat) (g:Hr),(Hr.F_ k g).op=g.op:=by
      intro k
      induction k with
      |zero=>intro g;rfl
      |succ k ih=>
       intro g;unfold Hr.F_;cases g.early.lookup g.nx with
       |none=>rfl
       |some p=>dsimp only;rw[ih];unfold Hr.take;split<;>rfl
     unfold Hr.data;rw[this];unfold Hr.keep;split<;>exact hh1
    refine .inr ⟨h1,h2,fun o z=>?_,fun _=>hh.1⟩;have z':v_.Iy o∈x.con.B++(x.h.f_ (.data 1 nn pp)).2:=z;rw[hh.2] at z';rcases List.mem_append.mp z' with z'|z'
    ·exact h3 o z'
    ·simp[Hr.note] at z'
def Bp(v:Iv x)(h:NF x.con):x.h.given=(x.s.msgs.take x.h.given.length).map fun m=>(1,m):=by
 have c:=v.c;have r0:x.run 0=[]:=by
  unfold Sys.run;rw[c.t0];simp[He]
 have key:∃n,x.h.given=(x.s.msgs.take n).map fun m=>(1,m):=by
  rcases h with ⟨h1,_⟩|⟨h1,_⟩
  ·have Wu:x.s.op=0:=h1;refine⟨0,?_⟩;rw[c.hg,Wu];simp[r0]
  ·have Wu:x.s.op=1:=h1;obtain⟨o',q1,q2⟩:=c.ch 1 (Nat.le_refl _) (by omega);have Nc:o'=0:=by omega
   subst Nc;have IU:x.st 1=0:=by
    unfold Sys.en at q2;rw[c.t0,c.s0] at q2;simp[He] at q2;exact q2
   refine⟨He ((x.P 1).take (x.tk 1)),?_⟩;rw[c.hg,Wu];show x.run 0++(x.run 1++[])=_;rw[r0];unfold Sys.run;rw[IU];simp
 obtain⟨n,hn⟩:=key;have hl:x.h.given.length=min n x.s.msgs.length:=by rw[hn];simp
 rw[hl]
 conv=>lhs;rw[hn]
 congr 1;by_cases hc:n<=x.s.msgs.length
 ·rw[Nat.min_eq_left hc]
 ·rw[Nat.min_eq_right (by omega),take_of_length_le (by omega),take_length]
def Sys.outs(x:Sys)(k:Nat):List HM:=((range (k+1)).flatMap x.run).map (·.2)
def Co(x:Sys)(o:Nat):(x.run o).map (·.2)=(x.s.msgs.drop (x.st o)).take (He ((x.P o).take (x.tk o))):=by
 unfold Sys.run;rw[map_map];exact List.map_id' _
def tO(x:Sys)(k:Nat):x.outs (k+1)=x.outs k++(x.run (k+1)).map (·.2):=by
 unfold Sys.outs;rw[range_succ,flatMap_append,map_append];simp
theorem tK(x:Sys):∀{j k:Nat},j<=k->(x.outs j).Sublist (x.outs k)
 |j,0,h=>by
  have:j=0:=by omega
  subst this;exact List.Sublist.refl _
 |j,k+1,h=>by
  by_cases e:j=k+1
  ·subst e;exact List.Sublist.refl _
  ·rw[tO];exact(tK x (show j<=k by omega)).trans (List.sublist_append_left _ _)
def yg(x:Sys)(o:Nat):x.s.msgs.take (x.en o)=x.s.msgs.take (x.st o)++(x.run o).map (·.2):=by
 rw[Co];unfold Sys.en;rw[List.take_add]
def EW(c:Po x):∀o,o<=x.s.op->(x.s.msgs.take (x.en o)).Sublist (x.outs o):=by
 intro o
 induction o using Nat.strongRecOn with
 |ind o ih=>
  intro ho;cases o with
  |zero=>
   rw[yg,c.s0,take_zero,nil_append];show((x.run 0).map (·.2)).Sublist ((([0]:List Nat).flatMap x.run).map (·.2));simp
  |succ k=>
   obtain⟨o',q1,q2⟩:=c.ch (k+1) (by omega) ho;have h1:=ih o' q1 (by omega);have h2:(x.s.msgs.take (x.st (k+1))).Sublist (x.s.msgs.take (x.en o')):=(List.take_prefix_take_left q2).sublist;have h3:=(h2.trans h1).trans (tK x (show o'<=k by omega));rw[yg,tO];exact h3.append (List.Sublist.refl _)
def BL(v:Iv x):(x.s.msgs.take x.s.sure).Sublist (x.h.given.map (·.2))/\x.s.sure<=x.s.msgs.length:=by
 have c:=v.c;have h1:=yZ c;have h2:(x.s.msgs.take x.s.sure).Sublist (x.s.msgs.take (x.en x.s.op)):=(List.take_prefix_take_left h1).sublist;refine⟨?_,Nat.le_trans h1 (DY c (Nat.le_refl _))⟩;rw[c.hg];exact h2.trans (EW c _ (Nat.le_refl _))
def jd(hs:List HM):Nat->List HM->Nat
 |n,[]=>n
 |n,g :: gs=>jd hs (if hs[n]?=some g then n+1 else n) gs
theorem lO:∀(gs hs:List HM) (n:Nat),n<=hs.length->(hs.drop n).Sublist gs->jd hs n gs=hs.length
 |[],hs,n,hn,h=>by
  have:=List.eq_nil_of_sublist_nil h;have h2:(hs.drop n).length=0:=by rw[this];rfl
  rw[length_drop] at h2;show n=hs.length;omega
 |g :: gs,hs,n,hn,h=>by
  unfold jd;by_cases hl:n<hs.length
  ·have hd:hs.drop n=hs[n] :: hs.drop (n+1):=List.drop_eq_getElem_cons hl;by_cases he:hs[n]?=some g
   ·rw[if_pos he];refine lO gs hs (n+1) hl ?_;rw[hd] at h;have hg:hs[n]=g:=by rw[getElem?_eq_getElem hl] at he;exact Option.some.inj he
    rw[hg] at h;exact List.cons_sublist_cons.mp h
   ·rw[if_neg he];refine lO gs hs n hn ?_;rw[hd] at h ⊢;cases h with
    |cons _ h=>exact h
    |cons_cons _ h=>exact absurd (getElem?_eq_getElem hl) he
  ·have:n=hs.length:=by omega
   subst this;rw[if_neg (by simp)];exact lO gs hs _ (Nat.le_refl _) (by simp)
end
def bR(l:List En):List v_:=l.filterMap fun e=>match e.x with
 |none=>some e.c
 |some _=>none
def WW.con(w:WW):Cw:=⟨w.s,w.h,bR w.T,bR w.B⟩
def nv(a b:List En):bR (a++b)=bR a++bR b:=by simp[bR]
def wC(cs:List v_):bR (cs.map gd)=cs:=by
 unfold bR;rw[List.filterMap_map]
 induction cs with
 |nil=>rfl
 |cons c cs ih=>rw[filterMap_cons];simp only[Function.comp_def,gd] at ih ⊢;rw[ih]
def gu{c:v_}{l:List En}:bR (⟨c,none⟩ :: l)=c :: bR l:=rfl
def iE{c:v_}{xs:List Int}{l:List En}:bR (⟨c,some xs⟩ :: l)=bR l:=rfl
theorem jo:∀(l:List En) (k:Nat),bR (l.eraseIdx k)=bR l\/∃j,bR (l.eraseIdx k)=(bR l).eraseIdx j
 |[],k=>.inl rfl
 |⟨c,none⟩ :: l,0=>.inr ⟨0,rfl⟩
 |⟨c,some xs⟩ :: l,0=>.inl rfl
 |⟨c,none⟩ :: l,k+1=>by
  rw[List.eraseIdx_cons_succ,gu,gu];rcases jo l k with h|⟨j,h⟩
  ·exact .inl (by rw[h])
  ·exact .inr ⟨j+1,by rw[h];rfl⟩
 |⟨c,some xs⟩ :: l,k+1=>by
  rw[List.eraseIdx_cons_succ,iE,iE];exact jo l k
def tH(e:En)(l:List En)(k:Nat):pC (e :: l) (k+1)=e :: pC l k:=by
 unfold pC;rw[getElem?_cons_succ];cases l[k]? with
 |none=>rfl
 |some x=>rfl
theorem lE:∀(l:List En) (k:Nat),bR (pC l k)=bR l\/∃j,bR (pC l k)=dup (bR l) j
 |[],k=>.inl rfl
 |⟨c,none⟩ :: l,0=>.inr ⟨0,rfl⟩
 |⟨c,some xs⟩ :: l,0=>.inl rfl
 |⟨c,none⟩ :: l,k+1=>by
  rw[tH,gu,gu];rcases lE l k with h|⟨j,h⟩
  ·exact .inl (by rw[h])
  ·exact .inr ⟨j+1,by rw[h];rfl⟩
 |⟨c,some xs⟩ :: l,k+1=>by
  rw[tH,iE,iE];exact lE l k
def pe(e:En)(l:List En)(k p:Nat)(b:Int):im (e :: l) (k+1) p b=e :: im l k p b:=by
 unfold im;rw[getElem?_cons_succ];cases l[k]? with
 |none=>rfl
 |some x=>rfl
theorem jr(p:Nat)(b:Int):∀(l:List En) (k:Nat),bR (im l k p b)=bR l\/∃j,bR (im l k p b)=(bR l).eraseIdx j
 |[],k=>.inl rfl
 |⟨c,none⟩ :: l,0=>by
  show bR (eZ ⟨c,none⟩ p b :: l)=_\/∃j,bR (eZ ⟨c,none⟩ p b :: l)=_;unfold eZ;dsimp only;split
  ·exact .inl rfl
  ·exact .inr ⟨0,rfl⟩
 |⟨c,some xs⟩ :: l,0=>.inl rfl
 |⟨c,none⟩ :: l,k+1=>by
  rw[pe,gu,gu];rcases jr p b l k with h|⟨j,h⟩
  ·exact .inl (by rw[h])
  ·exact .inr ⟨j+1,by rw[h];rfl⟩
 |⟨c,some xs⟩ :: l,k+1=>by
  rw[pe,iE,iE];exact jr p b l k
inductive CS:Bool->Cw->Cw->Prop
 |same {f:Bool}(c:Cw):CS f c c
 |hand {f:Bool}(c:Cw) (m:HM):CS f c { c with s:=c.s.hand m }
 |start {f:Bool}(c:Cw):CS f c { c with s:=c.s.start }
 |tick {f:Bool}(c:Cw):CS f c { c with T:=c.T++c.s.tick }
 |stepT {f:Bool}(c:Cw):CS f c c.stepT
 |Ib {f:Bool}(c:Cw):CS f c c.Ib
 |ME {f:Bool}(c:Cw) (k:Nat):CS f c { c with T:=c.T.eraseIdx k }
 |MF {f:Bool}(c:Cw) (k:Nat):CS f c { c with B:=c.B.eraseIdx k }
 |Pt {f:Bool}(c:Cw) (k:Nat):CS f c { c with T:=dup c.T k }
 |Pu {f:Bool}(c:Cw) (k:Nat):CS f c { c with B:=dup c.B k }
 |Nr (c:Cw):CS true c { c with s:=c.s.HD }
 |LP (c:Cw):CS true c { c with h:=c.h.HD }
def jZ{w:WW}{l:List En}{g:List v_}(h:bR l=g):(w.HJ true l).con = { w.con with T:=g }:=by subst h;rfl
def j4{w:WW}{l:List En}{g:List v_}(h:bR l=g):(w.HJ false l).con = { w.con with B:=g }:=by subst h;rfl
def AC(w:WW)(r:Bool)(f:Bool):CS f w.con (w.step r).con:=by
 unfold WW.step;cases r with
 |true=>
  cases hT:w.T with
  |nil=>
   have:w.road true=[]:=hT;rw[this];exact .same _
  |cons e l=>
   have hr:w.road true=e :: l:=hT;rw[hr];obtain⟨c,x⟩:=e;cases x with
   |some xs=>
    have:((w.HJ true l).Ij true ⟨c,some xs⟩).con=w.con:=by
     show(⟨w.s,w.h,bR l,bR w.B⟩:Cw)=⟨w.s,w.h,bR w.T,bR w.B⟩;rw[hT];rfl
    dsimp only;rw[this];exact .same _
   |none=>
    have:((w.HJ true l).Ij true ⟨c,none⟩).con=w.con.stepT:=by
     have ht:w.con.T=c :: bR l:=by show bR w.T=_;rw[hT];rfl
     unfold Cw.stepT;rw[ht];show(⟨w.s,(w.h.f_ c).1,bR l,bR (w.B++(w.h.f_ c).2.map gd)⟩:Cw)=_;rw[nv,wC];rfl
    dsimp only;rw[this];exact .stepT _
 |false=>
  cases hB:w.B with
  |nil=>
   have:w.road false=[]:=hB;rw[this];exact .same _
  |cons e l=>
   have hr:w.road false=e :: l:=hB;rw[hr];obtain⟨c,x⟩:=e;cases x with
   |some xs=>
    have:((w.HJ false l).Ij false ⟨c,some xs⟩).con=w.con:=by
     show(⟨w.s,w.h,bR w.T,bR l⟩:Cw)=⟨w.s,w.h,bR w.T,bR w.B⟩;rw[hB];rfl
    dsimp only;rw[this];exact .same _
   |none=>
    have:((w.HJ false l).Ij false ⟨c,none⟩).con=w.con.Ib:=by
     have ht:w.con.B=c :: bR l:=by show bR w.B=_;rw[hB];rfl
     unfold Cw.Ib;rw[ht];rfl
    dsimp only;rw[this];exact .Ib _
def Act.falls:Act->Bool
 |.HD _=>true
 |_=>false
def pW(w:WW)(t:Act)(f:Bool)(hf:t.falls=true->f=true):CS f w.con (w.act t).con:=by
 cases t with
 |hand m=>exact .hand w.con m
 |start=>exact .start w.con
 |tick=>
  have:(w.act .tick).con = { w.con with T:=w.con.T++w.con.s.tick }:=by
   show(⟨w.s,w.h,bR (w.T++w.s.tick.map gd),bR w.B⟩:Cw)=_;rw[nv,wC];rfl
  rw[this];exact .tick _
 |step r=>exact AC w r f
 |N4 r k=>
  cases r with
  |true=>
   show CS f w.con (w.HJ true (w.T.eraseIdx k)).con;rcases jo w.T k with h|⟨j,h⟩
   ·rw[jZ h];exact .same _
   ·rw[jZ h];exact .ME _ j
  |false=>
   show CS f w.con (w.HJ false (w.B.eraseIdx k)).con;rcases jo w.B k with h|⟨j,h⟩
   ·rw[j4 h];exact .same _
   ·rw[j4 h];exact .MF _ j
 |dbl r k=>
  cases r with
  |true=>
   show CS f w.con (w.HJ true (pC w.T k)).con;rcases lE w.T k with h|⟨j,h⟩
   ·rw[jZ h];exact .same _
   ·rw[jZ h];exact .Pt _ j
  |false=>
   show CS f w.con (w.HJ false (pC w.B k)).con;rcases lE w.B k with h|⟨j,h⟩
   ·rw[j4 h];exact .same _
   ·rw[j4 h];exact .Pu _ j
 |LR r k p b=>
  cases r with
  |true=>
   show CS f w.con (w.HJ true (im w.T k p b)).con;rcases jr p b w.T k with h|⟨j,h⟩
   ·rw[jZ h];exact .same _
   ·rw[jZ h];exact .ME _ j
  |false=>
   show CS f w.con (w.HJ false (im w.B k p b)).con;rcases jr p b w.B k with h|⟨j,h⟩
   ·rw[j4 h];exact .same _
   ·rw[j4 h];exact .MF _ j
 |HD r=>
  have:f=true:=hf rfl;subst this;cases r with
  |true=>exact .Nr w.con
  |false=>exact .LP w.con
def Gd(c:Cw):Prop:=∃x:Sys,Iv x/\x.con=c
def EJ{a b:Nat}(h:0<a):Gd (WW.new a b).con:=⟨Sys.new a b,EG h,rfl⟩
def pa{f:Bool}{c c':Cw}(g:Gd c)(h:CS f c c'):Gd c':=by
 obtain⟨x,v,rfl⟩:=g;cases h with
 |same=>exact⟨x,v,rfl⟩
 |hand _ m=>exact⟨_,(yt v m).1,(yt v m).2⟩
 |start=>exact⟨_,(vq v).1,(vq v).2⟩
 |tick=>exact⟨_,(yA v).1,(yA v).2⟩
 |stepT=>obtain⟨y,h1,h2,_⟩:=BB v;exact⟨y,h1,h2⟩
 |Ib=>obtain⟨y,h1,h2⟩:=Bt v;exact⟨y,h1,h2⟩
 |ME _ k=>exact⟨_,(wn v k).1,(wn v k).2⟩
 |MF _ k=>exact⟨_,(v8 v k).1,(v8 v k).2⟩
 |Pt _ k=>exact⟨_,(yG v k).1,(yG v k).2⟩
 |Pu _ k=>exact⟨_,(yR v k).1,(yR v k).2⟩
 |Nr=>exact⟨_,(vJ v).1,(vJ v).2⟩
 |LP=>exact⟨_,(wQ v).1,(wQ v).2⟩
end Lw
namespace Lw
open PySem L2 DL
section
variable{G:Cs}{S S' S1 S2:List Cell}{a a' a1 a2:Ad}{w w' w1 w2:WW}{N:Nat}
def LA.msgs:LA->List HM
 |.hand c=>[iR c 12]
 |_=>[]
def BS(w:WW)(t:LA):(w.act t.act).s.msgs=w.s.msgs++t.msgs:=by
 have hh:∀c,(w.s.f_ c).msgs=w.s.msgs:=by
  intro c;cases c with
  |t_ o=>dsimp only[Sr.f_];split<;>rfl
  |Iy o=>dsimp only[Sr.f_];split<;>rfl
  |note o n bs=>
   dsimp only[Sr.f_];split
   ·exact(nW w.s n bs).2.2.1
   ·rfl
  |x_ o=>rfl
  |data o n p=>rfl
 have hs:∀r,(w.step r).s.msgs=w.s.msgs:=by
  intro r;unfold WW.step;cases w.road r with
  |nil=>rfl
  |cons e l=>
   obtain⟨c,x⟩:=e;cases x with
   |some xs=>cases r<;>rfl
   |none=>
    cases r with
    |true=>rfl
    |false=>exact hh c
 cases t with
 |hand c=>rfl
 |Kq=>
  show w.s.start.msgs=w.s.msgs++[];rw[append_nil];unfold Sr.start;split<;>rfl
 |tick=>exact(append_nil _).symm
 |step r=>exact(hs r).trans (append_nil _).symm
 |HK k r i c=>
  match k with
  |0=>cases r<;>exact(append_nil _).symm
  |1=>cases r<;>exact(append_nil _).symm
  |_+2=>cases r<;>exact(append_nil _).symm
 |HD r=>cases r<;>exact(append_nil _).symm
def Ff(t:LA){l:Nat}(hl:S[l]?=some (.lst [t.d])):eN [.ob l] S=.ok (.ob S.length) (S++[.lst (t.msgs.map B_)]):=by
 show fin S (d6 [sO l] S)=_;unfold d6;have hw:Js h_ [sO l] S=.ok ⟨[t.d],some (l,[t.d])⟩ S:=by
  rw[jW,au];show i8 (.ob l) S=_;simp only[i8,hl]
 have q1:=fY (f:=Js h_) (tg:=gN 0) (ti:=am (g_ G_ (g_ y_ h_ (dI 0)) (dT "hand"))) (fe:=ak cy (aa (g_ y_ h_ (dI 1)) (aa (dI 12) ai))) (own:=1) (caps:=[])
  (r:=[sO l]) (fun _=>decide (t.kn=("hand":Str))) (fun x=>match x with
   |.tup [_,.int c]=>B_ (iR c 12)
   |_=>.G0) hw hl (by simp) (by
   intro x hx;rw[List.mem_singleton.mp hx];refine⟨[some t.d],rfl,fun zs=>?_,fun hk zs=>?_⟩
   ·exact ay (ar (ar rfl rfl (xz t _)) rfl (bc (wZ t) (by decide +kernel) rfl))
   ·cases t with
    |hand c=>exact av (af (ar rfl rfl (aR (i:=1) rfl)) (af rfl ah)) (mw c 12 (by decide) _)
    |Kq=>exact absurd hk (by decide +kernel)
    |tick=>exact absurd hk (by decide +kernel)
    |step r=>exact absurd hk (by rw[show decide ((LA.step r).kn=("hand":Str))=false from (by decide +kernel:decide (("step":Str) = "hand")=false)];decide)
    |HD r=>exact absurd hk (by rw[show decide ((LA.HD r).kn=("hand":Str))=false from (by decide +kernel:decide (("fall":Str) = "hand")=false)];decide)
    |HK k r i c=>
     match k with
     |0=>exact absurd hk (by rw[show decide ((LA.HK 0 r i c).kn=("hand":Str))=false from (by decide +kernel:decide (("lose":Str) = "hand")=false)];decide)
     |1=>exact absurd hk (by rw[show decide ((LA.HK 1 r i c).kn=("hand":Str))=false from (by decide +kernel:decide (("double":Str) = "hand")=false)];decide)
     |j+2=>exact absurd hk (by rw[show decide ((LA.HK (j+2) r i c).kn=("hand":Str))=false from (by decide +kernel:decide (("spoil":Str) = "hand")=false)];decide))
 rw[aN q1];have e:([t.d].filter fun _=>decide (t.kn=("hand":Str))).map (fun x=>match x with
   |.tup [_,.int c]=>B_ (iR c 12)
   |_=>.G0)=t.msgs.map B_:=by
  cases t with
  |hand c=>
   rw[show decide ((LA.hand c).kn=("hand":Str))=true from (by decide +kernel:decide (("hand":Str) = "hand")=true)];rfl
  |Kq=>rw[show decide (LA.Kq.kn=("hand":Str))=false by decide +kernel];rfl
  |tick=>rw[show decide (LA.tick.kn=("hand":Str))=false by decide +kernel];rfl
  |step r=>rw[show decide ((LA.step r).kn=("hand":Str))=false from (by decide +kernel:decide (("step":Str) = "hand")=false)];rfl
  |HD r=>rw[show decide ((LA.HD r).kn=("hand":Str))=false from (by decide +kernel:decide (("fall":Str) = "hand")=false)];rfl
  |HK k r i c=>
   match k with
   |0=>rw[show decide ((LA.HK 0 r i c).kn=("hand":Str))=false from (by decide +kernel:decide (("lose":Str) = "hand")=false)];rfl
   |1=>rw[show decide ((LA.HK 1 r i c).kn=("hand":Str))=false from (by decide +kernel:decide (("double":Str) = "hand")=false)];rfl
   |j+2=>rw[show decide ((LA.HK (j+2) r i c).kn=("hand":Str))=false from (by decide +kernel:decide (("spoil":Str) = "hand")=false)];rfl
 rw[e];rfl
end
def ke(k:Nat)(m:HM)(i:Nat):Pc:=(if m.length<=i * k+k then 1 else 0,(m.drop (i * k)).take k)
def Nb(k:Nat)(m:HM):Nat:=(max 1 m.length-1) / k+1
def zG{k:Nat}{m:HM}(h:k<m.length)(i:Nat):ke k m (i+1)=ke k (m.drop k) i:=by
 unfold ke;have e:(i+1) * k=k+i * k:=by rw[Nat.add_mul,Nat.one_mul,Nat.add_comm]
 rw[List.drop_drop,length_drop,e];congr 1;by_cases hc:m.length<=k+i * k+k
 ·rw[if_pos hc,if_pos (by omega)]
 ·rw[if_neg hc,if_neg (by omega)]
theorem yH{k:Nat}(hk:1<=k):∀(n:Nat) (m:HM),m.length<=n->km k n m=(range (Nb k m)).map (ke k m)
 |0,m,h=>by
  have:m=[]:=List.eq_nil_of_length_eq_zero (by omega);subst this;have e:Nb k []=1:=by unfold Nb;simp
  rw[e];simp[km,ke]
 |n+1,m,h=>by
  unfold km;by_cases hc:k<m.length
  ·rw[if_pos hc,yH hk n (m.drop k) (by rw[length_drop];omega)];have e:Nb k m=Nb k (m.drop k)+1:=by
    unfold Nb;rw[length_drop,Nat.max_eq_right (by omega),Nat.max_eq_right (by omega),show m.length-1=(m.length-k-1)+k by omega,Nat.add_div_right _ (by omega)]
   rw[e,List.range_succ_eq_map,map_cons,map_map];congr 1
   ·unfold ke;rw[if_neg (by omega)];simp
   ·refine map_congr_left fun i _=>?_
    exact(zG hc i).symm
  ·rw[if_neg hc];have e:Nb k m=1:=by
    unfold Nb;rw[Nat.div_eq_of_lt (by omega)]
   rw[e];simp only[List.range_one,map_cons,map_nil];unfold ke;rw[if_pos (by omega),Nat.zero_mul,List.drop_zero,take_of_length_le (by omega)]
def CQ{k:Nat}(hk:1<=k){m:HM}(h:m.length<=40):dW k m=(range (Nb k m)).map (ke k m):=yH hk 100 m (by omega)
def xD{k:Nat}(hk:1<=k)(Zg:k<=1000){m:HM}(hm:m.length<=40)(S:List Cell):cZ [B_ m,.int (k:Int)] S=.ok (.ob S.length) (S++[.lst ((dW k m).map Hn)]):=by
 show fin S (jj [some (B_ m),sI (k:Int),none,none] S)=_;unfold jj;rw[aw (bz (ck ah (by decide)))];show fin S (aI _ _ [some (B_ m),sI (k:Int),sO S.length,none] (S++[.lst []]))=_;have UL:∀r T,ak bq (aa h_ ai) (some (B_ m) :: r) T=.ok (.int (m.length:Int)) T:=fun r T=>av (af rfl ah) (by unfold B_;rw[cn,length_map])
 have hmx:Ae [.int 1,.int (m.length:Int)] (S++[.lst []])=.ok (.int ((max 1 m.length:Nat):Int)) (S++[.lst []]):=by
  rw[D6];congr 2;omega
 have Wh:Nb k m<=41:=by
  unfold Nb;have:=Nat.div_le_self (max 1 m.length-1) k;omega
 have w1:wz (dI 0) (ak Ae (aa (dI 1) (aa (ak bq (aa h_ ai)) ai))) w_ [some (B_ m),sI (k:Int),sO S.length,none] (S++[.lst []])=.ok ⟨eI 0 (k:Int) (Nb k m),none⟩ (S++[.lst []]):=by
  unfold wz;rw[au];simp only[uU];rw[au,av (af rfl (af (UL _ _) ah)) hmx];simp only;show rZ 0 ((max 1 m.length:Nat):Int) (k:Int) (S++[.lst []])=_;have hsz:rangeSize 0 ((max 1 m.length:Nat):Int) (k:Int)=(Nb k m:Int):=by
   unfold rangeSize Nb;rw[if_pos (by omega),if_pos (by omega)];have:((max 1 m.length:Nat):Int)-0-1=((max 1 m.length-1:Nat):Int):=by omega
   rw[this,<-Int.natCast_ediv];omega
  have hs:small 0 ((max 1 m.length:Nat):Int) (k:Int)=true:=by
   unfold small;rw[hsz];simp only[Builtin.Range.rangeFitsLong,and_eq_true,Bool.or_eq_true,decide_eq_true_eq,beq_iff_eq,if_pos (show(k:Int) > 0 by omega)];omega
  unfold rZ;rw[cf ⟨⟨by omega,by omega⟩,hs⟩,hsz];rfl
 have K6:∀a c:Cell,(S++[a]).set S.length c=S++[c]:=fun a c=>by rw[set_append_right _ _ (Nat.le_refl _)];simp
 obtain⟨r',S',e,x3,rfl,rfl⟩:=cK (g:=none) (tg:=gN 3) (b:=gx)
  (fun i r S'=>∃x3,r=[some (B_ m),sI (k:Int),sO S.length,x3]/\S'=S++[.lst (((range i).map (ke k m)).map Hn)]) (eI 0 (k:Int) (Nb k m)) 0 [some (B_ m),sI (k:Int),sO S.length,none] (S++[.lst []])
  (by
   rintro i y r S' hy ⟨x3,rfl,rfl⟩;have Oh:=(List.getElem?_eq_some_iff.mp hy).1;have hil':i<Nb k m:=by simpa[eI] using Oh
   have Zh:=wb hy;have hyi:(0:Int)+(i:Int) * (k:Int)=((i * k:Nat):Int):=by rw[Int.zero_add];exact(Int.natCast_mul i k).symm
   rw[hyi] at Zh;subst Zh;rw[Nat.zero_add];obtain⟨T,hT⟩:∃T,S++[Cell.lst (((range i).map (ke k m)).map Hn)]=T:=⟨_,rfl⟩;have v1:ak BX (aa (g_ Lm (g_ bK Hk w_) (ak bq (aa h_ ai))) ai) [some (B_ m),sI (k:Int),sO S.length,sI ((i * k:Nat):Int)] T=.ok (.int (ke k m i).1) T:=by
    refine av (af (ar (ar rfl rfl (bS _ _)) (UL _ _) (wH _ _)) ah) ?_;show R.ok (D.int (if decide ((m.length:Int)<=((i * k:Nat):Int)+(k:Int))=true then 1 else 0)) T=_;unfold ke;by_cases hc:m.length<=i * k+k
    ·rw[if_pos hc,if_pos (decide_eq_true (by omega))]
    ·rw[if_neg hc,if_neg (by rw[decide_eq_true_eq];omega)]
   have v2:JT Jd h_ (bL Hk) (bL (g_ bK Hk w_)) [some (B_ m),sI (k:Int),sO S.length,sI ((i * k:Nat):Int)] T=.ok (.tup ((ke k m i).2.map D.int)) T:=by
    simp only[li,au,jI,getElem?_cons_succ,getElem?_cons_zero,eU,fX,kP,FU,bS,B_,Jd];rw[wk,<-map_drop,<-map_take];rfl
   have SA:T[S.length]?=some (.lst (((range i).map (ke k m)).map Hn)):=by rw[<-hT];exact aS rfl
   have ee:=tu (S:=T) (n:=S.length) (d:=Hn (ke k m i)) SA (by simp;omega);have e2:T.set S.length (.lst (((range i).map (ke k m)).map Hn++[Hn (ke k m i)]))=S++[.lst (((range (i+1)).map (ke k m)).map Hn)]:=by
    rw[<-hT,K6,range_succ,map_append,map_append];rfl
   rw[e2] at ee;refine⟨[some (B_ m),sI (k:Int),sO S.length,sI ((i * k:Nat):Int)],[some (B_ m),sI (k:Int),sO S.length,sI ((i * k:Nat):Int)],S++[.lst (((range (i+1)).map (ke k m)).map Hn)],rfl,?_,trivial,_,rfl,rfl⟩;unfold gx;rw[hT];exact aU (ld rfl SA (af (bF (af v1 (af v2 ah)) (by simp)) ah) ee))
  ⟨none,rfl,rfl⟩
 have hlen:(eI 0 (k:Int) (Nb k m)).length=Nb k m:=by simp[eI]
 rw[hlen,Nat.zero_add] at e;rw[aw (by rw[jC w1];exact e),aN rfl,CQ hk hm];rfl
section
variable{G:Cs}{S:List Cell}{a:Ad}{w:WW}
def gc(l:List En):List D:=l.map fun e=>.tup (e.xs.map D.int)
def Dg(A:Jo G S a w):dF G [.ob a.n] S=.ok (.int (w.s.sure:Int)) S:=by
 show fin S (gr G [sO a.n] S)=_;unfold gr;rw[aN (bT (bT rfl A.ob rfl) A.sr.ob rfl)];rfl
def Be(A:Jo G S a w):de G [.ob a.n] S=.ok (.str (Qj w.s.st)) S:=by
 show fin S (fB G [sO a.n] S)=_;unfold fB;rw[aN (bT (bT rfl A.ob rfl) A.sr.ob rfl)];rfl
def uV(A:Jo G S a w)(r:Bool)(hz:(w.road r).length<=1000000):bN G [.ob a.n,.str (bi r)] S=.ok (.tup (gc (w.road r))) (S++[.lst (gc (w.road r))]):=by
 show fin S (gh G [sO a.n,sS (bi r)] S)=_;unfold gh;have w1:Js (g_ gK (aA G.World m_ 2 h_) w_) [sO a.n,sS (bi r)] S=.ok ⟨(w.road r).map KW,some (a.rn r,(w.road r).map KW)⟩ S:=by
  rw[jW,au,pr A r []];show i8 (.ob (a.rn r)) S=_;simp only[i8,A.cell r]
 have q1:=fY (f:=Js (g_ gK (aA G.World m_ 2 h_) w_)) (tg:=gN 0) (ti:=gQ) (fe:=g_ y_ h_ (dI 0)) (own:=1) (caps:=[])
  (fun _=>true) (fun x=>match x with
   |.tup (y :: _)=>y
   |_=>.G0) w1 (A.cell r) (by rw[length_map];exact hz) (by
   intro x hx;obtain⟨e,_,rfl⟩:=List.mem_map.mp hx;exact⟨[some (KW e)],rfl,fun _=>rfl,fun _ zs=>ar rfl rfl (aR (i:=0) rfl)⟩)
 have hq:(((w.road r).map KW).filter fun _=>true).map (fun x=>match x with
   |.tup (y :: _)=>y
   |_=>D.G0)=gc (w.road r):=by
  rw[List.filter_eq_self.mpr (by simp),map_map];rfl
 rw[hq] at q1;rw[aN (av (af q1 ah) (d7 bO))];rfl
def yS{S:List Cell}{x:D}(h:∃p,pD S 30 x=some p):Jp x x S=.ok (.bl false) S:=by
 obtain⟨p,h⟩:=h;exact yD h h
end
section
variable{S S' S1 S2:List Cell}
def xR{t u:tB->M Bool}{r:tB}{b:Bool}(h1:t r S=.ok false S1)(h2:u r S1=.ok b S2):JH t u r S=.ok b S2:=by
 simp[h1,h2]
end
namespace WW
def steps(r:Bool):Nat->WW->WW
 |0,w=>w
 |n+1,w=>(steps r n w).act (.step r)
def off(r:Bool)(w:WW):WW:=steps r (w.road r).length w
def IH(w:WW):WW:=off false (off true ((w.act .start).act .tick))
def calm:Nat->WW->WW
 |0,w=>w
 |n+1,w=>IH (calm n w)
end WW
section
variable{w:WW}{N:Nat}
def FB(K:Iz N w)(hN:N<=24300)(r:Bool):(w.act (.step r)).road r=(w.road r).drop 1/\((w.act (.step r)).road (!r)).length<=(w.road (!r)).length+1/\(r=false->(w.act (.step r)).T=w.T):=by
 show(w.step r).road r=_/\_;show _/\((w.step r).road (!r)).length<=_/\(r=false->(w.step r).T=w.T);unfold WW.step;cases h:w.road r with
 |nil=>
  refine⟨?_,by simp,fun _=>rfl⟩;show w.road r=_;rw[h];rfl
 |cons e l=>
  have he:=K.rd r e (by rw[h];simp);have h1:=(qR K hN he.1 he.2.1).2.1;show((w.HJ r l).Ij r e).road r=_/\(((w.HJ r l).Ij r e).road (!r)).length<=_/\(r=false->((w.HJ r l).Ij r e).T=w.T);unfold WW.Ij;cases hx:e.x with
  |some _=>
   cases r with
   |true=>exact⟨rfl,by show w.B.length<=w.B.length+1;omega,fun z=>by cases z⟩
   |false=>exact⟨rfl,by show w.T.length<=w.T.length+1;omega,fun _=>rfl⟩
  |none=>
   cases r with
   |true=>
    refine⟨rfl,?_,fun z=>by cases z⟩;show(w.B++(w.h.f_ e.c).2.map gd).length<=w.B.length+1;rw[length_append,length_map];omega
   |false=>exact⟨rfl,by show w.T.length<=w.T.length+1;omega,fun _=>rfl⟩
theorem rO(K:Iz N w)(r:Bool):∀n:Nat,N+n<=24300->Iz (N+n) (WW.steps r n w)/\(WW.steps r n w).road r=(w.road r).drop n/\((WW.steps r n w).road (!r)).length<=(w.road (!r)).length+n/\(r=false->(WW.steps r n w).T=w.T)
 |0,_=>⟨K,rfl,Nat.le_refl _,fun _=>rfl⟩
 |n+1,h=>by
  obtain⟨k,h1,h2,h3⟩:=rO K r n (by omega);obtain⟨g1,g2,g3⟩:=FB k (by omega) r;refine⟨lF k (by omega) (.step r) trivial,?_,?_,fun z=>(g3 z).trans (h3 z)⟩
  ·show((WW.steps r n w).act (.step r)).road r=_;rw[g1,h1,List.drop_drop]
  ·show(((WW.steps r n w).act (.step r)).road (!r)).length<=_;omega
def xO(K:Iz N w)(r:Bool)(h:N+(w.road r).length<=24300):Iz (N+(w.road r).length) (w.off r)/\(w.off r).road r=[]/\((w.off r).road (!r)).length<=(w.road (!r)).length+(w.road r).length/\(r=false->(w.off r).T=w.T):=by
 obtain⟨a,b,c,d⟩:=rO K r (w.road r).length h;exact⟨a,by show(WW.steps r _ w).road r=_;rw[b,drop_length],c,d⟩
def vH(K:Iz N w)(h:N+3 * (w.T.length+w.B.length)+16<=24300):∃M,Iz M w.IH/\w.IH.T=[]/\w.IH.B=[]/\M<=N+3 * (w.T.length+w.B.length)+16:=by
 have K1:=lF K (by omega) .start trivial;have K2:=lF K1 (by omega) .tick trivial;obtain⟨v,hv⟩:∃v,(w.act .start).act .tick=v:=⟨_,rfl⟩;have ht:v.T.length<=w.T.length+7:=by
  have:=(pX K1 (by omega)).2;rw[<-hv];show(w.T++((w.act .start).s.tick).map gd).length<=_;rw[length_append,length_map];omega
 have hb:v.B.length=w.B.length:=by rw[<-hv];rfl
 rw[hv] at K2;obtain⟨k3,t3,b3,_⟩:=xO K2 true (by show N+1+1+v.T.length<=24300;omega);have t3':(v.off true).T=[]:=t3;have b3':(v.off true).B.length<=v.B.length+v.T.length:=b3;have k3':Iz (N+1+1+v.T.length) (v.off true):=k3;obtain⟨k4,b4,_,t4⟩:=xO k3' false (by show N+1+1+v.T.length+(v.off true).B.length<=24300;omega);have hc:w.IH=(v.off true).off false:=by rw[<-hv];rfl
 refine⟨_,by rw[hc];exact k4,by rw[hc,t4 rfl];exact t3',by rw[hc];exact b4,?_⟩;show N+1+1+v.T.length+(v.off true).B.length<=_;omega
theorem yq{c:Nat}(K:Iz N w)(h:N+3 * (w.T.length+w.B.length)+16 * (c+1)<=24300):∀n:Nat,n<=c->∃M,Iz M (w.calm n)/\M+3 * ((w.calm n).T.length+(w.calm n).B.length)<=N+3 * (w.T.length+w.B.length)+16 * n
 |0,_=>⟨N,K,Nat.le_refl _⟩
 |n+1,hn=>by
  obtain⟨M,k,b⟩:=yq K h n (by omega);obtain⟨M',k',t,u,b'⟩:=vH k (by omega);refine⟨M',k',?_⟩;show M'+3 * ((w.calm n).IH.T.length+(w.calm n).IH.B.length)<=_;rw[t,u];simp;omega
end
section
variable{G:Cs}{S S' S1 S2:List Cell}{a a' a1 a2 b b':Ad}{w w' w1 w2 v v':WW}{N:Nat}
def AD(A:Jo G S a w)(K:Iz N w)(r:Bool)(hN:N+(w.road r).length<24300):∃S' a',iL G [.ob a.n,.str (bi r)] S=.ok .G0 S'/\Jk G a S a' S' (w.off r):=by
 show ∃S' a',fin S (lf G [sO a.n,sS (bi r),none] S)=_/\_;unfold lf;have hz:(w.road r).length<=1000000:=by omega
 have o1:=uV A r hz;obtain⟨S1,NI⟩:∃S1,S++[Cell.lst (gc (w.road r))]=S1:=⟨_,rfl⟩;rw[NI] at o1;have A1:Jo G S1 a w:=by rw[<-NI];exact A.push _
 have hw:Js (aX G.World m_ (bN G) h_ (aa w_ ai)) [sO a.n,sS (bi r),none] S=.ok ⟨gc (w.road r),none⟩ S1:=by
  rw[jW,au,aO rfl A.ob (af rfl ah) o1];rfl
 have hlen:(gc (w.road r)).length=(w.road r).length:=by unfold gc;rw[length_map]
 obtain⟨r',S3,q,hI⟩:=cK (g:=none) (tg:=gN 2) (b:=mi G)
  (fun i r' S'=>∃a' x,r'=[sO a.n,sS (bi r),x]/\Jk G a S1 a' S' (WW.steps r i w)) (gc (w.road r)) 0 [sO a.n,sS (bi r),none] S1
  (by
   rintro i y r' S' hy ⟨a',x,rfl,k⟩;have Oh:=(List.getElem?_eq_some_iff.mp hy).1;rw[hlen] at Oh;rw[Nat.zero_add] at k ⊢;obtain⟨Ki,_,_,_⟩:=rO K r i (by omega);obtain⟨S2,a2,e2,k2⟩:=ze k.at_ Ki (by omega) r;have ob:=k.at_.ob;rw[k.nn] at e2 ob;exact⟨[sO a.n,sS (bi r),some y],_,S2,rfl,aU (aO rfl ob (af rfl ah) e2),trivial,a2,_,rfl,k.trans k2⟩)
  ⟨a,none,rfl,Jk.refl A1⟩
 obtain⟨a',x,rfl,k⟩:=hI;rw[Nat.zero_add,hlen] at k;refine⟨S3,a',?_,k.grow (by rw[<-NI];exact Fr.push)⟩;rw[jC hw,q];rfl
def Bu(A:Jo G S a w)(K:Iz N w)(h:N+3 * (w.T.length+w.B.length)+16<=24200){d1 d2:Option D}:∃S' a',lI G [sO a.n,d1,d2] S=some (.nx [sO a.n,d1,d2],S')/\Jk G a S a' S' w.IH:=by
 unfold lI;obtain⟨S1,a1,e1,k1⟩:=vW A K (by omega);have K1:=lF K (by omega) .start trivial;obtain⟨S2,a2,e2,k2⟩:=zi k1.at_ K1 (by omega);have K2:=lF K1 (by omega) .tick trivial;have ht:((w.act .start).act .tick).T.length<=w.T.length+7:=by
  have:=(pX K1 (by omega)).2;show(w.T++((w.act .start).s.tick).map gd).length<=_;rw[length_append,length_map];omega
 have hb:((w.act .start).act .tick).B.length=w.B.length:=rfl;obtain⟨u,hu⟩:∃u,(w.act .start).act .tick=u:=⟨_,rfl⟩;rw[hu] at k2 K2 ht hb;have n1:=k1.nn;have n2:a2.n=a.n:=k2.nn.trans n1;have Zi:=k1.at_.ob;rw[n1] at e2 Zi;have b1:N+1+1+(u.road true).length<24300:=by show N+1+1+u.T.length<24300;omega
 obtain⟨S3,a3,e3,k3⟩:=AD k2.at_ K2 true b1;obtain⟨K3,_,b3,_⟩:=xO K2 true (by omega);have b3':(u.off true).B.length<=u.B.length+u.T.length:=b3;have K3':Iz (N+1+1+u.T.length) (u.off true):=K3;have b2:N+1+1+u.T.length+((u.off true).road false).length<24300:=by show N+1+1+u.T.length+(u.off true).B.length<24300;omega
 obtain⟨S4,a4,e4,k4⟩:=AD k3.at_ K3' false b2;have n3:a3.n=a.n:=k3.nn.trans n2;rw[n2] at e3;rw[n3] at e4;refine⟨S4,a4,?_,?_⟩
 ·rw[aw (aU (aO rfl A.ob ah e1)),aw (aU (aO rfl Zi ah e2)),aw (aU (av (af rfl (af rfl ah)) e3))];exact aU (av (af rfl (af rfl ah)) e4)
 ·have:=((k1.trans k2).trans k3).trans k4;rw[<-hu] at this;exact this
def CA(A:Jo G S a w)(K:Iz N w){c:Nat}(h:N+3 * (w.T.length+w.B.length)+16 * (c+1)<=24100):∃S' a',rT G [.ob a.n,.int (c:Int)] S=.ok .G0 S'/\Jk G a S a' S' (w.calm c):=by
 show ∃S' a',fin S (uq G [sO a.n,sI (c:Int),none] S)=_/\_;unfold uq;have hw:o7 w_ [sO a.n,sI (c:Int),none] S=.ok ⟨eI 0 1 c,none⟩ S:=uo (by omega);have hlen:(eI 0 1 c).length=c:=by simp[eI]
 obtain⟨r',S3,q,hI⟩:=cK (g:=none) (tg:=gN 2) (b:=lI G)
  (fun i r' S'=>∃a' x,r'=[sO a.n,sI (c:Int),x]/\Jk G a S a' S' (w.calm i)) (eI 0 1 c) 0 [sO a.n,sI (c:Int),none] S
  (by
   rintro i y r' S' hy ⟨a',x,rfl,k⟩;have Oh:=(List.getElem?_eq_some_iff.mp hy).1;rw[hlen] at Oh;rw[Nat.zero_add] at k ⊢;obtain⟨M,Ki,hM⟩:=yq (c:=c) K (by omega) i (by omega);obtain⟨S2,a2,e2,k2⟩:=Bu k.at_ Ki (by omega) (d1:=some (.int (c:Int))) (d2:=some y);rw[k.nn] at e2;exact⟨[sO a.n,sI (c:Int),some y],_,S2,rfl,e2,trivial,a2,_,rfl,k.trans k2⟩)
  ⟨a,none,rfl,Jk.refl A⟩
 obtain⟨a',x,rfl,k⟩:=hI;rw[Nat.zero_add,hlen] at k;refine⟨S3,a',?_,k⟩;rw[jC hw,q];rfl
end
end Lw
namespace Lw
def bE:Hr->List v_->Hr×List v_
 |h,[]=>(h,[])
 |h,c :: cs=>((bE (h.f_ c).1 cs).1,(h.f_ c).2++(bE (h.f_ c).1 cs).2)
def jb(s:Sr)(h:Hr):Sr:=(bE h s.start.tick).2.foldl Sr.f_ s.start
def d3(s:Sr)(h:Hr):Hr:=(bE h s.start.tick).1
theorem vo:∀(T:List v_) {s:Sr}{h:Hr}{B:List v_},Gd ⟨s,h,T,B⟩->Gd ⟨s,(bE h T).1,[],B++(bE h T).2⟩
 |[],s,h,B,g=>by
  show Gd ⟨s,h,[],B++[]⟩;rw[append_nil];exact g
 |c :: T,s,h,B,g=>by
  have:=vo T (pa g (CS.stepT (f:=true) ⟨s,h,c :: T,B⟩));rw[append_assoc] at this;exact this
def qT:∀(B:List v_) {s:Sr}{h:Hr}{T B2:List v_},Gd ⟨s,h,T,B++B2⟩->Gd ⟨B.foldl Sr.f_ s,h,T,B2⟩
 |[],s,h,T,B2,g=>g
 |c :: B,s,h,T,B2,g=>qT B (pa g (CS.Ib (f:=true) ⟨s,h,T,c :: (B++B2)⟩))
def Cy{s:Sr}{h:Hr}(g:Gd ⟨s,h,[],[]⟩):Gd ⟨s.start,d3 s h,[],(bE h s.start.tick).2⟩/\Gd ⟨jb s h,d3 s h,[],[]⟩:=by
 have g1:Gd ⟨s.start,h,s.start.tick,[]⟩:=pa (pa g (CS.start (f:=true) _)) (CS.tick (f:=true) _);have g2:=vo _ g1;rw[nil_append] at g2;refine⟨g2,qT (B2:=[]) _ ?_⟩;rw[append_nil];exact g2
structure Fa(s:Sr)(h:Hr):Prop where
 w0:0<s.w
 ww:h.w=s.w
 lo:s.base<=h.nx
 hi:h.nx<=s.base+s.w
 le:h.nx<=s.ps.length
 nb:s.base∉s.GZ
 no:h.early.lookup h.nx=none
theorem yE:∀{l:List (Nat×Pc)}{k:Nat},(∀e,e∈l->k<e.1)->l.lookup k=none
 |[],k,_=>rfl
 |⟨a,b⟩ :: l,k,h=>by
  have h1:k<a:=h ⟨a,b⟩ mem_cons_self;rw[lookup_cons];have:(k == a)=false:=by simp;omega
  rw[this];exact yE fun e he=>h e (mem_cons_of_mem _ he)
def Eb{s:Sr}{h:Hr}{T B:List v_}(g:Gd ⟨s,h,T,B⟩)(ho:h.op=s.op)(hs:s.st≠.Hs):Fa s h:=by
 obtain⟨x,v,e⟩:=g;have e1:x.s=s:=congrArg Cw.s e;have e2:x.h=h:=congrArg Cw.h e;subst e1;subst e2;have c:=v.c;have hn:=c.hn;rw[ho] at hn;refine⟨c.w0,c.ww,by rw[hn];exact c.bt,by rw[hn];exact c.tw,?_,fun z=>(v.b.m2 _ z).1 rfl,yE fun e he=>(c.he e he).2⟩;rw[hn,(c.ps hs).1];exact c.tl _
def n7{s:Sr}{h:Hr}{T B:List v_}(g:Gd ⟨s,h,T,B⟩)(hs:s.st≠.Hs):s.base∉s.GZ/\h.op<=s.op/\0<s.w/\s.ps.length<=(fl s.most s.msgs).length/\(s.ps.length<=s.base->s.sure=s.msgs.length):=by
 obtain⟨x,v,e⟩:=g;have e1:x.s=s:=congrArg Cw.s e;have e2:x.h=h:=congrArg Cw.h e;subst e1;subst e2;have c:=v.c;have hp:=(c.ps hs).1;have hP:x.P x.s.op=fl x.s.most (x.s.msgs.drop (x.st x.s.op)):=rfl;refine⟨fun z=>(v.b.m2 _ z).1 rfl,c.ho,c.w0,?_,fun hb=>?_⟩
 ·rw[hp,hP];have:=oI x.s.most (x.s.msgs.take (x.st x.s.op)) (x.s.msgs.drop (x.st x.s.op));rw[take_append_drop] at this;rw[this,length_append];omega
 ·have h1:=c.su;rw[take_of_length_le (by rw[<-hp];exact hb),hP,rP,length_drop] at h1;have:=c.sl _ (Nat.le_refl x.s.op);omega
def yW(h:Hr)(p:Pc):(h.take p).op=h.op/\(h.take p).nx=h.nx:=by
 unfold Hr.take;split<;>exact⟨rfl,rfl⟩
theorem mM:∀(n:Nat) (h:Hr),(h.F_ n).op=h.op/\h.nx<=(h.F_ n).nx
 |0,h=>⟨rfl,Nat.le_refl _⟩
 |n+1,h=>by
  unfold Hr.F_;split
  ·exact⟨rfl,Nat.le_refl _⟩
  ·rename_i p _;obtain⟨h1,h2⟩:=mM n (h.pop.take p);obtain⟨t1,t2⟩:=yW h.pop p;have t3:h.pop.nx=h.nx+1:=rfl;refine⟨h1.trans t1,?_⟩;show h.nx<=((h.pop.take p).F_ n).nx;omega
def vb(h:Hr)(n:Nat)(p:Pc):(h.data n p).op=h.op/\h.nx<=(h.data n p).nx:=by
 obtain⟨h1,h2⟩:=mM (h.keep n p).early.length (h.keep n p);have hk:(h.keep n p).nx=h.nx/\(h.keep n p).op=h.op:=by unfold Hr.keep;split<;>exact⟨rfl,rfl⟩
 rw[hk.2] at h1;rw[hk.1] at h2;exact⟨h1,h2⟩
def xJ{h:Hr}{b:Nat}{p:Pc}(hw:0<h.w)(h1:b<=h.nx)(no:h.early.lookup h.nx=none):b<(h.data (b % (2 * h.w)) p).nx:=by
 have hk:=(vb h (b % (2 * h.w)) p).2;by_cases e:b=h.nx
 ·have hi:h.idx (b % (2 * h.w))=(b:Int):=by
   unfold Hr.idx;have:((b % (2 * h.w):Nat):Int)=(b:Int) % (2 * (h.w:Int)):=by push_cast;rfl
   rw[this];exact nE hw (by omega) (by omega)
  have T_:h.keep (b % (2 * h.w)) p = { h with early:=h.early++[(b,p)] }:=by
   unfold Hr.keep;rw[hi,toNat_natCast,if_pos ⟨mod_lt _ (by omega),by omega,by rw[e];exact no⟩]
  have UR:(h.early++[(b,p)]).lookup h.nx=some p:=by
   rw[List.lookup_append,no,e];simp
  unfold Hr.data;rw[T_];show b<(Hr.F_ (h.early++[(b,p)]).length { h with early:=h.early++[(b,p)] }).nx;rw[length_append,length_singleton];unfold Hr.F_;dsimp only;rw[UR];dsimp only;have k1:=(mM h.early.length (({ h with early:=h.early++[(b,p)] }:Hr).pop.take p)).2;have k2:=(yW ({ h with early:=h.early++[(b,p)] }:Hr).pop p).2;have k3:(({ h with early:=h.early++[(b,p)] }:Hr).pop).nx=h.nx+1:=rfl;omega
 ·omega
def mK(h:Hr)(n:Nat)(p:Pc):h.f_ (.data h.op n p)=(h.data n p,[(h.data n p).note]):=by
 unfold Hr.f_;dsimp only;rw[if_neg (Nat.lt_irrefl _),if_neg (Nat.lt_irrefl _)]
theorem kl:∀(cs:List v_) (h:Hr),(∀c,c∈cs->∃n p,c=.data h.op n p)->(bE h cs).1.op=h.op/\h.nx<=(bE h cs).1.nx/\(∀a,a∈(bE h cs).2->∃n bs,a=.note h.op n bs)/\(cs≠[]->∃A,(bE h cs).2=A++[(bE h cs).1.note])
 |[],h,_=>⟨rfl,Nat.le_refl _,fun a z=>absurd z not_mem_nil,fun z=>absurd rfl z⟩
 |c :: cs,h,hc=>by
  obtain⟨n,p,rfl⟩:=hc c mem_cons_self;obtain⟨k1,k2⟩:=vb h n p;have ih:=kl cs (h.data n p) fun c hm=>by rw[k1];exact hc c (mem_cons_of_mem _ hm)
  obtain⟨i1,i2,i3,i4⟩:=ih;have e1:(bE h (.data h.op n p :: cs)).1=(bE (h.data n p) cs).1:=by show(bE (h.f_ _).1 cs).1=_;rw[mK]
  have e2:(bE h (.data h.op n p :: cs)).2=(h.data n p).note :: (bE (h.data n p) cs).2:=by show(h.f_ _).2++(bE (h.f_ _).1 cs).2=_;rw[mK];rfl
  rw[e1,e2];refine⟨i1.trans k1,by omega,fun a ha=>?_,fun _=>?_⟩
  ·rcases List.mem_cons.mp ha with rfl|ha
   ·exact⟨_,_,by rw[<-k1];rfl⟩
   ·obtain⟨n',LO,e⟩:=i3 a ha;exact⟨n',LO,by rw[e,k1]⟩
  ·cases cs with
   |nil=>exact⟨[],rfl⟩
   |cons d cs=>
    obtain⟨A,hA⟩:=i4 (by simp);exact⟨(h.data n p).note :: A,by rw[hA];rfl⟩
theorem py{o:Nat}:∀(cs:List v_) (h:Hr),h.op<o->(∀c,c∈cs->∃n p,c=.data o n p)->bE h cs=(h,cs.map fun _=>v_.Iy o)
 |[],h,_,_=>rfl
 |c :: cs,h,ho,hc=>by
  obtain⟨n,p,rfl⟩:=hc c mem_cons_self;have e:h.f_ (.data o n p)=(h,[.Iy o]):=by
   unfold Hr.f_;dsimp only;rw[if_neg (by omega),if_pos ho]
  have ih:=py cs h ho fun c hm=>hc c (mem_cons_of_mem _ hm)
  unfold bE;rw[e];dsimp only;rw[ih];rfl
def y9(s:Sr)(n:Nat)(bs:List Int):(s.z_ n bs).w=s.w/\(s.z_ n bs).op=s.op/\(s.z_ n bs).st=s.st/\(s.z_ n bs).ps=s.ps:=by
 unfold Sr.z_;split
 ·obtain⟨h1,_,_,_,h5,h6,h7,_⟩:=fw bs (s.I0 (iz n s.base s.w).toNat) 0;exact⟨h1,h5,h6,h7⟩
 ·exact⟨rfl,rfl,rfl,rfl⟩
theorem qZ:∀(cs:List v_) (s:Sr),s.st=.opened->(∀c,c∈cs->∃n bs,c=.note s.op n bs)->(cs.foldl Sr.f_ s).w=s.w/\(cs.foldl Sr.f_ s).op=s.op/\(cs.foldl Sr.f_ s).st=.opened/\(cs.foldl Sr.f_ s).ps=s.ps
 |[],s,hs,_=>⟨rfl,rfl,hs,rfl⟩
 |c :: cs,s,hs,hc=>by
  obtain⟨n,bs,rfl⟩:=hc c mem_cons_self;have e:s.f_ (.note s.op n bs)=s.z_ n bs:=by
   unfold Sr.f_;dsimp only;rw[if_pos ⟨rfl,hs⟩]
  obtain⟨k1,k2,k3,k4⟩:=y9 s n bs;have ih:=qZ cs (s.z_ n bs) (k3.trans hs) fun c hm=>by rw[k2];exact hc c (mem_cons_of_mem _ hm)
  rw[foldl_cons,e];exact⟨ih.1.trans k1,ih.2.1.trans k2,ih.2.2.1,ih.2.2.2.trans k4⟩
def Aw{s:Sr}{h:Hr}(f:Fa s h)(ho:h.op=s.op)(hs:s.st=.opened):(s.f_ h.note).base=h.nx:=by
 have e:s.f_ h.note=s.z_ (h.nx % (2 * h.w)) h.bits:=by
  unfold Hr.note Sr.f_;dsimp only;rw[if_pos ⟨ho,hs⟩]
 have hn:iz ((h.nx % (2 * h.w):Nat):Int) s.base s.w=(h.nx:Int):=by
  have:((h.nx % (2 * h.w):Nat):Int)=(h.nx:Int) % (2 * (s.w:Int)):=by rw[f.ww];push_cast;rfl
  rw[this];have h1:=f.lo;have h2:=f.hi;have h3:=f.w0;exact nE f.w0 (by omega) (by omega)
 have h1:=f.hi;have h2:=f.le;have h3:=f.w0;rw[e];unfold Sr.z_;rw[hn,if_pos ⟨by rw[f.ww];exact mod_lt _ (by omega),by omega⟩];obtain⟨_,_,_,_,_,_,_,h8,_⟩:=fw h.bits (s.I0 (h.nx:Int).toNat) 0;rw[h8];rfl
theorem tp{o:Nat}:∀(cs:List v_) (s:Sr),s.op≠o->(cs.map fun _=>v_.Iy o).foldl Sr.f_ s=s
 |[],s,_=>rfl
 |c :: cs,s,h=>by
  have e:s.f_ (.Iy o)=s:=by
   unfold Sr.f_;dsimp only;rw[if_neg fun z=>h z.1.symm]
  rw[map_cons,foldl_cons,e];exact tp cs s h
def gw{s:Sr}(hs:s.st≠.Hs):s.start=s:=by unfold Sr.start;rw[if_neg hs]
def uv{s:Sr}{h:Hr}(g:Gd ⟨s,h,[],[]⟩)(hs:s.st=.opening):jb s h = { s with st:=.opened }/\(d3 s h).op=s.op:=by
 have h0:s.st≠.Hs:=by rw[hs];decide
 have hle:=(n7 g h0).2.1;have ht:s.tick=[.x_ s.op]:=by unfold Sr.tick;rw[hs]
 have hr:∃h',h.f_ (.x_ s.op)=(h',[.t_ s.op])/\h'.op=s.op:=by
  unfold Hr.f_;dsimp only;rw[if_neg (by omega)];by_cases e:h.op<s.op
  ·exact⟨_,if_pos e,rfl⟩
  ·exact⟨_,if_neg e,by omega⟩
 obtain⟨h',e1,e2⟩:=hr;have e3:bE h [.x_ s.op]=(h',[.t_ s.op]):=by
  show((h.f_ (.x_ s.op)).1,(h.f_ (.x_ s.op)).2++[])=_;rw[e1];rfl
 have e4:s.f_ (.t_ s.op) = { s with st:=.opened }:=by
  unfold Sr.f_;dsimp only;rw[if_pos ⟨rfl,hs⟩]
 unfold jb d3;rw[gw h0,ht,e3];exact⟨e4,e2⟩
def nA{s:Sr}(h1:s.base<s.ps.length)(h2:0<s.w)(h3:s.base∉s.GZ):∃l,s.wanted=s.base :: l:=by
 unfold Sr.wanted;obtain⟨k,hk⟩:∃k,min (s.base+s.w) s.ps.length-s.base=k+1:=⟨min (s.base+s.w) s.ps.length-s.base-1,by omega⟩;rw[hk,List.range'_succ,filter_cons,if_pos (decide_eq_true h3)];exact⟨_,rfl⟩
def zt{s:Sr}{h:Hr}(hs:s.st=.opened)(hb:s.ps.length<=s.base):jb s h=s/\d3 s h=h:=by
 have h0:s.st≠.Hs:=by rw[hs];decide
 have hw:s.wanted=[]:=by
  unfold Sr.wanted;rw[show min (s.base+s.w) s.ps.length-s.base=0 by omega];rfl
 have ht:s.tick=[]:=by unfold Sr.tick;rw[hs];show s.wanted.map _=_;rw[hw];rfl
 unfold jb d3;rw[gw h0,ht];exact⟨rfl,rfl⟩
def zy{s:Sr}{h:Hr}(g:Gd ⟨s,h,[],[]⟩)(hs:s.st=.opened)(hb:s.base<s.ps.length)(ho:h.op≠s.op):(jb s h).st=.opening:=by
 have h0:s.st≠.Hs:=by rw[hs];decide
 obtain⟨b1,b2,b3,_,_⟩:=n7 g h0;obtain⟨l,hl⟩:=nA hb b3 b1;have ht:s.tick=s.wanted.map s.dataOf:=by unfold Sr.tick;rw[hs]
 have hw:=py (o:=s.op) s.tick h (by omega) (fun c hc=>by
  rw[ht] at hc;obtain⟨i,_,rfl⟩:=List.mem_map.mp hc;exact⟨_,_,rfl⟩)
 have e4:s.f_ (.Iy s.op)=s.anew:=by
  unfold Sr.f_;dsimp only;rw[if_pos ⟨rfl,hs⟩]
 unfold jb;rw[gw h0,hw,ht,hl,map_cons,map_cons,foldl_cons,e4,tp _ _ (show s.op+1≠s.op by omega)];rfl
def z6{s:Sr}{h:Hr}(g:Gd ⟨s,h,[],[]⟩)(hs:s.st=.opened)(hb:s.base<s.ps.length)(ho:h.op=s.op):(jb s h).st=.opened/\(jb s h).ps=s.ps/\s.base<(jb s h).base/\(d3 s h).op=(jb s h).op:=by
 have h0:s.st≠.Hs:=by rw[hs];decide
 have f:=Eb g ho h0;obtain⟨l,hl⟩:=nA hb f.w0 f.nb;have ht:s.tick=s.wanted.map s.dataOf:=by unfold Sr.tick;rw[hs]
 have hd:∀c,c∈s.tick->∃n p,c=.data h.op n p:=fun c hc=>by
  rw[ht] at hc;obtain⟨i,_,rfl⟩:=List.mem_map.mp hc;exact⟨_,_,by rw[ho];rfl⟩
 obtain⟨k1,_,k3,k4⟩:=kl s.tick h hd;have Oi:s.tick≠[]:=by rw[ht,hl];simp
 obtain⟨A,hA⟩:=k4 Oi;have g2:=(Cy g).1;rw[gw h0] at g2;have eH:d3 s h=(bE h s.tick).1:=by unfold d3;rw[gw h0]
 have eS:jb s h=(A.foldl Sr.f_ s).f_ (d3 s h).note:=by
  unfold jb;rw[gw h0,hA,foldl_append,eH];rfl
 rw[<-eH] at hA k1;rw[hA] at g2 k3;have g3:=qT A g2;obtain⟨n1,n2,n3,n4⟩:=qZ A s hs fun c hc=>by rw[<-ho];exact k3 c (mem_append_left _ hc)
 obtain⟨s1,VT⟩:∃s1,A.foldl Sr.f_ s=s1:=⟨_,rfl⟩;rw[VT] at eS g3 n1 n2 n3 n4;have Pq:(d3 s h).op=s1.op:=by rw[k1,n2,ho]
 have f1:=Eb g3 Pq (by rw[n3];decide);have Ql:=Aw f1 Pq n3;have e5:s1.f_ (d3 s h).note=s1.z_ ((d3 s h).nx % (2 * (d3 s h).w)) (d3 s h).bits:=by
  unfold Hr.note Sr.f_;dsimp only;rw[if_pos ⟨Pq,n3⟩]
 obtain⟨q1,q2,q3,q4⟩:=y9 s1 ((d3 s h).nx % (2 * (d3 s h).w)) (d3 s h).bits;rw[<-e5] at q2 q3 q4;have Ra:s.base<(d3 s h).nx:=by
  rw[eH,ht,hl,map_cons];have e6:s.dataOf s.base=.data h.op (s.base % (2 * h.w)) (s.ps.getD s.base (0,[])):=by unfold Sr.dataOf;rw[ho,f.ww]
  rw[e6];show s.base<(bE (h.f_ _).1 _).1.nx;rw[mK];have hf:=xJ (p:=s.ps.getD s.base (0,[])) (by rw[f.ww];exact f.w0) f.lo f.no;have:=(kl (l.map s.dataOf) (h.data (s.base % (2 * h.w)) (s.ps.getD s.base (0,[]))) (fun c hc=>by
   rw[(vb h _ _).1];refine hd c ?_;rw[ht,hl,map_cons];exact mem_cons_of_mem _ hc)).2.1
  exact Nat.lt_of_lt_of_le hf this
 rw[eS];exact⟨q3.trans n3,q4.trans n4,by rw[Ql];exact Ra,by rw[Pq,q2]⟩
def xL(m n:Nat)(s:Sr)(h:Hr):Prop:=(s.st=.opened/\(s.ps.length<=s.base\/(h.op=s.op/\s.ps.length<=s.base+n)\/m+2<=n))\/(s.st=.opening/\m+1<=n)
def Ah{m n:Nat}{s:Sr}{h:Hr}(g:Gd ⟨s,h,[],[]⟩)(hm:(fl s.most s.msgs).length<=m)(l:xL m (n+1) s h):xL m n (jb s h) (d3 s h):=by
 rcases l with ⟨hs,l⟩|⟨hs,l⟩
 ·by_cases hb:s.ps.length<=s.base
  ·obtain⟨e1,e2⟩:=zt (h:=h) hs hb;rw[e1,e2];exact .inl ⟨hs,.inl hb⟩
  ·have hb:s.base<s.ps.length:=by omega
   by_cases ho:h.op=s.op
   ·obtain⟨t1,t2,t3,t4⟩:=z6 g hs hb ho;have hp:=(n7 g (by rw[hs];decide)).2.2.2.1;refine .inl ⟨t1,.inr (.inl ⟨t4,?_⟩)⟩;rw[t2];rcases l with z|⟨_,z⟩|z<;>omega
   ·have t:=zy g hs hb ho;refine .inr ⟨t,?_⟩;rcases l with z|⟨z,_⟩|z
    ·omega
    ·exact absurd z ho
    ·omega
 ·obtain⟨t1,t2⟩:=uv g hs;have hp:=(n7 g (by rw[hs];decide)).2.2.2.1;rw[t1];exact .inl ⟨rfl,.inr (.inl ⟨t2,by show s.ps.length<=s.base+n;omega⟩)⟩
def zu{m:Nat}{s:Sr}{h:Hr}(g:Gd ⟨s,h,[],[]⟩)(l:xL m 0 s h):s.st=.opened/\s.sure=s.msgs.length:=by
 rcases l with ⟨hs,l⟩|⟨_,l⟩
 ·refine⟨hs,(n7 g (by rw[hs];decide)).2.2.2.2 ?_⟩;rcases l with z|⟨_,z⟩|z<;>omega
 ·omega
end Lw
namespace Lw
open PySem L2 DL
def yx{c c':Cw}(g:Gd c)(n:NF c)(h:CS false c c'):NF c':=by
 obtain⟨x,v,rfl⟩:=g;cases h with
 |same=>exact n
 |hand _ m=>exact NF.hand n m
 |start=>exact NF.start n
 |tick=>exact NF.tick n
 |stepT=>exact NF.stepT v n
 |Ib=>exact NF.Ib n
 |ME _ k=>exact NF.ME n k
 |MF _ k=>exact NF.MF n k
 |Pt _ k=>exact NF.Pt n k
 |Pu _ k=>exact NF.Pu n k
def CU(ns:List Int):∀t,t∈dL false ns->t.act.falls=false:=by
 intro t ht;unfold dL at ht;rcases List.mem_append.mp ht with ht|ht
 ·simp at ht;rcases ht with rfl|rfl<;>rfl
 ·obtain⟨c,_,hc⟩:=List.mem_flatMap.mp ht;unfold gn at hc;split at hc
  ·simp at hc;subst hc;rfl
  ·split at hc
   ·simp at hc;subst hc;rfl
   ·split at hc
    ·obtain⟨_,rfl⟩:=List.mem_replicate.mp hc;rfl
    ·split at hc
     ·simp at hc;subst hc;rename_i TU
      match h:mx c 9859 20-14 with
      |0=>rfl
      |1=>rfl
      |_+2=>rfl
     ·simp at hc;subst hc;rfl
theorem qk(hs:List HM)(g:HM):∀(l:List HM) (n:Nat),jd hs n (l++[g])=if hs[jd hs n l]?=some g then jd hs n l+1 else jd hs n l
 |[],n=>rfl
 |x :: l,n=>by
  show jd hs _ (l++[g])=_;rw[qk hs g l];rfl
theorem wU(hs:List HM):∀(l:List HM) (n:Nat),n<=hs.length->jd hs n l<=hs.length
 |[],n,h=>h
 |x :: l,n,h=>by
  show jd hs _ l<=_;refine wU hs l _ ?_;split
  ·rename_i e;exact(List.getElem?_eq_some_iff.mp e).1
  ·exact h
section
variable{G:Cs}{S S' S1 S2:List Cell}{a a' a1 a2:Ad}{w w' w1 w2:WW}{N:Nat}
def zM(g:Gd w.con)(n:NF w.con):w.h.given=(w.s.msgs.take w.h.given.length).map fun m=>(1,m):=by
 obtain⟨x,v,e⟩:=g;have h1:x.h=w.h:=congrArg Cw.h e;have h2:x.s=w.s:=congrArg Cw.s e;rw[<-e] at n;have:=Bp v n;rw[h1,h2] at this;exact this
def CC{l:Nat}{hs:List HM}{gs:List (Nat×HM)}(hl:S[l]?=some (.lst (hs.map B_)))(hz:hs.length<=100000)(h:hs.Sublist (gs.map (·.2))):dY [.ob l,.tup (gs.map K_)] S=.ok (.bl true) S:=by
 show fin S (ij [sO l,some (.tup (gs.map K_)),none,none,none] S)=_;unfold ij;rw[aw (bz rfl)];show fin S (aI _ _ [sO l,some (.tup (gs.map K_)),sI 0,none,none] S)=_;have hw:Js w_ [sO l,some (.tup (gs.map K_)),sI 0,none,none] S=.ok ⟨gs.map K_,none⟩ S:=rfl;obtain⟨ms,PY⟩:∃ms,gs.map (·.2)=ms:=⟨_,rfl⟩;obtain⟨r',S3,q,hI⟩:=cK (g:=none) (tg:=gT [3,4]) (b:=dR)
  (fun i r S'=>S'=S/\∃x3 x4,r=[sO l,some (.tup (gs.map K_)),sI (jd hs 0 (ms.take i):Nat),x3,x4]) (gs.map K_) 0 [sO l,some (.tup (gs.map K_)),sI 0,none,none] S
  (by
   rintro i y r S' hy ⟨rfl,x3,x4,rfl⟩;rw[getElem?_map] at hy;cases hp:gs[i]? with
   |none=>rw[hp] at hy;cases hy
   |some g=>
    rw[hp] at hy;cases hy;rw[Nat.zero_add];obtain⟨at_,SA⟩:∃at_,jd hs 0 (ms.take i)=at_:=⟨_,rfl⟩;have hle:at_<=hs.length:=by rw[<-SA];exact wU hs _ 0 (zero_le _)
    have Zj:ms[i]?=some g.2:=by rw[<-PY,getElem?_map,hp];rfl
    have Ra:jd hs 0 (ms.take (i+1))=if hs[at_]?=some g.2 then at_+1 else at_:=by
     have Oh:=(List.getElem?_eq_some_iff.mp Zj);rw[List.take_succ,Zj];show jd hs 0 (ms.take i++[g.2])=_;rw[qk,SA]
    rw[SA];have cond:dg (am (g_ JO Hv (ak bq (aa h_ ai)))) (am (g_ G_ (g_ y_ h_ Hv) Jy)) [sO l,some (.tup (gs.map K_)),sI (at_:Int),sI (g.1:Int),some (B_ g.2)] S'=.ok (decide (hs[at_]?=some g.2)) S':=by
     have c1:am (g_ JO Hv (ak bq (aa h_ ai))) [sO l,some (.tup (gs.map K_)),sI (at_:Int),sI (g.1:Int),some (B_ g.2)] S'=.ok (decide (at_<hs.length)) S':=by
      refine ay (ar rfl (av (af rfl ah) (fZ hl)) ?_);rw[qv,length_map];congr 2;rw[decide_eq_decide];omega
     rw[cR,au,c1];by_cases JD:at_<hs.length
     ·rw[decide_eq_true JD];obtain⟨x,hx⟩:∃x,hs[at_]?=some x:=⟨_,getElem?_eq_getElem JD⟩;show am _ _ S'=_;rw[hx];have:am (g_ G_ (g_ y_ h_ Hv) Jy) [sO l,some (.tup (gs.map K_)),sI (at_:Int),sI (g.1:Int),some (B_ g.2)] S'=.ok (decide (x=g.2)) S':=
       ay (ar (ar rfl rfl (jp hl (by rw[getElem?_map,hx];rfl))) rfl (BE S' x g.2))
      rw[this];congr 1;rw[decide_eq_decide];exact⟨fun z=>by rw[z],fun z=>Option.some.inj z⟩
     ·rw[decide_eq_false JD,List.getElem?_eq_none (by omega)];rfl
    by_cases hc:hs[at_]?=some g.2
    ·rw[decide_eq_true hc] at cond;rw[if_pos hc] at Ra;refine⟨[sO l,some (.tup (gs.map K_)),sI (at_:Int),sI (g.1:Int),some (B_ g.2)],[sO l,some (.tup (gs.map K_)),sI ((at_+1:Nat):Int),sI (g.1:Int),some (B_ g.2)],S',rfl,?_,trivial,rfl,_,_,by rw[Ra]⟩;unfold dR;rw[aW cond];exact bz (i:=2) (ar rfl rfl (by rw[bS];congr 2))
    ·rw[decide_eq_false hc] at cond;rw[if_neg hc] at Ra;refine⟨[sO l,some (.tup (gs.map K_)),sI (at_:Int),sI (g.1:Int),some (B_ g.2)],[sO l,some (.tup (gs.map K_)),sI (at_:Int),sI (g.1:Int),some (B_ g.2)],S',rfl,?_,trivial,rfl,_,_,by rw[Ra]⟩;unfold dR;rw[ax cond];rfl)
  ⟨rfl,none,none,rfl⟩
 obtain⟨rfl,x3,x4,rfl⟩:=hI;rw[aw (by rw[jC hw];exact q)];have hf:jd hs 0 (ms.take (0+(gs.map K_).length))=hs.length:=by
  rw[take_of_length_le (by rw[<-PY,length_map,length_map];omega)];exact lO ms hs 0 (zero_le _) (by rw[List.drop_zero,<-PY];exact h)
 rw[hf];have:g_ G_ Hv (ak bq (aa h_ ai)) [sO l,some (.tup (gs.map K_)),sI (hs.length:Nat),x3,x4] S3=.ok (.bl true) S3:=by
  refine ar rfl (av (af rfl ah) (fZ hl)) ?_;rw[gO,length_map,decide_eq_true rfl]
 exact congrArg (fin S3) (aN this)
def BD(g:Gd w.con):(w.s.msgs.take w.s.sure).Sublist (w.h.given.map (·.2))/\w.s.sure<=w.s.msgs.length:=by
 obtain⟨x,v,e⟩:=g;have h1:x.h=w.h:=congrArg Cw.h e;have h2:x.s=w.s:=congrArg Cw.s e;have:=BL v;rw[h1,h2] at this;exact this
end
theorem qh(r:Bool):∀(n:Nat) (w:WW),WW.steps r (n+1) w=WW.steps r n (w.act (.step r))
 |0,w=>rfl
 |n+1,w=>by
  show(WW.steps r (n+1) w).act (.step r)=(WW.steps r n (w.act (.step r))).act (.step r);rw[qh r n w]
theorem y3:∀(cs:List v_) (w:WW),w.T=cs.map gd->WW.steps true cs.length w=⟨w.s,(bE w.h cs).1,[],w.B++(bE w.h cs).2.map gd⟩
 |[],⟨s,h,T,B⟩,hT=>by
  have:T=[]:=hT;subst this;show(⟨s,h,[],B⟩:WW)=⟨s,h,[],B++[]⟩;rw[append_nil]
 |c :: cs,w,hT=>by
  have e:w.act (.step true)=⟨w.s,(w.h.f_ c).1,cs.map gd,w.B++(w.h.f_ c).2.map gd⟩:=by
   show w.step true=_;unfold WW.step;have:w.road true=gd c :: cs.map gd:=hT;rw[this];rfl
  rw[length_cons,qh,e,y3 cs _ rfl];show(⟨w.s,_,[],(w.B++(w.h.f_ c).2.map gd)++(bE (w.h.f_ c).1 cs).2.map gd⟩:WW)=⟨w.s,_,[],w.B++((w.h.f_ c).2++(bE (w.h.f_ c).1 cs).2).map gd⟩;rw[map_append,append_assoc];rfl
theorem yz:∀(cs:List v_) (w:WW),w.B=cs.map gd->WW.steps false cs.length w=⟨cs.foldl Sr.f_ w.s,w.h,w.T,[]⟩
 |[],⟨s,h,T,B⟩,hB=>by
  have:B=[]:=hB;subst this;rfl
 |c :: cs,w,hB=>by
  have e:w.act (.step false)=⟨w.s.f_ c,w.h,w.T,cs.map gd⟩:=by
   show w.step false=_;unfold WW.step;have:w.road false=gd c :: cs.map gd:=hB;rw[this];rfl
  rw[length_cons,qh,e,yz cs _ rfl];rfl
def wv{w:WW}(hT:w.T=[])(hB:w.B=[]):w.IH=⟨jb w.s w.h,d3 w.s w.h,[],[]⟩:=by
 have e1:(w.act .start).act .tick=⟨w.s.start,w.h,w.s.start.tick.map gd,[]⟩:=by
  show(⟨w.s.start,w.h,w.T++w.s.start.tick.map gd,w.B⟩:WW)=_;rw[hT,hB];rfl
 unfold WW.IH;rw[e1];have e2:WW.off true ⟨w.s.start,w.h,w.s.start.tick.map gd,[]⟩=⟨w.s.start,d3 w.s w.h,[],(bE w.h w.s.start.tick).2.map gd⟩:=by
  have:=y3 w.s.start.tick ⟨w.s.start,w.h,w.s.start.tick.map gd,[]⟩ rfl;show WW.steps true (w.s.start.tick.map gd).length _=_;rw[length_map,this];rfl
 rw[e2];have:=yz (bE w.h w.s.start.tick).2 ⟨w.s.start,d3 w.s w.h,[],(bE w.h w.s.start.tick).2.map gd⟩ rfl;show WW.steps false ((bE w.h w.s.start.tick).2.map gd).length _=_;rw[length_map,this];rfl
structure Cm(f:Bool)(M:List HM)(q:Nat)(w:WW):Prop where
 gd:Gd w.con
 nf:f=true\/NF w.con
 ms:w.s.msgs=M
 mo:w.s.most=q
 ns:w.s.st≠.Hs
def wG(s:Sr)(c:v_):(s.f_ c).msgs=s.msgs/\(s.f_ c).most=s.most/\(s.st≠.Hs->(s.f_ c).st≠.Hs):=by
 cases c with
 |t_ o=>dsimp only[Sr.f_];split<;>exact⟨rfl,rfl,fun h=>by first|exact h|exact St.noConfusion⟩
 |Iy o=>dsimp only[Sr.f_];split<;>exact⟨rfl,rfl,fun h=>by first|exact h|exact St.noConfusion⟩
 |note o n bs=>
  dsimp only[Sr.f_];split
  ·unfold Sr.z_;split
   ·obtain⟨_,h2,h3,_,_,h6,_⟩:=fw bs (s.I0 (iz n s.base s.w).toNat) 0;exact⟨h3,h2,fun h=>by rw[h6];exact h⟩
   ·exact⟨rfl,rfl,id⟩
  ·exact⟨rfl,rfl,id⟩
 |x_ o=>exact⟨rfl,rfl,id⟩
 |data o n p=>exact⟨rfl,rfl,id⟩
def B7(w:WW)(r:Bool):(w.act (.step r)).s=w.s\/∃c,(w.act (.step r)).s=w.s.f_ c:=by
 show(w.step r).s=w.s\/∃c,(w.step r).s=w.s.f_ c;unfold WW.step;cases w.road r with
 |nil=>exact .inl rfl
 |cons e l=>
  obtain⟨c,x⟩:=e;cases x with
  |some xs=>exact .inl (by cases r<;>rfl)
  |none=>
   cases r with
   |true=>exact .inl rfl
   |false=>exact .inr ⟨c,rfl⟩
section
variable{f:Bool}{M:List HM}{q:Nat}{w:WW}{N:Nat}
def Cm.step(c:Cm f M q w)(r:Bool):Cm f M q (w.act (.step r)):=by
 have cs:=pW w (.step r) false (fun h=>Bool.noConfusion h);have k:(w.act (.step r)).s.msgs=w.s.msgs/\(w.act (.step r)).s.most=w.s.most/\(w.s.st≠.Hs->(w.act (.step r)).s.st≠.Hs):=by
  rcases B7 w r with h|⟨d,h⟩
  ·rw[h];exact⟨rfl,rfl,id⟩
  ·rw[h];exact wG w.s d
 exact⟨pa c.gd cs,c.nf.imp id fun n=>yx c.gd n cs,k.1.trans c.ms,k.2.1.trans c.mo,k.2.2 c.ns⟩
def Cm.steps(r:Bool)(c:Cm f M q w):∀n:Nat,Cm f M q (WW.steps r n w)
 |0=>c
 |n+1=>(Cm.steps r c n).step r
def vR(g:Gd w.con)(n:f=true\/NF w.con):Cm f w.s.msgs w.s.most w.IH:=by
 have c1:=pW w .start false (fun h=>Bool.noConfusion h);have g1:=pa g c1;have n1:=n.imp id fun n=>yx g n c1
 have c2:=pW (w.act .start) .tick false (fun h=>Bool.noConfusion h);have hs:w.s.start.msgs=w.s.msgs/\w.s.start.most=w.s.most/\w.s.start.st≠.Hs:=by
  unfold Sr.start;by_cases h:w.s.st=.Hs
  ·rw[if_pos h];exact⟨rfl,rfl,St.noConfusion⟩
  ·rw[if_neg h];exact⟨rfl,rfl,h⟩
 have c:Cm f w.s.msgs w.s.most ((w.act .start).act .tick):=⟨pa g1 c2,n1.imp id fun n=>yx g1 n c2,hs.1,hs.2.1,hs.2.2⟩;exact(c.steps true _).steps false _
theorem tZ(K:Iz N w)(hz:N+3 * (w.T.length+w.B.length)+16<=24300)(g:Gd w.con)(n:f=true\/NF w.con){m:Nat}(hm:(fl w.s.most w.s.msgs).length<=m) :
  ∀k:Nat,Cm f w.s.msgs w.s.most (w.calm (k+1))/\(w.calm (k+1)).T=[]/\(w.calm (k+1)).B=[]/\xL m (m+2-k) (w.calm (k+1)).s (w.calm (k+1)).h
 |0=>by
  have c:=vR g n;obtain⟨_,_,h1,h2,_⟩:=vH K hz;refine⟨c,h1,h2,?_⟩;show xL m (m+2) w.IH.s w.IH.h;cases h:w.IH.s.st with
  |Hs=>exact absurd h c.ns
  |opening=>exact .inr ⟨h,by omega⟩
  |opened=>exact .inl ⟨h,.inr (.inr (Nat.le_refl _))⟩
 |k+1=>by
  obtain⟨c,h1,h2,l⟩:=tZ K hz g n hm k;obtain⟨v,hv⟩:∃v,w.calm (k+1)=v:=⟨_,rfl⟩;show Cm f w.s.msgs w.s.most (w.calm (k+1)).IH/\(w.calm (k+1)).IH.T=[]/\(w.calm (k+1)).IH.B=[]/\xL m (m+2-(k+1)) (w.calm (k+1)).IH.s (w.calm (k+1)).IH.h;rw[hv] at c h1 h2 l ⊢;have c':=vR c.gd c.nf;rw[c.ms,c.mo] at c';refine⟨c',?_⟩;rw[wv h1 h2];refine⟨rfl,rfl,?_⟩;have gv:Gd ⟨v.s,v.h,[],[]⟩:=by
   have:=c.gd;unfold WW.con at this;rw[h1,h2] at this;exact this
  have l':xL m (m+2-(k+1)+1) v.s v.h:=by
   by_cases hk:m+2-k=0
   ·rw[hk] at l;rcases l with ⟨a,z⟩|⟨a,z⟩
    ·refine .inl ⟨a,?_⟩;rcases z with z|⟨y,z⟩|z
     ·exact .inl z
     ·exact .inr (.inl ⟨y,by omega⟩)
     ·omega
    ·omega
   ·rw[show m+2-(k+1)+1=m+2-k by omega];exact l
  exact Ah gv (by rw[c.ms,c.mo];exact hm) l'
def Cb(K:Iz N w)(hz:N+3 * (w.T.length+w.B.length)+16<=24300)(g:Gd w.con)(n:f=true\/NF w.con){m:Nat}(hm:(fl w.s.most w.s.msgs).length<=m) :
  (w.calm (m+4)).s.sure=w.s.msgs.length/\(w.calm (m+4)).s.st=.opened/\(w.calm (m+4)).T=[]/\(w.calm (m+4)).B=[]/\w.s.msgs.Sublist ((w.calm (m+4)).h.given.map (·.2))/\(f=true\/(w.calm (m+4)).h.given=w.s.msgs.map fun x=>(1,x)):=by
 obtain⟨c,h1,h2,l⟩:=tZ K hz g n hm (m+3);obtain⟨v,hv⟩:∃v,w.calm (m+3+1)=v:=⟨_,rfl⟩;have Vc:w.calm (m+4)=v:=hv;rw[Vc];rw[hv] at c h1 h2 l;rw[show m+2-(m+3)=0 by omega] at l;have gv:Gd ⟨v.s,v.h,[],[]⟩:=by
  have:=c.gd;unfold WW.con at this;rw[h1,h2] at this;exact this
 obtain⟨z1,z2⟩:=zu gv l;have d:=BD c.gd;rw[z2,c.ms] at d;rw[take_of_length_le (Nat.le_refl _)] at d;refine⟨by rw[z2,c.ms],z1,h1,h2,d.1,c.nf.imp id fun nf=>?_⟩;have gd:=zM c.gd nf;rw[c.ms] at gd;have hl:=d.1.length_le;rw[length_map] at hl;rw[take_of_length_le hl] at gd;exact gd
end
theorem yL{k:Nat}(hk:1<=k):∀(n:Nat) (m:HM),(km k n m).length<=max 1 m.length
 |0,m=>by simp[km];omega
 |n+1,m=>by
  unfold km;split
  ·have:=yL hk n (m.drop k);rw[length_drop] at this;rw[length_cons];omega
  ·simp;omega
theorem D5{k:Nat}(hk:1<=k):∀(ms:List HM),(∀x,x∈ms->x.length<=12)->(fl k ms).length<=12 * ms.length
 |[],_=>Nat.le_refl _
 |x :: ms,h=>by
  have h1:(dW k x).length<=max 1 x.length:=yL hk 100 x;have h2:=h x mem_cons_self;have h3:=D5 hk ms fun y hy=>h y (mem_cons_of_mem _ hy)
  rw[nX,length_append,length_cons];omega
def zS(f:Bool)(c:Int):((gn f c).flatMap LA.msgs).length<=1:=by
 have hr:∀(n:Nat) (r:Bool),(replicate n (LA.step r)).flatMap LA.msgs=[]:=fun n r=>by
  induction n with
  |zero=>rfl
  |succ n ih=>rw[replicate_succ,flatMap_cons,ih];rfl
 unfold gn;split
 ·exact Nat.le_refl _
 ·split
  ·exact zero_le _
  ·split
   ·rw[hr];exact zero_le _
   ·split
    ·exact zero_le _
    ·split<;>exact zero_le _
theorem qH(f:Bool):∀cs:List Int,((cs.flatMap (gn f)).flatMap LA.msgs).length<=cs.length
 |[]=>Nat.le_refl _
 |c :: cs=>by
  have h1:=zS f c;have h2:=qH f cs;rw[flatMap_cons,flatMap_append,length_append,length_cons];omega
def zB(f:Bool)(ns:List Int):((dL f ns).flatMap LA.msgs).length<=61:=by
 have h1:=qH f ((ns.drop 3).take 60);have h2:((ns.drop 3).take 60).length<=60:=by rw[length_take];omega
 unfold dL;rw[flatMap_append,length_append];have h3:(([LA.Kq,.hand (cv ns 2)]:List LA).flatMap LA.msgs).length=1:=rfl;omega
def DK(ts:List LA):∀x,x∈ts.flatMap LA.msgs->x.length<=12:=fun x hx=>by
 obtain⟨t,_,h⟩:=List.mem_flatMap.mp hx;cases t with
 |hand c=>
  have:x=iR c 12:=List.mem_singleton.mp h;rw[this];exact oQ c 12
 |_=>cases h
def Ba(w:WW)(t:Act):(w.act t).s.most=w.s.most:=by
 cases t with
 |hand m=>rfl
 |start=>
  show w.s.start.most=_;unfold Sr.start;split<;>rfl
 |tick=>rfl
 |step r=>
  rcases B7 w r with h|⟨d,h⟩
  ·rw[h]
  ·rw[h];exact(wG w.s d).2.1
 |N4 r k=>cases r<;>rfl
 |dbl r k=>cases r<;>rfl
 |LR r k p b=>cases r<;>rfl
 |HD r=>cases r<;>rfl
section
variable{G:Cs}{S S' S1 S2:List Cell}{a a' a1 a2:Ad}{w w' w1 w2:WW}{N:Nat}
def LA.Zk:LA->Bool
 |.hand _=>true
 |_=>false
def A3(t:LA):decide (t.kn=("hand":Str))=t.Zk:=by
 cases t with
 |hand c=>exact(by decide +kernel:decide (("hand":Str) = "hand")=true)
 |Kq=>exact(by decide +kernel:decide (("open":Str) = "hand")=false)
 |tick=>exact(by decide +kernel:decide (("tick":Str) = "hand")=false)
 |step r=>exact(by decide +kernel:decide (("step":Str) = "hand")=false)
 |HD r=>exact(by decide +kernel:decide (("fall":Str) = "hand")=false)
 |HK k r i c=>
  match k with
  |0=>exact(by decide +kernel:decide (("lose":Str) = "hand")=false)
  |1=>exact(by decide +kernel:decide (("double":Str) = "hand")=false)
  |j+2=>exact(by decide +kernel:decide (("spoil":Str) = "hand")=false)
def hK:D->Bool
 |.tup (.str k :: _)=>decide (k=("hand":Str))
 |_=>false
def hM:D->D
 |.tup [_,.int c]=>B_ (iR c 12)
 |_=>.G0
def E9(t:LA):hK t.d=t.Zk:=by
 rw[<-A3];cases t<;>rfl
theorem rY:∀ts:List LA,((ts.map LA.d).filter hK).map hM=(ts.flatMap LA.msgs).map B_
 |[]=>rfl
 |t :: ts=>by
  have ih:=rY ts;rw[map_cons,filter_cons,E9,flatMap_cons,map_append,<-ih];cases t<;>rfl
def xU(ts:List LA){l:Nat}(hl:S[l]?=some (.lst (ts.map LA.d)))(hz:ts.length<=1000000):eN [.ob l] S=.ok (.ob S.length) (S++[.lst ((ts.flatMap LA.msgs).map B_)]):=by
 show fin S (d6 [sO l] S)=_;unfold d6;have hw:Js h_ [sO l] S=.ok ⟨ts.map LA.d,some (l,ts.map LA.d)⟩ S:=by
  rw[jW,au];show i8 (.ob l) S=_;simp only[i8,hl]
 have q1:=fY (f:=Js h_) (tg:=gN 0) (ti:=am (g_ G_ (g_ y_ h_ (dI 0)) (dT "hand"))) (fe:=ak cy (aa (g_ y_ h_ (dI 1)) (aa (dI 12) ai))) (own:=1) (caps:=[])
  (r:=[sO l]) hK hM hw hl (by rw[length_map];exact hz) (by
   intro x hx;obtain⟨t,_,rfl⟩:=List.mem_map.mp hx;refine⟨[some t.d],rfl,fun zs=>?_,fun hk zs=>?_⟩
   ·rw[E9,<-A3];exact ay (ar (ar rfl rfl (xz t _)) rfl (bc (wZ t) (by decide +kernel) rfl))
   ·rw[E9] at hk;cases t with
    |hand c=>exact av (af (ar rfl rfl (aR (i:=1) rfl)) (af rfl ah)) (mw c 12 (by decide) _)
    |_=>cases hk)
 rw[rY] at q1;rw[aN q1];rfl
theorem zh{α:Type}{f g:α->D}{tg:MC}{fe:tB->M D}{n l:Nat}{its:List D}{r0:tB}(hn:l≠n):∀(ms:List α) (S:List Cell) (ys:List D),S[n]?=some (.lst ys)->S[l]?=some (.lst its)->ys.length+ms.length<=1000000->
  (∀m,m∈ms->∃r1,tg (f m) r0=some r1/\∀S':List Cell,∃c,fe r1 S'=.ok (g m) (S'++[c]))->
  ∃S',eJ tg gQ fe n (some (l,its)) r0 (ms.map f) S=.ok () S'/\S'[n]?=some (.lst (ys++ms.map g))/\Fr [n] S S'
 |[],S,ys,h1,h2,hz,hx=>⟨S,rfl,by rw[map_nil,append_nil];exact h1,Fr.refl _ _⟩
 |m :: ms,S,ys,h1,h2,hz,hx=>by
  rw[length_cons] at hz;obtain⟨r1,t1,t2⟩:=hx m mem_cons_self;obtain⟨c,e⟩:=t2 S;have g1:(S++[c])[n]?=some (.lst ys):=aB h1;obtain⟨S2,Su⟩:∃S2,(S++[c]).set n (.lst (ys++[g m]))=S2:=⟨_,rfl⟩;have ch:Ch n (.lst (ys++[g m])) (S++[c]) S2:=by rw[<-Su];exact Ch.set g1
  have a1:S2[n]?=some (.lst (ys++[g m])):=ch.1;have a2:S2[l]?=some (.lst its):=ch.old (aB h2) (Ne.symm hn);obtain⟨S3,i1,i2,i3⟩:=zh hn ms S2 (ys++[g m]) a1 a2 (by rw[length_append,length_singleton];omega) (fun y hy=>hx y (mem_cons_of_mem _ hy));refine⟨S3,?_,?_,?_⟩
  ·rw[map_cons];unfold eJ;rw[t1];dsimp only;show(match fe r1 S with
    |.ok d S2=>(match S2[n]? with
     |some (.lst ys)=>JC (ys.length<sizeLine/\Ld (some (l,its)) (S2.set n (.lst (ys++[d])))) (eJ tg gQ fe n (some (l,its)) r0 (ms.map f) (S2.set n (.lst (ys++[d])))) .bad
     |_=>.bad)
    |_=>.bad)=_
   rw[e];dsimp only;rw[g1];dsimp only;rw[Su,cf ⟨Pd (by omega),a2⟩];exact i1
  ·rw[i2,map_cons,append_assoc];rfl
  ·exact(Fr.push.tr ch.fr).tr i3
theorem AG(k:Nat):∀ms:List HM,(ms.map fun m=>((dW k m).length:Int)).sum=((fl k ms).length:Int)
 |[]=>rfl
 |m :: ms=>by
  rw[map_cons,sum_cons,AG k ms,nX,length_append];omega
def Dl{k hl:Nat}(hk:1<=k)(Zg:k<=1000){M:List HM}(hM:∀x,x∈M->x.length<=12)(hz:M.length<=1000000)(hh:S[hl]?=some (.lst (M.map B_))){r:tB}(h7:OJ r S=.ok (.ob hl) S)(h2:(r[2]?).join=some (.int (k:Int))) :
  ∃S',ak lX (aa (eC (Js OJ) (gN 0) gQ (ak bq (aa (ak cZ (aa h_ (aa w_ ai))) ai)) 1 [2]) ai) r S=.ok (.int ((fl k M).length:Int)) S'/\Fr [] S S':=by
 have Oi:hl≠S.length:=by have:=br hh;omega
 obtain⟨S',e1,e2,e3⟩:=zh (f:=B_) (g:=fun m=>.int ((dW k m).length:Int)) (tg:=gN 0) (fe:=ak bq (aa (ak cZ (aa h_ (aa w_ ai))) ai)) (its:=M.map B_) (r0:=[none,sI (k:Int)]) Oi M (S++[.lst []]) [] bO (aB hh) (by simpa using hz) (by
   intro m hm;refine⟨[some (B_ m),sI (k:Int)],rfl,fun T=>⟨.lst ((dW k m).map Hn),?_⟩⟩;have hp:=xD hk Zg (show m.length<=40 by have:=hM m hm;omega) T;refine av (af (av (af rfl (af rfl ah)) hp) ah) ?_;rw[fZ bO,length_map])
 have Sg:iB 1 [2] r=[none,sI (k:Int)]:=by
  show [none]++[(r[2]?).join]=_;rw[h2];rfl
 refine⟨S',?_,?_⟩
 ·have q:eC (Js OJ) (gN 0) gQ (ak bq (aa (ak cZ (aa h_ (aa w_ ai))) ai)) 1 [2] r S=.ok (.ob S.length) S':=by
   have hw:Js OJ r S=.ok ⟨M.map B_,some (hl,M.map B_)⟩ S:=by
    rw[jW,au,h7];show i8 (.ob hl) S=_;simp only[i8,hh]
   unfold eC;rw[au,hw];dsimp only;rw[Sg,e1]
  refine av (af q ah) ?_;have hm:(M.map fun m=>D.int ((dW k m).length:Int))=(M.map fun m=>((dW k m).length:Int)).map D.int:=by rw[map_map];rfl
  rw[nil_append,hm] at e2;simp only[lX,gW,ca e2,gJ];rw[AG]
 ·refine Fr.trans Fr.push e3 fun i hi JD=>?_
  have:i=S.length:=by simpa using hi
  omega
def EB(S:List Cell)(gs:List (Nat×HM)):∃p,pD S 30 (.tup (gs.map K_))=some p:=by
 obtain⟨ps,h⟩:=yr (S:=S) (n:=29) (l:=gs) (f:=K_) fun c _=>Fv S 25 c
 exact⟨.tuple ps,by rw[xa,h];rfl⟩
def zl(S:List Cell):∃p,pD S 30 (.tup [])=some p:=⟨.tuple [],by rw[xa];simp only[K5];rfl⟩
def DG{x:D}(h:∃p,pD S 30 x=some p):G_ x x S=.ok (.bl true) S:=by
 obtain⟨p,h⟩:=h;exact CP h h
abbrev NJ(ns:List Int)(a:Nat)(b:Bool)(l:Nat)(x6 x7 x8:Option D):tB:=[sR ns,sI (Nt ns:Int),sI (Nu ns:Int),sO a,some (.bl b),sO l,x6,x7,x8]
def Cd(G:Cs):∀ns:List Int,ns.length<=63->∃S',D7 G [.JG (ns.map D.int)] []=.ok (.bl true) S':=by
 intro ns KO;show ∃S',fin [] (wY G [sR ns,none,none,none,none,none,none,none,none] [])=_;unfold wY;rw[aw (DA (av (af rfl ah) (xI ns [])))];show ∃S',fin [] (aI _ _ [sR ns,sI (Nt ns:Int),sI (Nu ns:Int),none,none,none,none,none,none] [])=_;obtain⟨S1,a0,e1,A0,f0,hn0,Si⟩:=Du (G:=G) (Nt ns) (Nu ns) [];rw[aw (bz (av (af rfl (af rfl ah)) e1)),<-hn0];show ∃S',fin [] (aI _ _ [sR ns,sI (Nt ns:Int),sI (Nu ns:Int),sO a0.n,none,none,none,none,none] S1)=_;obtain⟨b,hb⟩:∃b,decide (cv ns 1 / 8 % 2=1)=b:=⟨_,rfl⟩;have eb:g_ G_ (g_ jT (g_ wF (ak bA (aa h_ (aa (dI 1) ai))) (dI 8)) (dI 2)) (dI 1) [sR ns,sI (Nt ns:Int),sI (Nu ns:Int),sO a0.n,none,none,none,none,none] S1=.ok (.bl b) S1:=by
  rw[<-hb];exact ar (ar (ar (av (af rfl (af rfl ah)) (pZ (k:=1) S1)) rfl (qg ⟨by decide,by decide⟩)) rfl (cS (by decide))) rfl (gO _ _)
 rw[aw (bz eb)];show ∃S',fin [] (aI _ _ [sR ns,sI (Nt ns:Int),sI (Nu ns:Int),sO a0.n,some (.bl b),none,none,none,none] S1)=_;obtain⟨S2,l,e2,R⟩:=CM b ns S1;rw[aw (bz (av (af rfl (af rfl ah)) e2))];show ∃S',fin [] (aI _ _ (NJ ns a0.n b l none none none) S2)=_;have A2:Jo G S2 a0 (WW.new (Nt ns) (Nu ns)):=A0.fr R.fr (fun i _ z=>nomatch z);have ll:l∉a0.fp:=fun z=>by have h1:=A0.lt l z;have h2:=R.new;omega
 have hal:=AQ b ns;have hw:Js PT (NJ ns a0.n b l none none none) S2=.ok ⟨(dL b ns).map LA.d,some (l,(dL b ns).map LA.d)⟩ S2:=by
  rw[jW,au];show i8 (.ob l) S2=_;simp only[i8,R.at_]
 obtain⟨r',S3,q,hI⟩:=cK (g:=some (l,(dL b ns).map LA.d)) (tg:=gN 6) (b:=qC G)
  (fun i r S'=>∃a w x6,r=NJ ns a0.n b l x6 none none/\a.n=a0.n/\Jo G S' a w/\Iz i w/\Gd w.con/\(b=true\/NF w.con)/\w.s.msgs=((dL b ns).take i).flatMap LA.msgs/\w.s.most=Nu ns/\S'[l]?=some (.lst ((dL b ns).map LA.d))/\l∉a.fp) ((dL b ns).map LA.d) 0 (NJ ns a0.n b l none none none) S2
  (by
   rintro i y r S' hy ⟨a,w,x6,rfl,hn,A,K,g,nf,PY,Wv,Ww,SX⟩;rw[getElem?_map] at hy;cases hp:(dL b ns)[i]? with
   |none=>rw[hp] at hy;cases hy
   |some t=>
    rw[hp] at hy;cases hy;rw[Nat.zero_add] at K PY ⊢;have Oh:=(List.getElem?_eq_some_iff.mp hp).1;obtain⟨S5,a5,e5,k5⟩:=Fw A K (by omega) t;obtain⟨o1,o2⟩:=k5.out Ww SX;rw[hn] at e5;have cs:CS b w.con (w.act t.act).con:=pW w t.act b (fun hf=>by
     cases Qm:b with
     |true=>rfl
     |false=>
      rw[Qm] at hp;have:=CU ns t (mem_of_getElem? hp);rw[this] at hf;cases hf)
    have nf':b=true\/NF (w.act t.act).con:=by
     cases Qm:b with
     |true=>exact .inl rfl
     |false=>
      rw[Qm] at cs nf;rcases nf with z|z
      ·cases z
      ·exact .inr (yx g z cs)
    refine⟨NJ ns a0.n b l (some t.d) none none,_,S5,rfl,?_,o1,a5,w.act t.act,some t.d,rfl,k5.nn.trans hn,k5.at_,lF K (by omega) t.act t.ok,pa g cs,nf',?_,(Ba w t.act).trans Wv,o1,o2⟩
    ·unfold qC;exact aU (av (af rfl (af rfl ah)) e5)
    ·rw[BS,PY,take_add_one,hp,flatMap_append];show _=_++([t].flatMap LA.msgs);rw[flatMap_cons];simp)
  ⟨a0,WW.new (Nt ns) (Nu ns),none,rfl,rfl,A2,CY (yU ns) (Ec ns) (ui ns) (BU ns),EJ (yU ns),by
   cases b with
   |true=>exact .inl rfl
   |false=>exact .inr (NF.new _ _),rfl,rfl,R.at_,ll⟩
 obtain⟨a,w,x6,rfl,hn,A,K,g,nf,PY,Wv,Ww,SX⟩:=hI;rw[aw (by rw[jC hw];exact q),<-hn];rw[Nat.zero_add,length_map] at K PY;rw[take_of_length_le (Nat.le_refl _)] at PY;obtain⟨N,hN⟩:∃N,(dL b ns).length=N:=⟨_,rfl⟩;rw[hN] at K hal;have Qv:=DK (dL b ns);have Zl:=zB b ns;have ha:=xU (dL b ns) Ww (by omega);rw[<-PY] at ha Qv Zl;obtain⟨M,hM⟩:∃M,w.s.msgs=M:=⟨_,rfl⟩;rw[hM] at ha Qv Zl;rw[aw (bz (av (af rfl ah) ha))];obtain⟨S4,Wx⟩:∃S4,S3++[Cell.lst (M.map B_)]=S4:=⟨_,rfl⟩;have A4:Jo G S4 a w:=by rw[<-Wx];exact A.push _
 have hh:S4[S3.length]?=some (.lst (M.map B_)):=by rw[<-Wx];exact bO
 have ho:S3.length∉a.fp:=fun z=>by have:=A.lt _ z;omega
 rw[Wx];obtain⟨hl,Zm⟩:∃hl,S3.length=hl:=⟨_,rfl⟩;rw[Zm] at hh ho;rw[Zm];show ∃S',fin [] (aI _ _ (NJ ns a.n b l x6 (some (.ob hl)) none) S4)=_;obtain⟨S5,e5,f5⟩:=Dl (ui ns) (by have:=BU ns;omega) Qv (by omega) hh (r:=NJ ns a.n b l x6 (some (.ob hl)) none) rfl rfl;rw[aw (bz e5)];have A5:Jo G S5 a w:=A4.fr f5 (fun i _ z=>nomatch z);have hh5:=f5.get hh (by simp);have hm:=D5 (ui ns) M Qv;obtain⟨m,Sw⟩:∃m,(fl (Nu ns) M).length=m:=⟨_,rfl⟩;rw[Sw] at hm;rw[Sw];show ∃S',fin [] (aI _ _ (NJ ns a.n b l x6 (some (.ob hl)) (some (.int (m:Int)))) S5)=_;have hT:=K.rl true;have hB:=K.rl false;have hTB:N+3 * (w.T.length+w.B.length)+16 * (m+4+1)<=24100:=by
  have h1:w.T.length<=8 * N:=hT;have h2:w.B.length<=8 * N:=hB;omega
 obtain⟨S6,a6,e6,k6⟩:=CA A5 K (c:=m+4) hTB;obtain⟨Wy,ho6⟩:=k6.out hh5 ho;have t1:am (g_ lj (ak (rT G) (aa Hk (aa (g_ bK YS (dI 4)) ai))) (dC .G0)) (NJ ns a.n b l x6 (some (.ob hl)) (some (.int (m:Int)))) S5=.ok false S6:=by
  refine ay (ar (av (af rfl (af (ar rfl rfl (bS _ _)) ah)) e6) rfl rfl)
 rw[aw (by rw[ax t1];rfl),<-k6.nn];obtain⟨c1,c2,c3,c4,c5,c6⟩:=Cb (f:=b) (m:=m) K (by omega) g nf (by rw[Wv,hM,Sw];exact Nat.le_refl _);rw[hM] at c1 c5 c6;have A6:=k6.at_;obtain⟨v,hv⟩:∃v,w.calm (m+4)=v:=⟨_,rfl⟩;rw[hv] at c1 c2 c3 c4 c5 c6 A6;have s1:am (g_ Jp (aX G.World m_ (dF G) Hk ai) (ak bq (aa OJ ai))) (NJ ns a6.n b l x6 (some (.ob hl)) (some (.int (m:Int)))) S6=.ok false S6:=by
  refine ay (ar (aO rfl A6.ob ah (Dg A6)) (av (af rfl ah) (fZ Wy)) ?_);rw[gL,length_map,c1,decide_eq_true rfl];rfl
 have s2:am (g_ Jp (aX G.World m_ (de G) Hk ai) (dT "open")) (NJ ns a6.n b l x6 (some (.ob hl)) (some (.int (m:Int)))) S6=.ok false S6:=by
  refine ay (ar (aO rfl A6.ob ah (Be A6)) rfl ?_);rw[c2];exact wc (c:=false)
 have s3:dl (bW (ak dY (aa OJ (aa (aX G.World m_ (b0 G) Hk ai) ai)))) (NJ ns a6.n b l x6 (some (.ob hl)) (some (.int (m:Int)))) S6=.ok false S6:=by
  have:=CC Wy (by omega) c5;rw[cY,au,cX,au,av (af rfl (af (aO rfl A6.ob ah (wm A6)) ah)) this];rfl
 rw[aw (by rw[ax (xR s1 (xR s2 s3))];rfl)];have o1:=uV A6 true (by show v.T.length<=_;rw[c3];exact zero_le _);have hr1:v.road true=[]:=c3;have Zn:v.road false=[]:=c4;rw[hr1] at o1;have A7:=A6.push [Cell.lst (gc [])];have o2:=uV A7 false (by rw[Zn];exact zero_le _);rw[Zn] at o2;have A8:=A7.push [Cell.lst (gc [])];have s4:am (g_ Jp (aX G.World m_ (bN G) Hk (aa (dT "there") ai)) (bY ai)) (NJ ns a6.n b l x6 (some (.ob hl)) (some (.int (m:Int)))) S6=.ok false (S6++[Cell.lst (gc [])]):=
  ay (ar (aO rfl A6.ob (af rfl ah) o1) (bF ah (by simp)) (yS (zl _)))
 have s5:am (g_ Jp (aX G.World m_ (bN G) Hk (aa (dT "back") ai)) (bY ai)) (NJ ns a6.n b l x6 (some (.ob hl)) (some (.int (m:Int)))) (S6++[Cell.lst (gc [])])=.ok false ((S6++[Cell.lst (gc [])])++[Cell.lst (gc [])]):=
  ay (ar (aO rfl A7.ob (af rfl ah) o2) (bF ah (by simp)) (yS (zl _)))
 rw[aw (by rw[ax (xR s4 s5)];rfl)];have Wz:((S6++[Cell.lst (gc [])])++[Cell.lst (gc [])])[hl]?=some (.lst (M.map B_)):=aB (aB Wy);obtain⟨S8,Zo⟩:∃S8,(S6++[Cell.lst (gc [])])++[Cell.lst (gc [])]=S8:=⟨_,rfl⟩;rw[Zo] at A8 Wz;rw[Zo];cases b with
 |true=>exact⟨S8,congrArg (fin []) (aN rfl)⟩
 |false=>
  rcases c6 with z|c6
  ·cases z
  have w1:Js OJ (NJ ns a6.n false l x6 (some (.ob hl)) (some (.int (m:Int)))) S8=.ok ⟨M.map B_,some (hl,M.map B_)⟩ S8:=by
   rw[jW,au];show i8 (.ob hl) S8=_;simp only[i8,Wz]
  have q1:=fY (f:=Js OJ) (tg:=gN 0) (ti:=gQ) (fe:=bY (aa (dI 1) (aa h_ ai))) (own:=1) (caps:=[])
   (fun _=>true) (fun x=>.tup [.int 1,x]) w1 Wz (by rw[length_map];omega) (by
    intro x hx;exact⟨[some x],rfl,fun _=>rfl,fun _ zs=>bF (af rfl (af rfl ah)) (by simp)⟩)
  have hq:((M.map B_).filter fun _=>true).map (fun x=>D.tup [.int 1,x])=v.h.given.map K_:=by
   rw[List.filter_eq_self.mpr (by simp),c6,map_map,map_map];rfl
  rw[hq] at q1;have WA:g_ G_ (aX G.World m_ (b0 G) Hk ai) (ak fm (aa (eC (Js OJ) (gN 0) gQ (bY (aa (dI 1) (aa h_ ai))) 1 []) ai)) (NJ ns a6.n false l x6 (some (.ob hl)) (some (.int (m:Int)))) S8=.ok (.bl true) (S8++[.lst (v.h.given.map K_)]):=
   ar (aO rfl A8.ob ah (wm A8)) (av (af q1 ah) (d7 bO)) (DG (EB _ _))
  refine⟨_,congrArg (fin []) (aN (d:=.bl true) (S1:=S8++[.lst (v.h.given.map K_)]) ?_)⟩;rw[Eu,au];exact WA
end
def nI(K:PySem.W.Frag)(x:Str)(f:Addr):Prop:=nsIn K mainGlobals x=some (some (.ref f))
def fI(K:PySem.W.Frag)(g:Addr)(x:Str)(f:Addr):Prop:=findIn K (.ref g) x=some (some (.ref f))
def iF(K:PySem.W.Frag)(f:Addr):Prop:=isFn K (.ref f)=true
def nN(K:PySem.W.Frag)(x:Str):Prop:=nsIn K mainGlobals x=some none
def fN(K:PySem.W.Frag)(g:Addr)(x:Str):Prop:=findIn K (.ref g) x=some none
def oF(K:PySem.W.Frag)(f:Addr)(x q:Str)(st:Stmt):Prop:=∃fd,HP K x q st f fd
def oF_mk{K:PySem.W.Frag}{x qual:Str}{st:Stmt}{f:Addr}{oc:Value}{od an:Option Addr}{OZ:Array (Option Value)}{kV doc pm Hb ct:Value}(l:K.lookup f=some ⟨oc,od,.func (fnOf x qual (Il st) (HR st) (j_ st) .none kV doc pm an Hb ct),OZ⟩)(c:codeIn K Hb qual=true)(k:keepIn K (.ref f)=true):oF K f x qual st:=⟨_,Ej l c k⟩
def cF{P:Program}{w:World}{K:PySem.W.Frag}{mg:Str->Option Value}{base h:Heap}(X:K.In h)(G:h.Ns mainGlobals mg){x x' q:Str}{st:Stmt}{f:Addr}{fd:FuncData}{k:Nat}{ps:List Str}{F:List D->M D}(a:nI K x f)(hF:HP K x' q st f fd)(b:Binds K fd ps [])(o:HW P w K mg base (A_ P w) k f fd ps F):Jn P w K mg base (A_ P w) x k ps F:=⟨⟨f,_,mg_of X G a,hF.kp,b,o⟩⟩
def cM{P:Program}{w:World}{K:PySem.W.Frag}{mg:Str->Option Value}{base:Heap}{g:Addr}{x x' q:Str}{st:Stmt}{f:Addr}{fd:FuncData}{k:Nat}{ps:List Str}{F:List D->M D}(a:fI K g x f)(i:iF K f)(hF:HP K x' q st f fd)(b:Binds K fd ps [])(o:HW P w K mg base (A_ P w) k f fd ps F):Hx P w K mg base (A_ P w) g x k ps F:=⟨⟨f,_,⟨a,i,hF.kp⟩,b,o⟩⟩
def Lu{K:PySem.W.Frag}{x q:Str}{st:Stmt}{f:Addr}{fd:FuncData}{ps:List Str}(F:HP K x q st f fd)(h:∀(kV doc pm:Value) (an:Option Addr) (Hb ct u0:Value),bindArgs (fnOf x q (Il st) (HR st) (j_ st) .none kV doc pm an Hb ct) ⟨[u0],[]⟩=pure (ps.zip [u0]))(hp:ps.length=1:=by rfl):Binds K fd ps []:=F.binds fun a b c d e g us hl=>match us,hl.trans hp with|[u0],_=>h a b c d e g u0
def KY{K:PySem.W.Frag}{x q:Str}{st:Stmt}{f:Addr}{fd:FuncData}{ps:List Str}(F:HP K x q st f fd)(h:∀(kV doc pm:Value) (an:Option Addr) (Hb ct u0 u1:Value),bindArgs (fnOf x q (Il st) (HR st) (j_ st) .none kV doc pm an Hb ct) ⟨[u0,u1],[]⟩=pure (ps.zip [u0,u1]))(hp:ps.length=2:=by rfl):Binds K fd ps []:=F.binds fun a b c d e g us hl=>match us,hl.trans hp with|[u0,u1],_=>h a b c d e g u0 u1
def OV{K:PySem.W.Frag}{x q:Str}{st:Stmt}{f:Addr}{fd:FuncData}{ps:List Str}(F:HP K x q st f fd)(h:∀(kV doc pm:Value) (an:Option Addr) (Hb ct u0 u1 u2:Value),bindArgs (fnOf x q (Il st) (HR st) (j_ st) .none kV doc pm an Hb ct) ⟨[u0,u1,u2],[]⟩=pure (ps.zip [u0,u1,u2]))(hp:ps.length=3:=by rfl):Binds K fd ps []:=F.binds fun a b c d e g us hl=>match us,hl.trans hp with|[u0,u1,u2],_=>h a b c d e g u0 u1 u2
def bn4{K:PySem.W.Frag}{x q:Str}{st:Stmt}{f:Addr}{fd:FuncData}{ps:List Str}(F:HP K x q st f fd)(h:∀(kV doc pm:Value) (an:Option Addr) (Hb ct u0 u1 u2 u3:Value),bindArgs (fnOf x q (Il st) (HR st) (j_ st) .none kV doc pm an Hb ct) ⟨[u0,u1,u2,u3],[]⟩=pure (ps.zip [u0,u1,u2,u3]))(hp:ps.length=4:=by rfl):Binds K fd ps []:=F.binds fun a b c d e g us hl=>match us,hl.trans hp with|[u0,u1,u2,u3],_=>h a b c d e g u0 u1 u2 u3
def bn5{K:PySem.W.Frag}{x q:Str}{st:Stmt}{f:Addr}{fd:FuncData}{ps:List Str}(F:HP K x q st f fd)(h:∀(kV doc pm:Value) (an:Option Addr) (Hb ct u0 u1 u2 u3 u4:Value),bindArgs (fnOf x q (Il st) (HR st) (j_ st) .none kV doc pm an Hb ct) ⟨[u0,u1,u2,u3,u4],[]⟩=pure (ps.zip [u0,u1,u2,u3,u4]))(hp:ps.length=5:=by rfl):Binds K fd ps []:=F.binds fun a b c d e g us hl=>match us,hl.trans hp with|[u0,u1,u2,u3,u4],_=>h a b c d e g u0 u1 u2 u3 u4
def bn6{K:PySem.W.Frag}{x q:Str}{st:Stmt}{f:Addr}{fd:FuncData}{ps:List Str}(F:HP K x q st f fd)(h:∀(kV doc pm:Value) (an:Option Addr) (Hb ct u0 u1 u2 u3 u4 u5:Value),bindArgs (fnOf x q (Il st) (HR st) (j_ st) .none kV doc pm an Hb ct) ⟨[u0,u1,u2,u3,u4,u5],[]⟩=pure (ps.zip [u0,u1,u2,u3,u4,u5]))(hp:ps.length=6:=by rfl):Binds K fd ps []:=F.binds fun a b c d e g us hl=>match us,hl.trans hp with|[u0,u1,u2,u3,u4,u5],_=>h a b c d e g u0 u1 u2 u3 u4 u5
def all_mk{l:PySem.W.OpenLaw}{w:World}{K:PySem.W.Frag}{h:Heap}{mg:Str->Option Value}{fa:Addr}{G2:Addr}{D_:Addr}{Ha:Addr}{Kg:Addr}{IS:Addr}{f0 f1 f2 f3 f4 f5 f6 f7 f8 f9 TH WB Zp Zq Zr Zs Zt Zu Zv Zw WC Zx WD WE WG WH WI Zy Zz WJ WK ZA ZC WL ZD WM WN WO WQ WR WS WT WU WV WX WY WZ W0 W2 W3 ZE W4 W5 W6 W7 W8 W9 ZF W_ ZG ZH Xa Xb ZI Xc ZJ ZK:Addr}{Ow:Addr}{MV:Array Value}{Qw:Nat}{Qx:Array (Option Value)}{Kr:Addr}{Jw:Array Value}{Mi:Nat}{Mj:Array (Option Value)}{Ml:Tok}{MW:Tok}{N6:Tok}{Kc:Tok}{Ny:Tok}{MX:Tok}{Mm:Tok}(X:K.In h)(G:h.Ns mainGlobals mg)(hfa:mg "law"=some (.ref fa))
  (Pw:nI K "Hearer" G2)
  (Px:nI K "Sender" D_)
  (Qy:nI K "World" Ha)
  (Py:nI K "NoCard" Kg)
  (ON:nI K "NoStrip" IS)
  (a0:nI K "_law_mix" f0)
  (l0:oF K f0 "_law_mix" "_law_mix" mV)
  (a1:nI K "_law_cell" f1)
  (l1:oF K f1 "_law_cell" "_law_cell" lg)
  (a2:nI K "_law_setting" f2)
  (l2:oF K f2 "_law_setting" "_law_setting" iO)
  (a3:fI K D_ "__init__" f3)
  (i3:iF K f3)
  (l3:oF K f3 "__init__" "Sender.__init__" fH)
  (a4:fI K G2 "__init__" f4)
  (i4:iF K f4)
  (l4:oF K f4 "__init__" "Hearer.__init__" fO)
  (a5:fI K Ha "__init__" f5)
  (i5:iF K f5)
  (l5:oF K f5 "__init__" "World.__init__" gi)
  (a6:nI K "_law_acts" f6)
  (l6:oF K f6 "_law_acts" "_law_acts" lb)
  (a7:nI K "_law_message" f7)
  (l7:oF K f7 "_law_message" "_law_message" iS)
  (a8:nI K "_law_handed" f8)
  (l8:oF K f8 "_law_handed" "_law_handed" jA)
  (a9:nI K "pieces_of" f9)
  (l9:oF K f9 "pieces_of" "pieces_of" lA)
  (a10:fI K D_ "hand" TH)
  (i10:iF K TH)
  (l10:oF K TH "hand" "Sender.hand" jy)
  (a11:fI K Ha "hand" WB)
  (i11:iF K WB)
  (l11:oF K WB "hand" "World.hand" kG)
  (a12:nI K "with_checks" Zp)
  (l12:oF K Zp "with_checks" "with_checks" jB)
  (a13:nI K "is_whole" Zq)
  (l13:oF K Zq "is_whole" "is_whole" mR)
  (a14:nI K "is_row" Zr)
  (l14:oF K Zr "is_row" "is_row" qi)
  (a15:nI K "is_piece" Zs)
  (l15:oF K Zs "is_piece" "is_piece" mU)
  (a16:nI K "are_bits" Zt)
  (l16:oF K Zt "are_bits" "are_bits" mL)
  (a17:nI K "is_card" Zu)
  (l17:oF K Zu "is_card" "is_card" oz)
  (a18:nI K "cells_of" Zv)
  (l18:oF K Zv "cells_of" "cells_of" mv)
  (a19:nI K "written" Zw)
  (l19:oF K Zw "written" "written" oP)
  (a20:fI K Ha "put_behind" WC)
  (i20:iF K WC)
  (l20:oF K WC "put_behind" "World.put_behind" ff)
  (a21:nI K "number_of" Zx)
  (l21:oF K Zx "number_of" "number_of" kY)
  (a22:fI K D_ "data_of" WD)
  (i22:iF K WD)
  (l22:oF K WD "data_of" "Sender.data_of" gq)
  (a23:fI K D_ "wanted" WE)
  (i23:iF K WE)
  (l23:oF K WE "wanted" "Sender.wanted" hV)
  (a24:fI K D_ "tick" WG)
  (i24:iF K WG)
  (l24:oF K WG "tick" "Sender.tick" jM)
  (a25:fI K Ha "tick" WH)
  (i25:iF K WH)
  (l25:oF K WH "tick" "World.tick" ka)
  (a26:fI K Ha "has_strip" WI)
  (i26:iF K WI)
  (l26:oF K WI "has_strip" "World.has_strip" fC)
  (a27:nI K "card_from" Zy)
  (l27:oF K Zy "card_from" "card_from" lz)
  (a28:nI K "read" Zz)
  (l28:oF K Zz "read" "read" xo)
  (a29:fI K G2 "begin" WJ)
  (i29:iF K WJ)
  (l29:oF K WJ "begin" "Hearer.begin" iH)
  (a30:fI K G2 "hears_hello" WK)
  (i30:iF K WK)
  (l30:oF K WK "hears_hello" "Hearer.hears_hello" dZ)
  (a31:nI K "goes_round" ZA)
  (l31:oF K ZA "goes_round" "goes_round" kE)
  (a32:nI K "index_near" ZC)
  (l32:oF K ZC "index_near" "index_near" kB)
  (a33:fI K G2 "keep" WL)
  (i33:iF K WL)
  (l33:oF K WL "keep" "Hearer.keep" jG)
  (a34:nI K "letters_of" ZD)
  (l34:oF K ZD "letters_of" "letters_of" kf)
  (a35:fI K G2 "take" WM)
  (i35:iF K WM)
  (l35:oF K WM "take" "Hearer.take" jL)
  (a36:fI K G2 "take_all" WN)
  (i36:iF K WN)
  (l36:oF K WN "take_all" "Hearer.take_all" fD)
  (a37:fI K G2 "note" WO)
  (i37:iF K WO)
  (l37:oF K WO "note" "Hearer.note" jK)
  (a38:fI K G2 "hears_data" WQ)
  (i38:iF K WQ)
  (l38:oF K WQ "hears_data" "Hearer.hears_data" eK)
  (a39:fI K G2 "hears" WR)
  (i39:iF K WR)
  (l39:oF K WR "hears" "Hearer.hears" iU)
  (a40:fI K D_ "open_anew" WS)
  (i40:iF K WS)
  (l40:oF K WS "open_anew" "Sender.open_anew" eY)
  (a41:fI K D_ "move_base" WT)
  (i41:iF K WT)
  (l41:oF K WT "move_base" "Sender.move_base" eX)
  (a42:fI K D_ "note_pieces" WU)
  (i42:iF K WU)
  (l42:oF K WU "note_pieces" "Sender.note_pieces" d5)
  (a43:fI K D_ "hears_note" WV)
  (i43:iF K WV)
  (l43:oF K WV "hears_note" "Sender.hears_note" eL)
  (a44:fI K D_ "hears_own" WX)
  (i44:iF K WX)
  (l44:oF K WX "hears_own" "Sender.hears_own" eW)
  (a45:fI K D_ "hears" WY)
  (i45:iF K WY)
  (l45:oF K WY "hears" "Sender.hears" iM)
  (a46:fI K Ha "arrive" WZ)
  (i46:iF K WZ)
  (l46:oF K WZ "arrive" "World.arrive" i9)
  (a47:fI K Ha "step" W0)
  (i47:iF K W0)
  (l47:oF K W0 "step" "World.step" kJ)
  (a48:fI K Ha "lose" W2)
  (i48:iF K W2)
  (l48:oF K W2 "lose" "World.lose" kI)
  (a49:fI K Ha "double" W3)
  (i49:iF K W3)
  (l49:oF K W3 "double" "World.double" je)
  (a50:nI K "changed" ZE)
  (l50:oF K ZE "changed" "changed" oE)
  (a51:fI K Ha "spoil" W4)
  (i51:iF K W4)
  (l51:oF K W4 "spoil" "World.spoil" jF)
  (a52:fI K D_ "fall" W5)
  (i52:iF K W5)
  (l52:oF K W5 "fall" "Sender.fall" jD)
  (a53:fI K G2 "fall" W6)
  (i53:iF K W6)
  (l53:oF K W6 "fall" "Hearer.fall" jx)
  (a54:fI K Ha "fall" W7)
  (i54:iF K W7)
  (l54:oF K W7 "fall" "World.fall" kh)
  (a55:fI K D_ "start" W8)
  (i55:iF K W8)
  (l55:oF K W8 "start" "Sender.start" iI)
  (a56:fI K Ha "start" W9)
  (i56:iF K W9)
  (l56:oF K W9 "start" "World.start" jN)
  (a57:nI K "_law_do" ZF)
  (l57:oF K ZF "_law_do" "_law_do" oN)
  (a58:fI K Ha "on_road" W_)
  (i58:iF K W_)
  (l58:oF K W_ "on_road" "World.on_road" ia)
  (a59:nI K "walk_off" ZG)
  (l59:oF K ZG "walk_off" "walk_off" mJ)
  (a60:nI K "calm" ZH)
  (l60:oF K ZH "calm" "calm" xf)
  (a61:fI K Ha "sure_of" Xa)
  (i61:iF K Xa)
  (l61:oF K Xa "sure_of" "World.sure_of" gZ)
  (a62:fI K Ha "state_of" Xb)
  (i62:iF K Xb)
  (l62:oF K Xb "state_of" "World.state_of" gl)
  (a63:nI K "_law_all_out" ZI)
  (l63:oF K ZI "_law_all_out" "_law_all_out" iJ)
  (a64:fI K Ha "given_out" Xc)
  (i64:iF K Xc)
  (l64:oF K Xc "given_out" "World.given_out" fK)
  (a65:nI K "_law_pieces" ZJ)
  (l65:oF K ZJ "_law_pieces" "_law_pieces" jz)
  (a66:nI K "law" ZK)
  (l66:oF K ZK "law" "law" tL)
  (Pz:plainGet K G2 Str.empty=true)
  (PA:hasDictIn K G2=true)
  (PB:plainOver K G2=true)
  (PC:findIn K (.ref G2) "__setattr__"=some (some (.builtin "object.__setattr__")))
  (PD:makesIn K G2=true)
  (PF:keepIn K (.ref G2)=true)
  (LV:fN K G2 "window")
  (Mn:fN K G2 "given")
  (Lq:fN K G2 "opening")
  (KC:fN K G2 "next_index")
  (Mo:fN K G2 "early")
  (Mp:fN K G2 "begun")
  (PH:plainGet K D_ Str.empty=true)
  (PI:hasDictIn K D_=true)
  (PJ:plainOver K D_=true)
  (PK:findIn K (.ref D_) "__setattr__"=some (some (.builtin "object.__setattr__")))
  (PL:makesIn K D_=true)
  (PM:keepIn K (.ref D_)=true)
  (LW:fN K D_ "window")
  (MY:fN K D_ "most")
  (Lb:fN K D_ "messages")
  (MZ:fN K D_ "sure")
  (Lr:fN K D_ "opening")
  (Mq:fN K D_ "state")
  (LX:fN K D_ "pieces")
  (M0:fN K D_ "base")
  (Mr:fN K D_ "noted")
  (Qz:plainGet K Ha Str.empty=true)
  (QA:hasDictIn K Ha=true)
  (QB:plainOver K Ha=true)
  (QC:findIn K (.ref Ha) "__setattr__"=some (some (.builtin "object.__setattr__")))
  (QD:makesIn K Ha=true)
  (QE:keepIn K (.ref Ha)=true)
  (Ms:fN K Ha "sender")
  (Mu:fN K Ha "hearer")
  (M3:fN K Ha "roads")
  (OO:excIn K Kg [.type "ValueError",.type "Exception",.type "BaseException",.type "object"] "ValueError.__new__"=true)
  (N7:excIn K IS [.type "ValueError",.type "Exception",.type "BaseException",.type "object"] "ValueError.__new__"=true)
  (Ir:subIn K (.ref IS) (.ref IS)=some true)
  (Ua:nN K "all")
  (RY:nN K "bool")
  (Nz:nN K "enumerate")
  (Ub:nN K "int")
  (M4:nN K "isinstance")
  (Uc:nN K "len")
  (RZ:nN K "list")
  (Ud:nN K "max")
  (Ue:nN K "min")
  (QF:nN K "range")
  (Ug:nN K "sum")
  (QG:nN K "tuple")
  (QH:nI K "KINDS" Ow)
  (QI:K.lookup Ow=some ⟨.type "tuple",none,.seq MV Qw,Qx⟩)
  (QJ:(zip JA MV.toList).all (fun p=>match p.2 with|.str x _=>x == p.1|_=>false)=true)
  (QK:JA.length=MV.toList.length)
  (Mv:nI K "SHORT_KINDS" Kr)
  (Mw:K.lookup Kr=some ⟨.type "tuple",none,.seq Jw Mi,Mj⟩)
  (Mx:(zip IC Jw.toList).all (fun p=>match p.2 with|.str x _=>x == p.1|_=>false)=true)
  (My:IC.length=Jw.toList.length)
  (Mz:nsIn K mainGlobals "TOP_OPENING"=some (some (.int 65535 Ml)))
  (M5:nsIn K mainGlobals "TOP_NUMBER"=some (some (.int 13 MW)))
  (N8:nsIn K mainGlobals "TOP_CELL"=some (some (.int 255 N6)))
  (Kd:nsIn K mainGlobals "MOST_PIECE_LETTERS"=some (some (.int 8 Kc)))
  (NA:nsIn K mainGlobals "MOST_BITS"=some (some (.int 7 Ny)))
  (M6:nsIn K mainGlobals "HEAD_CELLS"=some (some (.int 3 MX)))
  (MA:nsIn K mainGlobals "CHECK_CELLS"=some (some (.int 2 Mm)))
  : ∃fd:FuncData,(∀(s:Shared) (v:Value),BindsTo s fd ⟨[v],[]⟩ [("_law_script",v)])/\∀base:Heap,K.In base->base.Ns mainGlobals mg->L3 l.prog w K mg base (A_ l.prog w) 11 fa fd ["_law_script"] (yJ K):=by
 have e:=hfa.symm.trans (mg_of X G a66);cases e;have T:Txt K mg (⟨G2,D_,Ha,Kg,IS⟩:Cs):=⟨mg_none_of X G Ua,mg_none_of X G RY,mg_none_of X G Nz,mg_none_of X G Ub,mg_none_of X G M4,mg_none_of X G Uc,mg_none_of X G RZ,mg_none_of X G Ud,mg_none_of X G Ue,mg_none_of X G QF,mg_none_of X G Ug,mg_none_of X G QG,⟨Pz,PA,PB,PC⟩,LV,Mn,Lq,KC,Mo,Mp,⟨PH,PI,PJ,PK⟩,LW,MY,Lb,MZ,Lr,Mq,LX,M0,Mr,⟨Qz,QA,QB,QC⟩,Ms,Mu,M3,⟨mg_of X G Py,OO⟩,⟨mg_of X G ON,N7⟩,Ir,v6 (mg_of X G QH) QI QJ QK (by decide),v6 (mg_of X G Mv) Mw Mx My (by decide),⟨_,mg_of X G Mz,jm⟩,⟨_,mg_of X G M5,jm⟩,⟨_,mg_of X G N8,jm⟩,⟨_,mg_of X G Kd,jm⟩,⟨_,mg_of X G NA,jm⟩,⟨_,mg_of X G M6,jm⟩,⟨_,mg_of X G MA,jm⟩⟩;obtain⟨_,F0⟩:=l0;obtain⟨_,F1⟩:=l1;obtain⟨_,F2⟩:=l2;obtain⟨_,F3⟩:=l3;obtain⟨_,F4⟩:=l4;obtain⟨_,F5⟩:=l5;obtain⟨_,F6⟩:=l6;obtain⟨_,F7⟩:=l7;obtain⟨_,F8⟩:=l8;obtain⟨_,F9⟩:=l9;obtain⟨_,Xd⟩:=l10;obtain⟨_,Xe⟩:=l11;obtain⟨_,Xf⟩:=l12;obtain⟨_,Xg⟩:=l13;obtain⟨_,Xh⟩:=l14;obtain⟨_,Xi⟩:=l15;obtain⟨_,Xj⟩:=l16;obtain⟨_,Xk⟩:=l17;obtain⟨_,Xl⟩:=l18;obtain⟨_,Xm⟩:=l19;obtain⟨_,Xn⟩:=l20;obtain⟨_,Xo⟩:=l21;obtain⟨_,Xp⟩:=l22;obtain⟨_,Xq⟩:=l23;obtain⟨_,Xr⟩:=l24;obtain⟨_,Xs⟩:=l25;obtain⟨_,Xt⟩:=l26;obtain⟨_,Xu⟩:=l27;obtain⟨_,Xv⟩:=l28;obtain⟨_,Xw⟩:=l29;obtain⟨_,Xx⟩:=l30;obtain⟨_,Xy⟩:=l31;obtain⟨_,Xz⟩:=l32;obtain⟨_,XA⟩:=l33;obtain⟨_,XB⟩:=l34;obtain⟨_,XC⟩:=l35;obtain⟨_,XD⟩:=l36;obtain⟨_,XE⟩:=l37;obtain⟨_,XG⟩:=l38;obtain⟨_,XH⟩:=l39;obtain⟨_,XJ⟩:=l40;obtain⟨_,XM⟩:=l41;obtain⟨_,XN⟩:=l42;obtain⟨_,XQ⟩:=l43;obtain⟨_,XR⟩:=l44;obtain⟨_,XS⟩:=l45;obtain⟨_,XT⟩:=l46;obtain⟨_,XU⟩:=l47;obtain⟨_,XW⟩:=l48;obtain⟨_,XX⟩:=l49;obtain⟨_,XY⟩:=l50;obtain⟨_,XZ⟩:=l51;obtain⟨_,X0⟩:=l52;obtain⟨_,X1⟩:=l53;obtain⟨_,X2⟩:=l54;obtain⟨_,X3⟩:=l55;obtain⟨_,X4⟩:=l56;obtain⟨_,X5⟩:=l57;obtain⟨_,X6⟩:=l58;obtain⟨_,X7⟩:=l59;obtain⟨_,X8⟩:=l60;obtain⟨_,X9⟩:=l61;obtain⟨_,X_⟩:=l62;obtain⟨_,Ya⟩:=l63;obtain⟨_,Yb⟩:=l64;obtain⟨_,Yc⟩:=l65;obtain⟨_,ZL⟩:=l66;obtain⟨oc,od,kV,doc,pm,an,Hb,ct,OZ,rfl,lk,N_⟩:=ZL.ex;refine⟨fnOf "law" "law" (Il tL) (HR tL) (j_ tL) .none kV doc pm an Hb ct,fun s v=>.of_eq rfl,fun base _ _=>?_⟩;have q:=@cF l.prog w K mg base h X G;have r:=@cM l.prog w K mg base;have C0:=q a0 F0 (OV F0 fun _ _ _ _ _ _ _ _ _=>rfl) (wT T  F0);have C1:=q a1 F1 (KY F1 fun _ _ _ _ _ _ _ _=>rfl) (uJ T  F1);have C2:=q a2 F2 (Lu F2 fun _ _ _ _ _ _ _=>rfl) (pA T C1 C0 F2);have C3:NV l.prog w K mg base (A_ l.prog w) "Sender" D_ 1 ["self","window","most"] (b9 (⟨G2,D_,Ha,Kg,IS⟩:Cs)):=⟨⟨f3,_,mg_of X G Px,⟨PL,a3,i3,PM⟩,(OV F3 fun _ _ _ _ _ _ _ _ _=>rfl),mO T  F3⟩⟩;have C4:NV l.prog w K mg base (A_ l.prog w) "Hearer" G2 1 ["self","window"] (bQ (⟨G2,D_,Ha,Kg,IS⟩:Cs)):=⟨⟨f4,_,mg_of X G Pw,⟨PD,a4,i4,PF⟩,(KY F4 fun _ _ _ _ _ _ _ _=>rfl),mz T  F4⟩⟩;have C5:NV l.prog w K mg base (A_ l.prog w) "World" Ha 3 ["self","window","most"] (cH (⟨G2,D_,Ha,Kg,IS⟩:Cs)):=⟨⟨f5,_,mg_of X G Qy,⟨QD,a5,i5,QE⟩,(OV F5 fun _ _ _ _ _ _ _ _ _=>rfl),nw T C3 C4 F5⟩⟩;have C6:=q a6 F6 (KY F6 fun _ _ _ _ _ _ _ _=>rfl) (vi T C1 C0 F6);have C7:=q a7 F7 (KY F7 fun _ _ _ _ _ _ _ _=>rfl) (pz T C0 F7);have C8:=q a8 F8 (Lu F8 fun _ _ _ _ _ _ _=>rfl) (qz T C7 F8)
 have C9:=q a9 F9 (KY F9 fun _ _ _ _ _ _ _ _=>rfl) (uR T  F9);have C10:=r a10 i10 Xd (KY Xd fun _ _ _ _ _ _ _ _=>rfl) (sd T C9 Xd);have C11:=r a11 i11 Xe (KY Xe fun _ _ _ _ _ _ _ _=>rfl) (sK T C10 Xe);have ZM:=q a12 Xf (Lu Xf fun _ _ _ _ _ _ _=>rfl) (rV T  Xf);have Yd:=q a13 Xg (KY Xg fun _ _ _ _ _ _ _ _=>rfl) (wS T  Xg);have Ye:=q a14 Xh (KY Xh fun _ _ _ _ _ _ _ _=>rfl) (zP T Yd Xh);have C15:=q a15 Xi (Lu Xi fun _ _ _ _ _ _ _=>rfl) (wD T Yd Ye Xi);have C16:=q a16 Xj (Lu Xj fun _ _ _ _ _ _ _=>rfl) (wK T Ye Xj);have ZN:=q a17 Xk (Lu Xk fun _ _ _ _ _ _ _=>rfl) (xW T Yd C15 C16 Xk);have C18:=q a18 Xl (Lu Xl fun _ _ _ _ _ _ _=>rfl) (wM T  Xl);have C19:=q a19 Xm (Lu Xm fun _ _ _ _ _ _ _=>rfl) (xG T ZN C18 ZM Xm);have ZO:=r a20 i20 Xn (OV Xn fun _ _ _ _ _ _ _ _ _=>rfl) (lW T C19 Xn);have ZP:=q a21 Xo (KY Xo fun _ _ _ _ _ _ _ _=>rfl) (uH T  Xo);have C22:=r a22 i22 Xp (KY Xp fun _ _ _ _ _ _ _ _=>rfl) (nr T ZP Xp);have C23:=r a23 i23 Xq (Lu Xq fun _ _ _ _ _ _ _=>rfl) (oX T  Xq);have C24:=r a24 i24 Xr (Lu Xr fun _ _ _ _ _ _ _=>rfl) (rF T C23 C22 Xr);have ZQ:=r a25 i25 Xs (Lu Xs fun _ _ _ _ _ _ _=>rfl) (sD T C24 ZO Xs);have UU:=r a26 i26 Xt (OV Xt fun _ _ _ _ _ _ _ _ _=>rfl) (mr T  Xt);have C27:=q a27 Xu (Lu Xu fun _ _ _ _ _ _ _=>rfl) (uZ T  Xu);have C28:=q a28 Xv (Lu Xv fun _ _ _ _ _ _ _=>rfl) (CT T Ye ZM C27 ZN Xv);have ZR:=r a29 i29 Xw (KY Xw fun _ _ _ _ _ _ _ _=>rfl) (pG T  Xw);have C30:=r a30 i30 Xx (KY Xx fun _ _ _ _ _ _ _ _=>rfl) (kT T ZR Xx);have ZS:=q a31 Xy (KY Xy fun _ _ _ _ _ _ _ _=>rfl) (sN T  Xy);have ZT:=q a32 Xz (OV Xz fun _ _ _ _ _ _ _ _ _=>rfl) (sB T  Xz);have C33:=r a33 i33 XA (OV XA fun _ _ _ _ _ _ _ _ _=>rfl) (rq T ZS ZT XA);have C34:=q a34 XB (Lu XB fun _ _ _ _ _ _ _=>rfl) (sG T  XB);have C35:=r a35 i35 XC (KY XC fun _ _ _ _ _ _ _ _=>rfl) (qL T C34 XC);have C36:=r a36 i36 XD (Lu XD fun _ _ _ _ _ _ _=>rfl) (mB T C35 XD);have C37:=r a37 i37 XE (Lu XE fun _ _ _ _ _ _ _=>rfl) (rN T ZP XE);have C38:=r a38 i38 XG (bn4 XG fun _ _ _ _ _ _ _ _ _ _=>rfl) (lc T C33 C36 C37 XG);have C39:=r a39 i39 XH (KY XH fun _ _ _ _ _ _ _ _=>rfl) (pM T C30 C38 XH);have ZU:=r a40 i40 XJ (Lu XJ fun _ _ _ _ _ _ _=>rfl) (lY T C9 XJ);have C41:=r a41 i41 XM (KY XM fun _ _ _ _ _ _ _ _=>rfl) (lZ T  XM);have C42:=r a42 i42 XN (KY XN fun _ _ _ _ _ _ _ _=>rfl) (kS T  XN);have C43:=r a43 i43 XQ (OV XQ fun _ _ _ _ _ _ _ _ _=>rfl) (kU T ZS ZT C41 C42 XQ);have C44:=r a44 i44 XR (KY XR fun _ _ _ _ _ _ _ _=>rfl) (ma T ZU C43 XR);have C45:=r a45 i45 XS (KY XS fun _ _ _ _ _ _ _ _=>rfl) (pE T C44 XS);have C46:=r a46 i46 XT (OV XT fun _ _ _ _ _ _ _ _ _=>rfl) (pK T C28 C39 ZO C45 XT);have ZV:=r a47 i47 XU (KY XU fun _ _ _ _ _ _ _ _=>rfl) (sg T UU C46 XU);have C48:=r a48 i48 XW (OV XW fun _ _ _ _ _ _ _ _ _=>rfl) (sy T UU XW);have C49:=r a49 i49 XX (OV XX fun _ _ _ _ _ _ _ _ _=>rfl) (pO T UU XX);have C50:=q a50 XY (OV XY fun _ _ _ _ _ _ _ _ _=>rfl) (yc T  XY);have C51:=r a51 i51 XZ (bn5 XZ fun _ _ _ _ _ _ _ _ _ _ _=>rfl) (rm T UU C50 XZ);have C52:=r a52 i52 X0 (Lu X0 fun _ _ _ _ _ _ _=>rfl) (rH T  X0);have C53:=r a53 i53 X1 (Lu X1 fun _ _ _ _ _ _ _=>rfl) (qd T ZR X1);have C54:=r a54 i54 X2 (KY X2 fun _ _ _ _ _ _ _ _=>rfl) (sH T C52 C53 X2);have C55:=r a55 i55 X3 (Lu X3 fun _ _ _ _ _ _ _=>rfl) (pH T ZU X3);have ZW:=r a56 i56 X4 (Lu X4 fun _ _ _ _ _ _ _=>rfl) (rK T C55 X4);have C57:=q a57 X5 (KY X5 fun _ _ _ _ _ _ _ _=>rfl) (xY T C7 C11 ZQ ZV C48 C49 C0 C51 C54 ZW X5);have ZX:=r a58 i58 X6 (KY X6 fun _ _ _ _ _ _ _ _=>rfl) (oR T  X6);have C59:=q a59 X7 (KY X7 fun _ _ _ _ _ _ _ _=>rfl) (wE T ZX ZV X7);have C60:=q a60 X8 (KY X8 fun _ _ _ _ _ _ _ _=>rfl) (Ct T ZW ZQ C59 X8);have C61:=r a61 i61 X9 (Lu X9 fun _ _ _ _ _ _ _=>rfl) (oC T  X9);have C62:=r a62 i62 X_ (Lu X_ fun _ _ _ _ _ _ _=>rfl) (nD T  X_);have C63:=q a63 Ya (KY Ya fun _ _ _ _ _ _ _ _=>rfl) (pP T  Ya)
 have C64:=r a64 i64 Yb (Lu Yb fun _ _ _ _ _ _ _=>rfl) (mn T  Yb);have C65:=q a65 Yc (KY Yc fun _ _ _ _ _ _ _ _=>rfl) (rJ T  Yc);exact L3.imp (EN T C2 C5 C1 C6 C57 C8 C65 C60 C61 C62 C64 C63 ZX ZL) (AE (Cd _))
def walk{l:PySem.W.OpenLaw}{q:Program}{loose:List Str}{XP:(Str->Option Value)->Heap->Prop}{YP:World->Heap->Prop}{d:DefRec}{K:Params->PySem.W.Frag}(hn:l.most=some 63)(SW:d.params.defaults=[])
  (hY:∀(w:World) (h:Heap),YP w h->(K w.params).In h)
  (F:∀(w:World) (mg:Str->Option Value) (fa:Addr) (h:Heap),(K w.params).In h->h.Ns mainGlobals mg->mg d.name=some (.ref fa)->
   ∃fd:FuncData,(∀(s:Shared) (u:Value),BindsTo s fd ⟨[u],[]⟩ [("_law_script",u)])/\∀base:Heap,(K w.params).In base->base.Ns mainGlobals mg->L3 l.prog w (K w.params) mg base (A_ l.prog w) 11 fa fd ["_law_script"] (yJ (K w.params))) :
  PySem.W.WalkO q loose XP YP l.row.toRowW d [] (fun f vs=>PySem.call f vs):=
 L2.P5 (n:=63) (k:=11) (x:="_law_script") (CX:=fun w=>A_ l.prog w) (sp:=fun w=>yJ (K w.params)) hn (by decide) SW ⟨rfl,by decide,by decide⟩ hY F (fun _ _ a ns hl ho hS=>⟨a,ns,rfl,hS,hl,ho,fun _=>rfl⟩) fun _ _ _ _ _ z=>Az z
end Lw
end
open PySem PySem.W PyProof.Rows
set_option maxRecDepth 100000 in
set_option maxHeartbeats 0 in
theorem PySem.Challenge.cw_sureroad_k16_whole_calm_brings_all_holds : PySem.Challenge.rw_sureroad_k16_whole_calm_brings_all.Holds := by
 w_on;o_law;k_head;(case hw=>w_witness2)
 k_fill
 refine Lw.walk (l:=PySem.Challenge.rw_sureroad_k16_whole_calm_brings_all) rfl rfl (fun w h Y=>PySem.W.kIn_of Y) ?F
 case F=>
  intro w mg fa h KX G hmg;apply Lw.all_mk KX G hmg
  all_goals (first|k_is|(unfold Lw.nI;k_is)|(unfold Lw.fI;k_is)|(unfold Lw.iF;k_is)|(unfold Lw.nN;k_is)|(unfold Lw.fN;k_is)|(refine' Lw.oF_mk ?l ?c ?k;(case l=>k_is);(case c=>k_is);(case k=>k_is))|rfl|decide +kernel|k_exc)
