import PyProof.Rows.All
import Wide.All
import OpenK.AllK
import Wide.FinOn
import Lean
import PyProof.EqAt
import PyProof.EqKinds
import PyProof.TupleCall
import PyProof.P3Eq
import PyProof.NeKinds
import PyProof.StationsW
import PyProof.ExcClass3
import PyProof.NsDelKeeps
import PyProof.RulesAs
import PyProof.ListRange
import PyProof.ExcArgsOwn
import PyProof.IsiH_list
import PySem.Challenge.RW_sureroad_k14_whole_runs
set_option Elab.async false
set_option linter.all false
set_option maxRecDepth 100000
set_option maxHeartbeats 4000000
def PySem.W.Fast.tw2262942298567625717:=0
def PySem.W.Fast.tw17631015940069656125:=0
def PySem.W.Fast.tw5426402739282616891:=0
def PySem.W.Fast.tw16613880269853830246:=0
def PySem.W.Fast.tw14397147555294059044:=0
def PySem.W.Fast.tw329880467952442264:=0
def PySem.W.Fast.tw16829466829522905765:=0
def PySem.W.Fast.tw5198511581659171040:=0
def PySem.W.Fast.tw5246674055391355759:=0
def PySem.W.Fast.tw8607082851200634076:=0
def PySem.W.Fast.tw11257802972207540221:=0
def PySem.W.Fast.tw13364637188333690783:=0
def PySem.W.Fast.tw7786489645267496549:=0
def PySem.W.Fast.tw10672845074090522331:=0
def PySem.W.Fast.tw4763699578979126709:=0
def PySem.W.Fast.tw3118001196621338896:=0
def PySem.W.Fast.tw14160695904358781825:=0
def PySem.W.Fast.tw18390304464099966724:=0
def PySem.W.Fast.tw6053266238124873353:=0
def PySem.W.Fast.tw13303839940152045712:=0
def PySem.W.Fast.tw16083021910047572000:=0
def PySem.W.Fast.tw2340246255917944142:=0
def PySem.W.Fast.tw9660775289779900762:=0
def PySem.W.Fast.tw18226843944390929258:=0
def PySem.W.Fast.tw9700310996372943866:=0
def PySem.W.Fast.tw9104783155806831937:=0
def PySem.W.Fast.tw1022478094313411257:=0
def PySem.W.Fast.tw15018110216913094361:=0
def PySem.W.Fast.tw10857463721688886824:=0
def PySem.W.Fast.tw13429945681110160188:=0
def PySem.W.Fast.tw2727055004016648975:=0
set_option compiler.extract_closed false
noncomputable section
local macro_rules|`(tactic|decide)=>`(tactic|decide +kernel)
def aa0:=@PySem.wpAny_bind
def aa1:=@Nat.le_refl
def aa2:=@List.getElem?_eq_some_iff
def aa3:=@decide_eq_true
def aa4:=@PySem.wpAny_pure
def aa5:=@decide_eq_false
def aa6:=@PySem.Heap.get?_push_of_some
def aa7:=@List.length_map
def aa8:=@List.length_append
def aa9:=@List.mem_cons_of_mem
def ab0:=@List.mem_append
def ab1:=@if_neg
def ab2:=@if_pos
def ab3:=@List.mem_singleton
def ab4:=@List.getElem?_append_left
def ab5:=@Nat.le_trans
def ab6:=@List.mem_map
def ab7:=@List.size_toArray
def ab8:=@List.length_cons
def ab9:=@List.getElem?_eq_getElem
def ac0:=@PySem.Heap.get?_push_size
def ac1:=@Nat.lt_of_lt_of_le
def ac2:=@List.map_cons
def ac3:=@decide_eq_decide
def ac4:=@PySem.F.slot_list_append
def ac5:=@PySem.F.type_list_append
def ac6:=@PySem.Heap.lt_size
def ac7:=@List.mem_cons
def ac8:=@List.getElem?_map
def ac9:=@List.getElem?_cons_succ
def ad0:=@Nat.ne_of_lt
def ad1:=@PySem.wpAny_newObj_type
def ad2:=@Bool.false_ne_true
def ad3:=@List.mem_filter
def ad4:=@PySem.wpAny_callSpecial?_slot
def ad5:=@List.getElem?_append_right
def ad6:=@PySem.wpAny_mono
def ad7:=@List.length_take
def ad8:=@List.length_singleton
def ad9:=@Nat.le_succ
def ae0:=@List.map_append
def ae1:=@List.pairwise_cons
def ae2:=@List.append_assoc
def ae3:=@Nat.lt_succ_of_lt
def ae4:=@List.append_nil
def ae5:=@Option.some.inj
def ae6:=@PySem.wpAny_call_entry
def ae7:=@Nat.zero_le
def ae8:=@List.length_drop
def ae9:=@List.prefix_refl
def af0:=@Array.length_toList
def af1:=@List.getElem?_cons_zero
def af2:=@List.mem_of_getElem?
def af3:=@List.mem_append_right
def af4:=@Int.toNat_natCast
def af5:=@beq_eq_false_iff_ne
def af6:=@PySem.Heap.get?_update_other
def af7:=@Nat.zero_add
def af8:=@Ne.symm
def af9:=@PyProof.Rows.slot_tuple_getitem
def ag0:=@List.map_congr_left
def ag1:=@Nat.le_of_lt
def ag2:=@Nat.lt_succ_self
def ag3:=@List.take_append_drop
def ag4:=@List.set_append_right
def ag5:=@List.mem_cons_self
def ag6:=@List.getElem?_set_ne
def ag7:=@Nat.min_eq_left
def ag8:=@PySem.wpAny_Call_Name_kw
def ag9:=@PySem.wpAny_pyIter_tuple
def ah0:=@PySem.wpAny_field
def ah1:=@PySem.Heap.get?_update_self
def ah2:=@PyProof.Rows.callWith_type1
def ah3:=@List.mem_range
def ah4:=@List.take_of_length_le
def ah5:=@Array.getElem?_eq_getElem
def ah6:=@List.map_map
def ah7:=@beq_iff_eq
def ah8:=@PySem.Obj.data_mapFields
def ah9:=@PySem.W.mg_none_of
def ai0:=@List.replicate_succ
def ai1:=@List.take_append_of_le_length
def ai2:=@List.length_eq_zero_iff
def ai3:=@Function.comp_def
def ai4:=@True.intro
def ai5:=@List.filter_eq_self
def ai6:=@List.mem_of_mem_eraseIdx
def ai7:=@PySem.wpAny_holding
def ai8:=@Bool.and_eq_true
def ai9:=@List.lookup_cons
def aj0:=@List.find?_cons
def aj1:=@Array.getElem?_eq_some_iff
def aj2:=@PySem.wpAny_setField_rec
def aj3:=@PySem.Obj.isFreed_of_fields
def aj4:=@List.drop_eq_getElem_cons
def aj5:=@List.pairwise_iff_getElem
def aj6:=@PySem.Heap.size_push
def aj7:=@List.nodup_cons
def aj8:=@PySem.codeAny_builtin
def aj9:=@List.mem_of_mem_take
def ak0:=@PySem.wpAny_truthy_bool
def ak1:=@List.mem_iff_getElem
def ak2:=@PySem.Around.under_plainId
def ak3:=@Nat.lt_irrefl
def ak4:=@PySem.mem_of_lookup
def ak5:=@PySem.wpAny_setEntries_of
def ak6:=@PyProof.Rows.callWith_builtin1
def ak7:=@List.flatMap_append
def ak8:=@List.filter_cons
def ak9:=@List.getElem?_set_self
def al0:=@List.getElem?_replicate
def al1:=@PySem.codeAny_mono
def al2:=@List.take_add_one
def al3:=@PySem.F.called_set
def al4:=@List.drop_of_length_le
def al5:=@List.mem_of_mem_drop
def al6:=@PySem.F.slot_enumerate_next
def al7:=@Option.some.injEq
def al8:=@PySem.wpAny_pyIter_enum
def al9:=@PySem.wpAny_setState_of
def am0:=@List.length_filter_lt_length_iff_exists
def am1:=@congrArg
def am2:=@List.not_mem_nil
def am3:=@PySem.wpAny_setField
def am4:=@PySem.F.excBase_ValueError
def am5:=@List.getD_eq_getElem?_getD
def am6:=@List.length_replicate
def am7:=@List.flatten_cons
def am8:=@PySem.wpAny_isInstance
def am9:=@List.getElem?_eq_none_iff
def an0:=@PyProof.Rows.slot_tupleiter_next
def an1:=@PySem.Heap.SameBut.update
def an2:=@PySem.wpAny_attempt
def an3:=@PySem.F.called_enumerate
def an4:=@Nat.le_succ_of_le
def an5:=@List.Pairwise.imp_of_mem
def an6:=@PySem.wpAny_execs_nil
def an7:=@PySem.tupleKind_room_in1
def an8:=@List.take_length
def an9:=@PyProof.Rows.F.plain_set_update_loop
def ao0:=@List.filterMap_cons
def ao1:=@if_true
def ao2:=@List.any_cons
def ao3:=@Or.inl
def ao4:=@PySem.Calls.spliced_cons
def ao5:=@PySem.wpAny_pyIter_list
def ao6:=@PySem.wpAny_Call_method_late
def ao7:=@PySem.Calls.callWith_builtin
def ao8:=@decide_eq_true_eq
def ao9:=@List.pairwise_lt_range
def ap0:=@List.flatMap_cons
def ap1:=@List.pairwise_iff_forall_sublist
def ap2:=@PySem.plainObj_wpAny_Assign_Attribute
def ap3:=@List.eraseIdx_eq_take_drop_succ
def ap4:=@List.length_set
def ap5:=@PySem.call_meets
def ap6:=@Nat.le_of_not_lt
def ap7:=@List.length_filter_le
def ap8:=@Option.isSome_map
def ap9:=@Nat.min_eq_right
def aq0:=@List.mem_append_left
def aq1:=@PySem.sizeLine_eq
def aq2:=@List.cons_append
def aq3:=@List.getElem?_zipIdx
def aq4:=@PySem.codeAny_call_builtin
def aq5:=@List.eq_nil_of_length_eq_zero
def aq6:=@List.map_take
def aq7:=@List.drop_append_of_le_length
def aq8:=@Array.getElem?_toList
def aq9:=@List.length_pos_iff
def ar0:=@Int.toNat_of_nonneg
def ar1:=@Nat.ne_of_gt
def ar2:=@PySem.wpAny_typeOf
def ar3:=@Nat.succ_le_succ
def ar4:=@Nat.succ_ne_self
def ar5:=@List.length_range
def ar6:=@List.foldl_append
def ar7:=@PySem.Calls.Name_function_global
def ar8:=@List.foldl_cons
def ar9:=@List.nil_append
def as0:=@PySem.wpAny_rule
def as1:=@or_false
def as2:=@PySem.isSubtype_stop
def as3:=@PySem.wpAny_letOwnedTupleGo_enum
def as4:=@PySem.Calls.evalArgs_plain
def as5:=@List.set_cons_succ
def as6:=@List.length_nil
def as7:=@Nat.lt_of_le_of_lt
def as8:=@PySem.wpAny_fieldsOf
def as9:=@List.map_drop
def at0:=@List.range_succ
def at1:=@PySem.W.mg_of
def at3:=@Classical.byContradiction
def at4:=@List.take_sublist
def at5:=@PySem.Calls.spliced_nil
def at6:=@PySem.wpAny_of_eq
def at7:=@Nat.le_of_lt_succ
def at8:=@PySem.Paired.length
def at9:=@PySem.plainId_quiet
def au0:=@Bool.false_eq_true
def au1:=@PySem.noFill_tuple_add
def au2:=@PySem.F.args_tuple_add_2
def au3:=@PySem.wpAny_askSetting
def au4:=@PySem.F.slot_list_extend
def au5:=@PySem.F.type_list_extend
def au6:=@List.mem_flatMap
def au7:=@List.getElem?_set
def au8:=@PySem.W.kia_one
def au9:=@PySem.F.entry_tuple_add
def av0:=@PySem.wpAny_updateSeq
def av1:=@PySem.codeAny_of_tree
def av2:=@PySem.wpAny_ite_split
def av3:=@Int.emod_nonneg
def av4:=@PySem.F.slot_tuple_add
def av5:=@if_false
def av6:=@PySem.seqIndex_of
def av7:=@PySem.fitsIndex_both
def av8:=@Option.map_some
def av9:=@List.all_eq_true
def aw0:=@List.getElem_mem
def aw1:=@Nat.not_lt_zero
def aw2:=@Bool.not_eq_true
def aw3:=@List.map_nil
abbrev aw4:=PySem.Value→PySem.Shared→Prop
abbrev aw5:=PySem.W.Frag
abbrev aw6:=List PySem.Addr
abbrev aw7:=List PySem.Value
abbrev aw8:=List (PySem.Addr×PySem.Obj)
abbrev aw9:=PySem.Str→Option PySem.Value
abbrev ax0:=List PySem.Str
abbrev ax1:=PySem.FuncData
abbrev ax2:=Array PySem.Value
abbrev ax3:=List Int
abbrev ax4:=List Nat
abbrev ax5:=Bool→PySem.Shared→Prop
abbrev ax6:=Unit→PySem.Shared→Prop
abbrev ax7:=Array (Int×PySem.Value)
abbrev ax8:=List PySem.Expr
abbrev ax9:=Array (Option PySem.Value)
abbrev ay0:=PySem.Value→PySem.Value→PySem.Sem PySem.Value
abbrev ay1:=PySem.Program
abbrev ay2:=PySem.Around
abbrev ay3:=PySem.World
open Array (toList)
open List (all_cons foldl getD length mem_map mem_range nodup_nil of_mem_zip range range' replicate sum_cons take_succ zip)
open Nat (mod_lt)
open Option (getD_none toList_some)
open PyProof.Rows (iadd_int)
open PySem (boot_len)
open PySem.Builtin.Range (rangeSize small)
open PySem.Builtin.Slice (sliceAdjust sliceApplied slicePlaces)
open PySem.Heap (ExtBut SameBut)
open PySem.SeqAt.EqAt (int_int int_str str_int str_str)
open PySem.Value (bytes float type)
open PySem.W (callWith_K codeIn emptyDict excIn findIn fnOf handedIn hasDictIn instObj isFn keepIn kitx_list lookIn makesIn methodObj nsIn plainGet plainGet_of plainOver specialIn subIn takerIn)
namespace L2
open PySem PySem.Spec PyProof.Rows
abbrev Key:=Sum Int Str
def tI:Key->Value->Bool
 |.inl k,v=>Value.isInt k v
 |.inr x,v=>Value.isStrOf x v
def Hb(w:ay3):Key->Int
 |.inl k=>hashInt k
 |.inr x=>hashStr w x
def cY:∀{k:Key}{v:Value},tI k v=true->(∃i t,k=Sum.inl i/\v=Value.int i t)\/(∃x t,k=Sum.inr x/\v=Value.str x t)
 |.inl i,v,h=>by
  obtain⟨t,e⟩:=Value.isInt_shape (k:=i) (v:=v) h;exact .inl ⟨i,t,rfl,e⟩
 |.inr x,v,h=>by
  obtain⟨t,e⟩:=Value.isStrOf_shape (x:=x) (v:=v) h;exact .inr ⟨x,t,rfl,e⟩
def AK(i:Int)(t:Tok):tI (.inl i) (.int i t)=true:=by simp[tI,Value.isInt]
def zU(x:Str)(t:Tok):tI (.inr x) (.str x t)=true:=by simp[tI,Value.isStrOf]
def Fx(a b:Int):decide ((Sum.inl a:Key)=Sum.inl b)=(a == b):=by
 by_cases e:a=b
 ·subst e;simp
 ·have h:¬(Sum.inl a:Key)=Sum.inl b:=fun q=>e (Sum.inl.inj q)
  rw[aa5 h];exact(af5.mpr e).symm
def EO(a b:Str):decide ((Sum.inr a:Key)=Sum.inr b)=decide (a=b):=by
 by_cases e:a=b
 ·subst e;simp
 ·have h:¬(Sum.inr a:Key)=Sum.inr b:=fun q=>e (Sum.inr.inj q)
  rw[aa5 h,aa5 e]
def Fq(a:Int)(b:Str):decide ((Sum.inl a:Key)=Sum.inr b)=false:=aa5 (fun q=>nomatch q)
def EV(a:Str)(b:Int):decide ((Sum.inr a:Key)=Sum.inl b)=false:=aa5 (fun q=>nomatch q)
def cV(prog:ay1)(w:ay3):PySem.KeyKind prog w Key where
 is:=tI
 hash:=Hb w
 inj:=fun v a b ha hb=>by
  rcases cY ha with ⟨i,t,rfl,rfl⟩|⟨x,t,rfl,rfl⟩
  ·rcases cY hb with ⟨j,u,rfl,e⟩|⟨y,u,rfl,e⟩
   ·injection e with e1 _;rw[e1]
   ·exact nomatch e
  ·rcases cY hb with ⟨j,u,rfl,e⟩|⟨y,u,rfl,e⟩
   ·exact nomatch e
   ·injection e with e1 _;rw[e1]
 byValue:=fun k v h=>by
  rcases cY h with ⟨i,t,rfl,rfl⟩|⟨x,t,rfl,rfl⟩<;>rfl
 pyHash:=fun hv h=>by
  rcases cY hv with ⟨i,t,rfl,rfl⟩|⟨x,t,rfl,rfl⟩
  ·exact wpAny_pyHash_int h
  ·exact wpAny_pyHash_str h
 eqBool:=fun hu hv h=>by
  rcases cY hu with ⟨i,t,rfl,rfl⟩|⟨x,t,rfl,rfl⟩
  ·rcases cY hv with ⟨j,u,rfl,rfl⟩|⟨y,u,rfl,rfl⟩
   ·rw[Fx] at h;exact wpAny_eqBool_int h
   ·rw[Fq] at h;exact int_str i t y u _ _ _ _ h
  ·rcases cY hv with ⟨j,u,rfl,rfl⟩|⟨y,u,rfl,rfl⟩
   ·rw[EV] at h;exact str_int x t j u _ _ _ _ h
   ·rw[EO] at h;exact wpAny_eqBool_str h
 «strs»:=fun k x t v h=>by
  rcases cY h with ⟨i,u,rfl,e⟩|⟨y,u,rfl,e⟩
  ·exact nomatch e
  ·injection e with e1 _
   subst e1;cases v<;>rfl
def vM(prog:ay1)(w:ay3)(i:Int)(t:Tok):(cV prog w).is (.inl i) (.int i t)=true:=AK i t
def vR(prog:ay1)(w:ay3)(x:Str)(t:Tok):(cV prog w).is (.inr x) (.str x t)=true:=zU x t
inductive V where
 |Hw|bl (b:Bool)|int (i:Int)|str (x:Str)|Sf (b:Array UInt8)|Sg (b:UInt64)|ref (a:Addr)|ty (n:String)
 deriving DecidableEq
def RelV:V->Value->Prop
 |.Hw,u=>u=Value.none
 |.bl b,u=>u=Value.bool b
 |.int i,u=>∃t,u=Value.int i t
 |.str x,u=>∃t,u=Value.str x t
 |.Sf b,u=>∃t,u=bytes b t
 |.Sg b,u=>∃t,u=float b t
 |.ref a,u=>u=Value.ref a
 |.ty n,u=>u=type n
abbrev Vals:List V->List Value->Prop:=Paired RelV
abbrev az0:=List V
def Vals.length{xs:az0}{us:aw7}(r:Vals xs us):xs.length=us.length:=at8 r
theorem Vals.get:∀{xs:az0}{us:aw7}{i:Nat}{x:V},Vals xs us->xs[i]?=some x->∃u,us[i]?=some u/\RelV x u
 |_,_,_,_,.nil,e=>by simp at e
 |_,_,0,_,.cons r _,e=>by simp at e;subst e;exact⟨_,rfl,r⟩
 |_,_,i+1,x,.cons _ t,e=>by
  obtain⟨u,h1,h2⟩:=Vals.get (i:=i) (x:=x) t (by simpa using e);exact⟨u,by simpa using h1,h2⟩
theorem Vals.set{x:V}{u:Value}(r:RelV x u):∀{xs:az0}{us:aw7}(i:Nat),Vals xs us->Vals (xs.set i x) (us.set i u)
 |_,_,_,.nil=>.nil
 |_,_,0,.cons _ t=>.cons r t
 |_,_,i+1,.cons q t=>.cons q (Vals.set r i t)
theorem Vals.append:∀{xs ys:az0}{us ws:aw7},Vals xs us->Vals ys ws->Vals (xs++ys) (us++ws)
 |_,_,_,_,.nil,s=>s
 |_,_,_,_,.cons r t,s=>.cons r (Vals.append t s)
theorem Vals.take:∀{xs:az0}{us:aw7}(n:Nat),Vals xs us->Vals (xs.take n) (us.take n)
 |_,_,0,_=>.nil
 |_,_,_+1,.nil=>.nil
 |_,_,n+1,.cons r t=>.cons r (Vals.take n t)
theorem Vals.drop:∀{xs:az0}{us:aw7}(n:Nat),Vals xs us->Vals (xs.drop n) (us.drop n)
 |_,_,0,r=>r
 |_,_,_+1,.nil=>.nil
 |_,_,n+1,.cons _ t=>Vals.drop n t
def Vals.none_of:∀{xs:az0}{us:aw7}{i:Nat},Vals xs us->xs[i]?=none->us[i]?=none:=fun {xs us i} r e=>by
 have h1:=r.length;have h2:xs.length<=i:=am9.mp e;exact am9.mpr (by omega)
def Kj:Option V->Option Value->Prop
 |some v,some u=>RelV v u
 |none,none=>True
 |_,_=>False
def KV{κ:Type}:List (κ×V)->List (κ×Value)->Prop:=Paired fun(p:κ×V) (q:κ×Value)=>p.1=q.1/\RelV p.2 q.2
def kV:Key->V
 |.inl i=>.int i
 |.inr x=>.str x
abbrev az1:=List (Key×V)
inductive HO where
 |lst (xs:az0)
 |tup (xs:az0)
 |dK (kvs:az1)|dT (kvs:List (List Key×V))
 |set (S:Int->Bool) (n:Nat)
 |ins (C dx:Addr) (fs:List (Str×V))
 |own (x:Addr)
 |xd (fs:List (Str×V))
 |met (f x:Addr)
 |Tt (lo hi:Int)
 |Oq (o:Obj) (u:HO)
 |RF (ps:ax2)
 |ext (φ:Heap->Prop)
abbrev Hp:=Addr->Option HO
def upd(H:Hp)(a:Addr)(o:HO):Hp:=fun b=>if b=a then some o else H b
def bF{H:Hp}{a:Addr}{o:HO}:upd H a o a=some o:=by unfold upd;rw[ab2 rfl]
def bf{H:Hp}{a b:Addr}{o:HO}(h:b≠a):upd H a o b=H b:=by unfold upd;rw[ab1 h]
def FY{H:Hp}{a b:Addr}{o u:HO}(h:H a=some o)(h':H b=some u)(d:o≠u):a≠b:=by
 intro e;subst e;rw[h] at h';exact d (ae5 h')
def aZ{H:Hp}{a b:Addr}{o:HO}(h:H a=some o)(h':H b=none):a≠b:=by
 intro e;subst e;rw[h] at h';cases h'
section
variable(P:ay1)(w:ay3)
def Il(H:Hp)(h:Heap)(a:Addr):HO->Prop
 |.lst xs=>xs.length<=sizeLine/\∃(y_:aw7) (n:Nat),Vals xs y_/\h.get? a=some { cls:=.type "list",data:=.seq y_.toArray n }
 |.tup xs=>xs.length<=sizeLine/\∃y_:List Value,Vals xs y_/\IsTup h a y_.toArray
 |.dK kvs=>kvs.length<=sizeLine/\(a == sysModules)=false/\∃vs,KV kvs vs/\h.DictOf (cV P w) a vs
 |.dT kvs=>kvs.length<=sizeLine/\(a == sysModules)=false/\∃xs:List (List Key×Addr×Value),
   Paired (fun(p:List Key×V) (q:List Key×Addr×Value)=>p.1=q.1/\H q.2.1=some (.tup (p.1.map kV))/\RelV p.2 q.2.2) kvs xs/\
   ∃o es ep,h.get? a=some o/\o.ExactDict/\o.data=.dict es ep/\es.toList=xs.map (entryOfKey (tupleKind (cV P w)))/\(xs.map (·.1)).Nodup
 |.set S n=>h.SetOf (intKind P w) a S n
 |.ins C dx fs=>H dx=some (.own a)/\fs.length<=1000/\dx≠a/\h.get? a=some (instObj C dx)/\
   ∃mA,h.Ns1 dx mA/\(∀f,Kj (fs.lookup f) (mA f))/\PySem.Within mA (fs.map (·.1))
 |.own _=>∃o,h.get? a=some o
 |.xd fs=>∃mA,h.Ns1 a mA/\∀f,Kj (fs.lookup f) (mA f)
 |.Tt lo hi=>∃t u v,h.get? a=some { cls:=.type "range",data:=.fields #[.int lo t,.int hi u,.int 1 v] }
 |.Oq o u=>h.get? a=some o/\Il H h a u
 |.RF ps=>h.get? a=some { cls:=.none,data:=.fields ps }
 |.met f x=>h.get? a=some (methodObj (.ref f) (.ref x))
 |.ext φ=>φ h/\(∃o,h.get? a=some o)/\∀h1 h2:Heap,φ h1->(∀o,h1.get? a=some o->h2.get? a=some o)->φ h2
def JG(H:Hp)(h:Heap):Prop:=∀a o,H a=some o->Il P w H h a o
end
section
variable{P:ay1}{w:ay3}{H H':Hp}{h h':Heap}{a:Addr}{o:HO}
theorem Il.lt(x:Il P w H h a o):a<h.objs.size:=by
 cases o with
 |lst xs=>obtain⟨_,_,_,_,e⟩:=x;exact ac6 e
 |tup xs=>obtain⟨_,_,_,p⟩:=x;exact p.lt
 |dK kvs=>obtain⟨_,_,_,_,o,_,_,e,_⟩:=x;exact ac6 e
 |dT kvs=>obtain⟨_,_,_,_,o,_,_,e,_⟩:=x;exact ac6 e
 |set S n=>obtain⟨o,_,_,_,e,_⟩:=x;exact ac6 e
 |ins C dx fs=>obtain⟨_,_,_,e,_⟩:=x;exact ac6 e
 |own y=>obtain⟨_,e⟩:=x;exact ac6 e
 |xd fs=>obtain⟨_,⟨_,_,_,e,_⟩,_⟩:=x;exact ac6 e
 |Tt lo hi=>obtain⟨_,_,_,e⟩:=x;exact ac6 e
 |Oq ob u=>obtain⟨e,_⟩:=x;exact ac6 e
 |RF ps=>exact ac6 (show h.get? a=some _ from x)
 |met f y=>exact ac6 (show h.get? a=some _ from x)
 |ext φ=>obtain⟨_,⟨_,e⟩,_⟩:=x;exact ac6 e
theorem Paired.Sh{α β:Type}{F G:α->β->Prop}:∀{l₁:List α}{l₂:List β},Paired F l₁ l₂->(∀a b,F a b->G a b)->Paired G l₁ l₂
 |_,_,.nil,_=>.nil
 |_,_,.cons r t,f=>.cons (f _ _ r) (Paired.Sh t f)
def Il.Lv(x:Il P w H h a o)(k:∀b u,(b=a\/H b=some (.own a))->h.get? b=some u->h'.get? b=some u)
  (ho:∀b,H b=some (.own a)->H' b=some (.own a)) (ht:∀b xs,H b=some (.tup xs)->H' b=some (.tup xs)):Il P w H' h' a o:=by
 induction o with
 |lst xs=>obtain⟨z,y_,n,r,e⟩:=x;exact⟨z,y_,n,r,k _ _ (.inl rfl) e⟩
 |tup xs=>obtain⟨z,y_,r,ob,e,c⟩:=x;exact⟨z,y_,r,ob,k _ _ (.inl rfl) e,c⟩
 |dK kvs=>obtain⟨z,y,vs,r,ob,es,ep,e,c⟩:=x;exact⟨z,y,vs,r,ob,es,ep,k _ _ (.inl rfl) e,c⟩
 |dT kvs=>
  obtain⟨z,y,xs,r,ob,es,ep,e,c⟩:=x;exact⟨z,y,xs,Paired.Sh r fun p q z=>⟨z.1,ht _ _ z.2.1,z.2.2⟩,ob,es,ep,k _ _ (.inl rfl) e,c⟩
 |set S n=>obtain⟨ob,es,ep,t,e,c⟩:=x;exact⟨ob,es,ep,t,k _ _ (.inl rfl) e,c⟩
 |ins C dx fs=>
  obtain⟨d,z,ne,e,mA,⟨od,es,ep,e2,c⟩,r⟩:=x;exact⟨ho _ d,z,ne,k _ _ (.inl rfl) e,mA,⟨od,es,ep,k _ _ (.inr d) e2,c⟩,r⟩
 |own y=>obtain⟨ob,e⟩:=x;exact⟨ob,k _ _ (.inl rfl) e⟩
 |xd fs=>obtain⟨mA,⟨od,es,ep,e,c⟩,r⟩:=x;exact⟨mA,⟨od,es,ep,k _ _ (.inl rfl) e,c⟩,r⟩
 |Tt lo hi=>obtain⟨t,u,v,e⟩:=x;exact⟨t,u,v,k _ _ (.inl rfl) e⟩
 |Oq ob u ih=>obtain⟨e,q⟩:=x;exact⟨k _ _ (.inl rfl) e,ih q⟩
 |RF ps=>
  have e:h.get? a=some { cls:=.none,data:=.fields ps }:=x;show h'.get? a=some { cls:=.none,data:=.fields ps };exact k a _ (.inl rfl) e
 |met f y=>
  have e:h.get? a=some (methodObj (.ref f) (.ref y)):=x;show h'.get? a=some (methodObj (.ref f) (.ref y));exact k a _ (.inl rfl) e
 |ext φ=>obtain⟨p,⟨o,e⟩,st⟩:=x;exact⟨st _ _ p fun o q=>k _ _ (.inl rfl) q,⟨o,k _ _ (.inl rfl) e⟩,st⟩
def JG.lt(x:JG P w H h)(e:H a=some o):a<h.objs.size:=(x a o e).lt
def JG.fresh(x:JG P w H h)(e:h.objs.size<=a):H a=none:=by
 cases q:H a with
 |none=>rfl
 |some u=>exact absurd (ac1 (x.lt q) e) (ak3 _)
def JG.kept(x:JG P w H h)(k:∀b u,h.get? b=some u->h'.get? b=some u):JG P w H h':=fun a o e=>
 (x a o e).Lv (fun b u _ q=>k b u q) (fun _ q=>q) fun _ _ q=>q
def JG.laid(x:JG P w H h)(k:∀b u,h.get? b=some u->h'.get? b=some u)(hp:h.objs.size<=a)(new:Il P w (upd H a o) h' a o):JG P w (upd H a o) h':=fun b u e=>by
 have hn:=x.fresh hp;by_cases hb:b=a
 ·subst hb;rw[bF] at e;cases e;exact new
 ·rw[bf hb] at e;exact(x b u e).Lv (fun c v _ q=>k c v q) (fun c q=>by rw[bf (aZ q hn)];exact q) fun c xs q=>by rw[bf (aZ q hn)];exact q
end
def Rd(H:Hp)(a:Addr)(u:HO):Prop:=H a=some u\/∃o,H a=some (.Oq o u)
def Rd.of{H:Hp}{a:Addr}{u:HO}(h:H a=some u):Rd H a u:=.inl h
def Rd.ok{P:ay1}{w:ay3}{H:Hp}{h:Heap}{a:Addr}{u:HO}(r:Rd H a u)(x:JG P w H h):Il P w H h a u:=by
 rcases r with r|⟨o,r⟩
 ·exact x a u r
 ·obtain⟨_,q⟩:=x a _ r;exact q
def Ui:Option HO->Prop
 |some (.lst _)=>True
 |some (.dK _)=>True
 |some (.dT _)=>True
 |some (.set _ _)=>True
 |some (.ins _ _ _)=>True
 |some (.ext _)=>True
 |_=>False
section
variable{P:ay1}{w:ay3}{H:Hp}{h h':Heap}{x e:Addr}{o':HO}
def JG.write(ok:JG P w H h)(mu:Ui (H x))(he:e=x\/H e=some (.own x))(k:∀b u,b≠e->h.get? b=some u->h'.get? b=some u)(Tu:∃u,h'.get? e=some u)
  (new:Il P w (upd H x o') h' x o'):JG P w (upd H x o') h':=fun b u q=>by
 have Uj:∀c y,H c=some (.own y)->c≠x:=fun c y r z=>by subst z;rw[r] at mu;exact mu
 have Wm:∀c xs,H c=some (.tup xs)->c≠x:=fun c xs r z=>by subst z;rw[r] at mu;exact mu
 by_cases hb:b=x
 ·subst hb;rw[bF] at q;cases q;exact new
 ·rw[bf hb] at q;by_cases Mr:b=e
  ·have q':H b=some (.own x):=by
    rcases he with z|z
    ·exact absurd (Mr.trans z) hb
    ·rw[Mr];exact z
   rw[q] at q';cases q';obtain⟨v,hv⟩:=Tu;exact⟨v,by rw[Mr];exact hv⟩
  ·refine(ok b u q).Lv (fun c v hc r=>k c v ?_ r) (fun c r=>by rw[bf (Uj c b r)];exact r) fun c xs r=>by rw[bf (Wm c xs r)];exact r
   rcases hc with rfl|hc
   ·exact Mr
   ·rintro rfl;rcases he with z|z
    ·exact Uj c b hc z
    ·rw[hc] at z;cases z;exact hb rfl
end
structure Un(fs ex:aw6)(H H':Hp)(h h':Heap):Prop where
 keep:∀b o,h.get? b=some o->H b=none->b∉fs->b∉ex->h'.get? b=some o
 slot:∀b o,h.get? b=some o->H b=none->b∈fs->b∉ex->∃sl,h'.get? b=some { o with slots:=sl }
 free:∀b o,h.get? b=some o->H b=none->b∉ex->H' b=none
 there:∀b o,h.get? b=some o->b∉ex->∃o',h'.get? b=some o'
 K5:∀b xs,H b=some (.tup xs)->H' b=some (.tup xs)
 KP:∀b o u,H b=some (.Oq o u)->H' b=some (.Oq o u)
 K6:∀b ps,H b=some (.RF ps)->∃more,H' b=some (.RF (ps++more))
section
variable{fs Wn ex Zn:aw6}{H H1 H2:Hp}{h h1 h2 h':Heap}{a x e:Addr}{o:HO}
def Un.any(u:Un fs ex H H1 h h1){b:Addr}{ob:Obj}(q:h.get? b=some ob)(n:H b=none)(hx:b∉ex):∃sl,h1.get? b=some { ob with slots:=sl }:=by
 by_cases hb:b∈fs
 ·exact u.slot b ob q n hb hx
 ·exact⟨ob.slots,u.keep b ob q n hb hx⟩
def Un.trans(a:Un fs ex H H1 h h1)(b:Un fs ex H1 H2 h1 h2):Un fs ex H H2 h h2 where
 keep:=fun c ob q n hc hx=>b.keep c ob (a.keep c ob q n hc hx) (a.free c ob q n hx) hc hx
 slot:=fun c ob q n hc hx=>by
  obtain⟨sl,e1⟩:=a.slot c ob q n hc hx;obtain⟨Tv,e2⟩:=b.slot c _ e1 (a.free c ob q n hx) hc hx;exact⟨Tv,e2⟩
 free:=fun c ob q n hx=>by
  obtain⟨o',e1⟩:=a.there c ob q hx;exact b.free c o' e1 (a.free c ob q n hx) hx
 there:=fun c ob q hx=>by
  obtain⟨o',e1⟩:=a.there c ob q hx;exact b.there c o' e1 hx
 K5:=fun c xs q=>b.K5 c xs (a.K5 c xs q)
 KP:=fun c ob xs q=>b.KP c ob xs (a.KP c ob xs q)
 K6:=fun c ps q=>by
  obtain⟨m1,e1⟩:=a.K6 c ps q;obtain⟨m2,e2⟩:=b.K6 c _ e1;exact⟨m1++m2,by rw[e2,Array.append_assoc]⟩
def Un.kept(k:∀b u,h.get? b=some u->h'.get? b=some u):Un fs ex H H h h':=
 ⟨fun b ob q _ _ _=>k b ob q,fun b ob q _ _ _=>⟨ob.slots,k b ob q⟩,fun _ _ _ n _=>n,fun b ob q _=>⟨ob,k b ob q⟩,fun _ _ q=>q,fun _ _ _ q=>q,fun _ ps q=>⟨#[],by rw[q];simp⟩⟩
def Un.refl:Un fs ex H H h h:=Un.kept fun _ _ q=>q
def Un.laid(k:∀b u,h.get? b=some u->h'.get? b=some u)(hp:h.objs.size<=a)(hn:H a=none):Un fs ex H (upd H a o) h h' where
 keep:=fun b u q _ _ _=>k b u q
 slot:=fun b u q _ _ _=>⟨u.slots,k b u q⟩
 free:=fun b u q n _=>by rw[bf (ad0 (ac1 (ac6 q) hp))];exact n
 there:=fun b u q _=>⟨u,k b u q⟩
 K5:=fun b xs q=>by rw[bf (aZ q hn)];exact q
 KP:=fun b u xs q=>by rw[bf (aZ q hn)];exact q
 K6:=fun b ps q=>⟨#[],by rw[bf (aZ q hn),q];simp⟩
def Un.write(mu:Ui (H x))(he:e=x\/H e=some (.own x))(k:∀b u,b≠e->h.get? b=some u->h'.get? b=some u)(Tu:∃u,h'.get? e=some u):Un fs ex H (upd H x o) h h':=by
 have hx:∀b,H b=none->b≠x:=fun b n z=>by subst z;rw[n] at mu;exact mu
 have hb:∀b,H b=none->b≠e:=fun b n z=>by
  subst z;rcases he with r|r
  ·exact hx b n r
  ·rw[n] at r;cases r
 have hm:∀b u,H b=some u->¬Ui (some u)->b≠x:=fun b u q nm z=>by subst z;rw[q] at mu;exact nm mu
 refine⟨fun b u q n _ _=>k b u (hb b n) q,fun b u q n _ _=>⟨u.slots,k b u (hb b n) q⟩,fun b u q n _=>by rw[bf (hx b n)];exact n,fun b u q _=>?_,
  fun b xs q=>by rw[bf (hm b _ q fun z=>z)];exact q,fun b u xs q=>by rw[bf (hm b _ q fun z=>z)];exact q,fun b ps q=>⟨#[],by rw[bf (hm b _ q fun z=>z),q];simp⟩⟩
 by_cases Mr:b=e
 ·subst Mr;exact Tu
 ·exact⟨u,k b u Mr q⟩
def Un.mono(u:Un fs ex H H1 h h1)(hs:∀b∈fs,b∈Wn)(hx:∀b∈ex,b∈Zn):Un Wn Zn H H1 h h1:=
 ⟨fun b ob q n hb he=>u.keep b ob q n (fun z=>hb (hs b z)) fun z=>he (hx b z),fun _ _ q n _ he=>u.any q n fun z=>he (hx _ z),fun b ob q n he=>u.free b ob q n fun z=>he (hx b z),fun b ob q he=>u.there b ob q fun z=>he (hx b z),u.K5,u.KP,u.K6⟩
end
def Vy(h:Heap)(H:Hp):List Addr:=(range h.objs.size).filter fun a=>(H a).isSome
def uC(h:Heap)(H:Hp):Heap:=PySem.W.hideAll h (Vy h H)
def Ab(h:Heap)(H:Hp):(uC h H).objs.size=h.objs.size:=PySem.W.hideAll_size _ _
def BX{h:Heap}{H:Hp}{b:Addr}{o:Obj}(e:h.get? b=some o)(n:H b=none):(uC h H).get? b=some o:=
 PySem.W.hideAll_get _ e fun hm=>by
  have q:(H b).isSome=true:=(ad3.mp hm).2;rw[n] at q;simp at q
def DA{h:Heap}{H:Hp}{b:Addr}{o:Obj}(e:(uC h H).get? b=some o):h.get? b=some o/\H b=none:=by
 have e':h.get? b=some o:=PySem.W.of_hideAll (Vy h H) e;refine⟨e',?_⟩;cases q:H b with
 |none=>rfl
 |some x=>
  have hm:b∈Vy h H:=ad3.mpr ⟨ah3.mpr (ac6 e'),by simp[q]⟩;have z:(uC h H).get? b=none:=PySem.W.hideAll_none (Vy h H) hm;rw[z] at e;cases e
def Eh(g h:Heap)(L:Addr):List (Addr×Obj):=(range h.objs.size).filterMap fun a=>if a=L\/(g.get? a).isSome=true then none else (h.get? a).map fun o=>(a,o)
def rest(g h:Heap)(L d:Addr):List (Addr×Obj):=(Eh g h L).filter fun p=>decide (p.1≠d)
structure Mod(K:aw5)(mg:aw9)(base:Heap):Prop where
 Tw:K.In base
 glob:base.Ns mainGlobals mg
 blt:∃mb,base.Ns builtinsNs mb/\∀x:Str,x≠"__name__"->mb x=bootBuiltins x
 nolimit:base.NoLimit
structure Cx where
 prog:Program
 w:World
 K:PySem.W.Frag
 mg:Str->Option Value
 base:Heap
 A:Around
 N:List Str
 JB:Shared
 PR:Hp
 env:Env
 outer:List Env
 stack:List Env
 ex:List Addr
 fn:Str->Bool
 calm:Bool
 pn:List (Addr×Obj)
 xe:Value->Shared->Prop
def Oe(l:List Env):List Addr:=l.filterMap (·.frame)
abbrev Cx.fs(X:Cx):List Addr:=Oe X.outer
def Wo(sc:Scope)(x:Str):Prop:=sc.names.lookup x=some .local\/sc.names.lookup x=some .cell\/sc.names.lookup x=some .free
def Loc(sc:Scope)(x:Str):Prop:=sc.names.lookup x=some .local\/sc.names.lookup x=some .cell
def Look(env:Env)(h:Heap)(m:aw9)(x:Str)(u:Value):Prop:=
 (env.kindOf x=some .local/\m x=some u)\/((env.kindOf x=some .cell\/env.kindOf x=some .free)/\∃c,env.cells.lookup x=some c/\h.IsCell c (some u))
structure Cx.Ok(X:Cx):Prop where
 mod:Mod X.K X.mg X.base
 kind:X.env.scope.kind=.function
 glob:X.env.globals=mainGlobals
 blt:X.env.builtins=builtinsNs
 above:X.JB.heap.objs.size<=X.env.locals
 inj:∀x y c,X.env.cells.lookup x=some c->X.env.cells.lookup y=some c->x=y
 has:∀x,(X.env.kindOf x=some .cell\/X.env.kindOf x=some .free)->∃c,X.env.cells.lookup x=some c
 Tx:∀x c,X.fn x=true->X.env.cells.lookup x=some c->X.JB.heap.objs.size<=c
 hd:X.calm=true->X.A.handled=none
 frames:X.A.frames=some X.stack
 Uk:X.stack=X.outer\/(X.stack=X.env :: X.outer/\X.env.frame=some X.env.locals)
 Wq:∀b∈X.ex,b≠X.env.locals/\∀x c,X.env.cells.lookup x=some c->c≠b
 bs:∀b o,X.base.get? b=some o->X.JB.heap.get? b=some o/\X.PR b=none
 PA:X.base.objs.size<=X.JB.heap.objs.size
 Pb:∀b o,X.base.get? b=some o->b∉X.ex
 PS:∀b∈X.ex,b∉X.fs
 Lh:X.JB.heap.FunFrames X.base X.outer
 QR:∀b∈X.fs,X.PR b=none
structure Inv(X:Cx)(pins:aw8)(σ:List (Option V))(H:Hp)(s:Shared):Prop where
 ok:X.Ok
 os:s.os=X.JB.os
 bare:AllBare s.gens
 base:Un X.fs X.ex X.PR H X.JB.heap s.heap
 loc:∃m,s.heap.Ns X.env.locals m/\∀(i:Nat) (x:Str) (v:V),X.N[i]?=some x->σ[i]?=some (some v)->Wo X.env.scope x->∃u,RelV v u/\Look X.env s.heap m x u
 cell:∀x c,X.env.cells.lookup x=some c->∃v,s.heap.IsCell c v
 free:H X.env.locals=none
 J9:∀x c,X.env.cells.lookup x=some c->H c=none
 pin:∀p∈X.pn++pins,s.heap.get? p.1=some p.2/\H p.1=none/\p.1≠X.env.locals/\p.1∉X.fs/\∀v,p.2.data≠.cell v
 HH:JG X.prog X.w H s.heap
 len:σ.length=X.N.length
section
variable{X:Cx}{pins:aw8}{σ:List (Option V)}{H H':Hp}{s:Shared}{h':Heap}
def Cx.Ok.Wr(ok:X.Ok){b:Addr}{o:Obj}(e:X.base.get? b=some o):b∉X.fs:=fun hb=>by
 have:=(ok.Lh.mem hb).1;rw[e] at this;cases this
def Inv.bs(I:Inv X pins σ H s):∀b o,X.base.get? b=some o->s.heap.get? b=some o/\H b=none:=fun b o e=>
 ⟨I.base.keep b o (I.ok.bs b o e).1 (I.ok.bs b o e).2 (I.ok.Wr e) (I.ok.Pb b o e),I.base.free b o (I.ok.bs b o e).1 (I.ok.bs b o e).2 (I.ok.Pb b o e)⟩
def Inv.bk(I:Inv X pins σ H s):∀b o,X.base.get? b=some o->s.heap.get? b=some o:=fun b o e=>(I.bs b o e).1
def Inv.mod(I:Inv X pins σ H s):Mod X.K X.mg X.base:=I.ok.mod
def Inv.LS(I:Inv X pins σ H s):X.K.In s.heap:=I.ok.mod.Tw.keeps I.bk
def Inv.nolimit(I:Inv X pins σ H s):s.heap.NoLimit:=I.ok.mod.nolimit.keeps I.bk
def Inv.fr(I:Inv X pins σ H s):∃m,Fr X.base X.env.locals s.heap m:=
 let ⟨m,hn,_⟩:=I.loc
 ⟨m,hn,I.bk,ab5 I.ok.PA I.ok.above⟩
def Inv.lt(I:Inv X pins σ H s):X.env.locals<s.heap.objs.size:=let ⟨_,hn,_⟩:=I.loc;hn.lt
def Inv.sz(I:Inv X pins σ H s):X.JB.heap.objs.size<=s.heap.objs.size:=ab5 I.ok.above (ag1 I.lt)
def Inv.Ws(I:Inv X pins σ H s){a:Addr}(h:s.heap.objs.size<=a):a∉X.fs:=fun hb=>by
 obtain⟨_,o,ho,_⟩:=I.ok.Lh.mem hb;exact absurd (ac1 (ac6 ho) (ab5 I.sz h)) (ak3 _)
def Inv.Si(I:Inv X pins σ H s):∀x c,X.env.cells.lookup x=some c->c≠X.env.locals:=fun x c e z=>by
 obtain⟨v,o,ho,hd⟩:=I.cell x c e;obtain⟨m,⟨o',es,ep,M5,Ms,_⟩,_⟩:=I.loc;rw[z,M5] at ho;cases ho;rw[Ms] at hd;cases hd
def Inv.Lh(I:Inv X pins σ H s):s.heap.FunFrames X.base X.outer:=by
 have all:∀(l:List Env),(∀b∈Oe l,b∈X.fs)->X.JB.heap.FunFrames X.base l->s.heap.FunFrames X.base l:=by
  intro l
  induction l with
  |nil=>intro _ _;trivial
  |cons env r ih=>
   intro hs hl;obtain⟨hk,⟨L,o,hf,hn,ho,hd⟩,hr⟩:=hl;have hL:L∈X.fs:=hs L (by unfold Oe;rw[ao0,hf];exact ag5);obtain⟨sl,e⟩:=I.base.slot L o ho (I.ok.QR L hL) hL fun z=>I.ok.PS L z hL
   exact⟨hk,⟨L,_,hf,hn,e,hd⟩,ih (fun b hb=>hs b (by unfold Oe;rw[ao0,hf];exact aa9 _ hb)) hr⟩
 exact all X.outer (fun _ hb=>hb) I.ok.Lh
def Inv.stack(I:Inv X pins σ H s):s.heap.FunFrames X.base X.stack:=by
 rcases I.ok.Uk with e|⟨e,hf⟩
 ·rw[e];exact I.Lh
 ·rw[e];obtain⟨m,hn,_⟩:=I.loc;refine .cons (by rw[I.ok.kind];decide) hf hn ?_ I.Lh;exact Heap.get?_none_of_le (ab5 I.ok.PA I.ok.above)
def Inv.Ng(I:Inv X pins σ H s):∀b∈Oe X.stack,b∈X.env.locals :: X.fs:=fun b hb=>by
 rcases I.ok.Uk with e|⟨e,hf⟩
 ·rw[e] at hb;exact aa9 _ hb
 ·rw[e] at hb;unfold Oe at hb;rw[ao0,hf] at hb;exact hb
def Inv.Nh(I:Inv X pins σ H s):∀b∈Oe X.stack,H b=none:=fun b hb=>by
 rcases ac7.mp (I.Ng b hb) with e|hb
 ·rw[e];exact I.free
 ·obtain⟨_,o,ho,_⟩:=I.ok.Lh.mem hb;exact I.base.free b o ho (I.ok.QR b hb) fun z=>I.ok.PS b z hb
def Inv.step{g':Array GenState}{t':Nat}{d':Drawn}{ch:aw6}(I:Inv X pins σ H s)
  (PB:∀b∈ch,(b∈X.ex\/X.JB.heap.objs.size<=b)/\b≠X.env.locals/\(∀x c,X.env.cells.lookup x=some c->c≠b)/\∀p∈X.pn++pins,p.1≠b)
  (keep:∀b o,b≠X.env.locals->b∉X.fs->b∉ch->s.heap.get? b=some o->H b=none->h'.get? b=some o)
  (slot:∀b o,b≠X.env.locals->b∈X.fs->b∉ch->s.heap.get? b=some o->H b=none->∃sl,h'.get? b=some { o with slots:=sl }) (free:∀b o,b∉ch->s.heap.get? b=some o->H b=none->H' b=none)
  (there:∀b o,b∉ch->s.heap.get? b=some o->∃o',h'.get? b=some o')
  (K5:∀b xs,H b=some (.tup xs)->H' b=some (.tup xs)) (KP:∀b o u,H b=some (.Oq o u)->H' b=some (.Oq o u)) (K6:∀b ps,H b=some (.RF ps)->∃more,H' b=some (.RF (ps++more)))
  (ns:∀m,s.heap.Ns X.env.locals m->h'.Ns X.env.locals m) (HH:JG X.prog X.w H' h') (hg:AllBare g') :
  Inv X pins σ H' { s with heap:=h',gens:=g',drawn:=d',toks:=t' }:=by
 have Zo:∀b o,X.JB.heap.get? b=some o->b≠X.env.locals:=fun b o e=>ad0 (ac1 (ac6 e) I.ok.above)
 have Vz:∀b o,X.JB.heap.get? b=some o->b∉X.ex->b∉ch:=fun b o e hx hb=>by
  rcases (PB b hb).1 with z|z
  ·exact hx z
  ·exact absurd (ac1 (ac6 e) z) (ak3 _)
 have cellK:∀x c,X.env.cells.lookup x=some c->∀v,s.heap.IsCell c v->h'.IsCell c v:=fun x c e v ⟨o,ho,hd⟩=>by
  have Ul:c∉ch:=fun z=>(PB c z).2.2.1 x c e rfl
  by_cases hc:c∈X.fs
  ·obtain⟨sl,q⟩:=slot c o (I.Si x c e) hc Ul ho (I.J9 x c e);exact⟨_,q,hd⟩
  ·exact⟨o,keep c o (I.Si x c e) hc Ul ho (I.J9 x c e),hd⟩
 refine⟨I.ok,I.os,hg,⟨fun b o e n hb hx=>?_,fun b o e n hb hx=>?_,fun b o e n hx=>?_,fun b o e hx=>?_,fun b xs e=>K5 b xs (I.base.K5 b xs e),fun b o xs e=>KP b o xs (I.base.KP b o xs e),fun b ps e=>?_⟩,?_,fun x c e=>?_,?_,fun x c e=>?_,fun p hp=>?_,HH,I.len⟩
 ·exact keep b o (Zo b o e) hb (Vz b o e hx) (I.base.keep b o e n hb hx) (I.base.free b o e n hx)
 ·obtain⟨sl,e1⟩:=I.base.slot b o e n hb hx;obtain⟨Tv,e2⟩:=slot b _ (Zo b o e) hb (Vz b o e hx) e1 (I.base.free b o e n hx);exact⟨Tv,e2⟩
 ·obtain⟨o',e1⟩:=I.base.there b o e hx;exact free b o' (Vz b o e hx) e1 (I.base.free b o e n hx)
 ·obtain⟨o',e1⟩:=I.base.there b o e hx;exact there b o' (Vz b o e hx) e1
 ·obtain⟨m1,e1⟩:=I.base.K6 b ps e;obtain⟨m2,e2⟩:=K6 b _ e1;exact⟨m1++m2,by rw[e2,Array.append_assoc]⟩
 ·obtain⟨m,hn,hl⟩:=I.loc;refine⟨m,ns m hn,fun i x v e1 e2 e3=>?_⟩;obtain⟨u,r,l⟩:=hl i x v e1 e2 e3;refine⟨u,r,?_⟩;rcases l with l|⟨k,c,e,z⟩
  ·exact .inl l
  ·exact .inr ⟨k,c,e,cellK x c e _ z⟩
 ·obtain⟨v,z⟩:=I.cell x c e;exact⟨v,cellK x c e v z⟩
 ·obtain⟨m,⟨o,_,_,ho,_⟩,_⟩:=I.loc;exact free _ o (fun z=>(PB _ z).2.1 rfl) ho I.free
 ·obtain⟨v,o,ho,hd⟩:=I.cell x c e;exact free c o (fun z=>(PB c z).2.2.1 x c e rfl) ho (I.J9 x c e)
 ·obtain⟨e,n,ne,nf,d⟩:=I.pin p hp;have Ul:p.1∉ch:=fun z=>(PB p.1 z).2.2.2 p hp rfl
  exact⟨keep p.1 p.2 ne nf Ul e n,free p.1 p.2 Ul e n,ne,nf,d⟩
def Inv.un{t':Nat}(I:Inv X pins σ H s)(u:Un X.fs [] H H' s.heap h')(HH:JG X.prog X.w H' h'):Inv X pins σ H' { s with heap:=h',toks:=t' }:=by
 obtain⟨m,⟨o,es,ep,ho,r⟩,_⟩:=id I.loc;obtain⟨sl,hL⟩:=u.any ho I.free (by simp);exact I.step (g':=s.gens) (d':=s.drawn) (ch:=[]) (fun _ z=>nomatch z) (fun b o _ hb _ e n=>u.keep b o e n hb (by simp)) (fun b o _ hb _ e n=>u.slot b o e n hb (by simp)) (fun b o _ e n=>u.free b o e n (by simp)) (fun b o _ e=>u.there b o e (by simp)) u.K5 u.KP u.K6 (fun m' hm=>by
  obtain⟨o',es',Wt,M5,r'⟩:=hm;rw[ho] at M5;cases M5;exact⟨_,es',Wt,hL,r'⟩) HH I.bare
def Inv.call{g':Array GenState}{t':Nat}{d':Drawn}{ch:aw6}(I:Inv X pins σ H s)(u:Un (Oe X.stack) ch H H' s.heap h')(HH:JG X.prog X.w H' h')(hg:AllBare g')
  (PB:∀b∈ch,(b∈X.ex\/X.JB.heap.objs.size<=b)/\b≠X.env.locals/\(∀x c,X.env.cells.lookup x=some c->c≠b)/\∀p∈X.pn++pins,p.1≠b) :
  Inv X pins σ H' { s with heap:=h',gens:=g',drawn:=d',toks:=t' }:=by
 obtain⟨m,⟨o,es,ep,ho,r⟩,_⟩:=id I.loc;obtain⟨sl,hL⟩:=u.any ho I.free fun z=>(PB _ z).2.1 rfl
 exact I.step (ch:=ch) PB (fun b o hL hb hc e n=>u.keep b o e n (fun z=>(ac7.mp (I.Ng b z)).elim hL hb) hc) (fun b o _ _ hc e n=>u.any e n hc) (fun b o hc e n=>u.free b o e n hc) (fun b o hc e=>u.there b o e hc) u.K5 u.KP u.K6 (fun m' hm=>by
  obtain⟨o',es',Wt,M5,r'⟩:=hm;rw[ho] at M5;cases M5;exact⟨_,es',Wt,hL,r'⟩) HH hg
def Inv.turned{t':Nat}{it:Addr}(I:Inv X pins σ H s)(k:∀b o,b≠it->s.heap.get? b=some o->h'.get? b=some o)(hn:H it=none)(hL:it≠X.env.locals)
  (h1:it∈X.ex\/X.JB.heap.objs.size<=it) (h2:∀x c,X.env.cells.lookup x=some c->c≠it) (h3:∀p∈X.pn++pins,p.1≠it):Inv X pins σ H { s with heap:=h',toks:=t' }:=by
 have VA:∀b u,H b=some u->b≠it:=fun b u e z=>by rw[z,hn] at e;cases e
 refine I.step (g':=s.gens) (d':=s.drawn) (ch:=[it]) (fun b hb=>?_) (fun b o _ _ hc e _=>k b o (fun z=>hc (by simp[z])) e) (fun b o _ _ hc e _=>⟨o.slots,k b o (fun z=>hc (by simp[z])) e⟩) (fun _ _ _ _ n=>n)
  (fun b o hc e=>⟨o,k b o (fun z=>hc (by simp[z])) e⟩) (fun _ _ e=>e) (fun _ _ _ e=>e) (fun b ps e=>⟨#[],by rw[e];simp⟩) (fun m hm=>?_) (fun b u e=>?_) I.bare
 ·have e:b=it:=by simpa using hb
  subst e;exact⟨h1,hL,h2,h3⟩
 ·obtain⟨o,es,ep,ho,r⟩:=hm;exact⟨o,es,ep,k _ o (af8 hL) ho,r⟩
 ·refine(I.HH b u e).Lv (fun c v hc q=>k c v ?_ q) (fun _ q=>q) fun _ _ q=>q
  rcases hc with z|z
  ·rw[z];exact VA b u e
  ·exact VA c _ z
def Inv.tok(I:Inv X pins σ H s)(t:Nat):Inv X pins σ H { s with toks:=t }:=I.un (h':=s.heap) (t':=t) Un.refl I.HH
def Inv.kept{t':Nat}(I:Inv X pins σ H s)(k:∀b u,s.heap.get? b=some u->h'.get? b=some u):Inv X pins σ H { s with heap:=h',toks:=t' }:=I.un (Un.kept k) (I.HH.kept k)
def Inv.laid{a:Addr}{o:HO}{t':Nat}(I:Inv X pins σ H s)(k:∀b u,s.heap.get? b=some u->h'.get? b=some u)(hp:s.heap.objs.size<=a)(new:Il X.prog X.w (upd H a o) h' a o) :
  Inv X pins σ (upd H a o) { s with heap:=h',toks:=t' }:=I.un (Un.laid k hp (I.HH.fresh hp)) (I.HH.laid k hp new)
def Inv.write{x e:Addr}{o:HO}{t':Nat}(I:Inv X pins σ H s)(mu:Ui (H x))(he:e=x\/H e=some (.own x))(k:∀b u,b≠e->s.heap.get? b=some u->h'.get? b=some u)(Tu:∃u,h'.get? e=some u)
  (new:Il X.prog X.w (upd H x o) h' x o):Inv X pins σ (upd H x o) { s with heap:=h',toks:=t' }:=I.un (Un.write mu he k Tu) (I.HH.write mu he k Tu new)
def Inv.Ni{RG:aw8}(I:Inv X pins σ H s)(h:∀p∈RG,s.heap.get? p.1=some p.2/\H p.1=none/\p.1≠X.env.locals/\p.1∉X.fs/\∀v,p.2.data≠.cell v):Inv X RG σ H s:=
 ⟨I.ok,I.os,I.bare,I.base,I.loc,I.cell,I.free,I.J9,fun p hp=>(ab0.mp hp).elim (fun z=>I.pin p (aq0 _ z)) (h p),I.HH,I.len⟩
def vB{N:ax0}(hN:N.Nodup){i j:Nat}{x:Str}(a:N[i]?=some x)(b:N[j]?=some x):i=j:=by
 obtain⟨h1,e1⟩:=aa2.mp a;obtain⟨h2,e2⟩:=aa2.mp b;exact(List.getElem_inj hN).mp (e1.trans e2.symm)
def tP{M:Model}{A:ay2}{E:aw4}{i:Nat}{x:Str}{v:V}{u:Value}{Q:ax6}(I:Inv X pins σ H s)(hN:X.N.Nodup)(hi:X.N[i]?=some x)(hx:Loc X.env.scope x)(r:RelV v u)
  (h:∀s',Inv X pins (σ.set i (some v)) H s'->(∃a,SameBut a s.heap s'.heap/\(a=X.env.locals\/X.env.cells.lookup x=some a))->Q () s') (hf:X.fn x=true\/X.env.scope.names.lookup x=some .local:=by first|exact .inl rfl|exact .inr rfl|assumption):wpAny M A (storeName X.env x u) Q E s:=by
 obtain⟨m,hn,hl⟩:=id I.loc;have Li:(X.env.scope.kind == .class || (X.env.scope.kind == .module && X.env.locals != X.env.globals))=false:=by rw[I.ok.kind];rfl
 have Um:i<σ.length:=by rw[I.len];exact(aa2.mp hi).1
 have Si:=I.Si;have tracked:∀{a:Addr}{h':Heap},(∃o,s.heap.get? a=some o/\H a=none)->SameBut a s.heap h'->JG X.prog X.w H h':=fun {a h'} ha hs b ob e=>by
  obtain⟨_,_,OP⟩:=ha;refine(I.HH b ob e).Lv (fun c w' hc q=>(hs.2 c ?_).trans q) (fun _ q=>q) fun _ _ q=>q
  rintro rfl;rcases hc with rfl|hc
  ·rw[OP] at e;cases e
  ·rw[OP] at hc;cases hc
 rcases hx with hk|hk
 ·refine wpAny_storeName_local hk hn (fun h' VB hs=>?_) Li;obtain⟨oL,_,_,hoL,_⟩:=id hn;refine h _ ⟨I.ok,I.os,I.bare,⟨fun b o e n hb hx=>?_,fun b o e n hb hx=>?_,I.base.free,fun b o e hx=>?_,I.base.K5,I.base.KP,I.base.K6⟩,⟨_,VB,fun j y v' e1 e2 e3=>?_⟩,fun y c e=>?_,I.free,I.J9,fun p hp=>?_,tracked ⟨oL,hoL,I.free⟩ hs,by simpa using I.len⟩ ⟨_,hs,.inl rfl⟩
  ·exact(hs.2 b (ad0 (ac1 (ac6 e) I.ok.above))).trans (I.base.keep b o e n hb hx)
  ·obtain⟨sl,e1⟩:=I.base.slot b o e n hb hx;exact⟨sl,(hs.2 b (ad0 (ac1 (ac6 e) I.ok.above))).trans e1⟩
  ·obtain⟨o',e1⟩:=I.base.there b o e hx;exact⟨o',(hs.2 b (ad0 (ac1 (ac6 e) I.ok.above))).trans e1⟩
  ·by_cases hj:j=i
   ·subst hj;rw[hi] at e1;cases e1;rw[ak9 Um] at e2;cases e2;exact⟨u,r,.inl ⟨hk,by simp⟩⟩
   ·rw[ag6 (af8 hj)] at e2;obtain⟨u',r',q⟩:=hl j y v' e1 e2 e3;refine⟨u',r',?_⟩;rcases q with ⟨k,e⟩|⟨k,c,e,z⟩
    ·refine .inl ⟨k,?_⟩;have:y≠x:=fun e=>hj (vB hN e1 (e ▸ hi))
     simp[this,e]
    ·exact .inr ⟨k,c,e,z.sameBut hs (Si y c e)⟩
  ·obtain⟨w',z⟩:=I.cell y c e;exact⟨w',z.sameBut hs (Si y c e)⟩
  ·obtain⟨e,n,ne,nf,d⟩:=I.pin p hp;exact⟨(hs.2 p.1 ne).trans e,n,ne,nf,d⟩
 ·have Wu:X.fn x=true:=by
   rcases hf with z|z
   ·exact z
   ·rw[z] at hk;cases hk
  obtain⟨c,hc⟩:=I.ok.has x (.inl hk);obtain⟨w',z⟩:=I.cell x c hc;refine wpAny_storeName_cell I.ok.kind hk hc z (fun h' Uo hs=>?_);obtain⟨oc,Zp,Wv⟩:=id z;refine h { s with heap:=h' } ⟨I.ok,I.os,I.bare,⟨fun b o e n hb hx=>?_,fun b o e n hb hx=>?_,I.base.free,fun b o e hx=>?_,I.base.K5,I.base.KP,I.base.K6⟩,⟨m,hn.sameBut hs (af8 (Si x c hc)),fun j y v' e1 e2 e3=>?_⟩,fun y c' e=>?_,I.free,I.J9,fun p hp=>?_,tracked ⟨oc,Zp,I.J9 x c hc⟩ hs,by simpa using I.len⟩ ⟨c,hs,.inr hc⟩
  ·exact(hs.2 b (ad0 (ac1 (ac6 e) (I.ok.Tx x c Wu hc)))).trans (I.base.keep b o e n hb hx)
  ·obtain⟨sl,e1⟩:=I.base.slot b o e n hb hx;exact⟨sl,(hs.2 b (ad0 (ac1 (ac6 e) (I.ok.Tx x c Wu hc)))).trans e1⟩
  ·obtain⟨o',e1⟩:=I.base.there b o e hx;exact⟨o',(hs.2 b (ad0 (ac1 (ac6 e) (I.ok.Tx x c Wu hc)))).trans e1⟩
  ·by_cases hj:j=i
   ·subst hj;rw[hi] at e1;cases e1;rw[ak9 Um] at e2;cases e2;exact⟨u,r,.inr ⟨.inl hk,c,hc,Uo⟩⟩
   ·rw[ag6 (af8 hj)] at e2;obtain⟨u',r',q⟩:=hl j y v' e1 e2 e3;refine⟨u',r',?_⟩;rcases q with q|⟨k,c',e,z'⟩
    ·exact .inl q
    ·refine .inr ⟨k,c',e,z'.sameBut hs ?_⟩;rintro rfl;exact hj (vB hN e1 (I.ok.inj _ _ _ e hc ▸ hi))
  ·by_cases Up:c'=c
   ·subst Up;exact⟨_,Uo⟩
   ·obtain⟨w2,z2⟩:=I.cell y c' e;exact⟨w2,z2.sameBut hs Up⟩
  ·obtain⟨e,n,ne,nf,d⟩:=I.pin p hp;refine⟨(hs.2 p.1 ?_).trans e,n,ne,nf,d⟩;intro q;rw[q,Zp] at e;have q':oc=p.2:=ae5 e;exact d w' (by rw[<-q'];exact Wv)
def wY{M:Model}{A:ay2}{E:aw4}{i:Nat}{x:Str}{v:V}{u:Value}{Q:ax6}(I:Inv X pins σ H s)(hN:X.N.Nodup)(hi:X.N[i]?=some x)(hx:Loc X.env.scope x)(r:RelV v u)
  (h:∀s',Inv X pins (σ.set i (some v)) H s'->Q () s') (hf:X.fn x=true\/X.env.scope.names.lookup x=some .local:=by first|exact .inl rfl|exact .inr rfl|assumption):wpAny M A (storeName X.env x u) Q E s:=
 tP I hN hi hx r (fun s' I' _=>h s' I') hf
def Inv.RH{s':Shared}{ch:aw6}(I:Inv X pins σ H s)(ho:s'.os=s.os)(u:Un (Oe X.stack) ch H H' s.heap s'.heap)(HH:JG X.prog X.w H' s'.heap)(hg:AllBare s'.gens)
  (PB:∀b∈ch,(b∈X.ex\/X.JB.heap.objs.size<=b)/\b≠X.env.locals/\(∀x c,X.env.cells.lookup x=some c->c≠b)/\∀p∈X.pn++pins,p.1≠b):Inv X pins σ H' s':=by
 obtain⟨h',g',d',t',o'⟩:=s';have e:o'=s.os:=ho;subst e;exact I.call (g':=g') (t':=t') (d':=d') u HH hg PB
end
abbrev XK:=Value->Option Addr->Hp->Prop
abbrev St:=List (Option V)
abbrev VK:=V->Hp->Prop
abbrev TE:=St->Hp->VK->Prop
abbrev TT:=St->Hp->(Bool->Hp->Prop)->Prop
structure Ends where
 nx:St->Hp->Prop
 rt:VK
 bk:St->Hp->Prop:=fun _ _=>False
 ct:St->Hp->Prop:=fun _ _=>False
abbrev TS:=Ends->St->Hp->Prop
def EP(X:Cx)(pins:aw8)(σ:St)(Q:VK)(u:Value)(s':Shared):Prop:=∃v H',Inv X pins σ H' s'/\RelV v u/\Q v H'
def TP(X:Cx)(pins:aw8)(σ:St)(Q:Bool->Hp->Prop)(b:Bool)(s':Shared):Prop:=∃H',Inv X pins σ H' s'/\Q b H'
def AP(X:Cx)(pins:aw8)(σ:St)(Q:List V->Hp->Prop)(us:aw7)(s':Shared):Prop:=∃vs H',Inv X pins σ H' s'/\Vals vs us/\Q vs H'
def SP(X:Cx)(pins:aw8)(D:Ends)(f:Flow)(s':Shared):Prop:=
 match f with
 |.next=>∃Ia H',Inv X pins Ia H' s'/\D.nx Ia H'
 |.brk=>∃Ia H',Inv X pins Ia H' s'/\D.bk Ia H'
 |.cont=>∃Ia H',Inv X pins Ia H' s'/\D.ct Ia H'
 |.ret u=>∃v Ia H',Inv X pins Ia H' s'/\RelV v u/\D.rt v H'
def PE(X:Cx)(e:Expr)(t:TE):Prop:=
 ∀(pins:aw8) (s:Shared) (σ:St) (H:Hp) (Q:VK),Inv X pins σ H s->t σ H Q->wpAny (model X.prog X.w) X.A (eval e X.env) (EP X pins σ Q) X.xe s
def PT(X:Cx)(e:Expr)(t:TT):Prop:=
 ∀(pins:aw8) (s:Shared) (σ:St) (H:Hp) (Q:Bool->Hp->Prop),Inv X pins σ H s->t σ H Q->wpAny (model X.prog X.w) X.A (isTrue e X.env (eval e X.env)) (TP X pins σ Q) X.xe s
def PW(X:Cx)(e:Expr)(t:TT):Prop:=
 ∀(whole:Sem Value) (pins:aw8) (s:Shared) (σ:St) (H:Hp) (Q:Bool->Hp->Prop),Inv X pins σ H s->t σ H Q->wpAny (model X.prog X.w) X.A (isTrue e X.env whole) (TP X pins σ Q) X.xe s
def PW.pt{X:Cx}{e:Expr}{t:TT}(h:PW X e t):PT X e t:=h _
def Uq(X:Cx)(st:List Stmt)(t:TS):Prop:=
 ∀(pins:aw8) (s:Shared) (σ:St) (H:Hp) (D:Ends),Inv X pins σ H s->t D σ H->wpAny (model X.prog X.w) X.A (execs st X.env) (SP X pins D) X.xe s
def RI{α:Type}{t:Sem α}{Q Q':α->Shared->Prop}{M:Model}{A:ay2}{E:aw4}{s:Shared}(h:wpAny M A t Q E s)(hQ:∀a s,Q a s->Q' a s):wpAny M A t Q' E s:=ad6 h hQ fun _ _ x=>x
section
variable{X:Cx}
def GS(i:Nat):TE:=fun σ H Q=>∃v,σ[i]?=some (some v)/\Q v H
def tC(v:V):TE:=fun _ H Q=>Q v H
def Fj{i:Nat}{x:Str}{pos:Pos}(hN:X.N[i]?=some x)(hv:Wo X.env.scope x)(hd:(x == ("__debug__":Str))=false:=by decide)(Of:(x == ("__classdict__":Str))=false:=by decide):PE X (.Name x pos) (GS i):=by
 intro pins s σ H Q I h;obtain⟨v,e,h⟩:=h;obtain⟨m,hn,hl⟩:=I.loc;obtain⟨u,r,l⟩:=hl i x v hN e hv;have fin:EP X pins σ Q u s:=⟨v,H,I,r,h⟩;rcases l with ⟨hk,hm⟩|⟨hk,c,hc,Im⟩
 ·exact wpAny_Name (wpAny_loadName_local I.ok.kind hk hn hm fin) hd
 ·rcases hk with hk|hk
  ·exact wpAny_Name (wpAny_loadName_cell I.ok.kind hk hc Im fin) hd
  ·exact wpAny_Name (wpAny_loadName_free I.ok.kind hk hc Im fin Of) hd
def Gl(X:Cx)(x:Str):Prop:=X.env.kindOf x=some .globalImplicit
def lO{E:aw4}{pins:aw8}{s:Shared}{σ:St}{H:Hp}{x:Str}{u:Value}{pos:Pos}{Q:aw4}(I:Inv X pins σ H s)(hg:Gl X x)(hm:X.mg x=some u)(h:Q u s)
  (hd:(x == ("__debug__":Str))=false:=by decide):wpAny (model X.prog X.w) X.A (eval (.Name x pos) X.env) Q E s:=
 ar7 I.ok.kind hg (Calls.loadGlobal_global (by rw[I.ok.glob];exact I.mod.glob.keeps I.bk) hm h) hd
def jL{E:aw4}{pins:aw8}{s:Shared}{σ:St}{H:Hp}{x:Str}{u:Value}{pos:Pos}{Q:aw4}(I:Inv X pins σ H s)(hg:Gl X x)(hm:X.mg x=none)(hv:bootBuiltins x=some u)(h:Q u s)
  (hn:x≠"__name__":=by decide) (hd:(x == ("__debug__":Str))=false:=by decide):wpAny (model X.prog X.w) X.A (eval (.Name x pos) X.env) Q E s:=by
 obtain⟨mb,h1,h2⟩:=I.mod.blt;exact ar7 I.ok.kind hg (Calls.loadGlobal_builtin (by rw[I.ok.glob];exact I.mod.glob.keeps I.bk) hm (by rw[I.ok.blt];exact h1.keeps I.bk) ((h2 x hn).trans hv) h) hd
variable{a b:Expr}{ta tb:TE}{pos:Pos}
def RelV.PU{x:V}{v:Value}(r:RelV x v):(v == Value.none)=decide (x=.Hw):=by
 cases x with
 |Hw=>cases r;rfl
 |bl _=>cases r;rfl
 |int _=>obtain⟨t,rfl⟩:=r;rfl
 |str _=>obtain⟨t,rfl⟩:=r;rfl
 |Sf _=>obtain⟨t,rfl⟩:=r;rfl
 |Sg _=>obtain⟨t,rfl⟩:=r;rfl
 |ref _=>cases r;rfl
 |ty _=>cases r;rfl
def tB(t:TE):TT:=fun σ H Q=>t σ H fun x H1=>∃c,x=.bl c/\Q c H1
variable{tA Ur:TT}{rest:ax8}
end
def JH(K:aw5)(H:Hp)(a:Addr)(xs:az0):Prop:=
 Rd H a (.lst xs)\/
  ∃(o:Obj) (y_:ax2) (n:Nat),K.lookup a=some o/\o.cls=.type "list"/\o.dict=none/\o.data=.seq y_ n/\y_.size<=sizeLine/\Vals xs y_.toList
def Kq(K:aw5)(H:Hp)(a:Addr)(xs:az0):Prop:=
 Rd H a (.tup xs)\/
  ∃(o:Obj) (y_:ax2) (n:Nat),K.lookup a=some o/\o.cls=.type "tuple"/\o.data=.seq y_ n/\y_.size<=sizeLine/\Vals xs y_.toList
def GW:Value->Option V
 |.none=>some .Hw
 |.bool b=>some (.bl b)
 |.int i _=>some (.int i)
 |.str x _=>some (.str x)
 |.bytes b _=>some (.Sf b)
 |.float b _=>some (.Sg b)
 |.ref a=>some (.ref a)
 |.type n=>some (.ty n)
 |_=>none
def RelV.abs{x:V}{u:Value}(r:RelV x u):GW u=some x:=by
 cases x with
 |Hw=>cases r;rfl
 |bl _=>cases r;rfl
 |int _=>obtain⟨t,rfl⟩:=r;rfl
 |str _=>obtain⟨t,rfl⟩:=r;rfl
 |Sf _=>obtain⟨t,rfl⟩:=r;rfl
 |Sg _=>obtain⟨t,rfl⟩:=r;rfl
 |ref _=>cases r;rfl
 |ty _=>cases r;rfl
def RelV.inj{x y:V}{u:Value}(r:RelV x u)(q:RelV y u):x=y:=ae5 (r.abs.symm.trans q.abs)
theorem Vals.inj:∀{xs ys:az0}{us:aw7},Vals xs us->Vals ys us->xs=ys
 |_,_,_,.nil,.nil=>rfl
 |_,_,_,.cons r t,.cons r' t'=>by rw[r.inj r',Vals.inj t t']
section
variable{X:Cx}{pins:aw8}{σ:St}{H:Hp}{s:Shared}{a:Addr}{xs ys:az0}
def JH.of{K:aw5}(h:H a=some (.lst xs)):JH K H a xs:=.inl (.inl h)
def Kq.of{K:aw5}(h:H a=some (.tup xs)):Kq K H a xs:=.inl (.inl h)
def Inv.list(I:Inv X pins σ H s)(h:JH X.K H a xs):∃y_:List Value,Vals xs y_/\PlainL s.heap a y_.toArray/\xs.length<=sizeLine:=by
 rcases h with h|⟨o,y_,n,hk,hc,hd,hs,hz,r⟩
 ·obtain⟨z,y_,n,r,e⟩:=h.ok I.HH;exact⟨y_,r,⟨_,n,e,rfl,rfl,rfl⟩,z⟩
 ·refine⟨y_.toList,r,⟨o,n,I.LS a o hk,hc,hd,by simpa using hs⟩,?_⟩;have e:=r.length;simp only[af0] at e;omega
def Inv.tuple(I:Inv X pins σ H s)(h:Kq X.K H a xs):∃y_:List Value,Vals xs y_/\IsTup s.heap a y_.toArray/\xs.length<=sizeLine:=by
 rcases h with h|⟨o,y_,n,hk,hc,hs,hz,r⟩
 ·obtain⟨z,y_,r,p⟩:=h.ok I.HH;exact⟨y_,r,p,z⟩
 ·refine⟨y_.toList,r,⟨o,I.LS a o hk,hc,n,by simpa using hs⟩,?_⟩;have e:=r.length;simp only[af0] at e;omega
def Inv.NS(I:Inv X pins σ H s)(h:JH X.K H a xs)(h':JH X.K H a ys):xs=ys:=by
 obtain⟨y_,r,⟨o,n,e,_,_,d⟩,_⟩:=I.list h;obtain⟨its',r',⟨o',n',e',_,_,d'⟩,_⟩:=I.list h';rw[e] at e';cases e';rw[d] at d'
 injection d' with d1 _
 have:y_=its':=by simpa using congrArg toList d1
 subst this;exact r.inj r'
def Inv.M6(I:Inv X pins σ H s)(h:Kq X.K H a xs)(h':Kq X.K H a ys):xs=ys:=by
 obtain⟨y_,r,⟨o,e,_,n,d⟩,_⟩:=I.tuple h;obtain⟨its',r',⟨o',e',_,n',d'⟩,_⟩:=I.tuple h';rw[e] at e';cases e';rw[d] at d'
 injection d' with d1 _
 have:y_=its':=by simpa using congrArg toList d1
 subst this;exact r.inj r'
end
abbrev Cx.HV(X:Cx)(E:aw4):Cx:={ X with xe:=E }
abbrev Cx.RJ(X:Cx):Cx:=X.HV fun _ _=>False
def Cx.Ok.HV{X:Cx}(ok:X.Ok)(E:aw4):(X.HV E).Ok:=
 ⟨ok.mod,ok.kind,ok.glob,ok.blt,ok.above,ok.inj,ok.has,ok.Tx,ok.hd,ok.frames,ok.Uk,ok.Wq,ok.bs,ok.PA,ok.Pb,ok.PS,ok.Lh,ok.QR⟩
def Cx.Ok.HR{X:Cx}{E:aw4}(ok:(X.HV E).Ok):X.Ok:=
 ⟨ok.mod,ok.kind,ok.glob,ok.blt,ok.above,ok.inj,ok.has,ok.Tx,ok.hd,ok.frames,ok.Uk,ok.Wq,ok.bs,ok.PA,ok.Pb,ok.PS,ok.Lh,ok.QR⟩
section
variable{X:Cx}{pins:aw8}{σ:St}{H:Hp}{s:Shared}{E:aw4}
def Inv.HV(I:Inv X pins σ H s)(E:aw4):Inv (X.HV E) pins σ H s:=⟨I.ok.HV E,I.os,I.bare,I.base,I.loc,I.cell,I.free,I.J9,I.pin,I.HH,I.len⟩
def Inv.HR(I:Inv (X.HV E) pins σ H s):Inv X pins σ H s:=⟨I.ok.HR,I.os,I.bare,I.base,I.loc,I.cell,I.free,I.J9,I.pin,I.HH,I.len⟩
theorem SP.HR{D:Ends}{f:Flow}{s':Shared}(h:SP (X.HV E) pins D f s'):SP X pins D f s':=by
 cases f with
 |next=>obtain⟨Ia,H',I,q⟩:=h;exact⟨Ia,H',I.HR,q⟩
 |brk=>obtain⟨Ia,H',I,q⟩:=h;exact⟨Ia,H',I.HR,q⟩
 |cont=>obtain⟨Ia,H',I,q⟩:=h;exact⟨Ia,H',I.HR,q⟩
 |ret u=>obtain⟨v,Ia,H',I,r,q⟩:=h;exact⟨v,Ia,H',I.HR,r,q⟩
def PE.RJ{e:Expr}{t:TE}(h:PE X.RJ e t):PE X e t:=fun pins s σ H Q I hw=>
 ad6 (h pins s σ H Q (I.HV _) hw) (fun _ _ ⟨v,H',I',r,q⟩=>⟨v,H',I'.HR,r,q⟩) fun _ _ z=>False.elim z
def PT.RJ{e:Expr}{t:TT}(h:PT X.RJ e t):PT X e t:=fun pins s σ H Q I hw=>
 ad6 (h pins s σ H Q (I.HV _) hw) (fun _ _ ⟨H',I',q⟩=>⟨H',I'.HR,q⟩) fun _ _ z=>False.elim z
def Uq.RJ{st:List Stmt}{t:TS}(h:Uq X.RJ st t):Uq X st t:=fun pins s σ H D I hw=>
 ad6 (h pins s σ H D (I.HV _) hw) (fun _ _ q=>q.HR) fun _ _ z=>False.elim z
end
section
variable{X:Cx}{st:Stmt}{rest:List Stmt}{t u:TS}{e:Expr}{te:TE}{pos:Pos}
def Inv.quiet{pins:aw8}{σ:St}{H:Hp}{s:Shared}(I:Inv X pins σ H s):interactive X.env=false:=by simp[interactive,I.ok.kind]
end
abbrev TG:=V->St->Hp->(St->Hp->Prop)->Prop
def PG(X:Cx)(target:Expr)(t:TG):Prop:=
 ∀(pins:aw8) (s:Shared) (σ:St) (H:Hp) (v:V) (u:Value) (Q:St->Hp->Prop),Inv X pins σ H s->RelV v u->t v σ H Q->
  wpAny (model X.prog X.w) X.A (assign target X.env u) (fun _ s'=>∃Ia H',Inv X pins Ia H' s'/\Q Ia H') X.xe s
abbrev G8:=V->V->V->Hp->(Hp->Prop)->Prop
def GR(X:Cx)(t:G8):Prop:=
 ∀(pins:aw8) (s:Shared) (σ:St) (H:Hp) (o i v:V) (ov iv u:Value) (Q:Hp->Prop),Inv X pins σ H s->RelV o ov->RelV i iv->RelV v u->t o i v H Q->
  wpAny (model X.prog X.w) X.A (setItem ov iv u) (fun _ s'=>∃H',Inv X pins σ H' s'/\Q H') X.xe s
section
variable{X:Cx}{pos:Pos}
def FX(i:Nat):TG:=fun v σ H Q=>Q (σ.set i (some v)) H
def DW{i:Nat}{x:Str}(hN:X.N.Nodup)(hi:X.N[i]?=some x)(hx:Loc X.env.scope x)(hf:X.fn x=true\/X.env.scope.names.lookup x=some .local:=by first|exact .inl rfl|exact .inr rfl|assumption):PG X (.Name x pos) (FX i):=by
 intro pins s σ H v u Q I r h;exact wpAny_assign_Name (wY I hN hi hx r (fun s' I'=>⟨_,H,I',h⟩) hf)
end
structure It where
 go:Nat->Hp->Prop
 Zq:Nat->Hp->V->Hp->Prop
 stop:Nat->Hp->Prop
def LK(X:Cx)(pins:aw8)(H:Hp)(b:Addr):Prop:=
 H b=none/\b≠X.env.locals/\b∉X.fs/\(b∈X.ex\/X.JB.heap.objs.size<=b)/\(∀x c,X.env.cells.lookup x=some c->c≠b)/\∀p∈X.pn++pins,p.1≠b
def Inv.Pd{X:Cx}{pins:aw8}{σ:St}{H H':Hp}{s:Shared}{b:Addr}(I:Inv X pins σ H s)(hb:s.heap.objs.size<=b)(hn:H' b=none):LK X pins H' b:=by
 refine⟨hn,ar1 (ac1 I.lt hb),I.Ws hb,.inr (ab5 I.sz hb),fun x c e z=>?_,fun p hp z=>?_⟩
 ·obtain⟨v,q⟩:=I.cell x c e;exact absurd (ac1 q.lt (by rw[z];exact hb)) (ak3 _)
 ·exact absurd (ac1 (ac6 (I.pin p hp).1) (by rw[z];exact hb)) (ak3 _)
structure Turn(P:ay1)(w:ay3)(K:aw5)(tg:Expr)(J:It)(fp:aw6)(it:Addr)(tn:Nat->Heap->Prop):Prop where
 mem:it∈fp
 obj:∀i h,tn i h->∀b∈fp,∃o,h.get? b=some o/\∀v,o.data≠.cell v
 keep:∀i h h',tn i h->(∀b∈fp,∀o,h.get? b=some o->h'.get? b=some o)->tn i h'
 item:∀(X:Cx),X.prog=P->X.w=w->X.K=K->X.calm=true->∀(i:Nat) (pins:aw8) (s:Shared) (σ:St) (H:Hp) (E:aw4),Inv X pins σ H s->(∀b∈fp,LK X pins H b)->tn i s.heap->J.go i H->
  wpAny (model P w) X.A (pyNext (.ref it)) (fun r s1=>∃u,r=some u/\
   wpAny (model P w) X.A (letOwnedTupleGo tg (.ref it) u) (fun _ s2=>∃x H',Inv X pins σ H' s2/\RelV x u/\J.Zq i H x H'/\tn (i+1) s2.heap/\∀b∈fp,H' b=none) E s1) E s
 done:∀(X:Cx),X.prog=P->X.w=w->X.K=K->X.calm=true->∀(i:Nat) (pins:aw8) (s:Shared) (σ:St) (H:Hp) (E:aw4),Inv X pins σ H s->(∀b∈fp,LK X pins H b)->tn i s.heap->J.stop i H->
  wpAny (model P w) X.A (pyNext (.ref it)) (fun r s1=>r=none/\Inv X pins σ H s1) E s
 self:∀(A:ay2) (i:Nat) (s:Shared) (Q:aw4) (E:aw4),tn i s.heap->Q (.ref it) s->wpAny (model P w) A (pyIter (.ref it)) Q E s
abbrev TI:=St->Hp->(It->Hp->Prop)->Prop
def VC(X:Cx)(pins:aw8)(σ:St)(tg:Expr)(R:It->Hp->Prop)(OQ:Value)(s2:Shared):Prop:=
 ∃(it:Addr) (fp:aw6) (tn:Nat->Heap->Prop) (J:It) (H':Hp),OQ=.ref it/\Inv X pins σ H' s2/\Turn X.prog X.w X.K tg J fp it tn/\tn 0 s2.heap/\(∀b∈fp,LK X pins H' b)/\R J H'
def PI(X:Cx)(tg iter:Expr)(wi:TI):Prop:=
 ∀(pins:aw8) (s:Shared) (σ:St) (H:Hp) (R:It->Hp->Prop),Inv X pins σ H s->wi σ H R->
  wpAny (model X.prog X.w) X.A (eval iter X.env) (fun v s1=>wpAny (model X.prog X.w) X.A (pyIter v) (VC X pins σ tg R) X.xe s1) X.xe s
def Bx{M:Model}{A:ay2}{E:aw4}{s:Shared}{tg:Expr}{it:Addr}{u:Value}{o:Obj}{n:String}{vs:ax2}{Q:ax6}(ho:s.heap.get? it=some o)(hc:o.cls=.type n)(hd:o.data=.fields vs)
  (hn:["enumerate","zip","dict_itemiterator","dict_reverseitemiterator","odict_iterator","itertools.zip_longest","itertools.pairwise"].contains n=false) (hQ:Q () s):wpAny M A (letOwnedTupleGo tg (.ref it) u) Q E s:=by
 unfold letOwnedTupleGo;cases tg<;>first
  |exact aa4 hQ
  |(cases u<;>first
    |exact aa4 hQ
    |(refine aa0 (wpAny_load ho ?_)
      rw[hc,hd];show wpAny M A (if (["enumerate","zip","dict_itemiterator","dict_reverseitemiterator","odict_iterator","itertools.zip_longest","itertools.pairwise"].contains n && vs[0]? == some (rawInt _))=true then _ else _) Q E s;rw[ab1 (by intro h;rw[hn,Bool.false_and] at h;cases h)];exact aa4 hQ))
def Ww(K:aw5)(a:Addr):It:=
 ⟨fun i H=>∃xs x,JH K H a xs/\xs[i]?=some x,fun i H x H'=>H'=H/\∀xs,JH K H a xs->xs[i]?=some x,fun i H=>∃xs,JH K H a xs/\xs.length<=i⟩
def Zr(K:aw5)(a:Addr):It:=
 ⟨fun i H=>∃xs x,Kq K H a xs/\xs[i]?=some x,fun i H x H'=>H'=H/\∀xs,Kq K H a xs->xs[i]?=some x,fun i H=>∃xs,Kq K H a xs/\xs.length<=i⟩
def tm{P:ay1}{w:ay3}{K:aw5}{tg:Expr}(a it:Addr):Turn P w K tg (Ww K a) [it] it (fun i h=>h.IsListIter it a i) where
 mem:=by simp
 obj:=fun i h st b hb=>by
  have e:b=it:=by simpa using hb
  subst e;obtain⟨o,e,c,d⟩:=st;exact⟨o,e,fun v z=>by rw[d] at z;cases z⟩
 keep:=fun i h h' st k=>st.at fun o e=>k it (by simp) o e
 item:=by
  intro X hP hw hK hc i pins s σ H E I hf st hg;subst hP hw hK;obtain⟨xs,x,hq,hx⟩:=hg;obtain⟨y_,rv,p,hz⟩:=I.list hq;obtain⟨u,hu,ru⟩:=rv.get hx;obtain⟨f0,f1,f2,f3,f4,f5⟩:=hf it (by simp);refine wpAny_pyNext_list_item st p.isList (x:=u) (by simpa using hu) fun h' PC sb=>?_
  have I1:Inv X pins σ H { s with heap:=h' }:=I.turned (t':=s.toks) (fun b o hb e=>(sb.2 b hb).trans e) f0 f1 f3 f4 f5;obtain⟨o,e,c,d⟩:=id PC;exact⟨u,rfl,Bx (s:={ s with heap:=h' }) e c d (by decide) ⟨x,H,I1,ru,⟨rfl,fun ys hy=>by rw[I.NS hy hq];exact hx⟩,PC,fun b hb=>(hf b hb).1⟩⟩
 done:=by
  intro X hP hw hK hc i pins s σ H E I hf st hg;subst hP hw hK;obtain⟨xs,hq,hx⟩:=hg;obtain⟨y_,rv,p,hz⟩:=I.list hq;obtain⟨f0,f1,f2,f3,f4,f5⟩:=hf it (by simp);have hl:=rv.length;exact wpAny_pyNext_list_end (I.ok.hd hc) st p.isList (by simp;omega) fun h' eb=>⟨rfl,I.turned (t':=s.toks) (fun b o hb e=>eb b o hb e) f0 f1 f3 f4 f5⟩
 self:=fun _ _ _ _ _ st h=>wpAny_pyIter_listiter st h
def xG{P:ay1}{w:ay3}{K:aw5}{tg:Expr}(a it:Addr):Turn P w K tg (Zr K a) [it] it (fun i h=>h.IsTupleIter it a i) where
 mem:=by simp
 obj:=fun i h st b hb=>by
  have e:b=it:=by simpa using hb
  subst e;obtain⟨o,e,c,d⟩:=st;exact⟨o,e,fun v z=>by rw[d] at z;cases z⟩
 keep:=fun i h h' st k=>st.at fun o e=>k it (by simp) o e
 item:=by
  intro X hP hw hK hc i pins s σ H E I hf st hg;subst hP hw hK;obtain⟨xs,x,hq,hx⟩:=hg;obtain⟨y_,rv,p,hz⟩:=I.tuple hq;obtain⟨u,hu,ru⟩:=rv.get hx;obtain⟨f0,f1,f2,f3,f4,f5⟩:=hf it (by simp);refine wpAny_pyNext_tuple_item st (show s.heap.IsTuple a y_.toArray from p) (x:=u) (by simpa using hu) fun h' PC sb=>?_
  have I1:Inv X pins σ H { s with heap:=h' }:=I.turned (t':=s.toks) (fun b o hb e=>(sb.2 b hb).trans e) f0 f1 f3 f4 f5;obtain⟨o,e,c,d⟩:=id PC;exact⟨u,rfl,Bx (s:={ s with heap:=h' }) e c d (by decide) ⟨x,H,I1,ru,⟨rfl,fun ys hy=>by rw[I.M6 hy hq];exact hx⟩,PC,fun b hb=>(hf b hb).1⟩⟩
 done:=by
  intro X hP hw hK hc i pins s σ H E I hf st hg;subst hP hw hK;obtain⟨xs,hq,hx⟩:=hg;obtain⟨y_,rv,p,hz⟩:=I.tuple hq;obtain⟨f0,f1,f2,f3,f4,f5⟩:=hf it (by simp);have hl:=rv.length;exact wpAny_pyNext_tuple_end (I.ok.hd hc) st (show s.heap.IsTuple a y_.toArray from p) (by simp;omega) fun h' eb=>⟨rfl,I.turned (t':=s.toks) (fun b o hb e=>eb b o hb e) f0 f1 f3 f4 f5⟩
 self:=fun _ _ _ _ _ st h=>wpAny_pyIter_tupleiter st h
section
variable{X:Cx}{tg:Expr}
def ou(fp:aw6)(h:Heap):List (Addr×Obj):=fp.filterMap fun b=>(h.get? b).map fun o=>(b,o)
def kz{fp:aw6}{h:Heap}{b:Addr}{o:Obj}(hb:b∈fp)(e:h.get? b=some o):(b,o)∈ou fp h:=List.mem_filterMap.mpr ⟨b,hb,by rw[e];rfl⟩
def AL{fp:aw6}{h:Heap}{p:Addr×Obj}(hp:p∈ou fp h):p.1∈fp/\h.get? p.1=some p.2:=by
 obtain⟨b,hb,e⟩:=List.mem_filterMap.mp hp;cases q:h.get? b with
 |none=>rw[q] at e;cases e
 |some o=>
  rw[q] at e;have e':(b,o)=p:=ae5 e;subst e';exact⟨hb,q⟩
def Inv.pinned{pins:aw8}{σ:St}{H:Hp}{s:Shared}{fp:aw6}(I:Inv X pins σ H s)(hf:∀b∈fp,LK X pins H b)(ho:∀b∈fp,∃o,s.heap.get? b=some o/\∀v,o.data≠.cell v):Inv X (pins++ou fp s.heap) σ H s:=
 I.Ni fun p hp=>(ab0.mp hp).elim (fun z=>I.pin p (af3 _ z)) fun z=>by
  obtain⟨hb,e⟩:=AL z;obtain⟨f0,f1,f2,_⟩:=hf p.1 hb;obtain⟨o,e',d⟩:=ho p.1 hb;rw[e] at e';cases e';exact⟨e,f0,f1,f2,d⟩
def Inv.Lj{pins pl:aw8}{σ:St}{H:Hp}{s:Shared}(I:Inv X (pins++pl) σ H s):Inv X pins σ H s:=I.Ni fun p hp=>I.pin p (af3 _ (aq0 _ hp))
end
abbrev R2:=V->V->Hp->VK->Prop
def Nj(X:Cx)(f:ay0)(r:R2):Prop:=
 ∀(pins:aw8) (s:Shared) (σ:St) (H:Hp) (x y:V) (v u:Value) (Q:VK),Inv X pins σ H s->RelV x v->RelV y u->r x y H Q->
  wpAny (model X.prog X.w) X.A (f v u) (EP X pins σ Q) X.xe s
def Wx(X:Cx)(f:Value->Sem Value)(r:V->Hp->VK->Prop):Prop:=
 ∀(pins:aw8) (s:Shared) (σ:St) (H:Hp) (x:V) (v:Value) (Q:VK),Inv X pins σ H s->RelV x v->r x H Q->
  wpAny (model X.prog X.w) X.A (f v) (EP X pins σ Q) X.xe s
def K2(X:Cx)(f:Value)(r:List V->Hp->VK->Prop):Prop:=
 ∀(pins:aw8) (s:Shared) (σ:St) (H:Hp) (xs:az0) (us:aw7) (Q:VK),Inv X pins σ H s->Vals xs us->r xs H Q->
  wpAny (model X.prog X.w) X.A (call f us) (EP X pins σ Q) X.xe s
def Hk(X:Cx)(r:V->Hp->(Bool->Hp->Prop)->Prop):Prop:=
 ∀(pins:aw8) (s:Shared) (σ:St) (H:Hp) (x:V) (v:Value) (Q:Bool->Hp->Prop),Inv X pins σ H s->RelV x v->r x H Q->
  wpAny (model X.prog X.w) X.A (truthy v) (TP X pins σ Q) X.xe s
def rI(C:Int->Int->Prop)(g:Int->Int->V):R2:=fun x y H Q=>∃i j,x=.int i/\y=.int j/\C i j/\Q (g i j) H
def Tz(g:Int->Int->V):R2:=fun x y H Q=>∃i j,x=.int i/\y=.int j/\Q (g i j) H
def rU(g:Int->V):V->Hp->VK->Prop:=fun x H Q=>∃i,x=.int i/\Q (g i) H
section
variable{X:Cx}{a b c:Expr}{ta tb tc:TE}{pos:Pos}
def VD{f:ay0}{C:Int->Int->Prop}{g:Int->Int->Int}
  (rule:∀(i j:Int) (t u:Tok) (s:Shared) (Q:aw4) (E:aw4),C i j->Q (.int (g i j) s.toks) { s with toks:=s.toks+1 }->wpAny (model X.prog X.w) X.A (f (.int i t) (.int j u)) Q E s) :
  Nj X f (rI C fun i j=>.int (g i j)):=by
 intro pins s σ H x y v u Q I rx ry h;obtain⟨i,j,rfl,rfl,hc,q⟩:=h;obtain⟨t,rfl⟩:=rx;obtain⟨t',rfl⟩:=ry;exact rule i j t t' s _ _ hc ⟨.int (g i j),H,I.tok _,⟨_,rfl⟩,q⟩
def Ei{f:ay0}{g:Int->Int->Bool}
  (rule:∀(i j:Int) (t u:Tok) (s:Shared) (Q:aw4) (E:aw4),Q (.bool (g i j)) s->wpAny (model X.prog X.w) X.A (f (.int i t) (.int j u)) Q E s) :
  Nj X f (Tz fun i j=>.bl (g i j)):=by
 intro pins s σ H x y v u Q I rx ry h;obtain⟨i,j,rfl,rfl,q⟩:=h;obtain⟨t,rfl⟩:=rx;obtain⟨t',rfl⟩:=ry;exact rule i j t t' s _ _ ⟨.bl (g i j),H,I,rfl,q⟩
def Fs(i j:Int):Prop:=0<j/\j<1073741824
def Pe(i j:Int):Prop:=(-(2 ^ 64)<i/\i<2 ^ 64)\/(-(2 ^ 64)<j/\j<2 ^ 64)
def Pe.ok{i j:Int}(h:Pe i j):IntMulOk i j:=by
 rcases h with ⟨h1,h2⟩|⟨h1,h2⟩
 ·exact .of_left (intBits_le_64 h1 h2)
 ·exact .of_right (intBits_le_64 h1 h2)
def Sj:Nj X (binaryOp .Mult) (rI Pe fun i j=>.int (i * j)):=VD fun _ _ _ _ _ _ _ hc q=>mul_int q hc.ok
def Db:Nj X (binaryOp .FloorDiv) (rI Fs fun i j=>.int (i / j)):=VD fun i j _ _ _ _ _ hc q=>by
 have h1:(0:Int)<j:=hc.1;have h2:j<1073741824:=hc.2;exact floordiv_int (by omega) (by rw[Int.fdiv_eq_ediv_of_nonneg i (by omega)];exact q) (.inl (PyProof.noPylong_small (by omega)))
def ER:Nj X (binaryOp .Mod) (rI (fun _ j=>0<j) fun i j=>.int (i % j)):=VD fun i j _ _ _ _ _ hc q=>by
 have h1:(0:Int)<j:=hc;exact mod_int' (by omega) (by rw[Int.fmod_eq_emod_of_nonneg i (by omega)];exact q)
def unI{f:Value->Sem Value}{g:Int->Int}
  (rule:∀(i:Int) (t:Tok) (s:Shared) (Q:aw4) (E:aw4),Q (.int (g i) s.toks) { s with toks:=s.toks+1 }->wpAny (model X.prog X.w) X.A (f (.int i t)) Q E s) :
  Wx X f (rU fun i=>.int (g i)):=by
 intro pins s σ H x v Q I rx h;obtain⟨i,rfl,q⟩:=h;obtain⟨t,rfl⟩:=rx;exact rule i t s _ _ ⟨.int (g i),H,I.tok _,⟨_,rfl⟩,q⟩
def FH:Wx X (unaryOp .USub) (rU fun i=>.int (-i)):=unI fun _ _ _ _ _ q=>neg_int q
def Gx:Nj X (compareOp .Lt) (Tz fun i j=>.bl (decide (i<j))):=Ei fun _ _ _ _ _ _ _ q=>lt_int q
def GC:Nj X (compareOp .LtE) (Tz fun i j=>.bl (decide (i<=j))):=Ei fun _ _ _ _ _ _ _ q=>le_int q
def FR:Nj X (compareOp .Gt) (Tz fun i j=>.bl (decide (j<i))):=Ei fun _ _ _ _ _ _ _ q=>gt_int q
def GA:Nj X (compareOp .GtE) (Tz fun i j=>.bl (decide (j<=i))):=Ei fun _ _ _ _ _ _ _ q=>ge_int q
def Nj.or{f:ay0}{r r':R2}(h:Nj X f r)(h':Nj X f r'):Nj X f (fun x y H Q=>r x y H Q\/r' x y H Q):=by
 intro pins s σ H x y v u Q I rx ry q;rcases q with q|q
 ·exact h pins s σ H x y v u Q I rx ry q
 ·exact h' pins s σ H x y v u Q I rx ry q
def aL(b:Expr){op:CmpOp}(h:op≠.In:=by decide)(h2:op≠.NotIn:=by decide):behindInMarks op b=false:=by
 have e1:(op == CmpOp.In)=false:=by cases op<;>first|rfl|exact absurd rfl h
 have e2:(op == CmpOp.NotIn)=false:=by cases op<;>first|rfl|exact absurd rfl h2
 cases b<;>simp[behindInMarks,e1,e2]
def Gr(K:aw5)(x:V)(H:Hp)(k:Bool):Prop:=
 match x with
 |.Hw=>k=false
 |.bl b=>k=b
 |.int i=>k=(i != 0)
 |.str y=>y.length<=sizeLine/\k=((y.length:Int) != 0)
 |.Sf y=>y.size<=sizeLine/\k=((y.size:Int) != 0)
 |.ref p=>(∃xs,JH K H p xs/\k = !xs.isEmpty)\/(∃xs,Kq K H p xs/\k = !xs.isEmpty)\/∃kvs,H p=some (.dK kvs)/\k = !kvs.isEmpty
 |_=>False
def xY{κ:Type}{kvs:List (κ×V)}{vs:List (κ×Value)}(r:KV kvs vs):(!vs.isEmpty) = !kvs.isEmpty:=by
 cases r<;>rfl
def rg{xs:az0}{y_:aw7}(r:Vals xs y_):(!y_.toArray.isEmpty) = !xs.isEmpty:=by
 cases r<;>simp
def mT:(sizeLine:Nat)<2 ^ 63:=by rw[aq1];decide
def FG:Hk X (fun x H Q=>∃k,Gr X.K x H k/\Q k H):=by
 intro pins s σ H x v Q I rx h;obtain⟨k,e,q⟩:=h;have hl:=mT;have hs:sizeLine=16777216:=aq1;cases x with
 |Hw=>
  cases rx;have e':k=false:=e;subst e';exact truthy_none ⟨H,I,q⟩
 |bl b=>
  cases rx;have e':k=b:=e;subst e';exact ak0 ⟨H,I,q⟩
 |int i=>
  obtain⟨t,rfl⟩:=rx;have e':k=(i != 0):=e;subst e';exact PySem.P.truthy_int ⟨H,I,q⟩
 |str y=>
  obtain⟨t,rfl⟩:=rx;obtain⟨hy,e'⟩:y.length<=sizeLine/\k=((y.length:Int) != 0):=e;subst e';exact PySem.P.truthy_str (by omega) ⟨H,I.tok _,q⟩
 |Sf y=>
  obtain⟨t,rfl⟩:=rx;obtain⟨hy,e'⟩:y.size<=sizeLine/\k=((y.size:Int) != 0):=e;subst e';exact PySem.W.truthy_bytes (by omega) ⟨H,I.tok _,q⟩
 |ref p=>
  cases rx;have e':(∃xs,JH X.K H p xs/\k = !xs.isEmpty)\/(∃xs,Kq X.K H p xs/\k = !xs.isEmpty)\/∃kvs,H p=some (.dK kvs)/\k = !kvs.isEmpty:=e;rcases e' with ⟨xs,hx,e'⟩|⟨xs,hx,e'⟩|⟨kvs,hx,e'⟩
  ·subst e';obtain⟨y_,r,pl,hz⟩:=I.list hx;have hlen:=r.length;exact wpAny_truthy_list pl.isList (by simp only[ab7];omega) ⟨H,I.tok _,by rw[rg r];exact q⟩
  ·subst e';obtain⟨y_,r,pl,hz⟩:=I.tuple hx;have hlen:=r.length;exact truthy_tuple pl (by simp only[ab7];omega) ⟨H,I.tok _,by rw[rg r];exact q⟩
  ·subst e';obtain⟨hz,hS,vs,r,m⟩:kvs.length<=sizeLine/\(p == sysModules)=false/\∃vs,KV kvs vs/\s.heap.DictOf (cV X.prog X.w) p vs:=I.HH p _ hx;have hlen:kvs.length=vs.length:=at8 r;exact wpAny_truthy_dict hS m (by omega) ⟨H,I.tok _,by rw[xY r];exact q⟩
 |_=>exact(show False from e).elim
def Bh{x:V}{us:aw7}(r:Vals [x] us):∃u,us=[u]/\RelV x u:=by
 cases r with
 |cons r1 r2=>cases r2;exact⟨_,rfl,r1⟩
def EJ{x y:V}{us:aw7}(r:Vals [x,y] us):∃u w',us=[u,w']/\RelV x u/\RelV y w':=by
 cases r with
 |cons r1 r2=>
  cases r2 with
  |cons r3 r4=>cases r4;exact⟨_,_,rfl,r1,r3⟩
def As(hc:X.calm=true):K2 X (.builtin "max") (fun xs H Q=>∃i j,xs=[.int i,.int j]/\Q (.int (if j > i then j else i)) H):=by
 intro pins s σ H xs us Q I r h;obtain⟨i,j,rfl,q⟩:=h;obtain⟨u,w',rfl,⟨t,rfl⟩,⟨t',rfl⟩⟩:=EJ r;refine max_two_ints (I.ok.hd hc) fun h' tk k=>⟨_,H,I.kept k,?_,q⟩
 by_cases hj:j > i
 ·rw[ab2 hj,ab2 hj];exact⟨_,rfl⟩
 ·rw[ab1 hj,ab1 hj];exact⟨_,rfl⟩
def zW(hc:X.calm=true):K2 X (.builtin "min") (fun xs H Q=>∃i j,xs=[.int i,.int j]/\Q (.int (if j<i then j else i)) H):=by
 intro pins s σ H xs us Q I r h;obtain⟨i,j,rfl,q⟩:=h;obtain⟨u,w',rfl,⟨t,rfl⟩,⟨t',rfl⟩⟩:=EJ r;refine min_two_ints (I.ok.hd hc) fun h' tk k=>⟨_,H,I.kept k,?_,q⟩
 by_cases hj:j<i
 ·rw[ab2 hj,ab2 hj];exact⟨_,rfl⟩
 ·rw[ab1 hj,ab1 hj];exact⟨_,rfl⟩
end
structure Ot(h:Heap)(x dx C:Addr)(mA:aw9):Prop where
 obj:h.get? x=some (instObj C dx)
 ns:h.Ns1 dx mA
 ne:dx≠x
def zL{h:Heap}{dx:Addr}{mA:aw9}(n:h.Ns1 dx mA):∃od,h.get? dx=some od/\∀name,lookIn name od=some (mA name):=by
 obtain⟨o,es,ep,ho,hd,hk,_,hm⟩:=n;refine⟨o,ho,fun name=>?_⟩;have e:=hm name;unfold nsFind findBy at e;rw[<-Array.find?_toList] at e;unfold lookIn;rw[hd];dsimp only;split
 ·rename_i y q;rw[q] at e;exact am1 some e
 ·rename_i q;rw[q] at e;have a:es.toList.any (·.refKey)=false:=by
   rw[List.any_eq_false];intro y hy;obtain⟨z,t,QS⟩:=hk y (Array.mem_toList_iff.mp hy);simp[DictEntry.refKey,QS]
  have a':¬es.toList.any (·.refKey)=true:=by rw[a];exact ad2
  rw[ab1 a'];exact am1 some e
def Ot.look{h:Heap}{x dx C:Addr}{mA:aw9}(I:Ot h x dx C mA):∃od,PySem.W.InstAt h x (instObj C dx) C (some od)/\∀name,lookIn name od=some (mA name):=
 let ⟨od,ho,hl⟩:=zL I.ns
 ⟨od,⟨I.obj,rfl,rfl,ho⟩,hl⟩
section
variable{prog:ay1}{w:ay3}{A:ay2}{E:aw4}{s:Shared}{K:aw5}{x dx C f:Addr}{mA:aw9}{name:Str}{v:Value}
def Dk{expr:Bool}{Q:aw4}(X:K.In s.heap)(I:Ot s.heap x dx C mA)(hg:plainGet K C name=true)(hh:hasDictIn K C=true)
  (ha:findIn K (.ref C) name=some none) (hv:mA name=some v) (hv':handedIn v=true) (h:Q v { s with toks:=s.toks+1 }) :
  wpAny (model prog w) A (getAttr (.ref x) name expr) Q E s:=by
 obtain⟨od,J,hl⟩:=I.look;exact PySem.W.get_value X J (plainGet_of hg).1 (PySem.W.findObj_own hh ha rfl (by rw[hl,hv])) hv' h
def CF{pl:Sem Bool}{Q:Value×List Value->Shared->Prop}(X:K.In s.heap)(I:Ot s.heap x dx C mA)(hg:plainGet K C name=true)
  (hf:findIn K (.ref C) name=some (some (.ref f))) (ht:isFn K (.ref f)=true) (hv:mA name=none) (h:Q (.ref f,[.ref x]) s) :
  wpAny (model prog w) A (getMethod (.ref x) name pl) Q E s:=by
 obtain⟨od,J,hl⟩:=I.look;exact PySem.W.method_fn X J (plainGet_of hg).1 (plainGet_of hg).2 hf (ah7.mp ht) (by show(lookIn name od).map (·.isSome)=some false;rw[hl,hv];rfl) h
def Ey{ns:ax0}{Q:ax6}(X:K.In s.heap)(I:Ot s.heap x dx C mA)
  (hs:findIn K (.ref C) "__setattr__"=some (some (.builtin "object.__setattr__"))) (hp:plainOver K C=true) (ht:takerIn K C name=some none) (hh:hasDictIn K C=true)
  (hw:PySem.Within mA ns) (hsz:ns.length<=sizeLine)
  (h:∀h',Ot h' x dx C (fun y=>if y=name then some v else mA y)->SameBut dx s.heap h'->Q () { s with heap:=h',toks:=s.toks+2 }) :
  wpAny (model prog w) A (setAttr (.ref x) name v) Q E s:=by
 obtain⟨od,J,hl⟩:=I.look;refine PySem.W.set_plain X J hs (PySem.W.osa_open (s:={ s with toks:=s.toks+1 }) (r:=none) X J hp ht fun b=>?_);obtain⟨cd,hc,Ms⟩:=PySem.W.any_some hh;have hx:s.heap.get? x=some ⟨.ref C,some dx,.plain,#[]⟩:=I.obj;refine aa0 (aa4 (aa0 (aa0 (wpAny_loadPart hx (aa0 (PySem.W.Looks.here (s:={ s with toks:=s.toks+1 }) (PySem.W.looks_clsIn X hc) ?_))))));rw[Ms];refine aa4 (a:=some dx) (aa0 (aa4 (aa0 ?_)));refine wpAny_nsSet1 (s:={ s with toks:=s.toks+1 }) I.ns fun h' TB M7=>?_
 obtain⟨oD,esD,epD,hoD,hdD,hcD⟩:=TB.count (PySem.Within.cons name v hw);refine aa0 (wpAny_lookBehind hoD (by rw[hdD];exact pastItsLine_dict (ab5 hcD (by rw[ab8];omega))) ?_);exact aa4 (h _ ⟨(M7.2 _ (af8 I.ne)).trans I.obj,TB,I.ne⟩ M7)
def Cz{R:Result->Shared->Prop}{vs:aw7}{kw:List (Str×Value)}(X:K.In s.heap)(hm:makesIn K C=true)
  (hi:findIn K (.ref C) "__init__"=some (some (.ref f))) (hf:PySem.W.typeIn K (.ref f)=some (.type "function"))
  (h:codeAny (model prog w) (A.under (.builtin "type.__call__" ⟨.ref C :: vs,kw⟩)) (.call (.ref f) ⟨.ref (s.heap.objs.size+1) :: vs,kw⟩) (PySem.W.InitBack (s.heap.objs.size+1) R)
   { s with heap:=(s.heap.push emptyDict).push (instObj C s.heap.objs.size) }) :
  codeAny (model prog w) A (.call (.ref C) ⟨vs,kw⟩) R s:=by
 obtain⟨hh,g,d,t,os⟩:=s;exact PySem.W.make_core (PySem.W.makes_of X hm) (PySem.W.looks_findIn X hi) (fun self=>PySem.W.bind_fn X self hf) (.inl rfl) h
end
def gP(f:Str)(v:V):List (Str×V)->List (Str×V)
 |[]=>[(f,v)]
 |(g,x) :: r=>if g=f then (g,v) :: r else (g,x) :: gP f v r
theorem o8(f g:Str)(v:V):∀fs:List (Str×V),(gP f v fs).lookup g=if g=f then some v else fs.lookup g
 |[]=>by
  show List.lookup g [(f,v)]=_;by_cases h:g=f
  ·have hb:(g == f)=true:=ah7.mpr h;simp only[List.lookup,hb,ab2 h]
  ·have hb:(g == f)=false:=af5.mpr h;simp only[List.lookup,hb,ab1 h]
 |(k,x) :: r=>by
  have ih:=o8 f g v r;rw[show gP f v ((k,x) :: r)=(if k=f then (k,v) :: r else (k,x) :: gP f v r) from rfl];by_cases hk:k=f
  ·rw[ab2 hk];by_cases h:g=k
   ·have hb:(g == k)=true:=ah7.mpr h;simp only[List.lookup,hb,ab2 (h.trans hk)]
   ·have hb:(g == k)=false:=af5.mpr h;simp only[List.lookup,hb,ab1 (fun e:g=f=>h (e.trans hk.symm))]
  ·rw[ab1 hk];by_cases h:g=k
   ·have hb:(g == k)=true:=ah7.mpr h;simp only[List.lookup,hb,ab1 (fun e:g=f=>hk (h.symm.trans e))]
   ·have hb:(g == k)=false:=af5.mpr h;simp only[List.lookup,hb];exact ih
theorem n9(f:Str)(v:V):∀fs:List (Str×V),f∈(gP f v fs).map (·.1)/\∀g,g∈fs.map (·.1)->g∈(gP f v fs).map (·.1)
 |[]=>⟨by simp[gP],fun g h=>by simp at h⟩
 |(k,x) :: r=>by
  obtain⟨i1,i2⟩:=n9 f v r;rw[show gP f v ((k,x) :: r)=(if k=f then (k,v) :: r else (k,x) :: gP f v r) from rfl];by_cases hk:k=f
  ·rw[ab2 hk];subst hk;exact⟨by simp,fun g h=>by simpa using h⟩
  ·rw[ab1 hk];refine⟨?_,fun g h=>?_⟩
   ·rw[ac2];exact aa9 _ i1
   ·rw[ac2] at h ⊢;rcases ac7.mp h with e|e
    ·exact ac7.mpr (.inl e)
    ·exact aa9 _ (i2 g e)
theorem o4(f:Str)(v:V):∀fs:List (Str×V),(gP f v fs).length<=fs.length+1
 |[]=>by simp[gP]
 |(k,x) :: r=>by
  have ih:=o4 f v r;rw[show gP f v ((k,x) :: r)=(if k=f then (k,v) :: r else (k,x) :: gP f v r) from rfl];by_cases hk:k=f
  ·rw[ab2 hk,ab8,ab8];omega
  ·rw[ab1 hk,ab8,ab8];omega
def Kj.some_of{v:V}{o:Option Value}(r:Kj (some v) o):∃u,o=some u/\RelV v u:=by
 cases o with
 |none=>exact(show False from r).elim
 |some u=>exact⟨u,rfl,r⟩
def Kj.none_of{o:Option Value}(r:Kj none o):o=none:=by
 cases o with
 |none=>rfl
 |some u=>exact(show False from r).elim
def Ak{v:V}{u:Value}(r:RelV v u):handedIn u=true:=by
 cases v with
 |Hw=>cases(show u=Value.none from r);rfl
 |bl b=>cases(show u=Value.bool b from r);rfl
 |int i=>obtain⟨t,e⟩:=(show ∃t,u=Value.int i t from r);cases e;rfl
 |str x=>obtain⟨t,e⟩:=(show ∃t,u=Value.str x t from r);cases e;rfl
 |Sf b=>obtain⟨t,e⟩:=(show ∃t,u=bytes b t from r);cases e;rfl
 |Sg b=>obtain⟨t,e⟩:=(show ∃t,u=float b t from r);cases e;rfl
 |ref a=>cases(show u=Value.ref a from r);rfl
 |ty n=>cases(show u=type n from r);rfl
section
variable{P:ay1}{w:ay3}{H H':Hp}{h h':Heap}{a C dx:Addr}{fs Wn:List (Str×V)}
def uQ(HH:JG P w H h)(e:H a=some (.ins C dx fs)):∃mA,Ot h a dx C mA/\(∀f,Kj (fs.lookup f) (mA f))/\PySem.Within mA (fs.map (·.1))/\fs.length<=1000/\H dx=some (.own a):=by
 obtain⟨d,z,ne,ob,mA,n,r,q⟩:=(show Il P w H h a (.ins C dx fs) from HH a _ e);exact⟨mA,⟨ob,n,ne⟩,r,q,z,d⟩
end
structure NT(K:aw5)(C:Addr):Prop where
 pg:plainGet K C Str.empty=true
 hd:hasDictIn K C=true
 po:plainOver K C=true
 sa:findIn K (.ref C) "__setattr__"=some (some (.builtin "object.__setattr__"))
def NT.get{K:aw5}{C:Addr}(c:NT K C)(f:Str):plainGet K C f=true:=c.pg
def HS(K:aw5)(C:Addr)(f:Str):Prop:=findIn K (.ref C) f=some none
def HS.Us{K:aw5}{C:Addr}{f:Str}(n:HS K C f):takerIn K C f=some none:=by
 unfold takerIn;rw[show findIn K (.ref C) f=some none from n];rfl
structure Con(K:aw5)(C:Addr)(f:Str)(v:V)(u:Value):Prop where
 at_:findIn K (.ref C) f=some (some u)
 rel:RelV v u
 get:specialIn K u "__get__"=some none
 cp:PySem.W.copiedNames.contains f=false
structure Meth(K:aw5)(C:Addr)(m:Str)(f:Addr):Prop where
 at_:findIn K (.ref C) m=some (some (.ref f))
 fn:isFn K (.ref f)=true
 kp:keepIn K (.ref f)=true
section
variable{X:Cx}{pins:aw8}{σ:St}{H:Hp}{s:Shared}{a C dx:Addr}{fs:List (Str×V)}{f:Str}{v:V}{A:ay2}{E:aw4}
def qg{b:Bool}{Q:aw4}(I:Inv X pins σ H s)(e:H a=some (.ins C dx fs))(c:NT X.K C)(n:HS X.K C f)(l:fs.lookup f=some v)
  (h:∀u s',Inv X pins σ H s'->RelV v u->Q u s'):wpAny (model X.prog X.w) A (getAttr (.ref a) f b) Q E s:=by
 obtain⟨mA,O,r,_,_,_⟩:=uQ I.HH e;obtain⟨u,hu,ru⟩:=Kj.some_of (v:=v) (o:=mA f) (by rw[<-l];exact r f);exact Dk I.LS O (c.get f) c.hd n hu (Ak ru) (h u _ (I.tok _) ru)
def p8{m:Str}{g:Addr}{pl:Sem Bool}{Q:Value×List Value->Shared->Prop}(I:Inv X pins σ H s)(e:H a=some (.ins C dx fs))(c:NT X.K C)(k:Meth X.K C m g)(l:fs.lookup m=none)
  (h:Q (.ref g,[.ref a]) s):wpAny (model X.prog X.w) A (getMethod (.ref a) m pl) Q E s:=by
 obtain⟨mA,O,r,_,_,_⟩:=uQ I.HH e;have hn:mA m=none:=Kj.none_of (by rw[<-l];exact r m);exact CF I.LS O (c.get m) k.at_ k.fn hn h
def rL{y:V}{u:Value}{Q:ax6}(I:Inv X pins σ H s)(e:H a=some (.ins C dx fs))(c:NT X.K C)(n:HS X.K C f)(hl:fs.length<1000)(ry:RelV y u)
  (h:∀s',Inv X pins σ (upd H a (.ins C dx (gP f y fs))) s'->Q () s'):wpAny (model X.prog X.w) A (setAttr (.ref a) f u) Q E s:=by
 obtain⟨mA,O,r,wi,_,ho⟩:=uQ I.HH e;have hz:(fs.map (·.1)).length<=sizeLine:=by rw[aa7,aq1];omega
 refine Ey I.LS O c.sa c.po n.Us c.hd wi hz fun h' O' sb=>h _ ?_
 have hd:∃o,h'.get? dx=some o:=let ⟨o,_,_,e',_⟩:=O'.ns;⟨o,e'⟩
 refine I.write (x:=a) (e:=dx) (by rw[e];exact ai4) (.inr ho) (fun b q hb z=>(sb.2 b hb).trans z) hd ?_;refine⟨by rw[bf O.ne];exact ho,?_,O.ne,O'.obj,_,O'.ns,fun g=>?_,fun g hg=>?_⟩
 ·have:=o4 f y fs;omega
 ·show Kj ((gP f y fs).lookup g) (if g=f then some u else mA g);rw[o8];by_cases q:g=f
  ·rw[ab2 q,ab2 q];exact ry
  ·rw[ab1 q,ab1 q];exact r g
 ·by_cases q:g=f
  ·rw[q];exact(n9 f y fs).1
  ·refine(n9 f y fs).2 g (wi g fun z=>hg ?_);show(if g=f then some u else mA g)=none;rw[ab1 q];exact z
def Inv.made(I:Inv X pins σ H s):Inv X pins σ (upd (upd H s.heap.objs.size (.own (s.heap.objs.size+1))) (s.heap.objs.size+1) (.ins C s.heap.objs.size []))
  { s with heap:=(s.heap.push emptyDict).push (instObj C s.heap.objs.size) }:=by
 have e1:(s.heap.push emptyDict).get? s.heap.objs.size=some emptyDict:=ac0 s.heap rfl;have e2:((s.heap.push emptyDict).push (instObj C s.heap.objs.size)).get? (s.heap.objs.size+1)=some (instObj C s.heap.objs.size):=by
  have:=ac0 (s.heap.push emptyDict) (o:=instObj C s.heap.objs.size) rfl;rwa[aj6] at this
 have e3:(s.heap.push emptyDict).Ns s.heap.objs.size (fun _=>none):=⟨emptyDict,#[],_,e1,rfl,(fun e he=>absurd he (by simp)),fun _=>rfl⟩;have I1:=I.laid (a:=s.heap.objs.size) (o:=.own (s.heap.objs.size+1)) (h':=s.heap.push emptyDict) (t':=s.toks) (fun b u q=>aa6 _ q) (aa1 _) ⟨_,e1⟩;refine I1.laid (a:=s.heap.objs.size+1) (o:=.ins C s.heap.objs.size []) (t':=s.toks) (fun b u q=>aa6 _ q) (Nat.le_of_eq (aj6 _ _)) ?_;have ne:s.heap.objs.size≠s.heap.objs.size+1:=ad0 (ag2 _);refine⟨by rw[bf ne,bF],ae7 _,ne,e2,fun _=>none,(Heap.Ns1.of_empty e3).at fun o q=>aa6 _ q,fun _=>ai4,fun y hy=>absurd rfl hy⟩
def Dd{prog:ay1}{w:ay3}{env:Env}{e:Expr}{f:Str}{pos:Pos}{s:Shared}{Q:aw4}(hb:attributeBase e f env (eval e env)=eval e env)
  (h:wpAny (model prog w) A (eval e env) (fun o HW=>wpAny (model prog w) A (getAttr o f true) Q E HW) E s):wpAny (model prog w) A (eval (.Attribute e f pos) env) Q E s:=
 Attribute_any_ h (by rw[arm_eval_Attribute,hb])
end
def j7(K:aw5)(ta tv:TE)(f:Str):TS:=fun D σ H=>tv σ H fun y H1=>ta σ H1 fun x H2=>∃a C dx fs,x=.ref a/\H2 a=some (.ins C dx fs)/\NT K C/\HS K C f/\fs.length<1000/\
 D.nx σ (upd H2 a (.ins C dx (gP f y fs)))
section
variable{X:Cx}{o e value:Expr}{f:Str}{pos pos' LZ:Pos}{ta tv:TE}
end
section
variable{X:Cx}{pins:aw8}{σ:St}{H:Hp}{s:Shared}{A:ay2}{E:aw4}{Q:aw4}{c:Value}{b:Bool}
inductive L0(K:aw5)(H:Hp):V->Value->Prop where
 |Hw:L0 K H .Hw (.type "NoneType")
 |bl (x:Bool):L0 K H (.bl x) (.type "bool")
 |int (i:Int):L0 K H (.int i) (.type "int")
 |str (x:Str):L0 K H (.str x) (.type "str")
 |Sg (x:UInt64):L0 K H (.Sg x) (.type "float")
 |lst {a:Addr}{xs:az0}(e:H a=some (.lst xs)):L0 K H (.ref a) (.type "list")
 |Oq {a:Addr}{o:Obj}{xs:az0}(e:H a=some (.Oq o (.lst xs))):L0 K H (.ref a) (.type "list")
 |tup {a:Addr}{xs:az0}(e:H a=some (.tup xs)):L0 K H (.ref a) (.type "tuple")
 |dK {a:Addr}{kvs:az1}(e:H a=some (.dK kvs)):L0 K H (.ref a) (.type "dict")
 |dT {a:Addr}{kvs:List (List Key×V)}(e:H a=some (.dT kvs)):L0 K H (.ref a) (.type "dict")
 |ins {a C dx:Addr}{fs:List (Str×V)}(e:H a=some (.ins C dx fs)) (cl:NT K C) (ha:findIn K (.ref C) "__class__"=some (some (.builtin "object.__class__")))
   (hn:specialIn K (.builtin "object.__class__") "__get__"=some (some (.builtin "getset_descriptor.__get__"))) (Zs:PySem.W.takesIn K (.builtin "object.__class__")=some true)
   (hm:PySem.W.mroIn K C (.type "object")=some true):L0 K H (.ref a) (.ref C)
end
structure I0(k:Nat)(A:ay2):Prop where
 hd:A.handled=none
 dp:A.depth+3 * k+5<recursionLimit
 un:A.units+16 * k+200<cLine
def I0.mono{j k:Nat}{A:ay2}(r:I0 k A)(h:j<=k):I0 j A:=⟨r.hd,by have:=r.dp;omega,by have:=r.un;omega⟩
def I0.m{j k:Nat}{A:ay2}(r:I0 k A)(h:j<=k:=by decide):I0 j A:=r.mono h
def I0.deeper{k:Nat}{A:ay2}(r:I0 (k+1) A)(env:Env):I0 k (A.deeper env):=
 ⟨r.hd,by have:=r.dp;show A.depth+1+3 * k+5<_;omega,by have:=r.un;show A.units+3+16 * k+200<_;omega⟩
def I0.in1{k:Nat}{A:ay2}(r:I0 (k+1) A):I0 k A.in1:=
 ⟨r.hd,by have:=r.dp;show A.depth+3 * k+5<_;omega,by have:=r.un;show A.units+1+16 * k+200<_;omega⟩
def xD{A:ay2}{C:Addr}{us:aw7}{kw:List (Str×Value)}:(A.under (.builtin "type.__call__" ⟨.ref C :: us,kw⟩)).depth=A.depth+1:=by
 first|rfl|simp[Around.under,Code.weight,Code.isCreation,Code.isGuard,Code.isCaller,Code.frames,Code.isFrame,guardIds]
def xR{A:ay2}{C:Addr}{us:aw7}{kw:List (Str×Value)}:(A.under (.builtin "type.__call__" ⟨.ref C :: us,kw⟩)).units=A.units+1:=by
 first|rfl|simp[Around.under,Code.cUnits,Code.frames,Code.isFrame]
def I0.make{k:Nat}{A:ay2}(r:I0 (k+1) A)(C:Addr)(us:aw7)(kw:List (Str×Value)):I0 k (A.under (.builtin "type.__call__" ⟨.ref C :: us,kw⟩)):=
 ⟨r.hd,by have:=r.dp;rw[xD];omega,by have:=r.un;rw[xR];omega⟩
def I0.depth{k:Nat}{A:ay2}(r:I0 k A):A.depth<recursionLimit:=by have:=r.dp;omega
def I0.units{k:Nat}{A:ay2}(r:I0 k A):A.units+64<cLine:=by have:=r.un;omega
section
variable{X:Cx}{e:Expr}{es:ax8}{te:TE}{t:TA}{pos:Pos}
end
abbrev Sp:=List V->Hp->VK->XK->Prop
abbrev Lx:=List Env->Hp->Shared->XK->Value->Shared->Prop
structure Mu(P:ay1)(w:ay3)(K:aw5)(mg:aw9)(base:Heap)(A:ay2)(outer:List Env)(s:Shared)(H:Hp):Prop where
 frames:A.frames=some outer
 mod:Mod K mg base
 bs:∀b o,base.get? b=some o->s.heap.get? b=some o/\H b=none
 PA:base.objs.size<=s.heap.objs.size
 Lh:s.heap.FunFrames base outer
 QR:∀b∈Oe outer,H b=none
 HH:JG P w H s.heap
 bare:AllBare s.gens
def CE(outer:List Env)(P:ay1)(w:ay3)(H:Hp)(s:Shared)(Q:VK)(u:Value)(s':Shared):Prop:=
 ∃v H',s'.os=s.os/\AllBare s'.gens/\Un (Oe outer) [] H H' s.heap s'.heap/\JG P w H' s'.heap/\RelV v u/\Q v H'
def CR(CX:Lx)(outer:List Env)(P:ay1)(w:ay3)(H:Hp)(s:Shared)(Q:VK)(E:XK)(r:Result)(s':Shared):Prop:=
 match r with
 |.ok (.ret u)=>CE outer P w H s Q u s'
 |.ok _=>False
 |.error e=>CX outer H s E e s'
structure Lk(P:ay1)(w:ay3)(K:aw5)(mg:aw9)(base:Heap)(CX:Lx)(k:Nat)(f:Addr)(fd:ax1)(ps:ax0)(sp:Sp):Prop where
 len:∀vs H Q E,sp vs H Q E->vs.length=ps.length
 run:∀(A:ay2) (outer:List Env) (s:Shared) (H:Hp) (args:Args) (us:aw7) (vs:az0) (Q:VK) (E:XK),I0 k A->Mu P w K mg base A outer s H->BindsTo s fd args (ps.zip us)->Vals vs us->sp vs H Q E->
  codeAny (model P w) A (.call (.ref f) args) (CR CX outer P w H s Q E) s
def Lk.mono{P:ay1}{w:ay3}{K:aw5}{mg:aw9}{base:Heap}{CX:Lx}{j k:Nat}{f:Addr}{fd:ax1}{ps:ax0}{sp:Sp}(F:Lk P w K mg base CX j f fd ps sp)(h:j<=k) :
  Lk P w K mg base CX k f fd ps sp:=⟨F.len,fun A outer s H args us vs Q E hr=>F.run A outer s H args us vs Q E (hr.mono h)⟩
def Lk.imp{P:ay1}{w:ay3}{K:aw5}{mg:aw9}{base:Heap}{CX:Lx}{k:Nat}{f:Addr}{fd:ax1}{ps:ax0}{sp Zt:Sp}(F:Lk P w K mg base CX k f fd ps sp)
  (h:∀vs H Q E,Zt vs H Q E->sp vs H Q E):Lk P w K mg base CX k f fd ps Zt:=
 ⟨fun vs H Q E q=>F.len vs H Q E (h _ _ _ _ q),fun A outer s H args us vs Q E hr he hb hv hs=>F.run A outer s H args us vs Q E hr he hb hv (h _ _ _ _ hs)⟩
def Mu.make{P:ay1}{w:ay3}{K:aw5}{mg:aw9}{base:Heap}{A:ay2}{outer:List Env}{s:Shared}{H:Hp}(e:Mu P w K mg base A outer s H)(C:Addr)(us:aw7)(kw:List (Str×Value)) :
  Mu P w K mg base (A.under (.builtin "type.__call__" ⟨.ref C :: us,kw⟩)) outer s H:=⟨by first|exact e.frames|(simpa[Around.under,Code.envs,Code.isFrame,pushEnvs] using e.frames),e.mod,e.bs,e.PA,e.Lh,e.QR,e.HH,e.bare⟩
def Mu.in1{P:ay1}{w:ay3}{K:aw5}{mg:aw9}{base:Heap}{A:ay2}{outer:List Env}{s:Shared}{H:Hp}(e:Mu P w K mg base A outer s H) :
  Mu P w K mg base A.in1 outer s H:=⟨e.frames,e.mod,e.bs,e.PA,e.Lh,e.QR,e.HH,e.bare⟩
section
variable{X:Cx}{pins:aw8}{σ:St}{H:Hp}{s s':Shared}
def Inv.Ut(I:Inv X pins σ H s):Mu X.prog X.w X.K X.mg X.base X.A X.stack s H:=
 ⟨I.ok.frames,I.ok.mod,I.bs,ab5 I.ok.PA I.sz,I.stack,I.Nh,I.HH,I.bare⟩
def Inv.after{Q:VK}{u:Value}(I:Inv X pins σ H s)(h:CE X.stack X.prog X.w H s Q u s'):EP X pins σ Q u s':=by
 obtain⟨v,H',os,bare,un,HH,r,q⟩:=h;obtain⟨hh,g,d,t,Uu⟩:=s';obtain rfl:Uu=s.os:=os;exact⟨v,H',I.call (h':=hh) (g':=g) (d':=d) (t':=t) (ch:=[]) un HH bare (fun b z=>absurd z (by simp)),r,q⟩
end
def Binds(K:aw5)(fd:ax1)(ps:ax0)(ds:aw7):Prop:=
 ∀(s:Shared) (us:aw7),K.In s.heap->(us++ds).length=ps.length->BindsTo s fd ⟨us,[]⟩ (ps.zip (us++ds))
def Binds.all{K:aw5}{fd:ax1}{ps:ax0}(h:∀us:List Value,us.length=ps.length->bindArgs fd ⟨us,[]⟩=pure (ps.zip us)):Binds K fd ps []:=fun s us _ hl=>by
 rw[ae4] at hl ⊢;exact .of_eq (h us hl)
section
variable{X:Cx}{CX:Lx}{k:Nat}{f C:Addr}{fd:ax1}{ps:ax0}{sp:Sp}{dvs:az0}{ds:aw7}{E:XK}{x m:Str}{p pos apos:Pos}{e o:Expr}{es:ax8}{ta:TE}{t:TA}
structure Mk(K:aw5)(C f:Addr):Prop where
 makes:makesIn K C=true
 init:findIn K (.ref C) "__init__"=some (some (.ref f))
 fn:isFn K (.ref f)=true
 kp:keepIn K (.ref C)=true
end
section
variable{X:Cx}{CX:Lx}{k:Nat}{f C:Addr}{fd:ax1}{ps ks:ax0}{sp:Sp}{E:XK}{x m:Str}{p pos apos kpos:Pos}{e o:Expr}{es:ax8}{kws:List Keyword}{te ta:TE}{t tk:TA}{nm:Option Str}
structure Wy(K:aw5)(fd:ax1)(ps ks:ax0)(g:List Value->List Value->List Value)(gV:List V->List V->List V):Prop where
 to:∀(s:Shared) (us ws:aw7),K.In s.heap->(g us ws).length=ps.length->BindsTo s fd ⟨us,ks.zip ws⟩ (ps.zip (g us ws))
 rel:∀{vs:az0}{us:aw7}{zs:az0}{ws:aw7},Vals vs us->Vals zs ws->Vals (gV vs zs) (g us ws)
variable{g:List Value->List Value->List Value}{gV:List V->List V->List V}
end
structure n_(N P:ax0)(sc:Scope):Prop where
 kind:sc.kind=.function
 co:sc.isCoroutine=false
 gen:sc.isGenerator=false
 nd:N.Nodup
 pre:N.take P.length=P
 par:∀x∈P,sc.names.lookup x=some .local\/sc.names.lookup x=some .cell
 Sk:∀y∈sc.names,y.2≠.free
theorem uc{kindOf:Str->Option NameKind}{x:Str}:∀{binds:List (Str×Value)}{m:aw9},(∀v,(x,v)∉binds)->bindL kindOf binds m x=m x
 |[],_,_=>rfl
 |(n,v) :: r,m,h=>by
  unfold bindL;rw[uc fun w hw=>h w (aa9 _ hw)];split
  ·have:x≠n:=by rintro rfl;exact h v ag5
   simp[this]
  ·rfl
theorem sY{kindOf:Str->Option NameKind}{x:Str}:∀{binds:List (Str×Value)}{m:aw9},(∀v,(x,v)∉binds)->bindC kindOf binds m x=m x
 |[],_,_=>rfl
 |(n,v) :: r,m,h=>by
  unfold bindC;rw[sY fun w hw=>h w (aa9 _ hw)];split
  ·rfl
  ·have:x≠n:=by rintro rfl;exact h v ag5
   simp[this]
theorem tE{kindOf:Str->Option NameKind}{x:Str}{v:Value}:∀{P:ax0}{vs:aw7}{i:Nat}{m:aw9},P.Nodup->P[i]?=some x->vs[i]?=some v->kindOf x=some .local->
  bindL kindOf (P.zip vs) m x=some v
 |[],_,_,_,_,h,_,_=>by simp at h
 |_ :: _,[],_,_,_,_,h,_=>by simp at h
 |p :: P,w :: vs,0,m,nd,h1,h2,hk=>by
  simp at h1 h2;subst h1;subst h2;show bindL kindOf ((p,w) :: P.zip vs) m p=_;unfold bindL;rw[uc fun v hv=>(aj7.mp nd).1 (of_mem_zip hv).1,ab2 hk];simp
 |p :: P,w :: vs,i+1,m,nd,h1,h2,hk=>by
  show bindL kindOf ((p,w) :: P.zip vs) m x=_;unfold bindL;exact tE (i:=i) (aj7.mp nd).2 (by simpa using h1) (by simpa using h2) hk
theorem sZ{kindOf:Str->Option NameKind}{x:Str}{v:Value}:∀{P:ax0}{vs:aw7}{i:Nat}{m:aw9},P.Nodup->P[i]?=some x->vs[i]?=some v->kindOf x≠some .local->
  bindC kindOf (P.zip vs) m x=some v
 |[],_,_,_,_,h,_,_=>by simp at h
 |_ :: _,[],_,_,_,_,h,_=>by simp at h
 |p :: P,w :: vs,0,m,nd,h1,h2,hk=>by
  simp at h1 h2;subst h1;subst h2;show bindC kindOf ((p,w) :: P.zip vs) m p=_;unfold bindC;rw[sY fun v hv=>(aj7.mp nd).1 (of_mem_zip hv).1,ab1 hk];simp
 |p :: P,w :: vs,i+1,m,nd,h1,h2,hk=>by
  show bindC kindOf ((p,w) :: P.zip vs) m x=_;unfold bindC;exact sZ (i:=i) (aj7.mp nd).2 (by simpa using h1) (by simpa using h2) hk
def start(N:ax0)(vs:az0):St:=vs.map some++replicate (N.length-vs.length) none
def pH(CX:Lx)(P:ay1)(w:ay3)(K:aw5)(mg:aw9)(base:Heap)(N:ax0)(qual:Str)(scope:Scope)(f:Addr)(cd:Value)(A:ay2)(outer:List Env)(s:Shared)(H:Hp)(E:XK):Cx where
 prog:=P
 w:=w
 K:=K
 mg:=mg
 base:=base
 A:=A.deeper (envOfC qual scope s.heap.objs.size f cd)
 N:=N
 JB:=s
 PR:=H
 env:=envOfC qual scope s.heap.objs.size f cd
 outer:=outer
 stack:=envOfC qual scope s.heap.objs.size f cd :: outer
 ex:=[]
 calm:=true
 fn:=fun _=>true
 pn:=[]
 xe:=fun e s'=>wpAny (model P w) (A.deeper (envOfC qual scope s.heap.objs.size f cd)) (leaving (envOfC qual scope s.heap.objs.size f cd) e) (fun _ PV=>CX outer H s E e PV) (fun e' PV=>CX outer H s E e' PV) s'
def vA{sc:Scope}{n:Nat}{x:Str}(h:sc.names.lookup x=some .cell):∃c,(cellsFrom n sc.names []).lookup x=some c:=by
 have q:=PySem.W.cellsFrom_some sc.names n [] (.inl h);exact Option.isSome_iff_exists.mp q
def Aq{CX:Lx}{P:ay1}{w:ay3}{K:aw5}{mg:aw9}{base:Heap}{N ps:ax0}{qual:Str}{scope:Scope}{f:Addr}{cd:Value}{A:ay2}{outer:List Env}{s s1:Shared}{H:Hp}{E:XK}{us:aw7}{vs:az0}
  (S:n_ N ps scope) (hd:A.handled=none) (e0:Mu P w K mg base A outer s H) (hl:vs.length=ps.length) (r:Vals vs us)
  (x:InCallC s s.heap.objs.size (bindL (envOfC qual scope s.heap.objs.size f cd).kindOf (ps.zip us) fun _=>none) (cellsFrom (s.heap.objs.size+1) scope.names []) (bindC (envOfC qual scope s.heap.objs.size f cd).kindOf (ps.zip us) fun _=>none) s1) :
  Inv (pH CX P w K mg base N qual scope f cd A outer s H E) [] (start N vs) H s1:=by
 have M8:ps.length<=N.length:=by have:=am1 length S.pre;rw[ad7] at this;omega
 obtain⟨h1,tk,rfl,hk⟩:=x.done;have Uv:∀b:Addr,b∉(pH CX P w K mg base N qual scope f cd A outer s H E).ex:=fun b z=>absurd (show b∈([]:aw6) from z) (by simp)
 refine⟨⟨e0.mod,S.kind,rfl,rfl,aa1 _,fun y z c h1 h2=>?_,fun y hy=>?_,fun y c _ h=>?_,fun _=>hd,Around.frames_deeper e0.frames,.inr ⟨rfl,rfl⟩,fun b z=>absurd z (Uv b),e0.bs,e0.PA,fun b _ _=>Uv b,fun b z=>absurd z (Uv b),e0.Lh,e0.QR⟩,
  rfl,e0.bare,Un.kept hk,⟨_,x.toInCall.ns,fun i y v h1 h2 h3=>?_⟩,fun y c h=>⟨_,x.cell y c h⟩,e0.HH.fresh (aa1 _),fun y c h=>?_,fun p hp=>absurd (show p∈([]:aw8) from hp) (by simp),e0.HH.kept hk,?_⟩
 ·exact name_of_addr x.apart (ak4 h1) (ak4 h2)
 ·have hy:scope.names.lookup y=some .cell\/scope.names.lookup y=some .free:=hy;rcases hy with hy|hy
  ·exact vA hy
  ·exact absurd rfl (S.Sk _ (ak4 hy))
 ·exact ag1 (x.above y c (ak4 h))
 ·have hi:i<vs.length:=by
   unfold start at h2;by_cases hi:i<vs.length
   ·exact hi
   ·rw[ad5 (by simpa using hi)] at h2;rw[al0] at h2;split at h2<;>cases h2
  have ha:vs[i]?=some v:=by
   unfold start at h2;rw[ab4 (by simpa using hi),ac8] at h2;cases e:vs[i]? with
   |none=>rw[e] at h2;cases h2
   |some a=>rw[e] at h2;cases h2;rfl
  obtain⟨u,hu,rv⟩:=r.get ha;have hp:ps[i]?=some y:=by
   rw[<-S.pre,List.getElem?_take_of_lt (by omega)];exact h1
  have Zu:ps.Nodup:=by rw[<-S.pre];exact S.nd.sublist (at4 _ _)
  refine⟨u,rv,?_⟩;rcases S.par y (af2 hp) with k|k
  ·exact .inl ⟨k,tE Zu hp hu k⟩
  ·obtain⟨c,e⟩:=vA (n:=s.heap.objs.size+1) k;refine .inr ⟨.inl k,c,e,?_⟩;have q:=x.cell y c e;rw[sZ Zu hp hu (by show scope.names.lookup y≠_;rw[k];decide)] at q;exact q
 ·exact e0.HH.fresh (ag1 (x.above y c (ak4 h)))
 ·unfold start;show _=N.length;rw[aa8,aa7,am6];omega
def EK{CX:Lx}{P:ay1}{w:ay3}{K:aw5}{mg:aw9}{base:Heap}{k:Nat}{f:Addr}{name qual:Str}{params:Arguments}{body:List Stmt}{scope:Scope}{dV kV doc pm HG ct oc:Value}{an od:Option Addr}
  {PD:ax9}{N ps:ax0}{sp:Sp}(lk:K.lookup f=some ⟨oc,od,.func (fnOf name qual params body scope dV kV doc pm an HG ct),PD⟩) (Of:codeIn K HG qual=true) (S:n_ N ps scope)
  (len:∀vs H Q E,sp vs H Q E->vs.length=ps.length)
  (NU:∀(A:ay2) (outer:List Env) (s:Shared) (H:Hp) (vs:az0) (Q:VK) (E:XK),I0 k (A.deeper (envOfC qual scope s.heap.objs.size f HG))->sp vs H Q E->
   ∃t,Uq (pH CX P w K mg base N qual scope f HG A outer s H E) body t/\t { nx:=fun _ H'=>Q .Hw H',rt:=Q } (start N vs) H) :
  Lk P w K mg base CX (k+1) f (fnOf name qual params body scope dV kV doc pm an HG ct) ps sp:=by
 refine⟨len,fun A outer s H args us vs Q E hr e0 hb r QG=>?_⟩;have hl:=len _ _ _ _ QG;have KX:K.In s.heap:=e0.mod.Tw.keeps fun b o e=>(e0.bs b o e).1
 have lim:s.heap.NoLimit:=e0.mod.nolimit.keeps fun b o e=>(e0.bs b o e).1
 have Uw:∀y∈ps.zip us,scope.names.lookup y.1=some .local\/(scope.names.lookup y.1=some .cell/\((cellsFrom (s.heap.objs.size+1) scope.names []).lookup y.1).isSome=true):=fun ⟨n,v⟩ hy=>by
  rcases S.par n (of_mem_zip hy).1 with q|q
  ·exact .inl q
  ·exact .inr ⟨q,PySem.W.cellsFrom_some _ _ _ (.inl q)⟩
 refine codeAny_call_function hr.depth (KX _ _ lk) rfl S.co S.gen rfl (PySem.W.codeRec_of KX Of) (hb _ _ _ _ ?_);refine wpAny_newFunctionEnv_cells S.kind Uw fun env he s1 x=>?_
 subst he;refine⟨lim.keeps x.toInCall.keep,codeAny_func ?_⟩;obtain⟨t,ht,hq⟩:=NU A outer s H vs Q E (hr.deeper _) QG;have I:Inv (pH CX P w K mg base N qual scope f HG A outer s H E) [] (start N vs) H s1:=Aq S hr.hd e0 hl r x;refine ad6 (ht [] s1 (start N vs) H _ I hq) (fun fl s' hs=>?_) fun e s' hs=>hs
 have fin:∀{Ia:St}{H':Hp}{v:V}{u:Value},Inv (pH CX P w K mg base N qual scope f HG A outer s H E) [] Ia H' s'->RelV v u->Q v H'->CE outer P w H s Q u s':=
  fun {Ia H' v u} J rv q=>⟨v,H',J.os,J.bare,J.base,J.HH,rv,q⟩
 cases fl with
 |ret u=>
  obtain⟨v,Ia,H',J,rv,q⟩:=hs;exact fin J rv q
 |next=>
  obtain⟨Ia,H',J,q⟩:=hs;exact fin (v:=V.Hw) (u:=Value.none) J rfl q
 |brk=>
  obtain⟨_,_,_,q⟩:=hs;exact False.elim q
 |cont=>
  obtain⟨_,_,_,q⟩:=hs;exact False.elim q
section
variable{X:Cx}{x:Str}{p pos:Pos}{e:Expr}{es:ax8}{t:TA}{id T:String}{r:List V->Hp->VK->Prop}
end
end L2
namespace HT
open PySem PyProof.Rows
section
open PySem.SeqAt
open PySem.AutoSeq1 (wpAny_loadPart')
open PySem.MeetsSeq PySem.MeetsSeq2 PySem.MeetsSeq3
end
section
variable{prog:ay1}{w:ay3}{A:ay2}{E:aw4}{s:Shared}
def QT{t b:Addr}{vs ws:aw7}{Q:aw4}(ht:IsTup s.heap t vs.toArray)(hb:IsTup s.heap b ws.toArray)(hv:vs≠[])
  (h1:ws=[]->Q (.ref t) s) (h2:ws≠[]->Q (.ref s.heap.objs.size) { s with heap:=s.heap.push { cls:=.type "tuple",data:=.seq (vs++ws).toArray } })
  (hsz:vs.length+ws.length<=sizeLine):wpAny (model prog w) A (binaryOp .Add (.ref t) (.ref b)) Q E s:=by
 obtain⟨⟨cls,dd,data,sl⟩,ho,hc,n,hd⟩:=id ht;obtain⟨⟨Ux,TF,data2,TH⟩,Pf,RK,n2,hd2⟩:=id hb;simp only at hc hd RK hd2;subst hc hd RK hd2;have e:vs.toArray++ws.toArray=(vs++ws).toArray:=by simp
 by_cases hw:ws=[]
 ·exact concat_meets ⟨_,ho,rfl⟩ ⟨_,Pf,rfl⟩ au1 seq_tuple_add av4 au9 (au2 _ _)
   (tuple_addW1 t b vs.toArray ws.toArray n n2 dd TF sl TH (by simpa using hv) (by simp[hw])) ⟨ho,Pf,h1 hw⟩
 ·refine concat_meets ⟨_,ho,rfl⟩ ⟨_,Pf,rfl⟩ au1 seq_tuple_add av4 au9 (au2 _ _)
   (tuple_addW2 t b vs.toArray ws.toArray n n2 dd TF sl TH (by simpa using hv) (by simpa using hw) (by rw[ab7,ab7];exact hsz)) ⟨ho,Pf,?_⟩
  rw[e];exact h2 hw
def IV(n d:Nat):Option Int->Nat
 |none=>d
 |some v=>if v<0 then (v+(n:Int)).toNat else min v.toNat n
def Ll(n d:Nat):IV n d none=d:=rfl
def Kk(n d k:Nat):IV n d (some (k:Int))=min k n:=by
 show(if (k:Int)<0 then ((k:Int)+(n:Int)).toNat else min (k:Int).toNat n)=min k n;rw[ab1 (by omega),af4]
def Fv(n d:Nat)(hd:d<=n)(o:Option Int):IV n d o<=n:=by
 cases o with
 |none=>exact hd
 |some v=>
  show(if v<0 then (v+(n:Int)).toNat else min v.toNat n)<=n;by_cases hv:v<0
  ·rw[ab2 hv];omega
  ·rw[ab1 hv];exact Nat.min_le_right _ _
def yL(v:Int)(n d:Nat):(if v<0 then max (v+(n:Int)) 0 else min v (n:Int))=((IV n d (some v):Nat):Int):=by
 show(if v<0 then max (v+(n:Int)) 0 else min v (n:Int))=(((if v<0 then (v+(n:Int)).toNat else min v.toNat n):Nat):Int);by_cases hv:v<0
 ·simp only[ab2 hv];omega
 ·simp only[ab1 hv];omega
def yc(lo hi:Option Int)(n:Nat):sliceAdjust lo hi 1 (n:Int)=(((IV n 0 lo:Nat):Int),((IV n n hi:Nat):Int)):=by
 have h1:¬((1:Int)<0):=by omega
 unfold sliceAdjust;simp only[h1,av5];refine Prod.ext ?_ ?_
 ·cases lo with
  |none=>rfl
  |some v=>exact yL v n 0
 ·cases hi with
  |none=>rfl
  |some v=>exact yL v n n
def yf(i j:Nat):slicePlaces (i:Int) (j:Int) 1=j-i:=by
 unfold slicePlaces;have h1:(1:Int) > 0:=by omega
 simp only[h1,ao1,Int.ediv_one];split<;>omega
def qU{v:Value}{o:Option Int}{Q:Option Int->Shared->Prop}(p:IsPart v o)(h:Q o s):wpAny (model prog w) A (Builtin.Slice.slicePartIndex v) Q E s:=by
 cases p with
 |none=>exact slicePart_none h
 |int i t=>exact slicePart_int h
def J_{sl:Addr}{vl vu:Value}{lo hi:Option Int}{n:Nat}{Q:Int×Int×Nat->Shared->Prop}(hs:s.heap.IsSliceOf sl vl vu .none)(pl:IsPart vl lo)(pu:IsPart vu hi)
  (h:Q (((IV n 0 lo:Nat):Int),1,IV n n hi-IV n 0 lo) s):wpAny (model prog w) A (sliceApplied (.ref sl) (pure (n:Int))) Q E s:=by
 obtain⟨os,PF,Og,Sl⟩:=id hs;unfold sliceApplied Builtin.Slice.sliceFields;refine aa0 (aa0 (ah0 PF Sl (x:=vl) rfl (aa0 (ah0 PF Sl (x:=vu) rfl (aa0 (ah0 PF Sl (x:=.none) rfl (aa4 ?_)))))));refine aa0 (slicePart_none ?_);show wpAny _ _ (if ((1:Int) == 0)=true then _ else _) _ _ s;rw[ab1 (by decide)];refine aa0 (qU pl (aa0 (qU pu (aa0 (aa4 ?_)))));show wpAny _ _ (match sliceAdjust lo hi 1 (n:Int) with|(lo,hi)=>pure (lo,(1:Int),slicePlaces lo hi 1)) _ _ s;rw[yc lo hi n];show wpAny _ _ (pure (((IV n 0 lo:Nat):Int),(1:Int),slicePlaces ((IV n 0 lo:Nat):Int) ((IV n n hi:Nat):Int) 1)) _ _ s;rw[yf];exact aa4 h
def BP(xs:ax2)(i k:Nat):((range k).filterMap fun(m:Nat)=>xs[((i:Int)+(m:Int) * 1).toNat]?).toArray=((xs.toList.drop i).take k).toArray:=by
 have e:(fun(m:Nat)=>xs[((i:Int)+(m:Int) * 1).toNat]?)=fun m=>xs[i+m]?:=by
  funext m;have:((i:Int)+(m:Int) * 1).toNat=i+m:=by omega
  rw[this]
 rw[e];have:=pick_run xs i k;rw[List.filterMap_map] at this;have e2:((fun x=>xs[x]?) ∘ fun x=>i+x)=fun m=>xs[i+m]?:=rfl
 rw[e2] at this;rw[this]
def Lm{t sl:Addr}{items:ax2}{vl vu:Value}{lo hi:Option Int}{Q:aw4}(ht:IsTup s.heap t items)(hs:s.heap.IsSliceOf sl vl vu .none)(pl:IsPart vl lo)(pu:IsPart vu hi)
  (hw:¬(IV items.size 0 lo=0/\IV items.size items.size hi=items.size))
  (h:Q (.ref s.heap.objs.size) { s with heap:=s.heap.push { cls:=.type "tuple",data:=.seq ((items.toList.drop (IV items.size 0 lo)).take (IV items.size items.size hi-IV items.size 0 lo)).toArray } })
  (hsz:items.size<=sizeLine):wpAny (model prog w) A (getItem (.ref t) (.ref sl)) Q E s:=by
 have OR:sizeOk (.seq ((items.toList.drop (IV items.size 0 lo)).take (IV items.size items.size hi-IV items.size 0 lo)).toArray):=by
  show((items.toList.drop (IV items.size 0 lo)).take (IV items.size items.size hi-IV items.size 0 lo)).toArray.size<=sizeLine;rw[ab7,ad7,ae8,af0];omega
 have hj:IV items.size items.size hi<=items.size:=Fv _ _ (aa1 _) hi;obtain⟨os,PF,Og,Sl⟩:=id hs;have Wz:s.TypeIs (.ref sl) "slice":=⟨os,PF,Og⟩;unfold getItem
 try with_reducible refine ai7 ?_
 first|refine aa0 (aa4 ?_)|skip
 refine aa0 (wpAny_sequenceKey ht.typeIs (by decide) ?_);refine aa0 (ad4 (name:=Str.ofString "__getitem__") ht.typeIs af9
  (ae6 af9 ht.typeIs entry_tuple_getitem ?_ (args_tuple_getitem _ _)))
 show wpAny _ _ (Builtin.Tuple.tupleItemsOf (.ref t) >>= _) _ _ s;refine aa0 (tupleItemsOf_ ht ?_);refine aa0 (ar2 Wz ?_);rw[ab2 (by decide)];refine aa0 (J_ hs pl pu ?_);have OS:¬((((IV items.size 0 lo:Nat):Int) == 0 && (1:Int) == 1 && (IV items.size items.size hi-IV items.size 0 lo) == items.size)=true):=by
  intro q;rw[ai8,ai8] at q;have q1:((IV items.size 0 lo:Nat):Int)=0:=eq_of_beq q.1.1;have q2:IV items.size items.size hi-IV items.size 0 lo=items.size:=eq_of_beq q.2;exact hw ⟨by omega,by omega⟩
 show wpAny _ _ (if (((IV items.size 0 lo:Nat):Int) == 0 && (1:Int) == 1 && (IV items.size items.size hi-IV items.size 0 lo) == items.size)=true then _ else _) _ _ s;rw[ab1 OS,BP]
 first
  |exact aa0 (m:=Builtin.Tuple.tupleExact _) (ad1 (aa4 ⟨_,rfl,aa4 h⟩) OR)
  |exact aa0 (m:=Builtin.Tuple.tupleExact _) (ad1 (aa0 (aa4 (aa4 ⟨_,rfl,aa4 h⟩))) OR)
  |exact aa0 (aa0 (m:=Builtin.Tuple.tupleExact _) (ad1 (aa4 (aa4 ⟨_,rfl,aa4 h⟩)) OR))
  |exact aa0 (aa0 (m:=Builtin.Tuple.tupleExact _) (ad1 (aa4 ⟨_,rfl,aa4 h⟩) OR))
end
end HT
namespace L2
open PySem PySem.Spec PyProof.Rows
abbrev TO:=St->Hp->(Option Int->Hp->Prop)->Prop
def yu{ns:ax3}:∀{us:aw7},Vals (ns.map V.int) us->IntsAre us ns:=by
 induction ns with
 |nil=>intro us r;rw[aw3] at r;cases r;exact .nil
 |cons n ns ih=>
  intro us r;rw[ac2] at r;cases r with
  |cons r1 r2=>
   obtain⟨t,e⟩:=r1;subst e;exact .cons n t (ih r2)
section
variable{X:Cx}{e:Expr}{te:TE}{lo hi:Option Expr}{tl th:TO}{pos p2:Pos}
def Uy(X:Cx)(r:V->Option Int->Option Int->Hp->VK->Prop):Prop:=
 ∀(pins:aw8) (s:Shared) (σ:St) (H:Hp) (x:V) (v vl vu:Value) (lo hi:Option Int) (sl:Addr) (Q:VK),Inv X pins σ H s->RelV x v->s.heap.IsSliceOf sl vl vu .none->IsPart vl lo->IsPart vu hi->r x lo hi H Q->
  ∃T id,typeLookup (.type T) "__getitem__"=pure (some (.builtin id))/\s.TypeIs v T/\wpAny (model X.prog X.w) X.A (getItem v (.ref sl)) (EP X pins σ Q) X.xe s
def Uy.or{r r':V->Option Int->Option Int->Hp->VK->Prop}(h:Uy X r)(h':Uy X r'):Uy X (fun x lo hi H Q=>r x lo hi H Q\/r' x lo hi H Q):=by
 intro pins s σ H x v vl vu lo hi sl Q I rx hs pl pu q;rcases q with q|q
 ·exact h pins s σ H x v vl vu lo hi sl Q I rx hs pl pu q
 ·exact h' pins s σ H x v vl vu lo hi sl Q I rx hs pl pu q
def yl(xs:az0)(lo hi:Option Int):List V:=(xs.drop (HT.IV xs.length 0 lo)).take (HT.IV xs.length xs.length hi-HT.IV xs.length 0 lo)
def ph(xs:az0)(lo hi:Option Int):(yl xs lo hi).length<=xs.length:=by
 unfold yl;rw[ad7,ae8];omega
def Vals.Ln{xs:az0}{us:aw7}(r:Vals xs us):us=[]↔xs=[]:=by
 cases r with
 |nil=>simp
 |cons _ _=>simp
end
def Ou(n:Nat)(i:Int):Option Nat:=if 0<=i then (if i<n then some i.toNat else none) else if -(n:Int)<=i then some (i+n).toNat else none
def M9{α:Type}(xs:List α)(i:Int):Option α:=(Ou xs.length i).bind fun j=>xs[j]?
def zd{n:Nat}{i:Int}{j:Nat}(h:Ou n i=some j):seqIndex? i n=some j/\j<n/\-(n:Int)<=i/\i<n:=by
 unfold Ou at h;by_cases h0:0<=i
 ·rw[ab2 h0] at h;by_cases h1:i<n
  ·rw[ab2 h1] at h;have e:i.toNat=j:=ae5 h;exact⟨by rw[av6 h0 h1,e],by omega,by omega,h1⟩
  ·rw[ab1 h1] at h;cases h
 ·rw[ab1 h0] at h;by_cases h1:-(n:Int)<=i
  ·rw[ab2 h1] at h;have e:(i+n).toNat=j:=ae5 h;exact⟨by rw[seqIndex_neg (by omega) h1,e],by omega,h1,by omega⟩
  ·rw[ab1 h1] at h;cases h
def za{α:Type}{xs:List α}{i:Int}{v:α}(h:M9 xs i=some v):∃j,seqIndex? i xs.length=some j/\xs[j]?=some v/\j<xs.length/\-(xs.length:Int)<=i/\i<xs.length:=by
 unfold M9 at h;cases e:Ou xs.length i with
 |none=>rw[e] at h;cases h
 |some j=>
  rw[e] at h;obtain⟨h1,h2,h3,h4⟩:=zd e;exact⟨j,h1,h,h2,h3,h4⟩
def uv{α:Type}{xs:List α}{j:Nat}{v:α}(h:xs[j]?=some v):M9 xs (j:Int)=some v:=by
 have hj:j<xs.length:=(aa2.mp h).1;have e:Ou xs.length (j:Int)=some j:=by
  unfold Ou;rw[ab2 (by omega),ab2 (by omega)];simp
 unfold M9;rw[e];exact h
def DX(b:Expr):Prop:=∀o i,subscripted b false o i=operate [o,i] (getItem o i)
def Sm(X:Cx)(r:R2):Prop:=
 ∀(value slice:Expr) (pins:aw8) (s:Shared) (σ:St) (H:Hp) (x y:V) (v u:Value) (Q:VK),Inv X pins σ H s->RelV x v->RelV y u->r x y H Q->
  subscripted slice false v u=operate [v,u] (getItem v u)->wpAny (model X.prog X.w) X.A (subscriptTail value slice v u) (EP X pins σ Q) X.xe s
def VE(X:Cx)(id:String)(r:V->List V->Hp->VK->Prop):Prop:=
 ∀(pins:aw8) (s:Shared) (σ:St) (H:Hp) (x:V) (xs:az0) (v:Value) (us:aw7) (Q:VK),Inv X pins σ H s->RelV x v->Vals xs us->r x xs H Q->
  wpAny (model X.prog X.w) X.A (call (.builtin id) (v :: us)) (EP X pins σ Q) X.xe s
section
variable{X:Cx}{a b:Expr}{ta tb:TE}{pos:Pos}
def Sm.or{r r':R2}(h:Sm X r)(h':Sm X r'):Sm X (fun x y H Q=>r x y H Q\/r' x y H Q):=by
 intro value slice pins s σ H x y v u Q I rx ry q hs;rcases q with q|q
 ·exact h value slice pins s σ H x y v u Q I rx ry q hs
 ·exact h' value slice pins s σ H x y v u Q I rx ry q hs
def VE.or{id:String}{r r':V->List V->Hp->VK->Prop}(h:VE X id r)(h':VE X id r'):VE X id (fun x xs H Q=>r x xs H Q\/r' x xs H Q):=by
 intro pins s σ H x xs v us Q I rx rs q;rcases q with q|q
 ·exact h pins s σ H x xs v us Q I rx rs q
 ·exact h' pins s σ H x xs v us Q I rx rs q
def Gv(K:aw5):R2:=fun x y H Q=>∃p xs i v,x=.ref p/\y=.int i/\JH K H p xs/\M9 xs i=some v/\Q v H
def Gi(K:aw5):R2:=fun x y H Q=>∃p xs i v,x=.ref p/\y=.int i/\Kq K H p xs/\M9 xs i=some v/\Q v H
def Ea:Sm X (Gv X.K):=by
 intro value slice pins s σ H x y v u Q I rx ry h hs;obtain⟨p,xs,i,z,rfl,rfl,hq,he,q⟩:=h;cases rx;obtain⟨t,rfl⟩:=ry;obtain⟨y_,r,pl,hz⟩:=I.list hq;obtain⟨j,h1,h2,h3,h4,h5⟩:=za he;obtain⟨w,ew,Lg⟩:=r.get h2;have hl:=r.length;have hn:=mT;have fin:EP X pins σ Q w s:=⟨z,H,I,Lg,q⟩;by_cases h0:0<=i
 ·have hj:i.toNat=j:=by
   rw[av6 h0 h5] at h1;exact ae5 h1
  exact item_listR pl.isList h0 (by omega) (by rw[hj];simpa using ew) fin hs
 ·have hj:(i+(y_.toArray.size:Int)).toNat=j:=by
   rw[seqIndex_neg (by omega) h4] at h1;rw[ab7,<-hl];exact ae5 h1
  exact subscriptTail_builtinR (x:=w) pl.isList.typeIs slot_list_getitem.lookup
   (wpAny_getItem_list_neg (Q:=fun r s'=>r=w/\EP X pins σ Q r s') pl.isList (by omega) (by rw[ab7]<;>omega) (by omega) (by rw[hj];simpa using ew) ⟨rfl,fin⟩) hs
def Ff:Sm X (Gi X.K):=by
 intro value slice pins s σ H x y v u Q I rx ry h hs;obtain⟨p,xs,i,z,rfl,rfl,hq,he,q⟩:=h;cases rx;obtain⟨t,rfl⟩:=ry;obtain⟨y_,r,pl,hz⟩:=I.tuple hq;obtain⟨j,h1,h2,h3,h4,h5⟩:=za he;obtain⟨w,ew,Lg⟩:=r.get h2;have hl:=r.length;have hn:=mT;have fin:EP X pins σ Q w s:=⟨z,H,I,Lg,q⟩;exact subscriptTail_builtinR (x:=w) pl.typeIs slot_tuple_getitem.lookup
  (getItem_tuple (j:=j) (Q:=fun r s'=>r=w/\EP X pins σ Q r s') pl (by omega) (by omega) (by rw[ab7,<-hl];exact h1) (by simpa using ew) ⟨rfl,fin⟩) hs
def xN(y_:aw7)(n j:Nat)(u:Value):Obj.mapSeq (·.setIfInBounds j u) { cls:=.type "list",data:=.seq y_.toArray n } = { cls:=.type "list",data:=.seq (y_.set j u).toArray n }:=by
 simp[Obj.mapSeq]
def Inv.lst{pins:aw8}{σ:St}{H:Hp}{s:Shared}{p:Addr}{xs:az0}(I:Inv X pins σ H s)(h:H p=some (.lst xs)) :
  ∃(y_:aw7) (n:Nat),Vals xs y_/\s.heap.get? p=some { cls:=.type "list",data:=.seq y_.toArray n }/\xs.length<=sizeLine:=by
 obtain⟨z,y_,n,r,e⟩:=I.HH p _ h;exact⟨y_,n,r,e,z⟩
def Inv.Sn{pins:aw8}{σ:St}{H:Hp}{s:Shared}{p:Addr}{xs ys:az0}{y_ its':aw7}{n n':Nat}{f:Obj->Obj}(I:Inv X pins σ H s)(h:H p=some (.lst xs))
  (ho:s.heap.get? p=some { cls:=.type "list",data:=.seq y_.toArray n }) (hf:f { cls:=.type "list",data:=.seq y_.toArray n } = { cls:=.type "list",data:=.seq its'.toArray n' }) (r:Vals ys its') (hz:ys.length<=sizeLine) (t:Nat) :
  Inv X pins σ (upd H p (.lst ys)) { s with heap:=s.heap.update p f,toks:=t }:=by
 have e:(s.heap.update p f).get? p=some { cls:=.type "list",data:=.seq its'.toArray n' }:=by
  rw[ah1 f ho (by rw[hf]<;>rfl),hf]
 refine I.write (x:=p) (e:=p) (by rw[h];trivial) (.inl rfl) (fun b u hb q=>(af6 _ _ (af8 hb)).trans q) ⟨_,e⟩ ?_;exact⟨hz,its',n',r,e⟩
def Gb:V->V->V->Hp->(Hp->Prop)->Prop:=fun o i v H Q=>∃p xs k j,o=.ref p/\i=.int k/\H p=some (.lst xs)/\Ou xs.length k=some j/\Q (upd H p (.lst (xs.set j v)))
def Co:GR X Gb:=by
 intro pins s σ H o i v ov iv u Q I ro ri rv h;obtain⟨p,xs,k,j,rfl,rfl,hp,hj,q⟩:=h;cases ro;obtain⟨t,rfl⟩:=ri;obtain⟨y_,n,r,ho,hz⟩:=I.lst hp;obtain⟨h1,h2,h3,h4⟩:=zd hj;have hl:=r.length;have hn:=mT;have I':Inv X pins σ (upd H p (.lst (xs.set j v))) { s with heap:=s.heap.update p (Obj.mapSeq (·.setIfInBounds j u)) }:=
  I.Sn hp ho (xN y_ n j u) (r.set rv j) (by rw[ap4];exact hz) s.toks
 by_cases h0:0<=k
 ·have hk:k.toNat=j:=by
   rw[av6 h0 h4] at h1;exact ae5 h1
  exact PySem.W.ki_setAt ho h0 (by omega) (by rw[ab7,<-hl];exact h4) (by rw[hk];exact⟨_,I',q⟩)
 ·have hk:(k+(y_.toArray.size:Int)).toNat=j:=by
   rw[seqIndex_neg (by omega) h3] at h1;rw[ab7,<-hl];exact ae5 h1
  exact PySem.W.ki_setBack ho (by omega) (by rw[ab7,<-hl];exact h3) (by omega) (by rw[hk];exact⟨_,I',q⟩)
def uZ(lo hi:Option Int)(n:Nat):(sliceBounds lo hi none n).1=((HT.IV n 0 lo:Nat):Int)/\(sliceBounds lo hi none n).2.1=((HT.IV n n hi:Nat):Int)/\(sliceBounds lo hi none n).2.2=1:=by
 refine⟨?_,?_,rfl⟩
 ·cases lo with
  |none=>simp[sliceBounds,HT.IV]
  |some i=>
   simp only[sliceBounds,HT.IV,getD_none,show(1:Int) > 0 by decide,ao1];by_cases h:i<0
   ·simp only[h,ao1]<;>omega
   ·simp only[h,av5]<;>omega
 ·cases hi with
  |none=>simp[sliceBounds,HT.IV]
  |some i=>
   simp only[sliceBounds,HT.IV,getD_none,show(1:Int) > 0 by decide,ao1];by_cases h:i<0
   ·simp only[h,ao1]<;>omega
   ·simp only[h,av5]<;>omega
def sH(y_:aw7)(lo hi:Option Int):slicePick y_.toArray lo hi none=((y_.drop (HT.IV y_.length 0 lo)).take (HT.IV y_.length y_.length hi-HT.IV y_.length 0 lo)).toArray:=by
 obtain⟨h1,h2,h3⟩:=uZ lo hi y_.toArray.size;unfold slicePick;rw[h1,h2,h3];simp only[sliceRange_one,pick_run,ab7]<;>rfl
def Hg(K:aw5):V->Option Int->Option Int->Hp->VK->Prop:=fun x lo hi H Q=>∃a xs,x=.ref a/\JH K H a xs/\∀p,H p=none->Q (.ref p) (upd H p (.lst (yl xs lo hi)))
def zu:Uy X (Hg X.K):=by
 intro pins s σ H x v vl vu lo hi sl Q I rx hs pl pu h;obtain⟨a,xs,rfl,hx,q⟩:=h;cases rx;obtain⟨y_,r,ht,hz⟩:=I.list hx;have hlen:=r.length;refine⟨"list",_,slot_list_getitem.lookup,ht.isList.typeIs,?_⟩;refine wpAny_getItem_list_slice ht.isList hs pl pu .none (by simp) ?_ (by rw[ab7]<;>omega);rw[sH,<-hlen];refine⟨.ref s.heap.objs.size,_,I.laid (t':=s.toks) (o:=.lst (yl xs lo hi)) (fun b ob q=>aa6 _ q) (aa1 _) ?_,rfl,q _ (I.HH.fresh (aa1 _))⟩;exact⟨ab5 (ph xs lo hi) hz,_,0,(r.drop (HT.IV xs.length 0 lo)).take (HT.IV xs.length xs.length hi-HT.IV xs.length 0 lo),ac0 _ rfl⟩
def j0:V->Bool
 |.Hw=>true
 |.bl _=>true
 |.int _=>true
 |.str _=>true
 |_=>false
def PH:V->V->Bool
 |.Hw,.Hw=>true
 |.bl a,.bl b=>a == b
 |.bl a,.int b=>(if a then 1 else 0) == b
 |.int a,.bl b=>a == (if b then 1 else 0)
 |.int a,.int b=>a == b
 |.str a,.str b=>a == b
 |_,_=>false
def E4{A:ay2}{s:Shared}{y x:V}{u v:Value}(ry:RelV y u)(rx:RelV x v)(fy:j0 y=true)(fx:j0 x=true):SeqAt.EqAt A s u v (PH y x):=by
 cases y with
 |Hw=>
  cases ry;cases x with
  |Hw=>cases rx;exact SeqAt.EqAt.same _
  |bl b=>cases rx;exact SeqAt.EqAt.none_bool b
  |int b=>obtain⟨t,rfl⟩:=rx;exact SeqAt.EqAt.none_int b t
  |str b=>obtain⟨t,rfl⟩:=rx;exact SeqAt.EqAt.none_str b t
  |_=>exact absurd (show false=true from fx) ad2
 |bl a=>
  cases ry;cases x with
  |Hw=>cases rx;exact SeqAt.EqAt.bool_none a
  |bl b=>cases rx;exact SeqAt.EqAt.bool_bool a b
  |int b=>obtain⟨t,rfl⟩:=rx;exact SeqAt.EqAt.bool_int a b t
  |str b=>obtain⟨t,rfl⟩:=rx;exact SeqAt.EqAt.bool_str a b t
  |_=>exact absurd (show false=true from fx) ad2
 |int a=>
  obtain⟨t',rfl⟩:=ry;cases x with
  |Hw=>cases rx;exact SeqAt.EqAt.int_none a t'
  |bl b=>cases rx;exact SeqAt.EqAt.int_bool a t' b
  |int b=>obtain⟨t,rfl⟩:=rx;exact int_int a t' b t
  |str b=>obtain⟨t,rfl⟩:=rx;exact int_str a t' b t
  |_=>exact absurd (show false=true from fx) ad2
 |str a=>
  obtain⟨t',rfl⟩:=ry;cases x with
  |Hw=>cases rx;exact SeqAt.EqAt.str_none a t'
  |bl b=>cases rx;exact SeqAt.EqAt.str_bool a t' b
  |int b=>obtain⟨t,rfl⟩:=rx;exact str_int a t' b t
  |str b=>obtain⟨t,rfl⟩:=rx;exact str_str a t' b t
  |_=>exact absurd (show false=true from fx) ad2
 |_=>exact absurd (show false=true from fy) ad2
def PJ(x:V)(u:Value):Bool:=match u with
 |.none=>PH .Hw x
 |.bool b=>PH (.bl b) x
 |.int i _=>PH (.int i) x
 |.str z _=>PH (.str z) x
 |_=>false
def xM{x y:V}{u:Value}(r:RelV y u)(f:j0 y=true):PJ x u=PH y x:=by
 cases y with
 |Hw=>cases r;rfl
 |bl b=>cases r;rfl
 |int i=>obtain⟨t,rfl⟩:=r;rfl
 |str z=>obtain⟨t,rfl⟩:=r;rfl
 |_=>exact absurd (show false=true from f) ad2
theorem u9{x:V}:∀{xs:az0}{us:aw7},Vals xs us->xs.all j0=true->us.any (PJ x)=xs.any fun y=>PH y x
 |_,_,.nil,_=>rfl
 |y :: xs,u :: us,.cons r t,f=>by
  rw[all_cons,ai8] at f;rw[ao2,ao2,xM r f.1,u9 t f.2]
theorem nK{A:ay2}{s:Shared}{x:V}{v:Value}(rx:RelV x v)(fx:j0 x=true):∀{xs:az0}{us:aw7},Vals xs us->xs.all j0=true->∀u∈us,SeqAt.EqAt A s u v (PJ x u)
 |_,_,.nil,_=>fun u hu=>by cases hu
 |y :: xs,u :: us,.cons r t,f=>fun u' hu=>by
  rw[all_cons,ai8] at f;rcases ac7.mp hu with rfl|hu
  ·rw[xM r f.1];exact E4 r rx f.1 fx
  ·exact nK rx fx t f.2 u' hu
def OT(x:V)(xs:az0):Bool:=xs.any fun y=>PH y x
def rIn(K:aw5)(neg:Bool):R2:=fun x y H Q=>∃p xs,y=.ref p/\(JH K H p xs\/Kq K H p xs)/\j0 x=true/\xs.all j0=true/\Q (.bl (if neg then !OT x xs else OT x xs)) H
def Az:Nj X (compareOp .In) (rIn X.K false):=by
 intro pins s σ H x y v u Q I rx ry h;obtain⟨p,xs,rfl,hq,fx,fs,q⟩:=h;cases ry;rcases hq with hq|hq
 ·obtain⟨y_,r,pl,hz⟩:=I.list hq;refine SeqAt.in_listAt (PJ x) pl.isList (fun w hw=>nK rx fx r fs w (by simpa using hw)) ⟨.bl _,H,I,rfl,?_⟩;rw[show y_.toArray.any (PJ x)=y_.any (PJ x) by simp,u9 r fs];exact q
 ·obtain⟨y_,r,pl,hz⟩:=I.tuple hq;refine SeqAt.in_tupleAt (PJ x) pl (fun w hw=>nK rx fx r fs w (by simpa using hw)) ⟨.bl _,H,I,rfl,?_⟩;rw[show y_.toArray.any (PJ x)=y_.any (PJ x) by simp,u9 r fs];exact q
def uN:K2 X (.builtin "len") (fun xs H Q=>∃p ys,xs=[.ref p]/\(JH X.K H p ys\/Kq X.K H p ys)/\Q (.int ys.length) H):=by
 intro pins s σ H xs us Q I r h;obtain⟨p,ys,rfl,hq,q⟩:=h;obtain⟨u,rfl,rx⟩:=Bh r;cases rx;have hn:=mT;rcases hq with hq|hq
 ·obtain⟨y_,r',pl,hz⟩:=I.list hq;have hlen:=r'.length;exact Calls.call_len_list pl.isList (by simp only[ab7]<;>omega) ⟨.int ys.length,H,I.tok _,⟨s.toks+1,by rw[ab7,hlen]⟩,q⟩
 ·obtain⟨y_,r',pl,hz⟩:=I.tuple hq;have hlen:=r'.length;exact len_tuple pl (by simp only[ab7]<;>omega) ⟨.int ys.length,H,I.tok _,⟨s.toks+1,by rw[ab7,hlen]⟩,q⟩
def K2.or{f:Value}{r r':List V->Hp->VK->Prop}(h:K2 X f r)(h':K2 X f r'):K2 X f (fun xs H Q=>r xs H Q\/r' xs H Q):=by
 intro pins s σ H xs us Q I rs q;rcases q with q|q
 ·exact h pins s σ H xs us Q I rs q
 ·exact h' pins s σ H xs us Q I rs q
def u8:K2 X (.type "list") (fun xs H Q=>∃p ys,xs=[.ref p]/\(JH X.K H p ys\/Kq X.K H p ys)/\∀l,H l=none->Q (.ref l) (upd H l (.lst ys))):=by
 intro pins s σ H xs us Q I r h;obtain⟨p,ys,rfl,hq,q⟩:=h;obtain⟨u,rfl,rx⟩:=Bh r;cases rx;have fin:∀(y_:aw7),Vals ys y_->ys.length<=sizeLine->∀(h':Heap) (c':Nat),(∀b o',s.heap.get? b=some o'->h'.get? b=some o')->
   h'.get? s.heap.objs.size=some { cls:=.type "list",dict:=none,data:=.seq y_.toArray c',slots:=#[] }->EP X pins σ Q (.ref s.heap.objs.size) { s with heap:=h' }:=fun y_ r' hz h' c' kp e=>
  ⟨.ref s.heap.objs.size,_,I.laid (t':=s.toks) kp (aa1 _) (show Il X.prog X.w _ h' _ (.lst ys) from ⟨hz,y_,c',r',e⟩),rfl,q _ (I.HH.fresh (aa1 _))⟩
 rcases hq with hq|hq
 ·obtain⟨y_,r',pl,hz⟩:=I.list hq;have hlen:=r'.length;obtain⟨o,ho,hc,n,hd⟩:=pl.isList;exact call_list_seq p (.inl rfl) ho hc hd (fun h' c' kp e=>fin y_ r' hz h' c' kp e) (by simp only[ab7]<;>omega)
 ·obtain⟨y_,r',pl,hz⟩:=I.tuple hq;have hlen:=r'.length;obtain⟨o,ho,hc,n,hd⟩:=pl;exact call_list_seq p (.inr rfl) ho hc hd (fun h' c' kp e=>fin y_ r' hz h' c' kp e) (by simp only[ab7]<;>omega)
def se:K2 X (.type "tuple") (fun xs H Q=>∃p ys,xs=[.ref p]/\((JH X.K H p ys/\∀l,H l=none->Q (.ref l) (upd H l (.tup ys)))\/(Kq X.K H p ys/\Q (.ref p) H))):=by
 intro pins s σ H xs us Q I r h;obtain⟨p,ys,rfl,h⟩:=h;obtain⟨u,rfl,rx⟩:=Bh r;cases rx;rcases h with ⟨hq,q⟩|⟨hq,q⟩
 ·obtain⟨y_,r',pl,hz⟩:=I.list hq;have hlen:=r'.length;refine call_tuple_list pl.isList (fun h' kp=>?_) (by simp only[ab7]<;>omega);have I1:Inv X pins σ H { s with heap:=h' }:=I.kept (t':=s.toks) kp;have I2:Inv X pins σ (upd H h'.objs.size (.tup ys)) { s with heap:=h'.push { cls:=.type "tuple",data:=.seq y_.toArray } }:=
   I1.laid (t':=s.toks) (fun b o e=>aa6 _ e) (aa1 _) (show Il X.prog X.w _ _ _ (.tup ys) from ⟨hz,y_,r',IsTup.new _ _⟩)
  exact⟨.ref h'.objs.size,_,I2,rfl,q _ (I1.HH.fresh (aa1 _))⟩
 ·obtain⟨y_,r',pl,hz⟩:=I.tuple hq;exact call_tuple_same pl ⟨.ref p,H,I,rfl,q⟩
def tyV(K:aw5)(T:String)(x:V)(H:Hp):Prop:=match x with
 |.str _=>T = "str"
 |.int _=>T = "int"
 |.ref p=>(T = "list"/\∃xs,JH K H p xs)\/(T = "tuple"/\∃o,K.lookup p=some o/\o.cls=.type "tuple"/\o.dict=none)\/
   (T = "dict"/\((∃kvs,H p=some (.dK kvs))\/∃kvs,H p=some (.dT kvs)))\/(T = "set"/\∃S n,H p=some (.set S n))
 |_=>False
def E9{pins:aw8}{σ:St}{H:Hp}{s:Shared}{T:String}{x:V}{v:Value}(I:Inv X pins σ H s)(r:RelV x v)(ty:tyV X.K T x H) :
  s.TypeIs v T/\∀a,v=.ref a->∃ob,s.heap.get? a=some ob/\ob.dict=none:=by
 cases x with
 |str z=>
  obtain⟨t,rfl⟩:=r;cases(show T = "str" from ty);exact⟨typeIs_str s z t,fun _ e=>nomatch e⟩
 |int i=>
  obtain⟨t,rfl⟩:=r;cases(show T = "int" from ty);exact⟨typeIs_int s i t,fun _ e=>nomatch e⟩
 |ref p=>
  cases r;rcases ty with ⟨rfl,xs,hq⟩|⟨rfl,o,hk,hc,hd⟩|⟨rfl,hk⟩|⟨rfl,S,n,hk⟩
  ·obtain⟨y_,_,pl,_⟩:=I.list hq;refine⟨pl.isList.typeIs,fun a e=>?_⟩;cases e;obtain⟨o,n,e,c,hd,_⟩:=pl;exact⟨o,e,hd⟩
  ·refine⟨⟨o,I.LS p o hk,hc⟩,fun a e=>?_⟩;cases e;exact⟨o,I.LS _ o hk,hd⟩
  ·have z:∃o,s.heap.get? p=some o/\o.ExactDict:=by
    rcases hk with ⟨kvs,hk⟩|⟨kvs,hk⟩
    ·obtain⟨_,_,_,_,o,_,_,e,ex,_⟩:=I.HH p _ hk;exact⟨o,e,ex⟩
    ·obtain⟨_,_,_,_,o,_,_,e,ex,_⟩:=I.HH p _ hk;exact⟨o,e,ex⟩
   obtain⟨o,e,ex⟩:=z;refine⟨⟨o,e,ex.1⟩,fun a e2=>?_⟩;cases e2;exact⟨o,e,ex.2.1⟩
  ·obtain⟨o,_,_,_,e,ex,_⟩:=I.HH p _ hk;refine⟨⟨o,e,ex.1⟩,fun a e2=>?_⟩;cases e2;exact⟨o,e,ex.2.1⟩
 |_=>exact False.elim ty
variable{o e:Expr}{es:ax8}{to:TE}{t:TA}{name:Str}{apos IE:Pos}{T id:String}{r:V->List V->Hp->VK->Prop}
end
def Zv(X:Cx)(id:String)(r:V->List V->Hp->VK->Prop):Prop:=
 ∀(pins:aw8) (s:Shared) (σ:St) (H:Hp) (x:V) (xs:az0) (v:Value) (us:aw7) (Q:VK),Inv X pins σ H s->RelV x v->Vals xs us->r x xs H Q->
  wpAny (model X.prog X.w) X.A (call (.builtin id) (v :: us)) (EP X pins σ Q) X.xe s
def Vals.one:∀{x:V}{us:aw7},Vals [x] us->∃u,us=[u]/\RelV x u
 :=fun h=>by cases h with|cons r t=>cases t;exact⟨_,rfl,r⟩
def Vals.two:∀{x y:V}{us:aw7},Vals [x,y] us->∃u v,us=[u,v]/\RelV x u/\RelV y v
 :=fun h=>by cases h with|cons r t=>cases t with|cons q t=>cases t;exact⟨_,_,rfl,r,q⟩
def Vals.zero:∀{us:aw7},Vals [] us->us=[]
 |_,.nil=>rfl
theorem Vals.dropLast{xs:az0}{us:aw7}(h:Vals xs us):Vals xs.dropLast us.dropLast:=by
 induction h with
 |nil=>exact .nil
 |cons r t ih=>
  cases t with
  |nil=>exact .nil
  |cons q t'=>exact .cons r ih
theorem Vals.eraseIdx:∀{xs:az0}{us:aw7}(i:Nat),Vals xs us->Vals (xs.eraseIdx i) (us.eraseIdx i)
 |_,_,_,.nil=>.nil
 |_,_,0,.cons _ t=>t
 |_,_,i+1,.cons r t=>.cons r (Vals.eraseIdx i t)
theorem Vals.rep{xs:az0}{us:aw7}(h:Vals xs us):∀k:Nat,Vals (replicate k xs).flatten (replicate k us).flatten
 |0=>.nil
 |k+1=>by
  rw[ai0,ai0,am7,am7];exact Vals.append h (Vals.rep h k)
theorem tX{α:Type}:∀(l:List α) (i:Nat),(l.eraseIdx i).length<=l.length
 |[],_=>aa1 _
 |_ :: _,0=>ad9 _
 |_ :: r,i+1=>ar3 (tX r i)
theorem ul(y_:aw7):∀(k:Nat) (acc:aw7),
  foldl (fun x1 x2=>x1++x2) acc.toArray (replicate k y_.toArray)=(acc++(replicate k y_).flatten).toArray
 |0,acc=>by simp
 |k+1,acc=>by
  have e:acc.toArray++y_.toArray=(acc++y_).toArray:=by simp
  have e2:(acc++y_)++(replicate k y_).flatten=acc++(replicate (k+1) y_).flatten:=by
   rw[ai0,am7,ae2]
  rw[<-e2,<-ul y_ k (acc++y_),<-e,ai0,ar8]
section
variable{X:Cx}{pins:aw8}{σ:St}{H:Hp}{s:Shared}{l b:Addr}{xs ys zs:az0}
def Inv.QU{y_ its':aw7}{n:Nat}{f:Array Value->Array Value}{t':Nat}(I:Inv X pins σ H s)(hH:H l=some (.lst xs))
  (e:s.heap.get? l=some { cls:=.type "list",data:=.seq y_.toArray n }) (hf:f y_.toArray=its'.toArray) (hv:Vals ys its') (hz:ys.length<=sizeLine) :
  Inv X pins σ (upd H l (.lst ys)) { s with heap:=s.heap.update l (Obj.mapSeq f),toks:=t' }:=by
 have q:=PySem.IsL.update e f;rw[hf] at q;refine I.write (x:=l) (e:=l) (by rw[hH];exact trivial) (.inl rfl) (fun b' u hb hu=>(af6 s.heap (Obj.mapSeq f) (af8 hb)).trans hu) ⟨_,q⟩ ?_;exact⟨hz,its',_,hv,q⟩
def Inv.Uz{y_:aw7}{t':Nat}(I:Inv X pins σ H s)(hv:Vals ys y_)(hz:ys.length<=sizeLine) :
  Inv X pins σ (upd H s.heap.objs.size (.lst ys)) { s with heap:=s.heap.push { cls:=.type "list",data:=.seq y_.toArray },toks:=t' }:=
 I.laid (fun _ _ q=>aa6 _ q) (aa1 _) ⟨hz,y_,0,hv,ac0 _ rfl⟩
def Inv.fresh(I:Inv X pins σ H s):H s.heap.objs.size=none:=I.HH.fresh (aa1 _)
def Inv.NV(I:Inv X pins σ H s)(hH:H l=some (.lst xs)):xs.length<=sizeLine/\∃(y_:aw7) (n:Nat),Vals xs y_/\xs.length=y_.length/\s.heap.get? l=some { cls:=.type "list",data:=.seq y_.toArray n }:=by
 obtain⟨z,y_,n,r,e⟩:=I.HH l _ hH;exact⟨z,y_,n,r,r.length,e⟩
def vV{n:Nat}(h:n<=sizeLine):Builtin.List.listTooLong n=false:=by
 unfold Builtin.List.listTooLong;exact aa5 (by omega)
end
section
variable{X:Cx}
def DK:V->List V->Hp->VK->Prop:=fun x vs H Q=>∃l xs y,x=.ref l/\vs=[y]/\H l=some (.lst xs)/\xs.length<sizeLine/\Q .Hw (upd H l (.lst (xs++[y])))
def ui:Zv X "list.append" DK:=by
 intro pins s σ H x vs v us Q I rx rv h;obtain⟨l,xs,y,rfl,rfl,hH,hz,q⟩:=h;cases rx;obtain⟨u,rfl,ru⟩:=rv.one;obtain⟨z,y_,n,r,hl,e⟩:=I.NV hH;refine ap5 F.slot_list_append ⟨_,e,rfl⟩ F.entry_list_append (F.args_list_append_2 _ _) (PySem.list_append l y_.toArray n u (by rw[ab7];omega)) ⟨e,?_⟩;refine⟨.Hw,_,I.QU (its':=y_++[u]) hH e (by simp) (r.append (.cons ru .nil)) ?_,rfl,q⟩;rw[aa8,ad8];omega
def E2:V->List V->Hp->VK->Prop:=fun x vs H Q=>∃l xs i k y,x=.ref l/\vs=[.int i]/\H l=some (.lst xs)/\-(2 ^ 63)<=i/\i<2 ^ 63/\seqIndex? i xs.length=some k/\xs[k]?=some y/\Q y (upd H l (.lst (xs.eraseIdx k)))
def CC:Zv X "list.pop" E2:=by
 intro pins s σ H x vs v us Q I rx rv h;obtain⟨l,xs,i,k,y,rfl,rfl,hH,h1,h2,hk,hy,q⟩:=h;cases rx;obtain⟨u,rfl,ru⟩:=rv.one;obtain⟨t,rfl⟩:=ru;obtain⟨z,y_,n,r,hl,e⟩:=I.NV hH;obtain⟨w,hw,Lg⟩:=r.get hy;refine ap5 F.slot_list_pop ⟨_,e,rfl⟩ F.entry_list_pop (F.args_list_pop_2 _ _)
  (MeetsSeq.list_pop_at l y_.toArray n i t k w (av7 h1 h2) (by rw[ab7,<-hl];exact hk) (by rw[<-aq8];exact hw) (by rw[ab7];omega)) ⟨e,?_⟩
 refine⟨y,_,I.QU (its':=y_.eraseIdx k) hH e ?_ (r.eraseIdx k) ?_,Lg,q⟩
 ·show y_.toArray.eraseIdxIfInBounds k=(y_.eraseIdx k).toArray;rw[List.eraseIdxIfInBounds_toArray]
 ·have:=tX xs k;omega
def G6:R2:=fun x y H Q=>∃l b xs zs,x=.ref l/\y=.ref b/\H l=some (.lst xs)/\H b=some (.lst zs)/\xs.length+zs.length<=sizeLine/\∀p,H p=none->Q (.ref p) (upd H p (.lst (xs++zs)))
def E1:Nj X (binaryOp .Add) G6:=by
 intro pins s σ H x y v u Q I rx ry h;obtain⟨l,b,xs,zs,rfl,rfl,hH,hB,hz,q⟩:=h;cases rx;cases ry;obtain⟨z,y_,n,r,hl,e⟩:=I.NV hH;obtain⟨z2,NW,n2,r2,QH,e2⟩:=I.NV hB;refine PySem.P.add_list e e2 ?_ (by rw[ab7,ab7];omega);have ea:y_.toArray++NW.toArray=(y_++NW).toArray:=by simp
 rw[ea];exact⟨.ref _,_,I.Uz (t':=s.toks) (r.append r2) (by rw[aa8];omega),rfl,q _ I.fresh⟩
def Hc:R2:=fun x y H Q=>∃l k xs,x=.ref l/\y=.int k/\H l=some (.lst xs)/\-(2 ^ 63)<=k/\k<2 ^ 63/\xs.length * k.toNat<=sizeLine/\
 ∀p,H p=none->Q (.ref p) (upd H p (.lst (replicate k.toNat xs).flatten))
def Di{α:Type}(xs:List α)(k:Nat):(replicate k xs).flatten.length=k * xs.length:=by
 induction k with
 |zero=>simp
 |succ k ih=>rw[ai0,am7,aa8,ih,Nat.succ_mul,Nat.add_comm]
def EX:Nj X (binaryOp .Mult) Hc:=by
 intro pins s σ H x y v u Q I rx ry h;obtain⟨l,k,xs,rfl,rfl,hH,h1,h2,hz,q⟩:=h;cases rx;obtain⟨t,rfl⟩:=ry;obtain⟨z,y_,n,r,hl,e⟩:=I.NV hH;have hlen:y_.toArray.size * k.toNat<=sizeLine:=by rw[ab7,<-hl];exact hz
 have WA:¬y_.toArray.size * k.toNat > (2 ^ 63-1) / 8:=by
  have:(sizeLine:Nat)<=(2 ^ 63-1) / 8:=by decide
  omega
 have PX:¬(!Builtin.List.listFitsIndex k)=true:=by
  rw[av7 h1 h2];exact ad2
 have PY:¬Builtin.List.listTooLong (y_.toArray.size * k.toNat)=true:=by
  rw[vV hlen];exact ad2
 have Je:foldl (fun x1 x2=>x1++x2) #[] (replicate (if y_.toArray.isEmpty=true then 0 else k.toNat) y_.toArray)=(replicate k.toNat y_).flatten.toArray:=by
  have f0:∀m:Nat,foldl (fun x1 x2=>x1++x2) #[] (replicate m y_.toArray)=(replicate m y_).flatten.toArray:=fun m=>by
   have:=ul y_ m [];rw[ar9] at this;exact this
  rw[f0];cases y_ with
  |nil=>simp
  |cons a r'=>rw[ab1 (by simp)]
 refine wpAny_binaryOp_repeat_ref (T:="list") (U:="int") (by decide) ⟨_,e,rfl⟩ (fun s'=>typeIs_int s' k t) noFill_list_mul F.fills_int_mul F.slot_int_rmul repeat_list F.slot_int_index.lookup
  (ap5 F.slot_int_rmul (typeIs_int s k t) F.entry_int_rmul (F.args_int_rmul_2 _ _) (int___rmul___int_list k t l y_.toArray n)
   ⟨e,rfl,⟨_,e,rfl⟩,ap5 F.slot_list_mul ⟨_,e,rfl⟩ F.entry_list_mul (F.args_list_mul_2 _ _) (AutoListH.list___mul___list_int_3 l y_.toArray n k t PX WA PY) ⟨e,?_⟩⟩)
 rw[Je];exact⟨.ref _,_,I.Uz (t':=s.toks) (r.rep k.toNat) (by rw[Di,Nat.mul_comm];exact hz),rfl,q _ I.fresh⟩
end
section
variable{prog:ay1}{w:ay3}{A:ay2}{E:aw4}{s:Shared}
end
section
variable{X:Cx}
end
end L2
namespace Zw
open PySem PySem.W PySem.Calls PyProof.Rows
def pC{P:Params}{h:Heap}:∀(ns:ax3) (vs:aw7),WellAll P h vs (ns.map WData.int)->IntsAre vs ns:=by
 intro ns
 induction ns with
 |nil=>
  intro vs w;rw[aw3] at w;cases w;exact .nil
 |cons n ns ih=>
  intro vs w;rw[ac2] at w;cases w with
  |cons a b=>
   cases a;exact .cons _ _ (ih _ b)
def z7{l:OpenLaw}{n:Nat}(hn:l.most=some n){P:Params}{h:Heap}{args:List WData}{vals:aw7}
  (NX:l.row.toRowW.claim.pre args=true) (VF:WellAll P h vals args) :
  ∃a vs ns,vals=[Value.ref a]/\args=[WData.list (ns.map WData.int)]/\h.get? a=some { cls:=.type "list",data:=.seq vs.toArray }/\IntsAre vs ns/\ns.length<=n:=by
 have hsh:WShape.hasAll [] args [.list .int]=true:=(pre_splitW NX).1;have hc:l.pre.holds [] { args:=args }=true:=(pre_splitW NX).2;obtain⟨d,r,rfl,h1,h2⟩:=hasAllW_cons hsh;obtain rfl:=hasAllW_nil h2;obtain⟨xs,rfl,h3⟩:=hasW_list h1;obtain⟨ns,rfl⟩:=items_int h3;have hlen:ns.length<=n:=by
  unfold OpenLaw.pre at hc;have h4:(WTm.not (.lt (.lit (.int (n:Int))) (.len (.arg 0)))).holds [] { args:=[.list (ns.map .int)] }=true:=by
   have h4:=(holds_andW hc).1;rw[hn] at h4;exact h4
  have h5:=condW_of h4 (w_not (w_lt w_lit (w_len_list (w_arg rfl))));rw[aa7] at h5;refine ap6 fun q=>?_
  have q':(n:Int)<((ns.length:Nat):Int):=by omega
  first
   |(rw[aa3 q'] at h5;exact absurd h5 (by decide))
   |(simp at h5;omega)
 cases VF with
 |cons w1 w2=>
  cases w2;cases w1 with
  |list ho So=>exact⟨_,_,ns,rfl,rfl,ho,pC ns _ So,hlen⟩
def zH(l:OpenLaw)(args:List WData):l.row.toRowW.claim.post args (.bool true) args=true:=
 postW_of (r:=l.row.toRowW) (X:=(true == true))
  (show WShape.has [] (.bool true) .bool=true by first|rfl|decide|simp[WShape.has,WShape.arms,WShape.armsAll])
  (show(WTm.eq .res (.lit (.bool true))).value [] { args:=args,res:=some (.bool true),after:=args }=some (.bool (true == true)) from w_eq_bool (w_res rfl) w_lit) rfl
def NY{l:OpenLaw}{n:Nat}{q:ay1}{loose:ax0}{XP:(Str->Option Value)->Heap->Prop}{YP:World->Heap->Prop}{d:DefRec}
  (hn:l.most=some n) (UA:d.params.defaults=[])
  (call:∀(w:ay3) (JB HW:Shared) (mg mb:aw9) (fa:Addr) (o:Obj) (pm cd doc:Value) (a:Addr) (vs:aw7) (ns:ax3),
   Ground q loose [] XP w JB mg mb HW.heap->YP w HW.heap->
   HW.heap.get? fa=some o->o.data=.func (docDef d.name d.params d.body d.scope pm cd doc)->HW.heap.CodeRec cd d.name->mg d.name=some (.ref fa)->
   HW.heap.get? a=some { cls:=.type "list",data:=.seq vs.toArray }->IntsAre vs ns->ns.length<=n->HW.gens = #[]->
   codeAny (model l.prog w) callerA (.call (.ref fa) ⟨[.ref a],[]⟩) (fun r s'=>r=.ok (.ret (.bool true))/\OldK HW.heap s'.heap/\s'.os=HW.os/\AllBare s'.gens) HW) :
  WalkO q loose XP YP l.row.toRowW d [] (fun f vs=>PySem.call f vs):=by
 intro w JB HW mg mb G Y fa o pm cd doc dV kV ho hd Of hD hmg hg args vals as NX hlay Sq VF VG;obtain rfl:dV=.none:=Dflts.none hD UA;obtain rfl:kV=.none:=Dflts.noKw hD;obtain⟨a,vs,ns,rfl,rfl,Ss,hints,hlen⟩:=z7 hn NX VF;refine enter_call (al1 (call w JB HW mg mb fa o pm cd doc a vs ns G Y ho (fd_plain hd) Of hmg Ss hints hlen hg) fun r s' hq=>?_);obtain⟨rfl,h2,h3,h4⟩:=hq;exact⟨.inl ⟨.bool true,.bool true,[],rfl,fun _=>rfl,.bool true,zH l _,fun _=>⟨List.Pairwise.nil,fun _ hm=>(nomatch hm)⟩⟩,h2,h3,h4⟩
section
variable{prog:ay1}{w:ay3}{A:ay2}{E:aw4}{s:Shared}{K:Frag}
end
end Zw
namespace L2
open PySem PySem.Spec PyProof.Rows
theorem jT:∀{vs:aw7}{ns:ax3},IntsAre vs ns->Vals (ns.map V.int) vs
 |_,_,.nil=>.nil
 |_,_,.cons n t h=>.cons ⟨t,rfl⟩ (jT h)
def Ds(H:Hp):Prop:=∀b,H b=none\/∃o xs,H b=some (.Oq o (.lst xs))
def CJ{P:ay1}{w:ay3}{K:aw5}{mg mb:aw9}{CX:Lx}{k:Nat}{fa a:Addr}{fd:ax1}{x:Str}{sp:Sp}{HW:Shared}{vs:aw7}{ns:ax3}
  (KX:K.In HW.heap) (KQ:HW.heap.Ns mainGlobals mg) (hb:HW.heap.Ns builtinsNs mb) (hbb:∀x:Str,x≠"__name__"->mb x=bootBuiltins x) (WB:HW.heap.NoLimit) (hg:HW.gens = #[])
  (ha:HW.heap.get? a=some { cls:=.type "list",data:=.seq vs.toArray }) (hi:IntsAre vs ns) (hl:ns.length<=sizeLine) (hr:I0 k callerA)
  (F:∀base:Heap,K.In base->base.Ns mainGlobals mg->Lk P w K mg base CX k fa fd [x] sp) (UB:∀(s:Shared) (u:Value),BindsTo s fd ⟨[u],[]⟩ [(x,u)])
  (QG:∀H:Hp,Ds H->JH K H a (ns.map V.int)->sp [.ref a] H (fun v _=>v=.bl true) fun _ _ _=>False)
  (WC:∀H e s',CX [] H HW (fun _ _ _=>False) e s'->False) :
  codeAny (model P w) callerA (.call (.ref fa) ⟨[.ref a],[]⟩) (fun r s'=>r=.ok (.ret (.bool true))/\OldK HW.heap s'.heap/\s'.os=HW.os/\AllBare s'.gens) HW:=by
 have rv:=jT hi;have WD:=hi.length;have core:∀H:Hp,Ds H->JH K H a (ns.map V.int)->JG P w H HW.heap->(∀b,H b≠none->b=a)->(H a≠none->K.lookup a=none)->
   codeAny (model P w) callerA (.call (.ref fa) ⟨[.ref a],[]⟩) (fun r s'=>r=.ok (.ret (.bool true))/\OldK HW.heap s'.heap/\s'.os=HW.os/\AllBare s'.gens) HW:=by
  intro H hO hS HH hA hK;have OU:∀{b:Addr}{o:Obj},HW.heap.get? b=some o->H b=none->(uC HW.heap H).get? b=some o:=fun e n=>BX e n
  have Uv:∀{b:Addr}{o:Obj}{es:Array DictEntry}{ep:Nat},HW.heap.get? b=some o->o.data=.dict es ep->H b=none:=fun {b o es ep} e d=>by
   cases q:H b with
   |none=>rfl
   |some u=>
    have e':b=a:=hA b (by rw[q];simp);subst e';rw[ha] at e;cases e;have d':Data.seq vs.toArray _=Data.dict es ep:=d;cases d'
  have VH:∀{b:Addr}{m:aw9},HW.heap.Ns b m->(uC HW.heap H).Ns b m:=fun {b m} ⟨o,es,ep,e,d,r⟩=>⟨o,es,ep,OU e (Uv e d),d,r⟩
  have Zx:K.In (uC HW.heap H):=fun b o e=>OU (KX b o e) (by
   cases q:H b with
   |none=>rfl
   |some u=>
    have e':b=a:=hA b (by rw[q];simp);subst e';rw[hK (by rw[q];simp)] at e;cases e)
  have hM:Mod K mg (uC HW.heap H):=⟨Zx,VH KQ,⟨mb,VH hb,hbb⟩,let ⟨mc,h1,h2⟩:=WB;⟨mc,VH h1,h2⟩⟩;have e0:Mu P w K mg (uC HW.heap H) callerA [] HW H:=⟨rfl,hM,fun b o e=>DA e,Nat.le_of_eq (Ab _ _),trivial,fun b hb=>absurd (show b∈([]:aw6) from hb) (by simp),HH,.of_eq hg⟩;refine al1 ((F _ Zx (VH KQ)).run callerA [] HW H ⟨[.ref a],[]⟩ [.ref a] [.ref a] _ _ hr e0 (UB HW (.ref a)) (.cons rfl .nil) (QG H hO hS)) fun r s' h=>?_
  cases r with
  |error e=>exact(WC H e s' h).elim
  |ok fl=>
   cases fl with
   |next=>exact False.elim h
   |brk=>exact False.elim h
   |cont=>exact False.elim h
   |ret u=>
    obtain⟨v,H',os,bare,un,WE,r',q⟩:=h;have q':v=.bl true:=q;subst q';obtain rfl:u=Value.bool true:=r';refine⟨rfl,OldK.of_keep fun b o e=>?_,os,bare⟩;cases q:H b with
    |none=>exact un.keep b o e q (by intro z;exact absurd (show b∈([]:aw6) from z) (by simp)) (by simp)
    |some u=>
     rcases hO b with z|⟨ob,xs,z⟩
     ·rw[q] at z;cases z
     ·have z2:=un.KP b ob _ z;obtain⟨e1,_⟩:=HH b _ z;obtain⟨e2,_⟩:=WE b _ z2;rw[e] at e1;cases e1;exact e2
 cases hk:K.lookup a with
 |some o=>
  have e:=KX a o hk;rw[ha] at e;cases e;refine core (fun _=>none) (fun _=>.inl rfl) (.inr ⟨_,vs.toArray,_,hk,rfl,rfl,rfl,by rw[ab7,WD];exact hl,by simpa using rv⟩) (fun b u z=>by have z':(none:Option HO)=some u:=z;cases z') (fun b z=>absurd rfl z) fun z=>absurd rfl z
 |none=>
  refine core (fun b=>if b=a then some (.Oq { cls:=.type "list",data:=.seq vs.toArray } (.lst (ns.map V.int))) else none) (fun b=>?_) (.inl (.inr ⟨{ cls:=.type "list",data:=.seq vs.toArray },ab2 rfl⟩)) (fun b u z=>?_) (fun b z=>?_) fun _=>hk
  ·by_cases hb:b=a
   ·exact .inr ⟨_,_,ab2 hb⟩
   ·exact .inl (ab1 hb)
  ·by_cases hb:b=a
   ·have z':=(ab2 hb).symm.trans z;cases z';subst hb;exact⟨ha,by rw[aa7];exact hl,vs,_,rv,ha⟩
   ·have z':=(ab1 hb).symm.trans z;cases z'
  ·by_cases hb:b=a
   ·exact hb
   ·exact absurd (ab1 hb) z
def QV{l:PySem.W.OpenLaw}{n k:Nat}{q:ay1}{loose:ax0}{XP:(Str->Option Value)->Heap->Prop}{YP:World->Heap->Prop}{d:DefRec}{K:Params->PySem.W.Frag}{CX:World->Lx}{sp:World->Sp}{x:Str}
  (hn:l.most=some n) (TB:n<=sizeLine) (UA:d.params.defaults=[]) (hr:I0 k callerA)
  (hY:∀(w:ay3) (h:Heap),YP w h->(K w.params).In h)
  (F:∀(w:ay3) (mg:aw9) (fa:Addr) (h:Heap),(K w.params).In h->h.Ns mainGlobals mg->mg d.name=some (.ref fa)->
   ∃fd:FuncData,(∀(s:Shared) (u:Value),BindsTo s fd ⟨[u],[]⟩ [(x,u)])/\
    ∀base:Heap,(K w.params).In base->base.Ns mainGlobals mg->Lk l.prog w (K w.params) mg base (CX w) k fa fd [x] (sp w))
  (QG:∀(w:ay3) (H:Hp) (a:Addr) (ns:ax3),ns.length<=n->Ds H->JH (K w.params) H a (ns.map V.int)->sp w [.ref a] H (fun v _=>v=.bl true) fun _ _ _=>False)
  (WC:∀(w:ay3) (H:Hp) (s:Shared) (e:Value) (s':Shared),CX w [] H s (fun _ _ _=>False) e s'->False) :
  PySem.W.WalkO q loose XP YP l.row.toRowW d [] (fun f vs=>PySem.call f vs):=by
 refine Zw.NY hn UA fun w JB HW mg mb fa o pm cd doc a vs ns G Y ho hd Of hmg Ss hints hlen hg=>?_
 have KX:=hY w _ Y;obtain⟨fd,hb,hF⟩:=F w mg fa _ KX G.T.g hmg;exact CJ KX G.T.g G.T.b G.T.builtins G.T.nolimit hg Ss hints (ab5 hlen TB) hr hF hb (fun H hO hS=>QG w H a ns hlen hO hS) fun H e s'=>WC w H HW e s'
def bj(s:Stmt)(j:Nat):Stmt:=match s with
 |.ClassDef _ _ _ body _ _ _ _ _ _ _=>body.getD j (.Pass ⟨0,0,0,0⟩)
 |_=>.Pass ⟨0,0,0,0⟩
def IX(s:Stmt):Arguments:=match s with
 |.FunctionDef _ a _ _ _ _ _ _ _ _=>a
 |_=>{ posonlyargs:=[],args:=[],vararg:=none,kwonlyargs:=[],kw_defaults:=[],kwarg:=none,defaults:=[] }
def IC(s:Stmt):List Stmt:=match s with
 |.FunctionDef _ _ b _ _ _ _ _ _ _=>b
 |_=>[]
def i_(s:Stmt):Scope:=match s with
 |.FunctionDef _ _ _ _ _ _ sc _ _ _=>sc
 |_=>{ kind:=.function,names:=[],isGenerator:=false,isCoroutine:=false }
abbrev Zy:Lx:=fun _ _ _ _ _ _=>False
abbrev E0:XK:=fun _ _ _=>False
structure IF(K:aw5)(x qual:Str)(st:Stmt)(f:Addr)(fd:ax1):Prop where
 ex:∃(oc:Value) (od:Option Addr) (kV doc pm:Value) (an:Option Addr) (HG ct:Value) (PD:ax9),
  fd=fnOf x qual (IX st) (IC st) (i_ st) .none kV doc pm an HG ct/\K.lookup f=some ⟨oc,od,.func fd,PD⟩/\codeIn K HG qual=true
 kp:keepIn K (.ref f)=true
section
variable{P:ay1}{w:ay3}{K:aw5}{mg:aw9}{base:Heap}
def IF.ok{x qual:Str}{st:Stmt}{f:Addr}{fd:ax1}{N ps:ax0}{k:Nat}{sp:Sp}(F:IF K x qual st f fd)(S:n_ N ps (i_ st))(len:∀vs H Q E,sp vs H Q E->vs.length=ps.length)
  (NU:∀(HG:Value) (A:ay2) (outer:List Env) (s:Shared) (H:Hp) (vs:az0) (Q:VK) (E:XK),I0 k (A.deeper (envOfC qual (i_ st) s.heap.objs.size f HG))->sp vs H Q E->
   ∃t,Uq (pH Zy P w K mg base N qual (i_ st) f HG A outer s H E).RJ (IC st) t/\t { nx:=fun _ H'=>Q .Hw H',rt:=Q } (start N vs) H):Lk P w K mg base Zy (k+1) f fd ps sp:=by
 obtain⟨oc,od,kV,doc,pm,an,HG,ct,PD,rfl,lk,Of⟩:=F.ex;refine EK lk Of S len fun A outer s H vs Q E hr QG=>?_
 obtain⟨t,h,q⟩:=NU HG A outer s H vs Q E hr QG;exact⟨t,h.RJ,q⟩
def IF.binds{x qual:Str}{st:Stmt}{f:Addr}{fd:ax1}{ps:ax0}(F:IF K x qual st f fd)
  (h:∀(kV doc pm:Value) (an:Option Addr) (HG ct:Value) (us:aw7),us.length=ps.length->bindArgs (fnOf x qual (IX st) (IC st) (i_ st) .none kV doc pm an HG ct) ⟨us,[]⟩=pure (ps.zip us)):Binds K fd ps []:=by
 obtain⟨oc,od,kV,doc,pm,an,HG,ct,PD,rfl,lk,Of⟩:=F.ex;exact .all (h kV doc pm an HG ct)
def ET{x qual:Str}{st:Stmt}{f:Addr}{oc:Value}{od an:Option Addr}{PD:ax9}{kV doc pm HG ct:Value}(l:K.lookup f=some ⟨oc,od,.func (fnOf x qual (IX st) (IC st) (i_ st) .none kV doc pm an HG ct),PD⟩)
  (c:codeIn K HG qual=true) (k:keepIn K (.ref f)=true):IF K x qual st f (fnOf x qual (IX st) (IC st) (i_ st) .none kV doc pm an HG ct):=⟨⟨oc,od,kV,doc,pm,an,HG,ct,PD,rfl,l,c⟩,k⟩
end
section
variable{X:Cx}
end
def Mv(H H':Hp):Prop:=∀b o,H b=some o->H' b=some o
def Mv.refl(H:Hp):Mv H H:=fun _ _ h=>h
def Mv.trans{H H1 H2:Hp}(a:Mv H H1)(b:Mv H1 H2):Mv H H2:=fun c o h=>b c o (a c o h)
def Mv.free{H H':Hp}(e:Mv H H'){l:Addr}(h:H' l=Option.none):H l=Option.none:=by
 cases q:H l with
 |none=>rfl
 |some o=>
  rw[e l o q] at h;cases h
def Mv.seq{K:aw5}{H H':Hp}{a:Addr}{xs:az0}(e:Mv H H')(h:JH K H a xs):JH K H' a xs:=by
 rcases h with (h|⟨o,h⟩)|h
 ·exact .inl (.inl (e _ _ h))
 ·exact .inl (.inr ⟨o,e _ _ h⟩)
 ·exact .inr h
end L2
namespace DL
open PySem PySem.Spec PyProof.Rows L2
inductive D where
 |Hw|bl (b:Bool)|int (i:Int)|str (x:Str)|tup (xs:List D)|Kh (xs:List D)|ob (n:Nat)|xn (c:Addr)
inductive Cell where
 |lst (xs:List D)|Js (kvs:List (Key×D))|ins (C:Addr) (ns:ax0) (ds:List D)
abbrev ay7:=List D
abbrev ay4:=List Cell
inductive R(α:Type) where
 |ok (a:α) (S:ay4)|exc (c:Addr) (S:ay4)|bad
abbrev M(α:Type):=List Cell->R α
abbrev r_:=List (Option D)
def M.bind{α β:Type}(m:M α)(k:α->M β):M β:=fun S=>match m S with
 |.ok a S'=>k a S'
 |.exc c S'=>.exc c S'
 |.bad=>.bad
def M.ret{α:Type}(a:α):M α:=fun S=>.ok a S
def M.bad{α:Type}:M α:=fun _=>.bad
def Ka{α:Type}(P:Prop)(a b:α):α:=@ite α P (Classical.propDecidable P) a b
def bY{α:Type}{P:Prop}{a b:α}(h:P):Ka P a b=a:=by unfold Ka;exact ab2 h
def uY{α:Type}{P:Prop}{a b:α}(h:¬P):Ka P a b=b:=by unfold Ka;exact ab1 h
def QI(K:aw5)(H:Hp)(a:Addr)(xs:az0):Prop:=
 (∃o,H a=some (.Oq o (.lst xs)))\/
  ∃(o:Obj) (y_:ax2) (n:Nat),K.lookup a=some o/\o.cls=.type "list"/\o.dict=none/\o.data=.seq y_ n/\y_.size<=sizeLine/\Vals xs y_.toList
def QI.sq{K:aw5}{H:Hp}{a:Addr}{xs:az0}(h:QI K H a xs):JH K H a xs:=by
 rcases h with ⟨o,h⟩|h
 ·exact .inl (.inr ⟨o,h⟩)
 ·exact .inr h
def XO(a c:Addr):HO:=.ext fun h=>∃o,h.get? a=some o/\o.cls=.ref c
mutual
def s_(K:aw5)(H:Hp)(J:aw6):D->V->Prop
 |.Hw,v=>v=.Hw
 |.bl b,v=>v=.bl b
 |.int i,v=>v=.int i
 |.str x,v=>v=.str x
 |.tup xs,v=>∃a vs,v=.ref a/\Kq K H a vs/\l_ K H J xs vs
 |.Kh xs,v=>∃a vs,v=.ref a/\QI K H a vs/\l_ K H J xs vs
 |.ob n,v=>∃a,v=.ref a/\J[n]?=some a
 |.xn c,v=>∃a,v=.ref a/\H a=some (XO a c)
def l_(K:aw5)(H:Hp)(J:aw6):List D->List V->Prop
 |[],vs=>vs=[]
 |x :: xs,vs=>∃v r,vs=v :: r/\s_ K H J x v/\l_ K H J xs r
end
def VI:HO->Bool
 |.tup _=>true
 |.Oq _ _=>true
 |.ext _=>true
 |_=>false
structure Ext(H:Hp)(J:aw6)(H':Hp)(J':aw6):Prop where
 st:∀b o,H b=some o->VI o=true->H' b=some o
 pre:∃more,J'=J++more
def Ext.refl(H:Hp)(J:aw6):Ext H J H J:=⟨fun _ _ e _=>e,[],by simp⟩
def Ext.trans{H H1 H2:Hp}{J J1 J2:aw6}(a:Ext H J H1 J1)(b:Ext H1 J1 H2 J2):Ext H J H2 J2:=by
 obtain⟨m1,e1⟩:=a.pre;obtain⟨m2,e2⟩:=b.pre;exact⟨fun c o e st=>b.st c o (a.st c o e st) st,m1++m2,by rw[e2,e1,ae2]⟩
def Ext.new{H:Hp}{J:aw6}{p:Addr}{o:HO}(h:H p=none):Ext H J (upd H p o) J:=
 ⟨fun b u e _=>by rw[bf (aZ e h)];exact e,[],by simp⟩
def Ext.snoc{H H':Hp}{J J':aw6}(a:Ext H J H' J')(m:aw6):Ext H J H' (J'++m):=by
 obtain⟨m1,e1⟩:=a.pre;exact⟨a.st,m1++m,by rw[e1,ae2]⟩
def Ext.write{H:Hp}{J:aw6}{p:Addr}{o u:HO}(h:H p=some u)(hs:VI u=false):Ext H J (upd H p o) J:=
 ⟨fun b w e st=>by
  have:b≠p:=by
   rintro rfl;rw[h] at e;cases e;rw[hs] at st;cases st
  rw[bf this];exact e,[],by simp⟩
section
variable{K:aw5}{H H':Hp}{J J':aw6}
def Kq.ext{a:Addr}{vs:az0}(e:Ext H J H' J')(h:Kq K H a vs):Kq K H' a vs:=by
 rcases h with (h|⟨o,h⟩)|h
 ·exact .inl (.inl (e.st _ _ h rfl))
 ·exact .inl (.inr ⟨o,e.st _ _ h rfl⟩)
 ·exact .inr h
def QI.ext{a:Addr}{vs:az0}(e:Ext H J H' J')(h:QI K H a vs):QI K H' a vs:=by
 rcases h with ⟨o,h⟩|h
 ·exact .inl ⟨o,e.st _ _ h rfl⟩
 ·exact .inr h
mutual
theorem s_.ext(e:Ext H J H' J'):∀{d:D}{v:V},s_ K H J d v->s_ K H' J' d v
 |.Hw,_,h=>by unfold s_ at h ⊢;exact h
 |.bl _,_,h=>by unfold s_ at h ⊢;exact h
 |.int _,_,h=>by unfold s_ at h ⊢;exact h
 |.str _,_,h=>by unfold s_ at h ⊢;exact h
 |.tup xs,v,h=>by
  unfold s_ at h ⊢;obtain⟨a,vs,h1,h2,h3⟩:=h;exact⟨a,vs,h1,Kq.ext e h2,l_.ext e h3⟩
 |.Kh xs,v,h=>by
  unfold s_ at h ⊢;obtain⟨a,vs,h1,h2,h3⟩:=h;exact⟨a,vs,h1,QI.ext e h2,l_.ext e h3⟩
 |.ob n,v,h=>by
  unfold s_ at h ⊢;obtain⟨a,h1,h2⟩:=h;obtain⟨m,em⟩:=e.pre;refine⟨a,h1,?_⟩;rw[em,ab4 (aa2.mp h2).1];exact h2
 |.xn c,v,h=>by
  unfold s_ at h ⊢;obtain⟨a,h1,h2⟩:=h;exact⟨a,h1,e.st _ _ h2 rfl⟩
theorem l_.ext(e:Ext H J H' J'):∀{xs:ay7}{vs:az0},l_ K H J xs vs->l_ K H' J' xs vs
 |[],_,h=>by unfold l_ at h ⊢;exact h
 |x :: xs,vs,h=>by
  unfold l_ at h ⊢;obtain⟨v,r,h1,h2,h3⟩:=h;exact⟨v,r,h1,s_.ext e h2,l_.ext e h3⟩
end
theorem l_.length:∀{xs:ay7}{vs:az0},l_ K H J xs vs->vs.length=xs.length
 |[],_,h=>by unfold l_ at h;rw[h];rfl
 |x :: xs,vs,h=>by
  unfold l_ at h;obtain⟨v,r,h1,_,h3⟩:=h;rw[h1,ab8,ab8,l_.length h3]
theorem l_.get:∀{xs:ay7}{vs:az0}{i:Nat}{x:D},l_ K H J xs vs->xs[i]?=some x->∃v,vs[i]?=some v/\s_ K H J x v
 |[],_,_,_,_,e=>by simp at e
 |y :: xs,vs,0,x,h,e=>by
  unfold l_ at h;obtain⟨v,r,h1,h2,_⟩:=h;simp at e;subst e h1;exact⟨v,rfl,h2⟩
 |y :: xs,vs,i+1,x,h,e=>by
  unfold l_ at h;obtain⟨v,r,h1,_,h3⟩:=h;subst h1;exact l_.get (i:=i) h3 (by simpa using e)
theorem l_.append:∀{xs ys:ay7}{vs ws:az0},l_ K H J xs vs->l_ K H J ys ws->l_ K H J (xs++ys) (vs++ws)
 |[],_,_,_,h,g=>by unfold l_ at h;rw[h];exact g
 |x :: xs,ys,vs,ws,h,g=>by
  unfold l_ at h;obtain⟨v,r,h1,h2,h3⟩:=h;subst h1;rw[aq2,aq2];unfold l_;exact⟨v,_,rfl,h2,l_.append h3 g⟩
def l_.nil:l_ K H J [] []:=by unfold l_;rfl
def l_.cons{x:D}{xs:ay7}{v:V}{vs:az0}(h:s_ K H J x v)(t:l_ K H J xs vs):l_ K H J (x :: xs) (v :: vs):=by
 unfold l_;exact⟨v,vs,rfl,h,t⟩
def l_.one{x:D}{v:V}(h:s_ K H J x v):l_ K H J [x] [v]:=.cons h .nil
theorem l_.take:∀{xs:ay7}{vs:az0}(n:Nat),l_ K H J xs vs->l_ K H J (xs.take n) (vs.take n)
 |_,_,0,_=>by simp;exact .nil
 |[],_,n+1,h=>by unfold l_ at h;subst h;simp;exact .nil
 |x :: xs,vs,n+1,h=>by
  unfold l_ at h;obtain⟨v,r,h1,h2,h3⟩:=h;subst h1;exact .cons h2 (l_.take n h3)
theorem l_.drop:∀{xs:ay7}{vs:az0}(n:Nat),l_ K H J xs vs->l_ K H J (xs.drop n) (vs.drop n)
 |_,_,0,h=>by simpa using h
 |[],_,n+1,h=>by unfold l_ at h;subst h;simp;exact .nil
 |x :: xs,vs,n+1,h=>by
  unfold l_ at h;obtain⟨v,r,h1,h2,h3⟩:=h;subst h1;exact l_.drop n h3
theorem l_.set{d:D}{w:V}(hd:s_ K H J d w):∀{xs:ay7}{vs:az0}(n:Nat),l_ K H J xs vs->l_ K H J (xs.set n d) (vs.set n w)
 |[],_,n,h=>by unfold l_ at h;subst h;simp;exact .nil
 |x :: xs,vs,0,h=>by
  unfold l_ at h;obtain⟨v,r,h1,h2,h3⟩:=h;subst h1;exact .cons hd h3
 |x :: xs,vs,n+1,h=>by
  unfold l_ at h;obtain⟨v,r,h1,h2,h3⟩:=h;subst h1;exact .cons h2 (l_.set hd n h3)
def l_.Ln{xs:ay7}{vs:az0}(h:l_ K H J xs vs):vs=[]↔xs=[]:=by
 have:=h.length;constructor
 ·intro e;subst e;exact ai2.mp (by simpa using this.symm)
 ·intro e;subst e;exact ai2.mp (by simpa using this)
def l_.ints(ns:ax3):l_ K H J (ns.map D.int) (ns.map V.int):=by
 induction ns with
 |nil=>exact .nil
 |cons n r ih=>exact .cons (by unfold s_;rfl) ih
end
def Hv{κ:Type}(K:aw5)(H:Hp)(J:aw6):List (κ×D)->List (κ×V)->Prop
 |[],ws=>ws=[]
 |(k,d) :: r,ws=>∃v t,ws=(k,v) :: t/\s_ K H J d v/\Hv K H J r t
section
variable{κ:Type}{K:aw5}{H H':Hp}{J J':aw6}
theorem Hv.ext(e:Ext H J H' J'):∀{xs:List (κ×D)}{ws:List (κ×V)},Hv K H J xs ws->Hv K H' J' xs ws
 |[],_,h=>h
 |(k,d) :: r,ws,h=>by
  obtain⟨v,t,h1,h2,h3⟩:=h;exact⟨v,t,h1,h2.ext e,Hv.ext e h3⟩
theorem Hv.length:∀{xs:List (κ×D)}{ws:List (κ×V)},Hv K H J xs ws->ws.length=xs.length
 |[],_,h=>by
  have h':_=[]:=h;rw[h'];rfl
 |(k,d) :: r,ws,h=>by
  obtain⟨v,t,h1,h2,h3⟩:=h;rw[h1,ab8,ab8,Hv.length h3]
end
def K7(K:aw5)(H:Hp)(J:aw6):Cell->Addr->Prop
 |.lst xs,a=>∃vs,H a=some (.lst vs)/\l_ K H J xs vs
 |.Js kvs,a=>∃ws,H a=some (.dK ws)/\Hv K H J kvs ws
 |.ins C ns ds,a=>∃dx ws,H a=some (.ins C dx ws)/\ws.map (·.1)=ns/\l_ K H J ds (ws.map (·.2))
structure HB(K:aw5)(H:Hp)(J:aw6)(S:ay4):Prop where
 len:J.length=S.length
 nd:J.Nodup
 at_:∀(n:Nat) c a,S[n]?=some c->J[n]?=some a->K7 K H J c a
section
variable{K:aw5}{H H':Hp}{J J':aw6}{S:ay4}{a p:Addr}{c c':Cell}{n:Nat}{o o':HO}
def K7.OV(h:K7 K H J c a):∃o,H a=some o/\VI o=false:=by
 cases c with
 |lst xs=>obtain⟨vs,h,_⟩:=h;exact⟨_,h,rfl⟩
 |Js xs=>obtain⟨vs,h,_⟩:=h;exact⟨_,h,rfl⟩
 |ins C ns ds=>obtain⟨dx,vs,h,_⟩:=h;exact⟨_,h,rfl⟩
def K7.keep(h:K7 K H J c a)(e:Ext H J H' J')(he:H' a=H a):K7 K H' J' c a:=by
 cases c with
 |lst xs=>obtain⟨vs,h,r⟩:=h;exact⟨vs,he.trans h,r.ext e⟩
 |Js xs=>obtain⟨vs,h,r⟩:=h;exact⟨vs,he.trans h,r.ext e⟩
 |ins C ns ds=>obtain⟨dx,vs,h,q,r⟩:=h;exact⟨dx,vs,he.trans h,q,r.ext e⟩
def HB.cell(h:HB K H J S)(hn:S[n]?=some c):∃a,J[n]?=some a/\K7 K H J c a:=by
 have hi:=(aa2.mp hn).1;have hl:=h.len;exact⟨J[n]'(by omega),by simp,h.at_ n c _ hn (by simp)⟩
def HB.L1(h:HB K H J S)(hn:J[n]?=some a):∃c,S[n]?=some c/\K7 K H J c a:=by
 have hi:=(aa2.mp hn).1;have hl:=h.len;exact⟨S[n]'(by omega),by simp,h.at_ n _ _ (by simp) hn⟩
def HB.held(h:HB K H J S)(ha:a∈J):∃o,H a=some o/\VI o=false:=by
 obtain⟨n,hn⟩:=List.mem_iff_getElem?.mp ha;obtain⟨c,_,hc⟩:=h.L1 hn;exact hc.OV
def HB.new(h:HB K H J S)(hp:H p=none):HB K (upd H p o) J S where
 len:=h.len
 nd:=h.nd
 at_:=fun n c a hc ha=>by
  have r:=h.at_ n c a hc ha;obtain⟨u,hu,_⟩:=r.OV;exact r.keep (Ext.new hp) (bf (aZ hu hp))
def HB.push(h:HB K H J S)(hp:H p=none)(hc:K7 K (upd H p o) (J++[p]) c p):HB K (upd H p o) (J++[p]) (S++[c]) where
 len:=by simp[h.len]
 nd:=by
  rw[List.nodup_append];refine⟨h.nd,by simp,?_⟩;intro a ha b hb;simp at hb;subst hb;obtain⟨u,hu,_⟩:=h.held ha;exact aZ hu hp
 at_:=fun n c1 a h1 ha=>by
  have hl:=h.len;by_cases hn:n<S.length
  ·rw[ab4 hn] at h1;rw[ab4 (by omega)] at ha;have r:=h.at_ n c1 a h1 ha;obtain⟨u,hu,_⟩:=r.OV;exact r.keep ((Ext.new hp).snoc _) (bf (aZ hu hp))
  ·have VB:=(aa2.mp h1).1;have e:n=S.length:=by rw[aa8] at VB;simp at VB;omega
   subst e;rw[ad5 (aa1 _)] at h1;rw[ad5 (by omega)] at ha;simp at h1;rw[<-hl] at ha;simp at ha;subst h1 ha;exact hc
def HB.write(h:HB K H J S)(hn:J[n]?=some a)(hc:K7 K (upd H a o) J c' a):HB K (upd H a o) J (S.set n c') where
 len:=by rw[ap4];exact h.len
 nd:=h.nd
 at_:=fun m c1 b h1 hb=>by
  obtain⟨c0,_,r0⟩:=h.L1 hn;obtain⟨u0,hu0,Zz⟩:=r0.OV;by_cases e:m=n
  ·subst e;rw[hn] at hb;cases hb;rw[au7] at h1;simp at h1;obtain⟨_,h1⟩:=h1;subst h1;exact hc
  ·rw[ag6 (af8 e)] at h1;have r:=h.at_ m c1 b h1 hb;have hab:b≠a:=by
    rintro rfl;exact e ((List.getElem?_inj (aa2.mp hb).1 h.nd).mp (hb.trans hn.symm))
   exact r.keep (Ext.write hu0 Zz) (bf hab)
end
structure Kr(K:aw5)(H:Hp)(J:aw6)(r:r_)(σ:L2.St):Prop where
 len:r.length=σ.length
 at_:∀(i:Nat) d,r[i]?=some (some d)->∃v,σ[i]?=some (some v)/\s_ K H J d v
section
variable{K:aw5}{H H':Hp}{J J':aw6}{r:r_}{σ:L2.St}
def Kr.ext(h:Kr K H J r σ)(e:Ext H J H' J'):Kr K H' J' r σ:=⟨h.len,fun i d q=>let ⟨v,a,b⟩:=h.at_ i d q;⟨v,a,b.ext e⟩⟩
def Kr.set(h:Kr K H J r σ){i:Nat}{d:D}{v:V}(hd:s_ K H J d v):Kr K H J (r.set i (some d)) (σ.set i (some v)) where
 len:=by simp[h.len]
 at_:=fun j d' q=>by
  by_cases e:j=i
  ·subst e;rw[au7] at q;simp at q;obtain⟨hj,q⟩:=q;subst q;refine⟨v,?_,hd⟩;rw[au7];simp[<-h.len,hj]
  ·rw[ag6 (af8 e)] at q ⊢;exact h.at_ j d' q
end
def Kr.start{K:aw5}{H:Hp}{J:aw6}{N:ax0}{xs:ay7}{vs:az0}(h:l_ K H J xs vs) :
  Kr K H J (xs.map some++replicate (N.length-xs.length) none) (L2.start N vs) where
 len:=by unfold L2.start;simp[h.length]
 at_:=fun i d q=>by
  have hl:=h.length;unfold L2.start;by_cases hi:i<xs.length
  ·rw[ab4 (by simpa using hi)] at q;rw[ab4 (by simp;omega)];rw[ac8] at q ⊢;cases e:xs[i]? with
   |none=>rw[e] at q;simp at q
   |some x=>
    rw[e] at q;simp at q;subst q;obtain⟨v,h1,h2⟩:=h.get e;exact⟨v,by rw[h1];rfl,h2⟩
  ·rw[ad5 (by simpa using hi)] at q;rw[al0] at q;split at q<;>simp at q
abbrev Hz:=List (Addr×Obj)
def TO(T:Addr):HO:=.ext fun h=>∃o,h.get? T=some o
def FT(h:Heap)(a c:Addr):Prop:=∃oe vs a0,h.get? a=some oe/\oe.cls=.ref c/\oe.data=.fields vs/\vs[0]?=some a0/\vs[1]?=some .none
def Tr(h:Heap)(a c T:Addr):Prop:=∃oe vs oT ts a0,h.get? a=some oe/\oe.cls=.ref c/\oe.data=.fields vs/\vs[0]?=some a0/\vs[1]?=some (.ref T)/\T≠a/\h.get? T=some oT/\oT.data=.fields ts/\ts[3]?=some .none
def XF(X:Cx)(H:Hp)(e:Value)(c:Addr)(h:Heap):Prop:=∃a,e=.ref a/\H a=some (XO a c)/\(FT h a c\/∃T,H T=some (TO T)/\Tr h a c T)
structure QW(X:Cx)(pins:Hz)(σ:L2.St)(H:Hp)(s:Shared)(e:Value)(c:Addr):Prop where
 inv:Inv X pins σ H s
 fly:XF X H e c s.heap
def Got(K:aw5)(H:Hp)(J:aw6)(d:D)(S:ay4):VK:=fun v H'=>∃J',Ext H J H' J'/\HB K H' J' S/\s_ K H' J' d v
def QX(K:aw5)(H:Hp)(J:aw6)(ds:ay7)(S:ay4)(vs:az0)(H':Hp):Prop:=∃J',Ext H J H' J'/\HB K H' J' S/\l_ K H' J' ds vs
def K8(K:aw5)(H:Hp)(J:aw6)(S:ay4)(H':Hp):Prop:=∃J',Ext H J H' J'/\HB K H' J' S
def XP(X:Cx)(pins:Hz)(σ:L2.St)(c:Addr)(G:Hp->Prop)(e:Value)(s':Shared):Prop:=∃H',QW X pins σ H' s' e c/\G H'
def Mt(X:Cx)(pins:Hz)(σ:L2.St)(H:Hp)(J:aw6)(r:R D)(Q:aw4)(E:aw4):Prop:=match r with
 |.ok d S'=>∀u s',EP X pins σ (Got X.K H J d S') u s'->Q u s'
 |.exc c S'=>∀e s',XP X pins σ c (K8 X.K H J S') e s'->E e s'
 |.bad=>False
def Oh(X:Cx)(pins:Hz)(σ:L2.St)(H:Hp)(J:aw6)(r:R Bool)(Q:ax5)(E:aw4):Prop:=match r with
 |.ok b S'=>∀s',TP X pins σ (fun _=>K8 X.K H J S') b s'->Q b s'
 |.exc c S'=>∀e s',XP X pins σ c (K8 X.K H J S') e s'->E e s'
 |.bad=>False
def UC(X:Cx)(pins:Hz)(σ:L2.St)(H:Hp)(J:aw6)(r:R (List D))(Q:List Value->Shared->Prop)(E:aw4):Prop:=match r with
 |.ok ds S'=>∀us s',AP X pins σ (QX X.K H J ds S') us s'->Q us s'
 |.exc c S'=>∀e s',XP X pins σ c (K8 X.K H J S') e s'->E e s'
 |.bad=>False
section
variable{X:Cx}{pins:Hz}{σ:L2.St}{H H1:Hp}{J J1:aw6}
def Got.ext{K:aw5}{d:D}{S:ay4}{v:V}{H':Hp}(e:Ext H J H1 J1)(h:Got K H1 J1 d S v H'):Got K H J d S v H':=let ⟨J',a,b,c⟩:=h;⟨J',e.trans a,b,c⟩
def QX.ext{K:aw5}{d:ay7}{S:ay4}{v:az0}{H':Hp}(e:Ext H J H1 J1)(h:QX K H1 J1 d S v H'):QX K H J d S v H':=let ⟨J',a,b,c⟩:=h;⟨J',e.trans a,b,c⟩
def K8.ext{K:aw5}{S:ay4}{H':Hp}(e:Ext H J H1 J1)(h:K8 K H1 J1 S H'):K8 K H J S H':=let ⟨J',a,b⟩:=h;⟨J',e.trans a,b⟩
def XP.ext{c:Addr}{S:ay4}{u:Value}{s':Shared}(e:Ext H J H1 J1)(h:XP X pins σ c (K8 X.K H1 J1 S) u s'):XP X pins σ c (K8 X.K H J S) u s':=let ⟨H',a,b⟩:=h;⟨H',a,b.ext e⟩
theorem Mt.ext{r:R D}{Q E:aw4}(e:Ext H J H1 J1)(h:Mt X pins σ H J r Q E):Mt X pins σ H1 J1 r Q E:=by
 cases r with
 |ok d S=>exact fun u s' ⟨v,H',I,rv,g⟩=>h u s' ⟨v,H',I,rv,g.ext e⟩
 |exc c S=>exact fun u s' x=>h u s' (x.ext e)
 |bad=>exact h
theorem Oh.ext{r:R Bool}{Q:ax5}{E:aw4}(e:Ext H J H1 J1)(h:Oh X pins σ H J r Q E):Oh X pins σ H1 J1 r Q E:=by
 cases r with
 |ok d S=>exact fun s' ⟨H',I,g⟩=>h s' ⟨H',I,g.ext e⟩
 |exc c S=>exact fun u s' x=>h u s' (x.ext e)
 |bad=>exact h
theorem UC.ext{r:R (List D)}{Q:List Value->Shared->Prop}{E:aw4}(e:Ext H J H1 J1)(h:UC X pins σ H J r Q E):UC X pins σ H1 J1 r Q E:=by
 cases r with
 |ok d S=>exact fun u s' ⟨v,H',I,rv,g⟩=>h u s' ⟨v,H',I,rv,g.ext e⟩
 |exc c S=>exact fun u s' x=>h u s' (x.ext e)
 |bad=>exact h
end
structure At(X:Cx)(pins:Hz)(σ:L2.St)(H:Hp)(J:aw6)(r:r_)(S:ay4)(s:Shared):Prop where
 inv:Inv X pins σ H s
 loc:Kr X.K H J r σ
 st:HB X.K H J S
abbrev ay5:=r_→M D
def Ii(X:Cx)(e:Expr)(f:ay5):Prop:=∀(pins:Hz) (s:Shared) (σ:L2.St) (H:Hp) (J:aw6) (r:r_) (S:ay4) (Q E:aw4),
 At X pins σ H J r S s->Mt X pins σ H J (f r S) Q E->wpAny (model X.prog X.w) X.A (eval e X.env) Q E s
abbrev ay8:=r_→M Bool
def OW(X:Cx)(e:Expr)(f:ay8):Prop:=∀(pins:Hz) (s:Shared) (σ:L2.St) (H:Hp) (J:aw6) (r:r_) (S:ay4) (Q:ax5) (E:aw4),
 At X pins σ H J r S s->Oh X pins σ H J (f r S) Q E->wpAny (model X.prog X.w) X.A (isTrue e X.env (eval e X.env)) Q E s
def LL(X:Cx)(e:Expr)(f:ay8):Prop:=∀(whole:Sem Value) (pins:Hz) (s:Shared) (σ:L2.St) (H:Hp) (J:aw6) (r:r_) (S:ay4) (Q:ax5) (E:aw4),
 At X pins σ H J r S s->Oh X pins σ H J (f r S) Q E->wpAny (model X.prog X.w) X.A (isTrue e X.env whole) Q E s
def LL.pt{X:Cx}{e:Expr}{f:ay8}(h:LL X e f):OW X e f:=h _
abbrev ay6:=r_→M (List D)
def NO(X:Cx)(es:ax8)(f:ay6):Prop:=∀(pos:Pos) (pins:Hz) (s:Shared) (σ:L2.St) (H:Hp) (J:aw6) (r:r_) (S:ay4) (Q:List Value->Shared->Prop) (E:aw4),
 At X pins σ H J r S s->UC X pins σ H J (f r S) Q E->wpAny (model X.prog X.w) X.A (spliced (backTo pos (starEach es X.env))) Q E s
def Lu(X:Cx)(f:ay0)(g:D->D->M D):Prop:=∀(pins:Hz) (s:Shared) (σ:L2.St) (H:Hp) (J:aw6) (S:ay4) (x y:D) (vx vy:V) (v u:Value) (Q E:aw4),
 Inv X pins σ H s->HB X.K H J S->s_ X.K H J x vx->s_ X.K H J y vy->RelV vx v->RelV vy u->Mt X pins σ H J (g x y S) Q E->wpAny (model X.prog X.w) X.A (f v u) Q E s
def UD(X:Cx)(f:Value->Sem Value)(g:D->M D):Prop:=∀(pins:Hz) (s:Shared) (σ:L2.St) (H:Hp) (J:aw6) (S:ay4) (x:D) (vx:V) (v:Value) (Q E:aw4),
 Inv X pins σ H s->HB X.K H J S->s_ X.K H J x vx->RelV vx v->Mt X pins σ H J (g x S) Q E->wpAny (model X.prog X.w) X.A (f v) Q E s
abbrev ay9:=List D→M D
def Jp(X:Cx)(f:Value)(g:ay9):Prop:=∀(pins:Hz) (s:Shared) (σ:L2.St) (H:Hp) (J:aw6) (S:ay4) (xs:ay7) (vs:az0) (us:aw7) (Q E:aw4),
 Inv X pins σ H s->HB X.K H J S->l_ X.K H J xs vs->Vals vs us->Mt X pins σ H J (g xs S) Q E->wpAny (model X.prog X.w) X.A (call f us) Q E s
section
variable{X:Cx}{a b c:Expr}{fa fb fc:ay5}{pos:Pos}
def EP.HR{pins:Hz}{σ:L2.St}{E:aw4}{Q:VK}{u:Value}{s':Shared}(h:EP (X.HV E) pins σ Q u s'):EP X pins σ Q u s':=let ⟨v,H',I,r,q⟩:=h;⟨v,H',I.HR,r,q⟩
def Lu.of{f:ay0}{r:R2}{g:D->D->M D}(h:∀E,Nj (X.HV E) f r)
  (hg:∀(H:Hp) (J:aw6) (S:ay4) (x y:D) (vx vy:V) (d:D) (S':ay4),HB X.K H J S->s_ X.K H J x vx->s_ X.K H J y vy->g x y S=.ok d S'->r vx vy H (Got X.K H J d S'))
  (hn:∀x y S c S',g x y S≠.exc c S'):Lu X f g:=by
 intro pins s σ H J S x y vx vy v u Q E I rs rx ry rv ru m;cases e:g x y S with
 |ok d S'=>
  rw[e] at m;exact ad6 (h E pins s σ H vx vy v u _ (I.HV E) rv ru (hg H J S x y vx vy d S' rs rx ry e)) (fun u s' q=>m u s' (EP.HR q)) fun _ _ z=>z
 |exc c S'=>exact absurd e (hn _ _ _ _ _)
 |bad=>rw[e] at m;exact m.elim
def UD.of{f:Value->Sem Value}{r:V->Hp->VK->Prop}{g:D->M D}(h:∀E,Wx (X.HV E) f r)
  (hg:∀(H:Hp) (J:aw6) (S:ay4) (x:D) (vx:V) (d:D) (S':ay4),HB X.K H J S->s_ X.K H J x vx->g x S=.ok d S'->r vx H (Got X.K H J d S'))
  (hn:∀x S c S',g x S≠.exc c S'):UD X f g:=by
 intro pins s σ H J S x vx v Q E I rs rx rv m;cases e:g x S with
 |ok d S'=>
  rw[e] at m;exact ad6 (h E pins s σ H vx v _ (I.HV E) rv (hg H J S x vx d S' rs rx e)) (fun u s' q=>m u s' (EP.HR q)) fun _ _ z=>z
 |exc c S'=>exact absurd e (hn _ _ _ _)
 |bad=>rw[e] at m;exact m.elim
def Jp.of{f:Value}{r:List V->Hp->VK->Prop}{g:ay9}(h:∀E,K2 (X.HV E) f r)
  (hg:∀(H:Hp) (J:aw6) (S:ay4) (xs:ay7) (vs:az0) (d:D) (S':ay4),HB X.K H J S->l_ X.K H J xs vs->g xs S=.ok d S'->r vs H (Got X.K H J d S'))
  (hn:∀xs S c S',g xs S≠.exc c S'):Jp X f g:=by
 intro pins s σ H J S xs vs us Q E I rs rx rv m;cases e:g xs S with
 |ok d S'=>
  rw[e] at m;exact ad6 (h E pins s σ H vs us _ (I.HV E) rv (hg H J S xs vs d S' rs rx e)) (fun u s' q=>m u s' (EP.HR q)) fun _ _ z=>z
 |exc c S'=>exact absurd e (hn _ _ _ _)
 |bad=>rw[e] at m;exact m.elim
def go2(ha:Ii X a fa)(hb:Ii X b fb){f:ay0}{g:D->D->M D}(ho:Lu X f g){Q E:aw4}{pins:Hz}{s:Shared}{σ:L2.St}{H:Hp}{J:aw6}{r:r_}{S:ay4}
  (I:At X pins σ H J r S s) (m:Mt X pins σ H J ((fa r).bind (fun x=>(fb r).bind fun y=>g x y) S) Q E) :
  wpAny (model X.prog X.w) X.A (eval a X.env) (fun v HW=>wpAny (model X.prog X.w) X.A (eval b X.env) (fun u PZ=>wpAny (model X.prog X.w) X.A (f v u) Q E PZ) E HW) E s:=by
 refine ha pins s σ H J r S _ E I ?_;unfold M.bind at m;cases e:fa r S with
 |bad=>rw[e] at m;exact m
 |exc c S1=>rw[e] at m;exact m
 |ok x S1=>
  rw[e] at m;intro u s' ⟨vx,H1,I1,r1,J1,ex,rs,rv⟩;refine hb pins s' σ H1 J1 r S1 _ E ⟨I1,I.loc.ext ex,rs⟩ ?_;dsimp only at m;cases e2:fb r S1 with
  |bad=>rw[e2] at m;exact m
  |exc c S2=>rw[e2] at m;exact Mt.ext (r:=.exc c S2) (Q:=fun _ _=>True) ex m
  |ok y S2=>
   rw[e2] at m;intro u2 s2 ⟨vy,H2,I2,r2,J2,Mo,K9,Nk⟩;exact ho pins s2 σ H2 J2 S2 x y vx vy u u2 Q E I2 K9 (rv.ext Mo) Nk r1 r2 (Mt.ext (ex.trans Mo) m)
def f_(g:D->D->M D)(fa fb:ay5):r_->M D:=fun r=>(fa r).bind fun x=>(fb r).bind fun y=>g x y
def bJ{op:Operator}{g:D->D->M D}(ho:Lu X (binaryOp op) g)(ha:Ii X a fa)(hb:Ii X b fb):Ii X (.BinOp a op b pos) (f_ g fa fb):=
 fun pins s σ H J r S Q E I m=>wpAny_BinOp (go2 ha hb ho I m)
def qr{op:CmpOp}{g:D->D->M D}(ho:Lu X (compareOp op) g)(ha:Ii X a fa)(hb:Ii X b fb)(hm:behindInMarks op b=false):Ii X (.Compare a [op] [b] pos) (f_ g fa fb):=
 fun pins s σ H J r S Q E I m=>wpAny_Compare1 (go2 ha hb ho I m) hm
def mO(i:Nat):r_->M D:=fun r S=>match r[i]? with
 |some (some d)=>.ok d S
 |_=>.bad
def dC(d:D):r_->M D:=fun _ S=>.ok d S
def Mt.Ku{pins:Hz}{s:Shared}{σ:L2.St}{H:Hp}{J:aw6}{S:ay4}{d:D}{v:V}{u:Value}{Q E:aw4}(m:Mt X pins σ H J (.ok d S) Q E)(I:Inv X pins σ H s)(rs:HB X.K H J S)(rv:s_ X.K H J d v)(r:RelV v u):Q u s:=
 m u s ⟨v,H,I,r,J,Ext.refl _ _,rs,rv⟩
def ac(i:Nat){x:Str}(hN:X.N[i]?=some x:=by rfl)(hv:Wo X.env.scope x:=by first|exact ao3 rfl|exact Or.inr (ao3 rfl)|exact Or.inr (Or.inr rfl))(hd:(x == ("__debug__":Str))=false:=by decide)
  (Of:(x == ("__classdict__":Str))=false:=by decide):Ii X (.Name x pos) (mO i):=by
 intro pins s σ H J r S Q E I m;unfold mO at m;cases e:r[i]? with
 |none=>rw[e] at m;exact m.elim
 |some o=>
  cases o with
  |none=>rw[e] at m;exact m.elim
  |some d=>
   rw[e] at m;obtain⟨v,h1,h2⟩:=I.loc.at_ i d e;exact ad6 (Fj (X:=X.HV E) hN hv hd Of pins s σ H (Got X.K H J d S) (I.inv.HV E) ⟨v,h1,J,Ext.refl _ _,I.st,h2⟩) (fun u s' q=>m u s' (EP.HR q)) fun _ _ z=>z
def ar{i j pos}:Ii X (.Constant (.int i) j pos) (dC (.int i)):=fun pins s σ H J r S Q E I m=>
 wpAny_Constant_int (m.Ku (I.inv.tok _) I.st (v:=.int i) (by unfold s_;rfl) ⟨_,rfl⟩)
def kP{i j pos}:Ii X (.Constant (.bool i) j pos) (dC (.bl i)):=fun pins s σ H J r S Q E I m=>
 Constant_bool (m.Ku I.inv I.st (v:=.bl i) (by unfold s_;rfl) rfl)
def xy{j pos}:Ii X (.Constant .none j pos) (dC .Hw):=fun pins s σ H J r S Q E I m=>
 Constant_none (m.Ku I.inv I.st (v:=.Hw) (by unfold s_;rfl) rfl)
def aN{i j pos}:Ii X (.Constant (.str i) j pos) (dC (.str i)):=fun pins s σ H J r S Q E I m=>
 Calls.Constant_str (m.Ku (I.inv.tok _) I.st (v:=.str i) (by unfold s_;rfl) ⟨_,rfl⟩)
def LM(K:aw5)(d:D)(u:Value):Prop:=∀H J,∃v,RelV v u/\s_ K H J d v
def D4{x:Str}{d:D}{u:Value}{pos:Pos}(hg:Gl X x)(hm:X.mg x=some u)(kr:LM X.K d u)(hd:(x == ("__debug__":Str))=false:=by decide):Ii X (.Name x pos) (dC d):=by
 intro pins s σ H J r S Q E I m;obtain⟨v,h1,h2⟩:=kr H J;exact lO I.inv hg hm (m.Ku I.inv I.st h2 h1) hd
def Su:D->M Bool
 |.bl b=>fun S=>.ok b S
 |_=>fun _=>.bad
def ao(f:ay5):r_->M Bool:=fun r=>(f r).bind Su
def s_.QJ{K:aw5}{H:Hp}{J:aw6}{b:Bool}{v:V}(h:s_ K H J (.bl b) v):v=.bl b:=by unfold s_ at h;exact h
def s_.IT{K:aw5}{H:Hp}{J:aw6}{b:Int}{v:V}(h:s_ K H J (.int b) v):v=.int b:=by unfold s_ at h;exact h
def s_.P0{K:aw5}{H:Hp}{J:aw6}{b:Str}{v:V}(h:s_ K H J (.str b) v):v=.str b:=by unfold s_ at h;exact h
def s_.Ov{K:aw5}{H:Hp}{J:aw6}{v:V}(h:s_ K H J .Hw v):v=.Hw:=by unfold s_ at h;exact h
def s_.K_{K:aw5}{H:Hp}{J:aw6}{xs:ay7}{v:V}(h:s_ K H J (.tup xs) v):∃a vs,v=.ref a/\Kq K H a vs/\l_ K H J xs vs:=by unfold s_ at h;exact h
def s_.Nl{K:aw5}{H:Hp}{J:aw6}{xs:ay7}{v:V}(h:s_ K H J (.Kh xs) v):∃a vs,v=.ref a/\QI K H a vs/\l_ K H J xs vs:=by unfold s_ at h;exact h
def s_.KR{K:aw5}{H:Hp}{J:aw6}{n:Nat}{v:V}(h:s_ K H J (.ob n) v):∃a,v=.ref a/\J[n]?=some a:=by unfold s_ at h;exact h
def s_.xn_{K:aw5}{H:Hp}{J:aw6}{n:Nat}{v:V}(h:s_ K H J (.xn n) v):∃a,v=.ref a/\H a=some (XO a n):=by unfold s_ at h;exact h
def s_.int(K:aw5)(H:Hp)(J:aw6)(b:Int):s_ K H J (.int b) (.int b):=by unfold s_;rfl
def s_.bl(K:aw5)(H:Hp)(J:aw6)(b:Bool):s_ K H J (.bl b) (.bl b):=by unfold s_;rfl
def s_.str(K:aw5)(H:Hp)(J:aw6)(b:Str):s_ K H J (.str b) (.str b):=by unfold s_;rfl
def s_.Hw(K:aw5)(H:Hp)(J:aw6):s_ K H J .Hw .Hw:=by unfold s_;rfl
def s_.tup{K:aw5}{H:Hp}{J:aw6}{xs:ay7}{a:Addr}{vs:az0}(h:Kq K H a vs)(g:l_ K H J xs vs):s_ K H J (.tup xs) (.ref a):=by unfold s_;exact⟨a,vs,rfl,h,g⟩
def s_.ob{K:aw5}{H:Hp}{J:aw6}{n:Nat}{a:Addr}(h:J[n]?=some a):s_ K H J (.ob n) (.ref a):=by unfold s_;exact⟨a,rfl,h⟩
def Oh.QY{pins:Hz}{σ:L2.St}{H:Hp}{J:aw6}{rd:R D}{S:ay4}{f:ay5}{r:r_}{Q:ax5}{E:aw4}(m:Oh X pins σ H J (ao f r S) Q E) :
  Mt X pins σ H J (f r S) (fun v s'=>wpAny (model X.prog X.w) X.A (truthy v) Q E s') E:=by
 unfold ao M.bind at m;cases e:f r S with
 |bad=>rw[e] at m;exact m
 |exc c S1=>rw[e] at m;exact m
 |ok x S1=>
  rw[e] at m;intro u s' ⟨vx,H1,I1,r1,J1,ex,rs,rv⟩;cases x with
  |bl b=>
   cases rv.QJ;cases r1;exact ak0 (m s' ⟨H1,I1,J1,ex,rs⟩)
  |_=>exact m.elim
def aD{op:CmpOp}{g:D->D->M D}(ho:Lu X (compareOp op) g)(ha:Ii X a fa)(hb:Ii X b fb)(hm:behindInMarks op b=false):OW X (.Compare a [op] [b] pos) (ao (f_ g fa fb)):=by
 intro pins s σ H J r S Q E I m;refine wpAny_isTrue_Compare1 ?_ hm;have m':=Oh.QY (rd:=.bad) m;have:=go2 ha hb ho I m';exact this
def dc(t u:ay8):r_->M Bool:=fun r=>(t r).bind fun c=>if c=true then u r else M.ret false
def Kn(t u:ay8):r_->M Bool:=fun r=>(t r).bind fun c=>if c=true then M.ret true else u r
def cZ(t:ay8):r_->M Bool:=fun r=>(t r).bind fun c=>M.ret (!c)
variable{tA Ur:ay8}{rest:ax8}
def WG{t:Sem Bool}{f:M Bool}{k:Bool->M Bool}{pins:Hz}{s:Shared}{σ:L2.St}{H:Hp}{J:aw6}{r:r_}{S:ay4}{Q:ax5}{Q':ax5}{E:aw4}(I:At X pins σ H J r S s)
  (ha:∀Q1,Oh X pins σ H J (f S) Q1 E->wpAny (model X.prog X.w) X.A t Q1 E s) (m:Oh X pins σ H J (f.bind k S) Q E)
  (hk:∀c S1 s1 H1 J1,At X pins σ H1 J1 r S1 s1->Oh X pins σ H1 J1 (k c S1) Q E->Q' c s1):wpAny (model X.prog X.w) X.A t Q' E s:=by
 refine ha _ ?_;unfold M.bind at m;cases e:f S with
 |bad=>rw[e] at m;exact m
 |exc c S1=>rw[e] at m;exact m
 |ok x S1=>
  rw[e] at m;intro s' ⟨H1,I1,J1,ex,rs⟩;exact hk x S1 s' H1 J1 ⟨I1,I.loc.ext ex,rs⟩ (Oh.ext ex m)
def dF(ha:OW X a tA):LL X (.BoolOp .And [a] pos) tA:=by
 intro wh pins s σ H J r S Q E I m;refine isTrue_and (ha pins s σ H J r S _ E I ?_);cases e:tA r S with
 |bad=>rw[e] at m;exact m
 |exc c S1=>rw[e] at m;exact m
 |ok x S1=>
  rw[e] at m;intro s' h;cases x with
  |true=>exact isTrue_and_nil (m s' h)
  |false=>exact m s' h
def nA(ha:OW X a tA):LL X (.BoolOp .Or [a] pos) tA:=by
 intro wh pins s σ H J r S Q E I m;refine isTrue_or (ha pins s σ H J r S _ E I ?_);cases e:tA r S with
 |bad=>rw[e] at m;exact m
 |exc c S1=>rw[e] at m;exact m
 |ok x S1=>
  rw[e] at m;intro s' h;cases x with
  |false=>exact isTrue_or_nil (m s' h)
  |true=>exact m s' h
def Oh.Ku{pins:Hz}{s:Shared}{σ:L2.St}{H:Hp}{J:aw6}{r:r_}{S:ay4}{b:Bool}{Q:ax5}{E:aw4}(m:Oh X pins σ H J (.ok b S) Q E)(I:At X pins σ H J r S s):Q b s:=
 m s ⟨H,I.inv,J,Ext.refl _ _,I.st⟩
def ei(ha:OW X a tA)(hb:LL X (.BoolOp .And (b :: rest) pos) Ur):LL X (.BoolOp .And (a :: b :: rest) pos) (dc tA Ur):=by
 intro wh pins s σ H J r S Q E I m;refine isTrue_and (WG (r:=r) I (fun Q1=>ha pins s σ H J r S Q1 E I) m fun c S1 s1 H1 J1 I1 m1=>?_);cases c with
 |true=>exact hb wh pins s1 σ H1 J1 r S1 Q E I1 m1
 |false=>exact m1.Ku I1
def k9(ha:OW X a tA)(hb:LL X (.BoolOp .Or (b :: rest) pos) Ur):LL X (.BoolOp .Or (a :: b :: rest) pos) (Kn tA Ur):=by
 intro wh pins s σ H J r S Q E I m;refine isTrue_or (WG (r:=r) I (fun Q1=>ha pins s σ H J r S Q1 E I) m fun c S1 s1 H1 J1 I1 m1=>?_);cases c with
 |false=>exact hb wh pins s1 σ H1 J1 r S1 Q E I1 m1
 |true=>exact m1.Ku I1
def fz(ha:OW X a tA):OW X (.UnaryOp .Not a pos) (cZ tA):=by
 intro pins s σ H J r S Q E I m;exact isTrue_not (WG (r:=r) I (fun Q1=>ha pins s σ H J r S Q1 E I) m fun c S1 s1 H1 J1 I1 m1=>m1.Ku I1)
def ii(fa fb:ay5):r_->M D:=fun r=>(ao fa r).bind fun c=>if c=true then fb r else M.ret (.bl false)
def GX(fa fb:ay5):r_->M D:=fun r=>(ao fa r).bind fun c=>if c=true then M.ret (.bl true) else fb r
def zC(fa:ay5):r_->M D:=fun r=>(ao fa r).bind fun c=>M.ret (.bl (!c))
def ZA(ha:Ii X a fa){k:Bool->M D}{pins:Hz}{s:Shared}{σ:L2.St}{H:Hp}{J:aw6}{r:r_}{S:ay4}{Q Q':aw4}{E:aw4}(I:At X pins σ H J r S s)
  (m:Mt X pins σ H J ((ao fa r).bind k S) Q E) (hk:∀c S1 s1 H1 J1,At X pins σ H1 J1 r S1 s1->Mt X pins σ H1 J1 (k c S1) Q E->Q' (.bool c) s1):wpAny (model X.prog X.w) X.A (eval a X.env) Q' E s:=by
 refine ha pins s σ H J r S _ E I ?_;unfold ao M.bind at m;cases e:fa r S with
 |bad=>rw[e] at m;exact m
 |exc c S1=>rw[e] at m;exact m
 |ok x S1=>
  rw[e] at m;intro u s' ⟨vx,H1,I1,r1,J1,ex,rs,rv⟩;cases x with
  |bl b=>
   cases rv.QJ;cases r1;exact hk b S1 s' H1 J1 ⟨I1,I.loc.ext ex,rs⟩ (Mt.ext ex m)
  |_=>exact m.elim
def mJ{op}(h:Ii X a fa):Ii X (.BoolOp op [a] pos) fa:=fun pins s σ H J r S Q E I m=>BoolOp_one (h pins s σ H J r S Q E I m)
def kA(ha:Ii X a fa)(hb:Ii X (.BoolOp .And (b :: rest) pos) fb):Ii X (.BoolOp .And (a :: b :: rest) pos) (ii fa fb):=by
 intro pins s σ H J r S Q E I m;refine BoolOp_and (ZA ha I m fun c S1 s1 H1 J1 I1 m1=>ak0 ?_);cases c with
 |true=>exact hb pins s1 σ H1 J1 r S1 Q E I1 m1
 |false=>exact m1.Ku I1.inv I1.st (s_.bl _ _ _ false) rfl
def Bv(ha:Ii X a fa):Ii X (.UnaryOp .Not a pos) (zC fa):=by
 intro pins s σ H J r S Q E I m;exact UnaryOp_ (ZA ha I m fun c S1 s1 H1 J1 I1 m1=>not_of (ak0 (m1.Ku I1.inv I1.st (s_.bl _ _ _ (!c)) rfl)))
def UE(t:ay8)(fa fb:ay5):r_->M D:=fun r=>(t r).bind fun c=>if c=true then fa r else fb r
def GY{t:Sem Bool}{f:M Bool}{k:Bool->M D}{pins:Hz}{s:Shared}{σ:L2.St}{H:Hp}{J:aw6}{r:r_}{S:ay4}{Q:aw4}{Q':ax5}{E:aw4}(I:At X pins σ H J r S s)
  (ha:∀Q1,Oh X pins σ H J (f S) Q1 E->wpAny (model X.prog X.w) X.A t Q1 E s) (m:Mt X pins σ H J (f.bind k S) Q E)
  (hk:∀c S1 s1 H1 J1,At X pins σ H1 J1 r S1 s1->Mt X pins σ H1 J1 (k c S1) Q E->Q' c s1):wpAny (model X.prog X.w) X.A t Q' E s:=by
 refine ha _ ?_;unfold M.bind at m;cases e:f S with
 |bad=>rw[e] at m;exact m
 |exc c S1=>rw[e] at m;exact m
 |ok x S1=>
  rw[e] at m;intro s' ⟨H1,I1,J1,ex,rs⟩;exact hk x S1 s' H1 J1 ⟨I1,I.loc.ext ex,rs⟩ (Mt.ext ex m)
def BF{c:Expr}(hc:OW X c tA)(ha:Ii X a fa)(hb:Ii X b fb):Ii X (.IfExp c a b pos) (UE tA fa fb):=by
 intro pins s σ H J r S Q E I m;refine wpAny_IfExp (GY (r:=r) I (fun Q1=>hc pins s σ H J r S Q1 E I) m fun d S1 s1 H1 J1 I1 m1=>?_);cases d with
 |true=>exact ha pins s1 σ H1 J1 r S1 Q E I1 m1
 |false=>exact hb pins s1 σ H1 J1 r S1 Q E I1 m1
def oE(g g':D->D->M D)(fa fb fc:ay5):r_->M D:=fun r=>(fa r).bind fun x=>(fb r).bind fun y=>((g x y).bind Su).bind fun k=>if k=true then (fc r).bind fun z=>g' y z else M.ret (.bl false)
def qa{op NP:CmpOp}{g g':D->D->M D}(ho:Lu X (compareOp op) g)(M5:Lu X (compareOp NP) g')(ha:Ii X a fa)(hb:Ii X b fb)(hc:Ii X c fc)
  (hm:lastMarks [op,NP] [b,c]=false:=by with_unfolding_all rfl):Ii X (.Compare a [op,NP] [b,c] pos) (oE g g' fa fb fc):=by
 intro pins s σ H J r S Q E I m;refine Compare_chain (ha pins s σ H J r S _ E I ?_) hm;unfold oE M.bind at m;cases e1:fa r S with
 |bad=>rw[e1] at m;exact m
 |exc c S1=>rw[e1] at m;exact m
 |ok x S1=>
  rw[e1] at m;intro v s1 ⟨vx,H1,I1,r1,J1,Ks,KL,JY⟩;refine chain_link (hb pins s1 σ H1 J1 r S1 _ E ⟨I1,I.loc.ext Ks,KL⟩ ?_);have m:=Mt.ext Ks m;dsimp only at m;cases e2:fb r S1 with
  |bad=>rw[e2] at m;exact m
  |exc c S2=>rw[e2] at m;exact m
  |ok y S2=>
   rw[e2] at m;intro u s2 ⟨vy,H2,I2,r2,J2,Mo,K9,Nk⟩;have m:=Mt.ext Mo m;dsimp only at m;refine ho pins s2 σ H2 J2 S2 x y vx vy v u _ E I2 K9 (JY.ext Mo) Nk r1 r2 ?_;cases e3:g x y S2 with
   |bad=>rw[e3] at m;exact m
   |exc c S3=>rw[e3] at m;exact m
   |ok z S3=>
    rw[e3] at m;intro w s3 ⟨vz,H3,I3,r3,J3,TJ,RL,UG⟩;have m:=Mt.ext TJ m;dsimp only at m;cases z with
    |bl k=>
     cases UG.QJ;cases r3;refine ak0 ?_;cases k with
     |false=>exact ite_ff (m.Ku I3 RL (s_.bl _ _ _ false) rfl)
     |true=>
      refine ite_tt (chain_last (hc pins s3 σ H3 J3 r S3 _ E ⟨I3,((I.loc.ext Ks).ext Mo).ext TJ,RL⟩ ?_));simp only[Su,ao1,M.bind] at m;cases e4:fc r S3 with
      |bad=>rw[e4] at m;exact m
      |exc c S4=>rw[e4] at m;exact m
      |ok z S4=>
       rw[e4] at m;intro w s4 ⟨vz,H4,I4,r4,J4,ZC,rs4,WH⟩;exact M5 pins s4 σ H4 J4 S4 y z vy vz u w _ E I4 rs4 ((Nk.ext TJ).ext ZC) WH r2 r4 (Mt.ext ZC m)
    |_=>exact m.elim
def ai:r_->M (List D):=fun _=>M.ret []
def aa(f:ay5)(g:ay6):r_->M (List D):=fun r=>(f r).bind fun x=>(g r).bind fun xs=>M.ret (x :: xs)
variable{e:Expr}{es:ax8}{fe:ay5}{ft:ay6}
def ag:NO X [] ai:=fun _ pins s σ H J r S Q E I m=>at5 (m [] s ⟨[],H,I.inv,.nil,J,Ext.refl _ _,I.st,.nil⟩)
def ae(ha:Ii X e fe)(hr:NO X es ft)(hs:starEach (e :: es) X.env=(false,eval e X.env) :: starEach es X.env:=by rfl):NO X (e :: es) (aa fe ft):=by
 intro pos pins s σ H J r S Q E I m;rw[hs];show wpAny _ _ (spliced ((false,eval e X.env) :: backTo pos (starEach es X.env))) _ _ s;refine ao4 (ha pins s σ H J r S _ E I ?_);unfold aa M.bind at m;cases e1:fe r S with
 |bad=>rw[e1] at m;exact m
 |exc c S1=>rw[e1] at m;exact m
 |ok x S1=>
  rw[e1] at m;intro v s1 ⟨vx,H1,I1,r1,J1,Ks,KL,JY⟩;refine hr pos pins s1 σ H1 J1 r S1 _ E ⟨I1,I.loc.ext Ks,KL⟩ ?_;have m:=UC.ext Ks m;dsimp only at m;cases e2:ft r S1 with
  |bad=>rw[e2] at m;exact m
  |exc c S2=>rw[e2] at m;exact m
  |ok xs S2=>
   rw[e2] at m;intro us s2 ⟨vs,H2,I2,r2,J2,Mo,K9,Nk⟩;exact m (v :: us) s2 ⟨vx :: vs,H2,I2,.cons r1 r2,J2,Mo,K9,.cons (JY.ext Mo) Nk⟩
def VJ(h:NO X es ft){k:ay9}{pins:Hz}{s:Shared}{σ:L2.St}{H:Hp}{J:aw6}{r:r_}{S:ay4}{Q E:aw4}{Q':List Value->Shared->Prop}(I:At X pins σ H J r S s)
  (m:Mt X pins σ H J ((ft r).bind k S) Q E) (hk:∀xs S1 s1 H1 J1 vs us,At X pins σ H1 J1 r S1 s1->l_ X.K H1 J1 xs vs->Vals vs us->Mt X pins σ H1 J1 (k xs S1) Q E->Q' us s1) (pos:Pos) :
  wpAny (model X.prog X.w) X.A (spliced (backTo pos (starEach es X.env))) Q' E s:=by
 refine h pos pins s σ H J r S _ E I ?_;unfold M.bind at m;cases e1:ft r S with
 |bad=>rw[e1] at m;exact m
 |exc c S1=>rw[e1] at m;exact m
 |ok x S1=>
  rw[e1] at m;intro us s1 ⟨vs,H1,I1,r1,J1,Ks,KL,JY⟩;exact hk x S1 s1 H1 J1 vs us ⟨I1,I.loc.ext Ks,KL⟩ JY r1 (Mt.ext Ks m)
def oQ(xs:ay7):M D:=fun S=>Ka (xs.length<=sizeLine) (.ok (.tup xs) S) .bad
def oV(xs:ay7):M D:=fun S=>Ka (xs.length<=sizeLine) (.ok (.ob S.length) (S++[.lst xs])) .bad
def Got.tup{K:aw5}{H:Hp}{J:aw6}{S:ay4}{xs:ay7}{vs:az0}{p:Addr}(rs:HB K H J S)(rv:l_ K H J xs vs)(hp:H p=none):Got K H J (.tup xs) S (.ref p) (upd H p (.tup vs)):=
 ⟨J,Ext.new hp,rs.new hp,.tup (Kq.of bF) (rv.ext (Ext.new hp))⟩
def Got.lst{K:aw5}{H:Hp}{J:aw6}{S:ay4}{xs:ay7}{vs:az0}{p:Addr}(rs:HB K H J S)(rv:l_ K H J xs vs)(hp:H p=none):Got K H J (.ob S.length) (S++[.lst xs]) (.ref p) (upd H p (.lst vs)):=
 ⟨J++[p],(Ext.new hp).snoc _,rs.push hp ⟨vs,bF,rv.ext ((Ext.new hp).snoc _)⟩,.ob (by rw[<-rs.len];simp)⟩
def Mt.val{pins:Hz}{s:Shared}{σ:L2.St}{H H':Hp}{J:aw6}{S:ay4}{d:D}{v:V}{u:Value}{Q E:aw4}(m:Mt X pins σ H J (.ok d S) Q E)(I:Inv X pins σ H' s)(r:RelV v u)(g:Got X.K H J d S v H'):Q u s:=
 m u s ⟨v,H',I,r,g⟩
def ci(ft:ay6):r_->M D:=fun r=>(ft r).bind oQ
def bT(ft:ay6):r_->M D:=fun r=>(ft r).bind oV
def bZ{x1}(h:NO X es ft):Ii X (.Tuple es x1 pos) (ci ft):=by
 intro pins s σ H J r S Q E I m;refine wpAny_Tuple_spliced (VJ h I m (fun xs S1 s1 H1 J1 vs us I1 rv r1 m1=>?_) pos);unfold oQ Ka at m1;split at m1
 ·rename_i z;have z':vs.length<=sizeLine:=by rw[rv.length];exact z
  refine⟨by rw[<-r1.length];exact z',?_⟩;have hf:H1 s1.heap.objs.size=none:=I1.inv.HH.fresh (aa1 _);refine m1.val (H':=upd H1 s1.heap.objs.size (.tup vs)) (v:=.ref s1.heap.objs.size) (I1.inv.laid (t':=s1.toks) (fun b u e=>aa6 _ e) (aa1 _) ?_) rfl (Got.tup I1.st rv hf);exact⟨z',us,r1,⟨_,ac0 _ rfl,rfl,_,rfl⟩⟩
 ·exact m1.elim
def bX(h:NO X es ft):Ii X (.List es pos) (bT ft):=by
 intro pins s σ H J r S Q E I m;refine wpAny_List_spliced (VJ h I m (fun xs S1 s1 H1 J1 vs us I1 rv r1 m1=>?_) pos);unfold oV Ka at m1;split at m1
 ·rename_i z;have z':vs.length<=sizeLine:=by rw[rv.length];exact z
  refine⟨by rw[<-r1.length];exact z',?_⟩;have hf:H1 s1.heap.objs.size=none:=I1.inv.HH.fresh (aa1 _);refine m1.val (H':=upd H1 s1.heap.objs.size (.lst vs)) (v:=.ref s1.heap.objs.size) (I1.inv.laid (t':=s1.toks) (fun b u e=>aa6 _ e) (aa1 _) ?_) rfl (Got.lst I1.st rv hf);exact⟨z',us,0,r1,ac0 _ rfl⟩
 ·exact m1.elim
def TK(X:Cx)(g:D->D->M D):Prop:=∀(value slice:Expr) (pins:Hz) (s:Shared) (σ:L2.St) (H:Hp) (J:aw6) (S:ay4) (x y:D) (vx vy:V) (v u:Value) (Q E:aw4),
 Inv X pins σ H s->HB X.K H J S->s_ X.K H J x vx->s_ X.K H J y vy->RelV vx v->RelV vy u->subscripted slice false v u=operate [v,u] (getItem v u)->Mt X pins σ H J (g x y S) Q E->wpAny (model X.prog X.w) X.A (subscriptTail value slice v u) Q E s
def TK.of{r:R2}{g:D->D->M D}(h:∀E,Sm (X.HV E) r)
  (hg:∀(H:Hp) (J:aw6) (S:ay4) (x y:D) (vx vy:V) (d:D) (S':ay4),HB X.K H J S->s_ X.K H J x vx->s_ X.K H J y vy->g x y S=.ok d S'->r vx vy H (Got X.K H J d S'))
  (hn:∀x y S c S',g x y S≠.exc c S'):TK X g:=by
 intro value slice pins s σ H J S x y vx vy v u Q E I rs rx ry rv ru hs m;cases e:g x y S with
 |ok d S'=>
  rw[e] at m;exact ad6 (h E value slice pins s σ H vx vy v u _ (I.HV E) rv ru (hg H J S x y vx vy d S' rs rx ry e) hs) (fun u s' q=>m u s' (EP.HR q)) fun _ _ z=>z
 |exc c S'=>exact absurd e (hn _ _ _ _ _)
 |bad=>rw[e] at m;exact m.elim
def aK{g:D->D->M D}(hr:TK X g)(ha:Ii X a fa)(hb:Ii X b fb)(hs:DX b):Ii X (.Subscript a b pos) (f_ g fa fb):=by
 intro pins s σ H J r S Q E I m;refine Subscript_ (ha pins s σ H J r S _ E I ?_);unfold f_ M.bind at m;cases e:fa r S with
 |bad=>rw[e] at m;exact m
 |exc c S1=>rw[e] at m;exact m
 |ok x S1=>
  rw[e] at m;intro u s' ⟨vx,H1,I1,r1,J1,ex,rs,rv⟩;refine hb pins s' σ H1 J1 r S1 _ E ⟨I1,I.loc.ext ex,rs⟩ ?_;dsimp only at m;have m:=Mt.ext ex m;cases e2:fb r S1 with
  |bad=>rw[e2] at m;exact m
  |exc c S2=>rw[e2] at m;exact m
  |ok y S2=>
   rw[e2] at m;intro u2 s2 ⟨vy,H2,I2,r2,J2,Mo,K9,Nk⟩;exact hr a b pins s2 σ H2 J2 S2 x y vx vy u u2 Q E I2 K9 (rv.ext Mo) Nk r1 r2 (hs _ _) (Mt.ext Mo m)
def MtO(X:Cx)(pins:Hz)(σ:L2.St)(H:Hp)(J:aw6)(r:R (Option Int))(Q:aw4)(E:aw4):Prop:=match r with
 |.ok o S'=>∀u s' H',Inv X pins σ H' s'->K8 X.K H J S' H'->IsPart u o->Q u s'
 |.exc c S'=>∀e s',XP X pins σ c (K8 X.K H J S') e s'->E e s'
 |.bad=>False
def VL(X:Cx)(e:Option Expr)(f:r_->M (Option Int)):Prop:=∀(pins:Hz) (s:Shared) (σ:L2.St) (H:Hp) (J:aw6) (r:r_) (S:ay4) (Q E:aw4),
 At X pins σ H J r S s->MtO X pins σ H J (f r S) Q E->wpAny (model X.prog X.w) X.A (evalPart e X.env) Q E s
def bK:r_->M (Option Int):=fun _=>M.ret none
def B2:D->M (Option Int)
 |.int i=>M.ret (some i)
 |_=>M.bad
def bA(f:ay5):r_->M (Option Int):=fun r=>(f r).bind B2
def gE:VL X none bK:=by
 intro pins s σ H J r S Q E I m;rw[evalPart_none];exact aa4 (m .none s H I.inv ⟨J,Ext.refl _ _,I.st⟩ .none)
def cU(h:Ii X e fe):VL X (some e) (bA fe):=by
 intro pins s σ H J r S Q E I m;rw[evalPart_some];refine h pins s σ H J r S _ E I ?_;unfold bA M.bind at m;cases e1:fe r S with
 |bad=>rw[e1] at m;exact m
 |exc c S1=>rw[e1] at m;exact m
 |ok x S1=>
  rw[e1] at m;intro u s' ⟨vx,H1,I1,r1,J1,ex,rs,rv⟩;cases x with
  |int i=>
   cases rv.IT;obtain⟨t,rfl⟩:=r1;exact m _ s' H1 I1 ⟨J1,ex,rs⟩ (.int i t)
  |_=>exact m.elim
def ZD(X:Cx)(g:D->Option Int->Option Int->M D):Prop:=∀(pins:Hz) (s:Shared) (σ:L2.St) (H:Hp) (J:aw6) (S:ay4) (x:D) (vx:V) (v vl vu:Value) (lo hi:Option Int) (sl:Addr) (Q E:aw4),
 Inv X pins σ H s->HB X.K H J S->s_ X.K H J x vx->RelV vx v->s.heap.IsSliceOf sl vl vu .none->IsPart vl lo->IsPart vu hi->Mt X pins σ H J (g x lo hi S) Q E->
  ∃T id,typeLookup (.type T) "__getitem__"=pure (some (.builtin id))/\s.TypeIs v T/\wpAny (model X.prog X.w) X.A (getItem v (.ref sl)) Q E s
def Kb(g:D->Option Int->Option Int->M D)(fe:ay5)(fl fh:r_->M (Option Int)):r_->M D:=fun r=>(fe r).bind fun x=>(fl r).bind fun l=>(fh r).bind fun h=>g x l h
def d6{g:D->Option Int->Option Int->M D}{lo hi:Option Expr}{fl fh:r_->M (Option Int)}{p2:Pos}(hr:ZD X g)(he:Ii X e fe)(hl:VL X lo fl)(hu:VL X hi fh):Ii X (.Subscript e (.Slice lo hi none p2) pos) (Kb g fe fl fh):=by
 intro pins s σ H J r S Q E I m;refine Subscript_ (he pins s σ H J r S _ E I ?_);unfold Kb M.bind at m;cases e1:fe r S with
 |bad=>rw[e1] at m;exact m
 |exc c S1=>rw[e1] at m;exact m
 |ok x S1=>
  rw[e1] at m;intro v s1 ⟨vx,H1,I1,r1,J1,Ks,KL,JY⟩;refine wpAny_Slice (hl pins s1 σ H1 J1 r S1 _ E ⟨I1,I.loc.ext Ks,KL⟩ ?_);have m:=Mt.ext Ks m;dsimp only at m;cases e2:fl r S1 with
  |bad=>rw[e2] at m;exact m
  |exc c S2=>rw[e2] at m;exact m
  |ok l S2=>
   rw[e2] at m;intro vl s2 H2 I2 ⟨J2,Mo,K9⟩ pl;have m:=Mt.ext Mo m;dsimp only at m;refine hu pins s2 σ H2 J2 r S2 _ E ⟨I2,(I.loc.ext Ks).ext Mo,K9⟩ ?_;cases e3:fh r S2 with
   |bad=>rw[e3] at m;exact m
   |exc c S3=>rw[e3] at m;exact m
   |ok u S3=>
    rw[e3] at m;intro vu s3 H3 I3 ⟨J3,TJ,RL⟩ pu;have m:=Mt.ext TJ m;rw[evalPart_none];refine aa4 ?_;have I4:Inv X pins σ H3 { s3 with heap:=s3.heap.push { cls:=.type "slice",data:=.fields #[vl,vu,.none] } }:=I3.kept (t':=s3.toks) fun b ob q=>aa6 _ q
    obtain⟨T,id,hT,ht,hg⟩:=hr pins { s3 with heap:=s3.heap.push { cls:=.type "slice",data:=.fields #[vl,vu,.none] } } σ H3 J3 S3 x vx v vl vu l u s3.heap.objs.size Q E I4 RL ((JY.ext Mo).ext TJ) r1 (Heap.IsSliceOf.new ..) pl pu m;show wpAny (model X.prog X.w) X.A (subscriptTail e (.Slice lo hi none p2) v (.ref s3.heap.objs.size)) Q E { s3 with heap:=s3.heap.push { cls:=.type "slice",data:=.fields #[vl,vu,.none] } };exact tail_any (ops:=[.ref s3.heap.objs.size,v]) ht hT hg (by with_unfolding_all rfl)
def aj(g:ay9)(ft:ay6):r_->M D:=fun r=>(ft r).bind g
def bi{x:Str}{p:Pos}{id:String}{g:ay9}(hc:Jp X (.builtin id) g)(hg:Gl X x)(hm:X.mg x=none)(hv:bootBuiltins x=some (.builtin id))(ha:NO X (e :: es) ft)(hn:x≠"__name__":=by decide)(Pg:(x == ("__debug__":Str))=false:=by decide)
  (he:starEach (e :: es) X.env=(false,eval e X.env) :: starEach es X.env:=by rfl) (M8:(backTo pos (starEach es X.env)).any (·.1)=false:=by rfl):Ii X (.Call (.Name x p) (e :: es) [] pos) (aj g ft):=by
 intro pins s σ H J r S Q E I m;refine ag8 (jL I.inv hg hm hv ?_ hn Pg);exact ak6 (VJ ha I m (fun xs S1 s1 H1 J1 vs us I1 rv r1 m1=>hc pins s1 σ H1 J1 S1 xs vs us Q E I1.inv I1.st rv r1 m1) pos) he M8
def gi{x:Str}{p:Pos}{T:String}{g:ay9}(hc:Jp X (.type T) g)(hg:Gl X x)(hm:X.mg x=none)(hv:bootBuiltins x=some (.type T))(ha:NO X (e :: es) ft)(hn:x≠"__name__":=by decide)(Pg:(x == ("__debug__":Str))=false:=by decide)
  (he:starEach (e :: es) X.env=(false,eval e X.env) :: starEach es X.env:=by rfl) (M8:(backTo pos (starEach es X.env)).any (·.1)=false:=by rfl):Ii X (.Call (.Name x p) (e :: es) [] pos) (aj g ft):=by
 intro pins s σ H J r S Q E I m;refine ag8 (jL I.inv hg hm hv ?_ hn Pg);exact ah2 (VJ ha I m (fun xs S1 s1 H1 J1 vs us I1 rv r1 m1=>hc pins s1 σ H1 J1 S1 xs vs us Q E I1.inv I1.st rv r1 m1) pos) he M8
def ZE(K:aw5)(n:Nat)(F:ay9):Sp:=fun vs H Q E=>vs.length=n/\∃J xs S,l_ K H J xs vs/\HB K H J S/\match F xs S with
 |.ok d S'=>∀v H',Got K H J d S' v H'->Q v H'
 |.exc c S'=>∀H',K8 K H J S' H'->E (.ref c) none H'
 |.bad=>False
def o0(CX:Lx)(X:Cx):Prop:=∀(E0:XK) (pins:Hz) (σ:L2.St) (H:Hp) (s:Shared) (e:Value) (s':Shared),Inv X pins σ H s->CX X.stack H s E0 e s'->∃c H',QW X pins σ H' s' e c/\E0 (.ref c) none H'
abbrev IP(P:ay1)(w:ay3)(K:aw5)(mg:aw9)(base:Heap)(CX:Lx)(k:Nat)(f:Addr)(fd:ax1)(ps:ax0)(F:ay9):Prop:=Lk P w K mg base CX k f fd ps (ZE K ps.length F)
def uz{CX:Lx}{k:Nat}{f:Addr}{fd:ax1}{ps:ax0}{F:ay9}{pins:Hz}{σ:L2.St}{H:Hp}{J:aw6}{S:ay4}{s:Shared}{Q E:aw4}{xs:ay7}{vs:az0}{us:aw7}
  (hF:IP X.prog X.w X.K X.mg X.base CX k f fd ps F) (hr:I0 k X.A) (hb:Binds X.K fd ps []) (hx:o0 CX X) (I:Inv X pins σ H s) (rs:HB X.K H J S) (rx:l_ X.K H J xs vs) (rv:Vals vs us) (hl:xs.length=ps.length)
  (m:Mt X pins σ H J (F xs S) Q E):wpAny (model X.prog X.w) X.A (call (.ref f) us) Q E s:=by
 have hlen:(us++[]).length=ps.length:=by rw[ae4,<-rv.length,rx.length];exact hl
 have QZ:=hb s us I.LS hlen;rw[ae4] at QZ;refine wpAny_call (al1 (hF.run X.A X.stack s H ⟨us,[]⟩ us vs (fun v H'=>∃d S',F xs S=.ok d S'/\Got X.K H J d S' v H') (fun cl _ H'=>∃c S',F xs S=.exc c S'/\cl=.ref c/\K8 X.K H J S' H') hr I.Ut QZ rv ?_) fun rr s' hq=>?_)
 ·refine⟨by rw[rx.length];exact hl,J,xs,S,rx,rs,?_⟩;cases e:F xs S with
  |ok d S'=>exact fun v H' g=>⟨d,S',rfl,g⟩
  |exc c S'=>exact fun H' g=>⟨c,S',rfl,rfl,g⟩
  |bad=>rw[e] at m;exact m
 ·cases rr with
  |error e=>
   obtain⟨c,H',XI,c',S',e1,e2,g⟩:=hx _ pins σ H s e s' I hq;cases e2;rw[e1] at m;exact m e s' ⟨H',XI,g⟩
  |ok fl=>
   cases fl with
   |ret u=>
    obtain⟨v,H',I',r',d,S',e1,g⟩:=I.after hq;rw[e1] at m;exact m u s' ⟨v,H',I',r',g⟩
   |next=>exact False.elim hq
   |brk=>exact False.elim hq
   |cont=>exact False.elim hq
def DS{CX:Lx}{k:Nat}{f:Addr}{fd:ax1}{ps:ax0}{F:ay9}{x:Str}{p:Pos}(hF:IP X.prog X.w X.K X.mg X.base CX k f fd ps F)(hr:I0 k X.A)(hg:Gl X x)(hm:X.mg x=some (.ref f))(hk:keepIn X.K (.ref f)=true)
  (hb:Binds X.K fd ps []) (hx:o0 CX X) (ha:NO X (e :: es) ft) (hl:∀r S xs S',ft r S=.ok xs S'->xs.length=ps.length)
  (Pg:(x == ("__debug__":Str))=false:=by decide) (he:starEach (e :: es) X.env=(false,eval e X.env) :: starEach es X.env:=by rfl) (M8:(backTo pos (starEach es X.env)).any (·.1)=false:=by rfl) :
  Ii X (.Call (.Name x p) (e :: es) [] pos) (aj F ft):=by
 intro pins s σ H J r S Q E I m;refine ag8 (lO I.inv hg hm ?_ Pg);refine callWith_K (h₀:=X.base) I.inv.ok.mod.Tw hk ?_ he M8;refine ha pos pins s σ H J r S _ E I ?_;unfold aj M.bind at m;cases e1:ft r S with
 |bad=>rw[e1] at m;exact m
 |exc c S1=>rw[e1] at m;exact m
 |ok xs S1=>
  rw[e1] at m;intro us s1 ⟨vs,H1,I1,r1,J1,Ks,KL,JY⟩;exact⟨I1.LS,uz hF hr hb hx I1 KL JY r1 (hl r S xs S1 e1) (Mt.ext Ks m)⟩
end
inductive Fl where
 |nx (r:r_)|rt (d:D)|bk (r:r_)|ct (r:r_)|xc (c:Addr) (r:r_)
abbrev Oi:=Option (Fl×List Cell)
abbrev HK:=r_->List Cell->Oi
def Mw(X:Cx)(pins:Hz)(H:Hp)(J:aw6)(x:Oi)(Q:Flow->Shared->Prop)(E:aw4):Prop:=match x with
 |none=>False
 |some (.nx r',S')=>∀s' Ia H' J',At X pins Ia H' J' r' S' s'->Ext H J H' J'->Q .next s'
 |some (.bk r',S')=>∀s' Ia H' J',At X pins Ia H' J' r' S' s'->Ext H J H' J'->Q .brk s'
 |some (.ct r',S')=>∀s' Ia H' J',At X pins Ia H' J' r' S' s'->Ext H J H' J'->Q .cont s'
 |some (.rt d,S')=>∀u s' Ia,EP X pins Ia (Got X.K H J d S') u s'->Q (.ret u) s'
 |some (.xc c r',S')=>∀e s' Ia H' J',QW X pins Ia H' s' e c->Kr X.K H' J' r' Ia->HB X.K H' J' S'->Ext H J H' J'->E e s'
theorem Mw.ext{X:Cx}{pins:Hz}{H H1:Hp}{J J1:aw6}{x:Oi}{Q:Flow->Shared->Prop}{E:aw4}(e:Ext H J H1 J1)(h:Mw X pins H J x Q E):Mw X pins H1 J1 x Q E:=by
 match x,h with
 |none,h=>exact h
 |some (.nx r',S'),h=>exact fun s' Ia H' J' a x=>h s' Ia H' J' a (e.trans x)
 |some (.bk r',S'),h=>exact fun s' Ia H' J' a x=>h s' Ia H' J' a (e.trans x)
 |some (.ct r',S'),h=>exact fun s' Ia H' J' a x=>h s' Ia H' J' a (e.trans x)
 |some (.rt d,S'),h=>exact fun u s' Ia ⟨v,H',I,rv,g⟩=>h u s' Ia ⟨v,H',I,rv,g.ext e⟩
 |some (.xc c r',S'),h=>exact fun u s' Ia H' J' a b c x=>h u s' Ia H' J' a b c (e.trans x)
def Oj(X:Cx)(st:Stmt)(t:HK):Prop:=∀(pins:Hz) (s:Shared) (σ:L2.St) (H:Hp) (J:aw6) (r:r_) (S:ay4) (Q:Flow->Shared->Prop) (E:aw4),
 At X pins σ H J r S s->Mw X pins H J (t r S) Q E->wpAny (model X.prog X.w) X.A (exec st X.env) Q E s
def oo(X:Cx)(st:List Stmt)(t:HK):Prop:=∀(pins:Hz) (s:Shared) (σ:L2.St) (H:Hp) (J:aw6) (r:r_) (S:ay4) (Q:Flow->Shared->Prop) (E:aw4),
 At X pins σ H J r S s->Mw X pins H J (t r S) Q E->wpAny (model X.prog X.w) X.A (execs st X.env) Q E s
def cz{α:Type}(m:M α)(r:r_)(k:α->List Cell->Oi):List Cell->Oi:=fun S=>match m S with
 |.ok a S'=>k a S'
 |.exc c S'=>some (.xc c r,S')
 |.bad=>none
def bG:HK:=fun r S=>some (.nx r,S)
def aI(t u:HK):HK:=fun r S=>match t r S with
 |some (.nx r',S')=>u r' S'
 |o=>o
section
variable{X:Cx}{st:Stmt}{rest:List Stmt}{t u:HK}{e:Expr}{fe:ay5}{pos:Pos}
def aY:oo X [] bG:=fun pins s σ H J r S Q E I m=>an6 (m s σ H J I (Ext.refl _ _))
def aq(h1:Oj X st t)(h2:oo X rest u):oo X (st :: rest) (aI t u):=by
 intro pins s σ H J r S Q E I m;refine wpAny_execs_cons (h1 pins s σ H J r S _ E I ?_);unfold aI at m
 match e:t r S with
 |none=>rw[e] at m;exact m
 |some (.nx r',S')=>
  rw[e] at m;exact fun s' Ia H' J' a x=>h2 pins s' Ia H' J' r' S' Q E a (Mw.ext x m)
 |some (.bk r',S')=>rw[e] at m;exact m
 |some (.ct r',S')=>rw[e] at m;exact m
 |some (.rt d,S')=>rw[e] at m;exact m
 |some (.xc c r',S')=>rw[e] at m;exact m
def ak(h1:Oj X st t):oo X [st] t:=by
 intro pins s σ H J r S Q E I m;refine wpAny_execs_cons (h1 pins s σ H J r S _ E I ?_)
 match e:t r S with
 |none=>rw[e] at m;exact m
 |some (.nx r',S')=>rw[e] at m;exact fun s' Ia H' J' a x=>an6 (m s' Ia H' J' a x)
 |some (.bk r',S')=>rw[e] at m;exact m
 |some (.ct r',S')=>rw[e] at m;exact m
 |some (.rt d,S')=>rw[e] at m;exact m
 |some (.xc c r',S')=>rw[e] at m;exact m
def UH(he:Ii X e fe){k:D->List Cell->Oi}{pins:Hz}{s:Shared}{σ:L2.St}{H:Hp}{J:aw6}{r:r_}{S:ay4}{Q:Flow->Shared->Prop}{E:aw4}{Q':aw4}(I:At X pins σ H J r S s)
  (m:Mw X pins H J (cz (fe r) r k S) Q E) (hk:∀x S1 v s1 vx H1 J1,At X pins σ H1 J1 r S1 s1->s_ X.K H1 J1 x vx->RelV vx v->Mw X pins H1 J1 (k x S1) Q E->Q' v s1) :
  wpAny (model X.prog X.w) X.A (eval e X.env) Q' E s:=by
 refine he pins s σ H J r S _ E I ?_;unfold cz at m;cases e1:fe r S with
 |bad=>rw[e1] at m;exact m
 |exc c S1=>
  rw[e1] at m;exact fun x s' ⟨H',XI,J',ex,rs⟩=>m x s' σ H' J' XI (I.loc.ext ex) rs ex
 |ok x S1=>
  rw[e1] at m;exact fun v s1 ⟨vx,H1,I1,r1,J1,ex,rs,rv⟩=>hk x S1 v s1 vx H1 J1 ⟨I1,I.loc.ext ex,rs⟩ rv r1 (Mw.ext ex m)
def Ha{te:ay8}(he:OW X e te){k:Bool->List Cell->Oi}{pins:Hz}{s:Shared}{σ:L2.St}{H:Hp}{J:aw6}{r:r_}{S:ay4}{Q:Flow->Shared->Prop}{E:aw4}{Q':ax5}(I:At X pins σ H J r S s)
  (m:Mw X pins H J (cz (te r) r k S) Q E) (hk:∀b S1 s1 H1 J1,At X pins σ H1 J1 r S1 s1->Mw X pins H1 J1 (k b S1) Q E->Q' b s1) :
  wpAny (model X.prog X.w) X.A (isTrue e X.env (eval e X.env)) Q' E s:=by
 refine he pins s σ H J r S _ E I ?_;unfold cz at m;cases e1:te r S with
 |bad=>rw[e1] at m;exact m
 |exc c S1=>
  rw[e1] at m;exact fun x s' ⟨H',XI,J',ex,rs⟩=>m x s' σ H' J' XI (I.loc.ext ex) rs ex
 |ok x S1=>
  rw[e1] at m;exact fun s1 ⟨H1,I1,J1,ex,rs⟩=>hk x S1 s1 H1 J1 ⟨I1,I.loc.ext ex,rs⟩ (Mw.ext ex m)
def bx(fe:ay5):HK:=fun r=>cz (fe r) r fun _ S=>some (.nx r,S)
def aU(he:Ii X e fe)(hs:swapsWith e none pos.line X.env=pure false:=by rfl):Oj X (.Expr e pos) (bx fe):=by
 intro pins s σ H J r S Q E I m;exact wpAny_Expr_any (UH he I m fun x S1 v s1 vx H1 J1 I1 rv r1 m1=>m1 s1 σ H1 J1 I1 (Ext.refl _ _)) I.inv.quiet hs
def bN(fe:ay5):HK:=fun r=>cz (fe r) r fun d S=>some (.rt d,S)
def aW(he:Ii X e fe):Oj X (.Return (some e) pos) (bN fe):=by
 intro pins s σ H J r S Q E I m;exact wpAny_Return_some (UH he I m fun x S1 v s1 vx H1 J1 I1 rv r1 m1=>m1 v s1 σ ⟨vx,H1,I1.inv,r1,J1,Ext.refl _ _,I1.st,rv⟩)
def IJ(c:ay8)(t u:HK):HK:=fun r=>cz (c r) r fun b S=>if b=true then t r S else u r S
def bw{c:Expr}{a b:List Stmt}{tc:ay8}(hc:OW X c tc)(ha:oo X a t)(hb:oo X b u):Oj X (.If c a b pos) (IJ tc t u):=by
 intro pins s σ H J r S Q E I m;refine wpAny_If (Ha hc I m fun d S1 s1 H1 J1 I1 m1=>?_);cases d with
 |true=>exact ha pins s1 σ H1 J1 r S1 Q E I1 m1
 |false=>exact hb pins s1 σ H1 J1 r S1 Q E I1 m1
abbrev Mx:=D->r_->Option r_
def Q0(X:Cx)(tg:Expr)(t:Mx):Prop:=∀(pins:Hz) (s:Shared) (σ:L2.St) (H:Hp) (J:aw6) (r:r_) (S:ay4) (d:D) (v:V) (u:Value) (Q:ax6) (E:aw4) (r':r_),
 At X pins σ H J r S s->s_ X.K H J d v->RelV v u->t d r=some r'->(∀s' Ia H' J',At X pins Ia H' J' r' S s'->Ext H J H' J'->Q () s')->wpAny (model X.prog X.w) X.A (assign tg X.env u) Q E s
def gN(i:Nat):Mx:=fun d r=>some (r.set i (some d))
def bV{i:Nat}{x:Str}(hN:X.N.Nodup)(hi:X.N[i]?=some x:=by rfl)(hx:Loc X.env.scope x:=by first|exact ao3 rfl|exact Or.inr rfl)(hf:X.fn x=true\/X.env.scope.names.lookup x=some .local:=by first|exact .inl rfl|exact .inr rfl|assumption):Q0 X (.Name x pos) (gN i):=by
 intro pins s σ H J r S d v u Q E r' I rv ru e k;cases e;refine ad6 (DW (X:=X.HV E) hN hi hx hf pins s σ H v u (fun Ia H'=>Ia=σ.set i (some v)/\H'=H) (I.inv.HV E) ru ⟨rfl,rfl⟩) (fun _ s' q=>?_) fun _ _ z=>z
 obtain⟨Ia,H',I',rfl,rfl⟩:=q;exact k s' _ _ J ⟨I'.HR,I.loc.set rv,I.st⟩ (Ext.refl _ _)
def RM:List Nat->List D->r_->Option r_
 |[],[],r=>some r
 |i :: is,d :: ds,r=>RM is ds (r.set i (some d))
 |_,_,_=>none
def gT(is:ax4):Mx:=fun d r=>match d with
 |.tup ds=>RM is ds r
 |_=>none
def DG(X:Cx)(ts:ax8)(is:ax4):Prop:=∀(pins:Hz) (s:Shared) (σ:L2.St) (H:Hp) (J:aw6) (r:r_) (S:ay4) (ds:ay7) (vs:az0) (us:aw7) (Q:ax6) (E:aw4) (r':r_),
 At X pins σ H J r S s->l_ X.K H J ds vs->Vals vs us->RM is ds r=some r'->(∀s' Ia H' J',At X pins Ia H' J' r' S s'->Ext H J H' J'->Q () s')->wpAny (model X.prog X.w) X.A (assignInOrder ((assignEach ts X.env).map (·.2)) us) Q E s
def nJ:DG X [] []:=by
 intro pins s σ H J r S ds vs us Q E r' I rv ru e k;cases ds with
 |nil=>
  cases e;unfold l_ at rv;subst rv;cases ru;rw[show(assignEach [] X.env).map (·.2)=[] from rfl];exact assignInOrder_nil (k s σ H J I (Ext.refl _ _))
 |cons d ds=>cases e
def eI{ex:Expr}{es:ax8}{i:Nat}{is:ax4}(h1:Q0 X ex (gN i))(h2:DG X es is)
  (hs:(assignEach (ex :: es) X.env).map (·.2)=assign ex X.env :: (assignEach es X.env).map (·.2):=by rfl):DG X (ex :: es) (i :: is):=by
 intro pins s σ H J r S ds vs us Q E r' I rv ru e k;cases ds with
 |nil=>cases e
 |cons d ds=>
  unfold l_ at rv;obtain⟨v,vr,rfl,JY,Nk⟩:=rv;cases ru with
  |cons q1 q2=>
   rw[hs];refine assignInOrder_cons (h1 pins s σ H J r S d v _ _ E _ I JY q1 rfl fun s1 TL H1 J1 I1 x1=>?_);exact h2 pins s1 TL H1 J1 _ S ds vr _ Q E r' I1 (Nk.ext x1) q2 e fun s' Ia H' J' a x=>k s' Ia H' J' a (x1.trans x)
theorem zk:∀{is:ax4}{ds:ay7}{r r':r_},RM is ds r=some r'->ds.length=is.length
 |[],[],_,_,_=>rfl
 |i :: is,d :: ds,r,r',h=>by
  rw[ab8,ab8,zk (show RM is ds (r.set i (some d))=some r' from h)]
 |[],d :: ds,r,r',h=>by cases h
 |i :: is,[],r,r',h=>by cases h
def qP{es:ax8}{k:Nat}{is:ax4}(hc:X.calm=true)(h:DG X es is)(hn:(assignEach es X.env).length=is.length:=by rfl)(Jl:(assignEach es X.env).findIdx? (·.1)=none:=by rfl):Q0 X (.Tuple es k pos) (gT is):=by
 intro pins s σ H J r S d v u Q E r' I rv ru e k;cases d with
 |tup ds=>
  obtain⟨a,vs,rfl,hq,HZ⟩:=rv.K_;cases ru;obtain⟨y_,rel,ht,hz⟩:=I.inv.tuple hq;have e':RM is ds r=some r':=e;have hl:=zk e';refine assign_Tuple_tuple (I.inv.ok.hd hc) ht (by simp[hn,<-hl,<-HZ.length,rel.length]) Jl fun h' hx=>?_
  have I1:Inv X pins σ H { s with heap:=h' }:=I.inv.kept (t':=s.toks) fun b o e=>hx b o (ad0 (ac6 e)) e
  exact h pins _ σ H J r S ds vs _ Q E r' ⟨I1,I.loc,I.st⟩ HZ (by simpa using rel) e' k
 |_=>cases e
def cg(fe:ay5)(g:Mx):HK:=fun r=>cz (fe r) r fun d S=>match g d r with
 |some r'=>some (.nx r',S)
 |none=>none
def bC{i:Nat}{x:Str}{pos':Pos}(hN:X.N.Nodup)(he:Ii X e fe)(hi:X.N[i]?=some x:=by rfl)(hx:Loc X.env.scope x:=by first|exact ao3 rfl|exact Or.inr rfl)(hs:swapsWith e (some (.Name x pos')) pos.line X.env=pure false:=by rfl)
  (hf:X.fn x=true\/X.env.scope.names.lookup x=some .local:=by first|exact .inl rfl|exact .inr rfl|assumption):Oj X (.Assign [.Name x pos'] e pos) (cg fe (gN i)):=by
 intro pins s σ H J r S Q E I m;refine wpAny_Assign_Name (UH he I m fun d S1 v s1 vx H1 J1 I1 rv r1 m1=>?_) hs;exact wY I1.inv hN hi hx r1 (fun s2 I2=>m1 s2 _ H1 J1 ⟨I2,I1.loc.set rv,I1.st⟩ (Ext.refl _ _)) hf
def Fg{tg:Expr}{g:Mx}(he:Ii X e fe)(hg:Q0 X tg g)(hs:swapsWithSole [tg] e pos.line X.env=pure false:=by rfl)(hw:swappedStores [tg] e X.env=pure none:=by rfl)
  (h1:(assignEach [tg] X.env).map (·.2)=[assign tg X.env]:=by rfl):Oj X (.Assign [tg] e pos) (cg fe g):=by
 intro pins s σ H J r S Q E I m;refine wpAny_Assign_stores (UH he I m fun d S1 v s1 vx H1 J1 I1 rv r1 m1=>?_) hs hw;rw[h1];cases eg:g d r with
 |none=>rw[eg] at m1;exact m1.elim
 |some r'=>
  rw[eg] at m1;exact hg pins s1 σ H1 J1 r S1 d vx v _ E r' I1 rv r1 eg fun s' Ia H' J' a x=>m1 s' Ia H' J' a x
def fV(c:ay8)(b:HK):Nat->HK
 |0=>fun _ _=>none
 |n+1=>fun r S=>match c r S with
  |.ok true S1=>(match b r S1 with
   |some (.nx r',S')=>fV c b n r' S'
   |some (.ct r',S')=>fV c b n r' S'
   |some (.bk r',S')=>some (.nx r',S')
   |some (.rt d,S')=>some (.rt d,S')
   |_=>none)
  |.ok false S1=>some (.nx r,S1)
  |_=>none
def vI{c:Expr}{body:List Stmt}{tc:ay8}{tb:HK}(n:Nat)(hc:OW X c tc)(hb:oo X body tb):Oj X (.While c body [] pos) (fV tc tb n):=by
 intro pins s σ H J r S Q E I m;refine wpAny_While (codeAny_whileLoop (fun k s'=>∃Ia H' J' r' S',At X pins Ia H' J' r' S' s'/\Ext H J H' J'/\Mw X pins H J (fV tc tb k r' S') Q E) ?_ n ⟨σ,H,J,r,S,I,Ext.refl _ _,m⟩);rintro k s1 ⟨TL,H1,J1,r1,S1,I1,x1,m1⟩;cases k with
 |zero=>exact m1.elim
 |succ k=>
  refine hc pins s1 TL H1 J1 r1 S1 _ _ I1 ?_;unfold fV at m1;cases ec:tc r1 S1 with
  |bad=>rw[ec] at m1;exact m1.elim
  |exc c S2=>rw[ec] at m1;exact m1.elim
  |ok k2 S2=>
   rw[ec] at m1;rintro s2 ⟨H2,I2,J2,x2,K9⟩;cases k2 with
   |false=>
    rw[ab1 ad2];exact an6 (m1 s2 TL H2 J2 ⟨I2,I1.loc.ext x2,K9⟩ (x1.trans x2))
   |true=>
    rw[ab2 rfl];refine hb pins s2 TL H2 J2 r1 S2 _ _ ⟨I2,I1.loc.ext x2,K9⟩ ?_;dsimp only at m1
    match eb:tb r1 S2 with
    |none=>rw[eb] at m1;exact m1.elim
    |some (.nx r',S')=>
     rw[eb] at m1;exact fun s' Ia H' J' a x=>⟨k,ag2 _,Ia,H',J',r',S',a,(x1.trans x2).trans x,m1⟩
    |some (.ct r',S')=>
     rw[eb] at m1;exact fun s' Ia H' J' a x=>⟨k,ag2 _,Ia,H',J',r',S',a,(x1.trans x2).trans x,m1⟩
    |some (.bk r',S')=>
     rw[eb] at m1;exact fun s' Ia H' J' a x=>m1 s' Ia H' J' a ((x1.trans x2).trans x)
    |some (.rt d,S')=>
     rw[eb] at m1;exact fun u s' Ia ⟨v,H',I',rv,g⟩=>m1 u s' Ia ⟨v,H',I',rv,g.ext (x1.trans x2)⟩
    |some (.xc c r',S')=>rw[eb] at m1;exact m1.elim
structure Wk where
 items:List D
 guard:Option (Nat×List D):=none
def Lo:Option (Nat×List D)->List Cell->Prop
 |none,_=>True
 |some (n,xs),S=>S[n]?=some (.lst xs)
def JQ(K:aw5)(it:It)(w:Wk)(H0:Hp)(J0:aw6):Prop:=∀(H:Hp) (J:aw6) (S:ay4),Ext H0 J0 H J->HB K H J S->Lo w.guard S->
 (∀i,i<w.items.length->it.go i H)/\it.stop w.items.length H/\
 ∀i x H',it.Zq i H x H'->∀d,w.items[i]?=some d->∃J',Ext H J H' J'/\HB K H' J' S/\s_ K H' J' d x
def OX(X:Cx)(pins:Hz)(σ:L2.St)(H:Hp)(J:aw6)(tg:Expr)(x:R Wk)(Q:aw4)(E:aw4):Prop:=match x with
 |.ok w S'=>∀OQ s2,VC X pins σ tg (fun it H1=>∃J1,Ext H J H1 J1/\HB X.K H1 J1 S'/\Lo w.guard S'/\JQ X.K it w H1 J1) OQ s2->Q OQ s2
 |.exc c S'=>∀e s',XP X pins σ c (K8 X.K H J S') e s'->E e s'
 |.bad=>False
def PId(X:Cx)(tg iter:Expr)(f:r_->M Wk):Prop:=∀(pins:Hz) (s:Shared) (σ:L2.St) (H:Hp) (J:aw6) (r:r_) (S:ay4) (Q E:aw4),
 At X pins σ H J r S s->OX X pins σ H J tg (f r S) Q E->wpAny (model X.prog X.w) X.A (eval iter X.env) (fun v s1=>wpAny (model X.prog X.w) X.A (pyIter v) Q E s1) E s
open Classical in
def ji(g:Option (Nat×List D))(tg:Mx)(b:HK):List D->HK
 |[],r,S=>some (.nx r,S)
 |x :: xs,r,S=>match tg x r with
  |none=>none
  |some r1=>match b r1 S with
   |some (.nx r',S')=>if Lo g S' then ji g tg b xs r' S' else none
   |some (.ct r',S')=>if Lo g S' then ji g tg b xs r' S' else none
   |some (.bk r',S')=>some (.nx r',S')
   |some (.rt d,S')=>some (.rt d,S')
   |_=>none
def og(f:r_->M Wk)(tg:Mx)(b:HK):HK:=fun r=>cz (f r) r fun w S=>ji w.guard tg b w.items r S
def kD{tg iter:Expr}{body:List Stmt}{f:r_->M Wk}{g:Mx}{tb:HK}(hc:X.calm=true)(hi:PId X tg iter f)(hg:Q0 X tg g)(hb:oo X body tb)
  (hs:∀x,foldedSetIterable iter X.env x=pure x:=by intro _;rfl):Oj X (.For tg iter body [] pos) (og f g tb):=by
 intro pins s σ H J r S Q E I m;refine wpAny_For (hi pins s σ H J r S _ E I ?_) hs;unfold og cz at m;cases ef:f r S with
 |bad=>rw[ef] at m;exact m
 |exc c S1=>
  rw[ef] at m;exact fun x s' ⟨H',XI,J',ex,rs⟩=>m x s' σ H' J' XI (I.loc.ext ex) rs ex
 |ok w S1=>
  rw[ef] at m;dsimp only at m;rintro OQ s2 ⟨it,fp,tn,it0,H2,rfl,I2,T,UI,f2,J2,x2,K9,gk,ok⟩;have Ow:∀{H':Hp},(∀b∈fp,H' b=none)->∀b∈fp,LK X pins H' b:=fun hn b hb=>⟨hn b hb,(f2 b hb).2⟩
  refine codeAny_forLoop_any (fun n s'=>∃i Ia H' J' r' S',At X pins Ia H' J' r' S' s'/\Ext H2 J2 H' J'/\tn i s'.heap/\(∀b∈fp,H' b=none)/\Lo w.guard S'/\n=w.items.length-i/\i<=w.items.length/\
   Mw X pins H J (ji w.guard g tb (w.items.drop i) r' S') Q E) ?_ w.items.length ⟨0,σ,H2,J2,r,S1,⟨I2,I.loc.ext x2,K9⟩,Ext.refl _ _,UI,fun b hb=>(f2 b hb).1,gk,by simp,ae7 _,by simpa using m⟩
  rintro n s3 ⟨i,NZ,H3,J3,r3,S3,I3,x3,UJ,UK,WI,rfl,Q2,m3⟩;obtain⟨WJ,P1,Sv⟩:=ok H3 J3 S3 x3 I3.st WI;by_cases L4:i<w.items.length
  ·obtain⟨d,hd⟩:∃d,w.items[i]?=some d:=⟨w.items[i],by simp[L4]⟩;rw[aj4 L4] at m3;have Ms:w.items[i]=d:=by
    rw[ab9 L4] at hd;exact ae5 hd
   rw[Ms] at m3;unfold ji at m3;cases eg:g d r3 with
   |none=>rw[eg] at m3;exact m3.elim
   |some r4=>
    rw[eg] at m3;dsimp only at m3;refine RI (T.item X rfl rfl rfl hc i pins s3 NZ H3 _ I3.inv (Ow UK) UJ (WJ i L4)) fun rr s4 ⟨u,hr,h4⟩=>?_
    subst hr;refine RI h4 fun _ s5 ⟨x,H5,I5,r5,y5,Sw,WK⟩=>?_
    obtain⟨J5,x5,WM,WN⟩:=Sv i x H5 y5 d hd;have WO:=I5.pinned (Ow WK) (T.obj _ _ Sw);refine hg _ s5 NZ H5 J5 r3 S3 d x u _ _ r4 ⟨WO,I3.loc.ext x5,WM⟩ WN r5 eg fun s6 TM H6 J6 I6 x6=>?_
    refine hb _ s6 TM H6 J6 r4 S3 _ _ I6 ?_;have again:∀{r7:r_}{S7:ay4}{Sx:L2.St}{H7:Hp}{J7:aw6}{s7:Shared},At X (pins++ou fp s5.heap) Sx H7 J7 r7 S7 s7->Ext H6 J6 H7 J7->Lo w.guard S7->Mw X pins H J (ji w.guard g tb (w.items.drop (i+1)) r7 S7) Q E->
      ∃m,m<w.items.length-i/\∃i Ia H' J' r' S',At X pins Ia H' J' r' S' s7/\Ext H2 J2 H' J'/\tn i s7.heap/\(∀b∈fp,H' b=none)/\Lo w.guard S'/\m=w.items.length-i/\i<=w.items.length/\Mw X pins H J (ji w.guard g tb (w.items.drop i) r' S') Q E:=by
     intro r7 S7 Sx H7 J7 s7 I7 x7 WQ m7;refine⟨w.items.length-(i+1),by omega,i+1,Sx,H7,J7,r7,S7,⟨I7.inv.Lj,I7.loc,I7.st⟩,((x3.trans x5).trans x6).trans x7,T.keep _ _ _ Sw fun b hb o e=>(I7.inv.pin (b,o) (af3 _ (af3 _ (kz hb e)))).1,fun b hb=>?_,WQ,rfl,L4,m7⟩;obtain⟨o,e,d⟩:=T.obj _ _ Sw b hb;exact(I7.inv.pin (b,o) (af3 _ (af3 _ (kz hb e)))).2.1
    match eb:tb r4 S3 with
    |none=>rw[eb] at m3;exact m3.elim
    |some (.nx r',S')=>
     rw[eb] at m3;dsimp only at m3;by_cases Sy:Lo w.guard S'
     ·rw[ab2 Sy] at m3;exact fun s' Ia H' J' a x=>again a x Sy m3
     ·rw[ab1 Sy] at m3;exact m3.elim
    |some (.ct r',S')=>
     rw[eb] at m3;dsimp only at m3;by_cases Sy:Lo w.guard S'
     ·rw[ab2 Sy] at m3;exact fun s' Ia H' J' a x=>again a x Sy m3
     ·rw[ab1 Sy] at m3;exact m3.elim
    |some (.bk r',S')=>
     rw[eb] at m3;exact fun s' Ia H' J' a x=>m3 s' Ia H' J' ⟨a.inv.Lj,a.loc,a.st⟩ ((((x2.trans x3).trans x5).trans x6).trans x)
    |some (.rt d',S')=>
     rw[eb] at m3;exact fun u s' Ia ⟨v,H',I',rv,g'⟩=>m3 u s' Ia ⟨v,H',I'.Lj,rv,g'.ext (((x2.trans x3).trans x5).trans x6)⟩
    |some (.xc c r',S')=>rw[eb] at m3;exact m3.elim
  ·have e:i=w.items.length:=by omega
   subst e;rw[List.drop_length] at m3;refine RI (T.done X rfl rfl rfl hc _ pins s3 NZ H3 _ I3.inv (Ow UK) UJ P1) fun rr s4 ⟨hr,I4⟩=>?_
   subst hr;exact an6 (m3 s4 NZ H3 J3 ⟨I4,I3.loc,I3.st⟩ (x2.trans x3))
end
section
variable{X:Cx}{tg:Expr}{e:Expr}{fe:ay5}{pos:Pos}
def lI:D->M Wk
 |.tup xs=>M.ret ⟨xs,none⟩
 |.Kh xs=>M.ret ⟨xs,none⟩
 |.ob n=>fun S=>match S[n]? with
  |some (.lst xs)=>.ok ⟨xs,some (n,xs)⟩ S
  |_=>.bad
 |_=>M.bad
def Kt(f:ay5):r_->M Wk:=fun r=>(f r).bind lI
def JQ.tup{K:aw5}{H:Hp}{J:aw6}{a:Addr}{vs:az0}{xs:ay7}{X:Cx}{pins:Hz}{σ:L2.St}{s:Shared}(I:Inv X pins σ H s)(hK:X.K=K)(hq:Kq K H a vs)(rv:l_ K H J xs vs):JQ K (Zr K a) ⟨xs,none⟩ H J:=by
 intro H1 J1 S x rs _;have Ph:=Kq.ext x hq;have JY:=rv.ext x;have hl:=JY.length;refine⟨fun i hi=>⟨vs,vs[i]'(by rw[hl];exact hi),Ph,by simp⟩,⟨vs,Ph,by rw[hl];exact aa1 _⟩,?_⟩;rintro i y H' ⟨rfl,hy⟩ d hd;obtain⟨v,h1,h2⟩:=JY.get hd;have:=hy vs Ph;rw[h1] at this;cases this;exact⟨J1,Ext.refl _ _,rs,h2⟩
def JQ.Kh{K:aw5}{H:Hp}{J:aw6}{a:Addr}{vs:az0}{xs:ay7}(hq:QI K H a vs)(rv:l_ K H J xs vs):JQ K (Ww K a) ⟨xs,none⟩ H J:=by
 intro H1 J1 S x rs _;have Ph:=(QI.ext x hq).sq;have JY:=rv.ext x;have hl:=JY.length;refine⟨fun i hi=>⟨vs,vs[i]'(by rw[hl];exact hi),Ph,by simp⟩,⟨vs,Ph,by rw[hl];exact aa1 _⟩,?_⟩;rintro i y H' ⟨rfl,hy⟩ d hd;obtain⟨v,h1,h2⟩:=JY.get hd;have:=hy vs Ph;rw[h1] at this;cases this;exact⟨J1,Ext.refl _ _,rs,h2⟩
def JQ.lst{K:aw5}{H:Hp}{J:aw6}{a:Addr}{n:Nat}{xs:ay7}(hn:J[n]?=some a):JQ K (Ww K a) ⟨xs,some (n,xs)⟩ H J:=by
 intro H1 J1 S x rs gk;have ZF:J1[n]?=some a:=by
  obtain⟨m,em⟩:=x.pre;rw[em,ab4 (aa2.mp hn).1];exact hn
 obtain⟨vs,h1,JY⟩:=rs.at_ n _ a gk ZF;have Ph:JH K H1 a vs:=JH.of h1;have hl:=JY.length;refine⟨fun i hi=>⟨vs,vs[i]'(by rw[hl];exact hi),Ph,by simp⟩,⟨vs,Ph,by rw[hl];exact aa1 _⟩,?_⟩;rintro i y H' ⟨rfl,hy⟩ d hd;obtain⟨v,h1,h2⟩:=JY.get hd;have:=hy vs Ph;rw[h1] at this;cases this;exact⟨J1,Ext.refl _ _,rs,h2⟩
def d8(he:Ii X e fe):PId X tg e (Kt fe):=by
 intro pins s σ H J r S Q E I m;refine he pins s σ H J r S _ E I ?_;unfold Kt M.bind at m;cases e1:fe r S with
 |bad=>rw[e1] at m;exact m
 |exc c S1=>rw[e1] at m;exact m
 |ok x S1=>
  rw[e1] at m;dsimp only at m;rintro v s1 ⟨vx,H1,I1,r1,J1,ex,rs,rv⟩;cases x with
  |tup xs=>
   obtain⟨a,vs,rfl,hq,HZ⟩:=rv.K_;cases r1;obtain⟨y_,rl,p,hz⟩:=I1.tuple hq;refine ag9 (show s1.heap.IsTuple a y_.toArray from p) (m _ _ ?_);refine⟨s1.heap.objs.size,[s1.heap.objs.size],_,_,H1,rfl,I1.kept (t':=s1.toks) fun b o e=>aa6 _ e,xG a _,⟨_,ac0 _ rfl,rfl,rfl⟩,fun b hb=>?_,J1,ex,rs,trivial,JQ.tup I1 rfl hq HZ⟩;have e:b=s1.heap.objs.size:=by simpa using hb
   subst e;exact I1.Pd (aa1 _) (I1.HH.fresh (aa1 _))
  |Kh xs=>
   obtain⟨a,vs,rfl,hq,HZ⟩:=rv.Nl;cases r1;obtain⟨y_,rl,p,hz⟩:=I1.list hq.sq;refine ao5 p.isList (m _ _ ?_);refine⟨s1.heap.objs.size,[s1.heap.objs.size],_,_,H1,rfl,I1.kept (t':=s1.toks) fun b o e=>aa6 _ e,tm a _,⟨_,ac0 _ rfl,rfl,rfl⟩,fun b hb=>?_,J1,ex,rs,trivial,JQ.Kh hq HZ⟩;have e:b=s1.heap.objs.size:=by simpa using hb
   subst e;exact I1.Pd (aa1 _) (I1.HH.fresh (aa1 _))
  |ob n=>
   obtain⟨a,rfl,hn⟩:=rv.KR;cases r1;obtain⟨c,hc,rc⟩:=rs.L1 hn;simp only[lI] at m;rw[hc] at m;cases c with
   |lst xs=>
    obtain⟨vs,h1,HZ⟩:=rc;obtain⟨y_,rl,p,hz⟩:=I1.list (JH.of h1);refine ao5 p.isList (m _ _ ?_);refine⟨s1.heap.objs.size,[s1.heap.objs.size],_,_,H1,rfl,I1.kept (t':=s1.toks) fun b o e=>aa6 _ e,tm a _,⟨_,ac0 _ rfl,rfl,rfl⟩,fun b hb=>?_,J1,ex,rs,hc,JQ.lst hn⟩;have e:b=s1.heap.objs.size:=by simpa using hb
    subst e;exact I1.Pd (aa1 _) (I1.HH.fresh (aa1 _))
   |_=>exact m.elim
  |_=>exact m.elim
def fw(lo c:Int)(n:Nat):List D:=(range n).map fun(i:Nat)=>D.int (lo+(i:Int) * c)
def Dv(lo c:Int)(n:Nat):It:=⟨fun i _=>i<n,fun i H x H'=>H'=H/\x=.int (lo+(i:Int) * c),fun i _=>n<=i⟩
def vU{lo c:Int}{n i:Nat}{d:D}(h:(fw lo c n)[i]?=some d):d=.int (lo+(i:Int) * c):=by
 unfold fw at h;rw[ac8] at h;cases e:(range n)[i]? with
 |none=>rw[e] at h;cases h
 |some k=>
  rw[e] at h;obtain⟨h2,h3⟩:=aa2.mp e;rw[List.getElem_range] at h3;subst h3;cases h;rfl
def JQ.Tt{K:aw5}{H:Hp}{J:aw6}(lo c:Int)(n:Nat):JQ K (Dv lo c n) ⟨fw lo c n,none⟩ H J:=by
 intro H1 J1 S x rs _;have hl:(fw lo c n).length=n:=by simp[fw]
 refine⟨fun i hi=>by rw[hl] at hi;exact hi,by show n<=_;rw[hl];exact aa1 _,?_⟩;rintro i y H' ⟨rfl,rfl⟩ d hd;refine⟨J1,Ext.refl _ _,rs,?_⟩;rw[vU hd];exact s_.int _ _ _ _
def Aa{P:ay1}{w:ay3}{K:aw5}{tg:Expr}(it:Addr)(lo c:Int)(n:Nat):Turn P w K tg (Dv lo c n) [it] it (fun i h=>IsRangeIter h it (lo+(i:Nat) * c) ((n:Int)-(i:Nat)) c) where
 mem:=by simp
 obj:=fun i h st b hb=>by
  have e:b=it:=by simpa using hb
  subst e;exact⟨_,st,fun v z=>by
   have z':Data.fields _=Data.cell v:=z;cases z'⟩
 keep:=fun i h h' st k=>k it (by simp) _ st
 item:=by
  intro X hP hw hK hc i pins s σ H E I hf st hg;subst hP hw hK;obtain⟨f0,f1,f2,f3,f4,f5⟩:=hf it (by simp);have W:=Walks.range (prog:=X.prog) (w:=X.w) (I.ok.hd hc) it lo c n;refine W.item i s _ _ hg st fun v h' tk hv PC kk=>?_
  obtain⟨t,rfl⟩:=hv;have I1:Inv X pins σ H { s with heap:=h',toks:=tk }:=I.turned (fun b o hb e=>kk b o (by simpa using hb) e) f0 f1 f3 f4 f5;exact⟨_,rfl,Bx (s:={ s with heap:=h',toks:=tk }) (n:="range_iterator") PC rfl rfl (by decide) ⟨.int (lo+i * c),H,I1,⟨t,rfl⟩,⟨rfl,rfl⟩,PC,fun b hb=>(hf b hb).1⟩⟩
 done:=by
  intro X hP hw hK hc i pins s σ H E I hf st hg;subst hP hw hK;obtain⟨f0,f1,f2,f3,f4,f5⟩:=hf it (by simp);exact wpAny_pyNext_range_end (I.ok.hd hc) st (by have:n<=i:=hg;omega) fun h' eb=>⟨rfl,I.turned (t':=s.toks) (fun b o hb e=>eb b o hb e) f0 f1 f3 f4 f5⟩
 self:=fun _ _ _ _ _ st h=>wpAny_pyIter_rangeiter st h
def Ck{pins:Hz}{σ:L2.St}{H:Hp}{s:Shared}{Rr:It->Hp->Prop}{E:aw4}{lo hi c:Int}{t u v:Tok}{tk:Nat}(I:Inv X pins σ H s)(hc:0<c)(UL:small lo hi c=true)
  (q:Rr (Dv lo c (rangeSize lo hi c).toNat) H):wpAny (model X.prog X.w) X.A (pyIter (.ref s.heap.objs.size)) (VC X pins σ tg Rr) E { s with heap:=s.heap.push { cls:=.type "range",data:=.fields #[.int lo t,.int hi u,.int c v] },toks:=tk }:=by
 refine wpAny_pyIter_range (IsRange.new ..) UL ?_;have I1:Inv X pins σ H { s with heap:=s.heap.push { cls:=.type "range",data:=.fields #[.int lo t,.int hi u,.int c v] },toks:=tk }:=I.kept fun b o e=>aa6 _ e
 refine⟨(s.heap.push { cls:=.type "range",data:=.fields #[.int lo t,.int hi u,.int c v] }).objs.size,[(s.heap.push { cls:=.type "range",data:=.fields #[.int lo t,.int hi u,.int c v] }).objs.size],_,_,H,rfl,
  I1.kept (t':=tk) fun b o e=>aa6 _ e,Aa _ lo c (rangeSize lo hi c).toNat,?_,fun b hb=>?_,q⟩
 ·have e1:lo+((0:Nat):Int) * c=lo:=by simp
  have e2:(((rangeSize lo hi c).toNat:Nat):Int)-((0:Nat):Int)=rangeSize lo hi c:=by
   have:0<=rangeSize lo hi c:=by
    unfold rangeSize;rw[ab2 hc];split
    ·have:=Int.ediv_nonneg (a:=hi-lo-1) (b:=c) (by omega) (by omega);omega
    ·omega
   omega
  show IsRangeIter _ _ (lo+((0:Nat):Int) * c) ((((rangeSize lo hi c).toNat:Nat):Int)-((0:Nat):Int)) c;rw[e1,e2];exact ac0 _ rfl
 ·have e:b=(s.heap.push { cls:=.type "range",data:=.fields #[.int lo t,.int hi u,.int c v] }).objs.size:=by simpa using hb
  subst e;exact I1.Pd (aa1 _) (I1.HH.fresh (aa1 _))
def vS(lo hi c:Int):M Wk:=fun S=>Ka ((0<c/\c<1073741824)/\small lo hi c=true) (.ok ⟨fw lo c (rangeSize lo hi c).toNat,none⟩ S) .bad
def wN:D->M Wk
 |.int j=>vS 0 j 1
 |_=>M.bad
def wL:D->D->M Wk
 |.int i,.int j=>vS i j 1
 |_,_=>M.bad
def o6(fa:ay5):r_->M Wk:=fun r=>(fa r).bind wN
def zr(fa fb:ay5):r_->M Wk:=fun r=>(fa r).bind fun x=>(fb r).bind fun y=>wL x y
theorem OX.ext{pins:Hz}{σ:L2.St}{H H1:Hp}{J J1:aw6}{x:R Wk}{Q:aw4}{E:aw4}(e:Ext H J H1 J1)(h:OX X pins σ H J tg x Q E):OX X pins σ H1 J1 tg x Q E:=by
 cases x with
 |ok w S=>exact fun OQ s2 ⟨it,fp,tn,it0,H2,a,b,c,d,f,J2,x2,g⟩=>h OQ s2 ⟨it,fp,tn,it0,H2,a,b,c,d,f,J2,e.trans x2,g⟩
 |exc c S=>exact fun u s' x=>h u s' (x.ext e)
 |bad=>exact h
def VM{es:ax8}{ft:ay6}(ha:NO X es ft){k:List D->M Wk}{pins:Hz}{s:Shared}{σ:L2.St}{H:Hp}{J:aw6}{r:r_}{S:ay4}{Q E:aw4}{Q':List Value->Shared->Prop}(I:At X pins σ H J r S s)
  (m:OX X pins σ H J tg ((ft r).bind k S) Q E) (hk:∀xs S1 s1 H1 J1 vs us,At X pins σ H1 J1 r S1 s1->l_ X.K H1 J1 xs vs->Vals vs us->OX X pins σ H1 J1 tg (k xs S1) Q E->Q' us s1) (pos:Pos) :
  wpAny (model X.prog X.w) X.A (spliced (backTo pos (starEach es X.env))) Q' E s:=by
 refine ha pos pins s σ H J r S _ E I ?_;unfold M.bind at m;cases e1:ft r S with
 |bad=>rw[e1] at m;exact m
 |exc c S1=>rw[e1] at m;exact m
 |ok x S1=>
  rw[e1] at m;intro us s1 ⟨vs,H1,I1,r1,J1,Ks,KL,JY⟩;exact hk x S1 s1 H1 J1 vs us ⟨I1,I.loc.ext Ks,KL⟩ JY r1 (OX.ext Ks m)
def uJ{α:Type}(f:D->M α):List D->M α
 |[x]=>f x
 |_=>M.bad
def Dp{α:Type}(f:D->D->M α):List D->M α
 |[x,y]=>f x y
 |_=>M.bad
def l_.La{K:aw5}{H:Hp}{J:aw6}{x:D}{vs:az0}(h:l_ K H J [x] vs):∃v,vs=[v]/\s_ K H J x v:=by
 unfold l_ at h;obtain⟨v,t,rfl,h1,h2⟩:=h;unfold l_ at h2;subst h2;exact⟨v,rfl,h1⟩
def l_.Q3{K:aw5}{H:Hp}{J:aw6}{x y:D}{vs:az0}(h:l_ K H J [x,y] vs):∃v w,vs=[v,w]/\s_ K H J x v/\s_ K H J y w:=by
 unfold l_ at h;obtain⟨v,t,rfl,h1,h2⟩:=h;obtain⟨w,rfl,h3⟩:=l_.La h2;exact⟨v,w,rfl,h1,h3⟩
def yG{pins:Hz}{σ:L2.St}{H:Hp}{J:aw6}{S:ay4}{lo hi c:Int}{Q E:aw4}(m:OX X pins σ H J tg (vS lo hi c S) Q E)(rs:HB X.K H J S) :
  (0<c/\c<1073741824)/\small lo hi c=true/\∀OQ s2,VC X pins σ tg (fun it H1=>it=Dv lo c (rangeSize lo hi c).toNat/\H1=H) OQ s2->Q OQ s2:=by
 unfold vS Ka at m;split at m
 ·rename_i h;refine⟨h.1,h.2,fun OQ s2 ⟨it,fp,tn,it0,H2,a,b,c,d,f,e1,e2⟩=>?_⟩;subst e1 e2;exact m OQ s2 ⟨it,fp,tn,_,_,a,b,c,d,f,J,Ext.refl _ _,rs,trivial,JQ.Tt _ _ _⟩
 ·exact m.elim
def my{a:Expr}{p:Pos}{fa:ay5}(hg:Gl X "range")(hm:X.mg "range"=none)(ha:Ii X a fa)(hs:starEach [a] X.env=[(false,eval a X.env)]:=by rfl):PId X tg (.Call (.Name "range" p) [a] [] pos) (o6 fa):=by
 intro pins s σ H J r S Q E I m;have m':OX X pins σ H J tg ((aa fa ai r).bind (uJ wN) S) Q E:=by
  unfold o6 M.bind at m;unfold aa ai M.bind M.ret;cases e1:fa r S<;>(rw[e1] at m;exact m)
 refine Call_ (jL I.inv hg hm boot_range (ah2 (VM (ae ha ag (by rw[hs];rfl)) I m' (fun xs S1 s1 H1 J1 vs us I1 rv r1 m1=>?_) pos) hs rfl))
 match xs,m1,rv with
 |[.int j],m1,rv=>
  obtain⟨v,rfl,h1⟩:=rv.La;cases h1.IT;cases r1 with
  |cons q qq=>
   cases qq;obtain⟨t,rfl⟩:=q;obtain⟨hc,UL,k⟩:=yG m1 I1.st;exact call_range_1 (RI (Ck I1.inv hc.1 UL ⟨rfl,rfl⟩) k)
 |[],m1,rv=>exact m1.elim
 |[.Hw],m1,rv=>exact m1.elim
 |[.bl _],m1,rv=>exact m1.elim
 |[.str _],m1,rv=>exact m1.elim
 |[.tup _],m1,rv=>exact m1.elim
 |[.Kh _],m1,rv=>exact m1.elim
 |[.ob _],m1,rv=>exact m1.elim
 |[.xn _],m1,rv=>exact m1.elim
 |_ :: _ :: _,m1,rv=>exact m1.elim
def yn{a b:Expr}{p:Pos}{fa fb:ay5}(hg:Gl X "range")(hm:X.mg "range"=none)(ha:Ii X a fa)(hb:Ii X b fb)(hs:starEach [a,b] X.env=[(false,eval a X.env),(false,eval b X.env)]:=by rfl)
  (M7:starEach [b] X.env=[(false,eval b X.env)]:=by rfl):PId X tg (.Call (.Name "range" p) [a,b] [] pos) (zr fa fb):=by
 intro pins s σ H J r S Q E I m;have m':OX X pins σ H J tg ((aa fa (aa fb ai) r).bind (Dp wL) S) Q E:=by
  unfold zr M.bind at m;unfold aa ai M.bind M.ret;cases e1:fa r S with
  |ok x S1=>
   rw[e1] at m;dsimp only at m ⊢;cases e2:fb r S1<;>(rw[e2] at m;exact m)
  |exc c S1=>rw[e1] at m;exact m
  |bad=>rw[e1] at m;exact m
 refine Call_ (jL I.inv hg hm boot_range (ah2 (VM (ae ha (ae hb ag (by rw[M7];rfl)) (by rw[hs,M7])) I m' (fun xs S1 s1 H1 J1 vs us I1 rv r1 m1=>?_) pos) (by rw[hs,M7]) (by rw[M7];rfl)))
 match xs,m1,rv with
 |[x,y],m1,rv=>
  obtain⟨v,w,rfl,h1,h2⟩:=rv.Q3;cases x with
  |int i=>
   cases y with
   |int j=>
    cases h1.IT;cases h2.IT;obtain⟨u1,u2,rfl,q1,q2⟩:=Vals.two r1;obtain⟨t,rfl⟩:=q1;obtain⟨t',rfl⟩:=q2;obtain⟨hc,UL,k⟩:=yG m1 I1.st;exact call_range_2 (RI (Ck I1.inv hc.1 UL ⟨rfl,rfl⟩) k)
   |_=>exact m1.elim
  |_=>exact m1.elim
 |[],m1,rv=>exact m1.elim
 |[_],m1,rv=>exact m1.elim
 |_ :: _ :: _ :: _,m1,rv=>exact m1.elim
end
def P2(X:Cx)(scope:Scope)(N':ax0)(cl:List (Str×Addr))(C:Addr)(s2:Shared)(H2:Hp)(fp:aw6):Cx where
 prog:=X.prog
 w:=X.w
 K:=X.K
 mg:=X.mg
 base:=X.base
 A:=X.A
 N:=N'
 JB:=s2
 PR:=H2
 env:=compEnvC scope cl C X.env
 outer:=X.stack
 stack:=X.stack
 ex:=fp
 fn:=fun _=>false
 calm:=X.calm
 pn:=[]
 xe:=fun _ _=>False
def ic{α:Type}(own:Nat)(caps:ax4)(r:List (Option α)):List (Option α):=replicate own none++caps.map fun j=>(r[j]?).join
def LF(X:Cx)(scope:Scope)(cl:List (Str×Addr)):List Nat->List Str->Prop
 |[],[]=>True
 |j :: js,x :: xs=>(X.N[j]?=some x/\(X.env.kindOf x=some .cell\/X.env.kindOf x=some .free)/\((relabel scope X.env).names.lookup x=some .cell\/(relabel scope X.env).names.lookup x=some .free)/\cl.lookup x=X.env.cells.lookup x)/\LF X scope cl js xs
 |_,_=>False
theorem LF.get{X:Cx}{scope:Scope}{cl:List (Str×Addr)}:∀{js:ax4}{xs:ax0}{k:Nat}{j:Nat},LF X scope cl js xs->js[k]?=some j->∃x,xs[k]?=some x/\X.N[j]?=some x/\
  (X.env.kindOf x=some .cell\/X.env.kindOf x=some .free)/\((relabel scope X.env).names.lookup x=some .cell\/(relabel scope X.env).names.lookup x=some .free)/\cl.lookup x=X.env.cells.lookup x
 |[],_,_,_,_,e=>by simp at e
 |_ :: _,[],_,_,h,_=>h.elim
 |j :: js,x :: xs,0,j',h,e=>by
  simp at e;subst e;obtain⟨⟨a,b,c,d⟩,_⟩:=h;exact⟨x,rfl,a,b,c,d⟩
 |j :: js,x :: xs,k+1,j',h,e=>by
  obtain⟨_,h⟩:=h;obtain⟨y,a,b⟩:=LF.get (k:=k) h (by simpa using e);exact⟨y,by simpa using a,b⟩
theorem LF.len{X:Cx}{scope:Scope}{cl:List (Str×Addr)}:∀{js:ax4}{xs:ax0},LF X scope cl js xs->xs.length=js.length
 |[],[],_=>rfl
 |[],_ :: _,h=>h.elim
 |_ :: _,[],h=>h.elim
 |j :: js,x :: xs,h=>by rw[ab8,ab8,LF.len h.2]
def Kr.VN{K:aw5}{H:Hp}{J:aw6}{r:r_}{σ:L2.St}(h:Kr K H J r σ)(own:Nat)(caps:ax4):Kr K H J (ic own caps r) (ic own caps σ) where
 len:=by simp[ic]
 at_:=fun i d q=>by
  unfold ic at q ⊢;by_cases hi:i<own
  ·rw[ab4 (by simpa using hi),al0] at q;split at q<;>cases q
  ·rw[ad5 (by simpa using hi)] at q ⊢;simp only[am6] at q ⊢;rw[ac8] at q ⊢;cases e:caps[i-own]? with
   |none=>rw[e] at q;cases q
   |some j=>
    rw[e] at q;simp only[av8,al7] at q ⊢;obtain⟨v,h1,h2⟩:=h.at_ j d (by
     cases e2:r[j]? with
     |none=>rw[e2] at q;cases q
     |some o=>rw[e2] at q;simp at q;rw[q])
    exact⟨v,by rw[h1];rfl,h2⟩
def oM{X:Cx}{cl:List (Str×Addr)}(Ox:∀p∈cl,X.env.cells.lookup p.1=some p.2){x:Str}{c:Addr}(h:cl.lookup x=some c):X.env.cells.lookup x=some c:=by
 induction cl with
 |nil=>simp at h
 |cons p r ih=>
  obtain⟨y,b⟩:=p;rw[ai9] at h;cases e:x == y with
  |true=>
   rw[e] at h;simp at h;subst h;have:=ah7.mp e;subst this;exact Ox (x,b) (by simp)
  |false=>
   rw[e] at h;exact ih (fun p hp=>Ox p (aa9 _ hp)) h
def n6{scope:Scope}{env:Env}{x:Str}{k:NameKind}(hk:k=.cell\/k=.free)(Im:∀y∈scope.names,y.2≠.cell)(h:(relabel scope env).names.lookup x=some k):∃p∈scope.names,p.1=x/\p.2=.free:=by
 unfold relabel at h;dsimp only at h
 generalize scope.names=ns at h Im
 induction ns with
 |nil=>simp at h
 |cons p r ih=>
  obtain⟨n,kk⟩:=p;rw[ac2] at h;by_cases hc:(kk == NameKind.free && env.scope.kind == .function && env.kindOf n == some .cell)=true
  ·simp only[hc,ao1,ai9] at h;cases e:x == n with
   |true=>
    have hx:=ah7.mp e;simp only[ai8,ah7] at hc;exact⟨(n,kk),by simp,hx.symm,hc.1.1⟩
   |false=>
    rw[e] at h;obtain⟨p,hp,q⟩:=ih h fun y hy=>Im y (aa9 _ hy)
    exact⟨p,aa9 _ hp,q⟩
  ·rw[ab1 hc,ai9] at h;cases e:x == n with
   |true=>
    rw[e] at h;simp at h;have hx:=ah7.mp e;rcases hk with rfl|rfl
    ·exact absurd h (Im (n,kk) (by simp))
    ·exact⟨(n,kk),by simp,hx.symm,h⟩
   |false=>
    rw[e] at h;obtain⟨p,hp,q⟩:=ih h fun y hy=>Im y (aa9 _ hy)
    exact⟨p,aa9 _ hp,q⟩
section
variable{X:Cx}{pins:Hz}{σ:L2.St}{H2:Hp}{s2:Shared}{scope:Scope}{own:ax0}{capN:ax0}{caps:ax4}{cl:List (Str×Addr)}{fp:aw6}
structure OY(X:Cx)(scope:Scope)(own capN:ax0)(caps:ax4)(cl:List (Str×Addr)):Prop where
 UM:closureFor scope X.env=pure cl
 cells:∀p∈cl,X.env.cells.lookup p.1=some p.2
 frees:scope.names.all (fun p=>p.2 != .free || (cl.lookup p.1).isSome)=true
 Oy:∀y∈scope.names,y.2≠.cell
 kind:scope.kind=.function
 names:∀x∈scope.names,x.2=.local->scope.names.lookup x.1=some .local
 VN:LF X scope cl caps capN
 nd:(own++capN).Nodup
def Ay(B:OY X scope own capN caps cl)(I:Inv X pins σ H2 s2)(hf:∀b∈fp,LK X pins H2 b)(ho:∀b∈fp,∃o,s2.heap.get? b=some o){h':Heap}{tk:Nat}
  (KQ:h'.Ns (s2.heap.objs.size+1) fun _=>none) (WR:h'.get? s2.heap.objs.size=some { cls:=.type "list",data:=.seq #[] }) (keep:∀b o,s2.heap.get? b=some o->h'.get? b=some o) :
  Inv (P2 X scope (own++capN) cl (s2.heap.objs.size+1) s2 H2 fp) [] (ic own.length caps σ) (upd H2 s2.heap.objs.size (.lst [])) { s2 with heap:=h',toks:=tk }:=by
 have Pj:H2 s2.heap.objs.size=none:=I.HH.fresh (aa1 _);have RN:∀{b:Addr}{o:Obj},s2.heap.get? b=some o->b<s2.heap.objs.size:=fun e=>ac6 e
 have Sz:∀x c,X.env.cells.lookup x=some c->c<s2.heap.objs.size:=fun x c e=>by
  obtain⟨v,hv⟩:=I.cell x c e;obtain⟨o,ho,_⟩:=hv;exact RN ho
 have WS:JG X.prog X.w (upd H2 s2.heap.objs.size (.lst [])) h':=I.HH.laid keep (aa1 _) ⟨ae7 _,[],0,.nil,WR⟩;refine⟨?_,rfl,I.bare,?_,?_,?_,?_,?_,?_,WS,?_⟩
 ·refine⟨I.ok.mod,B.kind,I.ok.glob,I.ok.blt,ad9 _,?_,?_,?_,I.ok.hd,I.ok.frames,.inl rfl,?_,I.bs,ab5 I.ok.PA I.sz,?_,?_,I.stack,I.Nh⟩
  ·exact fun x y c h1 h2=>I.ok.inj x y c (oM B.cells h1) (oM B.cells h2)
  ·intro x hx;have:∃p∈scope.names,p.1=x/\p.2=.free:=by
    rcases hx with hx|hx
    ·exact n6 (.inl rfl) B.Oy hx
    ·exact n6 (.inr rfl) B.Oy hx
   obtain⟨p,hp,rfl,OP⟩:=this;have:=(List.all_eq_true.mp B.frees) p hp;rw[OP] at this;simp only[bne_self_eq_false,Bool.false_or] at this;exact Option.isSome_iff_exists.mp this
  ·exact fun x c h=>by cases h
  ·intro b hb;obtain⟨o,Ol⟩:=ho b hb;refine⟨ad0 (ae3 (RN Ol)),fun x c h=>(hf b hb).2.2.2.2.1 x c (oM B.cells h)⟩
  ·intro b o hb UN;obtain⟨_,_,_,hx,_⟩:=hf b UN;rcases hx with hx|hx
   ·exact I.ok.Pb b o hb hx
   ·exact absurd (ac1 (ac6 hb) (ab5 I.ok.PA hx)) (ak3 _)
  ·intro b hb QZ;obtain⟨_,hl,hfs,_⟩:=hf b hb;rcases ac7.mp (I.Ng b QZ) with e|e
   ·exact hl e
   ·exact hfs e
 ·exact(Un.laid (o:=.lst []) keep (aa1 _) Pj)
 ·refine⟨_,KQ,fun i x v hN hs hv=>?_⟩;unfold ic at hs;by_cases hi:i<own.length
  ·rw[ab4 (by simpa using hi),al0] at hs;split at hs<;>cases hs
  ·rw[ad5 (by simpa using hi)] at hs;have SA:(own++capN)[i]?=some x:=hN;rw[ad5 (by omega)] at SA;simp only[am6] at hs;rw[ac8] at hs;cases e:caps[i-own.length]? with
   |none=>rw[e] at hs;cases hs
   |some j=>
    rw[e] at hs;simp only[av8,al7] at hs;obtain⟨y,hy,hNj,ZG,hkn,Ox⟩:=B.VN.get e;rw[SA] at hy;cases hy;have hσ:σ[j]?=some (some v):=by
     cases e2:σ[j]? with
     |none=>rw[e2] at hs;cases hs
     |some o=>rw[e2] at hs;simp at hs;rw[hs]
    obtain⟨m,hm,hl⟩:=I.loc;obtain⟨u,ru,look⟩:=hl j x v hNj hσ (.inr ZG);rcases look with ⟨hk,_⟩|⟨_,c,hc,Im⟩
    ·rcases ZG with hk'|hk'<;>(rw[hk] at hk';cases hk')
    ·refine⟨u,ru,.inr ⟨hkn,c,Ox.trans hc,?_⟩⟩;obtain⟨o,ho,hd⟩:=Im;exact⟨o,keep c o ho,hd⟩
 ·intro x c h;obtain⟨v,o,ho,hd⟩:=I.cell x c (oM B.cells h);exact⟨v,o,keep c o ho,hd⟩
 ·show upd H2 s2.heap.objs.size (.lst []) (s2.heap.objs.size+1)=none;rw[bf (ar4 _)];exact I.HH.fresh (ad9 _)
 ·intro x c h;have h1:=oM B.cells h;rw[bf (ad0 (Sz x c h1))];exact I.J9 x c h1
 ·intro p hp;cases hp
 ·unfold ic;simp only[aa8,am6,aa7];show own.length+caps.length=(own++capN).length;rw[aa8,B.VN.len]
end
def TN(X:Cx)(ifs:ax8)(f:ay8):Prop:=∀(pins:Hz) (s:Shared) (σ:L2.St) (H:Hp) (J:aw6) (r:r_) (S:ay4) (Q:ax5) (E:aw4),
 At X pins σ H J r S s->Oh X pins σ H J (f r S) Q E->wpAny (model X.prog X.w) X.A (forIn ifs true fun c b=>if b=true then do let ok <-isTrue c X.env (eval c X.env);pure (ForInStep.yield ok) else pure (ForInStep.yield b)) Q E s
def lA{X:Cx}:TN X [] (fun _=>M.ret true):=fun pins s σ H J r S Q E I m=>wpAny_tests_nil (m.Ku I)
def A8{X:Cx}{c:Expr}{f:ay8}(h:OW X c f):TN X [c] f:=fun pins s σ H J r S Q E I m=>wpAny_tests_one (h pins s σ H J r S Q E I m)
open Classical in
def dZ(tg:Mx)(ti:ay8)(fe:ay5)(n:Nat)(g:Option (Nat×List D))(r0:r_):List D->List Cell->R Unit
 |[],S=>.ok () S
 |x :: xs,S=>match tg x r0 with
  |none=>.bad
  |some r1=>match ti r1 S with
   |.ok false S1=>if Lo g S1 then dZ tg ti fe n g r0 xs S1 else .bad
   |.ok true S1=>(match fe r1 S1 with
    |.ok d S2=>(match S2[n]? with
     |some (.lst ys)=>Ka (ys.length<sizeLine/\Lo g (S2.set n (.lst (ys++[d])))) (dZ tg ti fe n g r0 xs (S2.set n (.lst (ys++[d])))) .bad
     |_=>.bad)
    |_=>.bad)
   |_=>.bad
def dS(f:r_->M Wk)(tg:Mx)(ti:ay8)(fe:ay5)(own:Nat)(caps:ax4):r_->M D:=fun r=>(f r).bind fun w S=>match dZ tg ti fe S.length w.guard (ic own caps r) w.items (S++[.lst []]) with
 |.ok _ S'=>.ok (.ob S.length) S'
 |_=>.bad
def qo(own:Nat)(tg:Mx):Prop:=∀d r r',tg d r=some r'->r'.length=r.length/\∀i,own<=i->r'[i]?=r[i]?
def ip{own i:Nat}(h:i<own):qo own (gN i):=fun d r r' e=>by
 cases e;exact⟨by simp,fun j hj=>by rw[ag6 (by omega)]⟩
theorem wI{own:Nat}:∀{is:ax4},(∀i∈is,i<own)->∀{ds:ay7}{r r':r_},RM is ds r=some r'->r'.length=r.length/\∀i,own<=i->r'[i]?=r[i]?
 |[],_,[],r,r',e=>by cases e;exact⟨rfl,fun _ _=>rfl⟩
 |[],_,_ :: _,r,r',e=>by cases e
 |i :: is,h,[],r,r',e=>by cases e
 |i :: is,h,d :: ds,r,r',e=>by
  obtain⟨a,b⟩:=wI (is:=is) (fun j hj=>h j (aa9 _ hj)) (show RM is ds (r.set i (some d))=some r' from e);refine⟨by rw[a];simp,fun j hj=>?_⟩;have:=h i (by simp);rw[b j hj,ag6 (by omega)]
def Dx{own:Nat}{is:ax4}(h:∀i∈is,i<own):qo own (gT is):=fun d r r' e=>by
 cases d with
 |tup ds=>exact wI h e
 |_=>cases e
def Kr.own{K:aw5}{H:Hp}{J:aw6}{own:Nat}{caps:ax4}{r r1:r_}{σ:L2.St}{tg:Mx}{d:D}(ho:qo own tg)(e:tg d (ic own caps r)=some r1)(h:Kr K H J r1 σ):Kr K H J (ic own caps r) σ:=by
 obtain⟨a,b⟩:=ho _ _ _ e;refine⟨by rw[<-a];exact h.len,fun i d' q=>?_⟩;by_cases hi:i<own
 ·unfold ic at q;rw[ab4 (by simpa using hi),al0] at q;split at q<;>cases q
 ·exact h.at_ i d' (by rw[b i (by omega)];exact q)
section
variable{X:Cx}{elt target iter:Expr}{ifs:ax8}{scope:Scope}{pos:Pos}{tg:Mx}{ti:ay8}{fe:ay5}{own:Nat}{caps:ax4}
def zX(hc:X.calm=true)(hg:Q0 X target tg)(ht:TN X ifs ti)(he:Ii X elt fe)(Oz:qo own tg){r:r_}{w:Wk}{it:Addr}{fp:aw6}{tn:Nat->Heap->Prop}{it0:It}{H0:Hp}{J0:aw6}{n:Nat}{acc:Addr}
  (T:Turn X.prog X.w X.K target it0 fp it tn) (ok:JQ X.K it0 w H0 J0) (Pj:J0[n]?=some acc) {RR:Result->Shared->Prop}{σ:L2.St}{S:ay4}{s:Shared}{S':ay4}(I:At X [] σ H0 J0 (ic own caps r) S s)
  (RO:∀b∈fp,LK X [] H0 b) (st:tn 0 s.heap) (gk:Lo w.guard S) (hr:dZ tg ti fe n w.guard (ic own caps r) w.items S=.ok () S')
  (hR:∀s' Ia H' J',Inv X [] Ia H' s'->HB X.K H' J' S'->Ext H0 J0 H' J'->RR (.ok .next) s') :
  codeAny (model X.prog X.w) X.A (.compLoop (.ListComp elt [⟨target,iter,ifs,0⟩] scope pos) 0 (.ref it) (.ref acc) X.env) RR s:=by
 have Ow:∀{H':Hp},(∀b∈fp,H' b=none)->∀b∈fp,LK X [] H' b:=fun hn b hb=>⟨hn b hb,(RO b hb).2⟩
 refine codeAny_loop rfl (fun k s'=>∃i Ia H' J' S1,At X [] Ia H' J' (ic own caps r) S1 s'/\Ext H0 J0 H' J'/\tn i s'.heap/\(∀b∈fp,H' b=none)/\Lo w.guard S1/\k=w.items.length-i/\i<=w.items.length/\
  dZ tg ti fe n w.guard (ic own caps r) (w.items.drop i) S1=.ok () S') ?_ w.items.length ⟨0,σ,H0,J0,S,I,Ext.refl _ _,st,fun b hb=>(RO b hb).1,gk,by simp,ae7 _,by simpa using hr⟩
 rintro k s3 ⟨i,NZ,H3,J3,S3,I3,x3,UJ,UK,WI,rfl,Q2,m3⟩;show wpAny _ X.A ((compTurn (.ListComp elt [⟨target,iter,ifs,0⟩] scope pos) 0 (.ref it) (.ref acc) X.env).onRaise (fun x=>do noteFrame x X.env;theTreesLotGoes x)) _ _ s3;refine wpAny_noted ?_;rw[compTurn_list];refine aa0 (wpAny_standAt (aa0 ?_));obtain⟨WJ,P1,Sv⟩:=ok H3 J3 S3 x3 I3.st WI;by_cases L4:i<w.items.length
 ·obtain⟨d,hd⟩:∃d,w.items[i]?=some d:=⟨w.items[i],by simp[L4]⟩;rw[aj4 L4] at m3;have Ms:w.items[i]=d:=by
   rw[ab9 L4] at hd;exact ae5 hd
  rw[Ms] at m3;unfold dZ at m3;cases eg:tg d (ic own caps r) with
  |none=>rw[eg] at m3;cases m3
  |some r4=>
   rw[eg] at m3;dsimp only at m3;refine RI (T.item X rfl rfl rfl hc i [] s3 NZ H3 _ I3.inv (Ow UK) UJ (WJ i L4)) fun rr s4 ⟨u,hr,h4⟩=>?_
   subst hr;refine aa0 (RI h4 fun _ s5 ⟨x,H5,I5,r5,y5,Sw,WK⟩=>?_);obtain⟨J5,x5,WM,WN⟩:=Sv i x H5 y5 d hd;have WO:=I5.pinned (Ow WK) (T.obj _ _ Sw);refine aa0 (hg _ s5 NZ H5 J5 (ic own caps r) S3 d x u _ _ r4 ⟨WO,I3.loc.ext x5,WM⟩ WN r5 eg fun s6 TM H6 J6 I6 x6=>?_);have back:∀{Sx:L2.St}{H7:Hp}{J7:aw6}{S7:ay4}{s7:Shared},At X ([]++ou fp s5.heap) Sx H7 J7 r4 S7 s7->Ext H6 J6 H7 J7->Lo w.guard S7->dZ tg ti fe n w.guard (ic own caps r) (w.items.drop (i+1)) S7=.ok () S'->
     ∃m,m<w.items.length-i/\∃i Ia H' J' S1,At X [] Ia H' J' (ic own caps r) S1 s7/\Ext H0 J0 H' J'/\tn i s7.heap/\(∀b∈fp,H' b=none)/\Lo w.guard S1/\m=w.items.length-i/\i<=w.items.length/\
      dZ tg ti fe n w.guard (ic own caps r) (w.items.drop i) S1=.ok () S':=by
    intro Sx H7 J7 S7 s7 I7 x7 WQ m7;refine⟨w.items.length-(i+1),by omega,i+1,Sx,H7,J7,S7,⟨I7.inv.Lj,Kr.own Oz eg I7.loc,I7.st⟩,((x3.trans x5).trans x6).trans x7,T.keep _ _ _ Sw fun b hb o e=>(I7.inv.pin (b,o) (af3 _ (af3 _ (kz hb e)))).1,fun b hb=>?_,WQ,rfl,L4,m7⟩;obtain⟨o,e,d⟩:=T.obj _ _ Sw b hb;exact(I7.inv.pin (b,o) (af3 _ (af3 _ (kz hb e)))).2.1
   refine aa0 (ht _ s6 TM H6 J6 r4 S3 _ _ I6 ?_);cases et:ti r4 S3 with
   |bad=>rw[et] at m3;cases m3
   |exc c S4=>rw[et] at m3;cases m3
   |ok b S4=>
    rw[et] at m3;rintro s7 ⟨H7,I7,J7,x7,rs7⟩;have A7:At X ([]++ou fp s5.heap) TM H7 J7 r4 S4 s7:=⟨I7,I6.loc.ext x7,rs7⟩;cases b with
    |false=>
     dsimp only at m3;by_cases g4:Lo w.guard S4
     ·rw[ab2 g4] at m3;exact aa4 ⟨rfl,back A7 x7 g4 m3⟩
     ·rw[ab1 g4] at m3;cases m3
    |true=>
     dsimp only at m3;refine aa0 (aa0 (he _ s7 TM H7 J7 r4 S4 _ _ A7 ?_));cases ee:fe r4 S4 with
     |bad=>rw[ee] at m3;cases m3
     |exc c S5=>rw[ee] at m3;cases m3
     |ok dv S5=>
      rw[ee] at m3;rintro v s8 ⟨vx,H8,I8,r8,J8,x8,ZH,rv8⟩;dsimp only at m3;have RP:J8[n]?=some acc:=by
       obtain⟨m1,e1⟩:=((((x3.trans x5).trans x6).trans x7).trans x8).pre;rw[e1,ab4 (aa2.mp Pj).1];exact Pj
      obtain⟨c8,hc8,rc8⟩:=ZH.L1 RP;rw[hc8] at m3;cases c8 with
      |lst ys=>
       dsimp only at m3;by_cases g5:ys.length<sizeLine/\Lo w.guard (S5.set n (.lst (ys++[dv])))
       ·rw[bY g5] at m3;obtain⟨vs,ZI,HZ⟩:=rc8;refine aa0 (ad6 (ui (X:=X.HV (notedBy (model X.prog X.w) X.A X.env fun e s'=>RR (.error e) s')) _ s8 TM H8 (.ref acc) [vx] (.ref acc) [v] (fun v' H9=>v'=.Hw/\H9=upd H8 acc (.lst (vs++[vx]))) (I8.HV _) rfl (.cons r8 .nil)
         ⟨acc,vs,vx,rfl,rfl,ZI,by rw[HZ.length];exact g5.1,rfl,rfl⟩) (fun v' s9 q=>?_) fun _ _ z=>z)
        obtain⟨v9,H9,I9,r9,rfl,rfl⟩:=q;have x9:Ext H8 J8 (upd H8 acc (.lst (vs++[vx]))) J8:=Ext.write ZI rfl;have rs9:HB X.K (upd H8 acc (.lst (vs++[vx]))) J8 (S5.set n (.lst (ys++[dv]))):=ZH.write RP ⟨_,bF,(HZ.ext x9).append (.one (rv8.ext x9))⟩;exact aa4 (aa4 ⟨rfl,back ⟨I9.HR,(A7.loc.ext x8).ext x9,rs9⟩ ((x7.trans x8).trans x9) g5.2 m3⟩)
       ·rw[uY g5] at m3;cases m3
      |_=>cases m3
 ·have e:i=w.items.length:=by omega
  subst e;rw[List.drop_length] at m3;cases m3;refine RI (T.done X rfl rfl rfl hc _ [] s3 NZ H3 _ I3.inv (Ow UK) UJ P1) fun rr s4 ⟨hr,I4⟩=>?_
  subst hr;exact aa4 (hR s4 NZ H3 J3 I4 I3.st x3)
end
section
variable{X:Cx}{elt target iter:Expr}{ifs:ax8}{scope:Scope}{pos:Pos}{f:r_->M Wk}{tg:Mx}{ti:ay8}{fe:ay5}{own capN:ax0}{caps:ax4}{cl:List (Str×Addr)}
structure CompEnd(X:Cx)(pins:Hz)(σ:L2.St)(H:Hp)(J:aw6)(n:Nat)(S':ay4)(D C:Addr)(s':Shared):Prop where
 ex:∃H' J',Inv X pins σ H' s'/\Ext H J H' J'/\HB X.K H' J' S'/\J'[n]?=some D/\H' C=none/\C≠X.env.locals/\X.JB.heap.objs.size<=C/\(∀x c,X.env.cells.lookup x=some c->c≠C)/\∀p∈X.pn++pins,p.1≠C
 ns:∃m,s'.heap.Ns C m
def tG(B:OY X scope own capN caps cl)(hc:X.calm=true)(Oz:qo own.length tg)
  (hB:∀(C:Addr) (s2:Shared) (H2:Hp) (fp:aw6),Q0 (P2 X scope (own++capN) cl C s2 H2 fp) target tg/\TN (P2 X scope (own++capN) cl C s2 H2 fp) ifs ti/\Ii (P2 X scope (own++capN) cl C s2 H2 fp) elt fe)
  {pins:Hz}{s2:Shared}{σ:L2.St}{H2:Hp}{J2:aw6}{r:r_}{S:ay4}{w:Wk}{S':ay4}{RR:Value->Addr->Result->Shared->Prop}{E:aw4}
  {it:Addr}{fp:aw6}{tn:Nat->Heap->Prop}{it0:It}(I2:At X pins σ H2 J2 r S s2) (T:Turn X.prog X.w X.K target it0 fp it tn) (ok:JQ X.K it0 w H2 J2) (RO:∀b∈fp,LK X pins H2 b) (st:tn 0 s2.heap) (gk:Lo w.guard S)
  (hr:dZ tg ti fe S.length w.guard (ic own.length caps r) w.items (S++[.lst []])=.ok () S')
  (hR:∀D C s',CompEnd X pins σ H2 J2 S.length S' D C s'->RR (.ref D) C (.ok .next) s') :
  wpAny (model X.prog X.w) X.A (newList []) (fun acc WT=>wpAny (model X.prog X.w) X.A (newFunctionEnv scope X.env.globals cl [] X.env.qual none .none (some X.env)) (fun UO WU=>
   codeAny (model X.prog X.w) X.A (.compStart (.ListComp elt [⟨target,iter,ifs,0⟩] scope pos) 0 (.ref it) acc { UO with scope:=relabel scope X.env }) (RR acc UO.locals) WU) E WT) E s2:=by
 refine ad1 (wpAny_newFunctionEnv B.Oy (by intro y hy;simp at hy) (fun Pk OA Nm=>?_) B.kind);dsimp only at OA Nm ⊢;have hsz:(s2.heap.push { cls:=.type "list",dict:=none,data:=.seq ([]:aw7).toArray }).objs.size=s2.heap.objs.size+1:=by rw[aj6]
 rw[hsz] at OA Nm ⊢;have keep:∀b o,s2.heap.get? b=some o->Pk.get? b=some o:=fun b o e=>
  Nm.extBut b o (ad0 (ae3 (ac6 e))) (aa6 _ (aa6 _ e))
 have hl:Pk.get? s2.heap.objs.size=some { cls:=.type "list",data:=.seq #[] }:=Nm.extBut _ _ (ad0 (ag2 _)) (aa6 _ (ac0 _ rfl));have ZJ:∀b∈fp,∃o,s2.heap.get? b=some o:=fun b hb=>let ⟨o,e,_⟩:=T.obj _ _ st b hb;⟨o,e⟩
 have TQ:H2 s2.heap.objs.size=none:=I2.inv.HH.fresh (aa1 _);have IB:=Ay (tk:=s2.toks+([]:List (Str×Value)).length) B I2.inv RO ZJ (by simpa using OA) hl keep;have ZK:tn 0 Pk:=T.keep _ _ _ st fun b hb o e=>keep b o e
 obtain⟨hg,ht,he⟩:=hB (s2.heap.objs.size+1) s2 H2 fp;have x0:Ext H2 J2 (upd H2 s2.heap.objs.size (.lst [])) (J2++[s2.heap.objs.size]):=(Ext.new TQ).snoc _;have Pl:HB X.K (upd H2 s2.heap.objs.size (.lst [])) (J2++[s2.heap.objs.size]) (S++[.lst []]):=I2.st.push TQ ⟨[],bF,.nil⟩;have loop:codeAny (model X.prog X.w) X.A (.compLoop (.ListComp elt [⟨target,iter,ifs,0⟩] scope pos) 0 (.ref it) (.ref s2.heap.objs.size) (compEnvC scope cl (s2.heap.objs.size+1) X.env)) (RR (.ref s2.heap.objs.size) (s2.heap.objs.size+1))
   { s2 with heap:=Pk,toks:=s2.toks+([]:List (Str×Value)).length }:=by
  refine zX (X:=P2 X scope (own++capN) cl (s2.heap.objs.size+1) s2 H2 fp) (own:=own.length) (caps:=caps) (r:=r) (w:=w) (n:=S.length) hc hg ht he Oz (H0:=upd H2 s2.heap.objs.size (.lst [])) (J0:=J2++[s2.heap.objs.size]) (it0:=it0) (fp:=fp) (tn:=tn) T
   ?_ ?_ (S:=S++[Cell.lst []]) ⟨IB,(I2.loc.ext x0).VN _ _,Pl⟩ ?_ ZK ?_ hr ?_
  ·exact fun H J S1 x rs g=>ok H J S1 (x0.trans x) rs g
  ·rw[<-I2.st.len];simp
  ·intro b hb;obtain⟨o,Ol⟩:=ZJ b hb;obtain⟨f0,f1,f2,f3,f4,f5⟩:=RO b hb;refine⟨by rw[bf (ad0 (ac6 Ol))];exact f0,ad0 (ae3 (ac6 Ol)),?_,.inl hb,fun x c h=>f4 x c (oM B.cells h),fun p hp=>by cases hp⟩;intro QZ;rcases ac7.mp (I2.inv.Ng b QZ) with e|e
   ·exact f1 e
   ·exact f2 e
  ·cases eg:w.guard with
   |none=>trivial
   |some q=>
    obtain⟨k,xs⟩:=q;rw[eg] at gk;show(S++[Cell.lst []])[k]?=_;rw[ab4 (aa2.mp gk).1];exact gk
  ·intro s' Ia H' J' I' Pm x';refine hR _ _ s' ⟨⟨H',J',?_,x0.trans x',Pm,?_,I'.free,?_,?_,?_,?_⟩,?_⟩
   ·refine I2.inv.RH (ch:=fp) I'.os I'.base I'.HH I'.bare fun b hb=>?_
    obtain⟨f0,f1,f2,f3,f4,f5⟩:=RO b hb;exact⟨f3,f1,f4,f5⟩
   ·obtain⟨m,em⟩:=x'.pre;rw[em,ab4 (by rw[aa8,I2.st.len];simp),<-I2.st.len];simp
   ·exact(ad0 (ae3 I2.inv.lt)).symm
   ·exact ab5 I2.inv.sz (ad9 _)
   ·intro x c h;obtain⟨v,o,ho,_⟩:=I2.inv.cell x c h;exact ad0 (ae3 (ac6 ho))
   ·intro p hp;obtain⟨h1,_⟩:=I2.inv.pin p hp;exact ad0 (ae3 (ac6 h1))
   ·obtain⟨m,hm,_⟩:=I'.loc;exact⟨m,hm⟩
 exact codeAny_compStart_list loop (T.self _ 0 _ _ _ ZK loop)
def CompEnd.SD{pins:Hz}{σ:L2.St}{H:Hp}{J:aw6}{n:Nat}{S':ay4}{D C:Addr}{s':Shared}(h:CompEnd X pins σ H J n S' D C s'){h':Heap}(hs:SameBut C s'.heap h') :
  ∃H' J',Inv X pins σ H' { s' with heap:=h' }/\Ext H J H' J'/\HB X.K H' J' S'/\J'[n]?=some D:=by
 obtain⟨H',J',I,x,rs,hn,f0,f1,f2,f3,f4⟩:=h.ex;exact⟨H',J',I.turned (t':=s'.toks) (fun b o hb e=>(hs.2 b hb).trans e) f0 f1 (.inr f2) f3 f4,x,rs,hn⟩
def iy(B:OY X scope own capN caps cl)(hc:X.calm=true)(hi:PId X target iter f)(Oz:qo own.length tg)
  (hB:∀(C:Addr) (s2:Shared) (H2:Hp) (fp:aw6),Q0 (P2 X scope (own++capN) cl C s2 H2 fp) target tg/\TN (P2 X scope (own++capN) cl C s2 H2 fp) ifs ti/\Ii (P2 X scope (own++capN) cl C s2 H2 fp) elt fe)
  (hs:∀x,foldedSetIterable iter X.env x=pure x:=by intro _;rfl) :
  Ii X (.ListComp elt [⟨target,iter,ifs,0⟩] scope pos) (dS f tg ti fe own.length caps):=by
 intro pins s σ H J r S Q E I m;rw[eval_ListComp];refine wpAny_comprehension_free (use:=none) rfl hs B.UM B.kind B.names (hi pins s σ H J r S _ E I ?_);unfold dS M.bind at m;cases ef:f r S with
 |bad=>rw[ef] at m;exact m
 |exc c S1=>rw[ef] at m;exact m
 |ok w S1=>
  rw[ef] at m;dsimp only at m;rintro OQ s2 ⟨it,fp,tn,it0,H2,rfl,I2,T,UI,f2,J2,x2,K9,gk,ok⟩;cases er:dZ tg ti fe S1.length w.guard (ic own.length caps r) w.items (S1++[.lst []]) with
  |bad=>rw[er] at m;exact m.elim
  |exc c S3=>rw[er] at m;exact m.elim
  |ok uu S'=>
   rw[er] at m;refine tG (RR:=fun acc C=>compPost (model X.prog X.w) X.A E none Q acc C) B hc Oz hB ⟨I2,I.loc.ext x2,K9⟩ T ok f2 UI gk er fun D C s' ce=>?_
   obtain⟨mC,WV⟩:=ce.ns;refine⟨mC,WV,fun h' P4=>?_⟩;obtain⟨H',J',I',x',Pm,hn⟩:=ce.SD P4;exact m _ _ ⟨.ref D,H',I',rfl,J',x2.trans x',Pm,.ob hn⟩
def xK{i:Nat}{y:Str}{py UP:Pos}(hN:X.N.Nodup)(B:OY X scope own capN caps cl)(hc:X.calm=true)(hi:PId X target iter f)(Oz:qo own.length tg)
  (hB:∀(C:Addr) (s2:Shared) (H2:Hp) (fp:aw6),Q0 (P2 X scope (own++capN) cl C s2 H2 fp) target tg/\TN (P2 X scope (own++capN) cl C s2 H2 fp) ifs ti/\Ii (P2 X scope (own++capN) cl C s2 H2 fp) elt fe)
  (hsw:swapsWith (.ListComp elt [⟨target,iter,ifs,0⟩] scope pos) (some (.Name y py)) UP.line X.env=pure true:=by rfl) (hiN:X.N[i]?=some y:=by rfl) (hx:Loc X.env.scope y:=by first|exact ao3 rfl|exact Or.inr rfl)
  (hf:X.fn y=true\/X.env.scope.names.lookup y=some .local:=by first|exact .inl rfl|exact .inr rfl|assumption)
  (hs:∀x,foldedSetIterable iter X.env x=pure x:=by intro _;rfl) :
  Oj X (.Assign [.Name y py] (.ListComp elt [⟨target,iter,ifs,0⟩] scope pos) UP) (cg (dS f tg ti fe own.length caps) (gN i)):=by
 intro pins s σ H J r S Q E I m;rw[exec_Assign_Name_used _ _ _ _ hsw];refine aa0 (wpAny_standAt (aa0 ?_));show wpAny _ X.A (do let _ <-comprehension (.ListComp elt [⟨target,iter,ifs,0⟩] scope pos) scope X.env _ (newList []) false (eval iter X.env) (some (assign (.Name y py) X.env))) _ _ s;refine aa0 (ad6 (wpAny_comprehension_free (use:=some (assign (.Name y py) X.env)) (Q:=fun _ s'=>Q .next s') rfl hs B.UM B.kind B.names (hi pins s σ H J r S _ E I ?_)) (fun _ s' hq=>aa4 (aa4 hq)) fun _ _ z=>z);unfold cg cz dS M.bind at m;cases ef:f r S with
 |bad=>rw[ef] at m;exact m
 |exc c S1=>rw[ef] at m;exact fun x s' ⟨H',XI,J',ex,rs⟩=>m x s' σ H' J' XI (I.loc.ext ex) rs ex
 |ok w S1=>
  rw[ef] at m;dsimp only at m;rintro OQ s2 ⟨it,fp,tn,it0,H2,rfl,I2,T,UI,f2,J2,x2,K9,gk,ok⟩;cases er:dZ tg ti fe S1.length w.guard (ic own.length caps r) w.items (S1++[.lst []]) with
  |bad=>rw[er] at m;exact m.elim
  |exc c S3=>rw[er] at m;exact m.elim
  |ok uu S'=>
   rw[er] at m;refine tG (RR:=fun acc C=>compPost (model X.prog X.w) X.A E (some (assign (.Name y py) X.env)) (fun _ s'=>Q .next s') acc C) B hc Oz hB ⟨I2,I.loc.ext x2,K9⟩ T ok f2 UI gk er fun D C s' ce=>?_
   obtain⟨H',J',I',x',Pm,hn,f0,f1,f2',f3,f4⟩:=ce.ex;obtain⟨mC,WV⟩:=ce.ns;show wpAny _ X.A (assign (.Name y py) X.env (.ref D)) _ _ _;refine wpAny_assign_Name (tP I' hN hiN hx (v:=.ref D) rfl (fun s3 I3 ch=>?_) hf);obtain⟨ca,hsb,UQ⟩:=ch;have hCa:C≠ca:=by
    rcases UQ with e|e
    ·rw[e];exact f1
    ·exact(f3 _ _ e).symm
   refine⟨mC,WV.sameBut hsb hCa,fun h' P4=>?_⟩;exact m _ _ H' J' ⟨I3.turned (h':=h') (t':=s3.toks) (fun b o hb e=>(P4.2 b hb).trans e) f0 f1 (.inr f2') f3 f4,((I.loc.ext x2).ext x').set (.ob hn),Pm⟩ (x2.trans x')
end
mutual
def Jm(n:Nat):D->Prop
 |.tup xs=>jw n xs
 |.Kh xs=>jw n xs
 |.ob k=>k<n
 |_=>True
def jw(n:Nat):List D->Prop
 |[]=>True
 |x :: xs=>Jm n x/\jw n xs
end
section
variable{K:aw5}{H:Hp}{J m:aw6}
mutual
theorem s_.wf:∀{d:D}{v:V},s_ K H J d v->Jm J.length d
 |.Hw,_,_=>by unfold Jm;trivial
 |.bl _,_,_=>by unfold Jm;trivial
 |.int _,_,_=>by unfold Jm;trivial
 |.str _,_,_=>by unfold Jm;trivial
 |.xn _,_,_=>by unfold Jm;trivial
 |.tup xs,_,h=>by
  obtain⟨a,vs,_,_,h⟩:=h.K_;unfold Jm;exact l_.wf h
 |.Kh xs,_,h=>by
  obtain⟨a,vs,_,_,h⟩:=h.Nl;unfold Jm;exact l_.wf h
 |.ob k,_,h=>by
  obtain⟨a,_,h⟩:=h.KR;unfold Jm;exact(aa2.mp h).1
theorem l_.wf:∀{xs:ay7}{vs:az0},l_ K H J xs vs->jw J.length xs
 |[],_,_=>by unfold jw;trivial
 |x :: xs,_,h=>by
  unfold l_ at h;obtain⟨v,r,_,h1,h2⟩:=h;unfold jw;exact⟨s_.wf h1,l_.wf h2⟩
end
mutual
theorem s_.shrink:∀{d:D}{v:V},Jm J.length d->s_ K H (J++m) d v->s_ K H J d v
 |.Hw,_,_,h=>by unfold s_ at h ⊢;exact h
 |.bl _,_,_,h=>by unfold s_ at h ⊢;exact h
 |.int _,_,_,h=>by unfold s_ at h ⊢;exact h
 |.str _,_,_,h=>by unfold s_ at h ⊢;exact h
 |.xn _,_,_,h=>by unfold s_ at h ⊢;exact h
 |.tup xs,_,w,h=>by
  unfold Jm at w;unfold s_ at h ⊢;obtain⟨a,vs,h1,h2,h3⟩:=h;exact⟨a,vs,h1,h2,l_.shrink w h3⟩
 |.Kh xs,_,w,h=>by
  unfold Jm at w;unfold s_ at h ⊢;obtain⟨a,vs,h1,h2,h3⟩:=h;exact⟨a,vs,h1,h2,l_.shrink w h3⟩
 |.ob k,_,w,h=>by
  unfold Jm at w;unfold s_ at h ⊢;obtain⟨a,h1,h2⟩:=h;rw[ab4 w] at h2;exact⟨a,h1,h2⟩
theorem l_.shrink:∀{xs:ay7}{vs:az0},jw J.length xs->l_ K H (J++m) xs vs->l_ K H J xs vs
 |[],_,_,h=>by unfold l_ at h ⊢;exact h
 |x :: xs,_,w,h=>by
  unfold jw at w;unfold l_ at h ⊢;obtain⟨v,r,h1,h2,h3⟩:=h;exact⟨v,r,h1,s_.shrink w.1 h2,l_.shrink w.2 h3⟩
end
def EQ{κ:Type}(n:Nat)(xs:List (κ×D)):Prop:=∀p∈xs,Jm n p.2
theorem Hv.wf{κ:Type}:∀{xs:List (κ×D)}{ws:List (κ×V)},Hv K H J xs ws->EQ J.length xs
 |[],_,_=>fun p hp=>by cases hp
 |(k,d) :: r,ws,h=>by
  obtain⟨v,t,_,h1,h2⟩:=h;intro p hp;rcases ac7.mp hp with rfl|hp
  ·exact h1.wf
  ·exact Hv.wf h2 p hp
theorem Hv.shrink{κ:Type}:∀{xs:List (κ×D)}{ws:List (κ×V)},EQ J.length xs->Hv K H (J++m) xs ws->Hv K H J xs ws
 |[],_,_,h=>h
 |(k,d) :: r,ws,w,h=>by
  obtain⟨v,t,h0,h1,h2⟩:=h;exact⟨v,t,h0,h1.shrink (w (k,d) (by simp)),Hv.shrink (fun p hp=>w p (aa9 _ hp)) h2⟩
def SE(n:Nat):Cell->Prop
 |.lst xs=>jw n xs
 |.Js kvs=>EQ n kvs
 |.ins _ _ ds=>jw n ds
theorem K7.wf{c:Cell}{a:Addr}(h:K7 K H J c a):SE J.length c:=by
 cases c with
 |lst xs=>obtain⟨vs,_,r⟩:=h;exact r.wf
 |Js xs=>obtain⟨vs,_,r⟩:=h;exact r.wf
 |ins C ns ds=>obtain⟨dx,vs,_,_,r⟩:=h;exact r.wf
theorem K7.shrink{c:Cell}{a:Addr}(w:SE J.length c)(h:K7 K H (J++m) c a):K7 K H J c a:=by
 cases c with
 |lst xs=>obtain⟨vs,e,r⟩:=h;exact⟨vs,e,r.shrink w⟩
 |Js xs=>obtain⟨vs,e,r⟩:=h;exact⟨vs,e,r.shrink w⟩
 |ins C ns ds=>obtain⟨dx,vs,e,q,r⟩:=h;exact⟨dx,vs,e,q,r.shrink w⟩
def HB.wf{S:ay4}(h:HB K H J S){n:Nat}{c:Cell}(hn:S[n]?=some c):SE S.length c:=by
 obtain⟨a,_,r⟩:=h.cell hn;rw[<-h.len];exact r.wf
def HB.shrink{S G:ay4}{J':aw6}(h:HB K H J' (S++G))(hw:∀(n:Nat) c,S[n]?=some c->SE S.length c):HB K H (J'.take S.length) S:=by
 have hl:=h.len;rw[aa8] at hl;have hj:(J'.take S.length).length=S.length:=by rw[ad7];omega
 refine⟨hj,h.nd.sublist (at4 _ _),fun n c a hc ha=>?_⟩;have hn:=(aa2.mp hc).1;have Pn:J'[n]?=some a:=by
  rw[List.getElem?_take] at ha;rw[ab2 hn] at ha;exact ha
 have r:=h.at_ n c a (by rw[ab4 hn];exact hc) Pn;have w:=hw n c hc;rw[<-hj] at w;rw[<-ag3 S.length J'] at r;exact r.shrink w
def Got.drop{H':Hp}{S0 S G:ay4}{d:D}{v:V}(h:Got K H J d (S++G) v H')(r0:HB K H J S0)(hl:S0.length<=S.length)(hd:Jm S.length d)(hw:∀(n:Nat) c,S[n]?=some c->SE S.length c):Got K H J d S v H':=by
 obtain⟨J',x,rs,rv⟩:=h;have hlen:=rs.len;rw[aa8] at hlen;have hj:(J'.take S.length).length=S.length:=by rw[ad7];omega
 refine⟨J'.take S.length,⟨x.st,?_⟩,rs.shrink hw,?_⟩
 ·obtain⟨more,e⟩:=x.pre;refine⟨more.take (S.length-J.length),?_⟩;rw[e,List.take_append,ah4 (by rw[r0.len];exact hl)]
 ·rw[<-hj] at hd;rw[<-ag3 S.length J'] at rv;exact rv.shrink hd
end
def Fk(S0:ay4)(x:Oi)(y:R D):Prop:=match y with
 |.ok d S'=>∃G,(G=[]\/(S0.length<=S'.length/\Jm S'.length d/\(S'=S0\/∀(n:Nat) c,S'[n]?=some c->SE S'.length c)))/\(x=some (.rt d,S'++G)\/(d=.Hw/\∃r',x=some (.nx r',S'++G)))
 |.exc c S'=>∃r',x=some (.xc c r',S')
 |.bad=>True
def A6(CX:Lx)(X:Cx)(E:XK):Prop:=∀(σ:L2.St) (H':Hp) (s':Shared) (e:Value) (c:Addr),QW X [] σ H' s' e c->(∀p o,H' p=none->E (.ref c) none (upd H' p o))->X.xe e s'
section
variable{P:ay1}{w:ay3}{K:aw5}{mg:aw9}{base:Heap}{CX:Lx}
def qY{x qual:Str}{st:Stmt}{f:Addr}{fd:ax1}{N ps:ax0}{k:Nat}{F:ay9}(hF:IF K x qual st f fd)(S:n_ N ps (i_ st))
  (SF:∀(HG:Value) (A:ay2) (outer:List Env) (s:Shared) (H:Hp) (E:XK),A6 CX (pH CX P w K mg base N qual (i_ st) f HG A outer s H E) E)
  (NU:∀(HG:Value) (A:ay2) (outer:List Env) (s:Shared) (H:Hp) (E:XK),I0 k (A.deeper (envOfC qual (i_ st) s.heap.objs.size f HG))->
   ∃t,oo (pH CX P w K mg base N qual (i_ st) f HG A outer s H E) (IC st) t/\∀xs S0,xs.length=ps.length->Fk S0 (t (xs.map some++replicate (N.length-xs.length) none) S0) (F xs S0)) :
  IP P w K mg base CX (k+1) f fd ps F:=by
 obtain⟨oc,od,kV,doc,pm,an,HG,ct,PD,rfl,lk,Of⟩:=hF.ex;refine EK lk Of S (fun vs H Q E h=>h.1) (fun A outer s H vs Q E hr h=>?_);obtain⟨hlen,J,xs,S0,rx,rs,h⟩:=h;obtain⟨t,ht,WX⟩:=NU HG A outer s H E hr;have hl:xs.length=ps.length:=by rw[<-rx.length];exact hlen
 have he:=WX xs S0 hl;refine⟨fun D σ H'=>D = { nx:=fun _ H'=>Q .Hw H',rt:=Q }/\σ=L2.start N vs/\H'=H,?_,rfl,rfl,rfl⟩;rintro pins s1 TL H1 D1 I1 ⟨rfl,rfl,rfl⟩;refine ht pins s1 _ _ J _ S0 _ _ ⟨I1,Kr.start rx,rs⟩ ?_;have wf0:∀(n:Nat) c,S0[n]?=some c->SE S0.length c:=fun n c h=>rs.wf h
 cases ef:F xs S0 with
 |bad=>rw[ef] at h;exact h.elim
 |ok d S'=>
  rw[ef] at he h;dsimp only at h;obtain⟨G,hG,hx⟩:=he;have fin:∀{v:V}{H':Hp},Got K H1 J d (S'++G) v H'->Q v H':=fun {v H'} g=>by
   rcases hG with rfl|⟨h1,h2,h3⟩
   ·rw[ae4] at g;exact h v H' g
   ·refine h v H' (g.drop rs h1 h2 ?_);rcases h3 with rfl|h3
    ·exact wf0
    ·exact h3
  rcases hx with hx|⟨rfl,r',hx⟩
  ·rw[hx];exact fun u s' Ia ⟨v,H',I',rv,g⟩=>⟨v,Ia,H',I',rv,fin g⟩
  ·rw[hx];exact fun s' Ia H' J' a x=>⟨Ia,H',a.inv,fin ⟨J',x,a.st,s_.Hw _ _ _⟩⟩
 |exc c S'=>
  rw[ef] at he h;dsimp only at h;obtain⟨r',hx⟩:=he;rw[hx];exact fun e s' Ia H' J' XI rl Pm x=>SF HG A outer s H1 E Ia H' s' e c ⟨XI.inv.Ni (fun p hp=>(nomatch hp)),XI.fly⟩ (fun p o hp=>h (upd H' p o) ⟨J',x.trans (Ext.new hp),Pm.new hp⟩)
end
mutual
def pD(S:ay4):Nat->D->Option PyData
 |0,_=>none
 |n+1,.Hw=>some .none
 |n+1,.bl b=>some (.bool b)
 |n+1,.int i=>some (.int i)
 |n+1,.str x=>if PyData.canLay0 (.str x)=true then some (.str x) else none
 |n+1,.tup xs=>(KS S n xs).map .tuple
 |n+1,.Kh xs=>(KS S n xs).map .list
 |n+1,.ob k=>match S[k]? with
  |some (.lst xs)=>(KS S n xs).map .list
  |_=>none
 |n+1,.xn _=>none
def KS(S:ay4)(n:Nat):List D->Option (List PyData)
 |[]=>some []
 |x :: xs=>match pD S n x,KS S n xs with
  |some p,some ps=>some (p :: ps)
  |_,_=>none
end
section
variable{X:Cx}{pins:Hz}{σ:L2.St}{H:Hp}{J:aw6}{S:ay4}{s:Shared}
theorem jl{n:Nat}(ih:∀{d:D}{v:V}{u:Value}{p:PyData},s_ X.K H J d v->RelV v u->pD S n d=some p->(∃as,Reads s.heap u p as)/\p.canLay0=true/\p.depth<=n):∀{xs:ay7}{vs:az0}{us:aw7}{ps:List PyData},l_ X.K H J xs vs->Vals vs us->KS S n xs=some ps->(∃as,ReadsAll s.heap us ps as)/\PyData.canLayAll0 ps=true/\PyData.depthAll ps<=n
 |[],_,_,_,rv,r,e=>by
  unfold l_ at rv;subst rv;cases r;unfold KS at e;cases e;exact⟨⟨_,.nil⟩,rfl,ae7 _⟩
 |x :: xs,_,_,_,rv,r,e=>by
  unfold l_ at rv;obtain⟨v,t,rfl,h1,h2⟩:=rv;cases r with
  |cons q qs=>
   unfold KS at e;cases e1:pD S n x with
   |none=>rw[e1] at e;cases e
   |some p=>
    cases e2:KS S n xs with
    |none=>rw[e1,e2] at e;cases e
    |some ps=>
     rw[e1,e2] at e;cases e;obtain⟨⟨as,a1⟩,a2,a3⟩:=ih h1 q e1;obtain⟨⟨bs,b1⟩,b2,b3⟩:=jl ih h2 qs e2;refine⟨⟨_,.cons a1 b1⟩,?_,?_⟩
     ·simp[PyData.canLayAll0,a2,b2]
     ·simp only[PyData.depthAll];exact Nat.max_le.mpr ⟨a3,b3⟩
theorem iX(I:Inv X pins σ H s)(rs:HB X.K H J S):∀{n:Nat}{d:D}{v:V}{u:Value}{p:PyData},s_ X.K H J d v->RelV v u->pD S n d=some p->(∃as,Reads s.heap u p as)/\p.canLay0=true/\p.depth<=n
 |0,_,_,_,_,_,_,e=>by unfold pD at e;cases e
 |n+1,.Hw,_,_,_,rv,r,e=>by
  cases rv.Ov;cases r;unfold pD at e;cases e;exact⟨⟨_,.none⟩,rfl,ae7 _⟩
 |n+1,.bl b,_,_,_,rv,r,e=>by
  cases rv.QJ;cases r;unfold pD at e;cases e;exact⟨⟨_,.bool b⟩,rfl,ae7 _⟩
 |n+1,.int i,_,_,_,rv,r,e=>by
  cases rv.IT;obtain⟨t,rfl⟩:=r;unfold pD at e;cases e;exact⟨⟨_,.int i t⟩,rfl,ae7 _⟩
 |n+1,.str x,_,_,_,rv,r,e=>by
  cases rv.P0;obtain⟨t,rfl⟩:=r;unfold pD at e;split at e
  ·rename_i h;cases e;exact⟨⟨_,.str x t⟩,h,ae7 _⟩
  ·cases e
 |n+1,.tup xs,_,_,_,rv,r,e=>by
  obtain⟨a,vs,rfl,hq,HZ⟩:=rv.K_;cases r;obtain⟨y_,rl,⟨o,ho,hc,k,hd⟩,hz⟩:=I.tuple hq;unfold pD at e;cases ep:KS S n xs with
  |none=>rw[ep] at e;cases e
  |some ps=>
   rw[ep] at e;cases e;obtain⟨⟨as,h1⟩,h2,h3⟩:=jl (iX I rs) HZ rl ep;exact⟨⟨_,.tuple ho hc hd (by simpa using h1)⟩,h2,ar3 h3⟩
 |n+1,.Kh xs,_,_,_,rv,r,e=>by
  obtain⟨a,vs,rfl,hq,HZ⟩:=rv.Nl;cases r;obtain⟨y_,rl,pl,hz⟩:=I.list hq.sq;obtain⟨o,ho,hc,k,hd⟩:=pl.isList;unfold pD at e;cases ep:KS S n xs with
  |none=>rw[ep] at e;cases e
  |some ps=>
   rw[ep] at e;cases e;obtain⟨⟨as,h1⟩,h2,h3⟩:=jl (iX I rs) HZ rl ep;exact⟨⟨_,.list ho hc hd (by simpa using h1)⟩,h2,ar3 h3⟩
 |n+1,.ob k,_,_,_,rv,r,e=>by
  obtain⟨a,rfl,hn⟩:=rv.KR;cases r;obtain⟨c,hc,rc⟩:=rs.L1 hn;unfold pD at e;rw[hc] at e;cases c with
  |lst xs=>
   obtain⟨vs,hv,HZ⟩:=rc;obtain⟨y_,rl,pl,hz⟩:=I.list (JH.of hv);obtain⟨o,ho,hc,k,hd⟩:=pl.isList;dsimp only at e;cases ep:KS S n xs with
   |none=>rw[ep] at e;cases e
   |some ps=>
    rw[ep] at e;cases e;obtain⟨⟨as,h1⟩,h2,h3⟩:=jl (iX I rs) HZ rl ep;exact⟨⟨_,.list ho hc hd (by simpa using h1)⟩,h2,ar3 h3⟩
  |_=>cases e
 |n+1,.xn c,_,_,_,_,_,e=>by unfold pD at e;cases e
end
def HJ(x y:D):M D:=fun S=>match pD S 30 x,pD S 30 y with
 |some p,some q=>.ok (.bl (PyData.eqv p q)) S
 |_,_=>.bad
def Kc(x y:D):M D:=fun S=>match pD S 30 x,pD S 30 y with
 |some p,some q=>.ok (.bl (!PyData.eqv p q)) S
 |_,_=>.bad
section
variable{X:Cx}
def cr(hu:X.A.units+64<cLine):Lu X (compareOp .Eq) HJ:=by
 intro pins s σ H J S x y vx vy v u Q E I rs rx ry rv ru m;unfold HJ at m;cases e1:pD S 30 x with
 |none=>rw[e1] at m;exact m.elim
 |some p=>
  cases e2:pD S 30 y with
  |none=>rw[e1,e2] at m;exact m.elim
  |some q=>
   rw[e1,e2] at m;obtain⟨⟨as,a1⟩,a2,a3⟩:=iX I rs rx rv e1;obtain⟨⟨bs,b1⟩,b2,b3⟩:=iX I rs ry ru e2;exact SeqAt.compareEq_reads a1 b1 a2 b2 (by have:=Nat.min_le_left p.depth q.depth;omega) (m.Ku I rs (s_.bl _ _ _ _) rfl)
def qD(hu:X.A.units+64<cLine):Lu X (compareOp .NotEq) Kc:=by
 intro pins s σ H J S x y vx vy v u Q E I rs rx ry rv ru m;unfold Kc at m;cases e1:pD S 30 x with
 |none=>rw[e1] at m;exact m.elim
 |some p=>
  cases e2:pD S 30 y with
  |none=>rw[e1,e2] at m;exact m.elim
  |some q=>
   rw[e1,e2] at m;obtain⟨⟨as,a1⟩,a2,a3⟩:=iX I rs rx rv e1;obtain⟨⟨bs,b1⟩,b2,b3⟩:=iX I rs ry ru e2;exact SeqAt.compareNe_reads a1 b1 a2 b2 (by have:=Nat.min_le_left p.depth q.depth;omega) (m.Ku I rs (s_.bl _ _ _ _) rfl)
def TR(C:Int->Int->Prop)(g:Int->Int->D):D->D->M D
 |.int i,.int j=>fun S=>Ka (C i j) (.ok (g i j) S) .bad
 |_,_=>M.bad
def xB{f:ay0}{C:Int->Int->Prop}{g:Int->Int->Int}(h:∀E,Nj (X.HV E) f (rI C fun i j=>.int (g i j))):Lu X f (TR C fun i j=>.int (g i j)):=by
 refine Lu.of h (fun H J S x y vx vy d S' rs rx ry e=>?_) (fun x y S c S' e=>?_)
 ·cases x with
  |int i=>
   cases y with
   |int j=>
    cases rx.IT;cases ry.IT;simp only[TR,Ka] at e;split at e
    ·rename_i hc;cases e;exact⟨i,j,rfl,rfl,hc,J,Ext.refl _ _,rs,s_.int _ _ _ _⟩
    ·cases e
   |_=>cases e
  |_=>cases e
 ·cases x with
  |int i=>
   cases y with
   |int j=>
    simp only[TR,Ka] at e;split at e<;>cases e
   |_=>cases e
  |_=>cases e
def vk(p:Int->Int->Bool):D->D->M D
 |.int i,.int j=>fun S=>.ok (.bl (p i j)) S
 |_,_=>M.bad
def uX{f:ay0}{p:Int->Int->Bool}(h:∀E,Nj (X.HV E) f (Tz fun i j=>.bl (p i j))):Lu X f (vk p):=by
 refine Lu.of h (fun H J S x y vx vy d S' rs rx ry e=>?_) (fun x y S c S' e=>?_)
 ·cases x with
  |int i=>
   cases y with
   |int j=>
    cases rx.IT;cases ry.IT;cases e;exact⟨i,j,rfl,rfl,J,Ext.refl _ _,rs,s_.bl _ _ _ _⟩
   |_=>cases e
  |_=>cases e
 ·cases x with
  |int i=>
   cases y with
   |int j=>cases e
   |_=>cases e
  |_=>cases e
def sk:D->D->M D:=TR (fun _ _=>True) fun i j=>.int (i-j)
def CK:D->D->M D:=TR Fs fun i j=>.int (i / j)
def kY:D->D->M D:=TR (fun _ j=>0<j) fun i j=>.int (i % j)
def xk:Lu X (binaryOp .Sub) sk:=xB (C:=fun _ _=>True) (g:=fun i j=>i-j) fun E=>VD fun _ _ _ _ _ _ _ _ q=>sub_int q
def D9:Lu X (binaryOp .FloorDiv) CK:=xB fun E=>Db
def jC:Lu X (binaryOp .Mod) kY:=xB fun E=>ER
def kT:Lu X (compareOp .Lt) (vk fun i j=>decide (i<j)):=uX fun E=>Gx
def qH:Lu X (compareOp .LtE) (vk fun i j=>decide (i<=j)):=uX fun E=>GC
def yN:Lu X (compareOp .Gt) (vk fun i j=>decide (j<i)):=uX fun E=>FR
def zB:Lu X (compareOp .GtE) (vk fun i j=>decide (j<=i)):=uX fun E=>GA
def AN{t b:Addr}{vs ws:aw7}{A:ay2}{s:Shared}{prog:ay1}{w:ay3}{Q E:aw4}(ht:IsTup s.heap t vs.toArray)(hb:IsTup s.heap b ws.toArray)(hv:vs=[])(h1:Q (.ref b) s) :
  wpAny (model prog w) A (binaryOp .Add (.ref t) (.ref b)) Q E s:=by
 obtain⟨⟨cls,dd,data,sl⟩,ho,hc,n,hd⟩:=id ht;obtain⟨⟨Ux,TF,data2,TH⟩,Pf,RK,n2,hd2⟩:=id hb;simp only at hc hd RK hd2;subst hc hd RK hd2;exact concat_meets ⟨_,ho,rfl⟩ ⟨_,Pf,rfl⟩ au1 seq_tuple_add av4 au9 (au2 _ _)
  (tuple_addW0 t b vs.toArray ws.toArray n n2 dd TF sl TH (by simp[hv])) ⟨ho,Pf,h1⟩
def cw(S:ay4)(n:Nat):Option (List D):=match S[n]? with
 |some (.lst xs)=>some xs
 |_=>none
def bI:D->D->M D
 |.int i,.int j=>fun S=>.ok (.int (i+j)) S
 |.tup xs,.tup ys=>oQ (xs++ys)
 |.ob n,.ob m=>fun S=>match cw S n,cw S m with
  |some xs,some ys=>oV (xs++ys) S
  |_,_=>.bad
 |_,_=>M.bad
def qw{S:ay4}{n:Nat}{xs:ay7}(h:cw S n=some xs):S[n]?=some (.lst xs):=by
 unfold cw at h;split at h
 ·rename_i e;rw[e];cases h;rfl
 ·cases h
def HB.lst{K:aw5}{H:Hp}{J:aw6}{S:ay4}{n:Nat}{xs:ay7}{a:Addr}(rs:HB K H J S)(h:cw S n=some xs)(hn:J[n]?=some a):∃vs,H a=some (.lst vs)/\l_ K H J xs vs:=rs.at_ n _ a (qw h) hn
def cm:Lu X (binaryOp .Add) bI:=by
 intro pins s σ H J S x y vx vy v u Q E I rs rx ry rv ru m;cases x with
 |int i=>
  cases y with
  |int j=>
   cases rx.IT;cases ry.IT;obtain⟨t,rfl⟩:=rv;obtain⟨t',rfl⟩:=ru;exact add_int (m.Ku (I.tok _) rs (s_.int _ _ _ _) ⟨_,rfl⟩)
  |_=>exact m.elim
 |tup xs=>
  cases y with
  |tup ys=>
   obtain⟨a,vs,rfl,ha,HZ⟩:=rx.K_;obtain⟨b,ws,rfl,hb,rws⟩:=ry.K_;cases rv;cases ru;obtain⟨y_,r1,p1,_⟩:=I.tuple ha;obtain⟨NW,r2,p2,_⟩:=I.tuple hb;simp only[bI,oQ,Ka] at m;split at m
   ·rename_i hz;rw[aa8] at hz;by_cases h0:y_=[]
    ·have e0:xs=[]:=HZ.Ln.mp (r1.Ln.mp h0);subst e0;exact AN p1 p2 h0 (m.Ku (v:=.ref b) I rs (by rw[ar9];exact .tup hb rws) rfl)
    ·refine HT.QT p1 p2 h0 (fun z=>?_) (fun z=>?_) (by rw[<-r1.length,<-r2.length,HZ.length,rws.length];exact hz)
     ·have e0:ys=[]:=rws.Ln.mp (r2.Ln.mp z);subst e0;exact m.Ku (v:=.ref a) I rs (by rw[ae4];exact .tup ha HZ) rfl
     ·have hf:H s.heap.objs.size=none:=I.HH.fresh (aa1 _);refine m.val (H':=upd H s.heap.objs.size (.tup (vs++ws))) (v:=.ref s.heap.objs.size) (I.laid (t':=s.toks) (fun b u e=>aa6 _ e) (aa1 _) ?_) rfl (Got.tup rs (HZ.append rws) hf);exact⟨by rw[aa8,HZ.length,rws.length];exact hz,_,r1.append r2,IsTup.new _ _⟩
   ·exact m.elim
  |_=>exact m.elim
 |ob n=>
  cases y with
  |ob k=>
   obtain⟨a,rfl,hn⟩:=rx.KR;obtain⟨b,rfl,hk⟩:=ry.KR;simp only[bI] at m;cases e1:cw S n with
   |none=>rw[e1] at m;exact m.elim
   |some xs=>
    cases e2:cw S k with
    |none=>rw[e1,e2] at m;exact m.elim
    |some ys=>
     rw[e1,e2] at m;obtain⟨vs,hv,HZ⟩:=rs.lst e1 hn;obtain⟨ws,hw,rws⟩:=rs.lst e2 hk;simp only[oV,Ka] at m;split at m
     ·rename_i hz;rw[aa8] at hz;refine ad6 (E1 (X:=X.HV E) pins s σ H (.ref a) (.ref b) v u (Got X.K H J (.ob S.length) (S++[.lst (xs++ys)])) (I.HV E) rv ru ⟨a,b,vs,ws,rfl,rfl,hv,hw,by rw[HZ.length,rws.length];exact hz,fun p hp=>?_⟩) (fun u s' q=>m u s' (EP.HR q)) fun _ _ z=>z
      exact Got.lst rs (HZ.append rws) hp
     ·exact m.elim
  |_=>exact m.elim
 |_=>exact m.elim
def ik:D->D->M D
 |.int i,.int j=>fun S=>Ka (Pe i j) (.ok (.int (i * j)) S) .bad
 |.ob n,.int k=>fun S=>match cw S n with
  |some xs=>Ka ((-(2 ^ 63)<=k/\k<2 ^ 63)/\xs.length * k.toNat<=sizeLine) (.ok (.ob S.length) (S++[.lst (replicate k.toNat xs).flatten])) .bad
  |none=>.bad
 |_,_=>M.bad
theorem l_.rep{K:aw5}{H:Hp}{J:aw6}{xs:ay7}{vs:az0}(h:l_ K H J xs vs):∀k:Nat,l_ K H J (replicate k xs).flatten (replicate k vs).flatten
 |0=>.nil
 |k+1=>by
  rw[ai0,ai0,am7,am7];exact h.append (l_.rep h k)
def lE:Lu X (binaryOp .Mult) ik:=by
 refine Lu.of (fun E=>Sj.or EX) (fun H J S x y vx vy d S' rs rx ry e=>?_) (fun x y S c S' e=>?_)
 ·cases x with
  |int i=>
   cases y with
   |int j=>
    cases rx.IT;cases ry.IT;simp only[ik,Ka] at e;split at e
    ·rename_i hc;cases e;exact .inl ⟨i,j,rfl,rfl,hc,J,Ext.refl _ _,rs,s_.int _ _ _ _⟩
    ·cases e
   |_=>cases e
  |ob n=>
   cases y with
   |int k=>
    obtain⟨a,rfl,hn⟩:=rx.KR;cases ry.IT;simp only[ik,Ka] at e;cases e1:cw S n with
    |none=>rw[e1] at e;cases e
    |some xs=>
     rw[e1] at e;dsimp only at e;split at e
     ·rename_i hz;cases e;obtain⟨vs,hv,HZ⟩:=rs.lst e1 hn;exact .inr ⟨a,k,vs,rfl,rfl,hv,hz.1.1,hz.1.2,by rw[HZ.length];exact hz.2,fun p hp=>Got.lst rs (HZ.rep _) hp⟩
     ·cases e
   |_=>cases e
  |_=>cases e
 ·cases x with
  |int i=>
   cases y with
   |int j=>
    simp only[ik,Ka] at e;split at e<;>cases e
   |_=>cases e
  |ob n=>
   cases y with
   |int k=>
    simp only[ik,Ka] at e;split at e
    ·split at e<;>cases e
    ·cases e
   |_=>cases e
  |_=>cases e
def gj(S:ay4):D->Option (List D)
 |.tup xs=>some xs
 |.Kh xs=>some xs
 |.ob n=>cw S n
 |_=>none
def w_:D->D->M D
 |x,.int i=>fun S=>match gj S x with
  |some xs=>(match M9 xs i with
   |some d=>.ok d S
   |none=>.bad)
  |none=>.bad
 |_,_=>M.bad
theorem l_.M9{K:aw5}{H:Hp}{J:aw6}{xs:ay7}{vs:az0}{i:Int}{d:D}(h:l_ K H J xs vs)(e:L2.M9 xs i=some d):∃v,L2.M9 vs i=some v/\s_ K H J d v:=by
 unfold L2.M9 at e ⊢;rw[h.length];cases e1:Ou xs.length i with
 |none=>rw[e1] at e;cases e
 |some j=>
  rw[e1] at e;exact h.get (show xs[j]?=some d from e)
def ID:TK X w_:=by
 refine TK.of (r:=fun x y H Q=>Gv X.K x y H Q\/Gi X.K x y H Q) (fun E=>(Ea (X:=X.HV E)).or (Ff (X:=X.HV E))) (fun H J S x y vx vy d S' rs rx ry e=>?_) (fun x y S c S' e=>?_)
 ·cases y with
  |int i=>
   cases ry.IT;simp only[w_] at e;cases x with
   |tup xs=>
    obtain⟨a,vs,rfl,hq,HZ⟩:=rx.K_;simp only[gj] at e;cases e1:M9 xs i with
    |none=>rw[e1] at e;cases e
    |some d=>
     rw[e1] at e;cases e;obtain⟨v,h1,h2⟩:=HZ.M9 e1;exact .inr ⟨a,vs,i,v,rfl,rfl,hq,h1,J,Ext.refl _ _,rs,h2⟩
   |Kh xs=>
    obtain⟨a,vs,rfl,hq,HZ⟩:=rx.Nl;simp only[gj] at e;cases e1:M9 xs i with
    |none=>rw[e1] at e;cases e
    |some d=>
     rw[e1] at e;cases e;obtain⟨v,h1,h2⟩:=HZ.M9 e1;exact .inl ⟨a,vs,i,v,rfl,rfl,hq.sq,h1,J,Ext.refl _ _,rs,h2⟩
   |ob n=>
    obtain⟨a,rfl,hn⟩:=rx.KR;simp only[gj] at e;cases e0:cw S n with
    |none=>rw[e0] at e;cases e
    |some xs=>
     rw[e0] at e;dsimp only at e;obtain⟨vs,hv,HZ⟩:=rs.lst e0 hn;cases e1:M9 xs i with
     |none=>rw[e1] at e;cases e
     |some d=>
      rw[e1] at e;cases e;obtain⟨v,h1,h2⟩:=HZ.M9 e1;exact .inl ⟨a,vs,i,v,rfl,rfl,JH.of hv,h1,J,Ext.refl _ _,rs,h2⟩
   |_=>cases e
  |_=>cases e
 ·cases y with
  |int i=>
   simp only[w_] at e;split at e
   ·split at e<;>cases e
   ·cases e
  |_=>cases e
def fQ(xs:ay7)(lo hi:Option Int):List D:=(xs.drop (HT.IV xs.length 0 lo)).take (HT.IV xs.length xs.length hi-HT.IV xs.length 0 lo)
def l_.cut{K:aw5}{H:Hp}{J:aw6}{xs:ay7}{vs:az0}(h:l_ K H J xs vs)(lo hi:Option Int):l_ K H J (fQ xs lo hi) (yl vs lo hi):=by
 unfold fQ yl;rw[h.length];exact(h.drop _).take _
def Jo:D->Option Int->Option Int->M D
 |.tup xs,lo,hi=>M.ret (.tup (fQ xs lo hi))
 |.Kh xs,lo,hi=>fun S=>.ok (.ob S.length) (S++[.lst (fQ xs lo hi)])
 |.ob n,lo,hi=>fun S=>match cw S n with
  |some xs=>.ok (.ob S.length) (S++[.lst (fQ xs lo hi)])
  |none=>.bad
 |_,_,_=>M.bad
def nL{prog:ay1}{w:ay3}{A:ay2}{E:aw4}{s:Shared}{t sl:Addr}{items:ax2}{vl vu:Value}{lo hi:Option Int}{Q:aw4}(ht:IsTup s.heap t items)(hs:s.heap.IsSliceOf sl vl vu .none)
  (pl:IsPart vl lo) (pu:IsPart vu hi) (hw:HT.IV items.size 0 lo=0/\HT.IV items.size items.size hi=items.size) (h:Q (.ref t) s):wpAny (model prog w) A (getItem (.ref t) (.ref sl)) Q E s:=by
 obtain⟨os,PF,Og,Sl⟩:=id hs;have Wz:s.TypeIs (.ref sl) "slice":=⟨os,PF,Og⟩;unfold getItem
 try with_reducible refine ai7 ?_
 first|refine aa0 (aa4 ?_)|skip
 refine aa0 (wpAny_sequenceKey ht.typeIs (by decide) ?_);refine aa0 (ad4 (name:=Str.ofString "__getitem__") ht.typeIs af9
  (ae6 af9 ht.typeIs entry_tuple_getitem ?_ (args_tuple_getitem _ _)))
 show wpAny _ _ (Builtin.Tuple.tupleItemsOf (.ref t) >>= _) _ _ s;refine aa0 (tupleItemsOf_ ht ?_);refine aa0 (ar2 Wz ?_);rw[ab2 (by decide)];refine aa0 (HT.J_ hs pl pu ?_);have WY:((((HT.IV items.size 0 lo:Nat):Int) == 0 && (1:Int) == 1 && (HT.IV items.size items.size hi-HT.IV items.size 0 lo) == items.size)=true):=by
  rw[hw.1,hw.2];simp
 show wpAny _ _ (if (((HT.IV items.size 0 lo:Nat):Int) == 0 && (1:Int) == 1 && (HT.IV items.size items.size hi-HT.IV items.size 0 lo) == items.size)=true then _ else _) _ _ s;rw[ab2 WY];refine aa0 (m:=Builtin.Tuple.tupleIsExact _) (aa0 (ar2 ht.typeIs (aa4 ?_)));rw[ab2 (by decide)]
 first
  |exact aa0 (as0 (aa4 ⟨_,rfl,aa4 h⟩))
  |exact aa0 (as0 (aa0 (aa4 (aa4 ⟨_,rfl,aa4 h⟩))))
def P5:ZD X Jo:=by
 intro pins s σ H J S x vx v vl vu lo hi sl Q E I rs rx rv hs pl pu m;cases x with
 |tup xs=>
  obtain⟨a,vs,rfl,hq,HZ⟩:=rx.K_;cases rv;obtain⟨y_,r,ht,hz⟩:=I.tuple hq;have hlen:y_.toArray.size=xs.length:=by rw[ab7,<-r.length,HZ.length]
  refine⟨"tuple",_,af9.lookup,ht.typeIs,?_⟩;by_cases hw:HT.IV xs.length 0 lo=0/\HT.IV xs.length xs.length hi=xs.length
  ·refine nL ht hs pl pu (by rw[hlen];exact hw) (m.Ku (v:=.ref a) I rs ?_ rfl);have e:fQ xs lo hi=xs:=by
    unfold fQ;rw[hw.1,hw.2];simp
   rw[e];exact .tup hq HZ
  ·refine HT.Lm ht hs pl pu (by rw[hlen];exact hw) ?_ (by rw[ab7,<-r.length];exact hz);have hf:H s.heap.objs.size=none:=I.HH.fresh (aa1 _);refine m.val (H':=upd H s.heap.objs.size (.tup (yl vs lo hi))) (v:=.ref s.heap.objs.size) (I.laid (t':=s.toks) (fun b ob q=>aa6 _ q) (aa1 _) ?_) rfl (Got.tup rs (HZ.cut lo hi) hf);have QH:y_.toArray.size=vs.length:=by rw[ab7];exact r.length.symm
   rw[QH];exact⟨ab5 (ph vs lo hi) hz,_,(r.drop (HT.IV vs.length 0 lo)).take (HT.IV vs.length vs.length hi-HT.IV vs.length 0 lo),IsTup.new _ _⟩
 |Kh xs=>
  obtain⟨a,vs,rfl,hq,HZ⟩:=rx.Nl;obtain⟨T,id,h1,h2,h3⟩:=zu (X:=X.HV E) pins s σ H (.ref a) v vl vu lo hi sl (Got X.K H J (.ob S.length) (S++[.lst (fQ xs lo hi)])) (I.HV E) rv hs pl pu ⟨a,vs,rfl,hq.sq,fun p hp=>Got.lst rs (HZ.cut lo hi) hp⟩;exact⟨T,id,h1,h2,ad6 h3 (fun u s' q=>m u s' (EP.HR q)) fun _ _ z=>z⟩
 |ob n=>
  obtain⟨a,rfl,hn⟩:=rx.KR;simp only[Jo] at m;cases e0:cw S n with
  |none=>rw[e0] at m;exact m.elim
  |some xs=>
   rw[e0] at m;obtain⟨vs,hv,HZ⟩:=rs.lst e0 hn;obtain⟨T,id,h1,h2,h3⟩:=zu (X:=X.HV E) pins s σ H (.ref a) v vl vu lo hi sl (Got X.K H J (.ob S.length) (S++[.lst (fQ xs lo hi)])) (I.HV E) rv hs pl pu ⟨a,vs,rfl,JH.of hv,fun p hp=>Got.lst rs (HZ.cut lo hi) hp⟩;exact⟨T,id,h1,h2,ad6 h3 (fun u s' q=>m u s' (EP.HR q)) fun _ _ z=>z⟩
 |_=>exact m.elim
def bu:List D->M D
 |[x]=>fun S=>match gj S x with
  |some xs=>.ok (.int xs.length) S
  |none=>.bad
 |_=>M.bad
def lQ{K:aw5}{H:Hp}{J:aw6}{S:ay4}{x:D}{v:V}{xs:ay7}(rs:HB K H J S)(rx:s_ K H J x v)(e:gj S x=some xs):∃a vs,v=.ref a/\(JH K H a vs\/Kq K H a vs)/\l_ K H J xs vs:=by
 cases x with
 |tup xs=>
  obtain⟨a,vs,rfl,hq,HZ⟩:=rx.K_;cases e;exact⟨a,vs,rfl,.inr hq,HZ⟩
 |Kh xs=>
  obtain⟨a,vs,rfl,hq,HZ⟩:=rx.Nl;cases e;exact⟨a,vs,rfl,.inl hq.sq,HZ⟩
 |ob n=>
  obtain⟨a,rfl,hn⟩:=rx.KR;obtain⟨vs,hv,HZ⟩:=rs.lst e hn;exact⟨a,vs,rfl,.inl (JH.of hv),HZ⟩
 |_=>cases e
def df:Jp X (.builtin "len") bu:=by
 refine Jp.of (r:=fun xs H Q=>∃p ys,xs=[.ref p]/\(JH X.K H p ys\/Kq X.K H p ys)/\Q (.int ys.length) H) (fun E=>uN (X:=X.HV E)) (fun H J S xs vs d S' rs rx e=>?_) (fun xs S c S' e=>?_)
 ·match xs,rx,e with
  |[x],rx,e=>
   obtain⟨v,rfl,h1⟩:=rx.La;simp only[bu] at e;cases e1:gj S x with
   |none=>rw[e1] at e;cases e
   |some ys=>
    rw[e1] at e;cases e;obtain⟨a,ws,rfl,hq,HZ⟩:=lQ rs h1 e1;exact⟨a,ws,rfl,hq,J,Ext.refl _ _,rs,by rw[HZ.length];exact s_.int _ _ _ _⟩
  |[],rx,e=>cases e
  |_ :: _ :: _,rx,e=>cases e
 ·match xs,e with
  |[x],e=>
   simp only[bu] at e;split at e<;>cases e
  |[],e=>cases e
  |_ :: _ :: _,e=>cases e
def wz(g:Int->Int->Int):List D->M D
 |[.int i,.int j]=>M.ret (.int (g i j))
 |_=>M.bad
def yA{g:Int->Int->Int}{xs:ay7}{S S':ay4}{d:D}(e:wz g xs S=.ok d S'):∃i j,xs=[.int i,.int j]/\d=.int (g i j)/\S'=S:=by
 unfold wz at e;split at e
 ·rename_i i j;cases e;exact⟨i,j,rfl,rfl,rfl⟩
 ·cases e
def yX{g:Int->Int->Int}{xs:ay7}{S S':ay4}{c:Addr}:wz g xs S≠.exc c S':=by
 intro e;unfold wz at e;split at e<;>cases e
def Cu(hc:X.calm=true):Jp X (.builtin "max") (wz fun i j=>if j > i then j else i):=by
 refine Jp.of (fun E=>As (X:=X.HV E) hc) (fun H J S xs vs d S' rs rx e=>?_) (fun xs S c S'=>yX);obtain⟨i,j,rfl,rfl,rfl⟩:=yA e;obtain⟨v,w,rfl,h1,h2⟩:=rx.Q3;cases h1.IT;cases h2.IT;exact⟨i,j,rfl,J,Ext.refl _ _,rs,s_.int _ _ _ _⟩
def B4(hc:X.calm=true):Jp X (.builtin "min") (wz fun i j=>if j<i then j else i):=by
 refine Jp.of (fun E=>zW (X:=X.HV E) hc) (fun H J S xs vs d S' rs rx e=>?_) (fun xs S c S'=>yX);obtain⟨i,j,rfl,rfl,rfl⟩:=yA e;obtain⟨v,w,rfl,h1,h2⟩:=rx.Q3;cases h1.IT;cases h2.IT;exact⟨i,j,rfl,J,Ext.refl _ _,rs,s_.int _ _ _ _⟩
def gR:List D->M D
 |[x]=>fun S=>match gj S x with
  |some xs=>.ok (.tup xs) S
  |none=>.bad
 |_=>M.bad
def j3:Jp X (.type "tuple") gR:=by
 refine Jp.of (r:=fun xs H Q=>∃p ys,xs=[.ref p]/\((JH X.K H p ys/\∀l,H l=none->Q (.ref l) (upd H l (.tup ys)))\/(Kq X.K H p ys/\Q (.ref p) H))) (fun E=>se (X:=X.HV E)) (fun H J S xs vs d S' rs rx e=>?_) (fun xs S c S' e=>?_)
 ·unfold gR at e;split at e
  ·obtain⟨v,rfl,h1⟩:=rx.La;split at e
   ·rename_i e1;cases e;obtain⟨a,ws,rfl,hq,HZ⟩:=lQ rs h1 e1;refine⟨a,ws,rfl,?_⟩;rcases hq with hq|hq
    ·exact .inl ⟨hq,fun l hl=>Got.tup rs HZ hl⟩
    ·exact .inr ⟨hq,J,Ext.refl _ _,rs,.tup hq HZ⟩
   ·cases e
  ·cases e
 ·unfold gR at e;split at e
  ·split at e<;>cases e
  ·cases e
def yz:List D->M D
 |[x]=>fun S=>match gj S x with
  |some xs=>.ok (.ob S.length) (S++[.lst xs])
  |none=>.bad
 |_=>M.bad
def DB:Jp X (.type "list") yz:=by
 refine Jp.of (r:=fun xs H Q=>∃p ys,xs=[.ref p]/\(JH X.K H p ys\/Kq X.K H p ys)/\∀l,H l=none->Q (.ref l) (upd H l (.lst ys))) (fun E=>u8 (X:=X.HV E)) (fun H J S xs vs d S' rs rx e=>?_) (fun xs S c S' e=>?_)
 ·unfold yz at e;split at e
  ·obtain⟨v,rfl,h1⟩:=rx.La;split at e
   ·rename_i e1;cases e;obtain⟨a,ws,rfl,hq,HZ⟩:=lQ rs h1 e1;exact⟨a,ws,rfl,hq,fun l hl=>Got.lst rs HZ hl⟩
   ·cases e
  ·cases e
 ·unfold yz at e;split at e
  ·split at e<;>cases e
  ·cases e
def SG(S:ay4):D->Option String
 |.Hw=>some "NoneType"
 |.bl _=>some "bool"
 |.int _=>some "int"
 |.str _=>some "str"
 |.tup _=>some "tuple"
 |.Kh _=>some "list"
 |.ob n=>match S[n]? with
  |some (.lst _)=>some "list"
  |some (.Js _)=>some "dict"
  |_=>none
 |.xn _=>none
def vN(t T:String):Bool:=t == T || (t == "bool" && T == "int")
def P6(T:String)(x:D):M D:=fun S=>match SG S x with
 |some t=>.ok (.bl (vN t T)) S
 |none=>.bad
def w6(K:aw5)(T:String):Prop:=∀t∈["NoneType","bool","int","str","tuple","list","dict"],PySem.W.kitOne K (.type t) (.type T)=some (vN t T)
def yH(K:aw5):w6 K "int":=by
 intro t ht;simp only[ac7,am2,as1] at ht;rcases ht with rfl|rfl|rfl|rfl|rfl|rfl|rfl<;>rfl
def wS(K:aw5):w6 K "bool":=by
 intro t ht;simp only[ac7,am2,as1] at ht;rcases ht with rfl|rfl|rfl|rfl|rfl|rfl|rfl<;>rfl
def oz(K:aw5):w6 K "tuple":=by
 intro t ht;simp only[ac7,am2,as1] at ht;rcases ht with rfl|rfl|rfl|rfl|rfl|rfl|rfl<;>rfl
def Cp{T:String}{pins:Hz}{s:Shared}{σ:L2.St}{H:Hp}{J:aw6}{S:ay4}{x:D}{vx:V}{v:Value}{Q E:aw4}(hk:w6 X.K T)(I:Inv X pins σ H s)(rs:HB X.K H J S)(rx:s_ X.K H J x vx)(rv:RelV vx v)
  (m:Mt X pins σ H J (P6 T x S) Q E):wpAny (model X.prog X.w) X.A (call (.builtin "isinstance") [v,.type T]) Q E s:=by
 unfold P6 at m;cases x with
 |Hw=>
  cases rx.Ov;cases rv;exact au8 PySem.W.kitx_none I.LS ai4 (hk "NoneType" (by simp)) (fun z=>nomatch z) fun tk=>m.Ku (I.tok tk) rs (s_.bl _ _ _ _) rfl
 |bl b=>
  cases rx.QJ;cases rv;exact au8 PySem.W.kitx_bool I.LS ai4 (hk "bool" (by simp)) (fun z=>nomatch z) fun tk=>m.Ku (I.tok tk) rs (s_.bl _ _ _ _) rfl
 |int i=>
  cases rx.IT;obtain⟨t,rfl⟩:=rv;exact au8 PySem.W.kitx_int I.LS ai4 (hk "int" (by simp)) (fun z=>nomatch z) fun tk=>m.Ku (I.tok tk) rs (s_.bl _ _ _ _) rfl
 |str i=>
  cases rx.P0;obtain⟨t,rfl⟩:=rv;exact au8 PySem.W.kitx_str I.LS ai4 (hk "str" (by simp)) (fun z=>nomatch z) fun tk=>m.Ku (I.tok tk) rs (s_.bl _ _ _ _) rfl
 |tup xs=>
  obtain⟨a,vs,rfl,hq,HZ⟩:=rx.K_;cases rv;obtain⟨y_,r,⟨o,h1,h2,_⟩,hz⟩:=I.tuple hq;exact au8 PySem.W.kitx_tuple I.LS ⟨o,h1,h2⟩ (hk "tuple" (by simp)) (fun z=>nomatch z) fun tk=>m.Ku (I.tok tk) rs (s_.bl _ _ _ _) rfl
 |Kh xs=>
  obtain⟨a,vs,rfl,hq,HZ⟩:=rx.Nl;cases rv;obtain⟨y_,r,pl,hz⟩:=I.list hq.sq;obtain⟨o,h1,h2,_⟩:=pl.isList;exact au8 kitx_list I.LS ⟨o,h1,h2⟩ (hk "list" (by simp)) (fun z=>nomatch z) fun tk=>m.Ku (I.tok tk) rs (s_.bl _ _ _ _) rfl
 |ob n=>
  obtain⟨a,rfl,hn⟩:=rx.KR;cases rv;simp only[SG] at m;obtain⟨c,hc,rc⟩:=rs.L1 hn;rw[hc] at m;cases c with
  |lst xs=>
   obtain⟨vs,hv,HZ⟩:=rc;obtain⟨y_,r,pl,hz⟩:=I.list (JH.of hv);obtain⟨o,h1,h2,_⟩:=pl.isList;exact au8 kitx_list I.LS ⟨o,h1,h2⟩ (hk "list" (by simp)) (fun z=>nomatch z) fun tk=>m.Ku (I.tok tk) rs (s_.bl _ _ _ _) rfl
  |Js kvs=>
   obtain⟨ws,hv,_⟩:=rc;obtain⟨_,_,vs,_,p⟩:=(show Il X.prog X.w H s.heap a (.dK ws) from I.HH a _ hv);obtain⟨o,es,ep,h1,h2,_⟩:=p;exact au8 PySem.W.kitx_dict I.LS ⟨o,h1,h2.1⟩ (hk "dict" (by simp)) (fun z=>nomatch z) fun tk=>m.Ku (I.tok tk) rs (s_.bl _ _ _ _) rfl
  |ins C ns ds=>exact m.elim
 |xn c=>exact m.elim
def M_(T:String)(fe:ay5):r_->M D:=fun r=>(fe r).bind (P6 T)
variable{e:Expr}{fe:ay5}{pos:Pos}
def fY{x:Str}{T:String}{p p2:Pos}(he:Ii X e fe)(hg:Gl X "isinstance")(hm:X.mg "isinstance"=none)(hgT:Gl X x)(hmT:X.mg x=none)(WZ:bootBuiltins x=some (.type T))(hk:w6 X.K T)
  (hs:starEach [e,.Name x p2] X.env=[(false,eval e X.env),(false,eval (.Name x p2) X.env)]:=by rfl) (M7:starEach [.Name x p2] X.env=[(false,eval (.Name x p2) X.env)]:=by rfl) (hn:x≠"__name__":=by decide) (hd:(x == ("__debug__":Str))=false:=by decide) :
  Ii X (.Call (.Name "isinstance" p) [e,.Name x p2] [] pos) (M_ T fe):=by
 intro pins s σ H J r S Q E I m;refine ag8 (jL I.inv hg hm boot_isinstance ?_);refine ak6 ?_ (by rw[hs,M7]) (by rw[M7];rfl);rw[hs];show wpAny _ _ (spliced ((false,eval e X.env) :: backTo pos [(false,eval (.Name x p2) X.env)])) _ _ s;refine ao4 (he pins s σ H J r S _ E I ?_);unfold M_ M.bind at m;cases e1:fe r S with
 |bad=>rw[e1] at m;exact m
 |exc c S1=>rw[e1] at m;exact m
 |ok d S1=>
  rw[e1] at m;dsimp only at m;rintro v s1 ⟨vx,H1,I1,r1,J1,ex,rs,rv⟩;show wpAny _ _ (spliced ((false,eval (.Name x p2) X.env) :: backTo pos [])) _ _ s1;refine ao4 (jL I1 hgT hmT WZ ?_ hn hd);exact at5 (Cp hk I1 rs rv r1 (Mt.ext ex m))
end
end DL
namespace DL
open PySem PySem.Spec PyProof.Rows L2
open AutoSeq1 (wpAny_loadPart')
section
variable{prog:ay1}{w:ay3}{A:ay2}{E:aw4}{s:Shared}
def xf{it t:Addr}{i:Nat}{items:ax2}{x:Value}{Q:aw4}(hi:s.heap.IsTupleIter it t i)(ht:s.heap.IsTuple t items)(hx:items[i]?=some x)
  (hQ:∀h',h'.IsTupleIter it t (i+1)->SameBut it s.heap h'->Q x { s with heap:=h' }):wpAny (model prog w) A (Builtin.SmallTypes.nextOf (.ref it)) Q E s:=by
 obtain⟨oi,RQ,ZL,Q4⟩:=id hi;obtain⟨ot,SH,_,nt,SI⟩:=ht;unfold Builtin.SmallTypes.nextOf;refine aa0 (ad4 (name:=Str.ofString "__next__") hi.typeIs an0
  (ae6 an0 hi.typeIs entry_tupleiter_next ?_ (args_tupleiter_next _)))
 show wpAny _ _ (field (.ref it) 0 >>= _) _ _ s;refine aa0 (ah0 RQ Q4 (x:=.ref t) rfl ?_);show wpAny _ _ (if (Value.ref t == Value.none)=true then _ else _) _ _ s;rw[ab1 (show ¬((Value.ref t == Value.none)=true) from ad2)];show wpAny _ _ (field (.ref it) 1 >>= _) _ _ s;refine aa0 (ah0 RQ Q4 (x:=.int i 0) rfl ?_);show wpAny _ _ (seqItems? (.ref t) >>= _) _ _ s;refine aa0 (wpAny_seqItems SH SI ?_);simp only[af4,hx];refine aa0 (am3 RQ Q4 (by simp) (aa4 ⟨x,rfl,aa4 (hQ _ ?_ (an1 ..))⟩));exact⟨_,ah1 _ RQ (aj3 (ah8 Q4 _)),(Obj.cls_mapFields ..).trans ZL,by
  rw[ah8 Q4];simp[rawInt]⟩
def lJ{it t:Addr}{i:Nat}{items:ax2}{Q:aw4}(hh:A.handled=none)(hi:s.heap.IsTupleIter it t i)(ht:s.heap.IsTuple t items)(hx:items[i]?=none)
  (hE:∀h' e,ExtBut it s.heap h'->(∃o,h'.get? e=some o/\o.cls=.type "StopIteration")->E (.ref e) { s with heap:=h' }):wpAny (model prog w) A (Builtin.SmallTypes.nextOf (.ref it)) Q E s:=by
 obtain⟨oi,RQ,ZL,Q4⟩:=id hi;obtain⟨ot,SH,_,nt,SI⟩:=ht;unfold Builtin.SmallTypes.nextOf;refine aa0 (ad4 (name:=Str.ofString "__next__") hi.typeIs an0
  (ae6 an0 hi.typeIs entry_tupleiter_next ?_ (args_tupleiter_next _)))
 show wpAny _ _ (field (.ref it) 0 >>= _) _ _ s;refine aa0 (ah0 RQ Q4 (x:=.ref t) rfl ?_);show wpAny _ _ (if (Value.ref t == Value.none)=true then _ else _) _ _ s;rw[ab1 (show ¬((Value.ref t == Value.none)=true) from ad2)];show wpAny _ _ (field (.ref it) 1 >>= _) _ _ s;refine aa0 (ah0 RQ Q4 (x:=.int i 0) rfl ?_);show wpAny _ _ (seqItems? (.ref t) >>= _) _ _ s;refine aa0 (wpAny_seqItems SH SI ?_);simp only[af4,hx];refine aa0 (as0 (aa0 (am3 RQ Q4 (by simp) ?_)));show wpAny _ _ (newExc (.type "StopIteration") [] >>= _) _ _ _;refine aa0 ?_;simp only[newExc,newTuple];refine aa0 (ad1 ?_ (by size_fits));refine aa0 (m:=firstArgMember _ _) (at6 (a:=Value.none) (by first|rfl|(simp only[firstArgMember];rfl)) ?_);refine ad1 ?_ (by size_fits);simp only[raiseNew];refine aa0 (wpAny_handled ?_)
 first|rw[show A.in1.handled=none from hh]|rw[hh]
 refine aa0 (aa4 (wpAny_throw ?_));exact hE _ _ (((an1 ..).extBut.push _).push _) ⟨_,ac0 _ rfl,rfl⟩
end
def Ai{prog:ay1}{w:ay3}{A:ay2}(hh:A.handled=none)(it t:Addr)(Mp:t≠it)(items:ax2) :
  Draws prog w A it [it,t] items.size (fun i v=>items[i]?=some v) (fun i h=>h.IsTupleIter it t i/\h.IsTuple t items) where
 live:=fun _ _ st=>let ⟨o,ho,_⟩:=st.1;⟨o,ho⟩
 frame:=fun _ _ _ st hk=>⟨st.1.at fun o e=>hk it (by simp) o e,let ⟨o,ho,q⟩:=st.2;⟨o,hk t (by simp) o ho,q⟩⟩
 item:=fun i s Q E hi st hQ=>by
  refine xf st.1 st.2 (x:=items[i]) (by simp[hi]) fun h' W0 P4=>?_
  obtain⟨o,ho,q⟩:=st.2;exact hQ _ h' s.toks (by simp[hi]) ⟨W0,⟨o,P4.extBut t o Mp ho,q⟩⟩ P4
 done:=fun s Q E st hE=>lJ hh st.1 st.2 (by simp) hE
def qK{prog:ay1}{w:ay3}{A:ay2}{it:Addr}{fp:aw6}{n:Nat}{P:Nat->Value->Prop}{St:Nat->Heap->Prop}(D:Draws prog w A it fp n P St)(c:Nat) :
  Draws prog w A it fp (n+c) (fun i v=>c<=i/\P (i-c) v) (fun i h=>c<=i/\St (i-c) h) where
 live:=fun i h st=>D.live _ h st.2
 frame:=fun i h h' st hk=>⟨st.1,D.frame _ h h' st.2 hk⟩
 item:=fun i s Q E hi st hQ=>D.item (i-c) s Q E (by have:=st.1;omega) st.2 fun x h' tk hp hs hb=>hQ x h' tk ⟨st.1,hp⟩ ⟨by have:=st.1;omega,by rw[show i+1-c=i-c+1 by have:=st.1;omega];exact hs⟩ hb
 done:=fun s Q E st hE=>D.done s Q E (by have:=st.2;rw[show n+c-c=n by omega] at this;exact this) hE
def rT(l:Addr)(items:ax2)(n:Nat)(SJ:Option Addr)(sl:ax9) :
  Meets (Builtin.«enumerate.__new__» ⟨[.type "enumerate",.ref l],[]⟩) (fun _ R s=>s.heap.get? l=some { cls:=.type "tuple",dict:=SJ,data:=.seq items n,slots:=sl }/\
   R (.ok (.ret (.ref (s.heap.push { cls:=.type "tuple_iterator",data:=.fields #[.ref l,.int 0 0] }).objs.size)))
    { s with heap:=(s.heap.push { cls:=.type "tuple_iterator",data:=.fields #[.ref l,.int 0 0] }).push { cls:=.type "enumerate",data:=.fields #[.none,.bool false,.ref s.heap.objs.size,rawInt 0,.none,.none] } }):=
 .of_wp fun prog w A R s h=>by
  obtain⟨hp,g,d,tk,os⟩:=s;obtain⟨hl,h⟩:=h;have Po:=sub_enumerate;have hT:Heap.IsTuple (Shared.heap ⟨hp,g,d,tk,os⟩) l items:=⟨_,hl,rfl,n,rfl⟩
  wp_walk using wpAny_loadPart' hl
  refine wpAny_stack_any fun st=>aa4 ?_
  split
  ·rename_i c _ _ _ _ _;cases(c == type "enumerate")
   ·wp_walk using wpAny_loadPart' hl,ag9 hT
    exact⟨_,rfl,h⟩
   ·wp_walk using wpAny_loadPart' hl,ag9 hT
    exact⟨_,rfl,h⟩
  ·wp_walk using wpAny_loadPart' hl,ag9 hT
   exact⟨_,rfl,h⟩
end DL
namespace DL
open PySem PySem.Spec PyProof.Rows L2
def JG.other{P:ay1}{w:ay3}{H:Hp}{h h':Heap}{ch:aw6}(x:JG P w H h)(hn:∀b∈ch,H b=none)(k:∀b u,b∉ch->h.get? b=some u->h'.get? b=some u):JG P w H h':=fun a o e=>
 (x a o e).Lv (fun b u hb q=>k b u (fun hm=>by
  rcases hb with rfl|hb
  ·rw[hn b hm] at e;cases e
  ·rw[hn b hm] at hb;cases hb) q) (fun _ q=>q) fun _ _ q=>q
def JG.add{P:ay1}{w:ay3}{H:Hp}{h:Heap}{p:Addr}{o:HO}(x:JG P w H h)(hp:H p=none)(new:Il P w (upd H p o) h p o):JG P w (upd H p o) h:=fun a u e=>by
 by_cases ha:a=p
 ·subst ha;rw[bF] at e;cases e;exact new
 ·rw[bf ha] at e;exact(x a u e).Lv (fun _ _ _ q=>q) (fun b q=>by rw[bf (aZ q hp)];exact q) fun b xs q=>by rw[bf (aZ q hp)];exact q
def Inv.OZ{X:Cx}{pins:Hz}{σ:L2.St}{H:Hp}{s:Shared}{ch:aw6}{h':Heap}{tk:Nat}{p:Addr}{o:HO}(I:Inv X pins σ H s)(hf:∀b∈ch,LK X pins H b)(k:∀b u,b∉ch->s.heap.get? b=some u->h'.get? b=some u)
  (hp:s.heap.objs.size<=p) (new:Il X.prog X.w (upd H p o) h' p o):Inv X pins σ (upd H p o) { s with heap:=h',toks:=tk }:=by
 have VO:H p=none:=I.HH.fresh hp;have JZ:∀{b:Addr}{u:Obj},s.heap.get? b=some u->b≠p:=fun e=>ad0 (ac1 (ac6 e) hp)
 refine I.RH (ch:=ch) rfl ⟨?_,?_,?_,?_,?_,?_,?_⟩ (JG.add (JG.other I.HH (fun b hb=>(hf b hb).1) k) VO new) I.bare fun b hb=>?_
 ·exact fun b u q _ _ hx=>k b u hx q
 ·exact fun b u q _ _ hx=>⟨u.slots,by rw[k b u hx q]⟩
 ·exact fun b u q n hx=>by rw[bf (JZ q)];exact n
 ·exact fun b u q hx=>⟨u,k b u hx q⟩
 ·exact fun b xs q=>by rw[bf (aZ q VO)];exact q
 ·exact fun b ob u q=>by rw[bf (aZ q VO)];exact q
 ·exact fun b ps q=>⟨#[],by rw[bf (aZ q VO)];simpa using q⟩
 ·obtain⟨_,f1,_,f3,f4,f5⟩:=hf b hb;exact⟨f3,f1,f4,f5⟩
def jU{prog:ay1}{w:ay3}{A:ay2}{E:aw4}{s:Shared}{e it a:Addr}{i:Nat}{c:Int}{old:Value}{items:ax2}{Q:Option Value->Shared->Prop}(hh:A.handled=none)(he:IsEnum s.heap e it c old)(hit:s.heap.IsTupleIter it a i)
  (ot:s.heap.IsTuple a items) (ha:a≠it) (hx:items.size<=i) (hQ:∀h',ExtBut it s.heap h'->Q none { s with heap:=h' }):wpAny (model prog w) A (pyNext (.ref e)) Q E s:=by
 have hT:s.TypeIs (.ref e) "enumerate":=⟨_,he,rfl⟩;unfold pyNext;refine aa0 (an2 (ad4 (name:=Str.ofString "__next__") hT al6
  (ae6 al6 hT F.entry_enumerate_next ?_ (F.args_enumerate_next_1 _))))
 show wpAny _ _ (field (.ref e) 2 >>= _) _ _ _;refine aa0 (ah0 he rfl (x:=.ref it) rfl ?_);refine aa0 (lJ hh hit ot (by simpa using hx) fun h' x O0 W2=>?_);obtain⟨o,ho,hc⟩:=W2;refine aa0 (am8 (T:="StopIteration") (b:=true) ⟨o,ho,hc⟩ as2 ?_);exact aa4 (hQ _ O0)
def Gw(K:aw5)(a:Addr)(c:Nat):It:=
 ⟨fun i H=>∃vs x,Kq K H a vs/\vs[i]?=some x,fun i H x H'=>∃p v,H p=none/\H'=upd H p (.tup [.int ((c+i:Nat):Int),v])/\x=.ref p/\∀vs,Kq K H a vs->vs[i]?=some v,fun i H=>∃vs,Kq K H a vs/\vs.length<=i⟩
def rJ{P:ay1}{w:ay3}{K:aw5}{elts:ax8}{k1:Nat}{pos:Pos}(a it e:Addr)(c:Nat)(SK:e≠it) :
  Turn P w K (.Tuple elts k1 pos) (Gw K a c) [e,it] e (fun i h=>(∃old,IsEnum h e it ((c+i:Nat):Int) old)/\h.IsTupleIter it a i) where
 mem:=by simp
 obj:=fun i h st b hb=>by
  obtain⟨⟨old,he⟩,hit⟩:=st;simp at hb;rcases hb with rfl|rfl
  ·exact⟨_,he,fun v z=>by
    have z':Data.fields _=Data.cell v:=z;cases z'⟩
  ·obtain⟨o,ho,hc,hd⟩:=hit;exact⟨o,ho,fun v z=>by rw[hd] at z;cases z⟩
 keep:=fun i h h' st k=>by
  obtain⟨⟨old,he⟩,hit⟩:=st;exact⟨⟨old,k e (by simp) _ he⟩,hit.at fun o ho=>k it (by simp) o ho⟩
 item:=by
  intro X hP hw hK hc i pins s σ H E I hf st hg;subst hP hw hK;obtain⟨⟨old,he⟩,hit⟩:=st;obtain⟨vs,x,hq,hx⟩:=hg;obtain⟨y_,rv,pl,hz⟩:=I.tuple hq;have ot:s.heap.IsTuple a y_.toArray:=pl;have SM:a≠it:=by
   rintro rfl;obtain⟨o1,h1,h2,_⟩:=ot;obtain⟨o2,h3,h4,_⟩:=hit;rw[h1] at h3;cases h3;rw[h2] at h4;exact absurd h4 (by simp)
  have W3:e≠a:=by
   rintro rfl;obtain⟨o1,h1,h2,_⟩:=ot;rw[he] at h1;cases h1;exact absurd h2 (by simp)
  have hlen:=rv.length;have Q2:i<y_.length:=by
   have:=(aa2.mp hx).1;omega
  have Dw:=qK (Ai (prog:=X.prog) (w:=X.w) (A:=X.A.in1) (I.ok.hd hc) it a SM y_.toArray) c;refine wpAny_pyNext_enum_itemD Dw (i:=c+i) he ⟨Nat.le_add_right _ _,by rw[show c+i-c=i by omega];exact⟨hit,ot⟩⟩ (by simp;omega) SK (by simp;exact⟨SK,W3⟩) fun y h1 tk hP SN Jl hT hsz hk=>?_
  obtain⟨_,hP⟩:=hP;rw[show c+i-c=i by omega] at hP;have hy:y_[i]?=some y:=by simpa using hP
  obtain⟨_,Jl⟩:=Jl;rw[show c+i+1-c=i+1 by omega] at Jl;refine⟨_,rfl,?_⟩;refine as3 SN fun h2 Q5 M7=>?_
  obtain⟨u,hu,ru⟩:=rv.get hx;rw[hy] at hu;cases hu;have QK:H s.heap.objs.size=none:=I.HH.fresh (aa1 _);have TU:e≠s.heap.objs.size:=ad0 (ac6 he);have P7:∀b u,b∉[e,it]->s.heap.get? b=some u->h2.get? b=some u:=fun b u hb q=>by
   simp at hb;exact M7.extBut b u hb.1 (hk b u hb.1 hb.2 q)
  have N0:h2.get? s.heap.objs.size=some { cls:=.type "tuple",data:=.seq #[.int ((c+i:Nat):Int) tk,y] }:=M7.extBut _ _ (af8 TU) hT;refine⟨.ref s.heap.objs.size,upd H s.heap.objs.size (.tup [.int ((c+i:Nat):Int),x]),Inv.OZ (s:=s) (h':=h2) (tk:=tk+1) I hf P7 (aa1 _) ⟨by show 2<=sizeLine;decide,[.int ((c+i:Nat):Int) tk,y],.cons ⟨_,rfl⟩ (.cons ru .nil),_,N0,rfl,_,rfl⟩,rfl,
   ⟨s.heap.objs.size,x,QK,rfl,rfl,fun ws hw=>by rw[I.M6 hw hq];exact hx⟩,⟨⟨y,?_⟩,?_⟩,?_⟩
  ·rw[show((c+(i+1):Nat):Int)=((c+i:Nat):Int)+1 by push_cast;omega];exact Q5
  ·exact Jl.1.extBut M7.extBut (af8 SK)
  ·intro b hb;obtain⟨f0,_⟩:=hf b hb;have:∃o,s.heap.get? b=some o:=by
    simp at hb;rcases hb with rfl|rfl
    ·exact⟨_,he⟩
    ·obtain⟨o,ho,_⟩:=hit;exact⟨o,ho⟩
   obtain⟨o,ho⟩:=this;rw[bf (ad0 (ac6 ho))];exact f0
 done:=by
  intro X hP hw hK hc i pins s σ H E I hf st hg;subst hP hw hK;obtain⟨⟨old,he⟩,hit⟩:=st;obtain⟨vs,hq,hx⟩:=hg;obtain⟨y_,rv,pl,hz⟩:=I.tuple hq;have ot:s.heap.IsTuple a y_.toArray:=pl;have SM:a≠it:=by
   rintro rfl;obtain⟨o1,h1,h2,_⟩:=ot;obtain⟨o2,h3,h4,_⟩:=hit;rw[h1] at h3;cases h3;rw[h2] at h4;exact absurd h4 (by simp)
  have hlen:=rv.length;obtain⟨f0,f1,f2,f3,f4,f5⟩:=hf it (by simp);refine jU (I.ok.hd hc) he hit ot SM (by simp;omega) fun h' eb=>⟨rfl,I.turned (t':=s.toks) (fun b o hb e=>eb b o hb e) f0 f1 f3 f4 f5⟩
 self:=fun A i s Q E st h=>by
  obtain⟨⟨old,he⟩,hit⟩:=st;exact al8 he h
def JQ.RT{K:aw5}{H:Hp}{J:aw6}{a:Addr}{c:Nat}{xs:ay7}{g:Option (Nat×List D)}(HH:∀(H1:Hp) (J1:aw6) (S:ay4),Ext H J H1 J1->HB K H1 J1 S->Lo g S->∃vs,Kq K H1 a vs/\l_ K H1 J1 xs vs) :
  JQ K (Gw K a c) ⟨xs.zipIdx.map fun p=>.tup [.int ((c+p.2:Nat):Int),p.1],g⟩ H J:=by
 intro H1 J1 S x rs gk;obtain⟨vs,hq,HZ⟩:=HH H1 J1 S x rs gk;have hl:=HZ.length;have hlen:(xs.zipIdx.map fun(p:D×Nat)=>D.tup [.int ((c+p.2:Nat):Int),p.1]).length=xs.length:=by simp
 refine⟨fun i hi=>⟨vs,vs[i]'(by rw[hl];simpa using hi),hq,by simp⟩,⟨vs,hq,by rw[hl];simp⟩,?_⟩;rintro i y H' ⟨p,v,hp,rfl,rfl,hv⟩ d hd;have Ms:(xs.zipIdx.map fun(p:D×Nat)=>D.tup [.int ((c+p.2:Nat):Int),p.1])[i]?=some d:=hd;rw[ac8,aq3] at Ms;cases e:xs[i]? with
 |none=>rw[e] at Ms;cases Ms
 |some z=>
  rw[e] at Ms;simp only[av8,al7,af7] at Ms;subst Ms;obtain⟨v',h1,h2⟩:=HZ.get e;have:=hv vs hq;rw[h1] at this;cases this;obtain⟨J',x',Pm,W4⟩:=Got.tup (p:=p) rs (l_.cons (s_.int K H1 J1 ((c+i:Nat):Int)) (.one h2)) hp;exact⟨J',x',Pm,W4⟩
def jX{prog:ay1}{w:ay3}{A:ay2}{E:aw4}{s:Shared}{e it a:Addr}{i:Nat}{c:Int}{old:Value}{items:ax2}{Q:Option Value->Shared->Prop}(hh:A.handled=none)(he:IsEnum s.heap e it c old)(hit:s.heap.IsListIter it a i)
  (ot:s.heap.IsList a items) (ha:a≠it) (hx:items.size<=i) (hQ:∀h',ExtBut it s.heap h'->Q none { s with heap:=h' }):wpAny (model prog w) A (pyNext (.ref e)) Q E s:=by
 have hT:s.TypeIs (.ref e) "enumerate":=⟨_,he,rfl⟩;unfold pyNext;refine aa0 (an2 (ad4 (name:=Str.ofString "__next__") hT al6
  (ae6 al6 hT F.entry_enumerate_next ?_ (F.args_enumerate_next_1 _))))
 show wpAny _ _ (field (.ref e) 2 >>= _) _ _ _;refine aa0 (ah0 he rfl (x:=.ref it) rfl ?_);refine aa0 (wpAny_nextOf_list_end hh hit ot (by simpa using hx) fun h' x O0 W2=>?_);obtain⟨o,ho,hc⟩:=W2;refine aa0 (am8 (T:="StopIteration") (b:=true) ⟨o,ho,hc⟩ as2 ?_);exact aa4 (hQ _ O0)
def FU(K:aw5)(a:Addr)(c:Nat):It:=
 ⟨fun i H=>∃vs x,JH K H a vs/\vs[i]?=some x,fun i H x H'=>∃p v,H p=none/\H'=upd H p (.tup [.int ((c+i:Nat):Int),v])/\x=.ref p/\∀vs,JH K H a vs->vs[i]?=some v,fun i H=>∃vs,JH K H a vs/\vs.length<=i⟩
def xF{P:ay1}{w:ay3}{K:aw5}{elts:ax8}{k1:Nat}{pos:Pos}(a it e:Addr)(c:Nat)(SK:e≠it) :
  Turn P w K (.Tuple elts k1 pos) (FU K a c) [e,it] e (fun i h=>(∃old,IsEnum h e it ((c+i:Nat):Int) old)/\h.IsListIter it a i) where
 mem:=by simp
 obj:=fun i h st b hb=>by
  obtain⟨⟨old,he⟩,hit⟩:=st;simp at hb;rcases hb with rfl|rfl
  ·exact⟨_,he,fun v z=>by
    have z':Data.fields _=Data.cell v:=z;cases z'⟩
  ·obtain⟨o,ho,hc,hd⟩:=hit;exact⟨o,ho,fun v z=>by rw[hd] at z;cases z⟩
 keep:=fun i h h' st k=>by
  obtain⟨⟨old,he⟩,hit⟩:=st;exact⟨⟨old,k e (by simp) _ he⟩,hit.at fun o ho=>k it (by simp) o ho⟩
 item:=by
  intro X hP hw hK hc i pins s σ H E I hf st hg;subst hP hw hK;obtain⟨⟨old,he⟩,hit⟩:=st;obtain⟨vs,x,hq,hx⟩:=hg;obtain⟨y_,rv,pl,hz⟩:=I.list hq;have ot:s.heap.IsList a y_.toArray:=pl.isList;have SM:a≠it:=by
   rintro rfl;obtain⟨o1,h1,h2,_⟩:=ot;obtain⟨o2,h3,h4,_⟩:=hit;rw[h1] at h3;cases h3;rw[h2] at h4;exact absurd h4 (by simp)
  have W3:e≠a:=by
   rintro rfl;obtain⟨o1,h1,h2,_⟩:=ot;rw[he] at h1;cases h1;exact absurd h2 (by simp)
  have hlen:=rv.length;have Q2:i<y_.length:=by
   have:=(aa2.mp hx).1;omega
  have Dw:=qK (Draws.list (prog:=X.prog) (w:=X.w) (A:=X.A.in1) (I.ok.hd hc) it a SM y_.toArray) c;refine wpAny_pyNext_enum_itemD Dw (i:=c+i) he ⟨Nat.le_add_right _ _,by rw[show c+i-c=i by omega];exact⟨hit,ot⟩⟩ (by simp;omega) SK (by simp;exact⟨SK,W3⟩) fun y h1 tk hP SN Jl hT hsz hk=>?_
  obtain⟨_,hP⟩:=hP;rw[show c+i-c=i by omega] at hP;have hy:y_[i]?=some y:=by simpa using hP
  obtain⟨_,Jl⟩:=Jl;rw[show c+i+1-c=i+1 by omega] at Jl;refine⟨_,rfl,?_⟩;refine as3 SN fun h2 Q5 M7=>?_
  obtain⟨u,hu,ru⟩:=rv.get hx;rw[hy] at hu;cases hu;have QK:H s.heap.objs.size=none:=I.HH.fresh (aa1 _);have TU:e≠s.heap.objs.size:=ad0 (ac6 he);have P7:∀b u,b∉[e,it]->s.heap.get? b=some u->h2.get? b=some u:=fun b u hb q=>by
   simp at hb;exact M7.extBut b u hb.1 (hk b u hb.1 hb.2 q)
  have N0:h2.get? s.heap.objs.size=some { cls:=.type "tuple",data:=.seq #[.int ((c+i:Nat):Int) tk,y] }:=M7.extBut _ _ (af8 TU) hT;refine⟨.ref s.heap.objs.size,upd H s.heap.objs.size (.tup [.int ((c+i:Nat):Int),x]),Inv.OZ (s:=s) (h':=h2) (tk:=tk+1) I hf P7 (aa1 _) ⟨by show 2<=sizeLine;decide,[.int ((c+i:Nat):Int) tk,y],.cons ⟨_,rfl⟩ (.cons ru .nil),_,N0,rfl,_,rfl⟩,rfl,
   ⟨s.heap.objs.size,x,QK,rfl,rfl,fun ws hw=>by rw[I.NS hw hq];exact hx⟩,⟨⟨y,?_⟩,?_⟩,?_⟩
  ·rw[show((c+(i+1):Nat):Int)=((c+i:Nat):Int)+1 by push_cast;omega];exact Q5
  ·exact Jl.1.extBut M7.extBut (af8 SK)
  ·intro b hb;obtain⟨f0,_⟩:=hf b hb;have:∃o,s.heap.get? b=some o:=by
    simp at hb;rcases hb with rfl|rfl
    ·exact⟨_,he⟩
    ·obtain⟨o,ho,_⟩:=hit;exact⟨o,ho⟩
   obtain⟨o,ho⟩:=this;rw[bf (ad0 (ac6 ho))];exact f0
 done:=by
  intro X hP hw hK hc i pins s σ H E I hf st hg;subst hP hw hK;obtain⟨⟨old,he⟩,hit⟩:=st;obtain⟨vs,hq,hx⟩:=hg;obtain⟨y_,rv,pl,hz⟩:=I.list hq;have ot:s.heap.IsList a y_.toArray:=pl.isList;have SM:a≠it:=by
   rintro rfl;obtain⟨o1,h1,h2,_⟩:=ot;obtain⟨o2,h3,h4,_⟩:=hit;rw[h1] at h3;cases h3;rw[h2] at h4;exact absurd h4 (by simp)
  have hlen:=rv.length;obtain⟨f0,f1,f2,f3,f4,f5⟩:=hf it (by simp);refine jX (I.ok.hd hc) he hit ot SM (by simp;omega) fun h' eb=>⟨rfl,I.turned (t':=s.toks) (fun b o hb e=>eb b o hb e) f0 f1 f3 f4 f5⟩
 self:=fun A i s Q E st h=>by
  obtain⟨⟨old,he⟩,hit⟩:=st;exact al8 he h
def JQ.UR{K:aw5}{H:Hp}{J:aw6}{a:Addr}{c:Nat}{xs:ay7}{g:Option (Nat×List D)}(HH:∀(H1:Hp) (J1:aw6) (S:ay4),Ext H J H1 J1->HB K H1 J1 S->Lo g S->∃vs,JH K H1 a vs/\l_ K H1 J1 xs vs) :
  JQ K (FU K a c) ⟨xs.zipIdx.map fun p=>.tup [.int ((c+p.2:Nat):Int),p.1],g⟩ H J:=by
 intro H1 J1 S x rs gk;obtain⟨vs,hq,HZ⟩:=HH H1 J1 S x rs gk;have hl:=HZ.length;have hlen:(xs.zipIdx.map fun(p:D×Nat)=>D.tup [.int ((c+p.2:Nat):Int),p.1]).length=xs.length:=by simp
 refine⟨fun i hi=>⟨vs,vs[i]'(by rw[hl];simpa using hi),hq,by simp⟩,⟨vs,hq,by rw[hl];simp⟩,?_⟩;rintro i y H' ⟨p,v,hp,rfl,rfl,hv⟩ d hd;have Ms:(xs.zipIdx.map fun(p:D×Nat)=>D.tup [.int ((c+p.2:Nat):Int),p.1])[i]?=some d:=hd;rw[ac8,aq3] at Ms;cases e:xs[i]? with
 |none=>rw[e] at Ms;cases Ms
 |some z=>
  rw[e] at Ms;simp only[av8,al7,af7] at Ms;subst Ms;obtain⟨v',h1,h2⟩:=HZ.get e;have:=hv vs hq;rw[h1] at this;cases this;obtain⟨J',x',Pm,W4⟩:=Got.tup (p:=p) rs (l_.cons (s_.int K H1 J1 ((c+i:Nat):Int)) (.one h2)) hp;exact⟨J',x',Pm,W4⟩
section
variable{prog:ay1}{w:ay3}{A:ay2}{E:aw4}{s:Shared}
def sA{l:Addr}{items:ax2}{Q:aw4}(hL:s.heap.IsTuple l items)
  (h:∀h',IsEnum h' (s.heap.objs.size+1) s.heap.objs.size 0 .none->h'.IsTupleIter s.heap.objs.size l 0->(∀b o,s.heap.get? b=some o->h'.get? b=some o)->Q (.ref (s.heap.objs.size+1)) { s with heap:=h' }) :
  wpAny (model prog w) A (call (.type "enumerate") [.ref l]) Q E s:=by
 obtain⟨⟨c,SJ,dt,sl⟩,hl,hc,n,hd⟩:=hL;simp only at hc hd;subst hc hd;refine callType_new F.called_enumerate (by decide) (F.typeCall_enumerate_1 _) (F.newCall_enumerate_1 _) (fun obj=>F.args_object_init_2 obj _) F.entry_enumerate_new (rT l items n SJ sl) ⟨hl,?_⟩;have hz:(s.heap.push { cls:=.type "tuple_iterator",data:=.fields #[.ref l,.int 0 0] }).objs.size=s.heap.objs.size+1:=aj6 ..;show _/\_;rw[hz];have he:IsEnum ((s.heap.push { cls:=.type "tuple_iterator",data:=.fields #[.ref l,.int 0 0] }).push { cls:=.type "enumerate",data:=.fields #[.none,.bool false,.ref s.heap.objs.size,rawInt 0,.none,.none] }) (s.heap.objs.size+1) s.heap.objs.size 0 .none:=by
  have q:=ac0 (s.heap.push { cls:=.type "tuple_iterator",data:=.fields #[.ref l,.int 0 0] }) (o:={ cls:=.type "enumerate",data:=.fields #[.none,.bool false,.ref s.heap.objs.size,rawInt 0,.none,.none] }) rfl;rw[hz] at q;exact q
 exact⟨⟨_,he,rfl⟩,h _ he ⟨_,aa6 _ (ac0 _ rfl),rfl,rfl⟩ fun b o x=>aa6 _ (aa6 _ x)⟩
end
def jn(c:Nat)(xs:ay7):List D:=xs.zipIdx.map fun p=>.tup [.int ((c+p.2:Nat):Int),p.1]
def zD(c:Nat):D->M Wk
 |.tup xs=>M.ret ⟨jn c xs,none⟩
 |.ob n=>fun S=>match cw S n with
  |some xs=>.ok ⟨jn c xs,some (n,xs)⟩ S
  |none=>.bad
 |_=>M.bad
def zE(c:Nat)(fe:ay5):r_->M Wk:=fun r=>(fe r).bind (zD c)
section
variable{X:Cx}{e:Expr}{fe:ay5}{pos:Pos}{elts:ax8}{k1:Nat}{LZ:Pos}
def uT{pins:Hz}{σ:L2.St}{H:Hp}{s:Shared}(I:Inv X pins σ H s):∀b∈[s.heap.objs.size+1,s.heap.objs.size],LK X pins H b:=fun b hb=>by
 simp at hb;rcases hb with rfl|rfl
 ·exact I.Pd (ad9 _) (I.HH.fresh (ad9 _))
 ·exact I.Pd (aa1 _) (I.HH.fresh (aa1 _))
def AX{p:Pos}(hg:Gl X "enumerate")(hm:X.mg "enumerate"=none)(he:Ii X e fe)(hs:starEach [e] X.env=[(false,eval e X.env)]:=by rfl):PId X (.Tuple elts k1 LZ) (.Call (.Name "enumerate" p) [e] [] pos) (zE 0 fe):=by
 intro pins s σ H J r S Q E I m;have m':OX X pins σ H J (.Tuple elts k1 LZ) ((aa fe ai r).bind (uJ (zD 0)) S) Q E:=by
  unfold zE M.bind at m;unfold aa ai M.bind M.ret;cases e1:fe r S<;>(rw[e1] at m;exact m)
 refine Call_ (jL I.inv hg hm boot_enumerate (ah2 (VM (ae he ag (by rw[hs];rfl)) I m' (fun xs S1 s1 H1 J1 vs us I1 rv r1 m1=>?_) pos) hs rfl))
 match xs,m1,rv with
 |[],m1,rv=>exact m1.elim
 |_ :: _ :: _,m1,rv=>exact m1.elim
 |[x],m1,rv=>
  obtain⟨v,rfl,h1⟩:=rv.La;obtain⟨u,rfl,ru⟩:=Vals.one r1
  change OX X pins σ H1 J1 (.Tuple elts k1 LZ) (zD 0 x S1) Q E at m1
  cases x with
  |tup ys=>
   obtain⟨a,ws,rfl,hq,HZ⟩:=h1.K_;cases ru;obtain⟨y_,rl,pl,hz⟩:=I1.inv.tuple hq;refine sA pl fun h' O0 L4 hk'=>al8 O0 ?_
   refine m1 _ _ ⟨s1.heap.objs.size+1,[s1.heap.objs.size+1,s1.heap.objs.size],_,_,H1,rfl,I1.inv.kept (t':=s1.toks) hk',rJ a s1.heap.objs.size (s1.heap.objs.size+1) 0 (ar4 _),⟨⟨_,O0⟩,L4⟩,uT I1.inv,J1,Ext.refl _ _,I1.st,trivial,?_⟩;exact JQ.RT fun H2 J2 S2 x2 K9 _=>⟨ws,Kq.ext x2 hq,HZ.ext x2⟩
  |ob n=>
   obtain⟨a,rfl,hn⟩:=h1.KR;cases ru;simp only[zD] at m1;cases e1:cw S1 n with
   |none=>rw[e1] at m1;exact m1.elim
   |some ys=>
    rw[e1] at m1;obtain⟨ws,hv,HZ⟩:=I1.st.lst e1 hn;obtain⟨y_,rl,pl,hz⟩:=I1.inv.list (JH.of hv);refine call_enumerate_list pl.isList fun h' O0 L4 VP hk'=>al8 O0 ?_
    refine m1 _ _ ⟨s1.heap.objs.size+1,[s1.heap.objs.size+1,s1.heap.objs.size],_,_,H1,rfl,I1.inv.kept (t':=s1.toks) hk',xF a s1.heap.objs.size (s1.heap.objs.size+1) 0 (ar4 _),⟨⟨_,O0⟩,L4⟩,uT I1.inv,J1,Ext.refl _ _,I1.st,qw e1,?_⟩;refine JQ.UR fun H2 J2 S2 x2 K9 gk=>?_
    have TB:J2[n]?=some a:=by
     obtain⟨m,em⟩:=x2.pre;rw[em,ab4 (aa2.mp hn).1];exact hn
    obtain⟨vs2,h2,Nk⟩:=K9.at_ n _ a gk TB;exact⟨vs2,JH.of h2,Nk⟩
  |_=>exact m1.elim
def SO(X:Cx)(id:String)(g:D->List D->M D):Prop:=∀(pins:Hz) (s:Shared) (σ:L2.St) (H:Hp) (J:aw6) (S:ay4) (x:D) (xs:ay7) (vx:V) (vs:az0) (v:Value) (us:aw7) (Q E:aw4),
 Inv X pins σ H s->HB X.K H J S->s_ X.K H J x vx->l_ X.K H J xs vs->RelV vx v->Vals vs us->Mt X pins σ H J (g x xs S) Q E->wpAny (model X.prog X.w) X.A (call (.builtin id) (v :: us)) Q E s
def FE{es:ax8}{ft:ay6}(h:NO X es ft){k:ay9}{pins:Hz}{s:Shared}{σ:L2.St}{H:Hp}{J:aw6}{r:r_}{S:ay4}{Q E:aw4}{Q':List Value->Shared->Prop}(I:At X pins σ H J r S s)
  (m:Mt X pins σ H J ((ft r).bind k S) Q E) (hk:∀xs S1 s1 H1 J1 vs us,At X pins σ H1 J1 r S1 s1->Ext H J H1 J1->l_ X.K H1 J1 xs vs->Vals vs us->Mt X pins σ H1 J1 (k xs S1) Q E->Q' us s1) (pos:Pos) :
  wpAny (model X.prog X.w) X.A (spliced (backTo pos (starEach es X.env))) Q' E s:=by
 refine h pos pins s σ H J r S _ E I ?_;unfold M.bind at m;cases e1:ft r S with
 |bad=>rw[e1] at m;exact m
 |exc c S1=>rw[e1] at m;exact m
 |ok x S1=>
  rw[e1] at m;intro us s1 ⟨vs,H1,I1,r1,J1,Ks,KL,JY⟩;exact hk x S1 s1 H1 J1 vs us ⟨I1,I.loc.ext Ks,KL⟩ Ks JY r1 (Mt.ext Ks m)
def CV(x:D):M Unit:=fun S=>match x with
 |.ob n=>(match cw S n with
  |some _=>.ok () S
  |none=>.bad)
 |_=>.bad
def KU(g:D->List D->M D)(fo:ay5)(ft:ay6):r_->M D:=fun r=>(fo r).bind fun x=>(CV x).bind fun _=>(ft r).bind fun xs=>g x xs
def dw{o:Expr}{es:ax8}{fo:ay5}{ft:ay6}{name:Str}{apos IE:Pos}{id:String}{g:D->List D->M D}(slot:Slot "list" name id)(W5:typeOf (.builtin id)=pure (.type "method_descriptor"))(hm:SO X id g)
  (ho:Ii X o fo) (ha:NO X (e :: es) ft)
  (L5:attributeBase o name X.env (eval o X.env)=eval o X.env:=by rfl)
  (OB:((backTo IE (starEach (e :: es) X.env)).all (fun x=>!x.1) && (backToKw IE (keywordEach [] X.env)).all (fun x=>x.1.isSome)
   && decide ((e :: es).length+([]:List Keyword).length+(if ([]:List Keyword).isEmpty then 0 else 1)<30))=true:=by rfl)
  (L6:(apos.endLine == IE.line)=true:=by rfl) (hs:starEach (e :: es) X.env=(false,eval e X.env) :: starEach es X.env:=by rfl) (L7:(backTo IE (starEach es X.env)).any (·.1)=false:=by rfl) :
  Ii X (.Call (.Attribute o name apos) (e :: es) [] IE) (KU g fo ft):=by
 intro pins s σ H J r S Q E I m;refine ao6 L5 OB L6 rfl (ho pins s σ H J r S _ E I ?_);unfold KU M.bind at m;cases e1:fo r S with
 |bad=>rw[e1] at m;exact m
 |exc c S1=>rw[e1] at m;exact m
 |ok x S1=>
  rw[e1] at m;dsimp only at m;rintro v s1 ⟨vx,H1,I1,r1,J1,Ks,KL,JY⟩;cases x with
  |ob n=>
   obtain⟨a,rfl,hn⟩:=JY.KR;simp only[CV] at m;cases e2:cw S1 n with
   |none=>rw[e2] at m;exact m.elim
   |some xs=>
    rw[e2] at m;obtain⟨ws,hv,HZ⟩:=KL.lst e2 hn;obtain⟨h1,h2⟩:=E9 I1 r1 (T:="list") (.inl ⟨rfl,ws,JH.of hv⟩);refine⟨"list",id,PySem.F.plainAttrs_list,slot,W5,h1,h2,?_⟩;have m:=Mt.ext Ks m;have hA:=FE (k:=fun xs=>g (.ob n) xs) (Q':=fun us s2=>wpAny (model X.prog X.w) X.A (call (.builtin id) (v :: us)) Q E s2) ha ⟨I1,I.loc.ext Ks,KL⟩ m (fun xs S2 s2 H2 J2 vs us I2 x2 rv r2 m2=>?_) IE
    ·rw[hs] at hA ⊢;exact ao7 (by show(false || (backTo IE (starEach es X.env)).any (·.1))=false;rw[L7]<;>rfl) (as4 hA)
    ·exact hm pins s2 σ H2 J2 S2 (.ob n) xs (.ref a) vs v us Q E I2.inv I2.st (JY.ext x2) rv r1 r2 m2
  |_=>exact m.elim
def iN:D->List D->M D
 |.ob n,[y]=>fun S=>match cw S n with
  |some xs=>Ka (xs.length<sizeLine) (.ok .Hw (S.set n (.lst (xs++[y])))) .bad
  |none=>.bad
 |_,_=>M.bad
def cH:SO X "list.append" iN:=by
 intro pins s σ H J S x xs vx vs v us Q E I rs rx Nn rv HZ m
 match x,xs,m,rx,Nn with
 |.ob n,[y],m,rx,Nn=>
  obtain⟨a,rfl,hn⟩:=rx.KR;obtain⟨w,rfl,Lg⟩:=Nn.La;simp only[iN,Ka] at m;cases e1:cw S n with
  |none=>rw[e1] at m;exact m.elim
  |some xs=>
   rw[e1] at m;dsimp only at m;obtain⟨ws,hv,rws⟩:=rs.lst e1 hn;split at m
   ·rename_i hz;refine ad6 (ui (X:=X.HV E) pins s σ H (.ref a) [w] v us (Got X.K H J .Hw (S.set n (.lst (xs++[y])))) (I.HV E) rv HZ ⟨a,ws,w,rfl,rfl,hv,by rw[rws.length];exact hz,?_⟩) (fun u s' q=>m u s' (EP.HR q)) fun _ _ z=>z
    have x9:Ext H J (upd H a (.lst (ws++[w]))) J:=Ext.write hv rfl;exact⟨J,x9,rs.write hn ⟨_,bF,(rws.ext x9).append (.one (Lg.ext x9))⟩,s_.Hw _ _ _⟩
   ·exact m.elim
 |.ob n,[],m,_,_=>exact m.elim
 |.ob n,_ :: _ :: _,m,_,_=>exact m.elim
 |.Hw,xs,m,_,_=>cases xs<;>exact m.elim
 |.bl _,xs,m,_,_=>cases xs<;>exact m.elim
 |.int _,xs,m,_,_=>cases xs<;>exact m.elim
 |.str _,xs,m,_,_=>cases xs<;>exact m.elim
 |.tup _,xs,m,_,_=>cases xs<;>exact m.elim
 |.Kh _,xs,m,_,_=>cases xs<;>exact m.elim
 |.xn _,xs,m,_,_=>cases xs<;>exact m.elim
end
structure JU(P:ay1)(w:ay3)(K:aw5)(mg:aw9)(base:Heap)(CX:Lx)(x:Str)(k:Nat)(ps:ax0)(F:ay9):Prop where
 ex:∃f fd,mg x=some (.ref f)/\keepIn K (.ref f)=true/\Binds K fd ps []/\IP P w K mg base CX k f fd ps F
def aM{X:Cx}{CX:Lx}{k:Nat}{ps:ax0}{F:ay9}{x:Str}{p pos:Pos}{e:Expr}{es:ax8}{ft:ay6}(h:JU X.prog X.w X.K X.mg X.base CX x k ps F)(hr:I0 k X.A)(hg:Gl X x)(hx:o0 CX X)(ha:NO X (e :: es) ft)
  (hl:∀r S xs S',ft r S=.ok xs S'->xs.length=ps.length)
  (Pg:(x == ("__debug__":Str))=false:=by decide) (he:starEach (e :: es) X.env=(false,eval e X.env) :: starEach es X.env:=by rfl) (M8:(backTo pos (starEach es X.env)).any (·.1)=false:=by rfl) :
  Ii X (.Call (.Name x p) (e :: es) [] pos) (aj F ft):=by
 obtain⟨f,fd,hm,hk,hb,hF⟩:=h.ex;exact DS hF hr hg hm hk hb hx ha hl Pg he M8
def aF:∀(r:r_) (S:ay4) (xs:ay7) (S':ay4),ai r S=.ok xs S'->xs.length=0:=by
 intro r S xs S' e;cases e;rfl
def am{n:Nat}{f:ay5}{g:ay6}(h:∀(r:r_) (S:ay4) (xs:ay7) (S':ay4),g r S=.ok xs S'->xs.length=n):∀(r:r_) (S:ay4) (xs:ay7) (S':ay4),aa f g r S=.ok xs S'->xs.length=n+1:=by
 intro r S xs S' e;unfold aa M.bind at e;cases e1:f r S with
 |bad=>rw[e1] at e;cases e
 |exc c S1=>rw[e1] at e;cases e
 |ok x S1=>
  rw[e1] at e;dsimp only at e;cases e2:g r S1 with
  |bad=>rw[e2] at e;cases e
  |exc c S1=>rw[e2] at e;cases e
  |ok ys S2=>
   rw[e2] at e;have e':R.ok (x :: ys) S2=R.ok xs S':=e
   injection e' with e3 e4
   rw[<-e3,ab8,h r S1 ys S2 e2]
def fin(S0:ay4):Oi->R D
 |some (.rt d,S')=>.ok d S'
 |some (.nx _,S')=>.ok .Hw S'
 |some (.xc c _,S')=>.exc c S'
 |_=>.bad
def nM{S0:ay4}{x:Oi}:Fk S0 x (fin S0 x):=by
 match x with
 |none=>trivial
 |some (.rt d,S')=>exact⟨[],.inl rfl,.inl (by rw[ae4])⟩
 |some (.nx r,S')=>exact⟨[],.inl rfl,.inr ⟨rfl,r,by rw[ae4]⟩⟩
 |some (.xc c r,S')=>exact⟨r,rfl⟩
 |some (.bk r,S')=>trivial
 |some (.ct r,S')=>trivial
open Classical in
def cP(S0:ay4):Oi->R D
 |some (.rt d,S')=>if (∃G,S'=S0++G)/\Jm S0.length d then .ok d S0 else .bad
 |some (.nx _,S')=>if ∃G,S'=S0++G then .ok .Hw S0 else .bad
 |some (.xc c _,S')=>.exc c S'
 |_=>.bad
def Ap{S0:ay4}{x:Oi}:Fk S0 x (cP S0 x):=by
 match x with
 |none=>trivial
 |some (.rt d,S')=>
  simp only[cP];by_cases h:(∃G,S'=S0++G)/\Jm S0.length d
  ·rw[ab2 h];obtain⟨⟨G,rfl⟩,hd⟩:=h;exact⟨G,.inr ⟨aa1 _,hd,.inl rfl⟩,.inl rfl⟩
  ·rw[ab1 h];trivial
 |some (.nx r,S')=>
  simp only[cP];by_cases h:∃G,S'=S0++G
  ·rw[ab2 h];obtain⟨G,rfl⟩:=h;exact⟨G,.inr ⟨aa1 _,by unfold Jm;trivial,.inl rfl⟩,.inr ⟨rfl,r,rfl⟩⟩
  ·rw[ab1 h];trivial
 |some (.xc c r,S')=>exact⟨r,rfl⟩
 |some (.bk r,S')=>trivial
 |some (.ct r,S')=>trivial
def hV:r_->M Bool:=fun _=>M.ret true
def Kv:D->D->M D:=vk fun i j=>decide (i<j)
def O1:D->D->M D:=vk fun i j=>decide (i<=j)
def PK:D->D->M D:=vk fun i j=>decide (j<i)
def L8:D->D->M D:=vk fun i j=>decide (j<=i)
def D2:List D->M D:=wz fun i j=>if j > i then j else i
def AH:List D->M D:=wz fun i j=>if j<i then j else i
def P8(g:D->M D)(fa:ay5):r_->M D:=fun r=>(fa r).bind g
def Bu{X:Cx}{a:Expr}{fa:ay5}{pos:Pos}{op:UnaryOp}{g:D->M D}(ho:UD X (unaryOp op) g)(ha:Ii X a fa):Ii X (.UnaryOp op a pos) (P8 g fa):=by
 intro pins s σ H J r S Q E I m;refine UnaryOp_ (ha pins s σ H J r S _ E I ?_);unfold P8 M.bind at m;cases e1:fa r S with
 |bad=>rw[e1] at m;exact m
 |exc c S1=>rw[e1] at m;exact m
 |ok x S1=>
  rw[e1] at m;rintro v s1 ⟨vx,H1,I1,r1,J1,ex,rs,rv⟩;exact ho pins s1 σ H1 J1 S1 x vx v Q E I1 rs rv r1 (Mt.ext ex m)
def uU:D->M D
 |.int i=>M.ret (.int (-i))
 |_=>M.bad
def xz{X:Cx}:UD X (unaryOp .USub) uU:=by
 refine UD.of (fun E=>FH) (fun H J S x vx d S' rs rx e=>?_) (fun x S c S' e=>?_)
 ·cases x with
  |int i=>
   cases rx.IT;cases e;exact⟨i,rfl,J,Ext.refl _ _,rs,s_.int _ _ _ _⟩
  |_=>cases e
 ·cases x with
  |int i=>cases e
  |_=>cases e
def oC(x:D):M Bool:=fun S=>match x with
 |.Hw=>.ok false S
 |.bl b=>.ok b S
 |.int i=>.ok (i != 0) S
 |.tup xs=>.ok (!xs.isEmpty) S
 |.Kh xs=>.ok (!xs.isEmpty) S
 |.ob n=>(match S[n]? with
  |some (.lst xs)=>.ok (!xs.isEmpty) S
  |some (.Js kvs)=>.ok (!kvs.isEmpty) S
  |_=>.bad)
 |_=>.bad
def bM(f:ay5):r_->M Bool:=fun r=>(f r).bind oC
theorem l_.isEmpty{K:aw5}{H:Hp}{J:aw6}{xs:ay7}{vs:az0}(h:l_ K H J xs vs):vs.isEmpty=xs.isEmpty:=by
 have:=h.length;cases xs with
 |nil=>cases vs with
  |nil=>rfl
  |cons _ _=>cases this
 |cons _ _=>cases vs with
  |nil=>cases this
  |cons _ _=>rfl
theorem Hv.isEmpty{κ:Type}{K:aw5}{H:Hp}{J:aw6}{xs:List (κ×D)}{vs:List (κ×V)}(h:Hv K H J xs vs):vs.isEmpty=xs.isEmpty:=by
 have:=h.length;cases xs with
 |nil=>cases vs with
  |nil=>rfl
  |cons _ _=>cases this
 |cons _ _=>cases vs with
  |nil=>cases this
  |cons _ _=>rfl
def cE{X:Cx}{a:Expr}{fa:ay5}(ha:Ii X a fa)(he:∀whole,isTrue a X.env whole=(do let v <-whole;standAt a.pos;holding [v] (truthy v)):=by intro _;rfl):OW X a (bM fa):=by
 intro pins s σ H J r S Q E I m;refine isTrue_plain (ha pins s σ H J r S _ E I ?_) (he _);unfold bM M.bind at m;cases e1:fa r S with
 |bad=>rw[e1] at m;exact m
 |exc c S1=>rw[e1] at m;exact m
 |ok x S1=>
  rw[e1] at m;rintro v s1 ⟨vx,H1,I1,r1,J1,ex,rs,rv⟩;have fin:∀k,Gr X.K vx H1 k->oC x S1=.ok k S1->wpAny (model X.prog X.w) X.A (truthy v) Q E s1:=fun k ht hk=>by
   dsimp only at m;rw[hk] at m;exact ad6 (FG (X:=X.HV E) pins s1 σ H1 vx v (fun b H'=>b=k/\H'=H1) (I1.HV E) r1 ⟨k,ht,rfl,rfl⟩) (fun b s2 ⟨H2,I2,hb,hH⟩=>by subst hb hH;exact m s2 ⟨_,I2.HR,J1,ex,rs⟩) fun _ _ z=>z
  cases x with
  |Hw=>cases rv.Ov;exact fin false rfl rfl
  |bl b=>cases rv.QJ;exact fin b rfl rfl
  |int i=>cases rv.IT;exact fin _ rfl rfl
  |tup xs=>
   obtain⟨a,vs,rfl,hq,HZ⟩:=rv.K_;exact fin _ (.inr (.inl ⟨vs,hq,by rw[HZ.isEmpty]⟩)) rfl
  |Kh xs=>
   obtain⟨a,vs,rfl,hq,HZ⟩:=rv.Nl;exact fin _ (.inl ⟨vs,hq.sq,by rw[HZ.isEmpty]⟩) rfl
  |ob n=>
   obtain⟨a,rfl,hn⟩:=rv.KR;obtain⟨c,hc,rc⟩:=rs.L1 hn;cases c with
   |lst xs=>
    obtain⟨vs,hv,HZ⟩:=rc;exact fin (!xs.isEmpty) (.inl ⟨vs,JH.of hv,by rw[HZ.isEmpty]⟩) (by simp only[oC,hc])
   |Js xs=>
    obtain⟨vs,hv,HZ⟩:=rc;exact fin (!xs.isEmpty) (.inr (.inr ⟨vs,hv,by rw[HZ.isEmpty]⟩)) (by simp only[oC,hc])
   |ins C ns ds=>
    dsimp only[oC] at m;rw[hc] at m;exact m.elim
  |_=>exact m.elim
def Lp(X:Cx):List (Str×Addr)->Prop
 |[]=>True
 |p :: r=>X.env.cells.lookup p.1=some p.2/\Lp X r
theorem Lp.all{X:Cx}:∀{cl:List (Str×Addr)},Lp X cl->∀p∈cl,X.env.cells.lookup p.1=some p.2
 |[],_,p,hp=>by cases hp
 |q :: r,h,p,hp=>by
  rcases ac7.mp hp with rfl|hp
  ·exact h.1
  ·exact Lp.all h.2 p hp
def yI(K:aw5):Sp:=fun vs H Q _=>∃(a:Addr) (ns:ax3),vs=[.ref a]/\JH K H a (ns.map V.int)/\ns.length<=63/\Ds H/\∀H',Q (.bl true) H'
def BY{K:aw5}{F:ay9}(hF:∀ns:List Int,ns.length<=63->∃S',F [.Kh (ns.map D.int)] []=.ok (.bl true) S'):∀vs H Q E,yI K vs H Q E->ZE K 1 F vs H Q E:=by
 rintro vs H Q E ⟨a,ns,rfl,hS,hl,ho,k⟩;refine⟨rfl,[],[.Kh (ns.map D.int)],[],?_,⟨rfl,nodup_nil,fun n c a h=>by simp at h⟩,?_⟩
 ·refine .one ?_;unfold s_;refine⟨a,ns.map V.int,rfl,?_,l_.ints ns⟩;rcases hS with (h|⟨o,h⟩)|h
  ·rcases ho a with e|⟨o,xs,e⟩
   ·rw[h] at e;cases e
   ·rw[h] at e;cases e
  ·exact .inl ⟨o,h⟩
  ·exact .inr h
 ·obtain⟨S',e⟩:=hF ns hl;rw[e];rintro v H' ⟨J',_,_,rv⟩;rw[rv.QJ];exact k H'
@[simp] theorem Gh{α:Type}{a b:α}:Ka True a b=a:=bY trivial
@[simp] theorem FO{α:Type}{a b:α}:Ka False a b=b:=uY (fun h=>h)
theorem db{g:Option (Nat×List D)}{tg:Mx}{b:HK}(Iv:Nat->r_->List Cell->Prop):∀(items:ay7) (k:Nat) (r:r_) (S:ay4),
  (∀i x r S,items[i]?=some x->Iv (k+i) r S->∃r1 r2 S2,tg x r=some r1/\b r1 S=some (.nx r2,S2)/\Lo g S2/\Iv (k+i+1) r2 S2)->Iv k r S->
  ∃r' S',ji g tg b items r S=some (.nx r',S')/\Iv (k+items.length) r' S'
 |[],k,r,S,_,h=>⟨r,S,rfl,by simpa using h⟩
 |x :: xs,k,r,S,hs,h=>by
  obtain⟨r1,r2,S2,h1,h2,h3,h4⟩:=hs 0 x r S rfl h;obtain⟨r',S',e1,e2⟩:=db Iv xs (k+1) r2 S2 (fun i y r S hy hi=>by
   have:=hs (i+1) y r S (by simpa using hy) (by rw[show k+(i+1)=k+1+i by omega];exact hi);rw[show k+(i+1)+1=k+1+i+1 by omega] at this;exact this) h4
  refine⟨r',S',?_,by rw[ab8,show k+(xs.length+1)=k+1+xs.length by omega];exact e2⟩;unfold ji;rw[h1];dsimp only;rw[h2];dsimp only;rw[ab2 h3];exact e1
theorem rB(S:ay4)(n:Nat):∀is:List Int,KS S (n+1) (is.map D.int)=some (is.map PyData.int)
 |[]=>by simp[KS]
 |i :: is=>by simp[KS,pD,rB S n is]
def mG(S:ay4)(n:Nat)(is:ax3):pD S (n+2) (.tup (is.map D.int))=some (.tuple (is.map PyData.int)):=by
 simp[pD,rB]
theorem lK:∀is js:List Int,PyData.eqvAll (is.map PyData.int) (js.map PyData.int)=decide (is=js)
 |[],[]=>by simp[PyData.eqvAll]
 |[],_ :: _=>by simp[PyData.eqvAll]
 |_ :: _,[]=>by simp[PyData.eqvAll]
 |i :: is,j :: js=>by
  simp only[ac2,PyData.eqvAll,PyData.eqv,lK is js,List.cons.injEq];by_cases h1:i=j<;>by_cases h2:is=js<;>simp[h1,h2]
def B7(S:ay4)(is js:ax3):Kc (.tup (is.map D.int)) (.tup (js.map D.int)) S=.ok (.bl (!decide (is=js))) S:=by
 simp only[Kc,mG S 28,PyData.eqv,lK]
def Er(S:ay4)(i j:Int):HJ (.int i) (.int j) S=.ok (.bl (decide (i=j))) S:=by
 have e:(i == j)=decide (i=j):=by
  by_cases h:i=j<;>simp[h]
 simp only[HJ,pD,PyData.eqv,e]
def Dg(S:ay4)(i j:Int):Kc (.int i) (.int j) S=.ok (.bl (!decide (i=j))) S:=by
 have e:(i == j)=decide (i=j):=by
  by_cases h:i=j<;>simp[h]
 simp only[Kc,pD,PyData.eqv,e]
def xX{S:ay4}{n:Nat}(h:n<=1000000):vS 0 (n:Int) 1 S=.ok ⟨fw 0 1 n,none⟩ S:=by
 have hs:small 0 (n:Int) 1=true:=small_one (by omega) (by omega) (by omega) (by omega);unfold vS;have e:(if (0:Int)<(n:Int) then (n:Int)-0 else 0).toNat=n:=by split<;>omega
 rw[bY ⟨⟨by omega,by omega⟩,hs⟩,rangeSize_one,e]
def sX{xs:ay7}{k:Nat}(h:k<=xs.length):fQ xs none (some (k:Int))=xs.take k:=by
 unfold fQ;rw[HT.Ll,HT.Kk,ag7 h];simp
def gf{xs:ay7}{k:Nat}(h:k<=xs.length):fQ xs (some (k:Int)) none=xs.drop k:=by
 unfold fQ;rw[HT.Ll,HT.Kk,ag7 h];rw[ah4];simp
end DL
namespace DL
open PySem PySem.Spec PyProof.Rows L2
open AutoSeq1 (wpAny_loadPart')
open SeqAt
theorem jS{prog:ay1}{w:ay3}{A:ay2}{items:ax2}{x:Value}{e:Value->Bool}{j:Nat}(hj:j<items.size)(hit:e items[j]=true)(OS:∀m (hm:m<items.size),m<j->e items[m]=false){s:Shared}
  (he:∀y,y∈items->EqAt A s y x (e y)) {Q:Option PySem.Fin×PUnit->Shared->Prop}{E:aw4}(hQ:Q (some (.done (.ret (.int j s.toks))),()) { s with toks:=s.toks+1 }):∀(k pre:Nat),pre+k=items.size->pre<=j->
  wpAny (model prog w) A (forIn (range' pre k) ((none,()):Option PySem.Fin×PUnit) fun(i:Nat) (_:Option PySem.Fin×PUnit)=>match items[i]? with
      |some y=>do
       let b <-eqBool y x
       if b=true then do
         let r <-retInt ((i:Nat):Int)
         pure (ForInStep.done (some r,()))
        else pure (ForInStep.yield (none,()))
      |_=>pure (ForInStep.yield (none,()))) Q E s
 |0,pre,h1,h2=>by omega
 |k+1,pre,h1,h2=>by
  rw[List.range'_succ,List.forIn_cons];have hp:pre<items.size:=by omega
  have hg:items[pre]?=some items[pre]:=by simp[hp]
  rw[hg];dsimp only;refine aa0 (aa0 (he _ (Array.getElem_mem hp) prog w E _ ?_));by_cases hpj:pre=j
  ·subst hpj;rw[hit,ab2 rfl];refine aa0 (m:=retInt _) (aa0 (wpAny_mkInt (aa4 ?_)));exact aa4 (aa4 hQ)
  ·rw[OS pre hp (by omega),ab1 (by decide)];exact aa4 (jS hj hit OS he hQ k (pre+1) (by omega) (by omega))
def nk(l:Addr)(items:ax2)(n:Nat)(dd:Option Addr)(sl:ax9)(x:Value)(e:Value->Bool)(j:Nat)(hj:j<items.size)
  (hit:e items[j]=true) (OS:∀m (hm:m<items.size),m<j->e items[m]=false) :
  Meets (Builtin.«tuple.index» ⟨[.ref l,x],[]⟩)
   (fun A R s=>s.heap.get? l=some { cls:=.type "tuple",dict:=dd,data:=.seq items n,slots:=sl }/\(∀y,y∈items->EqAt A.in1 s y x (e y))/\R (.ok (.ret (.int j s.toks))) { s with toks:=s.toks+1 }):=by
 refine .of_wp fun prog w A R s h=>?_
 obtain⟨hp,g,d,tk,os⟩:=s;obtain⟨hl,he,h⟩:=h;unfold Builtin.«tuple.index»;simp only[Std.Legacy.Range.forIn_eq_forIn_range']
 wp_walk using wpAny_loadPart' hl
 refine jS (s:=⟨hp,g,d,tk,os⟩) hj hit OS he ?_ _ 0 ?_ (ae7 _)
 ·exact aa4 ⟨_,rfl,h⟩
 ·simp[Std.Legacy.Range.size]
def fv:D->Option V
 |.Hw=>some .Hw
 |.bl b=>some (.bl b)
 |.int i=>some (.int i)
 |.str x=>some (.str x)
 |_=>none
def Q6:List D->Option (List V)
 |[]=>some []
 |x :: xs=>match fv x,Q6 xs with
  |some v,some vs=>some (v :: vs)
  |_,_=>none
def yr{K:aw5}{H:Hp}{J:aw6}{d:D}{v w:V}(h:fv d=some w)(r:s_ K H J d v):v=w/\j0 w=true:=by
 cases d with
 |Hw=>cases h;exact⟨r.Ov,rfl⟩
 |bl b=>cases h;exact⟨r.QJ,rfl⟩
 |int b=>cases h;exact⟨r.IT,rfl⟩
 |str b=>cases h;exact⟨r.P0,rfl⟩
 |_=>cases h
theorem uq{K:aw5}{H:Hp}{J:aw6}:∀{xs:ay7}{vs ws:az0},Q6 xs=some ws->l_ K H J xs vs->vs=ws/\ws.all j0=true
 |[],vs,ws,h,r=>by
  cases h;unfold l_ at r;exact⟨r,rfl⟩
 |x :: xs,vs,ws,h,r=>by
  unfold l_ at r;obtain⟨v,t,rfl,r1,r2⟩:=r;unfold Q6 at h;cases e1:fv x with
  |none=>rw[e1] at h;cases h
  |some w=>
   cases e2:Q6 xs with
   |none=>rw[e1,e2] at h;cases h
   |some ZM=>
    rw[e1,e2] at h;cases h;obtain⟨rfl,h1⟩:=yr e1 r1;obtain⟨rfl,h2⟩:=uq e2 r2;exact⟨rfl,by simp[h1,h2]⟩
def inD(x y:D):M D:=fun S=>match fv x,gj S y with
 |some w,some ys=>(match Q6 ys with
  |some ws=>.ok (.bl (OT w ws)) S
  |none=>.bad)
 |_,_=>.bad
section
variable{X:Cx}
def FV(hu:X.A.units+64<cLine):Lu X (compareOp .In) inD:=by
 intro pins s σ H J S x y vx vy v u Q E I rs rx ry rv ru m;unfold inD at m;cases e1:fv x with
 |none=>rw[e1] at m;exact m.elim
 |some w=>
  cases e2:gj S y with
  |none=>rw[e1,e2] at m;exact m.elim
  |some ys=>
   rw[e1,e2] at m;dsimp only at m;cases e3:Q6 ys with
   |none=>rw[e3] at m;exact m.elim
   |some ws=>
    rw[e3] at m;obtain⟨rfl,h1⟩:=yr e1 rx;obtain⟨a,vs,rfl,hq,HZ⟩:=lQ rs ry e2;obtain⟨rfl,h2⟩:=uq e3 HZ;exact ad6 (Az (X:=X.HV E) pins s σ H vx (.ref a) v u (Got X.K H J (.bl (OT vx vs)) S) (I.HV E) rv ru ⟨a,vs,rfl,hq,h1,h2,J,Ext.refl _ _,rs,s_.bl _ _ _ _⟩) (fun u s' q=>m u s' (EP.HR q)) fun _ _ z=>z
def ia:List D->Option (List Int)
 |[]=>some []
 |.int i :: xs=>(ia xs).map (i :: ·)
 |_ :: _=>none
def o3:List D->Option (List Bool)
 |[]=>some []
 |.bl i :: xs=>(o3 xs).map (i :: ·)
 |_ :: _=>none
theorem kC:∀{xs:ay7}{is:ax3},ia xs=some is->xs=is.map D.int
 |[],is,h=>by cases h;rfl
 |x :: xs,is,h=>by
  cases x with
  |int i=>
   simp only[ia] at h;cases e:ia xs with
   |none=>rw[e] at h;cases h
   |some js=>
    rw[e] at h;cases h;rw[kC e];rfl
  |_=>cases h
theorem tF:∀{xs:ay7}{is:List Bool},o3 xs=some is->xs=is.map D.bl
 |[],is,h=>by cases h;rfl
 |x :: xs,is,h=>by
  cases x with
  |bl i=>
   simp only[o3] at h;cases e:o3 xs with
   |none=>rw[e] at h;cases h
   |some js=>
    rw[e] at h;cases h;rw[tF e];rfl
  |_=>cases h
theorem eX:∀is:List Int,ia (is.map D.int)=some is
 |[]=>rfl
 |i :: is=>by simp[ia,eX is]
theorem oq:∀is:List Bool,o3 (is.map D.bl)=some is
 |[]=>rfl
 |i :: is=>by simp[o3,oq is]
def oR:List D->M D
 |[x]=>fun S=>match gj S x with
  |some xs=>(match ia xs with
   |some is=>.ok (.int is.sum) S
   |none=>.bad)
  |none=>.bad
 |_=>M.bad
def vn:List D->M D
 |[x]=>fun S=>match gj S x with
  |some xs=>(match o3 xs with
   |some is=>.ok (.bl (is.all id)) S
   |none=>.bad)
  |none=>.bad
 |_=>M.bad
theorem pb(is:ax3):∀n,n<=is.length->preSum (fun i=>is.getD i 0) n=(is.take n).sum
 |0,_=>by simp[preSum]
 |n+1,h=>by
  rw[preSum,pb is n (by omega),al2,List.sum_append];have hg:is[n]?=some (is.getD n 0):=by simp[getD,ab9 (show n<is.length by omega)]
  rw[hg];simp
def zS(is:List Bool):(range is.length).all (fun i=>is.getD i true)=is.all id:=by
 rw[Bool.eq_iff_iff,av9,av9];constructor
 ·intro h b hb;obtain⟨i,hi,rfl⟩:=ak1.mp hb;have:=h i (ah3.mpr hi);simpa[getD,ab9 hi] using this
 ·intro h i hi;have hi:=ah3.mp hi;have:=h _ (aw0 hi);simpa[getD,ab9 hi] using this
theorem lL{α:Type}{f:α->D}{g:α->V}{K:aw5}{H:Hp}{J:aw6}(ZN:∀a v,s_ K H J (f a) v->v=g a):∀{as:List α}{vs:az0},l_ K H J (as.map f) vs->vs=as.map g
 |[],vs,h=>by unfold l_ at h;simpa using h
 |a :: as,vs,h=>by
  rw[ac2] at h;unfold l_ at h;obtain⟨v,r,rfl,h1,h2⟩:=h;rw[ZN a v h1,lL ZN h2];rfl
def vP{pins:Hz}{σ:L2.St}{H:Hp}{s:Shared}{a:Addr}{vs:az0}(hc:X.calm=true)(I:Inv X pins σ H s)(hq:JH X.K H a vs\/Kq X.K H a vs){Q E:aw4}
  (h:∀(it:Addr) (fp:aw6) (St:Nat->Heap->Prop) (y_:aw7) (s2:Shared),Vals vs y_->Walks X.prog X.w X.A.in1 it fp [it] y_.length (fun i v=>y_[i]?=some v) St->St 0 s2.heap->(∀b∈fp,b<s2.heap.objs.size)->s2.toks=s.toks->
   (∀h' tk,(∀b o,b∉[it]->s2.heap.get? b=some o->h'.get? b=some o)->Inv X pins σ H { s2 with heap:=h',toks:=tk })->Q (.ref it) s2):wpAny (model X.prog X.w) X.A.in1 (pyIter (.ref a)) Q E s:=by
 rcases hq with hq|hq
 ·obtain⟨y_,rl,pl,hz⟩:=I.list hq;have JZ:a<s.heap.objs.size:=by
   obtain⟨o,ho,_⟩:=pl.isList;exact ac6 ho
  refine ao5 pl.isList (h s.heap.objs.size [s.heap.objs.size,a] (fun i h=>h.IsListIter s.heap.objs.size a i/\h.IsList a y_.toArray) y_ _ rl (by simpa using Walks.list (prog:=X.prog) (w:=X.w) (A:=X.A.in1) (I.ok.hd hc) s.heap.objs.size a (ad0 JZ) y_.toArray) ⟨⟨_,ac0 _ rfl,rfl,rfl⟩,pl.isList.at fun o e=>aa6 _ e⟩ (fun b hb=>?_) rfl fun h' tk hk=>?_)
  ·simp at hb;rw[aj6];rcases hb with rfl|rfl
   ·exact ag2 _
   ·exact ae3 JZ
  ·exact I.kept fun b o e=>hk b o (by simp;exact ad0 (ac6 e)) (aa6 _ e)
 ·obtain⟨y_,rl,pl,hz⟩:=I.tuple hq;have hT:s.heap.IsTuple a y_.toArray:=pl;have JZ:a<s.heap.objs.size:=by
   obtain⟨o,ho,_⟩:=hT;exact ac6 ho
  refine ag9 hT (h s.heap.objs.size [s.heap.objs.size,a] (fun i h=>h.IsTupleIter s.heap.objs.size a i/\h.IsTuple a y_.toArray) y_ _ rl (by simpa using Walks.tuple (prog:=X.prog) (w:=X.w) (A:=X.A.in1) (I.ok.hd hc) s.heap.objs.size a (ad0 JZ) y_.toArray) ⟨⟨_,ac0 _ rfl,rfl,rfl⟩,hT.at fun o e=>aa6 _ e⟩ (fun b hb=>?_) rfl fun h' tk hk=>?_)
  ·simp at hb;rw[aj6];rcases hb with rfl|rfl
   ·exact ag2 _
   ·exact ae3 JZ
  ·exact I.kept fun b o e=>hk b o (by simp;exact ad0 (ac6 e)) (aa6 _ e)
def xq(hc:X.calm=true):Jp X (.builtin "sum") oR:=by
 intro pins s σ H J S xs vs us Q E I rs rx rv m
 match xs,m,rx with
 |[],m,rx=>exact m.elim
 |_ :: _ :: _,m,rx=>exact m.elim
 |[x],m,rx=>
  obtain⟨v,rfl,h1⟩:=rx.La;obtain⟨u,rfl,ru⟩:=Vals.one rv;simp only[oR] at m;cases e1:gj S x with
  |none=>rw[e1] at m;exact m.elim
  |some ys=>
   rw[e1] at m;dsimp only at m;cases e2:ia ys with
   |none=>rw[e2] at m;exact m.elim
   |some is=>
    rw[e2] at m;cases kC e2;obtain⟨a,ws,rfl,hq,HZ⟩:=lQ rs h1 e1;cases ru;have ew:=lL (g:=V.int) (fun i v h=>h.IT) HZ;subst ew;refine call_sum_walkG (vP hc I hq fun it fp St y_ s2 rl W st hf Zs hI=>?_);have hi:=yu rl;have hlen:y_.length=is.length:=by have:=rl.length;simpa using this.symm
    refine⟨it,fp,[it],y_.length,_,St,(fun i=>is.getD i 0),rfl,W,st,hf,?_,?_⟩
    ·intro i v hv;obtain⟨x,hx,rx⟩:∃x,(is.map V.int)[i]?=some x/\RelV x v:=by
      have JZ:=(aa2.mp hv).1;obtain⟨u,hu,ru⟩:=Vals.get (x:=.int (is.getD i 0)) rl (i:=i) (by simp[getD,ab9 (show i<is.length by omega)]);rw[hv] at hu;cases hu;exact⟨_,by simp[getD,ab9 (show i<is.length by omega)],ru⟩
     rw[ac8] at hx;cases e:is[i]? with
     |none=>rw[e] at hx;cases hx
     |some k=>
      rw[e] at hx;cases hx;obtain⟨t,rfl⟩:=rx;exact⟨t,by simp[getD,e]⟩
    ·intro h' tk t' hk;rw[hlen,pb is _ (aa1 _),an8];exact m.Ku (hI h' tk hk) rs (s_.int _ _ _ _) ⟨_,rfl⟩
def AT(hc:X.calm=true):Jp X (.builtin "all") vn:=by
 intro pins s σ H J S xs vs us Q E I rs rx rv m
 match xs,m,rx with
 |[],m,rx=>exact m.elim
 |_ :: _ :: _,m,rx=>exact m.elim
 |[x],m,rx=>
  obtain⟨v,rfl,h1⟩:=rx.La;obtain⟨u,rfl,ru⟩:=Vals.one rv;simp only[vn] at m;cases e1:gj S x with
  |none=>rw[e1] at m;exact m.elim
  |some ys=>
   rw[e1] at m;dsimp only at m;cases e2:o3 ys with
   |none=>rw[e2] at m;exact m.elim
   |some is=>
    rw[e2] at m;cases tF e2;obtain⟨a,ws,rfl,hq,HZ⟩:=lQ rs h1 e1;cases ru;have ew:=lL (g:=V.bl) (fun i v h=>h.QJ) HZ;subst ew;refine call_all_walk (vP hc I hq fun it fp St y_ s2 rl W st hf Zs hI=>?_);have hlen:y_.length=is.length:=by have:=rl.length;simpa using this.symm
    refine⟨it,fp,[it],y_.length,_,St,(fun i=>is.getD i true),rfl,W,st,?_,?_⟩
    ·intro i v s Q E hv hQ;have JZ:=(aa2.mp hv).1;obtain⟨u,hu,ru⟩:=Vals.get (x:=.bl (is.getD i true)) rl (i:=i) (by simp[getD,ab9 (show i<is.length by omega)]);rw[hv] at hu;cases hu;cases ru;exact ak0 hQ
    ·intro h' tk hk;rw[hlen,zS];exact m.Ku (hI h' tk hk) rs (s_.bl _ _ _ _) rfl
def rD(w:V):List V->Option Nat
 |[]=>none
 |y :: ys=>if PH y w=true then some 0 else (rD w ys).map (·+1)
theorem zA{w:V}:∀{ys:az0}{j:Nat},rD w ys=some j->∃h:j<ys.length,PH ys[j] w=true/\∀m (hm:m<ys.length),m<j->PH ys[m] w=false
 |[],j,h=>by cases h
 |y :: ys,j,h=>by
  unfold rD at h;split at h
  ·rename_i e;cases h;exact⟨by simp,e,fun m hm h0=>absurd h0 (aw1 _)⟩
  ·rename_i e;cases e2:rD w ys with
   |none=>rw[e2] at h;cases h
   |some k=>
    rw[e2] at h;cases h;obtain⟨h1,h2,h3⟩:=zA e2;refine⟨by simp;omega,by simpa using h2,fun m hm hk=>?_⟩;cases m with
    |zero=>simpa using e
    |succ m=>simpa using h3 m (by simpa using hm) (Nat.lt_of_succ_lt_succ hk)
def AA(ys:ay7)(x:D):M D:=fun S=>match fv x,Q6 ys with
 |some w,some ws=>(match rD w ws with
  |some j=>.ok (.int j) S
  |none=>.bad)
 |_,_=>.bad
def AB{A:ay2}{s:Shared}{x:V}{v:Value}(rx:RelV x v)(fx:j0 x=true){ws:az0}{y_:aw7}(rl:Vals ws y_)(hf:ws.all j0=true):∀y,y∈y_.toArray->SeqAt.EqAt A s y v (PJ x y):=fun y hy=>
 nK rx fx rl hf y (by simpa using hy)
def yW{x:V}{ws:az0}{y_:aw7}(rl:Vals ws y_)(hf:ws.all j0=true){m:Nat}(h1:m<ws.length)(h2:m<y_.toArray.size):PJ x y_.toArray[m]=PH ws[m] x:=by
 obtain⟨u,hu,ru⟩:=rl.get (i:=m) (x:=ws[m]) (by simp);have e:y_.toArray[m]=u:=by
  have h3:m<y_.length:=by simpa using h2
  rw[ab9 h3] at hu;simpa using Option.some.inj hu
 rw[e];exact xM ru (List.all_eq_true.mp hf _ (aw0 h1))
def zJ{pins:Hz}{s:Shared}{σ:L2.St}{H:Hp}{J:aw6}{S:ay4}{a:Addr}{ys:ay7}{vs:az0}{x:D}{vx:V}{v:Value}{Q E:aw4}(I:Inv X pins σ H s)(rs:HB X.K H J S)(hq:Kq X.K H a vs)(HZ:l_ X.K H J ys vs)
  (rx:s_ X.K H J x vx) (rv:RelV vx v) (m:Mt X pins σ H J (AA ys x S) Q E):wpAny (model X.prog X.w) X.A (call (.builtin "tuple.index") [.ref a,v]) Q E s:=by
 unfold AA at m;cases e1:fv x with
 |none=>rw[e1] at m;exact m.elim
 |some w=>
  cases e2:Q6 ys with
  |none=>rw[e1,e2] at m;exact m.elim
  |some ws=>
   rw[e1,e2] at m;dsimp only at m;cases e3:rD w ws with
   |none=>rw[e3] at m;exact m.elim
   |some j=>
    rw[e3] at m;obtain⟨rfl,h1⟩:=yr e1 rx;obtain⟨rfl,h2⟩:=uq e2 HZ;obtain⟨hj,hit,OS⟩:=zA e3;obtain⟨y_,rl,⟨o,ho,hc,n,hd⟩,hz⟩:=I.tuple hq;obtain⟨cls,dd,data,sl⟩:=o;simp only at hc hd;subst hc hd;have hl:=rl.length;refine ap5 PySem.F.slot_tuple_index ⟨_,ho,rfl⟩ PySem.F.entry_tuple_index (PySem.F.args_tuple_index_2 _ _)
     (nk a y_.toArray n dd sl v (PJ vx) j (by simp;omega) (by rw[yW rl h2 hj];exact hit) (fun m hm hmj=>by rw[yW rl h2 (by omega)];exact OS m (by omega) hmj)) ⟨ho,AB rv h1 rl h2,?_⟩
    exact m.Ku (I.tok _) rs (s_.int _ _ _ _) ⟨_,rfl⟩
structure Q7(K:aw5)(u:Value)(vs:az0):Prop where
 ex:∃(a:Addr) (o:Obj) (y_:ax2) (n:Nat),u=.ref a/\K.lookup a=some o/\o.cls=.type "tuple"/\o.dict=none/\o.data=.seq y_ n/\y_.size<=sizeLine/\Vals vs y_.toList
def Q7.rep{K:aw5}{u:Value}{vs:az0}{ds:ay7}(h:Q7 K u vs)(hd:∀H J,l_ K H J ds vs):LM K (.tup ds) u:=by
 obtain⟨a,o,y_,n,rfl,h1,h2,h3,h4,h5,h6⟩:=h.ex;exact fun H J=>⟨.ref a,rfl,.tup (.inr ⟨o,y_,n,h1,h2,h4,h5,h6⟩) (hd H J)⟩
def nZ(k:D)(ft:ay6):r_->M D:=fun r=>(ft r).bind fun xs=>match k,xs with
 |.tup ys,[x]=>AA ys x
 |_,_=>M.bad
def Ag{x:Str}{e:Expr}{np apos IE:Pos}{u:Value}{vs:az0}{ds:ay7}{ft:ay6}(hg:Gl X x)(hm:X.mg x=some u)(hk:Q7 X.K u vs)(Sl:∀H J,l_ X.K H J ds vs)(ha:NO X [e] ft)(hd:(x == ("__debug__":Str))=false:=by decide)
  (L5:attributeBase (.Name x np) "index" X.env (eval (.Name x np) X.env)=eval (.Name x np) X.env:=by rfl)
  (OB:((backTo IE (starEach [e] X.env)).all (fun x=>!x.1) && (backToKw IE (keywordEach [] X.env)).all (fun x=>x.1.isSome)
   && decide ([e].length+([]:List Keyword).length+(if ([]:List Keyword).isEmpty then 0 else 1)<30))=true:=by rfl)
  (L6:(apos.endLine == IE.line)=true:=by rfl) (hs:starEach [e] X.env=[(false,eval e X.env)]:=by rfl) :
  Ii X (.Call (.Attribute (.Name x np) "index" apos) [e] [] IE) (nZ (.tup ds) ft):=by
 intro pins s σ H J r S Q E I m;obtain⟨a,o,y_,n,rfl,h1,h2,h3,h4,h5,h6⟩:=hk.ex;refine ao6 L5 OB L6 rfl (lO I.inv hg hm ?_ hd);have ho:=I.inv.LS a o h1;refine⟨"tuple","tuple.index",PySem.F.plainAttrs_tuple,PySem.F.slot_tuple_index,PySem.F.type_tuple_index,⟨o,ho,h2⟩,fun b hb=>?_,?_⟩
 ·cases hb;exact⟨o,ho,h3⟩
 ·have hA:=FE (k:=fun xs=>match D.tup ds,xs with|.tup ys,[x]=>AA ys x|_,_=>M.bad) (Q':=fun us s2=>wpAny (model X.prog X.w) X.A (call (.builtin "tuple.index") (.ref a :: us)) Q E s2) ha I m (fun xs S2 s2 H2 J2 ws us I2 x2 rv r2 m2=>?_) IE
  ·rw[hs] at hA ⊢;exact ao7 rfl (as4 hA)
  ·match xs,m2,rv with
   |[],m2,rv=>exact m2.elim
   |_ :: _ :: _,m2,rv=>exact m2.elim
   |[y],m2,rv=>
    obtain⟨w,rfl,hw⟩:=rv.La;obtain⟨uu,rfl,ru⟩:=Vals.one r2;exact zJ I2.inv I2.st (.inr ⟨o,y_,n,h1,h2,h4,h5,h6⟩) (Sl H2 J2) hw ru m2
end
end DL
namespace DL
open PySem PySem.Spec PyProof.Rows L2
theorem oJ{f:Str}{v:V}:∀{ws:List (Str×V)}{i:Nat},(ws.map (·.1)).Nodup->(ws.map (·.1))[i]?=some f->(ws.map (·.2))[i]?=some v->ws.lookup f=some v
 |[],_,_,h,_=>by simp at h
 |(g,x) :: r,0,nd,h,h2=>by
  simp at h h2;subst h h2;simp[ai9]
 |(g,x) :: r,i+1,nd,h,h2=>by
  simp only[ac2,aj7] at nd;simp only[ac2,ac9] at h h2;have hm:f∈r.map (·.1):=af2 h;have hb:(f == g)=false:=af5.mpr fun e=>nd.1 (e ▸ hm)
  rw[ai9,hb];exact oJ nd.2 h h2
theorem oB{f:Str}:∀{ws:List (Str×V)},f∉ws.map (·.1)->ws.lookup f=none
 |[],_=>rfl
 |(g,x) :: r,h=>by
  simp only[ac2,ac7,not_or] at h;have hb:(f == g)=false:=af5.mpr h.1;rw[ai9,hb];exact oB h.2
def om(f g:Str)(y x:V)(r:List (Str×V)):gP f y ((g,x) :: r)=if g=f then (g,y) :: r else (g,x) :: gP f y r:=rfl
theorem ze{f:Str}{y:V}:∀{ws:List (Str×V)}{i:Nat},(ws.map (·.1)).Nodup->(ws.map (·.1))[i]?=some f->(gP f y ws).map (·.1)=ws.map (·.1)/\(gP f y ws).map (·.2)=(ws.map (·.2)).set i y
 |[],_,_,h=>by simp at h
 |(g,x) :: r,0,nd,h=>by
  simp at h;subst h;rw[om,ab2 rfl];exact⟨rfl,rfl⟩
 |(g,x) :: r,i+1,nd,h=>by
  simp only[ac2,aj7] at nd;simp only[ac2,ac9] at h;have hm:f∈r.map (·.1):=af2 h;have hb:¬g=f:=fun e=>nd.1 (e ▸ hm)
  rw[om,ab1 hb];obtain⟨h1,h2⟩:=ze (y:=y) nd.2 h;exact⟨by rw[ac2,ac2,h1],by rw[ac2,ac2,as5,h2]⟩
theorem vO{f:Str}{y:V}:∀{ws:List (Str×V)},f∉ws.map (·.1)->gP f y ws=ws++[(f,y)]
 |[],_=>rfl
 |(g,x) :: r,h=>by
  simp only[ac2,ac7,not_or] at h;rw[om,ab1 (fun e=>h.1 e.symm),vO h.2];rfl
def iI(C:Addr)(ns:ax0)(x:D):M (Nat×List D):=fun S=>match x with
 |.ob n=>(match S[n]? with
  |some (.ins C' US ds)=>Ka (C'=C/\US=ns) (.ok (n,ds) S) .bad
  |_=>.bad)
 |_=>.bad
def lR{C:Addr}{ns:ax0}{n:Nat}{ds:ay7}{S:ay4}(h:S[n]?=some (.ins C ns ds)):iI C ns (.ob n) S=.ok (n,ds) S:=by
 simp only[iI,h]
 first
  |exact bY ⟨rfl,rfl⟩
  |exact bY ⟨trivial,trivial⟩
def kt{C:Addr}{ns:ax0}{x:D}{S S':ay4}{p:Nat×List D}(h:iI C ns x S=.ok p S'):S'=S/\x=.ob p.1/\S[p.1]?=some (.ins C ns p.2):=by
 unfold iI at h;cases x with
 |ob n=>
  dsimp only at h;cases e:S[n]? with
  |none=>rw[e] at h;cases h
  |some c=>
   rw[e] at h;cases c with
   |ins C' US ds=>
    dsimp only at h;unfold Ka at h;split at h
    ·rename_i q;obtain⟨rfl,rfl⟩:=q
     injection h with h1 h2
     subst h1 h2;exact⟨rfl,rfl,e⟩
    ·cases h
   |_=>cases h
 |_=>cases h
def ka{C:Addr}{ns:ax0}{x:D}{S S':ay4}{c:Addr}:iI C ns x S≠.exc c S':=by
 intro h;unfold iI at h;cases x with
 |ob n=>
  dsimp only at h;cases e:S[n]? with
  |none=>rw[e] at h;cases h
  |some c=>
   rw[e] at h;cases c with
   |ins C' US ds=>
    dsimp only at h;unfold Ka at h;split at h<;>cases h
   |_=>cases h
 |_=>cases h
def Dy(o:Option D):M D:=fun S=>match o with
 |some d=>.ok d S
 |none=>.bad
section
variable{X:Cx}{o e:Expr}{es:ax8}{fo fe:ay5}{ft:ay6}{pos LZ apos:Pos}{C:Addr}{ns:ax0}{i:Nat}{f:Str}
def aC(C:Addr)(ns:ax0)(i:Nat)(fo:ay5):r_->M D:=fun r=>(fo r).bind fun x=>(iI C ns x).bind fun p=>Dy p.2[i]?
def aH(c:NT X.K C)(na:HS X.K C f)(nd:ns.Nodup)(ho:Ii X o fo)(hi:ns[i]?=some f:=by rfl)(hb:attributeBase o f X.env (eval o X.env)=eval o X.env:=by rfl):Ii X (.Attribute o f pos) (aC C ns i fo):=by
 intro pins s σ H J r S Q E I m;refine Dd hb (ho pins s σ H J r S _ E I ?_);unfold aC M.bind at m;cases e1:fo r S with
 |bad=>rw[e1] at m;exact m
 |exc c S1=>rw[e1] at m;exact m
 |ok x S1=>
  rw[e1] at m;dsimp only at m;rintro v s1 ⟨vx,H1,I1,r1,J1,Ks,KL,JY⟩
  replace m:=Mt.ext Ks m
  cases e2:iI C ns x S1 with
  |bad=>rw[e2] at m;exact m.elim
  |exc c S2=>exact absurd e2 ka
  |ok p S2=>
   rw[e2] at m;obtain⟨n,ds⟩:=p;obtain⟨rfl,rfl,hc⟩:=kt e2;obtain⟨a,rfl,hn⟩:=JY.KR;obtain⟨dx,ws,hv,KQ,Q8⟩:=KL.at_ n _ a hc hn;dsimp only[Dy] at m;cases e3:ds[i]? with
   |none=>rw[e3] at m;exact m.elim
   |some d=>
    rw[e3] at m;obtain⟨w,hw,Lg⟩:=Q8.get e3;cases r1;exact qg I1 hv c na (oJ (KQ ▸ nd) (KQ ▸ hi) hw) fun u s2 I2 ru=>m.Ku I2 KL Lg ru
def Ext.ins{K:aw5}{H:Hp}{J:aw6}{a dx:Addr}{ws ZM:List (Str×V)}(h:H a=some (.ins C dx ws)):Ext H J (upd H a (.ins C dx ZM)) J:=Ext.write h rfl
def j7(C:Addr)(ns:ax0)(i:Nat)(fo fe:ay5):HK:=fun r=>cz (fe r) r fun d=>cz (fo r) r fun x S1=>match iI C ns x S1 with
 |.ok p S2=>some (.nx r,S2.set p.1 (.ins C ns (p.2.set i d)))
 |_=>none
def vj(he:Ii X e fe){k:D->List Cell->Oi}{pins:Hz}{s:Shared}{σ:L2.St}{H:Hp}{J:aw6}{r:r_}{S:ay4}{Q:Flow->Shared->Prop}{E:aw4}{Q':aw4}(I:At X pins σ H J r S s)
  (m:Mw X pins H J (cz (fe r) r k S) Q E) (hk:∀x S1 v s1 vx H1 J1,At X pins σ H1 J1 r S1 s1->Ext H J H1 J1->s_ X.K H1 J1 x vx->RelV vx v->Mw X pins H1 J1 (k x S1) Q E->Q' v s1) :
  wpAny (model X.prog X.w) X.A (eval e X.env) Q' E s:=by
 refine he pins s σ H J r S _ E I ?_;unfold cz at m;cases e1:fe r S with
 |bad=>rw[e1] at m;exact m
 |exc c S1=>
  rw[e1] at m;exact fun x s' ⟨H',XI,J',ex,rs⟩=>m x s' σ H' J' XI (I.loc.ext ex) rs ex
 |ok x S1=>
  rw[e1] at m;exact fun v s1 ⟨vx,H1,I1,r1,J1,ex,rs,rv⟩=>hk x S1 v s1 vx H1 J1 ⟨I1,I.loc.ext ex,rs⟩ ex rv r1 (Mw.ext ex m)
def vJ{pins:Hz}{s:Shared}{σ:L2.St}{H:Hp}{J:aw6}{r:r_}{S:ay4}{n:Nat}{ds:ay7}{d:D}{vd:V}{u:Value}{a:Addr}{Q:Flow->Shared->Prop}{E:aw4}
  (c:NT X.K C) (na:HS X.K C f) (nd:ns.Nodup) (hz:ns.length<1000) (hi:ns[i]?=some f) (I:At X pins σ H J r S s) (hc:S[n]?=some (.ins C ns ds)) (hn:J[n]?=some a) (rd:s_ X.K H J d vd) (ru:RelV vd u)
  (m:Mw X pins H J (some (.nx r,S.set n (.ins C ns (ds.set i d)))) Q E):wpAny (model X.prog X.w) X.A (setAttr (.ref a) f u) (fun _ s'=>Q .next s') E s:=by
 obtain⟨dx,ws,hv,KQ,Q8⟩:=I.st.at_ n _ a hc hn;refine rL I.inv hv c na (by rw[<-aa7 (f:=(·.1)),KQ];exact hz) ru fun s3 I3=>?_
 have x3:Ext H J (upd H a (.ins C dx (gP f vd ws))) J:=Ext.write hv rfl;obtain⟨p1,p2⟩:=ze (y:=vd) (KQ ▸ nd) (KQ ▸ hi);refine m s3 σ _ J ⟨I3,I.loc.ext x3,I.st.write hn ⟨dx,_,bF,p1.trans KQ,?_⟩⟩ x3;rw[p2];exact l_.set (rd.ext x3) i (Q8.ext x3)
def gQ{pos':Pos}(c:NT X.K C)(na:HS X.K C f)(nd:ns.Nodup)(hz:ns.length<1000)(ho:Ii X o fo)(he:Ii X e fe)(hi:ns[i]?=some f:=by rfl)
  (hs:swapsWith e (some (.Attribute o f pos')) pos.line X.env=pure false:=by rfl):Oj X (.Assign [.Attribute o f pos'] e pos) (j7 C ns i fo fe):=by
 intro pins s σ H J r S Q E I m;refine ap2 (vj he I m fun d S1 u s1 vd H1 J1 I1 x1 rd ru m1=>vj ho I1 m1 fun x S2 v s2 vx H2 J2 I2 x2 rx rv m2=>?_) hs;cases e2:iI C ns x S2 with
 |bad=>rw[e2] at m2;exact m2.elim
 |exc c S2=>exact absurd e2 ka
 |ok p S3=>
  rw[e2] at m2;obtain⟨n,ds⟩:=p;obtain⟨rfl,rfl,hc⟩:=kt e2;obtain⟨a,rfl,hn⟩:=rx.KR;cases rv;exact vJ c na nd hz hi I2 hc hn (rd.ext x2) ru m2
def cO(C:Addr)(ns:ax0)(f:Str)(fo fe:ay5):HK:=fun r=>cz (fe r) r fun d=>cz (fo r) r fun x S1=>match iI C ns x S1 with
 |.ok p S2=>some (.nx r,S2.set p.1 (.ins C (ns++[f]) (p.2++[d])))
 |_=>none
def cR{pos':Pos}(c:NT X.K C)(na:HS X.K C f)(hz:ns.length<1000)(hf:f∉ns)(ho:Ii X o fo)(he:Ii X e fe)
  (hs:swapsWith e (some (.Attribute o f pos')) pos.line X.env=pure false:=by rfl):Oj X (.Assign [.Attribute o f pos'] e pos) (cO C ns f fo fe):=by
 intro pins s σ H J r S Q E I m;refine ap2 (vj he I m fun d S1 u s1 vd H1 J1 I1 x1 rd ru m1=>vj ho I1 m1 fun x S2 v s2 vx H2 J2 I2 x2 rx rv m2=>?_) hs;cases e2:iI C ns x S2 with
 |bad=>rw[e2] at m2;exact m2.elim
 |exc c S2=>exact absurd e2 ka
 |ok p S3=>
  rw[e2] at m2;obtain⟨n,ds⟩:=p;obtain⟨rfl,rfl,hc⟩:=kt e2;obtain⟨a,rfl,hn⟩:=rx.KR;cases rv;obtain⟨dx,ws,hv,KQ,Q8⟩:=I2.st.at_ n _ a hc hn;refine rL I2.inv hv c na (by rw[<-aa7 (f:=(·.1)),KQ];exact hz) ru fun s3 I3=>?_
  have x3:Ext H2 J2 (upd H2 a (.ins C dx (gP f vd ws))) J2:=Ext.write hv rfl;have pn:gP f vd ws=ws++[(f,vd)]:=vO (KQ ▸ hf);have pn2:(gP f vd ws).map (·.2)=ws.map (·.2)++[vd]:=by rw[pn,ae0];rfl
  refine m2 s3 σ _ J2 ⟨I3,I2.loc.ext x3,I2.st.write hn ⟨dx,_,bF,by rw[pn,ae0,KQ];rfl,?_⟩⟩ x3;rw[pn2];exact(Q8.ext x3).append (.one ((rd.ext x2).ext x3))
def o9(C:Addr)(ns:ax0)(i:Nat)(fo fe:ay5):HK:=fun r=>cz (fo r) r fun x S1=>match iI C ns x S1 with
 |.ok p S2=>(match p.2[i]? with
  |some (.int a)=>cz (fe r) r (fun y S3=>match y with
   |.int b=>(match iI C ns x S3 with
    |.ok q S4=>some (.nx r,S4.set q.1 (.ins C ns (q.2.set i (.int (a+b)))))
    |_=>none)
   |_=>none) S2
  |_=>none)
 |_=>none
def vq(c:NT X.K C)(na:HS X.K C f)(nd:ns.Nodup)(hz:ns.length<1000)(ho:Ii X o fo)(he:Ii X e fe)(hi:ns[i]?=some f:=by rfl) :
  Oj X (.AugAssign (.Attribute o f LZ) .Add e pos) (o9 C ns i fo fe):=by
 intro pins s σ H J r S Q E I m;refine wpAny_AugAssign_AttributeAny (vj ho I m fun x S1 v s1 vx H1 J1 I1 x1 rx rv m1=>?_);cases e2:iI C ns x S1 with
 |bad=>rw[e2] at m1;exact m1.elim
 |exc c S2=>exact absurd e2 ka
 |ok p S2=>
  rw[e2] at m1;obtain⟨n,ds⟩:=p;obtain⟨rfl,rfl,hc⟩:=kt e2;obtain⟨a,rfl,hn⟩:=rx.KR;cases rv;dsimp only at m1;cases e3:ds[i]? with
  |none=>rw[e3] at m1;exact m1.elim
  |some d=>
   rw[e3] at m1;cases d with
   |int j=>
    obtain⟨dx,ws,hv,KQ,Q8⟩:=I1.st.at_ n _ a hc hn;obtain⟨w,hw,Lg⟩:=Q8.get e3;cases Lg.IT;refine qg I1.inv hv c na (oJ (KQ ▸ nd) (KQ ▸ hi) hw) fun u s2 I2 ru=>?_
    refine vj he ⟨I2,I1.loc,I1.st⟩ m1 fun y S3 v3 s3 vy H3 J3 I3 x3 ry UG m3=>?_
    cases y with
    |int k=>
     dsimp only at m3;cases e4:iI C ns (.ob n) S3 with
     |bad=>rw[e4] at m3;exact m3.elim
     |exc c S2=>exact absurd e4 ka
     |ok q S4=>
      rw[e4] at m3;obtain⟨n',RU⟩:=q;obtain⟨rfl,Q9,Uo⟩:=kt e4
      injection Q9 with Q9
      subst Q9;cases ry.IT;obtain⟨t1,rfl⟩:=ru;obtain⟨t2,rfl⟩:=UG;have hn3:J3[n]?=some a:=by
       obtain⟨mm,em⟩:=x3.pre;rw[em,ab4 (aa2.mp hn).1];exact hn
      exact iadd_int (vJ c na nd hz hi ⟨I3.inv.tok _,I3.loc,I3.st⟩ Uo hn3 (s_.int _ _ _ (j+k)) ⟨_,rfl⟩ m3)
    |_=>exact m3.elim
   |_=>exact m1.elim
structure Iy(P:ay1)(w:ay3)(K:aw5)(mg:aw9)(base:Heap)(CX:Lx)(C:Addr)(m:Str)(k:Nat)(ps:ax0)(F:ay9):Prop where
 ex:∃f fd,Meth K C m f/\Binds K fd ps []/\IP P w K mg base CX k f fd ps F
def br(C:Addr)(ns:ax0)(F:ay9)(fo:ay5)(ft:ay6):r_->M D:=fun r=>(fo r).bind fun x=>(iI C ns x).bind fun _=>(ft r).bind fun xs=>F (x :: xs)
def bO{CX:Lx}{k:Nat}{ps:ax0}{F:ay9}{m:Str}{pl:Sem Bool}(h:Iy X.prog X.w X.K X.mg X.base CX C m k ps F)(hr:I0 k X.A)(c:NT X.K C)(hm:m∉ns)(hx:o0 CX X)(ho:Ii X o fo)(ha:NO X (e :: es) ft)
  (hl:∀r S xs S',ft r S=.ok xs S'->xs.length+1=ps.length)
  (Jl:starEach (e :: es) X.env=(false,eval e X.env) :: starEach es X.env:=by rfl) (M8:(backTo pos (starEach es X.env)).any (·.1)=false:=by rfl)
  (ht:eval (.Call (.Attribute o m apos) (e :: es) [] pos) X.env=(do
   let ov <-eval o X.env
   standAt apos.atName
   let (f,first) <-holding [ov] (getMethod ov m pl)
   callWith pos f first (backTo pos (starEach (e :: es) X.env)) (backToKw pos (keywordEach [] X.env))):=by rfl) :
  Ii X (.Call (.Attribute o m apos) (e :: es) [] pos) (br C ns F fo ft):=by
 obtain⟨f,fd,hM,hb,hF⟩:=h.ex;intro pins s σ H J r S Q E I mm;refine PySem.W.methodCall_KW (pl:=pl) (ho pins s σ H J r S _ E I ?_) ht;unfold br M.bind at mm;cases e1:fo r S with
 |bad=>rw[e1] at mm;exact mm
 |exc c S1=>rw[e1] at mm;exact mm
 |ok x S1=>
  rw[e1] at mm;dsimp only at mm;rintro v s1 ⟨vx,H1,I1,r1,J1,Ks,KL,JY⟩
  replace mm:=Mt.ext Ks mm
  cases e2:iI C ns x S1 with
  |bad=>rw[e2] at mm;exact mm.elim
  |exc c S2=>exact absurd e2 ka
  |ok p S2=>
   rw[e2] at mm;obtain⟨n,ds⟩:=p;obtain⟨rfl,rfl,hc⟩:=kt e2;obtain⟨a,rfl,hn⟩:=JY.KR;cases r1;obtain⟨dx,ws,hv,KQ,Q8⟩:=KL.at_ n _ a hc hn;refine p8 I1 hv c hM (oB (KQ ▸ hm)) ?_;refine callWith_K (first:=[.ref a]) (h₀:=X.base) I1.ok.mod.Tw hM.kp ?_ Jl M8;refine ha pos pins s1 σ H1 J1 r _ _ E ⟨I1,I.loc.ext Ks,KL⟩ ?_;dsimp only at mm;cases e3:ft r S2 with
   |bad=>rw[e3] at mm;exact mm
   |exc c S3=>rw[e3] at mm;exact mm
   |ok xs S3=>
    rw[e3] at mm;intro us s2 ⟨vs,H2,I2,r2,J2,Mo,K9,Nk⟩;exact⟨I2.LS,uz (us:=.ref a :: us) (vs:=.ref a :: vs) (xs:=.ob n :: xs) hF hr hb hx I2 K9 (.cons (JY.ext Mo) Nk) (.cons rfl r2) (by rw[ab8];exact hl r _ xs S3 e3) (Mt.ext Mo mm)⟩
def dB{CX:Lx}{k:Nat}{ps:ax0}{F:ay9}{m:Str}{pl:Sem Bool}(h:Iy X.prog X.w X.K X.mg X.base CX C m k ps F)(hr:I0 k X.A)(c:NT X.K C)(hm:m∉ns)(hx:o0 CX X)(ho:Ii X o fo)
  (hl:1=ps.length:=by rfl)
  (ht:eval (.Call (.Attribute o m apos) [] [] pos) X.env=(do
   let ov <-eval o X.env
   standAt apos.atName
   let (f,first) <-holding [ov] (getMethod ov m pl)
   callWith pos f first (backTo pos (starEach [] X.env)) (backToKw pos (keywordEach [] X.env))):=by rfl) :
  Ii X (.Call (.Attribute o m apos) [] [] pos) (br C ns F fo ai):=by
 obtain⟨f,fd,hM,hb,hF⟩:=h.ex;intro pins s σ H J r S Q E I mm;refine PySem.W.methodCall_KW (pl:=pl) (ho pins s σ H J r S _ E I ?_) ht;unfold br M.bind at mm;cases e1:fo r S with
 |bad=>rw[e1] at mm;exact mm
 |exc c S1=>rw[e1] at mm;exact mm
 |ok x S1=>
  rw[e1] at mm;dsimp only at mm;rintro v s1 ⟨vx,H1,I1,r1,J1,Ks,KL,JY⟩
  replace mm:=Mt.ext Ks mm
  cases e2:iI C ns x S1 with
  |bad=>rw[e2] at mm;exact mm.elim
  |exc c S2=>exact absurd e2 ka
  |ok p S2=>
   rw[e2] at mm;obtain⟨n,ds⟩:=p;obtain⟨rfl,rfl,hc⟩:=kt e2;obtain⟨a,rfl,hn⟩:=JY.KR;cases r1;obtain⟨dx,ws,hv,KQ,Q8⟩:=KL.at_ n _ a hc hn;refine p8 I1 hv c hM (oB (KQ ▸ hm)) ?_;exact PySem.W.callWith_K0 (first:=[.ref a]) I1.LS hM.kp (uz (us:=[.ref a]) (vs:=[.ref a]) (xs:=[.ob n]) hF hr hb hx I1 KL (.one JY) (.cons rfl .nil) hl mm)
structure OC(P:ay1)(w:ay3)(K:aw5)(mg:aw9)(base:Heap)(CX:Lx)(x:Str)(C:Addr)(k:Nat)(ps:ax0)(F:ay9):Prop where
 ex:∃f fd,mg x=some (.ref C)/\Mk K C f/\Binds K fd ps []/\IP P w K mg base CX k f fd ps F
def iY(C:Addr)(F:ay9)(xs:ay7):M D:=fun S=>match F (.ob S.length :: xs) (S++[.ins C [] []]) with
 |.ok .Hw S'=>.ok (.ob S.length) S'
 |_=>.bad
def zQ{CX:Lx}{k:Nat}{fI:Addr}{fd:ax1}{ps:ax0}{F:ay9}{pins:Hz}{σ:L2.St}{H:Hp}{J:aw6}{S:ay4}{s:Shared}{Q E:aw4}{xs:ay7}{vs:az0}{us:aw7}
  (hM:Mk X.K C fI) (hF:IP X.prog X.w X.K X.mg X.base CX k fI fd ps F) (hr:I0 (k+1) X.A) (hb:Binds X.K fd ps []) (hx:o0 CX X) (I:Inv X pins σ H s) (rs:HB X.K H J S) (rx:l_ X.K H J xs vs) (rv:Vals vs us) (hl:xs.length+1=ps.length)
  (m:Mt X pins σ H J (iY C F xs S) Q E):wpAny (model X.prog X.w) X.A (call (.ref C) us) Q E s:=by
 have TQ:H s.heap.objs.size=none:=I.HH.fresh (aa1 _);have hf1:H (s.heap.objs.size+1)=none:=I.HH.fresh (ad9 _);have ne:s.heap.objs.size+1≠s.heap.objs.size:=ar4 _;have I2:=Inv.made (C:=C) I;have UT:upd H s.heap.objs.size (.own (s.heap.objs.size+1)) (s.heap.objs.size+1)=none:=by rw[bf ne];exact hf1
 have x1:Ext H J (upd H s.heap.objs.size (.own (s.heap.objs.size+1))) J:=Ext.new TQ;have x2:Ext (upd H s.heap.objs.size (.own (s.heap.objs.size+1))) J (upd (upd H s.heap.objs.size (.own (s.heap.objs.size+1))) (s.heap.objs.size+1) (.ins C s.heap.objs.size [])) (J++[s.heap.objs.size+1]):=(Ext.new UT).snoc _;have ZO:=x1.trans x2;have K9:HB X.K (upd (upd H s.heap.objs.size (.own (s.heap.objs.size+1))) (s.heap.objs.size+1) (.ins C s.heap.objs.size [])) (J++[s.heap.objs.size+1]) (S++[.ins C [] []]):=
  (rs.new TQ).push UT ⟨s.heap.objs.size,[],bF,rfl,.nil⟩
 have ro:s_ X.K (upd (upd H s.heap.objs.size (.own (s.heap.objs.size+1))) (s.heap.objs.size+1) (.ins C s.heap.objs.size [])) (J++[s.heap.objs.size+1]) (.ob S.length) (.ref (s.heap.objs.size+1)):=.ob (by rw[<-rs.len];simp);have W6:l_ X.K (upd (upd H s.heap.objs.size (.own (s.heap.objs.size+1))) (s.heap.objs.size+1) (.ins C s.heap.objs.size [])) (J++[s.heap.objs.size+1]) (.ob S.length :: xs) (.ref (s.heap.objs.size+1) :: vs):=.cons ro (rx.ext ZO);have Nk:Vals (V.ref (s.heap.objs.size+1) :: vs) (Value.ref (s.heap.objs.size+1) :: us):=.cons rfl rv;have hlen:(Value.ref (s.heap.objs.size+1) :: us++[]).length=ps.length:=by
  rw[ae4,<-Nk.length,W6.length];exact hl
 have QZ:=hb _ (Value.ref (s.heap.objs.size+1) :: us) I2.LS hlen;rw[ae4] at QZ;unfold iY at m;cases e:F (.ob S.length :: xs) (S++[.ins C [] []]) with
 |bad=>rw[e] at m;exact m.elim
 |exc c S'=>rw[e] at m;exact m.elim
 |ok d S'=>
  rw[e] at m;cases d with
  |Hw=>
   dsimp only at m;refine wpAny_call (Cz (f:=fI) I.LS hM.makes hM.init (ah7.mp hM.fn) (al1 (hF.run _ X.stack _ _ ⟨Value.ref (s.heap.objs.size+1) :: us,[]⟩ (Value.ref (s.heap.objs.size+1) :: us) _
    (fun v H'=>Got X.K (upd (upd H s.heap.objs.size (.own (s.heap.objs.size+1))) (s.heap.objs.size+1) (.ins C s.heap.objs.size [])) (J++[s.heap.objs.size+1]) .Hw S' v H') (fun _ _ _=>False) (hr.make C us []) (I2.Ut.make C us []) QZ Nk ?_) fun rr s' hq=>?_))
   ·refine⟨by rw[W6.length];exact hl,J++[s.heap.objs.size+1],_,_,W6,K9,?_⟩;rw[e];exact fun v H' g=>g
   ·cases rr with
    |error er=>
     obtain⟨c,H',XI,z⟩:=hx _ pins σ _ _ er s' I2 hq;exact z.elim
    |ok fl=>
     cases fl with
     |ret u=>
      obtain⟨v,H',I3,UG,J3,x3,RL,WH⟩:=I2.after hq;cases WH.Ov;exact⟨UG,m _ s' ⟨V.ref (s.heap.objs.size+1),H',I3,rfl,J3,ZO.trans x3,RL,ro.ext x3⟩⟩
     |next=>exact False.elim hq
     |brk=>exact False.elim hq
     |cont=>exact False.elim hq
  |_=>exact m.elim
def uE{CX:Lx}{k:Nat}{ps:ax0}{F:ay9}{x:Str}{p:Pos}(h:OC X.prog X.w X.K X.mg X.base CX x C k ps F)(hr:I0 (k+1) X.A)(hg:Gl X x)(hx:o0 CX X)(ha:NO X (e :: es) ft)
  (hl:∀r S xs S',ft r S=.ok xs S'->xs.length+1=ps.length)
  (Pg:(x == ("__debug__":Str))=false:=by decide) (he:starEach (e :: es) X.env=(false,eval e X.env) :: starEach es X.env:=by rfl) (M8:(backTo pos (starEach es X.env)).any (·.1)=false:=by rfl) :
  Ii X (.Call (.Name x p) (e :: es) [] pos) (aj (iY C F) ft):=by
 obtain⟨f,fd,hm,hM,hb,hF⟩:=h.ex;intro pins s σ H J r S Q E I m;refine ag8 (lO I.inv hg hm ?_ Pg);refine callWith_K (h₀:=X.base) I.inv.ok.mod.Tw hM.kp ?_ he M8;refine ha pos pins s σ H J r S _ E I ?_;unfold aj M.bind at m;cases e1:ft r S with
 |bad=>rw[e1] at m;exact m
 |exc c S1=>rw[e1] at m;exact m
 |ok xs S1=>
  rw[e1] at m;intro us s1 ⟨vs,H1,I1,r1,J1,Ks,KL,JY⟩;exact⟨I1.LS,zQ hM hF hr hb hx I1 KL JY r1 (hl r S xs S1 e1) (Mt.ext Ks m)⟩
end
end DL
namespace L2
open PySem PySem.Spec PyProof.Rows
section
variable{κ:Type}[DecidableEq κ]
def kE(kvs:List (κ×V))(k:κ):Option V:=(kvs.find? fun kv=>decide (kv.1=k)).map (·.2)
def jO(kvs:List (κ×V))(k:κ)(v:V):List (κ×V):=
 if (kvs.any fun kv=>decide (kv.1=k))=true then kvs.map (fun kv=>if kv.1=k then (kv.1,v) else kv) else kvs++[(k,v)]
def qW(kvs:List (κ×V))(k:κ):List (κ×V):=kvs.filter fun kv=>decide (kv.1≠k)
def nu{p:κ×V}{r:List (κ×V)}{k:κ}(e:p.1=k):kE (p :: r) k=some p.2:=by simp[kE,aj0,e]
def nC{p:κ×V}{r:List (κ×V)}{k:κ}(e:¬p.1=k):kE (p :: r) k=kE r k:=by simp[kE,aj0,e]
theorem wa(k:κ):∀kvs:List (κ×V),(kvs.any fun kv=>decide (kv.1=k))=(kE kvs k).isSome
 |[]=>rfl
 |p :: r=>by
  rw[ao2];by_cases e:p.1=k
  ·simp only[nu e,aa3 e,Bool.true_or,Option.isSome_some]
  ·rw[nC e,aa5 e,Bool.false_or];exact wa k r
def lz(kvs:List (κ×V))(k:κ)(v:V):(jO kvs k v).length<=kvs.length+1:=by
 unfold jO;split
 ·rw[aa7];omega
 ·rw[aa8,ab8,as6];omega
def Kj.Kd{o:Option V}{u:Option Value}(r:Kj o u):o.isSome=u.isSome:=by
 cases o with
 |none=>cases u with
  |none=>rfl
  |some _=>exact(show False from r).elim
 |some _=>cases u with
  |none=>exact(show False from r).elim
  |some _=>rfl
theorem Kj.getD{o:Option V}{u:Option Value}{d:V}{d':Value}(r:Kj o u)(rd:RelV d d'):RelV (o.getD d) (u.getD d'):=by
 cases o with
 |none=>cases u with
  |none=>exact rd
  |some _=>exact(show False from r).elim
 |some _=>cases u with
  |none=>exact(show False from r).elim
  |some _=>exact r
def KV.val{kvs:List (κ×V)}{vs:List (κ×Value)}(r:KV kvs vs)(k:κ):Kj (kE kvs k) (valueAt vs k):=by
 unfold KV at r
 induction r with
 |nil=>exact ai4
 |@cons p q ps qs h t ih=>
  obtain⟨h1,h2⟩:=h;by_cases e:p.1=k
  ·have e':q.1=k:=h1.symm.trans e;have b:valueAt (q :: qs) k=some q.2:=by simp[valueAt,aj0,e']
   rw[nu e,b];exact h2
  ·have e':¬q.1=k:=fun z=>e (h1.trans z)
   have b:valueAt (q :: qs) k=valueAt qs k:=by simp[valueAt,aj0,e']
   rw[nC e,b];exact ih
theorem KV.any{kvs:List (κ×V)}{vs:List (κ×Value)}(r:KV kvs vs)(k:κ):(kvs.any fun kv=>decide (kv.1=k))=vs.any fun kv=>decide (kv.1=k):=by
 unfold KV at r
 induction r with
 |nil=>rfl
 |cons h t ih=>rw[ao2,ao2,ih,h.1]
def KV.SQ{kvs:List (κ×V)}{vs:List (κ×Value)}(r:KV kvs vs)(k:κ){y:V}{u:Value}(ry:RelV y u) :
  KV (kvs.map fun kv=>if kv.1=k then (kv.1,y) else kv) (vs.map fun kv=>if kv.1=k then (kv.1,u) else kv):=by
 unfold KV at r ⊢
 induction r with
 |nil=>exact .nil
 |@cons p q ps qs h t ih=>
  rw[ac2,ac2];refine .cons ?_ ih;obtain⟨h1,h2⟩:=h;by_cases e:p.1=k
  ·rw[ab2 e,ab2 (h1.symm.trans e)];exact⟨h1,ry⟩
  ·rw[ab1 e,ab1 (fun z=>e (h1.trans z))];exact⟨h1,h2⟩
def KV.put{kvs:List (κ×V)}{vs:List (κ×Value)}(r:KV kvs vs)(k:κ){y:V}{u:Value}(ry:RelV y u):KV (jO kvs k y) (stored vs k u):=by
 unfold jO stored;rw[r.any k];by_cases e:(vs.any fun kv=>decide (kv.1=k))=true
 ·rw[ab2 e,ab2 e];exact r.SQ k ry
 ·rw[ab1 e,ab1 e];exact Paired.snoc r ⟨rfl,ry⟩
def KV.drop{kvs:List (κ×V)}{vs:List (κ×Value)}(r:KV kvs vs)(k:κ):KV (qW kvs k) (without vs k):=by
 unfold KV at r ⊢;unfold qW without
 induction r with
 |nil=>exact .nil
 |@cons p q ps qs h t ih=>
  obtain⟨h1,h2⟩:=h;rw[ak8,ak8];by_cases e:p.1=k
  ·have a:¬decide (p.1≠k)=true:=by simp[e]
   have b:¬decide (q.1≠k)=true:=by simp[h1.symm.trans e]
   rw[ab1 a,ab1 b];exact ih
  ·have e':¬q.1=k:=fun z=>e (h1.trans z)
   have a:decide (p.1≠k)=true:=by simp[e]
   have b:decide (q.1≠k)=true:=by simp[e']
   rw[ab2 a,ab2 b];exact .cons ⟨h1,h2⟩ ih
def KV.keys{kvs:List (κ×V)}{vs:List (κ×Value)}(r:KV kvs vs):kvs.map (·.1)=vs.map (·.1):=by
 unfold KV at r
 induction r with
 |nil=>rfl
 |cons h t ih=>rw[ac2,ac2,ih,h.1]
def KV.length{kvs:List (κ×V)}{vs:List (κ×Value)}(r:KV kvs vs):kvs.length=vs.length:=at8 r
def Bg(kvs:List (κ×V))(k:κ):(qW kvs k).length<=kvs.length:=ap7 _ _
end
def qQ{P:ay1}{w:ay3}{k:Key}{u:Value}(r:RelV (kV k) u):(cV P w).is k u=true:=by
 cases k with
 |inl i=>obtain⟨t,e⟩:=(show ∃t,u=Value.int i t from r);subst e;exact vM P w i t
 |inr x=>obtain⟨t,e⟩:=(show ∃t,u=Value.str x t from r);subst e;exact vR P w x t
theorem lW{P:ay1}{w:ay3}:∀{ks:List Key}{us:aw7},Vals (ks.map kV) us->ItemsAre (cV P w) ks us
 |[],_,r=>by rw[aw3] at r;cases r;exact .nil
 |k :: ks,_,r=>by
  rw[ac2] at r;cases r with
  |cons h t=>exact .cons (qQ h) (lW t)
abbrev KT(H:Hp):List (List Key×V)->List (List Key×Addr×Value)->Prop:=Paired fun p q=>p.1=q.1/\H q.2.1=some (.tup (p.1.map kV))/\RelV p.2 q.2.2
def KT.val{H:Hp}{kvs:List (List Key×V)}{xs:List (List Key×Addr×Value)}(r:KT H kvs xs)(k:List Key):Kj (kE kvs k) ((atKey xs k).map (·.2)):=by
 induction r with
 |nil=>exact ai4
 |@cons p q ps qs h t ih=>
  obtain⟨h1,_,h2⟩:=h;by_cases e:p.1=k
  ·have e':q.1=k:=h1.symm.trans e;have b:atKey (q :: qs) k=some q.2:=by simp[atKey,aj0,e']
   rw[nu e,b];exact h2
  ·have e':¬q.1=k:=fun z=>e (h1.trans z)
   have b:atKey (q :: qs) k=atKey qs k:=by simp[atKey,aj0,e']
   rw[nC e,b];exact ih
def KT.SQ{H:Hp}{kvs:List (List Key×V)}{xs:List (List Key×Addr×Value)}(r:KT H kvs xs)(k:List Key){y:V}{u:Value}(ry:RelV y u) :
  KT H (kvs.map fun kv=>if kv.1=k then (kv.1,y) else kv) (xs.map (putAt k u)):=by
 induction r with
 |nil=>exact .nil
 |@cons p q ps qs h t ih=>
  rw[ac2,ac2];refine .cons ?_ ih;obtain⟨h1,h2,h3⟩:=h;unfold putAt;by_cases e:p.1=k
  ·rw[ab2 e,ab2 (h1.symm.trans e)];exact⟨h1,h2,ry⟩
  ·rw[ab1 e,ab1 (fun z=>e (h1.trans z))];exact⟨h1,h2,h3⟩
def KT.put{H:Hp}{kvs:List (List Key×V)}{xs:List (List Key×Addr×Value)}(r:KT H kvs xs)(k:List Key){b:Addr}{y:V}{u:Value}(hb:H b=some (.tup (k.map kV)))(ry:RelV y u) :
  KT H (jO kvs k y) (storedH xs k b u):=by
 have e:(kvs.any fun kv=>decide (kv.1=k))=(atKey xs k).isSome:=by
  rw[wa,(r.val k).Kd,ap8]
 unfold jO storedH;rw[e];by_cases q:(atKey xs k).isSome=true
 ·rw[ab2 q,ab2 q];exact r.SQ k ry
 ·rw[ab1 q,ab1 q];exact Paired.snoc r ⟨rfl,hb,ry⟩
def KT.keeps{H H':Hp}{kvs:List (List Key×V)}{xs:List (List Key×Addr×Value)}(r:KT H kvs xs)(ht:∀b ys,H b=some (.tup ys)->H' b=some (.tup ys)):KT H' kvs xs:=
 Paired.Sh r fun _ _ z=>⟨z.1,ht _ _ z.2.1,z.2.2⟩
section
variable{P:ay1}{w:ay3}{H:Hp}{h:Heap}{a:Addr}
def EN{u:HO}(ok:JG P w H h)(e:Rd H a u):Il P w H h a u:=e.ok ok
def ue{kvs:az1}(ok:JG P w H h)(e:Rd H a (.dK kvs)):kvs.length<=sizeLine/\(a == sysModules)=false/\∃vs,KV kvs vs/\h.DictOf (cV P w) a vs:=
 show Il P w H h a (.dK kvs) from EN ok e
def B3{kvs:az1}(ok:JG P w H h)(e:H a=some (.dK kvs)):kvs.length<=sizeLine/\(a == sysModules)=false/\∃vs,KV kvs vs/\h.DictOf (cV P w) a vs:=ue ok (.inl e)
def qX{ks:List Key}(ok:JG P w H h)(e:H a=some (.tup (ks.map kV))):(tupleKind (cV P w)).is h ks a:=by
 obtain⟨_,y_,r,o,h1,h2,n,h3⟩:=(show Il P w H h a (.tup (ks.map kV)) from ok a _ e);exact⟨o,y_.toArray,n,h1,h2,h3,by simpa using lW r⟩
def tT{kvs:List (List Key×V)}(ok:JG P w H h)(e:Rd H a (.dT kvs)):kvs.length<=sizeLine/\(a == sysModules)=false/\
  ∃xs,KT H kvs xs/\h.DictOfH (tupleKind (cV P w)) a xs:=by
 obtain⟨z,y,xs,r,o,es,ep,h1,h2,h3,h4,h5⟩:=(show Il P w H h a (.dT kvs) from EN ok e);refine⟨z,y,xs,r,o,es,ep,h1,h2,h3,h4,fun x hx=>?_,h5⟩;have all:∀{l:List (List Key×V)}{m:List (List Key×Addr×Value)},KT H l m->∀x∈m,(tupleKind (cV P w)).is h x.1 x.2.1:=by
  intro l m q
  induction q with
  |nil=>intro x hx;exact nomatch hx
  |@cons p q ps qs hq t ih=>
   intro x hx;rcases ac7.mp hx with e|hx
   ·subst e;exact qX ok (by rw[<-hq.1];exact hq.2.1)
   ·exact ih x hx
 exact all r x hx
def Ge{kvs:List (List Key×V)}(ok:JG P w H h)(e:H a=some (.dT kvs)):kvs.length<=sizeLine/\(a == sysModules)=false/\
  ∃xs,KT H kvs xs/\h.DictOfH (tupleKind (cV P w)) a xs:=tT ok (.inl e)
end
def LN(H:Hp)(a:Addr)(y:V)(r:Option V):Prop:=
 (∃kvs k,Rd H a (.dK kvs)/\y=kV k/\r=kE kvs k)\/∃kvs k b,Rd H a (.dT kvs)/\y=.ref b/\H b=some (.tup (k.map kV))/\r=kE kvs k
def Pp(H:Hp)(a:Addr)(y v:V)(H':Hp):Prop:=
 (∃kvs k,H a=some (.dK kvs)/\y=kV k/\kvs.length<sizeLine/\H'=upd H a (.dK (jO kvs k v)))\/
 ∃kvs k b,H a=some (.dT kvs)/\y=.ref b/\H b=some (.tup (k.map kV))/\kvs.length<sizeLine/\H'=upd H a (.dT (jO kvs k v))
def LN.k{H:Hp}{a:Addr}{kvs:az1}{k:Key}(e:H a=some (.dK kvs)):LN H a (kV k) (kE kvs k):=.inl ⟨kvs,k,.inl e,rfl,rfl⟩
def LN.t{H:Hp}{a b:Addr}{kvs:List (List Key×V)}{k:List Key}(e:H a=some (.dT kvs))(eb:H b=some (.tup (k.map kV))):LN H a (.ref b) (kE kvs k):=.inr ⟨kvs,k,b,.inl e,rfl,eb,rfl⟩
def Pp.k{H:Hp}{a:Addr}{kvs:az1}{k:Key}{v:V}(e:H a=some (.dK kvs))(hl:kvs.length<sizeLine):Pp H a (kV k) v (upd H a (.dK (jO kvs k v))):=.inl ⟨kvs,k,e,rfl,hl,rfl⟩
def Pp.t{H:Hp}{a b:Addr}{kvs:List (List Key×V)}{k:List Key}{v:V}(e:H a=some (.dT kvs))(eb:H b=some (.tup (k.map kV)))(hl:kvs.length<sizeLine) :
  Pp H a (.ref b) v (upd H a (.dT (jO kvs k v))):=.inr ⟨kvs,k,b,e,rfl,eb,hl,rfl⟩
section
variable{X:Cx}{pins:aw8}{σ:St}{H:Hp}{s:Shared}{a:Addr}{y v:V}{u r:Value}{o:Option V}{A:ay2}{E:aw4}
def Inv.big(I:Inv X pins σ H s):sysModules<s.heap.objs.size:=by
 have h:mainGlobals<s.heap.objs.size:=(I.mod.glob.keeps I.bk).lt;exact Nat.lt_trans (by decide) h
def z9{Q:aw4}(hu:A.units+1<cLine)(I:Inv X pins σ H s)(g:LN H a y (some v))(ry:RelV y u)(h:∀w' s',Inv X pins σ H s'->RelV v w'->Q w' s') :
  wpAny (model X.prog X.w) A (getItem (.ref a) u) Q E s:=by
 rcases g with ⟨kvs,k,e,ey,l⟩|⟨kvs,k,b,e,ey,eb,l⟩
 ·subst ey;obtain⟨z,hd,vs,rel,dd⟩:=ue I.HH e;obtain⟨w',hw,Lg⟩:=Kj.some_of (v:=v) (o:=valueAt vs k) (by rw[l];exact rel.val k);exact wpAny_getItem_of (qQ ry) dd.mapOf hw (h w' _ (I.tok _) Lg)
 ·subst ey;cases(show u=Value.ref b from ry);obtain⟨z,hd,xs,rel,dd⟩:=tT I.HH e;obtain⟨w',hw,Lg⟩:=Kj.some_of (v:=v) (o:=(atKey xs k).map (·.2)) (by rw[l];exact rel.val k);obtain⟨p,hp,hp2⟩:=Option.map_eq_some_iff.mp hw;refine wpAny_getItem_heap (an7 hu) (qX I.HH eb) dd hp ?_;rw[hp2];exact h w' _ (I.tok _) Lg
def Hi{Q:aw4}(hu:A.units+1<cLine)(I:Inv X pins σ H s)(g:LN H a y o)(ry:RelV y u)(h:∀s',Inv X pins σ H s'->Q (.bool o.isSome) s') :
  wpAny (model X.prog X.w) A (compareOp .In u (.ref a)) Q E s:=by
 rcases g with ⟨kvs,k,e,ey,l⟩|⟨kvs,k,b,e,ey,eb,l⟩
 ·subst ey;obtain⟨z,hd,vs,rel,dd⟩:=ue I.HH e;refine wpAny_in_of (qQ ry) hd dd.mapOf ?_;rw[<-(rel.val k).Kd,<-l];exact h _ (I.tok _)
 ·subst ey;cases(show u=Value.ref b from ry);obtain⟨z,hd,xs,rel,dd⟩:=tT I.HH e;refine wpAny_in_heap (an7 hu) (qX I.HH eb) hd dd ?_;have q:=(rel.val k).Kd;rw[ap8] at q;rw[<-q,<-l];exact h _ (I.tok _)
def DR{Q:aw4}(hu:A.units+1<cLine)(I:Inv X pins σ H s)(g:LN H a y o)(ry:RelV y u)(h:∀s',Inv X pins σ H s'->Q (.bool (!o.isSome)) s') :
  wpAny (model X.prog X.w) A (compareOp .NotIn u (.ref a)) Q E s:=by
 rcases g with ⟨kvs,k,e,ey,l⟩|⟨kvs,k,b,e,ey,eb,l⟩
 ·subst ey;obtain⟨z,hd,vs,rel,dd⟩:=ue I.HH e;refine wpAny_notIn_of (qQ ry) hd dd.mapOf ?_;rw[<-(rel.val k).Kd,<-l];exact h _ (I.tok _)
 ·subst ey;cases(show u=Value.ref b from ry);obtain⟨z,hd,xs,rel,dd⟩:=tT I.HH e;refine wpAny_notIn_heap (an7 hu) (qX I.HH eb) hd dd ?_;have q:=(rel.val k).Kd;rw[ap8] at q;rw[<-q,<-l];exact h _ (I.tok _)
def pY{h':Heap}{t':Nat}{ob:HO}(I:Inv X pins σ H s)(mu:Ui (H a))(hs:SameBut a s.heap h')(he:∃q,h'.get? a=some q)(new:Il X.prog X.w (upd H a ob) h' a ob) :
  Inv X pins σ (upd H a ob) { s with heap:=h',toks:=t' }:=
 I.write (x:=a) (e:=a) mu (.inl rfl) (fun b q hb z=>(hs.2 b hb).trans z) he new
def ya{P:ay1}{w:ay3}{H':Hp}{h':Heap}{kvs:az1}{vs:List (Key×Value)}(z:kvs.length<=sizeLine)(hd:(a == sysModules)=false)(rel:KV kvs vs)(dd:h'.DictOf (cV P w) a vs) :
  Il P w H' h' a (.dK kvs):=⟨z,hd,vs,rel,dd⟩
def zO{H':Hp}{Q:ax6}(hu:A.units+1<cLine)(I:Inv X pins σ H s)(g:Pp H a y v H')(ry:RelV y u)(rv:RelV v r)(h:∀s',Inv X pins σ H' s'->Q () s') :
  wpAny (model X.prog X.w) A (setItem (.ref a) u r) Q E s:=by
 rcases g with ⟨kvs,k,e,ey,l,eH⟩|⟨kvs,k,b,e,ey,eb,l,eH⟩
 ·subst ey eH;obtain⟨z,hd,vs,rel,dd⟩:=B3 I.HH e;have hz:vs.length<=sizeLine:=by rw[<-rel.length];exact z
  have hl:(jO kvs k v).length<=sizeLine:=by have:=lz kvs k v;omega
  refine wpAny_setItem_pairs (hsz:=hz) (qQ ry) dd fun h' QL hs=>h _ ?_
  have he:∃q,h'.get? a=some q:=let ⟨q,_,_,hq,_⟩:=QL;⟨q,hq⟩
  exact pY I (by rw[e];exact ai4) hs he (ya hl hd (rel.put k rv) QL)
 ·subst ey eH;cases(show u=Value.ref b from ry);obtain⟨z,hd,xs,rel,dd⟩:=Ge I.HH e;have hz:xs.length<=sizeLine:=by rw[<-at8 rel];exact z
  have hl:(jO kvs k v).length<=sizeLine:=by have:=lz kvs k v;omega
  refine wpAny_setItem_heap (hsz:=hz) (an7 hu) (qX I.HH eb) dd fun h' QL hs=>h _ ?_
  obtain⟨q,es,ep,hq,h2,h3,h4,_,h5⟩:=QL;refine pY I (by rw[e];exact ai4) hs ⟨q,hq⟩ ⟨hl,hd,_,(rel.put k eb rv).keeps fun c ys ec=>?_,q,es,ep,hq,h2,h3,h4,h5⟩;rw[bf (FY ec e (fun z=>nomatch z))];exact ec
end
section
variable{X:Cx}{pins:aw8}{σ:St}{H:Hp}{s:Shared}{a:Addr}{kvs:az1}{k:Key}{u:Value}{A:ay2}{E:aw4}
def Gg{v:V}{more:aw7}{Q:aw4}(I:Inv X pins σ H s)(e:H a=some (.dK kvs))(ry:RelV (kV k) u)(l:kE kvs k=some v)(hm:more=[]\/∃x,more=[x])
  (h:∀w' s',Inv X pins σ (upd H a (.dK (qW kvs k))) s'->RelV v w'->Q w' s'):wpAny (model X.prog X.w) A (call (.builtin "dict.pop") (.ref a :: u :: more)) Q E s:=by
 obtain⟨z,hd,vs,rel,dd⟩:=B3 I.HH e;obtain⟨w',hw,Lg⟩:=Kj.some_of (v:=v) (o:=valueAt vs k) (by rw[<-l];exact rel.val k);have hp:(keyPart u).isSome=true:=by
  cases k with
  |inl i=>obtain⟨t,q⟩:=(show ∃t,u=Value.int i t from ry);subst q;rfl
  |inr x=>obtain⟨t,q⟩:=(show ∃t,u=Value.str x t from ry);subst q;rfl
 have ha:argsOk "dict.pop" ⟨.ref a :: u :: more,[]⟩:=by
  rcases hm with q|⟨x,q⟩
  ·subst q;exact PySem.F.args_dict_pop_2 _ _
  ·subst q;exact PySem.F.args_dict_pop_3 _ _ _
 refine call_meetsIn PySem.F.slot_dict_pop dd.typeIs PySem.F.entry_dict_pop ha (meets_dict_pop_there (cV X.prog X.w) a (qQ ry) more hm hp)
  ⟨vs,w',dd,by rw[<-rel.length];exact z,hw,fun h' QL hs=>h w' _ ?_ Lg⟩
 have he:∃q,h'.get? a=some q:=let ⟨q,_,_,hq,_⟩:=QL;⟨q,hq⟩
 exact pY I (by rw[e];exact ai4) hs he (ya (ab5 (Bg kvs k) z) hd (rel.drop k) QL)
end
def vW{X:Cx}{pins:aw8}{σ:St}{H:Hp}{s:Shared}{a:Addr}{y:V}{o:Option V}(I:Inv X pins σ H s)(g:LN H a y o):s.TypeIs (.ref a) "dict":=by
 rcases g with ⟨kvs,k,e,_,_⟩|⟨kvs,k,b,e,_,_,_⟩
 ·obtain⟨_,_,vs,_,dd⟩:=ue I.HH e;exact dd.typeIs
 ·obtain⟨_,_,xs,_,dd⟩:=tT I.HH e;exact dd.typeIs
section
variable{X:Cx}{o i e value:Expr}{pos pos' LZ:Pos}{td ty tv:TE}
end
def wF{P:ay1}{w:ay3}{H:Hp}(h:Heap)(hb:sysModules<h.objs.size):Il P w H (h.push { cls:=.type "dict",data:=.dict #[] }) h.objs.size (.dK []):=
 ⟨ae7 _,af5.mpr (af8 (ad0 hb)),[],.nil,Heap.DictOf.new h⟩
def E7:TE:=fun _ H Q=>∀p,H p=none->Q (.ref p) (upd H p (.dK []))
section
variable{X:Cx}{pos:Pos}
def BW:PE X (.Dict [] [] pos) E7:=fun pins s σ H Q I h=>
 wpAny_Dict_empty ⟨.ref s.heap.objs.size,_,I.laid (a:=s.heap.objs.size) (o:=.dK []) (t':=s.toks) (fun _ _ q=>aa6 _ q) (aa1 _) (wF s.heap I.big),rfl,h _ (I.HH.fresh (aa1 _))⟩
end
abbrev VV:List (V×V)->List (Value×Value)->Prop:=Paired fun p q=>RelV p.1 q.1/\RelV p.2 q.2
def oO(kvs more:az1):List (Key×V):=more.foldl (fun acc kv=>jO acc kv.1 kv.2) kvs
def KV.merge:∀{more:az1}{rs:List (Key×Value)}{kvs:az1}{vs:List (Key×Value)},KV more rs->KV kvs vs->KV (oO kvs more) (merged vs rs):=by
 intro more rs kvs vs r;unfold KV at r
 induction r generalizing kvs vs with
 |nil=>intro q;exact q
 |@cons p q ps qs h t ih=>
  intro r0;have e:KV (jO kvs p.1 p.2) (stored vs q.1 q.2):=by
   have:=r0.put p.1 h.2;rw[<-h.1];exact this
  exact ih e
theorem mv:∀(more kvs:az1),(oO kvs more).length<=kvs.length+more.length
 |[],kvs=>by show kvs.length<=kvs.length+0;omega
 |p :: r,kvs=>by
  have h1:=mv r (jO kvs p.1 p.2);have h2:=lz kvs p.1 p.2;show(oO (jO kvs p.1 p.2) r).length<=_;rw[ab8];omega
theorem qF{P:ay1}{w:ay3}:∀{kvs:az1}{ws:List (Value×Value)},VV (kvs.map fun kv=>(kV kv.1,kv.2)) ws->∃rs,Carries (cV P w) ws rs/\KV kvs rs
 |[],_,r=>by rw[aw3] at r;cases r;exact⟨[],ai4,.nil⟩
 |p :: kvs,_,r=>by
  rw[ac2] at r;cases r with
  |@cons a b as bs h t=>
   obtain⟨rs,c,q⟩:=qF (P:=P) (w:=w) t;obtain⟨b1,b2⟩:=b;exact⟨(p.1,b2) :: rs,⟨qQ h.1,rfl,c⟩,.cons ⟨rfl,h.2⟩ q⟩
structure M1(X:Cx)(o:Expr)(m:Str)(apos:Pos)(e:Expr)(IE:Pos):Prop where
 base:attributeBase o m X.env (eval o X.env)=eval o X.env
 VQ:((backTo IE (starEach [e] X.env)).all (fun x=>!x.1) && (backToKw IE (keywordEach [] X.env)).all (fun x=>x.1.isSome)
  && decide (([e]:ax8).length+([]:List Keyword).length+(if ([]:List Keyword).isEmpty then 0 else 1)<30))=true
 line:(apos.endLine == IE.line)=true
 trees:backTo IE (starEach [e] X.env)=[(false,eval e X.env)]
structure M2(X:Cx)(o:Expr)(m:Str)(apos:Pos)(e f:Expr)(IE:Pos):Prop where
 base:attributeBase o m X.env (eval o X.env)=eval o X.env
 VQ:((backTo IE (starEach [e,f] X.env)).all (fun x=>!x.1) && (backToKw IE (keywordEach [] X.env)).all (fun x=>x.1.isSome)
  && decide (([e,f]:ax8).length+([]:List Keyword).length+(if ([]:List Keyword).isEmpty then 0 else 1)<30))=true
 line:(apos.endLine == IE.line)=true
 trees:backTo IE (starEach [e,f] X.env)=[(false,eval e X.env),(false,eval f X.env)]
def IsD(H:Hp)(a:Addr):Prop:=(∃kvs,Rd H a (.dK kvs))\/∃kvs,Rd H a (.dT kvs)
def Fz{X:Cx}{pins:aw8}{σ:St}{H:Hp}{s:Shared}{a:Addr}(I:Inv X pins σ H s)(d:IsD H a) :
  s.TypeIs (.ref a) "dict"/\(∀b,Value.ref a=.ref b->∃ob,s.heap.get? b=some ob/\ob.dict=none)/\(a == sysModules)=false:=by
 rcases d with ⟨kvs,e⟩|⟨kvs,e⟩
 ·obtain⟨_,hd,vs,_,dd⟩:=ue I.HH e;refine⟨dd.typeIs,fun b q=>?_,hd⟩;cases q;obtain⟨ob,_,_,h1,h2,_⟩:=dd;exact⟨ob,h1,h2.2.1⟩
 ·obtain⟨_,hd,xs,_,dd⟩:=tT I.HH e;refine⟨dd.typeIs,fun b q=>?_,hd⟩;cases q;obtain⟨ob,_,_,h1,h2,_⟩:=dd;exact⟨ob,h1,h2.2.1⟩
section
variable{X:Cx}{pins:aw8}{σ:St}{H:Hp}{s:Shared}{a:Addr}{y d:V}{u r:Value}{o:Option V}{A:ay2}{E:aw4}
end
section
variable{X:Cx}{o e f:Expr}{apos IE:Pos}{td ty tx:TE}
end
end L2
namespace DL
open PySem PySem.Spec PyProof.Rows L2
def im(kvs:List (Key×D))(k:Key):Option D:=(kvs.find? fun kv=>decide (kv.1=k)).map (·.2)
def sT(kvs:List (Key×D))(k:Key)(d:D):List (Key×D):=
 if (kvs.any fun kv=>decide (kv.1=k))=true then kvs.map (fun kv=>if kv.1=k then (kv.1,d) else kv) else kvs++[(k,d)]
def wq(kvs:List (Key×D))(k:Key):List (Key×D):=kvs.filter fun kv=>decide (kv.1≠k)
section
variable{K:aw5}{H:Hp}{J:aw6}
theorem Hv.val:∀{kvs:List (Key×D)}{ws:az1}(k:Key),Hv K H J kvs ws->(∀d,im kvs k=some d->∃v,kE ws k=some v/\s_ K H J d v)/\(im kvs k=none->kE ws k=none)
 |[],_,k,h=>by
  have h':_=[]:=h;subst h';exact⟨fun d e=>(by cases e),fun _=>rfl⟩
 |(k0,d0) :: r,ws,k,h=>by
  obtain⟨v,t,rfl,h2,h3⟩:=h;by_cases e:k0=k
  ·have e1:im ((k0,d0) :: r) k=some d0:=by simp[im,aj0,e]
   have e2:kE ((k0,v) :: t) k=some v:=nu e;rw[e1,e2];exact⟨fun d q=>⟨v,rfl,by cases q;exact h2⟩,fun q=>(by cases q)⟩
  ·have e1:im ((k0,d0) :: r) k=im r k:=by simp[im,aj0,e]
   have e2:kE ((k0,v) :: t) k=kE t k:=nC e;rw[e1,e2];exact Hv.val k h3
theorem Hv.UU:∀{kvs:List (Key×D)}{ws:az1}(k:Key),Hv K H J kvs ws->(kvs.any fun kv=>decide (kv.1=k))=ws.any fun kv=>decide (kv.1=k)
 |[],_,k,h=>by
  have h':_=[]:=h;subst h';rfl
 |(k0,d0) :: r,ws,k,h=>by
  obtain⟨v,t,rfl,h2,h3⟩:=h;rw[ao2,ao2,Hv.UU k h3]
theorem Hv.SR{d:D}{v:V}(hd:s_ K H J d v):∀{kvs:List (Key×D)}{ws:az1}(k:Key),Hv K H J kvs ws->
  Hv K H J (kvs.map fun kv=>if kv.1=k then (kv.1,d) else kv) (ws.map fun kv=>if kv.1=k then (kv.1,v) else kv)
 |[],_,k,h=>by
  have h':_=[]:=h;subst h';exact h
 |(k0,d0) :: r,ws,k,h=>by
  obtain⟨v0,t,rfl,h2,h3⟩:=h;rw[ac2,ac2];by_cases e:k0=k
  ·rw[ab2 e,ab2 e];exact⟨v,_,rfl,hd,Hv.SR hd k h3⟩
  ·rw[ab1 e,ab1 e];exact⟨v0,_,rfl,h2,Hv.SR hd k h3⟩
theorem Hv.snoc{d:D}{v:V}(hd:s_ K H J d v):∀{kvs:List (Key×D)}{ws:az1}(k:Key),Hv K H J kvs ws->Hv K H J (kvs++[(k,d)]) (ws++[(k,v)])
 |[],_,k,h=>by
  have h':_=[]:=h;subst h';exact⟨v,[],rfl,hd,rfl⟩
 |(k0,d0) :: r,ws,k,h=>by
  obtain⟨v0,t,rfl,h2,h3⟩:=h;exact⟨v0,_,rfl,h2,Hv.snoc hd k h3⟩
def Hv.put{d:D}{v:V}(hd:s_ K H J d v){kvs:List (Key×D)}{ws:az1}(k:Key)(h:Hv K H J kvs ws):Hv K H J (sT kvs k d) (jO ws k v):=by
 unfold sT jO;rw[h.UU k];by_cases e:(ws.any fun kv=>decide (kv.1=k))=true
 ·rw[ab2 e,ab2 e];exact h.SR hd k
 ·rw[ab1 e,ab1 e];exact h.snoc hd k
theorem Hv.P9:∀{kvs:List (Key×D)}{ws:az1}(k:Key),Hv K H J kvs ws->Hv K H J (wq kvs k) (qW ws k)
 |[],_,k,h=>by
  have h':_=[]:=h;subst h';exact h
 |(k0,d0) :: r,ws,k,h=>by
  obtain⟨v0,t,rfl,h2,h3⟩:=h;unfold wq qW;rw[ak8,ak8];by_cases e:decide (k0≠k)=true
  ·rw[ab2 e,ab2 e];exact⟨v0,_,rfl,h2,Hv.P9 k h3⟩
  ·rw[ab1 e,ab1 e];exact Hv.P9 k h3
end
def ir:D->Option Key
 |.int i=>some (.inl i)
 |.str x=>some (.inr x)
 |_=>none
def j1{K:aw5}{H:Hp}{J:aw6}{x:D}{k:Key}{v:V}(h:ir x=some k)(r:s_ K H J x v):v=kV k:=by
 cases x with
 |int i=>cases h;cases r.IT;rfl
 |str i=>cases h;cases r.P0;rfl
 |_=>cases h
def dE(S:ay4)(n:Nat):Option (List (Key×D)):=match S[n]? with
 |some (.Js kvs)=>some kvs
 |_=>none
def xH{S:ay4}{n:Nat}{kvs:List (Key×D)}(h:dE S n=some kvs):S[n]?=some (.Js kvs):=by
 unfold dE at h;split at h
 ·rename_i e;cases h;exact e
 ·cases h
def fO{S:ay4}{n:Nat}{kvs:List (Key×D)}(h:S[n]?=some (.Js kvs)):dE S n=some kvs:=by unfold dE;rw[h]
def HB.Js{K:aw5}{H:Hp}{J:aw6}{S:ay4}{n:Nat}{kvs:List (Key×D)}{a:Addr}(rs:HB K H J S)(h:dE S n=some kvs)(hn:J[n]?=some a):∃ws,H a=some (.dK ws)/\Hv K H J kvs ws:=rs.at_ n _ a (xH h) hn
section
variable{X:Cx}{a b o e:Expr}{es:ax8}{fa fb fo fi fe:ay5}{ft:ay6}{pos:Pos}
def qN(x y:D):M D:=fun S=>match ir x,y with
 |some k,.ob n=>(match dE S n with
  |some kvs=>.ok (.bl (im kvs k).isSome) S
  |none=>.bad)
 |_,_=>.bad
def fu(x y:D):M D:=fun S=>match ir x,y with
 |some k,.ob n=>(match dE S n with
  |some kvs=>.ok (.bl (!(im kvs k).isSome)) S
  |none=>.bad)
 |_,_=>.bad
def uw{K:aw5}{H:Hp}{J:aw6}{S:ay4}{n:Nat}{kvs:List (Key×D)}{ad:Addr}(rs:HB K H J S)(h:dE S n=some kvs)(hn:J[n]?=some ad)(k:Key) :
  (∀d,im kvs k=some d->∃v,LN H ad (kV k) (some v)/\s_ K H J d v)/\∃ov,LN H ad (kV k) ov/\ov.isSome=(im kvs k).isSome:=by
 obtain⟨ws,hv,rp⟩:=rs.Js h hn;obtain⟨h1,h2⟩:=rp.val k;refine⟨fun d e=>?_,kE ws k,LN.k hv,?_⟩
 ·obtain⟨v,e1,e2⟩:=h1 d e;exact⟨v,by rw[<-e1];exact LN.k hv,e2⟩
 ·cases e:im kvs k with
  |none=>rw[h2 e];rfl
  |some d=>obtain⟨v,e1,_⟩:=h1 d e;rw[e1];rfl
def CH(hu:X.A.units+64<cLine):Lu X (compareOp .In) qN:=by
 intro pins s σ H J S x y vx vy v u Q E I rs rx ry rv ru m;unfold qN at m;cases ek:ir x with
 |none=>rw[ek] at m;exact m.elim
 |some k=>
  rw[ek] at m;cases y with
  |ob n=>
   dsimp only at m;obtain⟨ad,rfl,hn⟩:=ry.KR;cases ru;cases ed:dE S n with
   |none=>rw[ed] at m;exact m.elim
   |some kvs=>
    rw[ed] at m;have:=j1 ek rx;subst this;obtain⟨_,ov,g,e⟩:=uw rs ed hn k;refine Hi (by omega) I g rv fun s' I'=>?_
    rw[e];exact m.Ku I' rs (s_.bl _ _ _ _) rfl
  |_=>exact m.elim
def tK(hu:X.A.units+64<cLine):Lu X (compareOp .NotIn) fu:=by
 intro pins s σ H J S x y vx vy v u Q E I rs rx ry rv ru m;unfold fu at m;cases ek:ir x with
 |none=>rw[ek] at m;exact m.elim
 |some k=>
  rw[ek] at m;cases y with
  |ob n=>
   dsimp only at m;obtain⟨ad,rfl,hn⟩:=ry.KR;cases ru;cases ed:dE S n with
   |none=>rw[ed] at m;exact m.elim
   |some kvs=>
    rw[ed] at m;have:=j1 ek rx;subst this;obtain⟨_,ov,g,e⟩:=uw rs ed hn k;refine DR (by omega) I g rv fun s' I'=>?_
    rw[e];exact m.Ku I' rs (s_.bl _ _ _ _) rfl
  |_=>exact m.elim
def iW(x y:D):M D:=fun S=>match x,ir y with
 |.ob n,some k=>(match dE S n with
  |some kvs=>(match im kvs k with
   |some d=>.ok d S
   |none=>.bad)
  |none=>.bad)
 |_,_=>.bad
def uK(hu:X.A.units+64<cLine):TK X iW:=by
 intro value slice pins s σ H J S x y vx vy v u Q E I rs rx ry rv ru hs m;unfold iW at m;cases ek:ir y with
 |none=>rw[ek] at m;cases x<;>exact m.elim
 |some k=>
  rw[ek] at m;cases x with
  |ob n=>
   dsimp only at m;obtain⟨ad,rfl,hn⟩:=rx.KR;cases rv;cases ed:dE S n with
   |none=>rw[ed] at m;exact m.elim
   |some kvs=>
    rw[ed] at m;dsimp only at m;have:=j1 ek ry;subst this;cases ev:im kvs k with
    |none=>rw[ev] at m;exact m.elim
    |some d=>
     rw[ev] at m;obtain⟨h1,_⟩:=uw rs ed hn k;obtain⟨w,g,Lg⟩:=h1 d ev;exact tail_any (vW I g) PySem.F.slot_dict_getitem.lookup (z9 (by omega) I g ru fun w' s' I' rr=>m.Ku I' rs Lg rr) hs
  |_=>exact m.elim
def kR:r_->M D:=fun _ S=>.ok (.ob S.length) (S++[.Js []])
def pU:Ii X (.Dict [] [] pos) kR:=by
 intro pins s σ H J r S Q E I m;refine ad6 (BW (X:=X.HV E) pins s σ H (Got X.K H J (.ob S.length) (S++[.Js []])) (I.inv.HV E) ?_) (fun u s' q=>m u s' (EP.HR q)) fun _ _ z=>z
 intro p hp;exact⟨J++[p],(Ext.new hp).snoc _,I.st.push hp ⟨[],bF,rfl⟩,.ob (by rw[<-I.st.len];simp)⟩
def W7(X:Cx)(g:D->D->D->List Cell->Option (List Cell)):Prop:=∀(pins:Hz) (s:Shared) (σ:L2.St) (H:Hp) (J:aw6) (S:ay4) (x y d:D) (vx vy vd:V) (ux uy ud:Value) (S':ay4) (Q:ax6) (E:aw4),
 Inv X pins σ H s->HB X.K H J S->s_ X.K H J x vx->s_ X.K H J y vy->s_ X.K H J d vd->RelV vx ux->RelV vy uy->RelV vd ud->g x y d S=some S'->(∀s' H',Inv X pins σ H' s'->Ext H J H' J->HB X.K H' J S'->Q () s')->wpAny (model X.prog X.w) X.A (setItem ux uy ud) Q E s
def xb(g:D->D->D->List Cell->Option (List Cell))(fo fi fe:ay5):HK:=fun r=>cz (fe r) r fun d=>cz (fo r) r fun x=>cz (fi r) r fun y S=>match g x y d S with
 |some S'=>some (.nx r,S')
 |none=>none
def vp{i:Expr}{pos':Pos}{g:D->D->D->List Cell->Option (List Cell)}(hg:W7 X g)(ho:Ii X o fo)(hi:Ii X i fi)(he:Ii X e fe)(hs:swapsWith e (some (.Subscript o i pos')) pos.line X.env=pure false:=by rfl) :
  Oj X (.Assign [.Subscript o i pos'] e pos) (xb g fo fi fe):=by
 intro pins s σ H J r S Q E I m;refine wpAny_Assign_Subscript (vj he I m fun d S1 ud s1 vd H1 J1 I1 x1 rd ru m1=>vj ho I1 m1 fun x S2 ux s2 vx H2 J2 I2 x2 rx rvx m2=>vj hi I2 m2 fun y S3 uy s3 vy H3 J3 I3 x3 ry rvy m3=>?_) hs;cases eg:g x y d S3 with
 |none=>rw[eg] at m3;exact m3.elim
 |some S'=>
  rw[eg] at m3;exact hg pins s3 σ H3 J3 S3 x y d vx vy vd ux uy ud S' _ E I3.inv I3.st (rx.ext x3) ry ((rd.ext x2).ext x3) rvx rvy ru eg fun s' H' I' x' Pm=>m3 s' σ H' J3 ⟨I',I3.loc.ext x',Pm⟩ x'
def qk(x y d:D)(S:ay4):Option (List Cell):=match x,ir y with
 |.ob n,some k=>(match dE S n with
  |some kvs=>Ka (kvs.length<sizeLine) (some (S.set n (.Js (sT kvs k d)))) none
  |none=>none)
 |_,_=>none
def zx(hu:X.A.units+64<cLine):W7 X qk:=by
 intro pins s σ H J S x y d vx vy vd ux uy ud S' Q E I rs rx ry rd W8 W9 W_ eg k;unfold qk at eg;cases ek:ir y with
 |none=>rw[ek] at eg;cases x<;>cases eg
 |some ky=>
  rw[ek] at eg;cases x with
  |ob n=>
   dsimp only at eg;obtain⟨ad,rfl,hn⟩:=rx.KR;cases W8;cases ed:dE S n with
   |none=>rw[ed] at eg;cases eg
   |some kvs=>
    rw[ed] at eg;dsimp only at eg;unfold Ka at eg;split at eg
    ·rename_i hz;cases eg;have:=j1 ek ry;subst this;obtain⟨ws,hv,rp⟩:=rs.Js ed hn;refine zO (by omega) I (Pp.k hv (by rw[rp.length];exact hz)) W9 W_ fun s' I'=>?_
     have x':Ext H J (upd H ad (.dK (jO ws ky vd))) J:=Ext.write hv rfl;exact k s' _ I' x' (rs.write hn ⟨_,bF,(rp.ext x').put (rd.ext x') ky⟩)
    ·cases eg
  |_=>cases eg
def pj(x y d:D)(S:ay4):Option (List Cell):=match x,y with
 |.ob n,.int i=>(match cw S n with
  |some xs=>(match Ou xs.length i with
   |some j=>some (S.set n (.lst (xs.set j d)))
   |none=>none)
  |none=>none)
 |_,_=>none
def zm:W7 X pj:=by
 intro pins s σ H J S x y d vx vy vd ux uy ud S' Q E I rs rx ry rd W8 W9 W_ eg k;unfold pj at eg;cases x with
 |ob n=>
  cases y with
  |int i=>
   dsimp only at eg;obtain⟨ad,rfl,hn⟩:=rx.KR;cases ry.IT;cases ed:cw S n with
   |none=>rw[ed] at eg;cases eg
   |some xs=>
    rw[ed] at eg;dsimp only at eg;cases ej:Ou xs.length i with
    |none=>rw[ej] at eg;cases eg
    |some j=>
     rw[ej] at eg;cases eg;obtain⟨ws,hv,Lg⟩:=rs.lst ed hn;refine ad6 (Co (X:=X.HV E) pins s σ H (.ref ad) (.int i) vd ux uy ud (fun H'=>H'=upd H ad (.lst (ws.set j vd))) (I.HV E) W8 W9 W_ ⟨ad,ws,i,j,rfl,rfl,hv,by rw[Lg.length];exact ej,rfl⟩) (fun _ s' q=>?_) fun _ _ z=>z
     obtain⟨H',I',rfl⟩:=q;have x':Ext H J (upd H ad (.lst (ws.set j vd))) J:=Ext.write hv rfl;exact k s' _ I'.HR x' (rs.write hn ⟨_,bF,l_.set (rd.ext x') j (Lg.ext x')⟩)
  |_=>cases eg
 |_=>cases eg
def DZ(x:D):M Unit:=fun S=>match x with
 |.ob n=>(match dE S n with
  |some _=>.ok () S
  |none=>.bad)
 |_=>.bad
def zZ(g:D->List D->M D)(fo:ay5)(ft:ay6):r_->M D:=fun r=>(fo r).bind fun x=>(DZ x).bind fun _=>(ft r).bind fun xs=>g x xs
def Fb{name:Str}{apos IE:Pos}{id:String}{g:D->List D->M D}(slot:Slot "dict" name id)(W5:typeOf (.builtin id)=pure (.type "method_descriptor"))(hm:SO X id g)
  (ho:Ii X o fo) (ha:NO X (e :: es) ft)
  (L5:attributeBase o name X.env (eval o X.env)=eval o X.env:=by rfl)
  (OB:((backTo IE (starEach (e :: es) X.env)).all (fun x=>!x.1) && (backToKw IE (keywordEach [] X.env)).all (fun x=>x.1.isSome)
   && decide ((e :: es).length+([]:List Keyword).length+(if ([]:List Keyword).isEmpty then 0 else 1)<30))=true:=by rfl)
  (L6:(apos.endLine == IE.line)=true:=by rfl) (hs:starEach (e :: es) X.env=(false,eval e X.env) :: starEach es X.env:=by rfl) (L7:(backTo IE (starEach es X.env)).any (·.1)=false:=by rfl) :
  Ii X (.Call (.Attribute o name apos) (e :: es) [] IE) (zZ g fo ft):=by
 intro pins s σ H J r S Q E I m;refine ao6 L5 OB L6 rfl (ho pins s σ H J r S _ E I ?_);unfold zZ M.bind at m;cases e1:fo r S with
 |bad=>rw[e1] at m;exact m
 |exc c S1=>rw[e1] at m;exact m
 |ok x S1=>
  rw[e1] at m;dsimp only at m;rintro v s1 ⟨vx,H1,I1,r1,J1,Ks,KL,JY⟩;cases x with
  |ob n=>
   obtain⟨a,rfl,hn⟩:=JY.KR;simp only[DZ] at m;cases e2:dE S1 n with
   |none=>rw[e2] at m;exact m.elim
   |some kvs=>
    rw[e2] at m;obtain⟨ws,hv,HZ⟩:=KL.Js e2 hn;cases r1;obtain⟨h1,h2,_⟩:=Fz I1 (.inl ⟨ws,.inl hv⟩);refine⟨"dict",id,PySem.F.plainAttrs_dict,slot,W5,h1,h2,?_⟩;have m:=Mt.ext Ks m;have hA:=FE (k:=fun xs=>g (.ob n) xs) (Q':=fun us s2=>wpAny (model X.prog X.w) X.A (call (.builtin id) (.ref a :: us)) Q E s2) ha ⟨I1,I.loc.ext Ks,KL⟩ m (fun xs S2 s2 H2 J2 vs us I2 x2 rv r2 m2=>?_) IE
    ·rw[hs] at hA ⊢;exact ao7 (by show(false || (backTo IE (starEach es X.env)).any (·.1))=false;rw[L7]<;>rfl) (as4 hA)
    ·exact hm pins s2 σ H2 J2 S2 (.ob n) xs (.ref a) vs (.ref a) us Q E I2.inv I2.st (JY.ext x2) rv rfl r2 m2
  |_=>exact m.elim
def vH:D->List D->M D
 |.ob n,[y]=>fun S=>match ir y,dE S n with
  |some k,some kvs=>(match im kvs k with
   |some d=>.ok d (S.set n (.Js (wq kvs k)))
   |none=>.bad)
  |_,_=>.bad
 |_,_=>M.bad
def DT:SO X "dict.pop" vH:=by
 intro pins s σ H J S x xs vx vs v us Q E I rs rx Nn rv HZ m;cases x with
 |ob n=>
  match xs,m,Nn with
  |[y],m,Nn=>
   obtain⟨ad,rfl,hn⟩:=rx.KR;obtain⟨w,rfl,Lg⟩:=Nn.La;obtain⟨u,rfl,ru⟩:=HZ.one;cases rv;simp only[vH] at m;cases ek:ir y with
   |none=>rw[ek] at m;exact m.elim
   |some k=>
    rw[ek] at m;cases ed:dE S n with
    |none=>rw[ed] at m;exact m.elim
    |some kvs=>
     rw[ed] at m;dsimp only at m;cases ev:im kvs k with
     |none=>rw[ev] at m;exact m.elim
     |some d=>
      rw[ev] at m;have:=j1 ek Lg;subst this;obtain⟨ws,hv,rp⟩:=rs.Js ed hn;obtain⟨vd,e1,rd⟩:=(rp.val k).1 d ev;refine Gg I hv ru e1 (.inl rfl) fun w' s' I' rr=>?_
      have x':Ext H J (upd H ad (.dK (qW ws k))) J:=Ext.write hv rfl;exact m w' s' ⟨vd,_,I',rr,J,x',rs.write hn ⟨_,bF,(rp.ext x').P9 k⟩,rd.ext x'⟩
  |[],m,_=>exact m.elim
  |_ :: _ :: _,m,_=>exact m.elim
 |_=>exact m.elim
end
def pM(l:Addr)(items:ax2)(n:Nat)(b:Addr)(L9:ax2)(n2:Nat)(dd:Option Addr)(sl:ax9)(Zz:¬(!items.isEmpty && Builtin.List.listTooLong (items.size+L9.size))=true)(hs1:items.size<=sizeLine)(M7:items.size+L9.size<=sizeLine+1) :
  Meets (Builtin.«list.extend» ⟨[.ref l,.ref b],[]⟩) (fun _ R s=>s.heap.get? l=some { cls:=.type "list",dict:=none,data:=.seq items n,slots:=#[] }/\s.heap.get? b=some { cls:=.type "tuple",dict:=dd,data:=.seq L9 n2,slots:=sl }/\R (.ok (.ret Value.none)) { s with heap:=s.heap.update l (Obj.mapSeq fun x=>x++L9),toks:=s.toks }):=
 .of_wp fun prog w A R s h=>by
  obtain⟨hp,g,d,tk,os⟩:=s;obtain⟨hl,hb,h⟩:=h;have f1:=PySem.AutoSeq1.idx_int;have f2:=PySem.AutoSeq1.sub_tuple_tuple;have f3:=PySem.AutoSeq1.sub_list_list;have f4:=PySem.AutoSeq1.sub_tuple_list;have f5:=PySem.AutoSeq1.sub_list_tuple;have VP:(items++L9).size<=sizeLine+1:=by rw[Array.size_append];exact M7
  wp_walk using (av0 hl rfl (hz:=hs1) (_hz':=VP)),wpAny_loadPart' hl,wpAny_loadPart' hb
  exact⟨_,rfl,h⟩
section
variable{X:Cx}
def sG:D->List D->M D
 |.ob n,[.tup ys]=>fun S=>match cw S n with
  |some xs=>Ka (xs.length+ys.length<=sizeLine) (.ok .Hw (S.set n (.lst (xs++ys)))) .bad
  |none=>.bad
 |_,_=>M.bad
def oW:SO X "list.extend" sG:=by
 intro pins s σ H J S x xs vx vs v us Q E I rs rx Nn rv HZ m;cases x with
 |ob n=>
  match xs,m,Nn with
  |[.tup ys],m,Nn=>
   obtain⟨ad,rfl,hn⟩:=rx.KR;obtain⟨w,rfl,Lg⟩:=Nn.La;obtain⟨u,rfl,ru⟩:=HZ.one;cases rv;obtain⟨b,zs,rfl,hq,rz⟩:=Lg.K_;cases ru;simp only[sG,Ka] at m;cases ed:cw S n with
   |none=>rw[ed] at m;exact m.elim
   |some VR=>
    rw[ed] at m;dsimp only at m;split at m
    ·rename_i hz;obtain⟨ws,hv,rws⟩:=rs.lst ed hn;obtain⟨z,y_,n1,r,hl,e⟩:=I.NV hv;obtain⟨NW,r2,ht,ZP⟩:=I.tuple hq;obtain⟨⟨Ux,TF,data2,TH⟩,Pf,RK,n2,hd2⟩:=id ht;simp only at RK hd2;subst RK hd2;have QH:=r2.length;have l1:=rws.length;have l2:=rz.length;have hsz:y_.toArray.size+NW.toArray.size<=sizeLine:=by rw[ab7,ab7];omega
     have PY:¬(!y_.toArray.isEmpty && Builtin.List.listTooLong (y_.toArray.size+NW.toArray.size))=true:=by
      rw[vV hsz,Bool.and_false];exact ad2
     refine ap5 F.slot_list_extend ⟨_,e,rfl⟩ F.entry_list_extend (F.args_list_extend_2 _ _) (pM ad y_.toArray n1 b NW.toArray n2 TF TH PY (by rw[ab7];omega) (by omega)) ⟨e,Pf,?_⟩;have x':Ext H J (upd H ad (.lst (ws++zs))) J:=Ext.write hv rfl;refine m _ _ ⟨.Hw,_,I.QU (its':=y_++NW) hv e (by simp) (r.append r2) (by rw[aa8];omega),rfl,J,x',rs.write hn ⟨_,bF,(rws.ext x').append (rz.ext x')⟩,s_.Hw _ _ _⟩
    ·exact m.elim
  |[],m,_=>exact m.elim
  |[.Hw],m,_=>exact m.elim
  |[.bl _],m,_=>exact m.elim
  |[.int _],m,_=>exact m.elim
  |[.str _],m,_=>exact m.elim
  |[.Kh _],m,_=>exact m.elim
  |[.ob _],m,_=>exact m.elim
  |[.xn _],m,_=>exact m.elim
  |y :: _ :: _,m,_=>cases y<;>exact m.elim
 |_=>exact m.elim
theorem l_.eraseIdx{K:aw5}{H:Hp}{J:aw6}:∀{xs:ay7}{vs:az0}(i:Nat),l_ K H J xs vs->l_ K H J (xs.eraseIdx i) (vs.eraseIdx i)
 |[],_,i,h=>by unfold l_ at h;subst h;simp;exact .nil
 |x :: xs,vs,0,h=>by
  unfold l_ at h;obtain⟨v,r,h1,h2,h3⟩:=h;subst h1;exact h3
 |x :: xs,vs,i+1,h=>by
  unfold l_ at h;obtain⟨v,r,h1,h2,h3⟩:=h;subst h1;exact .cons h2 (l_.eraseIdx i h3)
def w8:D->List D->M D
 |.ob n,[.int i]=>fun S=>match cw S n with
  |some xs=>Ka (0<=i/\i<xs.length) (match xs[i.toNat]? with
   |some d=>.ok d (S.set n (.lst (xs.eraseIdx i.toNat)))
   |none=>.bad) .bad
  |none=>.bad
 |_,_=>M.bad
def Bp:SO X "list.pop" w8:=by
 intro pins s σ H J S x xs vx vs v us Q E I rs rx Nn rv HZ m;cases x with
 |ob n=>
  match xs,m,Nn with
  |[.int i],m,Nn=>
   obtain⟨ad,rfl,hn⟩:=rx.KR;obtain⟨w,rfl,Lg⟩:=Nn.La;cases Lg.IT;simp only[w8,Ka] at m;cases ed:cw S n with
   |none=>rw[ed] at m;exact m.elim
   |some VR=>
    rw[ed] at m;dsimp only at m;split at m
    ·rename_i hz;cases e3:VR[i.toNat]? with
     |none=>rw[e3] at m;exact m.elim
     |some d=>
      rw[e3] at m;obtain⟨ws,hv,rws⟩:=rs.lst ed hn;obtain⟨w,hw,Lg⟩:=rws.get e3;have hl:=rws.length;have Xa:=mT;have hz0:=(I.NV hv).1;refine ad6 (CC (X:=X.HV E) pins s σ H (.ref ad) [.int i] v us (Got X.K H J d (S.set n (.lst (VR.eraseIdx i.toNat)))) (I.HV E) rv HZ ⟨ad,ws,i,i.toNat,w,rfl,rfl,hv,by omega,by omega,av6 hz.1 (by rw[hl];exact hz.2),hw,?_⟩) (fun u s' q=>m u s' (EP.HR q)) fun _ _ z=>z
      have x':Ext H J (upd H ad (.lst (ws.eraseIdx i.toNat))) J:=Ext.write hv rfl;exact⟨J,x',rs.write hn ⟨_,bF,l_.eraseIdx _ (rws.ext x')⟩,Lg.ext x'⟩
    ·exact m.elim
  |[],m,_=>exact m.elim
  |[.Hw],m,_=>exact m.elim
  |[.bl _],m,_=>exact m.elim
  |[.tup _],m,_=>exact m.elim
  |[.str _],m,_=>exact m.elim
  |[.Kh _],m,_=>exact m.elim
  |[.ob _],m,_=>exact m.elim
  |[.xn _],m,_=>exact m.elim
  |y :: _ :: _,m,_=>cases y<;>exact m.elim
 |_=>exact m.elim
def wE:D->List D->M D
 |.ob n,[.int i,y]=>fun S=>match cw S n with
  |some xs=>Ka ((0<=i/\i<=xs.length)/\xs.length<sizeLine) (.ok .Hw (S.set n (.lst (xs.take i.toNat++y :: xs.drop i.toNat)))) .bad
  |none=>.bad
 |_,_=>M.bad
def Ae:SO X "list.insert" wE:=by
 intro pins s σ H J S x xs vx vs v us Q E I rs rx Nn rv HZ m;cases x with
 |ob n=>
  match xs,m,Nn with
  |[.int i,y],m,Nn=>
   obtain⟨ad,rfl,hn⟩:=rx.KR;obtain⟨w1,w2,rfl,rw1,rw2⟩:=Nn.Q3;cases rw1.IT;obtain⟨u1,u2,rfl,ru1,ru2⟩:=HZ.two;obtain⟨t1,rfl⟩:=ru1;cases rv;simp only[wE,Ka] at m;cases ed:cw S n with
   |none=>rw[ed] at m;exact m.elim
   |some VR=>
    rw[ed] at m;dsimp only at m;split at m
    ·rename_i hz;obtain⟨ws,hv,rws⟩:=rs.lst ed hn;obtain⟨z,y_,n1,r,hl,e⟩:=I.NV hv;have l1:=rws.length;have Xa:=mT;have PX:Builtin.List.listFitsIndex i=true:=av7 (by omega) (by omega);refine ap5 PySem.F.slot_list_insert ⟨_,e,rfl⟩ PySem.F.entry_list_insert (PySem.F.args_list_insert_3 _ _ _) (PySem.AutoSeq1.list_insert_list_int_val_1 ad y_.toArray n1 i t1 u2 (by simp[PX]) (by rw[ab7];omega)) ⟨e,?_⟩;have x':Ext H J (upd H ad (.lst (ws.take i.toNat++w2 :: ws.drop i.toNat))) J:=Ext.write hv rfl;refine m _ _ ⟨.Hw,_,I.QU (its':=y_.take i.toNat++u2 :: y_.drop i.toNat) hv e ?_ ((r.take _).append (.cons ru2 (r.drop _))) ?_,rfl,J,x',rs.write hn ⟨_,bF,((rws.ext x').take _).append (.cons (rw2.ext x') ((rws.ext x').drop _))⟩,s_.Hw _ _ _⟩
     ·have h0:¬i<0:=by omega
      have hk:min i.toNat y_.toArray.size=i.toNat:=by rw[ab7];omega
      simp only[ab1 h0,hk];apply Array.toList_inj.mp;simp;exact ah4 (by rw[ae8];exact aa1 _)
     ·rw[aa8,ab8,ad7,ae8];omega
    ·exact m.elim
  |[],m,_=>exact m.elim
  |[.int _],m,_=>exact m.elim
  |[.Hw],m,_=>exact m.elim
  |[.bl _],m,_=>exact m.elim
  |[.tup _],m,_=>exact m.elim
  |[.str _],m,_=>exact m.elim
  |[.Kh _],m,_=>exact m.elim
  |[.ob _],m,_=>exact m.elim
  |[.xn _],m,_=>exact m.elim
  |.Hw :: _ :: _,m,_=>exact m.elim
  |.bl _ :: _ :: _,m,_=>exact m.elim
  |.tup _ :: _ :: _,m,_=>exact m.elim
  |.str _ :: _ :: _,m,_=>exact m.elim
  |.Kh _ :: _ :: _,m,_=>exact m.elim
  |.ob _ :: _ :: _,m,_=>exact m.elim
  |.xn _ :: _ :: _,m,_=>exact m.elim
  |.int _ :: _ :: _ :: _,m,_=>exact m.elim
 |_=>exact m.elim
def eV{n:Nat}{g:ay6}(h:∀(r:r_) (S:ay4) (xs:ay7) (S':ay4),g r S=.ok xs S'->xs.length=n):∀(r:r_) (S:ay4) (xs:ay7) (S':ay4),g r S=.ok xs S'->xs.length+1=n+1:=
 fun r S xs S' e=>by rw[h r S xs S' e]
def tQ:r_->M (List (D×D)):=fun _=>M.ret []
def jg(fk fv:ay5)(f:r_->M (List (D×D))):r_->M (List (D×D)):=fun r=>(fk r).bind fun k=>(fv r).bind fun v=>(f r).bind fun ps=>M.ret ((k,v) :: ps)
def TV(X:Cx)(pins:Hz)(σ:L2.St)(H:Hp)(J:aw6)(r:R (List (D×D)))(Q:List (Value×Value)->Shared->Prop)(E:aw4):Prop:=match r with
 |.ok ps S'=>∀us s',(∃vs H' J',Inv X pins σ H' s'/\VV vs us/\Ext H J H' J'/\HB X.K H' J' S'/\l_ X.K H' J' (ps.map (·.1)) (vs.map (·.1))/\l_ X.K H' J' (ps.map (·.2)) (vs.map (·.2)))->Q us s'
 |.exc c S'=>∀e s',XP X pins σ c (K8 X.K H J S') e s'->E e s'
 |.bad=>False
theorem TV.ext{pins:Hz}{σ:L2.St}{H H1:Hp}{J J1:aw6}{r:R (List (D×D))}{Q:List (Value×Value)->Shared->Prop}{E:aw4}(e:Ext H J H1 J1)(h:TV X pins σ H J r Q E):TV X pins σ H1 J1 r Q E:=by
 cases r with
 |ok d S=>exact fun u s' ⟨v,H',J',I,rv,x,g⟩=>h u s' ⟨v,H',J',I,rv,e.trans x,g⟩
 |exc c S=>exact fun u s' x=>h u s' (x.ext e)
 |bad=>exact h
def VS(X:Cx)(pos:Pos)(keys:List (Option Expr))(values:ax8)(f:r_->M (List (D×D))):Prop:=∀(pins:Hz) (s:Shared) (σ:L2.St) (H:Hp) (J:aw6) (r:r_) (S:ay4) (Q:List (Value×Value)->Shared->Prop) (E:aw4),
 At X pins σ H J r S s->TV X pins σ H J (f r S) Q E->wpAny (model X.prog X.w) X.A (evalPairs (pairTrees keys values X.env pos)) Q E s
def Dj{pos:Pos}:VS X pos [] [] tQ:=fun pins s σ H J r S Q E I m=>pairTrees_nil_walk (m [] s ⟨[],H,J,I.inv,.nil,Ext.refl _ _,I.st,.nil,.nil⟩)
def wt{pos:Pos}{k v:Expr}{ks:List (Option Expr)}{vs:ax8}{fk fv:ay5}{f:r_->M (List (D×D))}(hk:Ii X k fk)(hv:Ii X v fv)(hr:VS X pos ks vs f):VS X pos (some k :: ks) (v :: vs) (jg fk fv f):=by
 intro pins s σ H J r S Q E I m;refine pairTrees_cons_walk (hk pins s σ H J r S _ E I ?_);unfold jg M.bind at m;cases e1:fk r S with
 |bad=>rw[e1] at m;exact m
 |exc c S1=>rw[e1] at m;exact m
 |ok x S1=>
  rw[e1] at m;intro u1 s1 ⟨v1,H1,I1,r1,J1,x1,KL,JY⟩;have m:=TV.ext x1 m;dsimp only at m;refine hv pins s1 σ H1 J1 r S1 _ E ⟨I1,I.loc.ext x1,KL⟩ ?_;cases e2:fv r S1 with
  |bad=>rw[e2] at m;exact m
  |exc c S2=>rw[e2] at m;exact m
  |ok y S2=>
   rw[e2] at m;intro u2 s2 ⟨v2,H2,I2,r2,J2,x2,K9,Nk⟩;have m:=TV.ext x2 m;dsimp only at m;refine hr pins s2 σ H2 J2 r S2 _ E ⟨I2,(I.loc.ext x1).ext x2,K9⟩ ?_;cases e3:f r S2 with
   |bad=>rw[e3] at m;exact m
   |exc c S3=>rw[e3] at m;exact m
   |ok ps S3=>
    rw[e3] at m;intro us s3 ⟨vs3,H3,J3,I3,rel,x3,RL,ra,rb⟩;exact m _ s3 ⟨(v1,v2) :: vs3,H3,J3,I3,.cons ⟨r1,r2⟩ rel,x3,RL,.cons ((JY.ext x2).ext x3) ra,.cons (Nk.ext x3) rb⟩
def oX:List (D×D)->Option (List (Key×D))
 |[]=>some []
 |(k,d) :: r=>match ir k,oX r with
  |some k',some t=>some ((k',d) :: t)
  |_,_=>none
def um(kvs more:List (Key×D)):List (Key×D):=more.foldl (fun acc kv=>sT acc kv.1 kv.2) kvs
def rC(f:r_->M (List (D×D))):r_->M D:=fun r S=>match f r (S++[.Js []]) with
 |.ok ps S1=>(match dE S1 S.length,oX ps with
  |some [],some kvs=>Ka (kvs.length<=15) (.ok (.ob S.length) (S1.set S.length (.Js (um [] kvs)))) .bad
  |_,_=>.bad)
 |.exc c S1=>.exc c S1
 |.bad=>.bad
theorem tf{K:aw5}{H:Hp}{J:aw6}:∀{ps:List (D×D)}{vs:List (V×V)}{kvs:List (Key×D)},oX ps=some kvs->l_ K H J (ps.map (·.1)) (vs.map (·.1))->l_ K H J (ps.map (·.2)) (vs.map (·.2))->
  ∃ws:List (Key×V),vs=ws.map (fun kv=>(kV kv.1,kv.2))/\Hv K H J kvs ws/\ws.length=kvs.length
 |[],vs,kvs,e,ra,rb=>by
  cases e;have:=ra.length;cases vs with
  |nil=>exact⟨[],rfl,rfl,rfl⟩
  |cons v vs=>simp at this
 |(k,d) :: r,vs,kvs,e,ra,rb=>by
  cases vs with
  |nil=>have:=ra.length;simp at this
  |cons v vs=>
   unfold oX at e;cases e1:ir k with
   |none=>rw[e1] at e;cases e
   |some k'=>
    rw[e1] at e;cases e2:oX r with
    |none=>rw[e2] at e;cases e
    |some t=>
     rw[e2] at e;cases e;rw[ac2,ac2] at ra rb;unfold l_ at ra rb;obtain⟨a1,a2,a3,a4,a5⟩:=ra;obtain⟨b1,b2,b3,b4,b5⟩:=rb
     injection a3 with a6 a7
     injection b3 with b6 b7
     subst a6 a7 b6 b7;obtain⟨ws,h1,h2,h3⟩:=tf e2 a5 b5;refine⟨(k',v.2) :: ws,?_,⟨v.2,ws,rfl,b4,h2⟩,by simp[h3]⟩;rw[ac2,<-h1,<-j1 e1 a4]
theorem Hv.merge{K:aw5}{H:Hp}{J:aw6}:∀{more:List (Key×D)}{ms:az1}{kvs:List (Key×D)}{ws:az1},Hv K H J more ms->Hv K H J kvs ws->Hv K H J (um kvs more) (oO ws ms)
 |[],_,kvs,ws,h,g=>by
  have h':_=[]:=h;subst h';exact g
 |(k,d) :: r,ms,kvs,ws,h,g=>by
  obtain⟨v,t,rfl,h2,h3⟩:=h;exact Hv.merge (kvs:=sT kvs k d) (ws:=jO ws k v) h3 (g.put h2 k)
def Em{pos:Pos}{keys:List (Option Expr)}{values:ax8}{f:r_->M (List (D×D))}(h:VS X pos keys values f)(So:keys.all (·.isSome)=true:=by rfl)(hl:keys.length=values.length:=by rfl)(h0:keys≠[]:=by simp)
  (h15:keys.length<=15:=by decide):Ii X (.Dict keys values pos) (rC f):=by
 intro pins s σ H J r S Q E I m;have hn:=I.inv.HH.fresh (aa1 s.heap.objs.size);have I1:=I.inv.laid (a:=s.heap.objs.size) (o:=.dK []) (h':=s.heap.push { cls:=.type "dict",data:=.dict #[] }) (t':=s.toks) (fun _ _ q=>aa6 _ q) (aa1 _) (wF s.heap I.inv.big);have x1:Ext H J (upd H s.heap.objs.size (.dK [])) (J++[s.heap.objs.size]):=(Ext.new hn).snoc _;have KL:HB X.K (upd H s.heap.objs.size (.dK [])) (J++[s.heap.objs.size]) (S++[.Js []]):=I.st.push hn ⟨[],bF,rfl⟩;have hJ:(J++[s.heap.objs.size])[S.length]?=some s.heap.objs.size:=by rw[<-I.st.len];simp
 refine wpAny_Dict_walk (knd:=cV X.prog X.w) So hl h0 h15 (h pins _ σ _ _ r (S++[.Js []]) _ E ⟨I1,I.loc.ext x1,KL⟩ ?_);unfold rC at m;cases e1:f r (S++[.Js []]) with
 |bad=>rw[e1] at m;exact m
 |exc c S1=>rw[e1] at m;exact fun u s' x=>m u s' (x.ext x1)
 |ok ps S1=>
  rw[e1] at m;have m:=Mt.ext x1 m;intro us s2 ⟨vs,H2,J2,I2,rel,x2,K9,ra,rb⟩;have m:=Mt.ext x2 m;dsimp only at m;have Xb:J2[S.length]?=some s.heap.objs.size:=by
   obtain⟨mm,em⟩:=x2.pre;rw[em,ab4 (aa2.mp hJ).1];exact hJ
  cases e2:dE S1 S.length with
  |none=>rw[e2] at m;exact m.elim
  |some Xc=>
   rw[e2] at m;cases Xc with
   |cons p q=>exact m.elim
   |nil=>
    cases e3:oX ps with
    |none=>rw[e3] at m;exact m.elim
    |some kvs=>
     rw[e3] at m;dsimp only at m;unfold Ka at m;split at m
     ·rename_i hz;obtain⟨ws,rfl,rp,VF⟩:=tf e3 ra rb;obtain⟨w0,hv,rp0⟩:=K9.Js e2 Xb;have Xd:w0=[]:=rp0;subst Xd;obtain⟨rs,c,rk⟩:=qF (P:=X.prog) (w:=X.w) rel;obtain⟨z,hd,vs0,r0,dd⟩:=B3 I2.HH hv;cases r0;refine⟨rs,c,dd,fun h' QL hs=>?_⟩;have VP:(oO [] ws).length<=sizeLine:=by
       have h1:=mv ws [];rw[as6] at h1;rw[aq1];omega
      have he:∃q,h'.get? s.heap.objs.size=some q:=let ⟨q,_,_,hq,_⟩:=QL;⟨q,hq⟩
      have x':Ext H2 J2 (upd H2 s.heap.objs.size (.dK (oO [] ws))) J2:=Ext.write hv rfl;exact m _ _ ⟨.ref s.heap.objs.size,_,pY I2 (by rw[hv];exact ai4) hs he (ya VP hd (rk.merge .nil) QL),rfl,J2,x',K9.write Xb ⟨_,bF,(rp.ext x').merge rfl⟩,.ob Xb⟩
     ·exact m.elim
end
def P_{n:Nat}(h:n<=1000000):n<sizeLine:=as7 h (by rw[aq1];decide)
section
variable{α β:Type}{S:ay4}{r:r_}
@[simp] theorem au(m:M α)(k:α->M β):(m.bind k) S=match m S with
 |.ok a S'=>k a S'
 |.exc c S'=>.exc c S'
 |.bad=>.bad:=rfl
@[simp] theorem jW(a:α):(M.ret a) S=.ok a S:=rfl
@[simp] theorem kl(i:Nat):mO i r S=match r[i]? with
 |some (some d)=>.ok d S
 |_=>.bad:=rfl
@[simp] theorem wy(d:D):dC d r S=.ok d S:=rfl
@[simp] theorem Hs(g:D->D->M D)(fa fb:ay5):f_ g fa fb r=(fa r).bind fun x=>(fb r).bind fun y=>g x y:=rfl
@[simp] theorem Hq(g:D->M D)(fa:ay5):P8 g fa r=(fa r).bind g:=rfl
@[simp] theorem GL(g:ay9)(ft:ay6):aj g ft r=(ft r).bind g:=rfl
@[simp] theorem GV:ai r=M.ret []:=rfl
@[simp] theorem GI(f:ay5)(g:ay6):aa f g r=(f r).bind fun x=>(g r).bind fun xs=>M.ret (x :: xs):=rfl
@[simp] theorem GP(f:ay5):ao f r=(f r).bind Su:=rfl
@[simp] theorem GE(b:Bool):Su (.bl b) S=.ok b S:=rfl
@[simp] theorem cD(f:ay5):bM f r=(f r).bind oC:=rfl
@[simp] theorem FP(b:Bool):oC (.bl b) S=.ok b S:=rfl
@[simp] theorem cL(t u:ay8):dc t u r=(t r).bind fun c=>if c=true then u r else M.ret false:=rfl
@[simp] theorem eY(t u:ay8):Kn t u r=(t r).bind fun c=>if c=true then M.ret true else u r:=rfl
@[simp] theorem cN(t:ay8):cZ t r=(t r).bind fun c=>M.ret (!c):=rfl
@[simp] theorem gu(fa fb:ay5):ii fa fb r=(ao fa r).bind fun c=>if c=true then fb r else M.ret (.bl false):=rfl
@[simp] theorem G1(fa fb:ay5):GX fa fb r=(ao fa r).bind fun c=>if c=true then M.ret (.bl true) else fb r:=rfl
@[simp] theorem GO(fa:ay5):zC fa r=(ao fa r).bind fun c=>M.ret (.bl (!c)):=rfl
@[simp] theorem Gs(t:ay8)(fa fb:ay5):UE t fa fb r=(t r).bind fun c=>if c=true then fa r else fb r:=rfl
@[simp] theorem BS(g g':D->D->M D)(fa fb fc:ay5):oE g g' fa fb fc r=(fa r).bind fun x=>(fb r).bind fun y=>((g x y).bind Su).bind fun k=>if k=true then (fc r).bind fun z=>g' y z else M.ret (.bl false):=rfl
@[simp] theorem G5(ft:ay6):ci ft r=(ft r).bind oQ:=rfl
@[simp] theorem G4(ft:ay6):bT ft r=(ft r).bind oV:=rfl
@[simp] theorem kS(g:D->Option Int->Option Int->M D)(fe:ay5)(fl fh:r_->M (Option Int)):Kb g fe fl fh r=(fe r).bind fun x=>(fl r).bind fun l=>(fh r).bind fun h=>g x l h:=rfl
@[simp] theorem dH:bK r=M.ret none:=rfl
@[simp] theorem dW(f:ay5):bA f r=(f r).bind B2:=rfl
@[simp] theorem gl(i:Int):B2 (.int i)=M.ret (some i):=rfl
@[simp] theorem Hn(T:String)(f:ay5):M_ T f r=(f r).bind (P6 T):=rfl
@[simp] theorem n4(f:ay5):Kt f r=(f r).bind lI:=rfl
@[simp] theorem Hd:hV r=M.ret true:=rfl
@[simp] theorem G7(C:Addr)(ns:ax0)(i:Nat)(fo:ay5):aC C ns i fo r=(fo r).bind fun x=>(iI C ns x).bind fun p=>Dy p.2[i]?:=rfl
@[simp] theorem Hl(d:D):Dy (some d) S=.ok d S:=rfl
@[simp] theorem GK(C:Addr)(ns:ax0)(F:ay9)(fo:ay5)(ft:ay6):br C ns F fo ft r=(fo r).bind fun x=>(iI C ns x).bind fun _=>(ft r).bind fun xs=>F (x :: xs):=rfl
@[simp] theorem Ho(g:D->List D->M D)(fo:ay5)(ft:ay6):KU g fo ft r=(fo r).bind fun x=>(CV x).bind fun _=>(ft r).bind fun xs=>g x xs:=rfl
@[simp] theorem G9(g:D->List D->M D)(fo:ay5)(ft:ay6):zZ g fo ft r=(fo r).bind fun x=>(DZ x).bind fun _=>(ft r).bind fun xs=>g x xs:=rfl
@[simp] theorem GJ:kR r S=.ok (.ob S.length) (S++[.Js []]):=rfl
@[simp] theorem Ht(i:Nat)(d:D):gN i d r=some (r.set i (some d)):=rfl
def bQ{n:Nat}{xs:ay7}(h:S[n]?=some (.lst xs)):cw S n=some xs:=by unfold cw;rw[h]
@[simp] theorem G2{n:Nat}:CV (.ob n) S=match cw S n with
 |some _=>.ok () S
 |none=>.bad:=rfl
@[simp] theorem G3{n:Nat}:DZ (.ob n) S=match dE S n with
 |some _=>.ok () S
 |none=>.bad:=rfl
@[simp] theorem ck(i j:Int):bI (.int i) (.int j) S=.ok (.int (i+j)) S:=rfl
@[simp] theorem uh(i j:Int):sk (.int i) (.int j) S=.ok (.int (i-j)) S:=bY trivial
def iA{i j:Int}(h:Pe i j):ik (.int i) (.int j) S=.ok (.int (i * j)) S:=bY h
@[simp] theorem GU(j:Int):ik (.int 2) (.int j) S=.ok (.int (2 * j)) S:=iA (.inl ⟨by decide,by decide⟩)
def dg{i j:Int}(h:0<j):kY (.int i) (.int j) S=.ok (.int (i % j)) S:=bY h
def xh{i j:Int}(h:Fs i j):CK (.int i) (.int j) S=.ok (.int (i / j)) S:=bY h
@[simp] theorem sL(i j:Int):Kv (.int i) (.int j) S=.ok (.bl (decide (i<j))) S:=rfl
@[simp] theorem zR(i j:Int):O1 (.int i) (.int j) S=.ok (.bl (decide (i<=j))) S:=rfl
@[simp] theorem Et(i j:Int):PK (.int i) (.int j) S=.ok (.bl (decide (j<i))) S:=rfl
@[simp] theorem xl(i j:Int):L8 (.int i) (.int j) S=.ok (.bl (decide (j<=i))) S:=rfl
@[simp] theorem iO(i j:Int):HJ (.int i) (.int j) S=.ok (.bl (decide (i=j))) S:=Er S i j
@[simp] theorem iQ(i j:Int):Kc (.int i) (.int j) S=.ok (.bl (!decide (i=j))) S:=Dg S i j
@[simp] theorem EG(i j:Int):AH [.int i,.int j] S=.ok (.int (min i j)) S:=by
 show R.ok (D.int (if j<i then j else i)) S=_;congr 2;omega
@[simp] theorem EF(i j:Int):D2 [.int i,.int j] S=.ok (.int (max i j)) S:=by
 show R.ok (D.int (if j > i then j else i)) S=_;congr 2;omega
def aO{xs:ay7}{i:Nat}{d:D}(h:xs[i]?=some d):w_ (.tup xs) (.int (i:Int)) S=.ok d S:=by
 simp only[w_,gj,uv h]
def j9{xs:ay7}{n i:Nat}{d:D}(hn:S[n]?=some (.lst xs))(h:xs[i]?=some d):w_ (.ob n) (.int (i:Int)) S=.ok d S:=by
 simp only[w_,gj,bQ hn,uv h]
def jY{xs:ay7}{n:Nat}(hn:S[n]?=some (.lst xs)):bu [.ob n] S=.ok (.int xs.length) S:=by
 simp only[bu,gj,bQ hn]
@[simp] theorem cn(xs:ay7):bu [.tup xs] S=.ok (.int xs.length) S:=rfl
@[simp] theorem Ez(xs:ay7):gR [.tup xs] S=.ok (.tup xs) S:=rfl
def fW{xs:ay7}{n:Nat}(hn:S[n]?=some (.lst xs)):gR [.ob n] S=.ok (.tup xs) S:=by
 simp only[gR,gj,bQ hn]
def vF{xs:ay7}(h:xs.length<=1000000):oQ xs S=.ok (.tup xs) S:=bY (ag1 (P_ h))
def w5{xs:ay7}(h:xs.length<=1000000):oV xs S=.ok (.ob S.length) (S++[.lst xs]):=bY (ag1 (P_ h))
def pc{xs:ay7}{n:Nat}{d:D}(hn:S[n]?=some (.lst xs))(h:xs.length<1000000):iN (.ob n) [d] S=.ok .Hw (S.set n (.lst (xs++[d]))):=by
 simp only[iN,bQ hn];exact bY (P_ (by omega))
def EL{xs ys:ay7}{n:Nat}(hn:S[n]?=some (.lst xs))(h:xs.length+ys.length<=1000000):sG (.ob n) [.tup ys] S=.ok .Hw (S.set n (.lst (xs++ys))):=by
 simp only[sG,bQ hn];exact bY (ag1 (P_ h))
@[simp] theorem GN:bG r S=some (.nx r,S):=rfl
@[simp] theorem vc(m:M α)(k:α->List Cell->Oi):cz m r k S=match m S with
 |.ok a S'=>k a S'
 |.exc c S'=>some (.xc c r,S')
 |.bad=>none:=rfl
@[simp] theorem qv(t u:HK):aI t u r S=match t r S with
 |some (.nx r',S')=>u r' S'
 |o=>o:=rfl
@[simp] theorem G0(f:ay5):bN f r=cz (f r) r fun d S=>some (.rt d,S):=rfl
@[simp] theorem GM(f:ay5):bx f r=cz (f r) r fun _ S=>some (.nx r,S):=rfl
@[simp] theorem Hm(c:ay8)(t u:HK):IJ c t u r=cz (c r) r fun b S=>if b=true then t r S else u r S:=rfl
@[simp] theorem GT(f:ay5)(g:Mx):cg f g r=cz (f r) r fun d S=>match g d r with
 |some r'=>some (.nx r',S)
 |none=>none:=rfl
@[simp] theorem Hj(C:Addr)(ns:ax0)(i:Nat)(fo fe:ay5):j7 C ns i fo fe r=cz (fe r) r fun d=>cz (fo r) r fun x S1=>match iI C ns x S1 with
 |.ok p S2=>some (.nx r,S2.set p.1 (.ins C ns (p.2.set i d)))
 |_=>none:=rfl
@[simp] theorem GQ(C:Addr)(ns:ax0)(f:Str)(fo fe:ay5):cO C ns f fo fe r=cz (fe r) r fun d=>cz (fo r) r fun x S1=>match iI C ns x S1 with
 |.ok p S2=>some (.nx r,S2.set p.1 (.ins C (ns++[f]) (p.2++[d])))
 |_=>none:=rfl
@[simp] theorem Hh(g:D->D->D->List Cell->Option (List Cell))(fo fi fe:ay5):xb g fo fi fe r=cz (fe r) r fun d=>cz (fo r) r fun x=>cz (fi r) r fun y S=>match g x y d S with
 |some S'=>some (.nx r,S')
 |none=>none:=rfl
@[simp] theorem Bq(S0:ay4)(d:D):fin S0 (some (.rt d,S))=.ok d S:=rfl
@[simp] theorem FS(S0:ay4):fin S0 (some (.nx r,S))=.ok .Hw S:=rfl
@[simp] theorem GF(S0:ay4)(c:Addr):fin S0 (some (.xc c r,S))=.exc c S:=rfl
def lM{S0 G:ay4}{d:D}(h:Jm S0.length d):cP S0 (some (.rt d,S0++G))=.ok d S0:=ab2 ⟨⟨G,rfl⟩,h⟩
def bz{S0:ay4}{d:D}(h:Jm S0.length d):cP S0 (some (.rt d,S0))=.ok d S0:=ab2 ⟨⟨[],by simp⟩,h⟩
end
def Fr(fp:ax4)(S S':ay4):Prop:=S.length<=S'.length/\∀i,i<S.length->i∉fp->S'[i]?=S[i]?
def Fr.refl(fp:ax4)(S:ay4):Fr fp S S:=⟨aa1 _,fun _ _ _=>rfl⟩
def Fr.trans{fp fq:ax4}{S S1 S2:ay4}(a:Fr fp S S1)(b:Fr fq S1 S2)(h:∀i∈fq,i<S.length->i∈fp):Fr fp S S2:=
 ⟨ab5 a.1 b.1,fun i hi hn=>(b.2 i (ac1 hi a.1) fun hq=>hn (h i hq hi)).trans (a.2 i hi hn)⟩
def Fr.tr{fp:ax4}{S S1 S2:ay4}(a:Fr fp S S1)(b:Fr fp S1 S2):Fr fp S S2:=a.trans b fun _ h _=>h
def Fr.set{fp:ax4}{S:ay4}{n:Nat}{c:Cell}(h:n∈fp):Fr fp S (S.set n c):=
 ⟨by rw[ap4];exact aa1 _,fun i _ hn=>ag6 fun e:n=i=>hn (e ▸ h)⟩
def Fr.push{fp:ax4}{S:ay4}{c:ay4}:Fr fp S (S++c):=
 ⟨by rw[aa8];omega,fun i hi _=>ab4 hi⟩
def Fr.get{fp:ax4}{S S':ay4}{i:Nat}{c:Cell}(a:Fr fp S S')(h:S[i]?=some c)(hn:i∉fp):S'[i]?=some c:=
 (a.2 i (aa2.mp h).1 hn).trans h
def Fr.mono{fp fq:ax4}{S S':ay4}(a:Fr fp S S')(h:∀i∈fp,i<S.length->i∈fq):Fr fq S S':=⟨a.1,fun i hi hn=>a.2 i hi fun z=>hn (h i z hi)⟩
def bq{S:ay4}{i:Nat}{c:Cell}(h:S[i]?=some c):i<S.length:=(aa2.mp h).1
def dh{S:ay4}{i:Nat}{c d:Cell}(h:S[i]?=some c):(S.set i d)[i]?=some d:=by
 rw[au7];simp[bq h]
def cJ{S:ay4}{i j:Nat}{c d:Cell}(h:S[j]?=some c)(hn:i≠j):(S.set i d)[j]?=some c:=by rw[ag6 hn];exact h
def aB{S G:ay4}{j:Nat}{c:Cell}(h:S[j]?=some c):(S++G)[j]?=some c:=by rw[ab4 (bq h)];exact h
def bE{S:ay4}{c:Cell}:(S++[c])[S.length]?=some c:=by simp
section
variable{S S1 S2:ay4}{r r1:r_}{d x y:D}{n:Nat}{C:Addr}{ns:ax0}{ds:ay7}
def aw{t u:HK}(h:t r S=some (.nx r1,S1)):aI t u r S=u r1 S1:=by rw[qv,h]
def di{t u:HK}(h:t r S=some (.rt d,S1)):aI t u r S=some (.rt d,S1):=by rw[qv,h]
def bh{fe:ay5}{i:Nat}(h:fe r S=.ok d S1):cg fe (gN i) r S=some (.nx (r.set i (some d)),S1):=by simp[h]
def aX{fe:ay5}(h:fe r S=.ok d S1):bx fe r S=some (.nx r,S1):=by simp[h]
def aS{fe:ay5}(h:fe r S=.ok d S1):bN fe r S=some (.rt d,S1):=by simp[h]
def EB{c:ay8}{t u:HK}{b:Bool}(h:c r S=.ok b S1):IJ c t u r S=if b=true then t r S1 else u r S1:=by simp[h]
def aT{c:ay8}{t u:HK}(h:c r S=.ok true S1):IJ c t u r S=t r S1:=by rw[EB h,ab2 rfl]
def ay{c:ay8}{t u:HK}(h:c r S=.ok false S1):IJ c t u r S=u r S1:=by rw[EB h,ab1 (by decide)]
def Fo{i:Nat}{fo fe:ay5}(h1:fe r S=.ok d S1)(h2:fo r S1=.ok (.ob n) S2)(h3:S2[n]?=some (.ins C ns ds)):j7 C ns i fo fe r S=some (.nx r,S2.set n (.ins C ns (ds.set i d))):=by
 simp[h1,h2,lR h3]
def kK{f:Str}{fo fe:ay5}(h1:fe r S=.ok d S1)(h2:fo r S1=.ok (.ob n) S2)(h3:S2[n]?=some (.ins C ns ds)):cO C ns f fo fe r S=some (.nx r,S2.set n (.ins C (ns++[f]) (ds++[d]))):=by
 simp[h1,h2,lR h3]
def zt{i:Nat}{fo fe:ay5}{a b:Int}{RU:ay7}{S3:ay4}(h2:fo r S=.ok (.ob n) S1)(h3:S1[n]?=some (.ins C ns ds))(h4:ds[i]?=some (.int a))(h1:fe r S1=.ok (.int b) S3)(h5:S3[n]?=some (.ins C ns RU)) :
  o9 C ns i fo fe r S=some (.nx r,S3.set n (.ins C ns (RU.set i (.int (a+b))))):=by
 unfold o9;simp[h2,lR h3,h4,h1,lR h5]
def uI{g:D->D->D->List Cell->Option (List Cell)}{fo fi fe:ay5}{S3 S4:ay4}(h1:fe r S=.ok d S1)(h2:fo r S1=.ok x S2)(h3:fi r S2=.ok y S3)(h4:g x y d S3=some S4):xb g fo fi fe r S=some (.nx r,S4):=by
 simp[h1,h2,h3,h4]
def cj{i:Nat}{fo:ay5}(h:fo r S=.ok (.ob n) S1)(h3:S1[n]?=some (.ins C ns ds))(hd:ds[i]?=some d):aC C ns i fo r S=.ok d S1:=by
 simp[h,lR h3,hd]
def bc{F:ay9}{fo:ay5}{ft:ay6}{xs:ay7}{a:R D}(h:fo r S=.ok (.ob n) S1)(h3:S1[n]?=some (.ins C ns ds))(h4:ft r S1=.ok xs S2)(h5:F (.ob n :: xs) S2=a):br C ns F fo ft r S=a:=by
 simp[h,lR h3,h4,h5]
def ax{F:ay9}{ft:ay6}{xs:ay7}{a:R D}(h4:ft r S=.ok xs S1)(h5:F xs S1=a):aj F ft r S=a:=by simp[h4,h5]
def av{g:D->D->M D}{fa fb:ay5}{a:R D}(h1:fa r S=.ok x S1)(h2:fb r S1=.ok y S2)(h3:g x y S2=a):f_ g fa fb r S=a:=by simp[h1,h2,h3]
def af{f:ay5}{g:ay6}{xs:ay7}(h1:f r S=.ok x S1)(h2:g r S1=.ok xs S2):aa f g r S=.ok (x :: xs) S2:=by simp[h1,h2]
def ah:ai r S=.ok [] S:=rfl
def az{f:ay5}{b:Bool}(h:f r S=.ok (.bl b) S1):ao f r S=.ok b S1:=by simp[h]
def j4{g:D->List D->M D}{fo:ay5}{ft:ay6}{xs ys:ay7}{a:R D}(h:fo r S=.ok (.ob n) S1)(h3:S1[n]?=some (.lst ys))(h4:ft r S1=.ok xs S2)(h5:g (.ob n) xs S2=a):KU g fo ft r S=a:=by
 simp[h,bQ h3,h4,h5]
def FC{g:D->List D->M D}{fo:ay5}{ft:ay6}{xs:ay7}{kvs:List (Key×D)}{a:R D}(h:fo r S=.ok (.ob n) S1)(h3:S1[n]?=some (.Js kvs))(h4:ft r S1=.ok xs S2)(h5:g (.ob n) xs S2=a):zZ g fo ft r S=a:=by
 simp[h,fO h3,h4,h5]
def bL{ft:ay6}{xs:ay7}(h:ft r S=.ok xs S1)(hl:xs.length<=1000000):ci ft r S=.ok (.tup xs) S1:=by simp[h,vF hl]
def bU{ft:ay6}{xs:ay7}(h:ft r S=.ok xs S1)(hl:xs.length<=1000000):bT ft r S=.ok (.ob S1.length) (S1++[.lst xs]):=by simp[h,w5 hl]
def bg{a b:Str}{c:Bool}(h1:(PyData.str a).canLay0=true:=by decide)(h2:(PyData.str b).canLay0=true:=by decide)(h3:decide (a=b)=c:=by decide):HJ (.str a) (.str b) S=.ok (.bl c) S:=by
 subst h3;have h:(PyData.str a).eqv (.str b)=decide (a=b):=by
  by_cases e:a=b
  ·subst e;simp[PyData.eqv]
  ·simp[PyData.eqv,e]
 simp only[HJ,pD,h1,h2,ao1,h]
def Br{a b:Str}{c:Bool}(h1:(PyData.str a).canLay0=true:=by decide)(h2:(PyData.str b).canLay0=true:=by decide)(h3:(!decide (a=b))=c:=by decide):Kc (.str a) (.str b) S=.ok (.bl c) S:=by
 subst h3;have h:(PyData.str a).eqv (.str b)=decide (a=b):=by
  by_cases e:a=b
  ·subst e;simp[PyData.eqv]
  ·simp[PyData.eqv,e]
 simp only[Kc,pD,h1,h2,ao1,h]
end
section
variable{S S1 S2:ay4}{r r1:r_}{d x y:D}{n i:Nat}{C:Addr}{ns:ax0}{ds RU:ay7}{fo fe:ay5}
def aQ{S:ay4}{i:Nat}{c:Cell}(h:i=S.length):(S++[c])[i]?=some c:=by subst h;exact bE
structure Ch(n:Nat)(c:Cell)(S S':ay4):Prop where
 at_:S'[n]?=some c
 fr:Fr [n] S S'
 len:S'.length=S.length
def Ch.old{m:Nat}{c c':Cell}(h:Ch n c S S1)(hm:S[m]?=some c')(hn:n≠m):S1[m]?=some c':=h.fr.get hm (by simpa using Ne.symm hn)
def Ch.set{c c':Cell}(h:S[n]?=some c'):Ch n c S (S.set n c):=⟨dh h,Fr.set (by simp),by simp⟩
def gX(h1:fe r S=.ok d S1)(h2:fo r S1=.ok (.ob n) S1)(h3:S1[n]?=some (.ins C ns ds))(h4:ds.set i d=RU):∃S2,j7 C ns i fo fe r S=some (.nx r,S2)/\Ch n (.ins C ns RU) S1 S2:=by
 subst h4;exact⟨_,Fo h1 h2 h3,Ch.set h3⟩
def yE{a b:Int}(h2:fo r S=.ok (.ob n) S)(h3:S[n]?=some (.ins C ns ds))(h5:ds[i]?=some (.int a))(h1:fe r S=.ok (.int b) S)(h4:ds.set i (.int (a+b))=RU):∃S2,o9 C ns i fo fe r S=some (.nx r,S2)/\Ch n (.ins C ns RU) S S2:=by
 subst h4;exact⟨_,zt h2 h3 h5 h1 h3,Ch.set h3⟩
def ur{xs:ay7}{ft:ay6}(h1:fo r S=.ok (.ob n) S)(h2:S[n]?=some (.lst xs))(h3:ft r S=.ok [d] S)(hz:xs.length<1000000):∃S2,KU iN fo ft r S=.ok .Hw S2/\Ch n (.lst (xs++[d])) S S2:=
 ⟨_,j4 h1 h2 h3 (pc h2 hz),Ch.set h2⟩
def Cm{xs ys:ay7}{ft:ay6}(h1:fo r S=.ok (.ob n) S)(h2:S[n]?=some (.lst xs))(h3:ft r S=.ok [.tup ys] S)(hz:xs.length+ys.length<=1000000):∃S2,KU sG fo ft r S=.ok .Hw S2/\Ch n (.lst (xs++ys)) S S2:=
 ⟨_,j4 h1 h2 h3 (EL h2 hz),Ch.set h2⟩
def Ch.fp{fp:ax4}{c:Cell}(h:Ch n c S S1)(hn:n∈fp):Fr fp S S1:=h.fr.mono fun i hi _=>by
 have:i=n:=by simpa using hi
 rw[this];exact hn
end
theorem mQ{tg:Mx}{ti:ay8}{fe:ay5}{r0:r_}(kp:D->Bool)(h:D->D)(g:Option (Nat×List D))(S:ay4)(hg:Lo g S):∀(items ys:ay7),
  (∀x,x∈items->∃r1,tg x r0=some r1/\(∀zs,ti r1 (S++[.lst zs])=.ok (kp x) (S++[.lst zs]))/\(kp x=true->∀zs,fe r1 (S++[.lst zs])=.ok (h x) (S++[.lst zs])))->ys.length+items.length<=1000000->
  dZ tg ti fe S.length g r0 items (S++[.lst ys])=.ok () (S++[.lst (ys++(items.filter kp).map h)])
 |[],ys,_,_=>by simp[dZ]
 |x :: xs,ys,hx,hl=>by
  obtain⟨r1,h1,h2,h3⟩:=hx x (by simp);have VT:∀zs,Lo g (S++[Cell.lst zs]):=fun zs=>by
   cases g with
   |none=>trivial
   |some p=>exact aB hg
  unfold dZ;rw[h1];dsimp only;rw[h2];cases hk:kp x with
  |false=>
   dsimp only;rw[ab2 (VT _),mQ kp h g S hg xs ys (fun y hy=>hx y (aa9 _ hy)) (by simp at hl;omega)];rw[List.filter_cons_of_neg (by simp[hk])]
  |true=>
   have Ly:(S++[Cell.lst ys]).set S.length (.lst (ys++[h x]))=S++[.lst (ys++[h x])]:=by
    rw[ag4 _ _ (aa1 _)];simp
   dsimp only;rw[h3 hk];dsimp only;rw[ad5 (aa1 _)];simp only[Nat.sub_self,af1];rw[Ly,bY ⟨P_ (by simp at hl;omega),VT _⟩,mQ kp h g S hg xs (ys++[h x]) (fun y hy=>hx y (aa9 _ hy)) (by simp at hl ⊢;omega)];rw[List.filter_cons_of_pos hk,ac2,ae2];rfl
def il{f:r_->M Wk}{tg:Mx}{ti:ay8}{fe:ay5}{own:Nat}{caps:ax4}{r:r_}{S S1:ay4}{w:Wk}(kp:D->Bool)(h:D->D)(h1:f r S=.ok w S1)(hg:Lo w.guard S1)(hz:w.items.length<=1000000)
  (hx:∀x,x∈w.items->∃r1,tg x (ic own caps r)=some r1/\(∀zs,ti r1 (S1++[.lst zs])=.ok (kp x) (S1++[.lst zs]))/\(kp x=true->∀zs,fe r1 (S1++[.lst zs])=.ok (h x) (S1++[.lst zs]))) :
  dS f tg ti fe own caps r S=.ok (.ob S1.length) (S1++[.lst ((w.items.filter kp).map h)]):=by
 unfold dS;rw[au,h1];dsimp only;rw[mQ kp h w.guard S1 hg w.items [] hx (by simpa using hz)];rfl
def Fp{c:ay8}{b:HK}{k:Nat}{r:r_}{S S1:ay4}(h:c r S=.ok false S1):fV c b (k+1) r S=some (.nx r,S1):=by
 unfold fV;rw[h]
def GG{c:ay8}{b:HK}{k:Nat}{r r2:r_}{S S1 S2:ay4}(h:c r S=.ok true S1)(hb:b r S1=some (.nx r2,S2)):fV c b (k+1) r S=fV c b k r2 S2:=by
 rw[fV];dsimp only;rw[h];dsimp only;rw[hb]
def kg{f:r_->M Wk}{tg:Mx}{b:HK}{r:r_}{S S1:ay4}{w:Wk}(h:f r S=.ok w S1):og f tg b r S=ji w.guard tg b w.items r S1:=by
 unfold og;rw[vc,h]
def vf{S:ay4}{n:Nat}(h:n<=1000000):wN (.int (n:Int)) S=.ok ⟨fw 0 1 n,none⟩ S:=xX h
theorem vb{S:ay4}{n:Nat}(ih:∀{d:D}{p:PyData},pD S n d=some p->p.canLay0=true):∀{xs:ay7}{ps:List PyData},KS S n xs=some ps->PyData.canLayAll0 ps=true
 |[],ps,h=>by simp only[KS] at h;cases h;rfl
 |x :: xs,ps,h=>by
  simp only[KS] at h;cases e1:pD S n x with
  |none=>rw[e1] at h;cases h
  |some p=>
   rw[e1] at h;cases e2:KS S n xs with
   |none=>rw[e2] at h;cases h
   |some qs=>
    rw[e2] at h;cases h;show(PyData.canLay0 p && PyData.canLayAll0 qs)=true;rw[ih e1,vb ih e2];rfl
theorem uG{S:ay4}:∀{n:Nat}{d:D}{p:PyData},pD S n d=some p->p.canLay0=true
 |0,d,p,h=>by unfold pD at h;cases h
 |n+1,.Hw,p,h=>by simp only[pD] at h;cases h;rfl
 |n+1,.bl b,p,h=>by simp only[pD] at h;cases h;rfl
 |n+1,.int i,p,h=>by simp only[pD] at h;cases h;rfl
 |n+1,.str x,p,h=>by
  simp only[pD] at h;split at h
  ·rename_i q;cases h;exact q
  ·cases h
 |n+1,.tup xs,p,h=>by
  simp only[pD] at h;cases e:KS S n xs with
  |none=>rw[e] at h;cases h
  |some ps=>rw[e] at h;cases h;exact vb uG e
 |n+1,.Kh xs,p,h=>by
  simp only[pD] at h;cases e:KS S n xs with
  |none=>rw[e] at h;cases h
  |some ps=>rw[e] at h;cases h;exact vb uG e
 |n+1,.ob k,p,h=>by
  simp only[pD] at h;split at h
  ·rename_i xs _;cases e:KS S n xs with
   |none=>rw[e] at h;cases h
   |some ps=>rw[e] at h;cases h;exact vb uG e
  ·cases h
 |n+1,.xn c,p,h=>by simp only[pD] at h;cases h
section
variable{S:ay4}{x y:D}{p:PyData}
def uO(h1:pD S 30 x=some p)(h2:pD S 30 y=some p):Kc x y S=.ok (.bl false) S:=by
 simp only[Kc,h1,h2,PySem.SeqAt.eqv_refl p (uG h1)];rfl
def zh{n l:Nat}{xs:ay7}(h:S[l]?=some (.lst xs)):pD S (n+1) (.ob l)=(KS S n xs).map .list:=by simp only[pD,h]
def xA{n:Nat}{xs:ay7}:pD S (n+1) (.tup xs)=(KS S n xs).map .tuple:=by simp only[pD]
theorem zn{α:Type}{f:α->D}{n:Nat}:∀{l:List α},(∀a,a∈l->∃p,pD S n (f a)=some p)->∃ps,KS S n (l.map f)=some ps
 |[],_=>⟨[],by simp[KS]⟩
 |a :: l,h=>by
  obtain⟨p,hp⟩:=h a (by simp);obtain⟨ps,QM⟩:=zn (l:=l) fun b hb=>h b (aa9 _ hb)
  exact⟨p :: ps,by rw[ac2];simp only[KS,hp,QM]⟩
def AS{l l':Nat}{xs:ay7}(h1:S[l]?=some (.lst xs))(h2:S[l']?=some (.lst xs))(h:∃ps,KS S 29 xs=some ps):Kc (.ob l) (.ob l') S=.ok (.bl false) S:=by
 obtain⟨ps,hp⟩:=h;exact uO (p:=.list ps) (by rw[zh h1,hp];rfl) (by rw[zh h2,hp];rfl)
def Ev{xs:ay7}(h:∃ps,KS S 29 xs=some ps):Kc (.tup xs) (.tup xs) S=.ok (.bl false) S:=by
 obtain⟨ps,hp⟩:=h;exact uO (p:=.tuple ps) (by rw[xA,hp];rfl) (by rw[xA,hp];rfl)
end
section
variable{X:Cx}
end
def qf(a b:Value):checkTypeCall "enumerate" ⟨[a],[("start",b)]⟩=pure ():=by kernel_rfl
def sB(a b:Value):checkBuiltinCall "enumerate.__new__" ⟨[.type "enumerate",a],[("start",b)]⟩=pure ():=by kernel_rfl
section
variable{prog:ay1}{w:ay3}{A:ay2}{E:aw4}{s:Shared}
def pR(l:Addr)(items:ax2)(n:Nat)(SJ:Option Addr)(sl:ax9)(i:Int)(t:Tok)(hi:Builtin.SmallTypes.fitsIndex i=true) :
  Meets (Builtin.«enumerate.__new__» ⟨[.type "enumerate",.ref l],[("start",.int i t)]⟩) (fun _ R s=>s.heap.get? l=some { cls:=.type "tuple",dict:=SJ,data:=.seq items n,slots:=sl }/\
   R (.ok (.ret (.ref (s.heap.push { cls:=.type "tuple_iterator",data:=.fields #[.ref l,.int 0 0] }).objs.size)))
    { s with heap:=(s.heap.push { cls:=.type "tuple_iterator",data:=.fields #[.ref l,.int 0 0] }).push { cls:=.type "enumerate",data:=.fields #[.none,.bool false,.ref s.heap.objs.size,rawInt i,.none,.none] } }):=
 .of_wp fun prog w A R s h=>by
  obtain⟨hp,g,d,tk,os⟩:=s;obtain⟨hl,h⟩:=h;have Po:=sub_enumerate;have f1:=AutoSeq1.idx_int;have hT:Heap.IsTuple (Shared.heap ⟨hp,g,d,tk,os⟩) l items:=⟨_,hl,rfl,n,rfl⟩
  wp_walk using wpAny_loadPart' hl
  refine wpAny_stack_any fun st=>aa4 ?_
  split
  ·rename_i c _ _ _ _ _;cases(c == type "enumerate")
   ·wp_walk using wpAny_loadPart' hl,ag9 hT
    exact⟨_,rfl,h⟩
   ·wp_walk using wpAny_loadPart' hl,ag9 hT
    exact⟨_,rfl,h⟩
  ·wp_walk using wpAny_loadPart' hl,ag9 hT
   exact⟨_,rfl,h⟩
def mi(a b c:Value):argsOk "object.__init__" ⟨[a,b],[("start",c)]⟩:=by
 unfold argsOk;rw[signature?_of (id:="object.__init__") (n:=['_','_','t','i','n','i','_','_']) (o:=['t','c','e','j','b','o']) (by kernel_rfl) PySem.F.owner_object];kernel_rfl
def rO{self a c:Value} :
  Meets (Builtin.«object.__init__» ⟨[self,a],[("start",c)]⟩) (fun _ R s=>s.TypeIs self "enumerate"/\R (.ok (.ret .none)) s):=by
 refine Meets.of_wp fun prog w A R s hs=>?_
 obtain⟨hT,hq⟩:=hs;have hl:=an3.init.lookup;have hm:=an3.made;have Mp:(some "enumerate.__new__" != some "object.__new__")=true:=by decide
 repeat (any_goals (first|assumption|wp_step))
 exact⟨_,rfl,hq⟩
def q8{l:Addr}{items:ax2}{i:Int}{t:Tok}{Q:aw4}(hL:s.heap.IsTuple l items)(hi:Builtin.SmallTypes.fitsIndex i=true)
  (h:∀h',IsEnum h' (s.heap.objs.size+1) s.heap.objs.size i .none->h'.IsTupleIter s.heap.objs.size l 0->(∀b o,s.heap.get? b=some o->h'.get? b=some o)->Q (.ref (s.heap.objs.size+1)) { s with heap:=h' }) :
  wpAny (model prog w) A (call (.type "enumerate") [.ref l] [("start",.int i t)]) Q E s:=by
 obtain⟨⟨c,SJ,dt,sl⟩,hl,hc,n,hd⟩:=hL;simp only at hc hd;subst hc hd;have ft:=an3;obtain⟨c0,tl,Xe⟩:=ft.mro;have UW:=ft.made;have Po:=ft.sub;have UX:=qf (.ref l) (.int i t);refine wpAny_call (av1 ?_);show wpAny _ _ (callAny (.type "enumerate") _) _ _ _;refine aa4 ⟨Code.quiet_builtin _ (by decide),aj8 PySem.F.entry_type_call ?_⟩;rw[Around.under_plain (weight_type_call_type "enumerate" [.ref l] [("start",.int i t)]) (units_type_call_type "enumerate" [.ref l] [("start",.int i t)])];have h1:=ft.notType;have h2:=ft.canCreate
 repeat (any_goals (first|assumption|wp_step))
 have hz:(s.heap.push { cls:=.type "tuple_iterator",data:=.fields #[.ref l,.int 0 0] }).objs.size=s.heap.objs.size+1:=aj6 ..;have he:IsEnum ((s.heap.push { cls:=.type "tuple_iterator",data:=.fields #[.ref l,.int 0 0] }).push { cls:=.type "enumerate",data:=.fields #[.none,.bool false,.ref s.heap.objs.size,rawInt i,.none,.none] }) (s.heap.objs.size+1) s.heap.objs.size i .none:=by
  have q:=ac0 (s.heap.push { cls:=.type "tuple_iterator",data:=.fields #[.ref l,.int 0 0] }) (o:={ cls:=.type "enumerate",data:=.fields #[.none,.bool false,.ref s.heap.objs.size,rawInt i,.none,.none] }) rfl;rw[hz] at q;exact q
 have fin:=h _ he ⟨_,aa6 _ (ac0 _ rfl),rfl,rfl⟩ fun b o x=>aa6 _ (aa6 _ x)
 refine al1 (aq4 ft.plain PySem.F.entry_enumerate_new (at6 (sB (.ref l) (.int i t)) (pR l items n SJ sl i t hi prog w A.in1 (wants (fun obj HW=>HW.TypeIs obj "enumerate"/\Q obj HW) E) s ⟨hl,?_⟩))) fun r HW hr=>?_
 ·show _/\_;rw[hz];exact⟨⟨_,he,rfl⟩,fin⟩
 ·cases r with
  |error e=>exact hr
  |ok fl=>
   cases fl with
   |ret obj=>
    obtain⟨hT,Ph⟩:=hr;have hli:=ft.init.lookup;have hbi:=ft.init.bind obj
    repeat (any_goals (first|assumption|wp_step))
    refine al1 (aq4 ft.init.plain PySem.F.entry_object_init (ft.init.check _ _ _ _ _ _ _ _ hT (mi _ _ _) (rO prog w A.in1 (wants (fun r PZ=>r=.none/\Q obj PZ) E) HW ⟨hT,rfl,Ph⟩))) fun Xf PZ Qa=>?_
    cases Xf with
    |error e=>exact Qa
    |ok UY=>
     cases UY with
     |ret r=>
      obtain⟨rfl,hq⟩:=Qa
      repeat (any_goals (first|assumption|wp_step))
     |_=>exact Qa.elim
   |_=>exact hr.elim
end
section
variable{M:Model}{A:ay2}{E:aw4}{s:Shared}{env:Env}
def ni{pos:Pos}{T:String}{first:aw7}{args:List (Bool×Sem Value)}{keywords:List (Option Str×Sem Value)}{Q:aw4}
  (L7:args.any (·.1)=false) (hkw:keywords.any (·.1.isNone)=false)
  (h:wpAny M A (evalArgs (.type T) true args keywords) (fun a HW=>wpAny M A (call (.type T) (first++a.pos) a.kw) Q E HW) E s) :
  wpAny M A (callWith pos (.type T) first args keywords) Q E s:=by
 unfold callWith;refine aa0 (ai7 (ad6 h (fun a HW Pk=>aa0 (wpAny_standAt ?_)) fun _ _ x=>x));simp only[L7,hkw,Bool.or_false];refine aa0 (aa4 ?_);exact aa0 (ad6 Pk (fun r PZ hr=>aa0 (ai7 (wpAny_point (aa4 hr)))) fun _ _ x=>x)
end
section
variable{X:Cx}{e:Expr}{fe:ay5}{pos:Pos}{elts:ax8}{k1:Nat}{LZ:Pos}
def yp(c:Nat):D->M Wk
 |.tup xs=>M.ret ⟨jn c xs,none⟩
 |_=>M.bad
def uV(c:Nat)(fe:ay5):r_->M Wk:=fun r=>(fe r).bind (yp c)
def zP{p kp cp:Pos}{i:Int}{c j:Nat}(hg:Gl X "enumerate")(hm:X.mg "enumerate"=none)(he:Ii X e fe)(hic:i=(c:Int):=by decide)(hc:c<=1000:=by decide)(hs:starEach [e] X.env=[(false,eval e X.env)]:=by rfl) :
  PId X (.Tuple elts k1 LZ) (.Call (.Name "enumerate" p) [e] [⟨some "start",.Constant (.int i) j cp,kp⟩] pos) (uV c fe):=by
 intro pins s σ H J r S Q E I m;subst hic;have m':OX X pins σ H J (.Tuple elts k1 LZ) ((aa fe ai r).bind (uJ (yp c)) S) Q E:=by
  unfold uV M.bind at m;unfold aa ai M.bind M.ret;cases e1:fe r S<;>(rw[e1] at m;exact m)
 refine ag8 (jL I.inv hg hm boot_enumerate (ni (by rw[hs];rfl) rfl ?_));have hb:backTo pos (starEach [e] X.env)=(false,eval e X.env) :: []:=by rw[hs];rfl
 rw[hb];refine evalArgs_kwB rfl ?_;rw[<-hb];refine VM (ae he ag (by rw[hs];rfl)) I m' (fun xs S1 s1 H1 J1 vs us I1 rv r1 m1=>?_) pos;refine kws_cons (wpAny_Constant_int (kws_nil ?_));have PX:Builtin.SmallTypes.fitsIndex (c:Int)=true:=by
  unfold Builtin.SmallTypes.fitsIndex;simp only[ai8,ao8];omega
 match xs,m1,rv with
 |[],m1,rv=>exact m1.elim
 |_ :: _ :: _,m1,rv=>exact m1.elim
 |[x],m1,rv=>
  obtain⟨v,rfl,h1⟩:=rv.La;obtain⟨u,rfl,ru⟩:=Vals.one r1
  change OX X pins σ H1 J1 (.Tuple elts k1 LZ) (yp c x S1) Q E at m1
  cases x with
  |tup ys=>
   obtain⟨a,ws,rfl,hq,HZ⟩:=h1.K_;cases ru;obtain⟨y_,rl,pl,hz⟩:=I1.inv.tuple hq;refine q8 (s:={ s1 with toks:=s1.toks+1 }) pl PX fun h' O0 L4 hk'=>al8 O0 ?_
   refine m1 _ _ ⟨s1.heap.objs.size+1,[s1.heap.objs.size+1,s1.heap.objs.size],_,_,H1,rfl,I1.inv.kept (t':=s1.toks+1) hk',rJ a s1.heap.objs.size (s1.heap.objs.size+1) c (ar4 _),⟨⟨_,O0⟩,L4⟩,uT I1.inv,J1,Ext.refl _ _,I1.st,trivial,?_⟩;exact JQ.RT fun H2 J2 S2 x2 K9 _=>⟨ws,Kq.ext x2 hq,HZ.ext x2⟩
  |_=>exact m1.elim
def dl{x:Str}{d:D}{pos:Pos}(hg:Gl X x)(h:∃u,X.mg x=some u/\LM X.K d u)(hd:(x == ("__debug__":Str))=false:=by decide):Ii X (.Name x pos) (dC d):=by
 obtain⟨u,h1,h2⟩:=h;exact D4 hg h1 h2 hd
def Na(K:aw5)(mg:aw9)(x:Str)(ss:ax0):Prop:=∃u,mg x=some u/\Q7 K u (ss.map V.str)
def pZ{K:aw5}(ss:ax0)(H:Hp)(J:aw6):l_ K H J (ss.map D.str) (ss.map V.str):=by
 induction ss with
 |nil=>exact .nil
 |cons a r ih=>exact .cons (by unfold s_;rfl) ih
def Na.glob{K:aw5}{mg:aw9}{x:Str}{ss:ax0}(h:Na K mg x ss):∃u,mg x=some u/\LM K (.tup (ss.map D.str)) u:=by
 obtain⟨u,h1,h2⟩:=h;exact⟨u,h1,h2.rep (pZ ss)⟩
def yy{x:Str}{e:Expr}{np apos IE:Pos}{ss:ax0}{ft:ay6}(hg:Gl X x)(h:Na X.K X.mg x ss)(ha:NO X [e] ft)(hd:(x == ("__debug__":Str))=false:=by decide)
  (L5:attributeBase (.Name x np) "index" X.env (eval (.Name x np) X.env)=eval (.Name x np) X.env:=by rfl)
  (OB:((backTo IE (starEach [e] X.env)).all (fun x=>!x.1) && (backToKw IE (keywordEach [] X.env)).all (fun x=>x.1.isSome)
   && decide ([e].length+([]:List Keyword).length+(if ([]:List Keyword).isEmpty then 0 else 1)<30))=true:=by rfl)
  (L6:(apos.endLine == IE.line)=true:=by rfl) (hs:starEach [e] X.env=[(false,eval e X.env)]:=by rfl) :
  Ii X (.Call (.Attribute (.Name x np) "index" apos) [e] [] IE) (nZ (.tup (ss.map D.str)) ft):=by
 obtain⟨u,h1,h2⟩:=h;exact Ag hg h1 h2 (pZ ss) ha hd L5 OB L6 hs
def ja{K:aw5}{i:Int}{t:Tok}:LM K (.int i) (.int i t):=fun H J=>⟨.int i,⟨_,rfl⟩,s_.int _ _ _ _⟩
theorem tO:∀{ss:ax0}{vs:aw7},(zip ss vs).all (fun p=>match p.2 with|.str x _=>x == p.1|_=>false)=true->ss.length=vs.length->Vals (ss.map V.str) vs
 |[],[],_,_=>.nil
 |a :: r,v :: vs,h,hl=>by
  simp only[List.zip_cons_cons,all_cons,ai8] at h;refine .cons ?_ (tO h.2 (by simpa using hl));cases v with
  |str x t=>
   have:=ah7.mp h.1;subst this;exact⟨_,rfl⟩
  |_=>exact absurd h.1 ad2
 |[],_ :: _,_,h=>by cases h
 |_ :: _,[],_,h=>by cases h
def vK{K:aw5}{mg:aw9}{x:Str}{ss:ax0}{a:Addr}{y_:ax2}{n:Nat}{sl:ax9}(hm:mg x=some (.ref a))(hl:K.lookup a=some ⟨.type "tuple",none,.seq y_ n,sl⟩)(hv:(zip ss y_.toList).all (fun p=>match p.2 with|.str x _=>x == p.1|_=>false)=true)(hn:ss.length=y_.toList.length)(hz:ss.length<=1000):Na K mg x ss:=
 ⟨_,hm,⟨⟨a,_,y_,n,rfl,hl,rfl,rfl,rfl,by rw[<-af0,<-hn];exact ag1 (P_ (by omega)),tO hv hn⟩⟩⟩
end
section
variable{X:Cx}{body:List Stmt}{h0:ExceptHandler}{hs:List ExceptHandler}{t:HK}{pos:Pos}
end
def vm(l:List Env)(ex:aw6)(h h':Heap):Prop:=
 (∀b o,h.get? b=some o->b∉ex->b∉l.filterMap (·.frame)->h'.get? b=some o)/\(∀b o,h.get? b=some o->b∉ex->∃sl,h'.get? b=some { o with slots:=sl })
section
variable{M:Model}{A:ay2}{E:aw4}{s:Shared}
def tL{base:Heap}{env:Env}{outer:List Env}{L e:Addr}{oe:Obj}{vs:ax2}{head a0:Value}{Q_:Bool}{Q:ax6}
  (QK:A.frames=some (env :: outer)) (hl:s.heap.FunFrames base (env :: outer)) (hf:env.frame=some L)
  (he:s.heap.get? e=some oe) (TX:base.StaysIn s.heap) (Xg:base.get? e=none) (hd:oe.data=.fields vs) (hsz:1<vs.size) (h0:vs[0]?=some a0)
  (h:∀h',Heap.LeftW base (env :: outer) e oe.cls a0 s.heap h'->vm (env :: outer) [e] s.heap h'->(∃RV RW T,h'.get? e=some RV/\RV.data=.fields RW/\RW[1]?=some (.ref T)/\s.heap.objs.size<=T)->Q () { s with heap:=h' }) :
  wpAny M A (do let a <-frameOf env;let pl <-entryPlaceOf L Q_;let b <-EntryCells.newEntry head a .none (rawInt L) .none pl;setField (.ref e) 1 b) (fun _ s'=>wpAny M A (setFlight (.ref e) none) Q E s') E s:=by
 have Xh:e∉(env :: outer).filterMap (·.frame):=fun hm=>by
  obtain⟨_,o,ho,O2⟩:=hl.mem hm;rw[he] at ho
  injection ho with ho
  subst ho;exact O2 vs hd
 refine aa0 (wpAny_frameOf_fun QK hl hf fun h1 q=>?_);refine aa0 (wpAny_entryPlaceOf fun pl M8=>?_);unfold EntryCells.newEntry newFields;refine aa0 (ad1 ?_ (M8.sizeOk5 _ _ _ _ _));obtain⟨tb,Xi⟩:∃tb:Obj,tb = { cls:=.type "traceback",dict:=none,data:=.fields ([head,.ref L,.none,rawInt L,.none]++(if pl.isEmpty then replicate 6 Value.none else pl)).toArray }:=⟨_,rfl⟩;rw[<-Xi];have PL:h1.get? e=some oe:=(q.2.1 e Xh).trans he;have kb1:base.StaysIn h1:=fun b o Ol=>(q.2.1 b fun hm=>by rw[(hl.mem hm).1] at Ol;cases Ol).trans (TX b o Ol)
 have Q5:=aa6 (h:=h1) tb PL;refine am3 Q5 hd hsz ?_;obtain⟨T,hT⟩:∃T,T=h1.objs.size:=⟨_,rfl⟩;have Pq:T≠e:=by rw[hT];exact ar1 (ac6 PL)
 have O3:s.heap.objs.size<=T:=by rw[hT,q.1];exact aa1 _
 obtain⟨h2,VU⟩:∃h2,h2=(h1.push tb).update e (Obj.mapFields (·.setIfInBounds 1 (Value.ref T))):=⟨_,rfl⟩;have VW:=ah8 hd (·.setIfInBounds 1 (Value.ref T));have VX:h2.get? e=some (Obj.mapFields (·.setIfInBounds 1 (Value.ref T)) oe):=by rw[VU];exact ah1 _ Q5 (aj3 VW)
 have OD:h2.get? T=some tb:=by rw[VU,af6 _ _ (af8 Pq),hT];exact ac0 h1 (by rw[Xi];rfl)
 have OE:tb.data=.fields ([head,.ref L,.none,rawInt L,.none]++(if pl.isEmpty then replicate 6 Value.none else pl)).toArray:=by rw[Xi]
 have goal:wpAny M A (setFlight (.ref e) none) Q E { s with heap:=h2 }:=by
  unfold setFlight;refine aa0 (ah0 VX VW (x:=.ref T) (by simp[hsz]) ?_);rw[ab2 (show(Value.ref T != Value.none)=true from by simp)];refine am3 OD OE (by simp only[ab7,aa8,ab8,as6]<;>omega) ?_;obtain⟨h3,RX⟩:∃h3,h3=h2.update T (Obj.mapFields (·.setIfInBounds 3 ((none:Option Addr).elim Value.none fun f=>rawInt f))):=⟨_,rfl⟩;have keep:∀b o,b≠e->h1.get? b=some o->h3.get? b=some o:=fun b o Mr hb=>by
   have WZ:T≠b:=by rw[hT];exact ar1 (ac6 hb)
   rw[RX,VU,af6 _ _ WZ,af6 _ _ (af8 Mr)];exact aa6 _ hb
  have ZQ:h3.get? e=some (Obj.mapFields (·.setIfInBounds 1 (Value.ref T)) oe):=by rw[RX,af6 _ _ Pq];exact VX
  have N1:∀b o,s.heap.get? b=some o->(∀vs,o.data≠.fields vs)->b≠e:=fun b o hb O2 z=>by
   rw[z,he] at hb
   injection hb with hb
   subst hb;exact O2 vs hd
  have TY:h3.get? T=some (Obj.mapFields (·.setIfInBounds 3 ((none:Option Addr).elim Value.none fun f=>rawInt f)) tb):=by rw[RX];exact ah1 _ OD (aj3 (ah8 OE _))
  have Xj:=ah8 OE (·.setIfInBounds 3 ((none:Option Addr).elim Value.none fun f=>rawInt f));have hq:Q () { s with heap:=h3 }:=by
   refine h h3 ⟨fun b o Ol=>keep b o (fun z=>by rw[z,Xg] at Ol;cases Ol) (kb1 b o Ol),hl.of_keeps fun b o hb O2=>?_,?_,fun b o hb O2=>?_⟩ ⟨fun b o hb Mr UN=>?_,fun b o hb Mr=>?_⟩ ⟨_,_,T,ZQ,VW,by simp[hsz],O3⟩
   ·obtain⟨sl,hs⟩:=q.2.2 b o hb;exact⟨_,keep b _ (N1 b o hb O2) hs,rfl⟩
   ·refine⟨_,_,T,_,_,ZQ,⟨Obj.cls_mapFields _ _,by rw[Array.getElem?_setIfInBounds_ne (by decide)];exact h0⟩,VW,by simp[hsz],?_,Pq,TY,Xj,?_⟩
    ·rw[hT];exact kb1.fresh
    ·first|(simp;done)|(rcases M8 with rfl|⟨_,_,_,_,_,_,_,rfl⟩<;>simp)
   ·obtain⟨sl,hs⟩:=q.2.2 b o hb;exact⟨sl,keep b _ (N1 b o hb O2) hs⟩
   ·exact keep b o (by simpa using Mr) ((q.2.1 b UN).trans hb)
   ·obtain⟨sl,hs⟩:=q.2.2 b o hb;exact⟨sl,keep b _ (by simpa using Mr) hs⟩
  rw[RX] at hq;exact hq
 rw[VU,hT] at goal;exact goal
def pW(h:Heap)(e T:Addr):Prop:=∃oe vs,h.get? e=some oe/\oe.data=.fields vs/\vs[1]?=some (.ref T)
def xU{base:Heap}{env:Env}{outer:List Env}{L e T:Addr}{cls a0:Value}{Q:ax6}
  (QK:A.frames=some (env :: outer)) (hl:s.heap.FunFrames base (env :: outer)) (hf:env.frame=some L) (ht:s.heap.TracedW base e cls a0) (hTr:pW s.heap e T) (TX:base.StaysIn s.heap) (Xg:base.get? e=none)
  (h:∀h' T',Heap.LeftW base (env :: outer) e cls a0 s.heap h'->vm (env :: outer) [e,T] s.heap h'->pW h' e T'->s.heap.objs.size<=T'->(∃oT,h'.get? T=some oT)->Q () { s with heap:=h' }):wpAny M A (noteFrame (.ref e) env) (fun _ s2=>wpAny M A (setFlight (.ref e) none) Q E s2) E s:=by
 obtain⟨oe,vs,T0,oT,ts,he,⟨Li,h0⟩,hd,h1,ZR,Pq,hT,OE,h3⟩:=ht;obtain⟨RV,RW,b1,b2,b3⟩:=hTr;rw[he] at b1;cases b1;rw[hd] at b2;cases b2;rw[h1] at b3;cases b3;subst Li;unfold noteFrame;simp only[hf];refine aa0 (ah0 he hd h1 ?_);rw[ab2 (show(Value.ref T != Value.none)=true from by simp)];refine aa0 (ah0 hT OE h3 ?_);rw[ab1 (show ¬((Value.none == rawInt L)=true) from by simp[rawInt])];refine aa0 (am3 hT OE (aj1.mp h3).1 ?_);have other:∀b,b≠T->(s.heap.update T (Obj.mapFields (·.setIfInBounds 3 Value.none))).get? b=s.heap.get? b:=fun b hb=>af6 _ _ (af8 hb)
 have RY:∀b o,s.heap.get? b=some o->(∀vs,o.data≠.fields vs)->b≠T:=fun b o hb O2 z=>by
  rw[z,hT] at hb
  injection hb with hb
  subst hb;exact O2 ts OE
 refine tL QK (hl.of_keeps fun b o hb O2=>⟨o,(other b (RY b o hb O2)).trans hb,rfl⟩) hf ((other e (af8 Pq)).trans he)
  (fun b o Ol=>(other b fun z=>by rw[z,ZR] at Ol;cases Ol).trans (TX b o Ol)) Xg hd (aj1.mp h1).1 h0
  fun h' ⟨x1,x2,x3,x4⟩ ⟨y1,y2⟩ ⟨RV,RW,T',c1,c2,c3,c4⟩=>h h' T' ⟨x1,x2,x3,fun b o hb O2=>x4 b o ((other b (RY b o hb O2)).trans hb) O2⟩ ⟨fun b o hb Mr UN=>?_,fun b o hb Mr=>?_⟩ ⟨RV,RW,c1,c2,c3⟩ ?_ ?_
 ·simp only[ac7,am2,as1,not_or] at Mr;exact y1 b o ((other b Mr.2).trans hb) (by simpa using Mr.1) UN
 ·simp only[ac7,am2,as1,not_or] at Mr;exact y2 b o ((other b Mr.2).trans hb) (by simpa using Mr.1)
 ·have hsz:(s.heap.update T (Obj.mapFields (·.setIfInBounds 3 Value.none))).objs.size=s.heap.objs.size:=Heap.size_update ..;rw[<-hsz];exact c4
 ·have N0:(s.heap.update T (Obj.mapFields (·.setIfInBounds 3 Value.none))).get? T=some (Obj.mapFields (·.setIfInBounds 3 Value.none) oT):=ah1 _ hT (aj3 (ah8 OE _));obtain⟨sl,q⟩:=y2 T _ N0 (by simpa using Pq);exact⟨_,q⟩
end
section
variable{P:ay1}{w:ay3}{H H':Hp}{h h':Heap}{a:Addr}{o:HO}
def wn(x:Il P w H h a o):∃u,h.get? a=some u:=by
 cases o with
 |lst xs=>obtain⟨_,_,_,_,e⟩:=x;exact⟨_,e⟩
 |tup xs=>obtain⟨_,_,_,_,e,_⟩:=x;exact⟨_,e⟩
 |dK kvs=>obtain⟨_,_,_,_,o,_,_,e,_⟩:=x;exact⟨_,e⟩
 |dT kvs=>obtain⟨_,_,_,_,o,_,_,e,_⟩:=x;exact⟨_,e⟩
 |set S n=>obtain⟨o,_,_,_,e,_⟩:=x;exact⟨_,e⟩
 |ins C dx fs=>obtain⟨_,_,_,e,_⟩:=x;exact⟨_,e⟩
 |own y=>obtain⟨_,e⟩:=x;exact⟨_,e⟩
 |xd fs=>obtain⟨_,⟨_,_,_,e,_⟩,_⟩:=x;exact⟨_,e⟩
 |Tt lo hi=>obtain⟨_,_,_,e⟩:=x;exact⟨_,e⟩
 |Oq ob u=>obtain⟨e,_⟩:=x;exact⟨_,e⟩
 |RF ps=>exact⟨_,(show h.get? a=some _ from x)⟩
 |met f y=>exact⟨_,(show h.get? a=some _ from x)⟩
 |ext φ=>obtain⟨_,⟨_,e⟩,_⟩:=x;exact⟨_,e⟩
def wT(x:JG P w H h)(hp:h.get? a=none):H a=none:=by
 cases q:H a with
 |none=>rfl
 |some u=>obtain⟨v,e⟩:=wn (x a u q);rw[hp] at e;cases e
def Ao(x:JG P w H h)(k:∀b u,h.get? b=some u->h'.get? b=some u)(hp:h.get? a=none)(new:Il P w (upd H a o) h' a o):JG P w (upd H a o) h':=fun b u e=>by
 have hn:=wT x hp;by_cases hb:b=a
 ·subst hb;rw[bF] at e;cases e;exact new
 ·rw[bf hb] at e;exact(x b u e).Lv (fun c v _ q=>k c v q) (fun c q=>by rw[bf (aZ q hn)];exact q) fun c xs q=>by rw[bf (aZ q hn)];exact q
def CA{fs ex:aw6}(k:∀b u,h.get? b=some u->h'.get? b=some u)(hp:h.get? a=none)(hn:H a=none):Un fs ex H (upd H a o) h h' where
 keep:=fun b u q _ _ _=>k b u q
 slot:=fun b u q _ _ _=>⟨u.slots,k b u q⟩
 free:=fun b u q n _=>by rw[bf (fun z=>by rw[z,hp] at q;cases q)];exact n
 there:=fun b u q _=>⟨u,k b u q⟩
 K5:=fun b xs q=>by rw[bf (aZ q hn)];exact q
 KP:=fun b u xs q=>by rw[bf (aZ q hn)];exact q
 K6:=fun b ps q=>⟨#[],by rw[bf (aZ q hn),q];simp⟩
def wV{c:Addr}(e:∃o,h.get? a=some o/\o.cls=.ref c):Il P w H h a (XO a c):=by
 obtain⟨o,e1,e2⟩:=e;exact⟨⟨o,e1,e2⟩,⟨o,e1⟩,fun h1 h2 ⟨u,q1,q2⟩ k=>⟨u,k u q1,q2⟩⟩
def qC(e:∃o,h.get? a=some o):Il P w H h a (TO a):=by
 obtain⟨o,e1⟩:=e;exact⟨⟨o,e1⟩,⟨o,e1⟩,fun h1 h2 ⟨u,q1⟩ k=>⟨u,k u q1⟩⟩
def vZ{l:List Env}{ex:aw6}{T:Addr}(x:JG P w H h)(kb:vm l ex h h')(hf:∀b∈Oe l,H b=none)
  (hx:∀b∈ex,(∃c,H b=some (XO b c)/\∃o,h'.get? b=some o/\o.cls=.ref c)\/(H b=some (TO b)/\∃o,h'.get? b=some o)) (hT:h.objs.size<=T) (VY:∃o,h'.get? T=some o) :
  Un (Oe l) [] H (upd H T (TO T)) h h'/\JG P w (upd H T (TO T)) h':=by
 have hn:H T=none:=x.fresh hT;have ZS:∀b,H b=none->b∉ex:=fun b n z=>by
  rcases hx b z with ⟨c,q,_⟩|⟨q,_⟩<;>(rw[n] at q;cases q)
 refine⟨⟨fun b u q n hb _=>kb.1 b u q (ZS b n) hb,fun b u q n _ _=>kb.2 b u q (ZS b n),fun b u q n _=>?_,fun b u q _=>?_,fun b xs q=>by rw[bf (aZ q hn)];exact q,fun b u xs q=>by rw[bf (aZ q hn)];exact q,fun b ps q=>⟨#[],by rw[bf (aZ q hn),q];simp⟩⟩,fun b u e=>?_⟩
 ·rw[bf (ad0 (ac1 (ac6 q) hT))];exact n
 ·by_cases z:b∈ex
  ·rcases hx b z with ⟨c,_,o,e1,_⟩|⟨_,o,e1⟩<;>exact⟨o,e1⟩
  ·obtain⟨sl,e1⟩:=kb.2 b u q z;exact⟨_,e1⟩
 ·by_cases hb:b=T
  ·subst hb;rw[bF] at e;cases e;exact qC VY
  ·rw[bf hb] at e;by_cases z:b∈ex
   ·rcases hx b z with ⟨c,q,y⟩|⟨q,y⟩
    ·rw[q] at e;cases e;exact wV y
    ·rw[q] at e;cases e;exact qC y
   ·refine(x b u e).Lv (fun c v hc q=>kb.1 c v q ?_ ?_) (fun c q=>by rw[bf (aZ q hn)];exact q) fun c xs q=>by rw[bf (aZ q hn)];exact q
    ·rcases hc with rfl|hc
     ·exact z
     ·intro zc;rcases hx c zc with ⟨_,q',_⟩|⟨q',_⟩<;>(rw[hc] at q';cases q')
    ·intro zf;have:=hf c zf;rcases hc with rfl|hc
     ·rw[e] at this;cases this
     ·rw[hc] at this;cases this
def Af{L:Addr}{fs ex:aw6}(u:Un (L :: fs) ex H H' h h')(hL:h.objs.size<=L):Un fs ex H H' h h' where
 keep:=fun b o q n hb hx=>u.keep b o q n (fun z=>(ac7.mp z).elim (fun e=>absurd (ac6 q) (by rw[e];exact Nat.not_lt.mpr hL)) hb) hx
 slot:=fun b o q n hb hx=>u.slot b o q n (aa9 _ hb) hx
 free:=u.free
 there:=u.there
 K5:=u.K5
 KP:=u.KP
 K6:=u.K6
end
def Tr.of{base h:Heap}{a c T:Addr}{a0:Value}(t:h.TracedW base a (.ref c) a0)(ta:pW h a T):Tr h a c T:=by
 obtain⟨oe,vs,T0,oT,ts,he,⟨Li,h0⟩,hd,h1,ZR,Pq,hT,OE,h3⟩:=t;obtain⟨RV,RW,b1,b2,b3⟩:=ta;rw[he] at b1;cases b1;rw[hd] at b2;cases b2;rw[h1] at b3;cases b3;exact⟨oe,vs,oT,ts,a0,he,Li,hd,h0,h1,Pq,hT,OE,h3⟩
def Tr.to{base h:Heap}{a c T:Addr}(t:Tr h a c T)(hb:base.get? T=none):∃a0,h.TracedW base a (.ref c) a0/\pW h a T:=by
 obtain⟨oe,vs,oT,ts,a0,he,Li,hd,h0,h1,Pq,hT,OE,h3⟩:=t;exact⟨a0,⟨oe,vs,T,oT,ts,he,⟨Li,h0⟩,hd,h1,hb,Pq,hT,OE,h3⟩,oe,vs,he,hd,h1⟩
def Tr.cls{h:Heap}{a c T:Addr}(t:Tr h a c T):∃o,h.get? a=some o/\o.cls=.ref c:=by
 obtain⟨oe,vs,oT,ts,a0,he,Li,_⟩:=t;exact⟨oe,he,Li⟩
def Tr.end{h:Heap}{a c T:Addr}(t:Tr h a c T):∃o,h.get? T=some o:=by
 obtain⟨oe,vs,oT,ts,a0,he,Li,hd,h0,h1,Pq,hT,_⟩:=t;exact⟨oT,hT⟩
def E_(P:ay1)(w:ay3):Lx:=fun outer H s E e s'=>∃a c T H',e=.ref a/\s'.os=s.os/\AllBare s'.gens/\Un (Oe outer) [] H H' s.heap s'.heap/\JG P w H' s'.heap/\H' a=some (XO a c)/\H' T=some (TO T)/\Tr s'.heap a c T/\E (.ref c) none H'
abbrev qy7(P:Program)(w:World)(K:PySem.W.Frag)(mg:Str->Option Value)(base:Heap):=JU P w K mg base (E_ P w)
abbrev qz7(P:Program)(w:World)(K:PySem.W.Frag)(mg:Str->Option Value)(base:Heap):=Iy P w K mg base (E_ P w)
abbrev qq7(P:Program)(w:World)(K:PySem.W.Frag)(mg:Str->Option Value)(base:Heap):=IP P w K mg base (E_ P w)
def CD{P:ay1}{w:ay3}{H:Hp}{s:Shared}{e:Value}{s':Shared}:E_ P w [] H s (fun _ _ _=>False) e s'->False:=fun ⟨_,_,_,_,_,_,_,_,_,_,_,_,z⟩=>z
def ku{X:Cx}{pins:Hz}{σ:L2.St}{H:Hp}{s:Shared}{a:Addr}{o:HO}(I:Inv X pins σ H s)(e:H a=some o):X.base.get? a=none:=by
 cases q:X.base.get? a with
 |none=>rfl
 |some u=>have:=(I.bs a u q).2;rw[e] at this;cases this
def yS{X:Cx}{pins:Hz}{σ:L2.St}{H:Hp}{s:Shared}{a c:Addr}{Q:ax6}{E:aw4}(Jl:X.stack=X.env :: X.outer/\X.env.frame=some X.env.locals)(I:Inv X pins σ H s)(hX:H a=some (XO a c))(hc:FT s.heap a c\/∃T,H T=some (TO T)/\Tr s.heap a c T)
  (hq:∀h' T',H T'=none->Un (Oe X.stack) [] H (upd H T' (TO T')) s.heap h'->JG X.prog X.w (upd H T' (TO T')) h'->Tr h' a c T'->Q () { s with heap:=h' }) :
  wpAny (model X.prog X.w) X.A (noteFrame (.ref a) X.env) (fun _ s2=>wpAny (model X.prog X.w) X.A (setFlight (.ref a) none) Q E s2) E s:=by
 have QK:X.A.frames=some (X.env :: X.outer):=by rw[I.ok.frames,Jl.1]
 have hl:s.heap.FunFrames X.base (X.env :: X.outer):=by rw[<-Jl.1];exact I.stack
 have ZT:∀b∈Oe (X.env :: X.outer),H b=none:=by rw[<-Jl.1];exact I.Nh
 have TX:X.base.StaysIn s.heap:=I.bk;rcases hc with ⟨oe,vs,a0,he,Ox,hd,h0,h1⟩|⟨T,ZU,tr⟩
 ·unfold noteFrame;simp only[Jl.2];refine aa0 (ah0 he hd h1 ?_);rw[ab1 (by decide)];refine tL QK hl Jl.2 he TX (ku I hX) hd (aj1.mp h1).1 h0 fun h' lw kb ⟨RV,RW,T',c1,c2,c3,c4⟩=>?_
  rw[Ox] at lw;have tr:=Tr.of lw.2.2.1 ⟨RV,RW,c1,c2,c3⟩;obtain⟨u1,u2⟩:=vZ I.HH kb ZT (fun b hb=>.inl ⟨c,by simp at hb;subst hb;exact⟨hX,tr.cls⟩⟩) c4 tr.end;rw[<-Jl.1] at u1;exact hq h' T' (I.HH.fresh c4) u1 u2 tr
 ·obtain⟨a0,tw,ta⟩:=tr.to (ku I ZU);refine xU QK hl Jl.2 tw ta TX (ku I hX) fun h' T' lw kb ta' hs hTt=>?_
  have Xk:=Tr.of lw.2.2.1 ta';obtain⟨u1,u2⟩:=vZ I.HH kb ZT (fun b hb=>by
   simp only[ac7,am2,as1] at hb;rcases hb with rfl|rfl
   ·exact .inl ⟨c,hX,Xk.cls⟩
   ·exact .inr ⟨ZU,hTt⟩) hs Xk.end
  rw[<-Jl.1] at u1;exact hq h' T' (I.HH.fresh hs) u1 u2 Xk
def nr{P:ay1}{w:ay3}{K:aw5}{mg:aw9}{base:Heap}{N:ax0}{qual:Str}{scope:Scope}{f:Addr}{HG:Value}{A:ay2}{outer:List Env}{s:Shared}{H:Hp}{E:XK} :
  A6 (E_ P w) (pH (E_ P w) P w K mg base N qual scope f HG A outer s H E) E:=by
 intro σ H' s' e c XI hE;obtain⟨I,a,rfl,hX,hc⟩:=XI;show wpAny (model P w) (A.deeper (envOfC qual scope s.heap.objs.size f HG)) (leaving (envOfC qual scope s.heap.objs.size f HG) (.ref a)) (fun _ PV=>E_ P w outer H s E (.ref a) PV) (fun e' PV=>E_ P w outer H s E e' PV) s';unfold leaving;refine aa0 (yS (X:=pH (E_ P w) P w K mg base N qual scope f HG A outer s H E) (Q:=fun _ PV=>E_ P w outer H s E (.ref a) PV) ⟨rfl,rfl⟩ I hX hc fun h' T' hn un HH tr=>?_);have Mp:a≠T':=aZ hX hn;refine⟨a,c,T',_,rfl,I.os,I.bare,Af (L:=s.heap.objs.size) (Un.trans (I.base.mono (fun b hb=>aa9 _ hb) fun b hb=>hb) un) (aa1 _),HH,by rw[bf Mp];exact hX,bF,tr,hE T' _ hn⟩
def aJ{X:Cx}:o0 (E_ X.prog X.w) X:=by
 intro E0 pins σ H s e s' I h;obtain⟨a,c,T,H',rfl,os,bare,un,HH,hX,hT,tr,hE⟩:=h;obtain⟨hh,g,d,t,Uu⟩:=s';obtain rfl:Uu=s.os:=os;exact⟨c,H',⟨I.call (h':=hh) (g':=g) (d':=d) (t':=t) (ch:=[]) un HH bare (fun b z=>absurd z (by simp)),a,rfl,hX,.inr ⟨T,hT,tr⟩⟩,hE⟩
structure Qb(K:aw5)(mg:aw9)(x:Str)(C:Addr):Prop where
 nm:mg x=some (.ref C)
 cls:excIn K C [.type "ValueError",.type "Exception",.type "BaseException",.type "object"] "ValueError.__new__"=true
def tH{K:aw5}{h:Heap}{C:Addr}{ZV:aw7}{newId:String}(X:K.In h)(q:excIn K C ZV newId=true) :
  ∃bm N nm q bs hdct sn sub ab col dd k0 k1 k2 k3 k5 mN,h.get? C=some (excClassObj nm q C N bs bm hdct sn sub ab col dd k0 k1 k2 k3 k5 newId)/\h.Ns N mN/\mN "__init__"=none/\OwnTail h ZV bm:=by
 unfold excIn at q;split at q
 ·rename_i dd cd sl ho;split at q
  ·rename_i C' bm k0 k1 k2 k3 n k5 hm hs;simp only[ai8,ah7,Bool.not_eq_true'] at q;obtain⟨⟨⟨⟨⟨rfl,rfl⟩,UZ⟩,ht⟩,HH⟩,U0⟩:=q;obtain⟨nm,bs,mro,ns,qn,hd,sn,sub,ab,col,del⟩:=cd;dsimp only at hm UZ HH U0;subst hm UZ;have O3:sl = #[k0,k1,k2,k3,some (.builtin n),k5]:=by
    obtain⟨l⟩:=sl;simp only at hs;rw[hs]
   subst O3;exact⟨bm,ns,nm,qn,bs,hd,sn,sub,ab,col,dd,k0,k1,k2,k3,k5,_,X _ _ ho,.of_isNs (PySem.W.isNs_of_in X HH),PySem.W.nsMap_none_of_in X HH U0,PySem.W.tail_of_in X ht⟩
  ·cases q
 ·cases q
def oK(C:Addr)(fe:ay5):HK:=fun r=>cz (fe r) r fun _ S=>some (.xc C r,S)
def ny{X:Cx}{x:Str}{C:Addr}{np IE pos:Pos}{e:Expr}{fe:ay5}(hx:Qb X.K X.mg x C)(hg:Gl X x)(hc:X.calm=true)(he:Ii X e fe)
  (Pg:(x == ("__debug__":Str))=false:=by decide) (hs:starEach [e] X.env=(false,eval e X.env) :: starEach [] X.env:=by rfl) :
  Oj X (.Raise (some (.Call (.Name x np) [e] [] IE)) none pos) (oK C fe):=by
 intro pins s σ H J r S Q E I m;obtain⟨tl,N,nm,q,bs,hdct,sn,sub,ab,col,dd,k0,k1,k2,k3,k5,mN,hC,hN,U0,T⟩:=tH I.inv.mod.Tw hx.cls;refine wpAny_Raise_call_subT (C:=C) (nm:=nm) (q:=q) (N:=N) (bs:=bs) (bm:=tl) (hdct:=hdct) (sn:=sn) (sub:=sub) (ab:=ab) (col:=col) (dd:=dd) (k0:=k0) (k1:=k1) (k2:=k2) (k3:=k3) (k5:=k5)
  am4 (mN:=mN) (T.hasType am4.hasBase) (I.inv.ok.hd hc) (by rw[hs];rfl) U0 (lO I.inv hg hx.nm ⟨rfl,?_⟩ Pg)
 rw[hs];refine as4 (ao4 (UH he I m fun d S1 v s1 vx H1 J1 I1 rv r1 m1=>at5 ⟨rfl,(by decide:(1:Nat)<=sizeLine),I1.inv.bk _ _ hC,hN.keeps I1.inv.bk,T.keeps I1.inv.bk,fun h' e' hm=>?_⟩));obtain⟨t0,PL,_,_⟩:=hm.there;have hn:H1 e'=none:=wT I1.inv.HH hm.new;have I2:Inv X pins σ (upd H1 e' (XO e' C)) { s1 with heap:=h' }:=I1.inv.un (h':=h') (t':=s1.toks) (CA hm.keeps hm.new hn) (Ao I1.inv.HH hm.keeps hm.new (wV ⟨_,PL,rfl⟩));exact m1 (.ref e') _ σ (upd H1 e' (XO e' C)) J1 ⟨I2,e',rfl,bF,.inl ⟨_,_,_,PL,rfl,rfl,rfl,rfl⟩⟩ (I1.loc.ext (Ext.new hn)) (I1.st.new hn) (Ext.new hn)
section
variable{P:ay1}{w:ay3}{H H':Hp}{h h':Heap}{a:Addr}{o:HO}
def A9{T:Addr}(x:JG P w H h)(hT:H T=some (TO T))(k:∀b,b≠T->h'.get? b=h.get? b)(VY:∃o,h'.get? T=some o)(fs:aw6) :
  Un fs [] H H h h'/\JG P w H h':=by
 have ne:∀b,H b=none->b≠T:=fun b n z=>by rw[z,hT] at n;cases n
 refine⟨⟨fun b u q n _ _=>(k b (ne b n)).trans q,fun b u q n _ _=>⟨u.slots,(k b (ne b n)).trans q⟩,fun _ _ _ n _=>n,fun b u q _=>?_,fun _ _ q=>q,fun _ _ _ q=>q,fun b ps q=>⟨#[],by rw[q];simp⟩⟩,fun b u e=>?_⟩
 ·by_cases z:b=T
  ·subst z;exact VY
  ·exact⟨u,(k b z).trans q⟩
 ·by_cases z:b=T
  ·subst z;rw[hT] at e;cases e;exact qC VY
  ·refine(x b u e).Lv (fun c v hc q=>(k c ?_).trans q) (fun _ q=>q) fun _ _ q=>q
   rcases hc with rfl|hc
   ·exact z
   ·rintro rfl;rw[hT] at hc;cases hc
end
def Cx.marked(X:Cx)(a:Addr):Cx:={ X with A:=X.A.mark (some (.ref a)),calm:=false }
section
variable{X:Cx}{pins:Hz}{σ:L2.St}{H:Hp}{s:Shared}{a c T:Addr}
def yg(I:Inv X pins σ H s)(a:Addr):Inv (Cx.marked X a) pins σ H s:=
 ⟨⟨I.ok.mod,I.ok.kind,I.ok.glob,I.ok.blt,I.ok.above,I.ok.inj,I.ok.has,I.ok.Tx,fun z=>(nomatch z),I.ok.frames,I.ok.Uk,I.ok.Wq,I.ok.bs,I.ok.PA,I.ok.Pb,I.ok.PS,I.ok.Lh,I.ok.QR⟩,I.os,I.bare,I.base,I.loc,I.cell,I.free,I.J9,I.pin,I.HH,I.len⟩
def ix(ok:X.Ok)(I:Inv (Cx.marked X a) pins σ H s):Inv X pins σ H s:=⟨ok,I.os,I.bare,I.base,I.loc,I.cell,I.free,I.J9,I.pin,I.HH,I.len⟩
def pP{M:Model}{A:ay2}{Q:ax6}{E:aw4}(I:Inv X pins σ H s)(hT:H T=some (TO T))(t:Tr s.heap a c T)
  (hq:∀h',Inv X pins σ H { s with heap:=h' }->(∃o,h'.get? a=some o/\o.cls=.ref c)->Q () { s with heap:=h' }):wpAny M A (setFlight (.ref a) none) Q E s:=by
 obtain⟨oe,vs,oT,ts,a0,he,Li,hd,h0,h1,Pq,ZW,OE,h3⟩:=t;unfold setFlight;refine aa0 (ah0 he hd h1 ?_);rw[ab2 (show(Value.ref T != Value.none)=true from by simp)];refine am3 ZW OE (aj1.mp h3).1 ?_;have k:∀b,b≠T->(s.heap.update T (Obj.mapFields (·.setIfInBounds 3 ((none:Option Addr).elim Value.none fun f=>rawInt f)))).get? b=s.heap.get? b:=fun b hb=>af6 _ _ (af8 hb)
 obtain⟨u1,u2⟩:=A9 I.HH hT k ⟨_,ah1 _ ZW (aj3 (ah8 OE _))⟩ X.fs;exact hq _ (I.un (t':=s.toks) u1 u2) ⟨oe,(k a (af8 Pq)).trans he,Li⟩
end
structure SubX(K:aw5)(c C:Addr):Prop where
 sub:subIn K (.ref c) (.ref C)=some true
def vh{M:Model}{A:ay2}{E:aw4}{s:Shared}{K:aw5}{a c C:Addr}{x:Str}{mg:aw9}{Q:ax5}(X:K.In s.heap)(hC:Qb K mg x C)(hs:subIn K (.ref c) (.ref C)=some true)
  (he:∃o,s.heap.get? a=some o/\o.cls=.ref c) (hq:Q true s):wpAny M A (excMatches (.ref a) (.ref C)) Q E s:=by
 obtain⟨tl,N,nm,q,bs,hdct,sn,sub,ab,col,dd,k0,k1,k2,k3,k5,mN,ZX,hN,U0,T⟩:=tH X hC.cls;obtain⟨oe,he,Li⟩:=he;have hcB:(Value.ref C :: tl).contains (.type "BaseException")=true:=by rw[List.contains_cons,T.hasType am4.hasBase,Bool.or_true]
 have f:=tc_notTuple;obtain⟨hh,g,d,tk,os⟩:=s;have L:=PySem.W.looks_subIn (M:=M) X hs;unfold excMatches
 repeat (first|(with_reducible refine wpAny_loadPart_at he ?_;rw[Li])|with_reducible refine wpAny_loadPart_at ZX ?_|(with_reducible refine wpAny_isSubtype_exc ZX ?_;rw[hcB])|(with_reducible refine L.here ?_)|wp_step)
 exact hq
def ZY:Oi->Oi
 |some (.xc _ _,_)=>none
 |x=>x
def yi(L:aw6)(t u:HK):HK:=fun r S=>match t r S with
 |some (.xc c r',S')=>if c∈L then ZY (u r' S') else none
 |x=>x
section
variable{X:Cx}{body Qc:List Stmt}{SS:Stmt}{t u:HK}{pos np hp:Pos}{x:Str}{C:Addr}{L:aw6}
def E3(hC:Qb X.K X.mg x C)(hL:∀c∈L,subIn X.K (.ref c) (.ref C)=some true)(hg:Gl X x)(Jl:X.stack=X.env :: X.outer/\X.env.frame=some X.env.locals)(hb:oo X body t)(hs:∀a,oo (Cx.marked X a) (SS :: Qc) u)
  (Pg:(x == ("__debug__":Str))=false:=by decide) :
  Oj X (.Try body [.ExceptHandler (some (.Name x np)) none (SS :: Qc) hp] [] [] pos) (yi L t u):=by
 intro pins s σ H J r S Q E I m;refine wpAny_Try_except (hb pins s σ H J r S _ _ I ?_);unfold yi at m
 match e:t r S with
 |none=>rw[e] at m;exact m
 |some (.nx r',S')=>
  rw[e] at m;exact fun s' Ia H' J' a x=>an6 (m s' Ia H' J' a x)
 |some (.bk r',S')=>rw[e] at m;exact m
 |some (.ct r',S')=>rw[e] at m;exact m
 |some (.rt d,S')=>rw[e] at m;exact m
 |some (.xc c r',S')=>
  rw[e] at m;dsimp only at m;split at m
  ·rename_i hcL;rintro ev s' Ia H' J' ⟨I1,a,rfl,hX,hc⟩ rl rs ex;refine yS Jl I1 hX hc fun h' T' hn un HH tr=>?_
   have Mp:a≠T':=aZ hX hn;have I2:Inv X pins Ia (upd H' T' (TO T')) { s' with heap:=h' }:=I1.call (h':=h') (g':=s'.gens) (d':=s'.drawn) (t':=s'.toks) (ch:=[]) un HH I1.bare (fun b z=>absurd z (by simp));have I3:=yg I2 a;refine wpAny_handleBy_cons (codeAny_handlers_test (lO (X:=Cx.marked X a) I3 hg hC.nm ?_ Pg)) (by intro q;cases q);refine vh I2.LS hC (hL c hcL) tr.cls (codeAny_handlers_suite ?_);refine pP I3 bF tr fun h2 I4 _=>?_
   have Mo:Ext H' J' (upd H' T' (TO T')) J':=Ext.new hn;refine hs a pins _ Ia _ J' r' S' _ _ ⟨I4,rl.ext Mo,rs.new hn⟩ ?_;have m2:=Mw.ext (ex.trans Mo) m
   match e2:u r' S' with
   |none=>rw[e2] at m2;exact m2
   |some (.nx r2,S2)=>rw[e2] at m2;exact fun s3 NZ H3 J3 a3 x3=>m2 s3 NZ H3 J3 ⟨ix I2.ok a3.inv,a3.loc,a3.st⟩ x3
   |some (.bk r2,S2)=>rw[e2] at m2;exact fun s3 NZ H3 J3 a3 x3=>m2 s3 NZ H3 J3 ⟨ix I2.ok a3.inv,a3.loc,a3.st⟩ x3
   |some (.ct r2,S2)=>rw[e2] at m2;exact fun s3 NZ H3 J3 a3 x3=>m2 s3 NZ H3 J3 ⟨ix I2.ok a3.inv,a3.loc,a3.st⟩ x3
   |some (.rt d,S2)=>rw[e2] at m2;exact fun v s3 NZ ⟨vv,H3,I5,rv,g⟩=>m2 v s3 NZ ⟨vv,H3,ix I2.ok I5,rv,g⟩
   |some (.xc c2 r2,S2)=>rw[e2] at m2;exact m2.elim
  ·exact m.elim
end
section
variable{X:Cx}{pins:Hz}{σ:L2.St}{H:Hp}{s:Shared}
end
section
variable{X:Cx}{body Qc:List Stmt}{SS:Stmt}{t u:HK}{pos np hp:Pos}{x n:Str}{C:Addr}{L:aw6}{i:Nat}
end
section
variable{X:Cx}{e:Expr}{fe:ay5}{pos:Pos}
end
def E5{α:Type}{P:α->Prop}:∀c∈([]:List α),P c:=fun _ h=>nomatch h
def CN{α:Type}{P:α->Prop}{x:α}{l:List α}(h:P x)(t:∀c∈l,P c):∀c∈x :: l,P c:=fun c hc=>(ac7.mp hc).elim (fun e=>e ▸ h) (t c)
section
variable{X:Cx}{pos p p2 p3 p4:Pos}
end
def FQ:D->Bool
 |.Hw=>true
 |_=>false
def n5(x y:D):M D:=fun S=>match y with
 |.Hw=>.ok (.bl (!FQ x)) S
 |_=>.bad
def s_.SU{K:aw5}{H:Hp}{J:aw6}{d:D}{v:V}(h:s_ K H J d v):decide (v=.Hw)=FQ d:=by
 cases d with
 |Hw=>cases h.Ov;rfl
 |bl b=>cases h.QJ;rfl
 |int i=>cases h.IT;rfl
 |str x=>cases h.P0;rfl
 |tup xs=>obtain⟨a,vs,rfl,_⟩:=h.K_;rfl
 |Kh xs=>obtain⟨a,vs,rfl,_⟩:=h.Nl;rfl
 |ob n=>obtain⟨a,rfl,_⟩:=h.KR;rfl
 |xn c=>obtain⟨a,rfl,_⟩:=h.xn_;rfl
section
variable{X:Cx}
def yR:Lu X (compareOp .IsNot) n5:=by
 intro pins s σ H J S x y vx vy v u Q E I rs rx ry rv ru m;cases y with
 |Hw=>
  cases ry.Ov;cases ru;refine isnot_none_gen ?_;rw[rv.PU,rx.SU];exact m.Ku I rs (s_.bl _ _ _ _) rfl
 |_=>exact m.elim
end
structure NoX(K:aw5)(c:Addr):Prop where
 cls:excIn K c [.type "ValueError",.type "Exception",.type "BaseException",.type "object"] "ValueError.__new__"=true
 ga:findIn K (.ref c) "__getattribute__"=some (some (.builtin "BaseException.__getattribute__"))
 gat:findIn K (.ref c) "__getattr__"=some none
 clas:findIn K (.ref c) "__class__"=some (some (.builtin "object.__class__"))
section
variable{prog:ay1}{w:ay3}{A:ay2}{E:aw4}{h:Heap}{g:Array GenState}{d:Drawn}{t:Nat}{os:OsState}{a:Addr}{o:Obj}{K:aw5}
 {nm q:Str}{C N:Addr}{bs bm:aw7}{hdct:Bool}{sn:ax0}{sub:aw7}{ab:Bool}{col:Option Bool}{dd:Option Addr}{k0 k1 k2 k3 k5:Option Value}{newId:String}
end
section
variable{env:Env}{es:ax8}
end
end DL
namespace DL
open PySem PySem.Spec PyProof.Rows
section
variable{prog:ay1}{w:ay3}{A:ay2}{E:aw4}{s:Shared}{b:Array Keyed}
end
end DL
namespace DL
open PySem PySem.Spec PyProof.Rows L2
theorem oH:∀{ns:ax3}{us:aw7},Vals (ns.map V.int) us->IntsAre us ns
 |[],_,.nil=>.nil
 |n :: ns,_,.cons h t=>by
  obtain⟨tk,rfl⟩:=h;exact .cons n tk (oH t)
theorem jT:∀{ns:ax3}{us:aw7},IntsAre us ns->Vals (ns.map V.int) us
 |_,_,.nil=>.nil
 |_,_,.cons n t h=>.cons ⟨t,rfl⟩ (jT h)
section
variable{X:Cx}
def AE:bootBuiltins "sorted"=some (.builtin "sorted"):=by decide
end
end DL
namespace DL
open PySem PySem.Spec PyProof.Rows
def RS(xs:Array Nat):Prop:=∀(i k:Nat) (hi:i<k) (hk:k<xs.size),xs[i]'(Nat.lt_trans hi hk)<xs[k]
def RS.le{xs:Array Nat}(h:RS xs){i k:Nat}(hi:i<=k)(hk:k<xs.size):xs[i]'(as7 hi hk)<=xs[k]:=by
 by_cases e:i=k
 ·subst e;exact aa1 _
 ·exact ag1 (h i k (by omega) hk)
theorem qT{xs:Array Nat}(hs:RS xs)(j:Nat):∀(fuel lo hi:Nat),hi-lo<=fuel->lo<=hi->hi<=xs.size->(∀i (h:i<xs.size),i<lo->xs[i]<j)->(∀i (h:i<xs.size),hi<=i->j<=xs[i])->
  lo<=SetTable.below.go xs j fuel lo hi/\SetTable.below.go xs j fuel lo hi<=hi/\(∀i (h:i<xs.size),i<SetTable.below.go xs j fuel lo hi->xs[i]<j)/\(∀i (h:i<xs.size),SetTable.below.go xs j fuel lo hi<=i->j<=xs[i])
 |0,lo,hi,hf,hl,hz,h1,h2=>by
  have:lo=hi:=by omega
  subst this;exact⟨aa1 _,aa1 _,h1,h2⟩
 |fuel+1,lo,hi,hf,hl,hz,h1,h2=>by
  unfold SetTable.below.go;by_cases JZ:lo<hi
  ·rw[ab2 JZ];dsimp only;obtain⟨mid,hm⟩:∃mid,(lo+hi) / 2=mid:=⟨_,rfl⟩;rw[hm];have hm1:lo<=mid/\mid<hi:=by omega
   have ZZ:mid<xs.size:=by omega
   have hg:xs.getD mid j=xs[mid]:=by simp[Array.getD,ZZ]
   rw[hg];by_cases hc:xs[mid]<j
   ·rw[ab2 hc];obtain⟨a,b,c,d⟩:=qT hs j fuel (mid+1) hi (by omega) (by omega) hz (fun i h L4=>as7 (hs.le (by omega) ZZ) hc) h2;exact⟨by omega,b,c,d⟩
   ·rw[ab1 hc];obtain⟨a,b,c,d⟩:=qT hs j fuel lo mid (by omega) (by omega) (by omega) h1 (fun i h L4=>ab5 (ap6 hc) (hs.le L4 h));exact⟨a,by omega,c,d⟩
  ·rw[ab1 JZ];have:lo=hi:=by omega
   subst this;exact⟨aa1 _,aa1 _,h1,h2⟩
def rA{xs:Array Nat}(hs:RS xs)(j:Nat):SetTable.below xs j<=xs.size/\(∀i (h:i<xs.size),i<SetTable.below xs j->xs[i]<j)/\(∀i (h:i<xs.size),SetTable.below xs j<=i->j<=xs[i]):=by
 obtain⟨_,b,c,d⟩:=qT hs j xs.size 0 xs.size (by omega) (ae7 _) (aa1 _) (fun i _ h=>absurd h (aw1 _)) (fun i h z=>absurd h (by omega));exact⟨b,c,d⟩
def xE{xs:Array Nat}(hs:RS xs){i:Nat}(hi:i<xs.size):SetTable.below xs (xs[i]+1)=i+1:=by
 obtain⟨a,b,c⟩:=rA hs (xs[i]+1);obtain⟨r,hr⟩:∃r,SetTable.below xs (xs[i]+1)=r:=⟨_,rfl⟩;rw[hr] at a b c ⊢;apply at3;intro ne;by_cases h:r<i+1
 ·have h1:=c i hi (by omega);omega
 ·have h2:=b (i+1) (by omega) (by omega);have h3:=hs i (i+1) (by omega) (by omega);omega
def xI{xs:Array Nat}(hs:RS xs):SetTable.below xs 0=0:=by
 obtain⟨a,b,c⟩:=rA hs 0;apply at3;intro ne;exact absurd (b 0 (by omega) (by omega)) (aw1 _)
def RS.list{l:ax4}(h:l.Pairwise (· < ·)):RS l.toArray:=fun i k hi hk=>by
 have:=aj5.mp h i k (by simp at hk;omega) (by simpa using hk) hi;simpa using this
def RS.pw{xs:Array Nat}(h:RS xs):xs.toList.Pairwise (· < ·):=aj5.mpr fun i k hi hk hik=>by
 have:=h i k hik (by simpa using hk);simpa using this
def RS.RZ{xs:Array Nat}(h:xs.toList.Pairwise (· < ·)):RS xs:=by
 have:=RS.list h;simpa using this
structure TI(led:Bool)(t:SetTable):Prop where
 led:t.led=led
 dm:t.dummies = #[]
 rs:RS t.place
def BQ(led:Bool):TI led (.fresh 0 0 led):=⟨rfl,rfl,fun i k hi hk=>absurd hk (aw1 _)⟩
def nF{led:Bool}{t:SetTable}(h:TI led t)(n:Nat):TI led (t.standIn n):=⟨h.led,rfl,by
 show RS (Array.range n);apply RS.RZ;rw[Array.toList_range];exact ao9⟩
def Gm{led:Bool}{t:SetTable}(h:TI led t)(n:Nat):TI led (t.orStandIn n):=by
 unfold SetTable.orStandIn;split
 ·exact h
 ·exact nF h n
def yZ(j:Nat):SetTable.has #[] j=false:=by
 unfold SetTable.has;simp
theorem vX{t:SetTable}{f:Nat->Int}{h:Int}(hd:t.dummies = #[]):∀(fuel:Nat) (p:SetTable.Probe),p.dummy=none->∀j d,SetTable.probe.go t f h fuel p=some (.empty j d)->t.slot j=.empty/\d=none
 |0,p,_,j,d,e=>by cases e
 |fuel+1,p,hp,j,d,e=>by
  have adv:∀p:SetTable.Probe,p.dummy=none->(t.advance p).dummy=none:=fun p hp=>by
   unfold SetTable.advance;split
   ·exact hp
   ·exact hp
  unfold SetTable.probe.go at e;split at e
  ·rename_i hs;cases e;exact⟨hs,hp⟩
  ·rename_i hs;unfold SetTable.slot at hs;dsimp only at hs;split at hs
   ·cases hs
   ·rw[hd,yZ] at hs;cases hs
  ·split at e
   ·cases e
   ·exact vX hd fuel _ (adv p hp) j d e
def Ed{t:SetTable}(hd:t.dummies = #[]){h:Int}{j:Nat}{b:Bool}(e:t.freeSlot h=some (j,b)):t.slot j=.empty:=by
 unfold SetTable.freeSlot SetTable.probe at e;split at e
 ·rename_i j' d' hp;obtain⟨h1,h2⟩:=vX hd _ _ rfl _ _ hp;subst h2;cases e;exact h1
 ·cases e
def FN{led:Bool}{t:SetTable}(h:TI led t){j:Nat}(hj:t.slot j=.empty):TI led (t.put j).1:=by
 obtain⟨b1,b2,b3⟩:=rA h.rs j;have Mp:t.place[SetTable.below t.place j]?≠some j:=by
  intro z;unfold SetTable.slot at hj;dsimp only at hj;rw[ab2 (by rw[z];simp)] at hj;cases hj
 refine⟨h.led,?_,?_⟩
 ·show(if SetTable.has t.dummies j=true then _ else t.dummies) = #[];rw[h.dm,yZ];rfl
 ·show RS (SetTable.insertAt t.place (SetTable.below t.place j) j);obtain⟨p,hp⟩:∃p,SetTable.below t.place j=p:=⟨_,rfl⟩;rw[hp] at b1 b2 b3 Mp ⊢;apply RS.RZ;rw[SetTable.toList_insertAt];have pw:=h.rs.pw;have e1:∀x,x∈t.place.toList.take p->x<j:=fun x hx=>by
   obtain⟨i,hi,rfl⟩:=ak1.mp hx;rw[ad7] at hi;have:=b2 i (by simp at hi;omega) (by omega);simpa using this
  have e2:∀x,x∈t.place.toList.drop p->j<x:=fun x hx=>by
   obtain⟨i,hi,rfl⟩:=ak1.mp hx;rw[ae8] at hi;have L4:p+i<t.place.size:=by simp at hi;omega
   have h3:=b3 (p+i) L4 (by omega);have h4:t.place[p+i]≠j:=by
    intro z;by_cases hz:i=0
    ·subst hz;exact Mp (by rw[ah5 (by omega)];simpa using z)
    ·have:=h.rs p (p+i) (by omega) L4;have h5:=b3 p (by omega) (aa1 _);omega
   have:(t.place.toList.drop p)[i]=t.place[p+i]:=by simp
   rw[this];omega
  refine List.pairwise_append.mpr ⟨pw.sublist (at4 _ _),ae1.mpr ⟨e2,pw.sublist (List.drop_sublist _ _)⟩,fun x hx y hy=>?_⟩;have h1:=e1 x hx;rcases ac7.mp hy with rfl|hy
  ·exact h1
  ·have:=e2 y hy;omega
def FL{led:Bool}{t:SetTable}(h:TI led t)(es:ax7)(k:Int)(x:Value):TI led (layNew t es k x).2.1:=by
 unfold layNew;split
 ·rename_i e;exact Gm (FN h (Ed h.dm e)) _
 ·exact nF h _
def A5{led:Bool}{t:SetTable}(h:TI led t)(es:ax7)(n:Nat):TI led (relayAll t es n).2.1:=by
 unfold relayAll;split
 ·rename_i t' order e;dsimp only;split
  ·unfold SetTable.relaid SetTable.laid at e;simp only[Option.bind_eq_bind,Option.bind_eq_some_iff,Option.pure_def,al7] at e;obtain⟨owner,_,e⟩:=e;have e1:=am1 Prod.fst e;dsimp only at e1;subst e1;refine⟨h.led,rfl,RS.list ?_⟩;have Po:(((range (SetTable.sizeAbove n-1+1)).filterMap fun j=>(owner.getD j none).map (j,·)).map (·.1)).Sublist (range (SetTable.sizeAbove n-1+1)):=by
    generalize range (SetTable.sizeAbove n-1+1)=l
    induction l with
    |nil=>exact List.Sublist.refl _
    |cons a l ih=>
     rw[ao0];cases owner.getD a none with
     |none=>exact ih.cons _
     |some b=>exact ih.cons_cons _
   exact ao9.sublist Po
  ·exact nF h _
 ·exact nF h _
section
variable{prog:ay1}{w:ay3}{A:ay2}{E:aw4}{s:Shared}
def Lb(prog:ay1)(w:ay3)(h:Heap)(a:Addr)(led:Bool)(ns:ax3):Prop:=
 ∃o es ep t,h.get? a=some o/\o.ExactSet/\o.data=.set es ep t/\ElemsOf (intKind prog w) es.toList/\(es.toList.map fun e=>numOf e.2).Perm ns/\es.size<scanBound/\t.fits es.size=true/\TI led t
def Lb.len{h:Heap}{a:Addr}{led:Bool}{ns:ax3}(S:Lb prog w h a led ns):ns.length<scanBound:=by
 obtain⟨_,es,_,_,_,_,_,_,hp,hb,_⟩:=S;rw[<-hp.length_eq,aa7,af0];exact hb
def Lb.kept{h h':Heap}{a:Addr}{led:Bool}{ns:ax3}(S:Lb prog w h a led ns)(k:∀o,h.get? a=some o->h'.get? a=some o):Lb prog w h' a led ns:=by
 obtain⟨o,es,ep,t,ho,r⟩:=S;exact⟨o,es,ep,t,k o ho,r⟩
def BA{k:Int}{v:Value}(h:(intKind prog w).is k v=true):∃t,v=.int k t:=Value.isInt_shape h
def uf{a:Addr}{o:Obj}{es es':ax7}{ep:Nat}{t t':SetTable}(ho:s.heap.get? a=some o)(hd:o.data=.set es ep t):(s.heap.update a (Obj.putSet es' t')).get? a=some { o with data:=.set es' (ep+1) t' }:=by
 have:=ah1 (Obj.putSet es' t') ho (by rw[putSet_of es' t' hd];rfl);rw[putSet_of es' t' hd] at this;exact this
def Du{a:Addr}{led:Bool}{ns:ax3}{k:Int}{tok:Tok}{Q:ax5}(hS:Lb prog w s.heap a led ns)(hk:k∉ns)(Z0:ns.length+1<scanBound)
  (q:∀h',SameBut a s.heap h'->Lb prog w h' a led (ns++[k])->Q true { s with heap:=h' }):wpAny (model prog w) A (setAddHashed a (.int k tok) ((intKind prog w).hash k)) Q E s:=by
 obtain⟨o,es,ep,t,ho,hex,hd,R3,hp,hb,hf,ti⟩:=hS;have O4:es.size=ns.length:=by rw[<-hp.length_eq,aa7,af0]
 have QS:(intKind prog w).is k (.int k tok)=true:=intKind_is _ _ _ _;have none_:List.findIdx? (fun e=>(intKind prog w).is k e.2) es.toList=none:=by
  rw[List.findIdx?_eq_none_iff];intro e he;cases hc:(intKind prog w).is k e.2 with
  |false=>rfl
  |true=>
   obtain⟨t',ht'⟩:=BA hc;exact absurd (hp.mem_iff.mp (ab6.mpr ⟨e,he,by rw[ht'];rfl⟩)) hk
 unfold setAddHashed setAddHashedIn;refine ai7 (aa0 (al9 ho hd hf ?_));dsimp only;rw[byScan_of rfl hb R3];simp only[↓reduceIte];unfold setAddByScan;refine aa0 (aa0 (as0 (aa0 (wpAny_setScan_of QS ho hd hf R3 ?_))));rw[none_];dsimp only;have way:∀(b:Bool) {s1:Shared}{Q':ax6},Q' () s1->wpAny (model prog w) A (match b with|true=>rule "set.scan.the-table-gave-way"|false=>pure ()) Q' E s1:=
  fun b s1 Q' hq=>by cases b<;>first|exact aa4 hq|exact as0 hq
 have pm:=layNew_perm t es ((intKind prog w).hash k) (.int k tok);have fi:=layNew_fits t es ((intKind prog w).hash k) (.int k tok);have tl:=FL ti es ((intKind prog w).hash k) (.int k tok)
 generalize layNew t es ((intKind prog w).hash k) (.int k tok)=L at pm fi tl ⊢
 obtain⟨LG,t1,wd,gv⟩:=L;dsimp only at pm fi tl ⊢;rw[Array.toList_push] at pm;have Z1:ElemsOf (intKind prog w) LG.toList:=(R3.push QS rfl).perm pm;have sz1:LG.size=ns.length+1:=by rw[<-af0,pm.length_eq,aa8,af0,O4];rfl
 have b1:LG.size<scanBound:=by omega
 have p1:(LG.toList.map fun e=>numOf e.2).Perm (ns++[k]):=by
  have:=pm.map fun e=>numOf e.2
  rw[ae0] at this;exact this.trans (hp.append_right _)
 refine aa0 (way _ ?_);have tail:∀t2:SetTable,t2.fits LG.size=true->TI led t2->wpAny (model prog w) A (do
    storeSet a LG t2
    if (!wd && t2.tooFull)=true then do
      (match (relayAll t2 LG (SetTable.grown LG.size)).2.2 with|true=>rule "set.scan.the-table-gave-way"|false=>pure ())
      storeSet a (relayAll t2 LG (SetTable.grown LG.size)).1 (relayAll t2 LG (SetTable.grown LG.size)).2.1
      pure (some true)
     else pure (some true)) (fun r s'=>r=some true/\Q true s') E s:=fun t2 f2 i2=>by
  refine aa0 (wpAny_storeSet_of ho hd ?_ (fits_of_scanBound b1));have o1:=uf (es':=LG) (t':=t2) ho hd;have Z2:=an1 s.heap a (Obj.putSet LG t2);have S1:Lb prog w (s.heap.update a (Obj.putSet LG t2)) a led (ns++[k]):=⟨_,LG,ep+1,t2,o1,hex,rfl,Z1,p1,b1,f2,i2⟩;split
  ·have rp:=relayAll_perm t2 LG (SetTable.grown LG.size);have rf:=relayAll_fits t2 LG (SetTable.grown LG.size);have ri:=A5 i2 LG (SetTable.grown LG.size)
   generalize relayAll t2 LG (SetTable.grown LG.size)=R at rp rf ri ⊢
   obtain⟨Xl,t3,gv2⟩:=R;dsimp only at rp rf ri ⊢;have sz2:Xl.size=LG.size:=by rw[<-af0,rp.length_eq,af0]
   refine aa0 (way _ (aa0 (wpAny_storeSet_of o1 rfl ?_ (fits_of_scanBound (by omega)))));have o2:=uf (s:={ s with heap:=s.heap.update a (Obj.putSet LG t2) }) (es':=Xl) (t':=t3) o1 rfl;exact aa4 ⟨rfl,q _ (Z2.trans (an1 _ a _)) ⟨_,Xl,ep+1+1,t3,o2,hex,rfl,Z1.perm rp,(rp.map fun e=>numOf e.2).trans p1,by omega,rf,ri⟩⟩
  ·exact aa4 ⟨rfl,q _ Z2 S1⟩
 have out:∀(r:Option Bool) (s':Shared),(r=some true/\Q true s')->wpAny (model prog w) A (match r with|some added=>pure added|none=>setAddHashedIn a (.int k tok) ((intKind prog w).hash k) 99999) Q E s':=fun r s' z=>by
  obtain⟨rfl,z⟩:=z;exact aa4 z
 split
 ·refine aa0 ?_;rw[hashByValue_scannable 8 rfl];refine aa4 ?_;refine ad6 (tail _ ?_ ?_) (fun r s' z=>out r s' z) (fun _ _ z=>z)
  ·exact fi
  ·exact tl
 ·refine aa0 (aa4 ?_);refine ad6 (tail _ ?_ ?_) (fun r s' z=>out r s' z) (fun _ _ z=>z)
  ·exact fi
  ·exact tl
def Cc{R:Result->Shared->Prop}{I:Addr}{fp wr:aw6}{G:Array GenState->Array GenState->Prop}{P:Nat->Value->Prop}{St:Nat->Shared->Prop}{led:Bool}{ns:ax3}
  (W:WalksS prog w A.in1 I fp wr G ns.length P St) (S:Addr) (VZ:S∉fp) (SV:∀i v,P i v->∃t,v=.int (ns.getD i 0) t) (hb:ns.length+1<scanBound) (nd:ns.Nodup) :
  ∀(k i:Nat) (s:Shared),ns.length-i=k->i<=ns.length->St i s->Lb prog w s.heap S led (ns.take i)->
   (∀s',Moved (S :: wr) G s s'->Lb prog w s'.heap S led ns->R (.ok (.ret .none)) s')->codeAny (model prog w) A (.builtin "set.update.loop" ⟨[.ref S,.ref I],[]⟩) R s:=by
 have sw:S∉wr:=fun h=>VZ (W.sub _ h)
 have sub:∀b∈wr,b∈S :: wr:=fun b hb=>aa9 _ hb
 intro k
 induction k with
 |zero=>
  intro i s hk hi Jl hS hR;have e:i=ns.length:=by omega
  subst e;rw[ah4 (aa1 _)] at hS;refine aj8 F.entry_set_update_loop ?_;rw[ak2 an9 _];refine aa0 (m:=pyNext (.ref I)) (W.done s _ _ Jl fun s' hm=>?_);exact aa4 (hR s' (hm.mono sub) (hS.kept fun o=>hm.heap S o sw))
 |succ k ih=>
  intro i s hk hi Jl hS hR;have lt:i<ns.length:=by omega
  refine aj8 F.entry_set_update_loop ?_;rw[ak2 an9 _];refine aa0 (m:=pyNext (.ref I)) (W.item i s _ _ lt Jl fun v s' hP Xm hm=>?_);obtain⟨t,rfl⟩:=SV i v hP;have R4:Lb prog w s'.heap S led (ns.take i):=hS.kept fun o=>hm.heap S o sw
  refine aa0 (m:=holding _ (setAdd S (.int (ns.getD i 0) t))) (ai7 ?_);unfold setAdd;refine ai7 (aa0 ((intKind prog w).pyHash (k:=ns.getD i 0) (intKind_is _ _ _ _) ?_));have hg:ns.getD i 0=ns[i]:=by simp[getD,lt]
  have SW:ns.getD i 0∉ns.take i:=by
   rw[hg];intro z;obtain⟨j,hj,e⟩:=ak1.mp z;rw[ad7] at hj;rw[List.getElem_take] at e;exact aj5.mp nd j i (by omega) lt (by omega) e
  refine Du (s:={ s' with toks:=s'.toks+1 }) R4 SW (by rw[ad7];omega) fun h' sb S2=>?_
  have S3:Lb prog w h' S led (ns.take (i+1)):=by
   rw[al2,ab9 lt,<-hg];exact S2
  refine aa4 ⟨at9 an9 _,ih (i+1) _ (by omega) lt (W.frame _ s' _ _ Xm (ad9 _) fun b hb o e=>?_) S3 fun PV Xn S''=>?_⟩
  ·rw[sb.2 b (fun h:b=S=>VZ (by rw[<-h];exact hb))];exact e
  ·refine hR PV (Moved.trans W.gtrans ((hm.mono sub).then_heap (ad9 _) fun b o hb e=>?_) Xn) S'';rw[sb.2 b (fun h:b=S=>hb (by rw[h];exact ag5))];exact e
def Np(w:ay3):Bool:=w.params.followText "set-order"
abbrev qh(w:ay3):Obj:={ cls:=.type "set",dict:=none,data:=.set #[] 0 (.fresh 0 0 (!Np w)) }
def DQ(x:Value){Q1:aw4}(h:Q1 (.ref s.heap.objs.size) { s with heap:=s.heap.push (qh w) }) :
  codeAny (model prog w) A (.call (.builtin "set.__new__") ⟨[.type "set",x],[]⟩) (wants Q1 E) s:=by
 refine av1 ?_;show wpAny _ A.in1 (do checkBuiltinCall "set.__new__" ⟨[.type "set",x],[]⟩;again (.builtin "set.__new__" ⟨[.type "set",x],[]⟩)) _ _ s;refine aa0 (at6 (F.newCall_set_1 x) (aa4 ⟨at9 F.plain_set_new _,aj8 F.entry_set_new ?_⟩));rw[ak2 F.plain_set_new _];unfold Builtin.«set.__new__» Builtin.Frozenset.newClass;have Po:=sub_set_self;obtain⟨hp,g,d,tk,os⟩:=s;dsimp only
 wp_walk
 refine au3 (aa4 ?_);dsimp only;simp only[newObj];exact aa0 (wpAny_alloc (aa4 (aa4 h)))
set_option maxHeartbeats 3200000 in
def Ct{l:Addr}{items:ax2}{ns:ax3}{Q:aw4}(hh:A.handled=none)(hl:s.heap.IsList l items)(hi:IntsAre items.toList ns)(nd:ns.Nodup)(hb:ns.length+1<scanBound)
  (q:∀(h':Heap) (tk:Nat),Lb prog w h' s.heap.objs.size (!Np w) ns->(∀b o,b<s.heap.objs.size->s.heap.get? b=some o->h'.get? b=some o)->Q (.ref s.heap.objs.size) { s with heap:=h',toks:=tk }) :
  wpAny (model prog w) A (call (.type "set") [.ref l]) Q E s:=by
 have O4:items.size=ns.length:=by have:=am1 length hi.nums;simpa using this
 obtain⟨c,tl,Xe⟩:=al3.mro;have UW:=al3.made;have Po:=al3.sub;refine wpAny_call (av1 ?_);show wpAny _ _ (callAny (.type "set") _) _ _ _;refine aa4 ⟨Code.quiet_builtin _ (by decide),aj8 F.entry_type_call ?_⟩;rw[Around.under_plain (weight_type_call_type "set" [.ref l] []) rfl];have h1:=al3.notType;have h2:=al3.canCreate;have UX:=F.typeCall_set_1 (.ref l)
 repeat (any_goals (first|assumption|wp_step))
 refine al1 (DQ (.ref l) (E:=E) (Q1:=fun obj s1=>obj=.ref s.heap.objs.size/\s1 = { s with heap:=s.heap.push (qh w) }) ⟨rfl,rfl⟩) fun r s1 hr=>?_
 cases r with
 |error e=>exact hr
 |ok fl=>
  cases fl with
  |ret obj=>
   obtain⟨rfl,rfl⟩:=hr;have hS:(s.heap.push (qh w)).get? s.heap.objs.size=some (qh w):=ac0 _ rfl;have hT:Shared.TypeIs { s with heap:=s.heap.push (qh w) } (.ref s.heap.objs.size) "set":=⟨_,hS,rfl⟩;have hli:=al3.init.lookup;have hbi:=al3.init.bind (.ref s.heap.objs.size)
   repeat (any_goals (first|assumption|wp_step))
   refine al1 (aq4 (R:=wants (fun r s2=>r=.none/\∃h' tk,s2 = { s with heap:=h',toks:=tk }/\Lb prog w h' s.heap.objs.size (!Np w) ns/\
     (∀b o,b<s.heap.objs.size->s.heap.get? b=some o->h'.get? b=some o)) E) al3.init.plain F.entry_set_init (check_set_init_1 hT ?_)) fun r2 s2 Xo=>?_
   ·obtain⟨ol,V0,Ox,nl,V1⟩:=hl;obtain⟨ocls,U3,Z3,SX⟩:=ol;simp only at Ox V1;subst Ox;subst V1;have Xp:(s.heap.push (qh w)).get? l=some { cls:=.type "list",dict:=U3,data:=.seq items nl,slots:=SX }:=aa6 _ V0;have hsls:=F.sub_list_set;have hslf:=F.sub_list_frozenset;have Mp:(type "list" == type "dict")=false:=by decide
    have Xq:(s.heap.push (qh w)).IsList l items:=⟨_,Xp,rfl,nl,rfl⟩;unfold Builtin.«set.__init__» noKeywords Builtin.Frozenset.updateFrom
    generalize hPI:pyIter=PI
    wp_walk
    subst hPI;refine ao5 Xq ?_;refine aa0 (wpAny_runValue ?_);have lS:l<s.heap.objs.size:=ac6 V0;have RX:A.in1.in1.in1.handled=none:=by simp[hh]
    have zI:(s.heap.push (qh w)).objs.size=s.heap.objs.size+1:=aj6 ..;have nI:l≠(s.heap.push (qh w)).objs.size:=by rw[zI];exact ad0 (ae3 lS)
    have VZ:s.heap.objs.size∉[(s.heap.push (qh w)).objs.size,l]:=by
     rw[zI];intro z;rcases ac7.mp z with z|z
     ·exact ad0 (ag2 _) z
     ·exact ar1 lS (ab3.mp z)
    have SV:∀(i:Nat) (v:Value),items[i]?=some v->∃t,v=.int (ns.getD i 0) t:=fun i v hv=>IntsAre.int_at hi i v (by rw[aq8];exact hv)
    have WL:=(Walks.list (prog:=prog) (w:=w) RX _ l nI items).toS;rw[O4] at WL;refine Cc (led:=!Np w) WL s.heap.objs.size VZ SV hb nd (ns.length-0) 0 _ (by omega) (ae7 _) ⟨⟨_,ac0 _ rfl,rfl,rfl⟩,(Xq.push _)⟩ ?_ ?_
    ·refine⟨qh w,#[],0,_,aa6 _ hS,⟨rfl,rfl,rfl⟩,rfl,fun e he=>by simp at he,by simp,by unfold scanBound;simp,by rfl,BQ _⟩
    ·intro s' hm R4;obtain⟨h',g',d',U4,Uu⟩:=s';have eg:g'=s.gens:=hm.gens;have ed:d'=s.drawn:=hm.drawn;have eo:Uu=s.os:=hm.os;subst eg;subst ed;subst eo;refine aa4 (aa4 ⟨rfl,h',U4,rfl,R4,fun b o hb e=>?_⟩);refine hm.heap b o (fun z=>?_) (aa6 _ (aa6 _ e));rcases ac7.mp z with z|z
     ·exact ad0 hb z
     ·exact ad0 (ae3 hb) ((ab3.mp z).trans zI)
   ·cases r2 with
    |error e=>exact Xo
    |ok fl2=>
     cases fl2 with
     |ret r=>
      obtain⟨rfl,h',tk,rfl,R4,hk'⟩:=Xo
      repeat (any_goals (first|assumption|wp_step))
      exact q _ _ R4 hk'
     |_=>exact Xo.elim
  |_=>exact hr.elim
end
theorem zi{α:Type}(f:Nat->Nat):∀(fuel k:Nat) (left:List α) (out:Array α),left.length<=fuel->(pickOrder.go f fuel k left out).toList.Perm (out.toList++left)
 |0,k,left,out,h=>by
  have:left=[]:=aq5 (by omega);subst this;unfold pickOrder.go;simp
 |fuel+1,k,left,out,h=>by
  unfold pickOrder.go;cases left with
  |nil=>
   simp
  |cons a l=>
   obtain⟨i,hi⟩:∃i,f k % (a :: l).length=i:=⟨_,rfl⟩;have JZ:i<(a :: l).length:=by rw[<-hi];exact mod_lt _ (by simp)
   rw[hi,ab9 JZ];dsimp only;have ih:=zi f fuel (k+1) ((a :: l).eraseIdx i) (out.push (a :: l)[i]) (by rw[List.length_eraseIdx,ab2 JZ];omega);refine ih.trans ?_;rw[Array.toList_push,ae2];refine List.Perm.append_left _ ?_;have e:(a :: l)=(a :: l).take i++(a :: l)[i] :: (a :: l).drop (i+1):=by
    rw[<-aj4 JZ,ag3]
   have e2:(a :: l).eraseIdx i=(a :: l).take i++(a :: l).drop (i+1):=ap3 _ _;rw[e2];have:=(List.perm_middle (l₁:=(a :: l).take i) (l₂:=(a :: l).drop (i+1)) (a:=(a :: l)[i])).symm;rw[<-e] at this;exact this
def Av{α:Type}(f:Nat->Nat)(xs:Array α):(pickOrder f xs).toList.Perm xs.toList:=by
 have:=zi f xs.size 0 xs.toList #[] (by simp);show(pickOrder.go f xs.size 0 xs.toList #[]).toList.Perm xs.toList;simpa using this
section
variable{prog:ay1}{w:ay3}{A:ay2}{E:aw4}{s:Shared}
def Ar{src:Source}{n:Nat}{Q:Nat->Shared->Prop}(hn:n≠0)(h:∀i,i<n->∀d,Q i { s with drawn:=d }):wpAny (model prog w) A (choose src n) Q E s:=
 fun _ _ _=>⟨hn,h _ (mod_lt _ (by omega)) _⟩
def DP{α:Type}:∀(n:Nat) (xs:List α) (s:Shared) {Q:List α->Shared->Prop},n=xs.length->(∀ys d,ys.Perm xs->Q ys { s with drawn:=d })->wpAny (model prog w) A (drawOrder n xs) Q E s:=by
 intro n
 induction n with
 |zero=>
  intro xs s Q h q;cases xs with
  |nil=>exact aa4 (by have:=q [] s.drawn (List.Perm.refl _);cases s;exact this)
  |cons x l=>cases h
 |succ n ih=>
  intro xs s Q h q;cases xs with
  |nil=>cases h
  |cons x l=>
   unfold drawOrder;refine aa0 (Ar (by simp) fun i hi d=>?_);rw[ab9 hi];dsimp only;refine aa0 (ih ((x :: l).eraseIdx i) _ (by rw[List.length_eraseIdx,ab2 hi];omega) fun ys d' hp=>aa4 ?_);refine q _ d' ?_;have e:(x :: l)=(x :: l).take i++(x :: l)[i] :: (x :: l).drop (i+1):=by
    rw[<-aj4 hi,ag3]
   rw[ap3] at hp;have:=(List.perm_middle (l₁:=(x :: l).take i) (l₂:=(x :: l).drop (i+1)) (a:=(x :: l)[i])).symm;rw[<-e] at this;exact(hp.cons _).trans this
def My(h:Heap)(it:Addr)(fst:Value)(i:Nat)(a:Addr)(n ep:Nat):Prop:=h.get? it=some { cls:=.type "set_iterator",dict:=none,data:=.fields #[fst,.int i 0,.ref a,.int n 0,.int ep 0],slots:=#[] }
def Jf:Slot "set_iterator" "__next__" "set_iterator.__next__":=
 .of (owner:="set_iterator") (n:="__next__") (by rw[typeLookup_type,builtinLookup_eq_fast];kernel_rfl) (by decide) (by decide) (by decide)
  (by first|exact .inl (by decide)|exact .inr (by decide)) (by rw[isSubtype_type];kernel_rfl)
def nv:entryFor table "set_iterator.__next__"=some Builtin.«set_iterator.__next__»:=entryFor_of_fast (by kernel_rfl)
def pT(a:Value):argsOk "set_iterator.__next__" ⟨[a],[]⟩:=by unfold argsOk;kernel_rfl
def pE:entryFor table "set.__iter__"=some Builtin.«frozenset.__iter__»:=entryFor_alias (id':="frozenset.__iter__") (by kernel_rfl) rfl (by decide) (by kernel_rfl)
def LV(w:ay3)(a:Addr)(ep:Nat)(es:ax7):List Value:=if Np w=true then (pickOrder (w.params.setOrder a ep) es).toList.map (·.2) else es.toList.map (·.2)
def xr(w:ay3)(t:SetTable)(i slot:Nat):Prop:=Np w=true\/SetTable.below t.place slot=i
def zj(w:ay3)(a:Addr)(ep:Nat)(es:ax7):(LV w a ep es).Perm (es.toList.map (·.2)):=by
 unfold LV;split
 ·exact(Av _ _).map _
 ·exact List.Perm.refl _
def yq{Q:ax5}(h:Q (Np w) s):wpAny (model prog w) A setsByText Q E s:=by
 unfold setsByText;exact aa0 (au3 (aa4 h))
def vL{a:Addr}{o:Obj}{es:ax7}{ep slot i:Nat}{t:SetTable}{Q:Option (Value×Nat)->Shared->Prop}(ho:s.heap.get? a=some o)(hd:o.data=.set es ep t)(hf:t.fits es.size=true)(ti:TI (!Np w) t)
  (pl:Np w=true\/t.plain=true\/es.size<=1) (sl:xr w t i slot) (q1:∀v N2,(LV w a ep es)[i]?=some v->xr w t (i+1) N2->Q (some (v,N2)) s) (q2:(LV w a ep es)[i]?=none->Q none s):wpAny (model prog w) A (setNext a slot i ep) Q E s:=by
 unfold setNext;refine aa0 (al9 ho hd hf ?_);dsimp only;refine aa0 (yq ?_);cases hb:Np w with
 |true=>
  rw[ab2 rfl,ab1 (by simp)];unfold setWalk;refine aa0 (aa0 (al9 ho hd hf ?_));dsimp only;refine aa0 (yq ?_);rw[hb,ab2 rfl];refine aa0 (au3 (aa4 (aa4 ?_)));have e:LV w a ep es=(pickOrder (w.params.setOrder a ep) es).toList.map (·.2):=by unfold LV;rw[ab2 hb]
  rw[e,ac8,aq8] at q1 q2;show Q (((pickOrder (w.params.setOrder a ep) es)[i]?).map fun e=>(e.2,slot)) s;cases hx:(pickOrder (w.params.setOrder a ep) es)[i]? with
  |none=>rw[hx] at q2;exact q2 rfl
  |some x=>rw[hx] at q1;exact q1 x.2 slot rfl (.inl hb)
 |false=>
  rw[ab1 (by simp)];have O3:SetTable.below t.place slot=i:=by
   rcases sl with z|z
   ·rw[hb] at z;cases z
   ·exact z
  have M8:(!t.plain && decide (es.size > 1))=false:=by
   rcases pl with z|z|z
   ·rw[hb] at z;cases z
   ·rw[z];rfl
   ·rw[aa5 (by omega)];simp
  have Xr:t.led=true:=by rw[ti.led,hb];rfl
  show wpAny _ _ (if (!t.plain && decide (es.size > 1))=true then unsupported "set_iterator.__next__:the-table-is-plain-no-more" else _) _ _ _;rw[M8,ab1 (by simp)];show wpAny _ _ ((if (!t.led && !es.isEmpty)=true then unsupported "set:maker-not-led" else pure ()) >>= _) _ _ _;rw[Xr];refine aa0 (aa4 ?_);have e:LV w a ep es=es.toList.map (·.2):=by unfold LV;rw[ab1 (by rw[hb];simp)]
  rw[e,ac8,aq8] at q1 q2;have hsz:t.place.size=es.size:=by
   simp only[SetTable.fits,ai8,ah7,ao8] at hf;exact hf.1
  rw[O3];by_cases hi:i<es.size
  ·rw[ah5 hi,ah5 (show i<t.place.size by omega)];rw[ah5 hi] at q1;exact aa4 (q1 _ _ rfl (.inr (xE ti.rs (by omega))))
  ·rw[Array.getElem?_eq_none (by omega)];rw[Array.getElem?_eq_none (by omega)] at q2;exact aa4 (q2 rfl)
def LH(w:ay3)(h:Heap)(a:Addr)(es:ax7)(ep:Nat)(t:SetTable):Prop:=(∃o,h.get? a=some o/\o.ExactSet/\o.data=.set es ep t)/\t.fits es.size=true/\TI (!Np w) t
def U5(w:ay3)(it a:Addr)(es:ax7)(ep:Nat)(t:SetTable)(i:Nat)(s:Shared):Prop:=(∃slot,My s.heap it (.int (slot:Nat) 0) i a es.size ep/\xr w t i slot)/\LH w s.heap a es ep t
def U6(w:ay3)(it a tp:Addr)(ps:ax4)(es:ax7)(ep:Nat)(t:SetTable)(i:Nat)(s:Shared):Prop:=My s.heap it (.ref tp) i a es.size ep/\IsTup s.heap tp (ps.map fun(p:Nat)=>Value.int p 0).toArray/\LH w s.heap a es ep t
def jm{h:Heap}{it a:Addr}{fst:Value}{i n ep:Nat}(x:My h it fst i a n ep){s:Shared}(e:s.heap=h):s.TypeIs (.ref it) "set_iterator":=by
 subst e;exact⟨_,x,rfl⟩
def LH.kept{h h':Heap}{a:Addr}{es:ax7}{ep:Nat}{t:SetTable}(S:LH w h a es ep t)(k:∀o,h.get? a=some o->h'.get? a=some o):LH w h' a es ep t:=by
 obtain⟨⟨o,ho,r⟩,x⟩:=S;exact⟨⟨o,k o ho,r⟩,x⟩
def uL(w:ay3)(a:Addr)(ep:Nat)(es:ax7):(LV w a ep es).length=es.size:=by
 have:=(zj w a ep es).length_eq;simpa using this
def pi{a:Addr}{o:Obj}{xs:ax2}{n:Nat}{Q:Option (Array Value)->Shared->Prop}(ho:s.heap.get? a=some o)(hd:o.data=.seq xs n)(h:Q (some xs) s):wpAny (model prog w) A (seqItems? (.ref a)) Q E s:=by
 unfold seqItems?;refine aa0 (wpAny_load ho ?_);rw[hd];exact aa4 h
def FZ{it a:Addr}{es:ax7}{ep i:Nat}{t:SetTable}{Q:Option Value->Shared->Prop}(st:U5 w it a es ep t i s)(ne:a≠it)(pl:Np w=true\/t.plain=true\/es.size<=1)(hi:i<es.size)
  (q:∀v h',(LV w a ep es)[i]?=some v->U5 w it a es ep t (i+1) { s with heap:=h' }->SameBut it s.heap h'->Q (some v) { s with heap:=h' }):wpAny (model prog w) A (pyNext (.ref it)) Q E s:=by
 obtain⟨⟨slot,hit,sl⟩,sa⟩:=id st;obtain⟨⟨o,ho,hex,hd⟩,hf,ti⟩:=id sa;have hT:=jm hit (s:=s) rfl;unfold pyNext;refine aa0 (an2 (ad4 (name:=Str.ofString "__next__") hT Jf (ae6 Jf hT nv ?_ (pT _))));unfold Builtin.«set_iterator.__next__»;refine aa0 (aa4 ?_);refine aa0 (as8 hit rfl ?_);dsimp only;refine aa0 (ak5 ho hd hf ?_);rw[ab1 (by simp)];simp only[af4];refine aa0 (vL (slot:=slot) (i:=i) ho hd hf ti pl sl (fun v N2 hv Tv=>?_) (fun z=>?_))
 ·dsimp only;refine aa0 (aj2 hit (by simp) fun h1 g1 b1=>?_);refine aa0 (aj2 (s:={ s with heap:=h1 }) g1 (by simp) fun h2 g2 b2=>?_);have bb:=b1.trans b2;refine aa4 ⟨_,rfl,aa4 (q v h2 hv ⟨⟨N2,?_,Tv⟩,sa.kept fun o e=>by rw[bb.2 a ne];exact e⟩ bb)⟩;simpa[My,rawInt] using g2
 ·have:=uL w a ep es;rw[am9] at z;omega
def GB{it a:Addr}{es:ax7}{ep:Nat}{t:SetTable}{Q:Option Value->Shared->Prop}(hh:A.handled=none)(st:U5 w it a es ep t es.size s)(pl:Np w=true\/t.plain=true\/es.size<=1)
  (q:∀h',ExtBut it s.heap h'->Q none { s with heap:=h' }):wpAny (model prog w) A (pyNext (.ref it)) Q E s:=by
 obtain⟨⟨slot,hit,sl⟩,sa⟩:=id st;obtain⟨⟨o,ho,hex,hd⟩,hf,ti⟩:=id sa;have hT:=jm hit (s:=s) rfl;unfold pyNext;refine aa0 (an2 (ad4 (name:=Str.ofString "__next__") hT Jf (ae6 Jf hT nv ?_ (pT _))));unfold Builtin.«set_iterator.__next__»;refine aa0 (aa4 ?_);refine aa0 (as8 hit rfl ?_);dsimp only;refine aa0 (ak5 ho hd hf ?_);rw[ab1 (by simp)];have ll:=uL w a ep es;simp only[af4];refine aa0 (vL (slot:=slot) (i:=es.size) ho hd hf ti pl sl (fun v N2 hv Tv=>?_) (fun z=>?_))
 ·have:=(aa2.mp hv).1;omega
 ·dsimp only;refine aa0 (aj2 hit (by simp) fun h1 g1 b1=>?_);refine aa0 ?_;simp only[newExc,newTuple];refine aa0 (ad1 ?_ (by size_fits));refine aa0 (m:=firstArgMember _ _) (at6 (a:=Value.none) (by first|rfl|(simp only[firstArgMember];rfl)) ?_);refine ad1 ?_ (by size_fits);simp only[raiseNew];refine aa0 (wpAny_handled ?_);rw[show A.in1.handled=none from hh];refine aa0 (aa4 (wpAny_throw ?_));refine aa0 (am8 (T:="StopIteration") (b:=true) ⟨_,ac0 _ rfl,rfl⟩ as2 ?_);exact aa4 (q _ ((b1.extBut.push _).push _))
def p6{h h':Heap}{a:Addr}{xs:ax2}(x:IsTup h a xs)(k:∀o,h.get? a=some o->h'.get? a=some o):IsTup h' a xs:=by
 obtain⟨o,ho,r⟩:=x;exact⟨o,k o ho,r⟩
def GH{it a tp:Addr}{ps:ax4}{es:ax7}{ep i:Nat}{t:SetTable}{Q:Option Value->Shared->Prop}(st:U6 w it a tp ps es ep t i s)(ne:a≠it)(nt:tp≠it)(hi:i<ps.length)(hp:∀p∈ps,p<es.size)
  (q:∀v h',((ps.map fun p=>(es.toList.map (·.2)).getD p .none))[i]?=some v->U6 w it a tp ps es ep t (i+1) { s with heap:=h' }->SameBut it s.heap h'->Q (some v) { s with heap:=h' }):wpAny (model prog w) A (pyNext (.ref it)) Q E s:=by
 obtain⟨hit,SY,sa⟩:=id st;obtain⟨⟨o,ho,hex,hd⟩,hf,ti⟩:=id sa;have hT:=jm hit (s:=s) rfl;have Z4:ps[i]<es.size:=hp _ (aw0 _);unfold pyNext;refine aa0 (an2 (ad4 (name:=Str.ofString "__next__") hT Jf (ae6 Jf hT nv ?_ (pT _))));unfold Builtin.«set_iterator.__next__»;refine aa0 (aa4 ?_);refine aa0 (as8 hit rfl ?_);dsimp only;refine aa0 (ak5 ho hd hf ?_);rw[ab1 (by simp)];obtain⟨ot,SH,UX,nt0,SI⟩:=id SY;refine aa0 (pi SH SI ?_);dsimp only;have g1:(ps.map fun(p:Nat)=>Value.int p 0).toArray[((i:Nat):Int).toNat]?=some (Value.int (ps[i]:Nat) 0):=by simp[hi]
 rw[g1];dsimp only;unfold setNextDrawn;refine aa0 (aa0 (al9 ho hd hf ?_));dsimp only;rw[ab1 (by simp)];have g2:es[((ps[i]:Nat):Int).toNat]?=some es[ps[i]]:=by simp[Z4]
 rw[g2];dsimp only;refine aa4 ?_;refine aa0 (aj2 hit (by simp) fun h1 g1 b1=>?_);refine aa4 ⟨_,rfl,aa4 (q _ h1 ?_ ⟨?_,p6 SY fun o e=>by rw[b1.2 tp nt];exact e,sa.kept fun o e=>by rw[b1.2 a ne];exact e⟩ b1)⟩
 ·simp[hi,getD,Z4]
 ·simpa[My,rawInt] using g1
def Gn{it a tp:Addr}{ps:ax4}{es:ax7}{ep:Nat}{t:SetTable}{Q:Option Value->Shared->Prop}(hh:A.handled=none)(st:U6 w it a tp ps es ep t ps.length s)
  (q:∀h',ExtBut it s.heap h'->Q none { s with heap:=h' }):wpAny (model prog w) A (pyNext (.ref it)) Q E s:=by
 obtain⟨hit,SY,sa⟩:=id st;obtain⟨⟨o,ho,hex,hd⟩,hf,ti⟩:=id sa;have hT:=jm hit (s:=s) rfl;unfold pyNext;refine aa0 (an2 (ad4 (name:=Str.ofString "__next__") hT Jf (ae6 Jf hT nv ?_ (pT _))));unfold Builtin.«set_iterator.__next__»;refine aa0 (aa4 ?_);refine aa0 (as8 hit rfl ?_);dsimp only;refine aa0 (ak5 ho hd hf ?_);rw[ab1 (by simp)];obtain⟨ot,SH,UX,nt0,SI⟩:=id SY;refine aa0 (pi SH SI ?_);dsimp only;have g1:(ps.map fun(p:Nat)=>Value.int p 0).toArray[((ps.length:Nat):Int).toNat]?=none:=by simp
 rw[g1];dsimp only;refine aa0 (aj2 hit (by simp) fun h0 g0 b0=>?_);refine aa0 (aj2 (s:={ s with heap:=h0 }) g0 (by simp) fun h1 g1 b1=>?_);refine aa0 ?_;simp only[newExc,newTuple];refine aa0 (ad1 ?_ (by size_fits));refine aa0 (m:=firstArgMember _ _) (at6 (a:=Value.none) (by first|rfl|(simp only[firstArgMember];rfl)) ?_);refine ad1 ?_ (by size_fits);simp only[raiseNew];refine aa0 (wpAny_handled ?_);rw[show A.in1.handled=none from hh];refine aa0 (aa4 (wpAny_throw ?_));refine aa0 (am8 (T:="StopIteration") (b:=true) ⟨_,ac0 _ rfl,rfl⟩ as2 ?_);exact aa4 (q _ (((b0.trans b1).extBut.push _).push _))
def wu:Slot "set_iterator" "__iter__" "set_iterator.__iter__":=
 .of (owner:="set_iterator") (n:="__iter__") (by rw[typeLookup_type,builtinLookup_eq_fast];kernel_rfl) (by decide) (by decide) (by decide)
  (by first|exact .inl (by decide)|exact .inr (by decide)) (by rw[isSubtype_type];kernel_rfl)
def Ac:entryFor table "set_iterator.__iter__"=some Builtin.«dict_keyiterator.__iter__»:=entryFor_alias (id':="dict_keyiterator.__iter__") (by kernel_rfl) rfl (by decide) (by kernel_rfl)
def BI(a:Value):argsOk "set_iterator.__iter__" ⟨[a],[]⟩:=by unfold argsOk;kernel_rfl
def zy{it:Addr}{Q:aw4}(hT:s.TypeIs (.ref it) "set_iterator")(h:Q (.ref it) s):wpAny (model prog w) A (pyIter (.ref it)) Q E s:=by
 refine wpAny_pyIter_slot hT wu (ae6 wu hT Ac ?_ (BI _));show wpAny _ _ (ret (.ref it)) _ _ s;exact aa4 ⟨_,rfl,"set_iterator",_,hT,Jf.lookup,h⟩
def My.kept{h h':Heap}{it a:Addr}{fst:Value}{i n ep:Nat}(x:My h it fst i a n ep)(k:∀o,h.get? it=some o->h'.get? it=some o):My h' it fst i a n ep:=k _ x
def FW{it a:Addr}{es:ax7}{ep:Nat}{t:SetTable}(hh:A.handled=none)(ne:a≠it)(pl:Np w=true\/t.plain=true\/es.size<=1) :
  WalksS prog w A it [it,a] [it] (fun x y=>y=x) (LV w a ep es).length (fun i v=>(LV w a ep es)[i]?=some v) (U5 w it a es ep t) where
 sub:=fun b hb=>by rw[ab3.mp hb];simp
 grefl:=fun _=>rfl
 gtrans:=fun _ _ _ h1 h2=>h2.trans h1
 frame:=fun i s h' tk st _ hk=>by
  obtain⟨⟨slot,hit,sl⟩,sa⟩:=st;exact⟨⟨slot,hit.kept fun o e=>hk it (by simp) o e,sl⟩,sa.kept fun o e=>hk a (by simp) o e⟩
 item:=fun i s Q E hi st hQ=>by
  rw[uL] at hi;refine FZ st ne pl hi fun v h' hv PC sb=>hQ v _ hv PC ⟨fun b o hb e=>?_,rfl,rfl,rfl,aa1 _⟩
  rw[sb.2 b (fun z=>hb (by rw[z];simp))];exact e
 done:=fun s Q E st hQ=>by
  rw[uL] at st;exact GB hh st pl fun h' hx=>hQ _ ⟨fun b o hb e=>hx b o (fun z=>hb (by rw[z];simp)) e,rfl,rfl,rfl,aa1 _⟩
 self:=fun i s Q E st h=>by
  obtain⟨⟨slot,hit,sl⟩,sa⟩:=st;exact zy (jm hit rfl) h
def Gp{it a tp:Addr}{ps:ax4}{es:ax7}{ep:Nat}{t:SetTable}(hh:A.handled=none)(ne:a≠it)(nt:tp≠it)(hp:∀p∈ps,p<es.size)(L:aw7)(hL:L=ps.map fun p=>(es.toList.map (·.2)).getD p .none) :
  WalksS prog w A it [it,a,tp] [it] (fun x y=>y=x) L.length (fun i v=>L[i]?=some v) (U6 w it a tp ps es ep t) where
 sub:=fun b hb=>by rw[ab3.mp hb];simp
 grefl:=fun _=>rfl
 gtrans:=fun _ _ _ h1 h2=>h2.trans h1
 frame:=fun i s h' tk st _ hk=>by
  obtain⟨hit,SY,sa⟩:=st;exact⟨hit.kept fun o e=>hk it (by simp) o e,p6 SY fun o e=>hk tp (by simp) o e,sa.kept fun o e=>hk a (by simp) o e⟩
 item:=fun i s Q E hi st hQ=>by
  subst hL;rw[aa7] at hi;refine GH st ne nt hi hp fun v h' hv PC sb=>hQ v _ hv PC ⟨fun b o hb e=>?_,rfl,rfl,rfl,aa1 _⟩
  rw[sb.2 b (fun z=>hb (by rw[z];simp))];exact e
 done:=fun s Q E st hQ=>by
  subst hL;rw[aa7] at st;exact Gn hh st fun h' hx=>hQ _ ⟨fun b o hb e=>hx b o (fun z=>hb (by rw[z];simp)) e,rfl,rfl,rfl,aa1 _⟩
 self:=fun i s Q E st h=>by
  obtain⟨hit,SY,sa⟩:=st;exact zy (jm hit rfl) h
structure S_(prog:ay1)(w:ay3)(s s':Shared)(a it:Addr)(L:aw7):Prop where
 new:s.heap.objs.size<=it
 keep:∀b o,s.heap.get? b=some o->s'.heap.get? b=some o
 gens:s'.gens=s.gens
 os:s'.os=s.os
 toks:s'.toks=s.toks
 ty:s'.TypeIs (.ref it) "set_iterator"
 ex:∃fp St,it∈fp/\(∀b∈fp,b<s'.heap.objs.size/\(b=a\/s.heap.objs.size<=b))/\St 0 s'/\∀A':Around,A'.handled=none->WalksS prog w A' it fp [it] (fun x y=>y=x) L.length (fun i v=>L[i]?=some v) St
def BR{a:Addr}{es:ax7}{ep:Nat}{t:SetTable}{Q:aw4}(sa:LH w s.heap a es ep t)(hz:es.size<=sizeLine)(q:∀it s' L,L.Perm (es.toList.map (·.2))->S_ prog w s s' a it L->Q (.ref it) s'):wpAny (model prog w) A (pyIter (.ref a)) Q E s:=by
 obtain⟨⟨o,ho,hex,hd⟩,hf,ti⟩:=id sa;have hT:s.TypeIs (.ref a) "set":=⟨o,ho,hex.1⟩;have la:a<s.heap.objs.size:=ac6 ho;refine wpAny_pyIter_slot hT F.slot_set_iter (ae6 F.slot_set_iter hT pE ?_ (F.args_set_iter_1 _));unfold Builtin.«frozenset.__iter__» Builtin.Frozenset.slot0 slotArgs;simp only[List.isEmpty_nil,Bool.not_true,au0,↓reduceIte,bind_assoc,as6,bne_self_eq_false];unfold Builtin.Frozenset.addrOf Builtin.Frozenset.sizeOf;refine aa0 (aa4 ?_)
 try dsimp only
 refine aa0 (aa4 ?_);refine aa0 (aa0 (ak5 ho hd hf (aa4 ?_)));unfold setDrawn;refine aa0 (aa0 (al9 ho hd hf ?_));dsimp only;refine aa0 (yq (aa4 ?_));show wpAny _ _ (if (!Np w && (!t.plain && decide (es.size > 1)))=true then _ else _) _ _ _;cases hc:(!Np w && (!t.plain && decide (es.size > 1))) with
 |false=>
  rw[ab1 (by simp)];have pl:Np w=true\/t.plain=true\/es.size<=1:=by
   cases hb:Np w with
   |true=>exact .inl rfl
   |false=>
    rw[hb] at hc;cases hp:t.plain with
    |true=>exact .inr (.inl rfl)
    |false=>
     rw[hp] at hc;have:decide (es.size > 1)=false:=by simpa using hc
     have:=of_decide_eq_false this;exact .inr (.inr (by omega))
  have na:a≠s.heap.objs.size:=ad0 la;refine aa0 (aa4 ?_);refine aa0 (wpAny_setEpoch_of ho hd hf ?_);refine aa0 (ad1 (aa4 ?_));have hI:My (s.heap.push { cls:=.type "set_iterator",data:=.fields #[rawInt 0,rawInt 0,.ref a,rawInt (es.size:Nat),rawInt (ep:Nat)] }) s.heap.objs.size (.int ((0:Nat):Int) 0) 0 a es.size ep:=ac0 _ rfl;have U7:Shared.TypeIs { s with heap:=s.heap.push { cls:=.type "set_iterator",data:=.fields #[rawInt 0,rawInt 0,.ref a,rawInt (es.size:Nat),rawInt (ep:Nat)] } } (.ref s.heap.objs.size) "set_iterator":=jm hI rfl;refine⟨_,rfl,"set_iterator",_,U7,Jf.lookup,q _ _ (LV w a ep es) (zj w a ep es) ⟨aa1 _,fun b o e=>aa6 _ e,rfl,rfl,rfl,U7,[s.heap.objs.size,a],U5 w s.heap.objs.size a es ep t,by simp,fun b hb=>?_,?_,fun A' h'=>FW h' na pl⟩⟩
  ·show b<(s.heap.push _).objs.size/\_;rw[aj6];rcases ac7.mp hb with rfl|hb
   ·exact⟨ag2 _,.inr (aa1 _)⟩
   ·rw[ab3.mp hb];exact⟨ae3 la,.inl rfl⟩
  ·exact⟨⟨0,hI,.inr (xI ti.rs)⟩,sa.kept fun o e=>aa6 _ e⟩
 |true=>
  rw[ab2 rfl];refine aa0 (DP es.size (range es.size) s (by simp) fun ps d QM=>?_);have hp:∀p∈ps,p<es.size:=fun p hm=>ah3.mp (QM.mem_iff.mp hm)
  have M8:ps.length=es.size:=by rw[QM.length_eq,ar5]
  refine aa0 (wpAny_newTuple ?_ (by rw[aa7];omega));have ZF:∀x:Obj,a<(s.heap.push x).objs.size:=fun x=>by rw[aj6];exact ae3 la
  refine aa0 (wpAny_setEpoch_of (s:={ s with drawn:=d,heap:=s.heap.push { cls:=.type "tuple",data:=.seq (ps.map fun(i:Nat)=>rawInt i).toArray } }) (aa6 _ ho) hd hf ?_);refine aa0 (ad1 (aa4 ?_));obtain⟨h1,e1⟩:∃h1,s.heap.push { cls:=.type "tuple",data:=.seq (ps.map fun(i:Nat)=>rawInt i).toArray }=h1:=⟨_,rfl⟩;have z1:h1.objs.size=s.heap.objs.size+1:=by rw[<-e1,aj6]
  have t1:IsTup h1 s.heap.objs.size (ps.map fun(p:Nat)=>Value.int p 0).toArray:=by rw[<-e1];exact IsTup.new _ _
  show ∃v,Fin.done (Flow.ret (.ref (s.heap.push { cls:=.type "tuple",data:=.seq (ps.map fun(i:Nat)=>rawInt i).toArray }).objs.size))=Fin.done (Flow.ret v)/\_;rw[e1];have hI:My (h1.push { cls:=.type "set_iterator",data:=.fields #[.ref s.heap.objs.size,rawInt 0,.ref a,rawInt (es.size:Nat),rawInt (ep:Nat)] }) h1.objs.size (.ref s.heap.objs.size) 0 a es.size ep:=ac0 _ rfl;have U7:Shared.TypeIs { s with drawn:=d,heap:=h1.push { cls:=.type "set_iterator",data:=.fields #[.ref s.heap.objs.size,rawInt 0,.ref a,rawInt (es.size:Nat),rawInt (ep:Nat)] } } (.ref h1.objs.size) "set_iterator":=jm hI rfl;have k1:∀b o,s.heap.get? b=some o->h1.get? b=some o:=fun b o e=>by rw[<-e1];exact aa6 _ e
  have na:a≠h1.objs.size:=by rw[z1];exact ad0 (ae3 la)
  have nt:s.heap.objs.size≠h1.objs.size:=by rw[z1];exact ad0 (ag2 _)
  have perm:(ps.map fun p=>(es.toList.map (·.2)).getD p Value.none).Perm (es.toList.map (·.2)):=by
   refine(QM.map _).trans (List.Perm.of_eq ?_);refine List.ext_getElem (by simp) fun i h1 h2=>?_
   simp only[aa7,ar5] at h1;simp[getD,h1]
  refine⟨_,rfl,"set_iterator",_,U7,Jf.lookup,q _ _ _ perm ⟨by rw[z1];exact ad9 _,fun b o e=>aa6 _ (k1 b o e),rfl,rfl,rfl,U7,[h1.objs.size,a,s.heap.objs.size],U6 w h1.objs.size a s.heap.objs.size ps es ep t,by simp,fun b hb=>?_,?_,fun A' h'=>Gp h' na nt hp _ rfl⟩⟩
  ·show b<(h1.push _).objs.size/\_;rw[aj6,z1];rcases ac7.mp hb with rfl|hb
   ·rw[z1];exact⟨ag2 _,.inr (ad9 _)⟩
   ·rcases ac7.mp hb with rfl|hb
    ·exact⟨ae3 (ae3 la),.inl rfl⟩
    ·rw[ab3.mp hb];exact⟨ae3 (ag2 _),.inr (aa1 _)⟩
  ·exact⟨hI,p6 t1 fun o e=>aa6 _ e,sa.kept fun o e=>aa6 _ (k1 a o e)⟩
def lW{L:aw7}{acc:ax2}(h:ItemsOf (fun i v=>L[i]?=some v) acc L.length):acc.toList=L:=by
 refine List.ext_getElem (by simpa using h.1) fun i h1 h2=>?_
 have hi:i<acc.size:=by simpa using h1
 have:L[i]?=some acc[i]:=h.2 i acc[i] (ah5 hi);rw[ab9 h2] at this;simpa using (ae5 this).symm
def BE{a:Addr}{Q:ax5}(hT:s.TypeIs (.ref a) "set")(h:Q false s):wpAny (model prog w) A (Builtin.List.listLengthHint (.ref a)) Q E s:=by
 unfold Builtin.List.listLengthHint;refine aa0 (wpAny_specialOf hT F.slot_set_len.lookup ?_)
 generalize Z5:("set.__len__":String)=id0
 have sp:splitId id0=some ("set","__len__"):=by subst Z5;decide
 wp_delta
 rw[sp];subst Z5;refine aa0 (am8 hT sub_set_self (av2 (fun z=>absurd z (by decide)) fun _=>?_));exact av2 (fun _=>aa0 (ar2 hT (aa4 h))) fun z=>absurd (by decide) z
def wx{a:Addr}{es:ax7}{ep:Nat}{t:SetTable}{Q:List Value->Shared->Prop}(sa:LH w s.heap a es ep t)(hh:A.handled=none)(hz:es.size<=sizeLine)
  (q:∀s' (acc:aw7),acc.Perm (es.toList.map (·.2))->(∀b o,s.heap.get? b=some o->s'.heap.get? b=some o)->s'.gens=s.gens->s'.os=s.os->s.heap.objs.size<s'.heap.objs.size->Q acc s'):wpAny (model prog w) A (collect (.ref a)) Q E s:=by
 obtain⟨⟨o,ho,hex,hd⟩,hf,ti⟩:=id sa;have la:a<s.heap.objs.size:=ac6 ho;unfold collect;refine aa0 (wpAny_runValue (aj8 F.entry_proto_collect ?_));rw[ak2 F.plain_proto_collect _];show wpAny _ A.in1 (newList [] >>= fun l=>again (.builtin "list.__iadd__" ⟨[l,.ref a],[]⟩)) _ _ s;refine aa0 (ad1 ?_);refine aa4 ⟨at9 F.plain_list_iadd _,aj8 F.entry_list_iadd ?_⟩;rw[ak2 F.plain_list_iadd _];obtain⟨h1,e1⟩:∃h1,s.heap.push { cls:=.type "list",data:=.seq ([]:aw7).toArray }=h1:=⟨_,rfl⟩;have z1:h1.objs.size=s.heap.objs.size+1:=by rw[<-e1,aj6]
 have k1:∀b o,s.heap.get? b=some o->h1.get? b=some o:=fun b o e=>by rw[<-e1];exact aa6 _ e
 have g1:h1.get? s.heap.objs.size=some { cls:=.type "list",data:=.seq ([]:aw7).toArray }:=by rw[<-e1];exact ac0 _ rfl
 have sa1:LH w h1 a es ep t:=sa.kept fun o e=>k1 a o e
 have Om:Shared.TypeIs { s with heap:=h1 } (.ref a) "set":=⟨o,k1 a o ho,hex.1⟩;show wpAny _ A.in1 (Builtin.List.listExtendWith (.ref s.heap.objs.size) (.ref a) (.ref s.heap.objs.size)) _ _ { s with heap:=s.heap.push { cls:=.type "list",data:=.seq ([]:aw7).toArray } };rw[e1];unfold Builtin.List.listExtendWith;refine aa0 (ar2 Om ?_);have ne:s.heap.objs.size≠a:=ar1 la;have c1:Builtin.List.listSameRef (.ref s.heap.objs.size) (.ref a)=false:=by simp[Builtin.List.listSameRef,ne]
 have c2:(type "set" == type "list")=false:=by decide
 have c3:(type "set" == type "tuple")=false:=by decide
 simp only[c1,c2,c3,Bool.or_false,au0,av5];refine aa0 (BR (s:={ s with heap:=h1 }) sa1 hz fun it s2 L pm wk=>?_);obtain⟨fp,St,hit,RO,st0,hW⟩:=wk.ex;have W:=hW A.in1 (by simpa using hh);have g2:s2.heap.get? s.heap.objs.size=some { cls:=.type "list",data:=.seq ([]:aw7).toArray }:=wk.keep _ _ g1;have N0:s2.TypeIs (.ref a) "set":=⟨o,wk.keep _ _ (k1 a o ho),hex.1⟩;refine aa0 (ai7 ?_);refine BE N0 (av2 (fun _=>?_) fun z=>absurd (by decide) z);refine aa0 (as0 (aa0 ?_));show wpAny _ A.in1 (updateSeq s.heap.objs.size (·.push .none) >>= fun _=>updateSeq s.heap.objs.size (·.pop)) _ _ _;refine aa0 (av0 g2 rfl ?_);have g3:=ah1 (Obj.mapSeq (·.push Value.none)) g2 rfl;refine av0 g3 rfl ?_;have g4:=ah1 (Obj.mapSeq (·.pop)) g3 rfl;have TZ:∀b o,b≠s.heap.objs.size->s2.heap.get? b=some o->((s2.heap.update s.heap.objs.size (Obj.mapSeq (·.push Value.none))).update s.heap.objs.size (Obj.mapSeq (·.pop))).get? b=some o:=
  fun b o hb e=>(af6 _ _ (af8 hb)).trans ((af6 _ _ (af8 hb)).trans e)
 have sf:s.heap.objs.size∉fp:=fun z=>by
  rcases (RO _ z).2 with e|e
  ·exact ne e
  ·have e':h1.objs.size<=s.heap.objs.size:=e;rw[z1] at e';exact Nat.not_succ_le_self _ e'
 have hLz:L.length<=sizeLine:=by rw[pm.length_eq,aa7,af0];exact hz
 refine aa4 ⟨at9 F.plain_extend_loop _,codeAny_extend_loopS W hLz _ sf _ L.length 0 _ _ _ rfl (ae7 _) (W.frame 0 s2 _ s2.toks st0 (aa1 _) fun b hb o e=>TZ b o (fun h=>sf (h ▸ hb)) e) g4 (ItemsOf.nil _) fun s' Xs c' hm R4 Pj=>?_⟩;show wpAny _ A (load s.heap.objs.size >>= _) _ _ s';refine aa0 (wpAny_load R4 ?_);have el:=lW Pj;refine aa4 (q s' Xs.toList (by rw[el];exact pm) (fun b o e=>?_) (hm.gens.trans wk.gens) (hm.os.trans wk.os) (ac6 R4));have lb:b<s.heap.objs.size:=ac6 e;have nb:b≠s.heap.objs.size:=ad0 lb;have VA:b≠it:=fun z=>by
  have e':h1.objs.size<=it:=wk.new;rw[z1,<-z] at e';exact Nat.not_succ_le_self _ (ab5 (ar3 (ag1 lb)) e')
 refine hm.heap b o (fun z=>?_) (TZ b o nb (wk.keep b o (k1 b o e)));rcases ac7.mp z with z|z
 ·exact nb z
 ·exact VA (ab3.mp z)
def yt:∀{l:List (Int×Value)},ElemsOf (intKind prog w) l->∀v,v∈l.map (·.2)->∃n t,v=.int n t:=fun {l} h v hv=>by
 obtain⟨e,he,rfl⟩:=ab6.mp hv;obtain⟨⟨k,hk,_⟩,_⟩:=h e he;obtain⟨t,ht⟩:=BA hk;exact⟨k,t,ht⟩
def yd{a:Addr}{ns:ax3}{Q:aw4}(hS:Lb prog w s.heap a (!Np w) ns)(hh:A.handled=none)(Z6:ns.length<64)(up:ns.Pairwise (·<=·))
  (q:∀(b:Addr) (s':Shared) (out:ax2) (n:Nat),IntsAre out.toList ns->s.heap.objs.size<=b->s'.heap.get? b=some (seqObj "list" out n)->(∀c o,s.heap.get? c=some o->s'.heap.get? c=some o)->s'.gens=s.gens->s'.os=s.os->Q (.ref b) s'):wpAny (model prog w) A (call (.builtin "sorted") [.ref a]) Q E s:=by
 obtain⟨o,es,ep,t,ho,hex,hd,R3,hp,hb,hf,ti⟩:=id hS;have hz:es.size=ns.length:=by have:=hp.length_eq;simpa using this
 have z64:(64:Nat)<=sizeLine:=by rw[aq1];decide
 refine Calls.call_function_entry kind_sorted plain_sorted entry_sorted (args_sorted1 _) ?_;unfold Builtin.«sorted»;refine aa0 (m:=checkCount "sorted" 1 1 _) (aa4 ?_);refine aa0 (wx ⟨⟨o,ho,hex,hd⟩,hf,ti⟩ (by simpa using hh) (by omega) fun s1 acc pm keep eg eo l1=>?_);have al:acc.length=ns.length:=by rw[pm.length_eq,aa7,af0,hz]
 have hI:IntsAre acc (acc.map numOf):=intsAre_map acc fun v hv=>yt R3 v (pm.mem_iff.mp hv)
 have hpm:(acc.map numOf).Perm ns:=by
  have:=pm.map numOf;rw[ah6] at this;exact this.trans hp
 refine aa0 (wpAny_newList ?_ (by omega));have o1:(s1.heap.push (seqObj "list" acc.toArray 0)).get? s1.heap.objs.size=some (seqObj "list" acc.toArray 0):=ac0 _ rfl;refine aa0 (ai7 (ae6 slot_list_sort ⟨_,o1,rfl⟩ entry_list_sort (list_sort_tree o1 hI (by omega) fun out US a1 a2 a3=>⟨_,rfl,?_⟩) (args_list_sort _)));have en:US=ns:=List.Perm.eq_of_pairwise (fun a b _ _ h1 h2=>Int.le_antisymm h1 h2) a3 up (a2.trans hpm);subst en;obtain⟨n,gn⟩:=sortedHeap_at (h:=s1.heap.push (seqObj "list" acc.toArray 0)) (a:=s1.heap.objs.size) (vs:=acc) (n:=0) (out:=out) o1;refine aa4 ⟨_,rfl,q s1.heap.objs.size _ out n a1 (ag1 l1) gn (fun c o' e=>?_) eg eo⟩;have lc:=ac6 (keep c o' e);rw[sortedHeap_old (ad0 lc) (by rw[size_push'];exact ae3 lc)];exact aa6 _ (keep c o' e)
end
end DL
namespace DL
open PySem PySem.Spec PyProof.Rows L2
def uR:D->M D
 |.ob n=>fun S=>match cw S n with
  |some xs=>(match ia xs with
   |some is=>Ka (is.Pairwise (· < ·)/\is.length<64) (.ok (.ob S.length) (S++[.lst xs])) .bad
   |none=>.bad)
  |none=>.bad
 |_=>M.bad
def Eo{x:D}{S:ay4}(h:uR x S≠.bad):∃(n:Nat) (is:ax3),x=.ob n/\cw S n=some (is.map D.int)/\is.Pairwise (· < ·)/\is.length<64/\uR x S=.ok (.ob S.length) (S++[.lst (is.map D.int)]):=by
 unfold uR at h ⊢;split at h
 ·rename_i n
  try dsimp only at h
  try dsimp only
  cases e0:cw S n with
  |none=>rw[e0] at h;exact absurd rfl h
  |some ys=>
   rw[e0] at h
   try dsimp only at h
   try dsimp only
   cases e2:ia ys with
   |none=>rw[e2] at h;exact absurd rfl h
   |some is=>
    rw[e2] at h
    try dsimp only at h
    try dsimp only
    by_cases up:is.Pairwise (· < ·)/\is.length<64
    ·have e3:=kC e2;subst e3;exact⟨n,is,rfl,e0,up.1,up.2,bY up⟩
    ·rw[uY up] at h;exact absurd rfl h
 ·exact absurd rfl h
def U8(fe:ay5):r_->M D:=fun r=>(fe r).bind uR
section
variable{X:Cx}{pos p p2 p4:Pos}{e:Expr}{fe:ay5}
def Dc(h0:Ii X e fe)(hgs:Gl X "sorted")(hms:X.mg "sorted"=none)(hgt:Gl X "set")(hmt:X.mg "set"=none)(hc:X.calm=true)
  (he:starEach [.Call (.Name "set" p2) [e] [] p4] X.env=[(false,eval (.Call (.Name "set" p2) [e] [] p4) X.env)]:=by rfl)
  (Q5:starEach [e] X.env=[(false,eval e X.env)]:=by rfl) :
  Ii X (.Call (.Name "sorted" p) [.Call (.Name "set" p2) [e] [] p4] [] pos) (U8 fe):=by
 intro pins s σ H J r S Q E I m;refine ag8 (jL I.inv hgs hms AE (ak6 ?_ he rfl) (by decide) (by decide));rw[he];refine ao4 ?_;refine ag8 (jL I.inv hgt hmt boot_set (ah2 ?_ Q5 rfl) (by decide) (by decide));rw[Q5];refine ao4 (h0 pins s σ H J r S _ E I ?_);unfold U8 M.bind at m;cases e1:fe r S with
 |bad=>rw[e1] at m;exact m
 |exc c S1=>rw[e1] at m;exact m
 |ok d S1=>
  rw[e1] at m;dsimp only at m;rintro v s1 ⟨vx,H1,I1,r1,J1,ex,rs,rv⟩;have nb:uR d S1≠.bad:=fun z=>by rw[z] at m;exact m
  obtain⟨n,is,rfl,hl,up,Z6,VX⟩:=Eo nb;rw[VX] at m;obtain⟨a,rfl,hn⟩:=rv.KR;obtain⟨ws,hw,HZ⟩:=rs.lst hl hn;have ew:=lL (g:=V.int) (fun i v h=>h.IT) HZ;subst ew;cases r1;obtain⟨y_,r',pl,hz⟩:=I1.list (JH.of hw);refine at5 (Ct (I.inv.ok.hd hc) pl.isList (oH (by simpa using r')) (up.imp fun h=>Int.ne_of_lt h) (by have:scanBound=4096:=rfl;omega) fun h' tk hS hk=>?_);refine at5 (yd (s:={ s1 with heap:=h',toks:=tk }) hS (I.inv.ok.hd hc) Z6 (up.imp fun h=>Int.le_of_lt h) fun b s' out n' ho hb hg V2 eg eo=>?_);obtain⟨o,es,ep,t,M5,_⟩:=id hS;have l1:=ac6 M5;have R5:∀c u,s1.heap.get? c=some u->s'.heap.get? c=some u:=fun c u q=>V2 c u (hk c u (ac6 q) q)
  have R6:s1.heap.objs.size<=b:=ab5 (ag1 l1) hb;have I2:=I1.laid (a:=b) (o:=.lst (is.map V.int)) (t':=s'.toks) R5 R6 (show Il X.prog X.w _ _ _ (.lst (is.map V.int)) from ⟨hz,out.toList,n',jT ho,by simpa using hg⟩);have I3:Inv X pins σ (upd H1 b (.lst (is.map V.int))) s':=⟨I2.ok,by have:=I2.os;rw[<-eo] at this;exact this,by rw[eg];exact I2.bare,I2.base,I2.loc,I2.cell,I2.free,I2.J9,I2.pin,I2.HH,I2.len⟩;exact m.val (v:=.ref b) I3 rfl ((Got.lst rs HZ (I1.HH.fresh R6)).ext ex)
end
end DL
namespace DL
open PySem PySem.Spec PyProof.Rows
section
variable{prog:ay1}{w:ay3}{A:ay2}{E:aw4}{s:Shared}
def A3{l:Addr}{vs:aw7}{ns:ax3}{Q:aw4}(hh:A.handled=none)(hl:s.heap.IsList l vs.toArray)(hi:IntsAre vs ns)(Mp:ns≠[])
  (h:∀h' M (t:Tok) tk,(∀b o,s.heap.get? b=some o->h'.get? b=some o)->M∈ns->(∀a,a∈ns->a<=M)->Q (.int M t) { s with heap:=h',toks:=tk }) :
  wpAny (model prog w) A (call (.builtin "max") [.ref l]) Q E s:=by
 obtain⟨xs,e⟩:=hi.allInts.items;have KQ:ns=xs.toList.map (·.1):=by rw[<-hi.numsOf,<-nums_intItems,<-e]
 have hsz:0<xs.size:=by
  have h3:=aq9.mpr Mp;rw[KQ,aa7,af0] at h3;exact h3
 rw[e] at hl;refine max_intList hh hl hsz fun v h' tk hv hk=>?_
 obtain⟨t,rfl⟩:=intItems_at hv;obtain⟨h1,h2⟩:=argBest_gt (numAt xs) (xs.size-1);refine h _ _ t tk hk ?_ fun a ha=>?_
 ·rw[KQ,numAt_eq];exact getD_mem (by rw[aa7,af0];omega)
 ·rw[KQ] at ha;obtain⟨j,hj,rfl⟩:=mem_getD ha;rw[aa7,af0] at hj;rw[<-numAt_eq];exact h2 j (by omega)
end
end DL
namespace DL
open PySem PySem.Spec PyProof.Rows L2
def vQ:List D->M D
 |[.ob n]=>fun S=>match cw S n with
  |some xs=>(match ia xs with
   |some is=>(match is.max? with
    |some M=>.ok (.int M) S
    |none=>.bad)
   |none=>.bad)
  |none=>.bad
 |_=>M.bad
def AW{n:Nat}{S:ay4}{is:ax3}{M:Int}(h:S[n]?=some (.lst (is.map D.int)))(hm:is.max?=some M):vQ [.ob n] S=.ok (.int M) S:=by
 simp only[vQ,bQ h,eX,hm]
section
variable{X:Cx}
def Eg(hc:X.calm=true):Jp X (.builtin "max") vQ:=by
 intro pins s σ H J S xs vs us Q E I rs rx rv m;unfold vQ at m;split at m
 ·rename_i n;cases e0:cw S n with
  |none=>rw[e0] at m;exact m.elim
  |some ys=>
   rw[e0] at m;dsimp only at m;cases e2:ia ys with
   |none=>rw[e2] at m;exact m.elim
   |some is=>
    rw[e2] at m;dsimp only at m;cases e3:is.max? with
    |none=>rw[e3] at m;exact m.elim
    |some M=>
     rw[e3] at m;dsimp only at m;cases kC e2;obtain⟨v,rfl,hv⟩:=rx.La;obtain⟨u,rfl,ru⟩:=Vals.one rv;obtain⟨a,rfl,hn⟩:=hv.KR;cases ru;obtain⟨ws,hw,HZ⟩:=rs.lst e0 hn;have ew:=lL (g:=V.int) (fun i v h=>h.IT) HZ;subst ew;obtain⟨y_,r',pl,hz⟩:=I.list (JH.of hw);obtain⟨mm,mt⟩:=List.max?_eq_some_iff.mp e3;refine A3 (I.ok.hd hc) pl.isList (oH r') (fun z=>by rw[z] at mm;cases mm) fun h' M' t tk hk m1 m2=>?_
     have:M'=M:=Int.le_antisymm (mt M' m1) (m2 M mm);subst this;exact m.Ku (I.kept hk) rs (s_.int _ _ _ _) ⟨_,rfl⟩
 ·exact m.elim
end
end DL
namespace Lw
open PySem L2 DL
open PyProof.Rows (boot_max boot_min boot_sum boot_all boot_int boot_tuple boot_list boot_isinstance boot_range boot_enumerate boot_bool)
def I_{N P:ax0}{sc:Scope}(a:sc.kind=.function:=by rfl)(b:sc.isCoroutine=false:=by rfl)(c:sc.isGenerator=false:=by rfl)(d:N.Nodup:=by decide)(e:N.take P.length=P:=by rfl)(f:∀x∈P,sc.names.lookup x=some .local\/sc.names.lookup x=some .cell:=by decide)(g:∀y∈sc.names,y.2≠.free:=by decide):n_ N P sc:=⟨a,b,c,d,e,f,g⟩
@[simp] def mF(n:Nat)(c:HK):List D->M D:=fun xs S=>fin S (c (xs.map some++replicate (n-xs.length) none) S)
@[simp] def mP(n:Nat)(c:HK):List D->M D:=fun xs S=>cP S (c (xs.map some++replicate (n-xs.length) none) S)
def fE{P:ay1}{w:ay3}{K:aw5}{mg:aw9}{base:Heap}{x qual:Str}{st:Stmt}{f:Addr}{fd:ax1}{N ps:ax0}{k:Nat}{t:HK}(hF:IF K x qual st f fd)(S:n_ N ps (i_ st))(h:∀(HG:Value) (A:ay2) (outer:List Env) (s:Shared) (H:Hp) (E:XK),I0 k (A.deeper (PyProof.Rows.envOfC qual (i_ st) s.heap.objs.size f HG))->oo (pH (E_ P w) P w K mg base N qual (i_ st) f HG A outer s H E) (IC st) t):qq7 P w K mg base (k+1) f fd ps (mF N.length t):=qY hF S (fun _ _ _ _ _ _=>nr) (fun HG A outer s H E hr=>⟨t,h HG A outer s H E hr,fun xs S0 hl=>nM⟩)
def fG{P:ay1}{w:ay3}{K:aw5}{mg:aw9}{base:Heap}{x qual:Str}{st:Stmt}{f:Addr}{fd:ax1}{N ps:ax0}{k:Nat}{t:HK}(hF:IF K x qual st f fd)(S:n_ N ps (i_ st))(h:∀(HG:Value) (A:ay2) (outer:List Env) (s:Shared) (H:Hp) (E:XK),I0 k (A.deeper (PyProof.Rows.envOfC qual (i_ st) s.heap.objs.size f HG))->oo (pH (E_ P w) P w K mg base N qual (i_ st) f HG A outer s H E) (IC st) t):qq7 P w K mg base (k+1) f fd ps (mP N.length t):=qY hF S (fun _ _ _ _ _ _=>nr) (fun HG A outer s H E hr=>⟨t,h HG A outer s H E hr,fun xs S0 hl=>Ap⟩)
abbrev sO(n:Nat):Option D:=some (.ob n)
abbrev sI(n:Int):Option D:=some (.int n)
abbrev sS(x:Str):Option D:=some (.str x)
abbrev sR(ns:ax3):Option D:=some (.Kh (ns.map D.int))
abbrev dI(n:Int):r_->M D:=dC (.int n)
abbrev dT(x:Str):r_->M D:=dC (.str x)
abbrev h_:r_->M D:=mO 0
abbrev v_:r_->M D:=mO 1
abbrev Ic:r_->M D:=mO 2
abbrev H_:r_->M D:=mO 3
abbrev Jy:r_->M D:=mO 4
abbrev Nb:r_->M D:=mO 5
abbrev O5:r_->M D:=mO 6
abbrev T_:r_->M D:=mO 7
abbrev Ua:r_->M D:=mO 8
abbrev QN:r_->M D:=mO 9
def top(i:Nat):Stmt:=PySem.Challenge.pw_sureroad_k14_whole_runs.main.body.getD i (.Pass ⟨0,0,0,0⟩)
abbrev mD:Stmt:=top 41
abbrev lf:Stmt:=top 40
abbrev iJ:Stmt:=top 44
abbrev fK:Stmt:=bj (top 15) 0
abbrev fL:Stmt:=bj (top 13) 0
abbrev gg:Stmt:=bj (top 37) 0
abbrev lj:Stmt:=top 45
abbrev ly:Stmt:=top 10
abbrev jG:Stmt:=bj (top 15) 1
abbrev kq:Stmt:=bj (top 37) 1
abbrev iP:Stmt:=top 43
abbrev jI:Stmt:=top 32
abbrev m0:Stmt:=top 26
abbrev qc:Stmt:=top 27
abbrev mZ:Stmt:=top 28
abbrev mE:Stmt:=top 29
abbrev oN:Stmt:=top 30
abbrev mW:Stmt:=top 31
abbrev oI:Stmt:=top 33
abbrev eU:Stmt:=bj (top 37) 15
abbrev lC:Stmt:=top 7
abbrev fT:Stmt:=bj (top 15) 7
abbrev gZ:Stmt:=bj (top 15) 6
abbrev jp:Stmt:=bj (top 15) 5
abbrev kF:Stmt:=bj (top 37) 3
abbrev fj:Stmt:=bj (top 37) 14
abbrev lg:Stmt:=top 34
abbrev yk:Stmt:=top 35
abbrev iE:Stmt:=bj (top 13) 2
abbrev d7:Stmt:=bj (top 13) 4
abbrev j8:Stmt:=top 6
abbrev km:Stmt:=top 8
abbrev jJ:Stmt:=bj (top 13) 6
abbrev ke:Stmt:=top 11
abbrev jA:Stmt:=bj (top 13) 8
abbrev fJ:Stmt:=bj (top 13) 7
abbrev jB:Stmt:=bj (top 13) 9
abbrev eE:Stmt:=bj (top 13) 5
abbrev iM:Stmt:=bj (top 13) 3
abbrev eW:Stmt:=bj (top 15) 4
abbrev eQ:Stmt:=bj (top 15) 11
abbrev dY:Stmt:=bj (top 15) 12
abbrev eB:Stmt:=bj (top 15) 10
abbrev eR:Stmt:=bj (top 15) 9
abbrev iT:Stmt:=bj (top 15) 8
abbrev iG:Stmt:=bj (top 37) 16
abbrev kG:Stmt:=bj (top 37) 4
abbrev kL:Stmt:=bj (top 37) 5
abbrev jk:Stmt:=bj (top 37) 6
abbrev oj:Stmt:=top 38
abbrev jz:Stmt:=bj (top 37) 7
abbrev jD:Stmt:=bj (top 15) 3
abbrev jK:Stmt:=bj (top 13) 1
abbrev kj:Stmt:=bj (top 37) 8
abbrev iR:Stmt:=bj (top 15) 2
abbrev jM:Stmt:=bj (top 37) 2
abbrev ox:Stmt:=top 46
abbrev fF:Stmt:=bj (top 37) 10
abbrev lx:Stmt:=top 48
abbrev jF:Stmt:=top 47
abbrev kH:Stmt:=top 49
abbrev j5:Stmt:=top 42
abbrev uk:Stmt:=top 50
structure Cs where
 g_:Addr
 c_:Addr
 World:Addr
 Qd:Addr
 IS:Addr
abbrev d_:List Str:=["window","given","opening","next_index","early","begun"]
def aV:d_.Nodup:=by decide
abbrev a_:List Str:=["window","most","messages","sure","opening","state","pieces","base","noted"]
def aG:a_.Nodup:=by decide
abbrev u_:List Str:=["sender","hearer","roads"]
def cx:u_.Nodup:=by decide
abbrev Ke:List Str:=["hello","welcome","who","data","note"]
abbrev d9:D:=.tup (Ke.map D.str)
abbrev Jg:List Str:=["hello","welcome","who"]
abbrev eJ:D:=.tup (Jg.map D.str)
abbrev Ie:D:=.int 65535
abbrev HL:D:=.int 13
abbrev Ij:D:=.int 255
abbrev Ip:D:=.int 8
abbrev JR:D:=.int 7
abbrev HM:D:=.int 3
abbrev HD:D:=.int 2
structure Txt(K:aw5)(mg:aw9)(G:Cs):Prop where
 R7:mg "all"=none
 Qe:mg "bool"=none
 LI:mg "enumerate"=none
 R8:mg "int"=none
 IG:mg "isinstance"=none
 Jd:mg "len"=none
 Ta:mg "list"=none
 Qf:mg "max"=none
 R9:mg "min"=none
 LU:mg "range"=none
 U9:mg "set"=none
 Qg:mg "sorted"=none
 Qh:mg "sum"=none
 JD:mg "tuple"=none
 o_:NT K G.g_
 Ig:HS K G.g_ "window"
 Jt:HS K G.g_ "given"
 HC:HS K G.g_ "opening"
 B_:HS K G.g_ "next_index"
 HX:HS K G.g_ "early"
 IK:HS K G.g_ "begun"
 j_:NT K G.c_
 Ih:HS K G.c_ "window"
 JI:HS K G.c_ "most"
 Ja:HS K G.c_ "messages"
 JJ:HS K G.c_ "sure"
 Iq:HS K G.c_ "opening"
 F_:HS K G.c_ "state"
 HA:HS K G.c_ "pieces"
 HE:HS K G.c_ "base"
 IY:HS K G.c_ "noted"
 z_:NT K G.World
 Io:HS K G.World "sender"
 IZ:HS K G.World "hearer"
 HF:HS K G.World "roads"
 Qi:Qb K mg "NoCard" G.Qd
 KN:Qb K mg "NoStrip" G.IS
 Jb:subIn K (.ref G.IS) (.ref G.IS)=some true
 Nq:Na K mg "KINDS" Ke
 Mz:Na K mg "SHORT_KINDS" Jg
 MA:∃u,mg "TOP_OPENING"=some u/\LM K Ie u
 Nr:∃u,mg "TOP_NUMBER"=some u/\LM K HL u
 L_:∃u,mg "TOP_CELL"=some u/\LM K Ij u
 Kw:∃u,mg "MOST_PIECE_LETTERS"=some u/\LM K Ip u
 N3:∃u,mg "MOST_BITS"=some u/\LM K JR u
 Lq:∃u,mg "HEAD_CELLS"=some u/\LM K HM u
 K3:∃u,mg "CHECK_CELLS"=some u/\LM K HD u
section
variable{P:ay1}{w:ay3}{K:aw5}{mg:aw9}{base:Heap}
def wj:n_ ["_law_cell_here","_law_prime","_law_many"] ["_law_cell_here","_law_prime","_law_many"] (i_ mD):=I_
def o5:HK:=(bN (f_ kY (f_ kY (f_ ik h_ (dI 48271)) v_) Ic))
def aE:List D->M D:=mF 3 o5
def wU{G:Cs}(T:Txt K mg G){f:Addr}{fd:ax1}(F:IF K "_law_mix" "_law_mix" mD f fd):qq7 P w K mg base 1 f fd ["_law_cell_here","_law_prime","_law_many"] aE:=by
 refine fE F wj fun _ _ _ _ _ _ h=>?_
 exact(ak (aW (bJ jC (bJ jC (bJ lE (ac 0) ar) (ac 1)) (ac 2))))
def uA:n_ ["_law_script","_law_k"] ["_law_script","_law_k"] (i_ lf):=I_
def j6:HK:=(aI (IJ (ao (f_ Kv v_ (aj bu (aa h_ ai)))) (bN (f_ w_ h_ v_)) bG)
 (bN (dI 0)))
def bP:List D->M D:=mF 2 j6
def ut{G:Cs}(T:Txt K mg G){f:Addr}{fd:ax1}(F:IF K "_law_cell" "_law_cell" lf f fd):qq7 P w K mg base 1 f fd ["_law_script","_law_k"] bP:=by
 refine fE F uA fun _ _ _ _ _ _ h=>?_
 exact(aq (bw (aD kT (ac 1) (bi df rfl T.Jd boot_len (ae (ac 0) ag)) (aL _)) (ak (aW (aK ID (ac 0) (ac 1) (fun _ _=>rfl)))) aY)
   (ak (aW ar)))
def Ju:n_ ["_law_script","_law_window","_law_most"] ["_law_script"] (i_ iJ):=I_
def gU:HK:=(aI (cg (f_ bI (dI 1) (aj aE (aa (aj bP (aa h_ (aa (dI 0) ai))) (aa (dI 9883) (aa (dI 7) ai))))) (gN 1))
 (aI (cg (f_ bI (dI 1) (aj aE (aa (aj bP (aa h_ (aa (dI 1) ai))) (aa (dI 9871) (aa (dI 8) ai))))) (gN 2))
 (bN (ci (aa v_ (aa Ic ai))))))
def fA:List D->M D:=mF 3 gU
def pJ{G:Cs}(T:Txt K mg G)(JS:qy7 P w K mg base "_law_cell" 1 ["_law_script","_law_k"] bP)(HN:qy7 P w K mg base "_law_mix" 1 ["_law_cell_here","_law_prime","_law_many"] aE){f:Addr}{fd:ax1}(F:IF K "_law_setting" "_law_setting" iJ f fd):qq7 P w K mg base 2 f fd ["_law_script"] fA:=by
 refine fE F Ju fun _ _ _ _ _ _ h=>?_
 exact(aq (bC (i:=1) Ju.nd (bJ cm ar (aM HN h.m rfl aJ (ae (aM JS h.m rfl aJ (ae (ac 0) (ae ar ag)) (am (am aF))) (ae ar (ae ar ag))) (am (am (am aF))))))
   (aq (bC (i:=2) Ju.nd (bJ cm ar (aM HN h.m rfl aJ (ae (aM JS h.m rfl aJ (ae (ac 0) (ae ar ag)) (am (am aF))) (ae ar (ae ar ag))) (am (am (am aF))))))
   (ak (aW (bZ (ae (ac 1) (ae (ac 2) ag)))))))
def mR:n_ ["self","window","most"] ["self","window","most"] (i_ fK):=I_
def dA(G:Cs):HK:=(aI (cO G.c_ [] "window" h_ v_)
 (aI (cO G.c_ ["window"] "most" h_ Ic)
 (aI (cO G.c_ ["window","most"] "messages" h_ (bT ai))
 (aI (cO G.c_ ["window","most","messages"] "sure" h_ (dI 0))
 (aI (cO G.c_ ["window","most","messages","sure"] "opening" h_ (dI 0))
 (aI (cO G.c_ ["window","most","messages","sure","opening"] "state" h_ (dT "shut"))
 (aI (cO G.c_ ["window","most","messages","sure","opening","state"] "pieces" h_ (bT ai))
 (aI (cO G.c_ ["window","most","messages","sure","opening","state","pieces"] "base" h_ (dI 0))
 (cO G.c_ ["window","most","messages","sure","opening","state","pieces","base"] "noted" h_ kR)))))))))
def b8(G:Cs):List D->M D:=fun xs S=>fin S (dA G (xs.map some++replicate (3-xs.length) none) S)
def mU{G:Cs}(T:Txt K mg G){f:Addr}{fd:ax1}(F:IF K "__init__" "Sender.__init__" fK f fd):qq7 P w K mg base 1 f fd ["self","window","most"] (b8 G):=by
 refine qY F mR (fun _ _ _ _ _ _=>nr) (fun HG A outer s H E h=>⟨dA G,?_,fun xs S0 hl=>nM⟩);exact(aq (cR T.j_ T.Ih (by decide) (by decide) (ac 0) (ac 1))
   (aq (cR T.j_ T.JI (by decide) (by decide) (ac 0) (ac 2))
   (aq (cR T.j_ T.Ja (by decide) (by decide) (ac 0) (bX ag))
   (aq (cR T.j_ T.JJ (by decide) (by decide) (ac 0) ar)
   (aq (cR T.j_ T.Iq (by decide) (by decide) (ac 0) ar)
   (aq (cR T.j_ T.F_ (by decide) (by decide) (ac 0) aN)
   (aq (cR T.j_ T.HA (by decide) (by decide) (ac 0) (bX ag))
   (aq (cR T.j_ T.HE (by decide) (by decide) (ac 0) ar)
   (ak (cR T.j_ T.IY (by decide) (by decide) (ac 0) pU))))))))))
def mL:n_ ["self","window"] ["self","window"] (i_ fL):=I_
def dy(G:Cs):HK:=(aI (cO G.g_ [] "window" h_ v_)
 (aI (cO G.g_ ["window"] "given" h_ (bT ai))
 (aI (cO G.g_ ["window","given"] "opening" h_ (dI 0))
 (aI (cO G.g_ ["window","given","opening"] "next_index" h_ (dI 0))
 (aI (cO G.g_ ["window","given","opening","next_index"] "early" h_ kR)
 (cO G.g_ ["window","given","opening","next_index","early"] "begun" h_ (bT ai)))))))
def bS(G:Cs):List D->M D:=fun xs S=>fin S (dy G (xs.map some++replicate (2-xs.length) none) S)
def mI{G:Cs}(T:Txt K mg G){f:Addr}{fd:ax1}(F:IF K "__init__" "Hearer.__init__" fL f fd):qq7 P w K mg base 1 f fd ["self","window"] (bS G):=by
 refine qY F mL (fun _ _ _ _ _ _=>nr) (fun HG A outer s H E h=>⟨dy G,?_,fun xs S0 hl=>nM⟩);exact(aq (cR T.o_ T.Ig (by decide) (by decide) (ac 0) (ac 1))
   (aq (cR T.o_ T.Jt (by decide) (by decide) (ac 0) (bX ag))
   (aq (cR T.o_ T.HC (by decide) (by decide) (ac 0) ar)
   (aq (cR T.o_ T.B_ (by decide) (by decide) (ac 0) ar)
   (aq (cR T.o_ T.HX (by decide) (by decide) (ac 0) pU)
   (ak (cR T.o_ T.IK (by decide) (by decide) (ac 0) (bX ag))))))))
def nO:n_ ["self","window","most"] ["self","window","most"] (i_ gg):=I_
def dQ(G:Cs):HK:=(aI (cO G.World [] "sender" h_ (aj (iY G.c_ (b8 G)) (aa v_ (aa Ic ai))))
 (aI (cO G.World ["sender"] "hearer" h_ (aj (iY G.g_ (bS G)) (aa v_ ai)))
 (cO G.World ["sender","hearer"] "roads" h_ (rC (jg (dT "there") (bT ai) (jg (dT "back") (bT ai) tQ))))))
def cI(G:Cs):List D->M D:=fun xs S=>fin S (dQ G (xs.map some++replicate (3-xs.length) none) S)
def n3{G:Cs}(T:Txt K mg G)(Qj:OC P w K mg base (E_ P w) "Sender" G.c_ 1 ["self","window","most"] (b8 G))(Qk:OC P w K mg base (E_ P w) "Hearer" G.g_ 1 ["self","window"] (bS G)){f:Addr}{fd:ax1}(F:IF K "__init__" "World.__init__" gg f fd):qq7 P w K mg base 3 f fd ["self","window","most"] (cI G):=by
 refine qY F nO (fun _ _ _ _ _ _=>nr) (fun HG A outer s H E h=>⟨dQ G,?_,fun xs S0 hl=>nM⟩);exact(aq (cR T.z_ T.Io (by decide) (by decide) (ac 0) (uE Qj h.m rfl aJ (ae (ac 1) (ae (ac 2) ag)) (eV (am (am aF)))))
   (aq (cR T.z_ T.IZ (by decide) (by decide) (ac 0) (uE Qk h.m rfl aJ (ae (ac 1) ag) (eV (am aF))))
   (ak (cR T.z_ T.HF (by decide) (by decide) (ac 0) (Em (wt aN (bX ag) (wt aN (bX ag) Dj)))))))
def IH:n_ ["_law_script","_law_falls","_law_found","_law_cell_here","_law_turn","_law_road"] ["_law_script","_law_falls"] (i_ lj):=I_
def fD:HK:=(aI (cg (aj aE (aa H_ (aa (dI 9859) (aa (dI 20) ai)))) (gN 4))
 (aI (cg (f_ w_ (bT (aa (dT "there") (aa (dT "back") ai))) (aj aE (aa H_ (aa (dI 9857) (aa (dI 2) ai))))) (gN 5))
 (IJ (ao (f_ Kv Jy (dI 2))) (bx (KU iN Ic (aa (ci (aa (dT "hand") (aa H_ ai))) ai))) (IJ (ao (f_ Kv Jy (dI 6))) (bx (KU iN Ic (aa (ci (aa (dT "tick") ai)) ai))) (IJ (ao (f_ Kv Jy (dI 14))) (cg (f_ bI Ic (f_ ik (bT (aa (ci (aa (dT "step") (aa Nb ai))) ai)) (f_ bI (dI 1) (aj aE (aa H_ (aa (dI 9851) (aa (dI 4) ai))))))) (gN 2)) (IJ (ao (f_ Kv Jy (dI 17))) (bx (KU iN Ic (aa (ci (aa (f_ w_ (bT (aa (dT "lose") (aa (dT "double") (aa (dT "spoil") ai)))) (f_ sk Jy (dI 14))) (aa Nb (aa (aj aE (aa H_ (aa (dI 9839) (aa (dI 6) ai)))) (aa H_ ai))))) ai))) (IJ (dc (ao (f_ HJ Jy (dI 17))) (bM v_)) (cg (f_ bI Ic (bT (aa (ci (aa (dT "fall") (aa (f_ w_ (bT (aa (dT "sender") (aa (dT "hearer") ai))) (aj aE (aa H_ (aa (dI 9833) (aa (dI 2) ai))))) ai))) ai))) (gN 2)) (bx (KU iN Ic (aa (ci (aa (dT "open") ai)) ai))))))))))
def kB:HK:=(aI (cg (bT (aa (ci (aa (dT "open") ai)) (aa (ci (aa (dT "hand") (aa (aj bP (aa h_ (aa (dI 2) ai))) ai))) ai))) (gN 2))
 (aI (og (Kt (Kb Jo h_ (bA (dI 3)) (bA (dI 63)))) (gN 3) fD)
 (bN Ic)))
def gL:List D->M D:=mF 6 kB
def vt{G:Cs}(T:Txt K mg G)(JS:qy7 P w K mg base "_law_cell" 1 ["_law_script","_law_k"] bP)(HN:qy7 P w K mg base "_law_mix" 1 ["_law_cell_here","_law_prime","_law_many"] aE){f:Addr}{fd:ax1}(F:IF K "_law_acts" "_law_acts" lj f fd):qq7 P w K mg base 2 f fd ["_law_script","_law_falls"] gL:=by
 refine fE F IH fun _ _ _ _ _ _ h=>?_
 have u:=h.units;exact(aq (bC (i:=2) IH.nd (bX (ae (bZ (ae aN ag)) (ae (bZ (ae aN (ae (aM JS h.m rfl aJ (ae (ac 0) (ae ar ag)) (am (am aF))) ag))) ag))))
   (aq (kD rfl (d8 (d6 P5 (ac 0) (cU ar) (cU ar))) (bV (i:=3) IH.nd) (aq (bC (i:=4) IH.nd (aM HN h.m rfl aJ (ae (ac 3) (ae ar (ae ar ag))) (am (am (am aF)))))
   (aq (bC (i:=5) IH.nd (aK ID (bX (ae aN (ae aN ag))) (aM HN h.m rfl aJ (ae (ac 3) (ae ar (ae ar ag))) (am (am (am aF)))) (fun _ _=>rfl)))
   (ak (bw (aD kT (ac 4) ar (aL _)) (ak (aU (dw ac4 ac5 cH (ac 2) (ae (bZ (ae aN (ae (ac 3) ag))) ag)))) (ak (bw (aD kT (ac 4) ar (aL _)) (ak (aU (dw ac4 ac5 cH (ac 2) (ae (bZ (ae aN ag)) ag)))) (ak (bw (aD kT (ac 4) ar (aL _)) (ak (bC (i:=2) IH.nd (bJ cm (ac 2) (bJ lE (bX (ae (bZ (ae aN (ae (ac 5) ag))) ag)) (bJ cm ar (aM HN h.m rfl aJ (ae (ac 3) (ae ar (ae ar ag))) (am (am (am aF))))))))) (ak (bw (aD kT (ac 4) ar (aL _)) (ak (aU (dw ac4 ac5 cH (ac 2) (ae (bZ (ae (aK ID (bX (ae aN (ae aN (ae aN ag)))) (bJ xk (ac 4) ar) (fun _ _=>rfl)) (ae (ac 5) (ae (aM HN h.m rfl aJ (ae (ac 3) (ae ar (ae ar ag))) (am (am (am aF)))) (ae (ac 3) ag))))) ag)))) (ak (bw (LL.pt (ei (aD (cr u) (ac 4) ar (aL _)) (dF (cE (ac 1))))) (ak (bC (i:=2) IH.nd (bJ cm (ac 2) (bX (ae (bZ (ae aN (ae (aK ID (bX (ae aN (ae aN ag))) (aM HN h.m rfl aJ (ae (ac 3) (ae ar (ae ar ag))) (am (am (am aF)))) (fun _ _=>rfl)) ag))) ag))))) (ak (aU (dw ac4 ac5 cH (ac 2) (ae (bZ (ae aN ag)) ag)))))))))))))))))
   (ak (aW (ac 2)))))
def Jh:n_ ["message","most","size","pieces","rest"] ["message","most"] (i_ ly):=I_
def kc(fuel:Nat):HK:=(aI (cg (aj D2 (aa v_ (aa (dI 1) ai))) (gN 2))
 (aI (cg (bT ai) (gN 3))
 (aI (cg h_ (gN 4))
 (aI (fV (ao (f_ PK (aj bu (aa Jy ai)) Ic)) (aI (bx (KU iN H_ (aa (ci (aa (dI 0) (aa (Kb Jo Jy bK (bA Ic)) ai))) ai)))
 (cg (Kb Jo Jy (bA Ic) bK) (gN 4))) fuel)
 (aI (bx (KU iN H_ (aa (ci (aa (dI 1) (aa Jy ai))) ai)))
 (bN (aj gR (aa H_ ai))))))))
def dn:List D->M D:=fun xs S=>cP S (kc 100 (xs.map some++replicate (5-xs.length) none) S)
def uo{G:Cs}(T:Txt K mg G){f:Addr}{fd:ax1}(F:IF K "pieces_of" "pieces_of" ly f fd):qq7 P w K mg base 1 f fd ["message","most"] dn:=by
 refine fG F Jh fun HG A outer s H E h=>?_
 have u:=h.units;have Xt:(100:Nat)=100:=rfl
 generalize hfe:(100:Nat)=fuel at Xt
 exact(aq (bC (i:=2) Jh.nd (bi (Cu rfl) rfl T.Qf boot_max (ae (ac 1) (ae ar ag))))
   (aq (bC (i:=3) Jh.nd (bX ag))
   (aq (bC (i:=4) Jh.nd (ac 0))
   (aq (vI fuel (aD yN (bi df rfl T.Jd boot_len (ae (ac 4) ag)) (ac 2) (aL _)) (aq (aU (dw ac4 ac5 cH (ac 3) (ae (bZ (ae ar (ae (d6 P5 (ac 4) gE (cU (ac 2))) ag))) ag)))
   (ak (bC (i:=4) Jh.nd (d6 P5 (ac 4) (cU (ac 2)) gE)))))
   (aq (aU (dw ac4 ac5 cH (ac 3) (ae (bZ (ae ar (ae (ac 4) ag))) ag)))
   (ak (aW (gi j3 rfl T.JD boot_tuple (ae (ac 3) ag)))))))))
def rN:n_ ["self","message"] ["self","message"] (i_ jG):=I_
def jh(G:Cs):HK:=(aI (bx (KU iN (aC G.c_ a_ 2 h_) (aa v_ ai)))
 (IJ (ao (f_ Kc (aC G.c_ a_ 5 h_) (dT "shut"))) (bx (KU sG (aC G.c_ a_ 6 h_) (aa (aj dn (aa v_ (aa (aC G.c_ a_ 1 h_) ai))) ai))) bG))
def gq(G:Cs):List D->M D:=mF 2 (jh G)
def qR{G:Cs}(T:Txt K mg G)(Kx:qy7 P w K mg base "pieces_of" 1 ["message","most"] dn){f:Addr}{fd:ax1}(F:IF K "hand" "Sender.hand" jG f fd):qq7 P w K mg base 2 f fd ["self","message"] (gq G):=by
 refine fE F rN fun _ _ _ _ _ _ h=>?_
 have u:=h.units;exact(aq (aU (dw ac4 ac5 cH (aH T.j_ T.Ja aG (ac 0)) (ae (ac 1) ag)))
   (ak (bw (aD (qD u) (aH T.j_ T.F_ aG (ac 0)) aN (aL _)) (ak (aU (dw au4 au5 oW (aH T.j_ T.HA aG (ac 0)) (ae (aM Kx h.m rfl aJ (ae (ac 1) (ae (aH T.j_ T.JI aG (ac 0)) ag)) (am (am aF))) ag)))) aY)))
def sj:n_ ["self","message"] ["self","message"] (i_ kq):=I_
def jN(G:Cs):HK:=(bx (br G.c_ a_ (gq G) (aC G.World u_ 0 h_) (aa v_ ai)))
def iz(G:Cs):List D->M D:=mF 2 (jN G)
def sP{G:Cs}(T:Txt K mg G)(MB:qz7 P w K mg base G.c_ "hand" 2 ["self","message"] (gq G)){f:Addr}{fd:ax1}(F:IF K "hand" "World.hand" kq f fd):qq7 P w K mg base 3 f fd ["self","message"] (iz G):=by
 refine fE F sj fun _ _ _ _ _ _ h=>?_
 exact(ak (aU (bO MB h.m T.j_ (by decide) aJ (aH T.z_ T.Io cx (ac 0)) (ae (ac 1) ag) (eV (am aF)))))
def Ko:n_ ["_law_cell_here","_law_longest","_law_many"] ["_law_cell_here","_law_longest"] (i_ iP):=I_
def ie:HK:=(aI (cg (aj aE (aa h_ (aa (dI 9973) (aa (f_ bI v_ (dI 1)) ai)))) (gN 2))
 (bN (aj gR (aa (dS (o6 Ic) (gN 0) hV (aj aE (aa (f_ bI v_ (f_ ik (dI 31) h_)) (aa (dI 9967) (aa (dI 256) ai)))) 1 [0]) ai))))
def cQ:List D->M D:=mP 3 ie
def pI{G:Cs}(T:Txt K mg G)(HN:qy7 P w K mg base "_law_mix" 1 ["_law_cell_here","_law_prime","_law_many"] aE){f:Addr}{fd:ax1}(F:IF K "_law_message" "_law_message" iP f fd):qq7 P w K mg base 2 f fd ["_law_cell_here","_law_longest"] cQ:=by
 refine fG F Ko fun _ _ _ _ _ _ h=>?_
 exact(aq (bC (i:=2) Ko.nd (aM HN h.m rfl aJ (ae (ac 0) (ae ar (ae (bJ cm (ac 1) ar) ag))) (am (am (am aF)))))
   (ak (aW (gi j3 rfl T.JD boot_tuple (ae (iy (own:=["_law_k"]) (capN:=["_law_cell_here"]) (caps:=[0]) ⟨rfl,Lp.all ⟨rfl,trivial⟩,rfl,by decide,rfl,by decide,⟨⟨rfl,ao3 rfl,ao3 rfl,rfl⟩,trivial⟩,by decide⟩ rfl (my rfl T.LU (ac 2)) (ip (by decide)) (fun C s2 H2 fp=>⟨(bV (i:=0) (show(["_law_k","_law_cell_here"]:ax0).Nodup from by decide)),lA,(aM HN h.m rfl aJ (ae (bJ cm (ac 1) (bJ lE ar (ac 0))) (ae ar (ae ar ag))) (am (am (am aF))))⟩)) ag)))))
def JK:n_ ["cells","summed","weighed"] ["cells"] (i_ jI):=I_
def jj:HK:=(aI (cg (f_ bI h_ (ci (aa (f_ kY (aj oR (aa h_ ai)) (dI 256)) ai))) (gN 1))
 (aI (cg (aj oR (aa (dS (uV 1 v_) (gT [0,1]) hV (f_ ik h_ v_) 2 []) ai)) (gN 2))
 (bN (f_ bI v_ (ci (aa (f_ kY Ic (dI 256)) ai))))))
def cG:List D->M D:=mP 3 jj
def rV{G:Cs}(T:Txt K mg G){f:Addr}{fd:ax1}(F:IF K "with_checks" "with_checks" jI f fd):qq7 P w K mg base 1 f fd ["cells"] cG:=by
 refine fG F JK fun _ _ _ _ _ _ h=>?_
 exact(aq (bC (i:=1) JK.nd (bJ cm (ac 0) (bZ (ae (bJ jC (bi (xq rfl) rfl T.Qh boot_sum (ae (ac 0) ag)) ar) ag))))
   (aq (bC (i:=2) JK.nd (bi (xq rfl) rfl T.Qh boot_sum (ae (iy (own:=["place","cell"]) (capN:=[]) (caps:=[]) ⟨rfl,Lp.all trivial,rfl,by decide,rfl,by decide,trivial,by decide⟩ rfl (zP rfl T.LI (ac 1)) (Dx (by decide)) (fun C s2 H2 fp=>⟨(qP rfl (eI (bV (i:=0) (show(["place","cell"]:ax0).Nodup from by decide)) (eI (bV (i:=1) (show(["place","cell"]:ax0).Nodup from by decide)) nJ))),lA,(bJ lE (ac 0) (ac 1))⟩)) ag)))
   (ak (aW (bJ cm (ac 1) (bZ (ae (bJ jC (ac 2) ar) ag)))))))
def wm:n_ ["thing","top"] ["thing","top"] (i_ m0):=I_
def lv:HK:=(bN (ii (M_ "int" h_) (ii (zC (M_ "bool" h_)) (oE O1 O1 (dI 0) h_ v_))))
def aP:List D->M D:=mF 2 lv
def wB{G:Cs}(T:Txt K mg G){f:Addr}{fd:ax1}(F:IF K "is_whole" "is_whole" m0 f fd):qq7 P w K mg base 1 f fd ["thing","top"] aP:=by
 refine fE F wm fun _ _ _ _ _ _ h=>?_
 exact(ak (aW (kA (fY (ac 0) rfl T.IG rfl T.R8 boot_int (yH _)) (kA (Bv (fY (ac 0) rfl T.IG rfl T.Qe boot_bool (wS _))) (mJ (qa qH qH ar (ac 0) (ac 1)))))))
def Ah:n_ ["thing","top"] ["thing","top"] (i_ qc):=I_
def oS:HK:=(bN (ii (M_ "tuple" h_) (aj vn (aa (dS (Kt h_) (gN 0) hV (aj aP (aa h_ (aa v_ ai))) 1 [1]) ai))))
def b9:List D->M D:=mP 2 oS
def AJ{G:Cs}(T:Txt K mg G)(Jn:qy7 P w K mg base "is_whole" 1 ["thing","top"] aP){f:Addr}{fd:ax1}(F:IF K "is_row" "is_row" qc f fd):qq7 P w K mg base 2 f fd ["thing","top"] b9:=by
 refine fG F Ah fun _ _ _ _ _ _ h=>?_
 exact(ak (aW (kA (fY (ac 0) rfl T.IG rfl T.JD boot_tuple (oz _)) (mJ (bi (AT rfl) rfl T.R7 boot_all (ae (iy (own:=["part"]) (capN:=["top"]) (caps:=[1]) ⟨rfl,Lp.all ⟨rfl,trivial⟩,rfl,by decide,rfl,by decide,⟨⟨rfl,ao3 rfl,ao3 rfl,rfl⟩,trivial⟩,by decide⟩ rfl (d8 (ac 0)) (ip (by decide)) (fun C s2 H2 fp=>⟨(bV (i:=0) (show(["part","top"]:ax0).Nodup from by decide)),lA,(aM Jn h.m rfl aJ (ae (ac 0) (ae (ac 1) ag)) (am (am aF)))⟩)) ag))))))
def wD:n_ ["thing"] ["thing"] (i_ mZ):=I_
def gF:HK:=(aI (IJ (Kn (cZ (bM (M_ "tuple" h_))) (ao (f_ Kc (aj bu (aa h_ ai)) (dI 2)))) (bN (dC (.bl false))) bG)
 (bN (ii (aj aP (aa (f_ w_ h_ (dI 0)) (aa (dI 1) ai))) (ii (aj b9 (aa (f_ w_ h_ (dI 1)) (aa (dC Ij) ai))) (f_ O1 (aj bu (aa (f_ w_ h_ (dI 1)) ai)) (dC Ip))))))
def iH:List D->M D:=mP 1 gF
def wc{G:Cs}(T:Txt K mg G)(Jn:qy7 P w K mg base "is_whole" 1 ["thing","top"] aP)(Ky:qy7 P w K mg base "is_row" 2 ["thing","top"] b9){f:Addr}{fd:ax1}(F:IF K "is_piece" "is_piece" mZ f fd):qq7 P w K mg base 3 f fd ["thing"] iH:=by
 refine fG F wD fun _ _ _ _ _ _ h=>?_
 have u:=h.units;exact(aq (bw (LL.pt (k9 (fz (cE (fY (ac 0) rfl T.IG rfl T.JD boot_tuple (oz _)))) (nA (aD (qD u) (bi df rfl T.Jd boot_len (ae (ac 0) ag)) ar (aL _))))) (ak (aW kP)) aY)
   (ak (aW (kA (aM Jn h.m rfl aJ (ae (aK ID (ac 0) ar (fun _ _=>rfl)) (ae ar ag)) (am (am aF))) (kA (aM Ky h.m rfl aJ (ae (aK ID (ac 0) ar (fun _ _=>rfl)) (ae (dl rfl T.L_) ag)) (am (am aF))) (mJ (qr qH (bi df rfl T.Jd boot_len (ae (aK ID (ac 0) ar (fun _ _=>rfl)) ag)) (dl rfl T.Kw) (aL _))))))))
def wM:n_ ["thing"] ["thing"] (i_ mE):=I_
def gD:HK:=(bN (ii (aj b9 (aa h_ (aa (dI 1) ai))) (f_ O1 (aj bu (aa h_ ai)) (dC JR))))
def jf:List D->M D:=mP 1 gD
def we{G:Cs}(T:Txt K mg G)(Ky:qy7 P w K mg base "is_row" 2 ["thing","top"] b9){f:Addr}{fd:ax1}(F:IF K "are_bits" "are_bits" mE f fd):qq7 P w K mg base 3 f fd ["thing"] jf:=by
 refine fG F wM fun _ _ _ _ _ _ h=>?_
 exact(ak (aW (kA (aM Ky h.m rfl aJ (ae (ac 0) (ae ar ag)) (am (am aF))) (mJ (qr qH (bi df rfl T.Jd boot_len (ae (ac 0) ag)) (dl rfl T.N3) (aL _))))))
def xL:n_ ["thing"] ["thing"] (i_ oN):=I_
def eT:HK:=(aI (IJ (Kn (cZ (bM (M_ "tuple" h_))) (Kn (ao (f_ Kv (aj bu (aa h_ ai)) (dI 2))) (cZ (bM (aj aP (aa (f_ w_ h_ (dI 1)) (aa (dC Ie) ai))))))) (bN (dC (.bl false))) bG)
 (aI (IJ (ao (f_ inD (f_ w_ h_ (dI 0)) (dC eJ))) (bN (f_ HJ (aj bu (aa h_ ai)) (dI 2))) bG)
 (aI (IJ (Kn (ao (f_ Kc (aj bu (aa h_ ai)) (dI 4))) (cZ (bM (aj aP (aa (f_ w_ h_ (dI 2)) (aa (dC HL) ai)))))) (bN (dC (.bl false))) bG)
 (aI (IJ (ao (f_ HJ (f_ w_ h_ (dI 0)) (dT "data"))) (bN (aj iH (aa (f_ w_ h_ (dI 3)) ai))) bG)
 (bN (ii (f_ HJ (f_ w_ h_ (dI 0)) (dT "note")) (aj jf (aa (f_ w_ h_ (dI 3)) ai))))))))
def cS:List D->M D:=mP 1 eT
def xO{G:Cs}(T:Txt K mg G)(Jn:qy7 P w K mg base "is_whole" 1 ["thing","top"] aP)(OF:qy7 P w K mg base "is_piece" 3 ["thing"] iH)(OG:qy7 P w K mg base "are_bits" 3 ["thing"] jf){f:Addr}{fd:ax1}(F:IF K "is_card" "is_card" oN f fd):qq7 P w K mg base 4 f fd ["thing"] cS:=by
 refine fG F xL fun _ _ _ _ _ _ h=>?_
 have u:=h.units;exact(aq (bw (LL.pt (k9 (fz (cE (fY (ac 0) rfl T.IG rfl T.JD boot_tuple (oz _)))) (k9 (aD kT (bi df rfl T.Jd boot_len (ae (ac 0) ag)) ar (aL _)) (nA (fz (cE (aM Jn h.m rfl aJ (ae (aK ID (ac 0) ar (fun _ _=>rfl)) (ae (dl rfl T.MA) ag)) (am (am aF))))))))) (ak (aW kP)) aY)
   (aq (bw (aD (FV u) (aK ID (ac 0) ar (fun _ _=>rfl)) (dl rfl T.Mz.glob) (by with_unfolding_all rfl)) (ak (aW (qr (cr u) (bi df rfl T.Jd boot_len (ae (ac 0) ag)) ar (aL _)))) aY)
   (aq (bw (LL.pt (k9 (aD (qD u) (bi df rfl T.Jd boot_len (ae (ac 0) ag)) ar (aL _)) (nA (fz (cE (aM Jn h.m rfl aJ (ae (aK ID (ac 0) ar (fun _ _=>rfl)) (ae (dl rfl T.Nr) ag)) (am (am aF)))))))) (ak (aW kP)) aY)
   (aq (bw (aD (cr u) (aK ID (ac 0) ar (fun _ _=>rfl)) aN (aL _)) (ak (aW (aM OF h.m rfl aJ (ae (aK ID (ac 0) ar (fun _ _=>rfl)) ag) (am aF)))) aY)
   (ak (aW (kA (qr (cr u) (aK ID (ac 0) ar (fun _ _=>rfl)) aN (aL _)) (mJ (aM OG h.m rfl aJ (ae (aK ID (ac 0) ar (fun _ _=>rfl)) ag) (am aF))))))))))
def LJ:n_ ["card","head"] ["card"] (i_ mW):=I_
def lB:HK:=(aI (cg (ci (aa (nZ d9 (aa (f_ w_ h_ (dI 0)) ai)) (aa (f_ CK (f_ w_ h_ (dI 1)) (dI 256)) (aa (f_ kY (f_ w_ h_ (dI 1)) (dI 256)) ai)))) (gN 1))
 (aI (IJ (ao (f_ HJ (f_ w_ h_ (dI 0)) (dT "data"))) (bN (f_ bI (f_ bI v_ (ci (aa (f_ w_ h_ (dI 2)) (aa (f_ w_ (f_ w_ h_ (dI 3)) (dI 0)) ai)))) (f_ w_ (f_ w_ h_ (dI 3)) (dI 1)))) bG)
 (aI (IJ (ao (f_ HJ (f_ w_ h_ (dI 0)) (dT "note"))) (bN (f_ bI (f_ bI v_ (ci (aa (f_ w_ h_ (dI 2)) ai))) (f_ w_ h_ (dI 3)))) bG)
 (bN v_))))
def kh:List D->M D:=mP 2 lB
def wC{G:Cs}(T:Txt K mg G){f:Addr}{fd:ax1}(F:IF K "cells_of" "cells_of" mW f fd):qq7 P w K mg base 1 f fd ["card"] kh:=by
 refine fG F LJ fun _ _ _ _ _ _ h=>?_
 have u:=h.units;exact(aq (bC (i:=1) LJ.nd (bZ (ae (yy rfl T.Nq (ae (aK ID (ac 0) ar (fun _ _=>rfl)) ag)) (ae (bJ D9 (aK ID (ac 0) ar (fun _ _=>rfl)) ar) (ae (bJ jC (aK ID (ac 0) ar (fun _ _=>rfl)) ar) ag)))))
   (aq (bw (aD (cr u) (aK ID (ac 0) ar (fun _ _=>rfl)) aN (aL _)) (ak (aW (bJ cm (bJ cm (ac 1) (bZ (ae (aK ID (ac 0) ar (fun _ _=>rfl)) (ae (aK ID (aK ID (ac 0) ar (fun _ _=>rfl)) ar (fun _ _=>rfl)) ag)))) (aK ID (aK ID (ac 0) ar (fun _ _=>rfl)) ar (fun _ _=>rfl))))) aY)
   (aq (bw (aD (cr u) (aK ID (ac 0) ar (fun _ _=>rfl)) aN (aL _)) (ak (aW (bJ cm (bJ cm (ac 1) (bZ (ae (aK ID (ac 0) ar (fun _ _=>rfl)) ag))) (aK ID (ac 0) ar (fun _ _=>rfl))))) aY)
   (ak (aW (ac 1))))))
def xC:n_ ["card"] ["card"] (i_ oI):=I_
def mV(G:Cs):HK:=(aI (IJ (cZ (bM (aj cS (aa h_ ai)))) (oK G.Qd (dT "this is no card")) bG)
 (bN (aj cG (aa (aj kh (aa h_ ai)) ai))))
def jZ(G:Cs):List D->M D:=mP 1 (mV G)
def xp{G:Cs}(T:Txt K mg G)(Lz:qy7 P w K mg base "is_card" 4 ["thing"] cS)(OH:qy7 P w K mg base "cells_of" 1 ["card"] kh)(JV:qy7 P w K mg base "with_checks" 1 ["cells"] cG){f:Addr}{fd:ax1}(F:IF K "written" "written" oI f fd):qq7 P w K mg base 5 f fd ["card"] (jZ G):=by
 refine fG F xC fun _ _ _ _ _ _ h=>?_
 exact(aq (bw (fz (cE (aM Lz h.m rfl aJ (ae (ac 0) ag) (am aF)))) (ak (ny T.Qi rfl rfl aN)) aY)
   (ak (aW (aM JV h.m rfl aJ (ae (aM OH h.m rfl aJ (ae (ac 0) ag) (am aF)) ag) (am aF)))))
def Jz:n_ ["self","road","cards","card"] ["self","road","cards"] (i_ eU):=I_
def dO(G:Cs):HK:=(bx (KU iN (f_ iW (aC G.World u_ 2 h_) v_) (aa (ci (aa (aj (jZ G) (aa H_ ai)) (aa (dC (.bl false)) ai))) ai)))
def eD(G:Cs):HK:=(og (Kt Ic) (gN 3) (dO G))
def bW(G:Cs):List D->M D:=mF 4 (eD G)
def md{G:Cs}(T:Txt K mg G)(Pt:qy7 P w K mg base "written" 5 ["card"] (jZ G)){f:Addr}{fd:ax1}(F:IF K "put_behind" "World.put_behind" eU f fd):qq7 P w K mg base 6 f fd ["self","road","cards"] (bW G):=by
 refine fE F Jz fun _ _ _ _ _ _ h=>?_
 have u:=h.units;exact(ak (kD rfl (d8 (ac 2)) (bV (i:=3) Jz.nd) (ak (aU (dw ac4 ac5 cH (aK (uK u) (aH T.z_ T.HF cx (ac 0)) (ac 1) (fun _ _=>rfl)) (ae (bZ (ae (aM Pt h.m rfl aJ (ae (ac 3) ag) (am aF)) (ae kP ag))) ag))))))
def va:n_ ["index","window"] ["index","window"] (i_ lC):=I_
def nP:HK:=(bN (f_ kY h_ (f_ ik (dI 2) v_)))
def d5:List D->M D:=mF 2 nP
def uH{G:Cs}(T:Txt K mg G){f:Addr}{fd:ax1}(F:IF K "number_of" "number_of" lC f fd):qq7 P w K mg base 1 f fd ["index","window"] d5:=by
 refine fE F va fun _ _ _ _ _ _ h=>?_
 exact(ak (aW (bJ jC (ac 0) (bJ lE ar (ac 1)))))
def nc:n_ ["self","index"] ["self","index"] (i_ fT):=I_
def fm(G:Cs):HK:=(bN (ci (aa (dT "data") (aa (aC G.c_ a_ 4 h_) (aa (aj d5 (aa v_ (aa (aC G.c_ a_ 0 h_) ai))) (aa (f_ w_ (aC G.c_ a_ 6 h_) v_) ai))))))
def dj(G:Cs):List D->M D:=mF 2 (fm G)
def nz{G:Cs}(T:Txt K mg G)(Kz:qy7 P w K mg base "number_of" 1 ["index","window"] d5){f:Addr}{fd:ax1}(F:IF K "data_of" "Sender.data_of" fT f fd):qq7 P w K mg base 2 f fd ["self","index"] (dj G):=by
 refine fE F nc fun _ _ _ _ _ _ h=>?_
 exact(ak (aW (bZ (ae aN (ae (aH T.j_ T.Iq aG (ac 0)) (ae (aM Kz h.m rfl aJ (ae (ac 1) (ae (aH T.j_ T.Ih aG (ac 0)) ag)) (am (am aF))) (ae (aK ID (aH T.j_ T.HA aG (ac 0)) (ac 1) (fun _ _=>rfl)) ag)))))))
def Kf:n_ ["self","end"] ["self"] (i_ gZ):=I_
def fR(G:Cs):HK:=(aI (cg (aj AH (aa (f_ bI (aC G.c_ a_ 7 h_) (aC G.c_ a_ 0 h_)) (aa (aj bu (aa (aC G.c_ a_ 6 h_) ai)) ai))) (gN 1))
 (bN (dS (zr (aC G.c_ a_ 7 h_) v_) (gN 0) (ao (f_ fu h_ (aC G.c_ a_ 8 v_))) h_ 1 [0])))
def dG(G:Cs):List D->M D:=mF 2 (fR G)
def n8{G:Cs}(T:Txt K mg G){f:Addr}{fd:ax1}(F:IF K "wanted" "Sender.wanted" gZ f fd):qq7 P w K mg base 1 f fd ["self"] (dG G):=by
 refine fE F Kf fun _ _ _ _ _ _ h=>?_
 have u:=h.units;exact(aq (bC (i:=1) Kf.nd (bi (B4 rfl) rfl T.R9 boot_min (ae (bJ cm (aH T.j_ T.HE aG (ac 0)) (aH T.j_ T.Ih aG (ac 0))) (ae (bi df rfl T.Jd boot_len (ae (aH T.j_ T.HA aG (ac 0)) ag)) ag))))
   (ak (aW (iy (own:=["index"]) (capN:=["self"]) (caps:=[0]) ⟨rfl,Lp.all ⟨rfl,trivial⟩,rfl,by decide,rfl,by decide,⟨⟨rfl,ao3 rfl,ao3 rfl,rfl⟩,trivial⟩,by decide⟩ rfl (yn rfl T.LU (aH T.j_ T.HE aG (ac 0)) (ac 1)) (ip (by decide)) (fun C s2 H2 fp=>⟨(bV (i:=0) (show(["index","self"]:ax0).Nodup from by decide)),(A8 (aD (tK u) (ac 0) (aH T.j_ T.IY aG (ac 1)) (by with_unfolding_all rfl))),(ac 0)⟩)))))
def qy:n_ ["self"] ["self"] (i_ jp):=I_
def iL(G:Cs):HK:=(aI (IJ (ao (f_ HJ (aC G.c_ a_ 5 h_) (dT "opening"))) (bN (bT (aa (ci (aa (dT "hello") (aa (aC G.c_ a_ 4 h_) ai))) ai))) bG)
 (aI (IJ (ao (f_ HJ (aC G.c_ a_ 5 h_) (dT "open"))) (bN (dS (Kt (br G.c_ a_ (dG G) h_ ai)) (gN 0) hV (br G.c_ a_ (dj G) v_ (aa h_ ai)) 1 [0])) bG)
 (bN (bT ai))))
def gy(G:Cs):List D->M D:=mF 1 (iL G)
def rQ{G:Cs}(T:Txt K mg G)(LO:qz7 P w K mg base G.c_ "wanted" 1 ["self"] (dG G))(LB:qz7 P w K mg base G.c_ "data_of" 2 ["self","index"] (dj G)){f:Addr}{fd:ax1}(F:IF K "tick" "Sender.tick" jp f fd):qq7 P w K mg base 3 f fd ["self"] (gy G):=by
 refine fE F qy fun _ _ _ _ _ _ h=>?_
 have u:=h.units;exact(aq (bw (aD (cr u) (aH T.j_ T.F_ aG (ac 0)) aN (aL _)) (ak (aW (bX (ae (bZ (ae aN (ae (aH T.j_ T.Iq aG (ac 0)) ag))) ag)))) aY)
   (aq (bw (aD (cr u) (aH T.j_ T.F_ aG (ac 0)) aN (aL _)) (ak (aW (iy (own:=["index"]) (capN:=["self"]) (caps:=[0]) ⟨rfl,Lp.all ⟨rfl,trivial⟩,rfl,by decide,rfl,by decide,⟨⟨rfl,ao3 rfl,ao3 rfl,rfl⟩,trivial⟩,by decide⟩ rfl (d8 (dB LO h.m T.j_ (by decide) aJ (ac 0))) (ip (by decide)) (fun C s2 H2 fp=>⟨(bV (i:=0) (show(["index","self"]:ax0).Nodup from by decide)),lA,(bO LB h.m T.j_ (by decide) aJ (ac 1) (ae (ac 0) ag) (eV (am aF)))⟩)))) aY)
   (ak (aW (bX ag)))))
def sD:n_ ["self"] ["self"] (i_ kF):=I_
def jt(G:Cs):HK:=(bx (br G.World u_ (bW G) h_ (aa (dT "there") (aa (br G.c_ a_ (gy G) (aC G.World u_ 0 h_) ai) ai))))
def io(G:Cs):List D->M D:=mF 1 (jt G)
def si{G:Cs}(T:Txt K mg G)(MC:qz7 P w K mg base G.c_ "tick" 3 ["self"] (gy G))(II:qz7 P w K mg base G.World "put_behind" 6 ["self","road","cards"] (bW G)){f:Addr}{fd:ax1}(F:IF K "tick" "World.tick" kF f fd):qq7 P w K mg base 7 f fd ["self"] (io G):=by
 refine fE F sD fun _ _ _ _ _ _ h=>?_
 exact(ak (aU (bO II h.m T.z_ (by decide) aJ (ac 0) (ae aN (ae (dB MC h.m T.j_ (by decide) aJ (aH T.z_ T.Io cx (ac 0))) ag)) (eV (am (am aF))))))
def m5:n_ ["self","road","k"] ["self","road","k"] (i_ fj):=I_
def eO(G:Cs):HK:=(bN (oE O1 Kv (dI 0) Ic (aj bu (aa (f_ iW (aC G.World u_ 2 h_) v_) ai))))
def aR(G:Cs):List D->M D:=mF 3 (eO G)
def mK{G:Cs}(T:Txt K mg G){f:Addr}{fd:ax1}(F:IF K "has_strip" "World.has_strip" fj f fd):qq7 P w K mg base 1 f fd ["self","road","k"] (aR G):=by
 refine fE F m5 fun _ _ _ _ _ _ h=>?_
 have u:=h.units;exact(ak (aW (qa qH kT ar (ac 2) (bi df rfl T.Jd boot_len (ae (aK (uK u) (aH T.z_ T.HF cx (ac 0)) (ac 1) (fun _ _=>rfl)) ag)))))
def JE:n_ ["cells","kind","opening","rest"] ["cells"] (i_ lg):=I_
def ff:HK:=(aI (cg (f_ w_ (dC d9) (f_ w_ h_ (dI 0))) (gN 1))
 (aI (cg (f_ bI (f_ ik (f_ w_ h_ (dI 1)) (dI 256)) (f_ w_ h_ (dI 2))) (gN 2))
 (aI (cg (Kb Jo h_ (bA (dC HM)) bK) (gN 3))
 (aI (IJ (dc (ao (f_ HJ v_ (dT "data"))) (ao (f_ L8 (aj bu (aa H_ ai)) (dI 2)))) (bN (ci (aa v_ (aa Ic (aa (f_ w_ H_ (dI 0)) (aa (ci (aa (f_ w_ H_ (dI 1)) (aa (Kb Jo H_ (bA (dI 2)) bK) ai))) ai)))))) bG)
 (aI (IJ (dc (ao (f_ HJ v_ (dT "note"))) (ao (f_ L8 (aj bu (aa H_ ai)) (dI 1)))) (bN (ci (aa v_ (aa Ic (aa (f_ w_ H_ (dI 0)) (aa (Kb Jo H_ (bA (dI 1)) bK) ai)))))) bG)
 (bN (f_ bI (ci (aa v_ (aa Ic ai))) H_)))))))
def gC:List D->M D:=mP 4 ff
def vg{G:Cs}(T:Txt K mg G){f:Addr}{fd:ax1}(F:IF K "card_from" "card_from" lg f fd):qq7 P w K mg base 1 f fd ["cells"] gC:=by
 refine fG F JE fun _ _ _ _ _ _ h=>?_
 have u:=h.units;exact(aq (bC (i:=1) JE.nd (aK ID (dl rfl T.Nq.glob) (aK ID (ac 0) ar (fun _ _=>rfl)) (fun _ _=>rfl)))
   (aq (bC (i:=2) JE.nd (bJ cm (bJ lE (aK ID (ac 0) ar (fun _ _=>rfl)) ar) (aK ID (ac 0) ar (fun _ _=>rfl))))
   (aq (bC (i:=3) JE.nd (d6 P5 (ac 0) (cU (dl rfl T.Lq)) gE))
   (aq (bw (LL.pt (ei (aD (cr u) (ac 1) aN (aL _)) (dF (aD zB (bi df rfl T.Jd boot_len (ae (ac 3) ag)) ar (aL _))))) (ak (aW (bZ (ae (ac 1) (ae (ac 2) (ae (aK ID (ac 3) ar (fun _ _=>rfl)) (ae (bZ (ae (aK ID (ac 3) ar (fun _ _=>rfl)) (ae (d6 P5 (ac 3) (cU ar) gE) ag))) ag))))))) aY)
   (aq (bw (LL.pt (ei (aD (cr u) (ac 1) aN (aL _)) (dF (aD zB (bi df rfl T.Jd boot_len (ae (ac 3) ag)) ar (aL _))))) (ak (aW (bZ (ae (ac 1) (ae (ac 2) (ae (aK ID (ac 3) ar (fun _ _=>rfl)) (ae (d6 P5 (ac 3) (cU ar) gE) ag))))))) aY)
   (ak (aW (bJ cm (bZ (ae (ac 1) (ae (ac 2) ag))) (ac 3)))))))))
def Nt:n_ ["strip","cells","card"] ["strip"] (i_ yk):=I_
def nj(G:Cs):HK:=(aI (IJ (Kn (cZ (bM (aj b9 (aa h_ (aa (dC Ij) ai))))) (Kn (ao (f_ Kv (aj bu (aa h_ ai)) (f_ bI (dC HM) (dC HD)))) (ao (f_ L8 (f_ w_ h_ (dI 0)) (aj bu (aa (dC d9) ai)))))) (oK G.IS (dT "these are not the cells of a strip")) bG)
 (aI (cg (Kb Jo h_ bK (bA (P8 uU (dC HD)))) (gN 1))
 (aI (IJ (ao (f_ Kc h_ (aj cG (aa v_ ai)))) (oK G.IS (dT "the checks do not fit the cells")) bG)
 (aI (cg (aj gC (aa v_ ai)) (gN 2))
 (aI (IJ (cZ (bM (aj cS (aa Ic ai)))) (oK G.IS (dT "the cells tell no card")) bG)
 (bN Ic))))))
def lG(G:Cs):List D->M D:=mP 3 (nj G)
def Dn{G:Cs}(T:Txt K mg G)(Ky:qy7 P w K mg base "is_row" 2 ["thing","top"] b9)(JV:qy7 P w K mg base "with_checks" 1 ["cells"] cG)(N4:qy7 P w K mg base "card_from" 1 ["cells"] gC)(Lz:qy7 P w K mg base "is_card" 4 ["thing"] cS){f:Addr}{fd:ax1}(F:IF K "read" "read" yk f fd):qq7 P w K mg base 5 f fd ["strip"] (lG G):=by
 refine fG F Nt fun _ _ _ _ _ _ h=>?_
 have u:=h.units;exact(aq (bw (LL.pt (k9 (fz (cE (aM Ky h.m rfl aJ (ae (ac 0) (ae (dl rfl T.L_) ag)) (am (am aF))))) (k9 (aD kT (bi df rfl T.Jd boot_len (ae (ac 0) ag)) (bJ cm (dl rfl T.Lq) (dl rfl T.K3)) (aL _)) (nA (aD zB (aK ID (ac 0) ar (fun _ _=>rfl)) (bi df rfl T.Jd boot_len (ae (dl rfl T.Nq.glob) ag)) (aL _)))))) (ak (ny T.KN rfl rfl aN)) aY)
   (aq (bC (i:=1) Nt.nd (d6 P5 (ac 0) gE (cU (Bu xz (dl rfl T.K3)))))
   (aq (bw (aD (qD u) (ac 0) (aM JV h.m rfl aJ (ae (ac 1) ag) (am aF)) (aL _)) (ak (ny T.KN rfl rfl aN)) aY)
   (aq (bC (i:=2) Nt.nd (aM N4 h.m rfl aJ (ae (ac 1) ag) (am aF)))
   (aq (bw (fz (cE (aM Lz h.m rfl aJ (ae (ac 2) ag) (am aF)))) (ak (ny T.KN rfl rfl aN)) aY)
   (ak (aW (ac 2))))))))
def pA:n_ ["self","opening"] ["self","opening"] (i_ iE):=I_
def gW(G:Cs):HK:=(aI (j7 G.g_ d_ 2 h_ v_)
 (aI (j7 G.g_ d_ 3 h_ (dI 0))
 (aI (j7 G.g_ d_ 4 h_ kR)
 (j7 G.g_ d_ 5 h_ (bT ai)))))
def cK(G:Cs):List D->M D:=mF 2 (gW G)
def pB{G:Cs}(T:Txt K mg G){f:Addr}{fd:ax1}(F:IF K "begin" "Hearer.begin" iE f fd):qq7 P w K mg base 1 f fd ["self","opening"] (cK G):=by
 refine fE F pA fun _ _ _ _ _ _ h=>?_
 exact(aq (gQ T.o_ T.HC aV (by decide) (ac 0) (ac 1))
   (aq (gQ T.o_ T.B_ aV (by decide) (ac 0) ar)
   (aq (gQ T.o_ T.HX aV (by decide) (ac 0) pU)
   (ak (gQ T.o_ T.IK aV (by decide) (ac 0) (bX ag))))))
def kZ:n_ ["self","opening"] ["self","opening"] (i_ d7):=I_
def dN(G:Cs):HK:=(aI (IJ (ao (f_ Kv v_ (aC G.g_ d_ 2 h_))) (bN (bT ai)) bG)
 (aI (IJ (ao (f_ PK v_ (aC G.g_ d_ 2 h_))) (bx (br G.g_ d_ (cK G) h_ (aa v_ ai))) bG)
 (bN (bT (aa (ci (aa (dT "welcome") (aa v_ ai))) ai)))))
def cy(G:Cs):List D->M D:=mF 2 (dN G)
def kX{G:Cs}(T:Txt K mg G)(JL:qz7 P w K mg base G.g_ "begin" 1 ["self","opening"] (cK G)){f:Addr}{fd:ax1}(F:IF K "hears_hello" "Hearer.hears_hello" d7 f fd):qq7 P w K mg base 2 f fd ["self","opening"] (cy G):=by
 refine fE F kZ fun _ _ _ _ _ _ h=>?_
 exact(aq (bw (aD kT (ac 1) (aH T.o_ T.HC aV (ac 0)) (aL _)) (ak (aW (bX ag))) aY)
   (aq (bw (aD yN (ac 1) (aH T.o_ T.HC aV (ac 0)) (aL _)) (ak (aU (bO JL h.m T.o_ (by decide) aJ (ac 0) (ae (ac 1) ag) (eV (am aF))))) aY)
   (ak (aW (bX (ae (bZ (ae aN (ae (ac 1) ag))) ag))))))
def sN:n_ ["number","window"] ["number","window"] (i_ j8):=I_
def jr:HK:=(bN (oE O1 Kv (dI 0) h_ (f_ ik (dI 2) v_)))
def cb:List D->M D:=mF 2 jr
def sd{G:Cs}(T:Txt K mg G){f:Addr}{fd:ax1}(F:IF K "goes_round" "goes_round" j8 f fd):qq7 P w K mg base 1 f fd ["number","window"] cb:=by
 refine fE F sN fun _ _ _ _ _ _ h=>?_
 exact(ak (aW (qa qH kT ar (ac 0) (bJ lE ar (ac 1)))))
def sJ:n_ ["number","low","window"] ["number","low","window"] (i_ km):=I_
def jv:HK:=(bN (f_ bI v_ (f_ kY (f_ sk h_ v_) (f_ ik (dI 2) Ic))))
def cu:List D->M D:=mF 3 jv
def rZ{G:Cs}(T:Txt K mg G){f:Addr}{fd:ax1}(F:IF K "index_near" "index_near" km f fd):qq7 P w K mg base 1 f fd ["number","low","window"] cu:=by
 refine fE F sJ fun _ _ _ _ _ _ h=>?_
 exact(ak (aW (bJ cm (ac 1) (bJ jC (bJ xk (ac 0) (ac 1)) (bJ lE ar (ac 2))))))
def KA:n_ ["self","number","piece","index"] ["self","number","piece"] (i_ jJ):=I_
def je(G:Cs):HK:=(IJ (bM (aj cb (aa v_ (aa (aC G.g_ d_ 0 h_) ai)))) (aI (cg (aj cu (aa v_ (aa (f_ sk (aC G.g_ d_ 3 h_) (aC G.g_ d_ 0 h_)) (aa (aC G.g_ d_ 0 h_) ai)))) (gN 3))
 (IJ (dc (ao (f_ L8 H_ (aC G.g_ d_ 3 h_))) (ao (f_ fu H_ (aC G.g_ d_ 4 h_)))) (xb qk (aC G.g_ d_ 4 h_) H_ Ic) bG)) bG)
def gA(G:Cs):List D->M D:=mF 4 (je G)
def qO{G:Cs}(T:Txt K mg G)(Kl:qy7 P w K mg base "goes_round" 1 ["number","window"] cb)(Km:qy7 P w K mg base "index_near" 1 ["number","low","window"] cu){f:Addr}{fd:ax1}(F:IF K "keep" "Hearer.keep" jJ f fd):qq7 P w K mg base 2 f fd ["self","number","piece"] (gA G):=by
 refine fE F KA fun _ _ _ _ _ _ h=>?_
 have u:=h.units;exact(ak (bw (cE (aM Kl h.m rfl aJ (ae (ac 1) (ae (aH T.o_ T.Ig aV (ac 0)) ag)) (am (am aF)))) (aq (bC (i:=3) KA.nd (aM Km h.m rfl aJ (ae (ac 1) (ae (bJ xk (aH T.o_ T.B_ aV (ac 0)) (aH T.o_ T.Ig aV (ac 0))) (ae (aH T.o_ T.Ig aV (ac 0)) ag))) (am (am (am aF)))))
   (ak (bw (LL.pt (ei (aD zB (ac 3) (aH T.o_ T.B_ aV (ac 0)) (aL _)) (dF (aD (tK u) (ac 3) (aH T.o_ T.HX aV (ac 0)) (by with_unfolding_all rfl))))) (ak (vp (zx u) (aH T.o_ T.HX aV (ac 0)) (ac 3) (ac 2))) aY))) aY))
def JW:n_ ["pieces","letters","piece"] ["pieces"] (i_ ke):=I_
def pK:HK:=(bx (KU sG v_ (aa (f_ w_ Ic (dI 1)) ai)))
def ju:HK:=(aI (cg (bT ai) (gN 1))
 (aI (og (Kt h_) (gN 2) pK)
 (bN (aj gR (aa v_ ai)))))
def eu:List D->M D:=mP 3 ju
def sC{G:Cs}(T:Txt K mg G){f:Addr}{fd:ax1}(F:IF K "letters_of" "letters_of" ke f fd):qq7 P w K mg base 1 f fd ["pieces"] eu:=by
 refine fG F JW fun _ _ _ _ _ _ h=>?_
 exact(aq (bC (i:=1) JW.nd (bX ag))
   (aq (kD rfl (d8 (ac 0)) (bV (i:=2) JW.nd) (ak (aU (dw au4 au5 oW (ac 1) (ae (aK ID (ac 2) ar (fun _ _=>rfl)) ag)))))
   (ak (aW (gi j3 rfl T.JD boot_tuple (ae (ac 1) ag))))))
def rM:n_ ["self","piece"] ["self","piece"] (i_ jA):=I_
def iK(G:Cs):HK:=(aI (bx (KU iN (aC G.g_ d_ 5 h_) (aa v_ ai)))
 (IJ (ao (f_ HJ (f_ w_ v_ (dI 0)) (dI 1))) (aI (bx (KU iN (aC G.g_ d_ 1 h_) (aa (ci (aa (aC G.g_ d_ 2 h_) (aa (aj eu (aa (aC G.g_ d_ 5 h_) ai)) ai))) ai)))
 (j7 G.g_ d_ 5 h_ (bT ai))) bG))
def gx(G:Cs):List D->M D:=mF 2 (iK G)
def qx{G:Cs}(T:Txt K mg G)(Nu:qy7 P w K mg base "letters_of" 1 ["pieces"] eu){f:Addr}{fd:ax1}(F:IF K "take" "Hearer.take" jA f fd):qq7 P w K mg base 2 f fd ["self","piece"] (gx G):=by
 refine fE F rM fun _ _ _ _ _ _ h=>?_
 have u:=h.units;exact(aq (aU (dw ac4 ac5 cH (aH T.o_ T.IK aV (ac 0)) (ae (ac 1) ag)))
   (ak (bw (aD (cr u) (aK ID (ac 1) ar (fun _ _=>rfl)) ar (aL _)) (aq (aU (dw ac4 ac5 cH (aH T.o_ T.Jt aV (ac 0)) (ae (bZ (ae (aH T.o_ T.HC aV (ac 0)) (ae (aM Nu h.m rfl aJ (ae (aH T.o_ T.IK aV (ac 0)) ag) (am aF)) ag))) ag)))
   (ak (gQ T.o_ T.IK aV (by decide) (ac 0) (bX ag)))) aY)))
def JM:n_ ["self","piece"] ["self"] (i_ fJ):=I_
def cq(G:Cs)(fuel:Nat):HK:=(fV (ao (f_ qN (aC G.g_ d_ 3 h_) (aC G.g_ d_ 4 h_))) (aI (cg (zZ vH (aC G.g_ d_ 4 h_) (aa (aC G.g_ d_ 3 h_) ai)) (gN 1))
 (aI (o9 G.g_ d_ 3 h_ (dI 1))
 (bx (br G.g_ d_ (gx G) h_ (aa v_ ai))))) fuel)
def dU(G:Cs):List D->M D:=fun xs S=>fin S (cq G 1000000 (xs.map some++replicate (2-xs.length) none) S)
def mH{G:Cs}(T:Txt K mg G)(MD:qz7 P w K mg base G.g_ "take" 2 ["self","piece"] (gx G)){f:Addr}{fd:ax1}(F:IF K "take_all" "Hearer.take_all" fJ f fd):qq7 P w K mg base 3 f fd ["self"] (dU G):=by
 refine fE F JM fun HG A outer s H E h=>?_
 have u:=h.units;have Xt:(1000000:Nat)=1000000:=rfl
 generalize hfe:(1000000:Nat)=fuel at Xt
 exact(ak (vI fuel (aD (CH u) (aH T.o_ T.B_ aV (ac 0)) (aH T.o_ T.HX aV (ac 0)) (by with_unfolding_all rfl)) (aq (bC (i:=1) JM.nd (Fb PySem.F.slot_dict_pop PySem.F.type_dict_pop DT (aH T.o_ T.HX aV (ac 0)) (ae (aH T.o_ T.B_ aV (ac 0)) ag)))
   (aq (vq T.o_ T.B_ aV (by decide) (ac 0) ar)
   (ak (aU (bO MD h.m T.o_ (by decide) aJ (ac 0) (ae (ac 1) ag) (eV (am aF)))))))))
def KC:n_ ["self","bits"] ["self"] (i_ jB):=I_
def jc(G:Cs):HK:=(aI (cg (aj gR (aa (dS (o6 (aC G.g_ d_ 0 h_)) (gN 0) hV (UE (ao (f_ qN (f_ bI (aC G.g_ d_ 3 v_) h_) (aC G.g_ d_ 4 v_))) (dI 1) (dI 0)) 1 [0]) ai)) (gN 1))
 (bN (ci (aa (dT "note") (aa (aC G.g_ d_ 2 h_) (aa (aj d5 (aa (aC G.g_ d_ 3 h_) (aa (aC G.g_ d_ 0 h_) ai))) (aa v_ ai)))))))
def gm(G:Cs):List D->M D:=mF 2 (jc G)
def rj{G:Cs}(T:Txt K mg G)(Kz:qy7 P w K mg base "number_of" 1 ["index","window"] d5){f:Addr}{fd:ax1}(F:IF K "note" "Hearer.note" jB f fd):qq7 P w K mg base 2 f fd ["self"] (gm G):=by
 refine fE F KC fun _ _ _ _ _ _ h=>?_
 have u:=h.units;exact(aq (bC (i:=1) KC.nd (gi j3 rfl T.JD boot_tuple (ae (iy (own:=["k"]) (capN:=["self"]) (caps:=[0]) ⟨rfl,Lp.all ⟨rfl,trivial⟩,rfl,by decide,rfl,by decide,⟨⟨rfl,ao3 rfl,ao3 rfl,rfl⟩,trivial⟩,by decide⟩ rfl (my rfl T.LU (aH T.o_ T.Ig aV (ac 0))) (ip (by decide)) (fun C s2 H2 fp=>⟨(bV (i:=0) (show(["k","self"]:ax0).Nodup from by decide)),lA,(BF (aD (CH u) (bJ cm (aH T.o_ T.B_ aV (ac 1)) (ac 0)) (aH T.o_ T.HX aV (ac 1)) (by with_unfolding_all rfl)) ar ar)⟩)) ag)))
   (ak (aW (bZ (ae aN (ae (aH T.o_ T.HC aV (ac 0)) (ae (aM Kz h.m rfl aJ (ae (aH T.o_ T.B_ aV (ac 0)) (ae (aH T.o_ T.Ig aV (ac 0)) ag)) (am (am aF))) (ae (ac 1) ag))))))))
def lD:n_ ["self","opening","number","piece"] ["self","opening","number","piece"] (i_ eE):=I_
def dX(G:Cs):HK:=(aI (IJ (ao (f_ Kv v_ (aC G.g_ d_ 2 h_))) (bN (bT ai)) bG)
 (aI (IJ (ao (f_ PK v_ (aC G.g_ d_ 2 h_))) (bN (bT (aa (ci (aa (dT "who") (aa v_ ai))) ai))) bG)
 (aI (bx (br G.g_ d_ (gA G) h_ (aa Ic (aa H_ ai))))
 (aI (bx (br G.g_ d_ (dU G) h_ ai))
 (bN (bT (aa (br G.g_ d_ (gm G) h_ ai) ai)))))))
def cC(G:Cs):List D->M D:=mF 4 (dX G)
def lF{G:Cs}(T:Txt K mg G)(ME:qz7 P w K mg base G.g_ "keep" 2 ["self","number","piece"] (gA G))(Lr:qz7 P w K mg base G.g_ "take_all" 3 ["self"] (dU G))(MF:qz7 P w K mg base G.g_ "note" 2 ["self"] (gm G)){f:Addr}{fd:ax1}(F:IF K "hears_data" "Hearer.hears_data" eE f fd):qq7 P w K mg base 4 f fd ["self","opening","number","piece"] (cC G):=by
 refine fE F lD fun _ _ _ _ _ _ h=>?_
 exact(aq (bw (aD kT (ac 1) (aH T.o_ T.HC aV (ac 0)) (aL _)) (ak (aW (bX ag))) aY)
   (aq (bw (aD yN (ac 1) (aH T.o_ T.HC aV (ac 0)) (aL _)) (ak (aW (bX (ae (bZ (ae aN (ae (ac 1) ag))) ag)))) aY)
   (aq (aU (bO ME h.m T.o_ (by decide) aJ (ac 0) (ae (ac 2) (ae (ac 3) ag)) (eV (am (am aF)))))
   (aq (aU (dB Lr h.m T.o_ (by decide) aJ (ac 0)))
   (ak (aW (bX (ae (dB MF h.m T.o_ (by decide) aJ (ac 0)) ag))))))))
def pN:n_ ["self","card"] ["self","card"] (i_ iM):=I_
def gY(G:Cs):HK:=(aI (IJ (ao (f_ HJ (f_ w_ v_ (dI 0)) (dT "hello"))) (bN (br G.g_ d_ (cy G) h_ (aa (f_ w_ v_ (dI 1)) ai))) bG)
 (aI (IJ (ao (f_ HJ (f_ w_ v_ (dI 0)) (dT "data"))) (bN (br G.g_ d_ (cC G) h_ (aa (f_ w_ v_ (dI 1)) (aa (f_ w_ v_ (dI 2)) (aa (f_ w_ v_ (dI 3)) ai))))) bG)
 (bN (bT ai))))
def fM(G:Cs):List D->M D:=mF 2 (gY G)
def pL{G:Cs}(T:Txt K mg G)(KD:qz7 P w K mg base G.g_ "hears_hello" 2 ["self","opening"] (cy G))(KW:qz7 P w K mg base G.g_ "hears_data" 4 ["self","opening","number","piece"] (cC G)){f:Addr}{fd:ax1}(F:IF K "hears" "Hearer.hears" iM f fd):qq7 P w K mg base 5 f fd ["self","card"] (fM G):=by
 refine fE F pN fun _ _ _ _ _ _ h=>?_
 have u:=h.units;exact(aq (bw (aD (cr u) (aK ID (ac 1) ar (fun _ _=>rfl)) aN (aL _)) (ak (aW (bO KD h.m T.o_ (by decide) aJ (ac 0) (ae (aK ID (ac 1) ar (fun _ _=>rfl)) ag) (eV (am aF))))) aY)
   (aq (bw (aD (cr u) (aK ID (ac 1) ar (fun _ _=>rfl)) aN (aL _)) (ak (aW (bO KW h.m T.o_ (by decide) aJ (ac 0) (ae (aK ID (ac 1) ar (fun _ _=>rfl)) (ae (aK ID (ac 1) ar (fun _ _=>rfl)) (ae (aK ID (ac 1) ar (fun _ _=>rfl)) ag))) (eV (am (am (am aF))))))) aY)
   (ak (aW (bX ag)))))
def JA:n_ ["self","message"] ["self"] (i_ eW):=I_
def dP(G:Cs):HK:=(bx (KU sG (aC G.c_ a_ 6 h_) (aa (aj dn (aa v_ (aa (aC G.c_ a_ 1 h_) ai))) ai)))
def eF(G:Cs):HK:=(aI (o9 G.c_ a_ 4 h_ (dI 1))
 (aI (j7 G.c_ a_ 5 h_ (dT "opening"))
 (aI (j7 G.c_ a_ 6 h_ (bT ai))
 (aI (og (Kt (Kb Jo (aC G.c_ a_ 2 h_) (bA (aC G.c_ a_ 3 h_)) bK)) (gN 1) (dP G))
 (aI (j7 G.c_ a_ 7 h_ (dI 0))
 (j7 G.c_ a_ 8 h_ kR))))))
def bR(G:Cs):List D->M D:=mF 2 (eF G)
def mh{G:Cs}(T:Txt K mg G)(Kx:qy7 P w K mg base "pieces_of" 1 ["message","most"] dn){f:Addr}{fd:ax1}(F:IF K "open_anew" "Sender.open_anew" eW f fd):qq7 P w K mg base 2 f fd ["self"] (bR G):=by
 refine fE F JA fun _ _ _ _ _ _ h=>?_
 exact(aq (vq T.j_ T.Iq aG (by decide) (ac 0) ar)
   (aq (gQ T.j_ T.F_ aG (by decide) (ac 0) aN)
   (aq (gQ T.j_ T.HA aG (by decide) (ac 0) (bX ag))
   (aq (kD rfl (d8 (d6 P5 (aH T.j_ T.Ja aG (ac 0)) (cU (aH T.j_ T.JJ aG (ac 0))) gE)) (bV (i:=1) JA.nd) (ak (aU (dw au4 au5 oW (aH T.j_ T.HA aG (ac 0)) (ae (aM Kx h.m rfl aJ (ae (ac 1) (ae (aH T.j_ T.JI aG (ac 0)) ag)) (am (am aF))) ag)))))
   (aq (gQ T.j_ T.HE aG (by decide) (ac 0) ar)
   (ak (gQ T.j_ T.IY aG (by decide) (ac 0) pU)))))))
def mf:n_ ["self","index"] ["self","index"] (i_ eQ):=I_
def eA(G:Cs):HK:=(aI (o9 G.c_ a_ 3 h_ (aj oR (aa (dS (Kt (Kb Jo (aC G.c_ a_ 6 h_) (bA (aC G.c_ a_ 7 h_)) (bA v_))) (gN 0) hV (f_ w_ h_ (dI 0)) 1 []) ai)))
 (j7 G.c_ a_ 7 h_ v_))
def du(G:Cs):List D->M D:=mF 2 (eA G)
def mj{G:Cs}(T:Txt K mg G){f:Addr}{fd:ax1}(F:IF K "move_base" "Sender.move_base" eQ f fd):qq7 P w K mg base 1 f fd ["self","index"] (du G):=by
 refine fE F mf fun _ _ _ _ _ _ h=>?_
 exact(aq (vq T.j_ T.JJ aG (by decide) (ac 0) (bi (xq rfl) rfl T.Qh boot_sum (ae (iy (own:=["piece"]) (capN:=[]) (caps:=[]) ⟨rfl,Lp.all trivial,rfl,by decide,rfl,by decide,trivial,by decide⟩ rfl (d8 (d6 P5 (aH T.j_ T.HA aG (ac 0)) (cU (aH T.j_ T.HE aG (ac 0))) (cU (ac 1)))) (ip (by decide)) (fun C s2 H2 fp=>⟨(bV (i:=0) (show(["piece"]:ax0).Nodup from by decide)),lA,(aK ID (ac 0) ar (fun _ _=>rfl))⟩)) ag)))
   (ak (gQ T.j_ T.HE aG (by decide) (ac 0) (ac 1))))
def IM:n_ ["self","bits","k","bit"] ["self","bits"] (i_ dY):=I_
def cA(G:Cs):HK:=(IJ (dc (ao (f_ HJ H_ (dI 1))) (ao (f_ Kv (f_ bI (aC G.c_ a_ 7 h_) Ic) (aj bu (aa (aC G.c_ a_ 6 h_) ai))))) (xb qk (aC G.c_ a_ 8 h_) (f_ bI (aC G.c_ a_ 7 h_) Ic) (dC (.bl true))) bG)
def dM(G:Cs):HK:=(og (zE 0 v_) (gT [2,3]) (cA G))
def da(G:Cs):List D->M D:=mF 4 (dM G)
def kU{G:Cs}(T:Txt K mg G){f:Addr}{fd:ax1}(F:IF K "note_pieces" "Sender.note_pieces" dY f fd):qq7 P w K mg base 1 f fd ["self","bits"] (da G):=by
 refine fE F IM fun _ _ _ _ _ _ h=>?_
 have u:=h.units;exact(ak (kD rfl (AX rfl T.LI (ac 1)) (qP rfl (eI (bV (i:=2) IM.nd) (eI (bV (i:=3) IM.nd) nJ))) (ak (bw (LL.pt (ei (aD (cr u) (ac 3) ar (aL _)) (dF (aD kT (bJ cm (aH T.j_ T.HE aG (ac 0)) (ac 2)) (bi df rfl T.Jd boot_len (ae (aH T.j_ T.HA aG (ac 0)) ag)) (aL _))))) (ak (vp (zx u) (aH T.j_ T.IY aG (ac 0)) (bJ cm (aH T.j_ T.HE aG (ac 0)) (ac 2)) kP)) aY))))
def Jq:n_ ["self","number","bits","index"] ["self","number","bits"] (i_ eB):=I_
def d3(G:Cs):HK:=(IJ (bM (aj cb (aa v_ (aa (aC G.c_ a_ 0 h_) ai)))) (aI (cg (aj cu (aa v_ (aa (aC G.c_ a_ 7 h_) (aa (aC G.c_ a_ 0 h_) ai)))) (gN 3))
 (IJ (ao (f_ O1 H_ (aj AH (aa (f_ bI (aC G.c_ a_ 7 h_) (aC G.c_ a_ 0 h_)) (aa (aj bu (aa (aC G.c_ a_ 6 h_) ai)) ai))))) (aI (bx (br G.c_ a_ (du G) h_ (aa H_ ai)))
 (bx (br G.c_ a_ (da G) h_ (aa Ic ai)))) bG)) bG)
def cf(G:Cs):List D->M D:=mF 4 (d3 G)
def li{G:Cs}(T:Txt K mg G)(Kl:qy7 P w K mg base "goes_round" 1 ["number","window"] cb)(Km:qy7 P w K mg base "index_near" 1 ["number","low","window"] cu)(Lc:qz7 P w K mg base G.c_ "move_base" 1 ["self","index"] (du G))(KG:qz7 P w K mg base G.c_ "note_pieces" 1 ["self","bits"] (da G)){f:Addr}{fd:ax1}(F:IF K "hears_note" "Sender.hears_note" eB f fd):qq7 P w K mg base 2 f fd ["self","number","bits"] (cf G):=by
 refine fE F Jq fun _ _ _ _ _ _ h=>?_
 exact(ak (bw (cE (aM Kl h.m rfl aJ (ae (ac 1) (ae (aH T.j_ T.Ih aG (ac 0)) ag)) (am (am aF)))) (aq (bC (i:=3) Jq.nd (aM Km h.m rfl aJ (ae (ac 1) (ae (aH T.j_ T.HE aG (ac 0)) (ae (aH T.j_ T.Ih aG (ac 0)) ag))) (am (am (am aF)))))
   (ak (bw (aD qH (ac 3) (bi (B4 rfl) rfl T.R9 boot_min (ae (bJ cm (aH T.j_ T.HE aG (ac 0)) (aH T.j_ T.Ih aG (ac 0))) (ae (bi df rfl T.Jd boot_len (ae (aH T.j_ T.HA aG (ac 0)) ag)) ag))) (aL _)) (aq (aU (bO Lc h.m T.j_ (by decide) aJ (ac 0) (ae (ac 3) ag) (eV (am aF))))
   (ak (aU (bO KG h.m T.j_ (by decide) aJ (ac 0) (ae (ac 2) ag) (eV (am aF)))))) aY))) aY))
def mn:n_ ["self","card"] ["self","card"] (i_ eR):=I_
def eC(G:Cs):HK:=(IJ (dc (ao (f_ HJ (f_ w_ v_ (dI 0)) (dT "welcome"))) (ao (f_ HJ (aC G.c_ a_ 5 h_) (dT "opening")))) (j7 G.c_ a_ 5 h_ (dT "open")) (IJ (dc (ao (f_ HJ (f_ w_ v_ (dI 0)) (dT "who"))) (ao (f_ HJ (aC G.c_ a_ 5 h_) (dT "open")))) (bx (br G.c_ a_ (bR G) h_ ai)) (IJ (dc (ao (f_ HJ (f_ w_ v_ (dI 0)) (dT "note"))) (ao (f_ HJ (aC G.c_ a_ 5 h_) (dT "open")))) (bx (br G.c_ a_ (cf G) h_ (aa (f_ w_ v_ (dI 2)) (aa (f_ w_ v_ (dI 3)) ai)))) bG)))
def dz(G:Cs):List D->M D:=mF 2 (eC G)
def me{G:Cs}(T:Txt K mg G)(Jc:qz7 P w K mg base G.c_ "open_anew" 2 ["self"] (bR G))(KY:qz7 P w K mg base G.c_ "hears_note" 2 ["self","number","bits"] (cf G)){f:Addr}{fd:ax1}(F:IF K "hears_own" "Sender.hears_own" eR f fd):qq7 P w K mg base 3 f fd ["self","card"] (dz G):=by
 refine fE F mn fun _ _ _ _ _ _ h=>?_
 have u:=h.units;exact(ak (bw (LL.pt (ei (aD (cr u) (aK ID (ac 1) ar (fun _ _=>rfl)) aN (aL _)) (dF (aD (cr u) (aH T.j_ T.F_ aG (ac 0)) aN (aL _))))) (ak (gQ T.j_ T.F_ aG (by decide) (ac 0) aN)) (ak (bw (LL.pt (ei (aD (cr u) (aK ID (ac 1) ar (fun _ _=>rfl)) aN (aL _)) (dF (aD (cr u) (aH T.j_ T.F_ aG (ac 0)) aN (aL _))))) (ak (aU (dB Jc h.m T.j_ (by decide) aJ (ac 0)))) (ak (bw (LL.pt (ei (aD (cr u) (aK ID (ac 1) ar (fun _ _=>rfl)) aN (aL _)) (dF (aD (cr u) (aH T.j_ T.F_ aG (ac 0)) aN (aL _))))) (ak (aU (bO KY h.m T.j_ (by decide) aJ (ac 0) (ae (aK ID (ac 1) ar (fun _ _=>rfl)) (ae (aK ID (ac 1) ar (fun _ _=>rfl)) ag)) (eV (am (am aF)))))) aY))))))
def pF:n_ ["self","card"] ["self","card"] (i_ iT):=I_
def hZ(G:Cs):HK:=(aI (IJ (ao (f_ HJ (f_ w_ v_ (dI 1)) (aC G.c_ a_ 4 h_))) (bx (br G.c_ a_ (dz G) h_ (aa v_ ai))) bG)
 (bN (bT ai)))
def fB(G:Cs):List D->M D:=mF 2 (hZ G)
def px{G:Cs}(T:Txt K mg G)(Ld:qz7 P w K mg base G.c_ "hears_own" 3 ["self","card"] (dz G)){f:Addr}{fd:ax1}(F:IF K "hears" "Sender.hears" iT f fd):qq7 P w K mg base 4 f fd ["self","card"] (fB G):=by
 refine fE F pF fun _ _ _ _ _ _ h=>?_
 have u:=h.units;exact(aq (bw (aD (cr u) (aK ID (ac 1) ar (fun _ _=>rfl)) (aH T.j_ T.Iq aG (ac 0)) (aL _)) (ak (aU (bO Ld h.m T.j_ (by decide) aJ (ac 0) (ae (ac 1) ag) (eV (am aF))))) aY)
   (ak (aW (bX ag))))
def Jv:n_ ["self","road","strip","card"] ["self","road","strip"] (i_ iG):=I_
def gS(G:Cs):HK:=(aI (yi [G.IS] (cg (aj (lG G) (aa Ic ai)) (gN 3)) (cg (dC .Hw) (gN 3)))
 (aI (IJ (dc (ao (f_ n5 H_ (dC .Hw))) (ao (f_ HJ v_ (dT "there")))) (bx (br G.World u_ (bW G) h_ (aa (dT "back") (aa (br G.g_ d_ (fM G) (aC G.World u_ 1 h_) (aa H_ ai)) ai)))) bG)
 (IJ (dc (ao (f_ n5 H_ (dC .Hw))) (ao (f_ HJ v_ (dT "back")))) (bx (br G.World u_ (bW G) h_ (aa (dT "there") (aa (br G.c_ a_ (fB G) (aC G.World u_ 0 h_) (aa H_ ai)) ai)))) bG)))
def fH(G:Cs):List D->M D:=mF 4 (gS G)
def pv{G:Cs}(T:Txt K mg G)(Tb:qy7 P w K mg base "read" 5 ["strip"] (lG G))(Ma:qz7 P w K mg base G.g_ "hears" 5 ["self","card"] (fM G))(II:qz7 P w K mg base G.World "put_behind" 6 ["self","road","cards"] (bW G))(Mb:qz7 P w K mg base G.c_ "hears" 4 ["self","card"] (fB G)){f:Addr}{fd:ax1}(F:IF K "arrive" "World.arrive" iG f fd):qq7 P w K mg base 7 f fd ["self","road","strip"] (fH G):=by
 refine fE F Jv fun _ _ _ _ _ _ h=>?_
 have u:=h.units;exact(aq (E3 T.KN (CN T.Jb E5) rfl ⟨rfl,rfl⟩ (ak (bC (i:=3) Jv.nd (aM Tb h.m rfl aJ (ae (ac 2) ag) (am aF)))) (fun _=>(ak (bC (i:=3) Jv.nd xy))))
   (aq (bw (LL.pt (ei (aD yR (ac 3) xy (aL _)) (dF (aD (cr u) (ac 1) aN (aL _))))) (ak (aU (bO II h.m T.z_ (by decide) aJ (ac 0) (ae aN (ae (bO Ma h.m T.o_ (by decide) aJ (aH T.z_ T.IZ cx (ac 0)) (ae (ac 3) ag) (eV (am aF))) ag)) (eV (am (am aF)))))) aY)
   (ak (bw (LL.pt (ei (aD yR (ac 3) xy (aL _)) (dF (aD (cr u) (ac 1) aN (aL _))))) (ak (aU (bO II h.m T.z_ (by decide) aJ (ac 0) (ae aN (ae (bO Mb h.m T.j_ (by decide) aJ (aH T.z_ T.Io cx (ac 0)) (ae (ac 3) ag) (eV (am aF))) ag)) (eV (am (am aF)))))) aY))))
def sU:n_ ["self","road"] ["self","road"] (i_ kG):=I_
def jx(G:Cs):HK:=(IJ (bM (br G.World u_ (aR G) h_ (aa v_ (aa (dI 0) ai)))) (bx (br G.World u_ (fH G) h_ (aa v_ (aa (f_ w_ (KU w8 (f_ iW (aC G.World u_ 2 h_) v_) (aa (dI 0) ai)) (dI 0)) ai)))) bG)
def iw(G:Cs):List D->M D:=mF 2 (jx G)
def sE{G:Cs}(T:Txt K mg G)(HP:qz7 P w K mg base G.World "has_strip" 1 ["self","road","k"] (aR G))(Mc:qz7 P w K mg base G.World "arrive" 7 ["self","road","strip"] (fH G)){f:Addr}{fd:ax1}(F:IF K "step" "World.step" kG f fd):qq7 P w K mg base 8 f fd ["self","road"] (iw G):=by
 refine fE F sU fun _ _ _ _ _ _ h=>?_
 have u:=h.units;exact(ak (bw (cE (bO HP h.m T.z_ (by decide) aJ (ac 0) (ae (ac 1) (ae ar ag)) (eV (am (am aF))))) (ak (aU (bO Mc h.m T.z_ (by decide) aJ (ac 0) (ae (ac 1) (ae (aK ID (dw PySem.F.slot_list_pop PySem.F.type_list_pop Bp (aK (uK u) (aH T.z_ T.HF cx (ac 0)) (ac 1) (fun _ _=>rfl)) (ae ar ag)) ar (fun _ _=>rfl)) ag)) (eV (am (am aF)))))) aY))
def sv:n_ ["self","road","k"] ["self","road","k"] (i_ kL):=I_
def jE(G:Cs):HK:=(IJ (bM (br G.World u_ (aR G) h_ (aa v_ (aa Ic ai)))) (bx (KU w8 (f_ iW (aC G.World u_ 2 h_) v_) (aa Ic ai))) bG)
def iu(G:Cs):List D->M D:=mF 3 (jE G)
def sV{G:Cs}(T:Txt K mg G)(HP:qz7 P w K mg base G.World "has_strip" 1 ["self","road","k"] (aR G)){f:Addr}{fd:ax1}(F:IF K "lose" "World.lose" kL f fd):qq7 P w K mg base 2 f fd ["self","road","k"] (iu G):=by
 refine fE F sv fun _ _ _ _ _ _ h=>?_
 have u:=h.units;exact(ak (bw (cE (bO HP h.m T.z_ (by decide) aJ (ac 0) (ae (ac 1) (ae (ac 2) ag)) (eV (am (am aF))))) (ak (aU (dw PySem.F.slot_list_pop PySem.F.type_list_pop Bp (aK (uK u) (aH T.z_ T.HF cx (ac 0)) (ac 1) (fun _ _=>rfl)) (ae (ac 2) ag)))) aY))
def pG:n_ ["self","road","k"] ["self","road","k"] (i_ jk):=I_
def gM(G:Cs):HK:=(IJ (bM (br G.World u_ (aR G) h_ (aa v_ (aa Ic ai)))) (bx (KU wE (f_ iW (aC G.World u_ 2 h_) v_) (aa Ic (aa (f_ w_ (f_ iW (aC G.World u_ 2 h_) v_) Ic) ai)))) bG)
def fC(G:Cs):List D->M D:=mF 3 (gM G)
def pz{G:Cs}(T:Txt K mg G)(HP:qz7 P w K mg base G.World "has_strip" 1 ["self","road","k"] (aR G)){f:Addr}{fd:ax1}(F:IF K "double" "World.double" jk f fd):qq7 P w K mg base 2 f fd ["self","road","k"] (fC G):=by
 refine fE F pG fun _ _ _ _ _ _ h=>?_
 have u:=h.units;exact(ak (bw (cE (bO HP h.m T.z_ (by decide) aJ (ac 0) (ae (ac 1) (ae (ac 2) ag)) (eV (am (am aF))))) (ak (aU (dw PySem.F.slot_list_insert PySem.F.type_list_insert Ae (aK (uK u) (aH T.z_ T.HF cx (ac 0)) (ac 1) (fun _ _=>rfl)) (ae (ac 2) (ae (aK ID (aK (uK u) (aH T.z_ T.HF cx (ac 0)) (ac 1) (fun _ _=>rfl)) (ac 2) (fun _ _=>rfl)) ag))))) aY))
def Le:n_ ["strip","place","by","cells","at"] ["strip","place","by"] (i_ oj):=I_
def mY:HK:=(aI (cg (aj yz (aa h_ ai)) (gN 3))
 (aI (cg (f_ kY v_ (aj bu (aa H_ ai))) (gN 4))
 (aI (xb pj H_ Jy (f_ kY (f_ bI (f_ w_ H_ Jy) Ic) (dI 256)))
 (bN (aj gR (aa H_ ai))))))
def jV:List D->M D:=mP 5 mY
def xS{G:Cs}(T:Txt K mg G){f:Addr}{fd:ax1}(F:IF K "changed" "changed" oj f fd):qq7 P w K mg base 1 f fd ["strip","place","by"] jV:=by
 refine fG F Le fun _ _ _ _ _ _ h=>?_
 exact(aq (bC (i:=3) Le.nd (gi DB rfl T.Ta boot_list (ae (ac 0) ag)))
   (aq (bC (i:=4) Le.nd (bJ jC (ac 1) (bi df rfl T.Jd boot_len (ae (ac 3) ag))))
   (aq (vp zm (ac 3) (ac 4) (bJ jC (bJ cm (aK ID (ac 3) (ac 4) (fun _ _=>rfl)) (ac 2)) ar))
   (ak (aW (gi j3 rfl T.JD boot_tuple (ae (ac 3) ag)))))))
def qi:n_ ["self","road","k","place","by"] ["self","road","k","place","by"] (i_ jz):=I_
def iZ(G:Cs):HK:=(IJ (dc (bM (br G.World u_ (aR G) h_ (aa v_ (aa Ic ai)))) (dc (cZ (bM (f_ w_ (f_ w_ (f_ iW (aC G.World u_ 2 h_) v_) Ic) (dI 1)))) (ao (f_ Kc (f_ kY Jy (dI 256)) (dI 0))))) (xb pj (f_ iW (aC G.World u_ 2 h_) v_) Ic (ci (aa (aj jV (aa (f_ w_ (f_ w_ (f_ iW (aC G.World u_ 2 h_) v_) Ic) (dI 0)) (aa H_ (aa Jy ai)))) (aa (dC (.bl true)) ai)))) bG)
def gB(G:Cs):List D->M D:=mF 5 (iZ G)
def qt{G:Cs}(T:Txt K mg G)(HP:qz7 P w K mg base G.World "has_strip" 1 ["self","road","k"] (aR G))(Pu:qy7 P w K mg base "changed" 1 ["strip","place","by"] jV){f:Addr}{fd:ax1}(F:IF K "spoil" "World.spoil" jz f fd):qq7 P w K mg base 2 f fd ["self","road","k","place","by"] (gB G):=by
 refine fE F qi fun _ _ _ _ _ _ h=>?_
 have u:=h.units;exact(ak (bw (LL.pt (ei (cE (bO HP h.m T.z_ (by decide) aJ (ac 0) (ae (ac 1) (ae (ac 2) ag)) (eV (am (am aF))))) (ei (fz (cE (aK ID (aK ID (aK (uK u) (aH T.z_ T.HF cx (ac 0)) (ac 1) (fun _ _=>rfl)) (ac 2) (fun _ _=>rfl)) ar (fun _ _=>rfl)))) (dF (aD (qD u) (bJ jC (ac 4) ar) ar (aL _)))))) (ak (vp zm (aK (uK u) (aH T.z_ T.HF cx (ac 0)) (ac 1) (fun _ _=>rfl)) (ac 2) (bZ (ae (aM Pu h.m rfl aJ (ae (aK ID (aK ID (aK (uK u) (aH T.z_ T.HF cx (ac 0)) (ac 1) (fun _ _=>rfl)) (ac 2) (fun _ _=>rfl)) ar (fun _ _=>rfl)) (ae (ac 3) (ae (ac 4) ag))) (am (am (am aF)))) (ae kP ag))))) aY))
def rm:n_ ["self"] ["self"] (i_ jD):=I_
def iC(G:Cs):HK:=(j7 G.c_ a_ 5 h_ (dT "shut"))
def gz(G:Cs):List D->M D:=mF 1 (iC G)
def qZ{G:Cs}(T:Txt K mg G){f:Addr}{fd:ax1}(F:IF K "fall" "Sender.fall" jD f fd):qq7 P w K mg base 1 f fd ["self"] (gz G):=by
 refine fE F rm fun _ _ _ _ _ _ h=>?_
 exact(ak (gQ T.j_ T.F_ aG (by decide) (ac 0) aN))
def qm:n_ ["self"] ["self"] (i_ jK):=I_
def iD(G:Cs):HK:=(bx (br G.g_ d_ (cK G) h_ (aa (dI 0) ai)))
def gp(G:Cs):List D->M D:=mF 1 (iD G)
def qE{G:Cs}(T:Txt K mg G)(JL:qz7 P w K mg base G.g_ "begin" 1 ["self","opening"] (cK G)){f:Addr}{fd:ax1}(F:IF K "fall" "Hearer.fall" jK f fd):qq7 P w K mg base 2 f fd ["self"] (gp G):=by
 refine fE F qm fun _ _ _ _ _ _ h=>?_
 exact(ak (aU (bO JL h.m T.o_ (by decide) aJ (ac 0) (ae ar ag) (eV (am aF)))))
def sK:n_ ["self","who"] ["self","who"] (i_ kj):=I_
def eK(G:Cs):HK:=(aI (IJ (ao (f_ HJ v_ (dT "sender"))) (bx (br G.c_ a_ (gz G) (aC G.World u_ 0 h_) ai)) bG)
 (IJ (ao (f_ HJ v_ (dT "hearer"))) (bx (br G.g_ d_ (gp G) (aC G.World u_ 1 h_) ai)) bG))
def iq(G:Cs):List D->M D:=mF 2 (eK G)
def sy{G:Cs}(T:Txt K mg G)(MG:qz7 P w K mg base G.c_ "fall" 1 ["self"] (gz G))(MH:qz7 P w K mg base G.g_ "fall" 2 ["self"] (gp G)){f:Addr}{fd:ax1}(F:IF K "fall" "World.fall" kj f fd):qq7 P w K mg base 3 f fd ["self","who"] (iq G):=by
 refine fE F sK fun _ _ _ _ _ _ h=>?_
 have u:=h.units;exact(aq (bw (aD (cr u) (ac 1) aN (aL _)) (ak (aU (dB MG h.m T.j_ (by decide) aJ (aH T.z_ T.Io cx (ac 0))))) aY)
   (ak (bw (aD (cr u) (ac 1) aN (aL _)) (ak (aU (dB MH h.m T.o_ (by decide) aJ (aH T.z_ T.IZ cx (ac 0))))) aY)))
def pQ:n_ ["self"] ["self"] (i_ iR):=I_
def ig(G:Cs):HK:=(IJ (ao (f_ HJ (aC G.c_ a_ 5 h_) (dT "shut"))) (bx (br G.c_ a_ (bR G) h_ ai)) bG)
def eZ(G:Cs):List D->M D:=mF 1 (ig G)
def pO{G:Cs}(T:Txt K mg G)(Jc:qz7 P w K mg base G.c_ "open_anew" 2 ["self"] (bR G)){f:Addr}{fd:ax1}(F:IF K "start" "Sender.start" iR f fd):qq7 P w K mg base 3 f fd ["self"] (eZ G):=by
 refine fE F pQ fun _ _ _ _ _ _ h=>?_
 have u:=h.units;exact(ak (bw (aD (cr u) (aH T.j_ T.F_ aG (ac 0)) aN (aL _)) (ak (aU (dB Jc h.m T.j_ (by decide) aJ (ac 0)))) aY))
def rS:n_ ["self"] ["self"] (i_ jM):=I_
def jb(G:Cs):HK:=(bx (br G.c_ a_ (eZ G) (aC G.World u_ 0 h_) ai))
def gr(G:Cs):List D->M D:=mF 1 (jb G)
def rH{G:Cs}(T:Txt K mg G)(Md:qz7 P w K mg base G.c_ "start" 3 ["self"] (eZ G)){f:Addr}{fd:ax1}(F:IF K "start" "World.start" jM f fd):qq7 P w K mg base 4 f fd ["self"] (gr G):=by
 refine fE F rS fun _ _ _ _ _ _ h=>?_
 exact(ak (aU (dB Md h.m T.j_ (by decide) aJ (aH T.z_ T.Io cx (ac 0)))))
def yo:n_ ["_law_world","_law_act"] ["_law_world","_law_act"] (i_ ox):=I_
def mX(G:Cs):HK:=(IJ (ao (f_ HJ (f_ w_ v_ (dI 0)) (dT "hand"))) (bx (br G.World u_ (iz G) h_ (aa (aj cQ (aa (f_ w_ v_ (dI 1)) (aa (dI 12) ai))) ai))) (IJ (ao (f_ HJ (f_ w_ v_ (dI 0)) (dT "tick"))) (bx (br G.World u_ (io G) h_ ai)) (IJ (ao (f_ HJ (f_ w_ v_ (dI 0)) (dT "step"))) (bx (br G.World u_ (iw G) h_ (aa (f_ w_ v_ (dI 1)) ai))) (IJ (ao (f_ HJ (f_ w_ v_ (dI 0)) (dT "lose"))) (bx (br G.World u_ (iu G) h_ (aa (f_ w_ v_ (dI 1)) (aa (f_ w_ v_ (dI 2)) ai)))) (IJ (ao (f_ HJ (f_ w_ v_ (dI 0)) (dT "double"))) (bx (br G.World u_ (fC G) h_ (aa (f_ w_ v_ (dI 1)) (aa (f_ w_ v_ (dI 2)) ai)))) (IJ (ao (f_ HJ (f_ w_ v_ (dI 0)) (dT "spoil"))) (bx (br G.World u_ (gB G) h_ (aa (f_ w_ v_ (dI 1)) (aa (f_ w_ v_ (dI 2)) (aa (aj aE (aa (f_ w_ v_ (dI 3)) (aa (dI 9829) (aa (dI 16) ai)))) (aa (aj aE (aa (f_ w_ v_ (dI 3)) (aa (dI 9817) (aa (dI 256) ai)))) ai)))))) (IJ (ao (f_ HJ (f_ w_ v_ (dI 0)) (dT "fall"))) (bx (br G.World u_ (iq G) h_ (aa (f_ w_ v_ (dI 1)) ai))) (bx (br G.World u_ (gr G) h_ ai)))))))))
def lY(G:Cs):List D->M D:=mF 2 (mX G)
def xQ{G:Cs}(T:Txt K mg G)(JN:qy7 P w K mg base "_law_message" 2 ["_law_cell_here","_law_longest"] cQ)(Nv:qz7 P w K mg base G.World "hand" 3 ["self","message"] (iz G))(Nw:qz7 P w K mg base G.World "tick" 7 ["self"] (io G))(Nx:qz7 P w K mg base G.World "step" 8 ["self","road"] (iw G))(Ny:qz7 P w K mg base G.World "lose" 2 ["self","road","k"] (iu G))(Me:qz7 P w K mg base G.World "double" 2 ["self","road","k"] (fC G))(HN:qy7 P w K mg base "_law_mix" 1 ["_law_cell_here","_law_prime","_law_many"] aE)(MI:qz7 P w K mg base G.World "spoil" 2 ["self","road","k","place","by"] (gB G))(Nz:qz7 P w K mg base G.World "fall" 3 ["self","who"] (iq G))(MJ:qz7 P w K mg base G.World "start" 4 ["self"] (gr G)){f:Addr}{fd:ax1}(F:IF K "_law_do" "_law_do" ox f fd):qq7 P w K mg base 9 f fd ["_law_world","_law_act"] (lY G):=by
 refine fE F yo fun _ _ _ _ _ _ h=>?_
 have u:=h.units;exact(ak (bw (aD (cr u) (aK ID (ac 1) ar (fun _ _=>rfl)) aN (aL _)) (ak (aU (bO Nv h.m T.z_ (by decide) aJ (ac 0) (ae (aM JN h.m rfl aJ (ae (aK ID (ac 1) ar (fun _ _=>rfl)) (ae ar ag)) (am (am aF))) ag) (eV (am aF))))) (ak (bw (aD (cr u) (aK ID (ac 1) ar (fun _ _=>rfl)) aN (aL _)) (ak (aU (dB Nw h.m T.z_ (by decide) aJ (ac 0)))) (ak (bw (aD (cr u) (aK ID (ac 1) ar (fun _ _=>rfl)) aN (aL _)) (ak (aU (bO Nx h.m T.z_ (by decide) aJ (ac 0) (ae (aK ID (ac 1) ar (fun _ _=>rfl)) ag) (eV (am aF))))) (ak (bw (aD (cr u) (aK ID (ac 1) ar (fun _ _=>rfl)) aN (aL _)) (ak (aU (bO Ny h.m T.z_ (by decide) aJ (ac 0) (ae (aK ID (ac 1) ar (fun _ _=>rfl)) (ae (aK ID (ac 1) ar (fun _ _=>rfl)) ag)) (eV (am (am aF)))))) (ak (bw (aD (cr u) (aK ID (ac 1) ar (fun _ _=>rfl)) aN (aL _)) (ak (aU (bO Me h.m T.z_ (by decide) aJ (ac 0) (ae (aK ID (ac 1) ar (fun _ _=>rfl)) (ae (aK ID (ac 1) ar (fun _ _=>rfl)) ag)) (eV (am (am aF)))))) (ak (bw (aD (cr u) (aK ID (ac 1) ar (fun _ _=>rfl)) aN (aL _)) (ak (aU (bO MI h.m T.z_ (by decide) aJ (ac 0) (ae (aK ID (ac 1) ar (fun _ _=>rfl)) (ae (aK ID (ac 1) ar (fun _ _=>rfl)) (ae (aM HN h.m rfl aJ (ae (aK ID (ac 1) ar (fun _ _=>rfl)) (ae ar (ae ar ag))) (am (am (am aF)))) (ae (aM HN h.m rfl aJ (ae (aK ID (ac 1) ar (fun _ _=>rfl)) (ae ar (ae ar ag))) (am (am (am aF)))) ag)))) (eV (am (am (am (am aF)))))))) (ak (bw (aD (cr u) (aK ID (ac 1) ar (fun _ _=>rfl)) aN (aL _)) (ak (aU (bO Nz h.m T.z_ (by decide) aJ (ac 0) (ae (aK ID (ac 1) ar (fun _ _=>rfl)) ag) (eV (am aF))))) (ak (aU (dB MJ h.m T.z_ (by decide) aJ (ac 0))))))))))))))))))
def mM:n_ ["self"] ["self"] (i_ fF):=I_
def eS(G:Cs):HK:=(bN (aj gR (aa (aC G.g_ d_ 1 (aC G.World u_ 1 h_)) ai)))
def dR(G:Cs):List D->M D:=mF 1 (eS G)
def mB{G:Cs}(T:Txt K mg G){f:Addr}{fd:ax1}(F:IF K "given_out" "World.given_out" fF f fd):qq7 P w K mg base 1 f fd ["self"] (dR G):=by
 refine fE F mM fun _ _ _ _ _ _ h=>?_
 exact(ak (aW (gi j3 rfl T.JD boot_tuple (ae (aH T.o_ T.Jt aV (aH T.z_ T.IZ cx (ac 0))) ag))))
def JF:n_ ["_law_found","_law_runs_here","_law_opening","_law_message_here"] ["_law_found"] (i_ lx):=I_
def jd:HK:=(IJ (dc (bM v_) (ao (f_ HJ (f_ w_ (f_ w_ v_ (P8 uU (dI 1))) (dI 0)) Ic))) (bx (KU iN (f_ w_ (f_ w_ v_ (P8 uU (dI 1))) (dI 1)) (aa H_ ai))) (bx (KU iN v_ (aa (ci (aa Ic (aa (bT (aa H_ ai)) ai))) ai))))
def kO:HK:=(aI (cg (bT ai) (gN 1))
 (aI (og (Kt h_) (gT [2,3]) jd)
 (bN v_)))
def gJ:List D->M D:=mF 4 kO
def ve{G:Cs}(T:Txt K mg G){f:Addr}{fd:ax1}(F:IF K "_law_runs" "_law_runs" lx f fd):qq7 P w K mg base 1 f fd ["_law_found"] gJ:=by
 refine fE F JF fun _ _ _ _ _ _ h=>?_
 have u:=h.units;exact(aq (bC (i:=1) JF.nd (bX ag))
   (aq (kD rfl (d8 (ac 0)) (qP rfl (eI (bV (i:=2) JF.nd) (eI (bV (i:=3) JF.nd) nJ))) (ak (bw (LL.pt (ei (cE (ac 1)) (dF (aD (cr u) (aK ID (aK ID (ac 1) (Bu xz ar) (fun _ _=>rfl)) ar (fun _ _=>rfl)) (ac 2) (aL _))))) (ak (aU (dw ac4 ac5 cH (aK ID (aK ID (ac 1) (Bu xz ar) (fun _ _=>rfl)) ar (fun _ _=>rfl)) (ae (ac 3) ag)))) (ak (aU (dw ac4 ac5 cH (ac 1) (ae (bZ (ae (ac 2) (ae (bX (ae (ac 3) ag)) ag))) ag)))))))
   (ak (aW (ac 1)))))
def p5:n_ ["_law_acts_here"] ["_law_acts_here"] (i_ jF):=I_
def iU:HK:=(bN (dS (Kt h_) (gN 0) (ao (f_ HJ (f_ w_ h_ (dI 0)) (dT "hand"))) (aj cQ (aa (f_ w_ h_ (dI 1)) (aa (dI 12) ai))) 1 []))
def dJ:List D->M D:=mF 1 iU
def p0{G:Cs}(T:Txt K mg G)(JN:qy7 P w K mg base "_law_message" 2 ["_law_cell_here","_law_longest"] cQ){f:Addr}{fd:ax1}(F:IF K "_law_handed" "_law_handed" jF f fd):qq7 P w K mg base 3 f fd ["_law_acts_here"] dJ:=by
 refine fE F p5 fun _ _ _ _ _ _ h=>?_
 have u:=h.units;exact(ak (aW (iy (own:=["_law_act"]) (capN:=[]) (caps:=[]) ⟨rfl,Lp.all trivial,rfl,by decide,rfl,by decide,trivial,by decide⟩ rfl (d8 (ac 0)) (ip (by decide)) (fun C s2 H2 fp=>⟨(bV (i:=0) (show(["_law_act"]:ax0).Nodup from by decide)),(A8 (aD (cr u) (aK ID (ac 0) ar (fun _ _=>rfl)) aN (aL _))),(aM JN h.m rfl aJ (ae (aK ID (ac 0) ar (fun _ _=>rfl)) (ae ar ag)) (am (am aF)))⟩))))
def Iw:n_ ["_law_handed_here","_law_runs_here","_law_reach_here","_law_opening","_law_messages","_law_ends","_law_begin"] ["_law_handed_here","_law_runs_here"] (i_ kH):=I_
def eN:HK:=(IJ (ao (f_ HJ (Kb Jo h_ (bA O5) (bA (f_ bI O5 (aj bu (aa Jy ai))))) Jy)) (bx (KU iN Nb (aa (f_ bI O5 (aj bu (aa Jy ai))) ai))) bG)
def eL:HK:=(aI (cg (bT ai) (gN 5))
 (aI (og (o6 (f_ bI Ic (dI 1))) (gN 6) eN)
 (aI (IJ (cZ (bM Nb)) (bN (dC (.bl false))) bG)
 (cg (aj D2 (aa Ic (aa (aj vQ (aa Nb ai)) ai))) (gN 2)))))
def jH:HK:=(aI (cg (dI 0) (gN 2))
 (aI (og (Kt v_) (gT [3,4]) eL)
 (bN (dC (.bl true)))))
def fP:List D->M D:=mF 7 jH
def sg{G:Cs}(T:Txt K mg G){f:Addr}{fd:ax1}(F:IF K "_law_reach" "_law_reach" kH f fd):qq7 P w K mg base 1 f fd ["_law_handed_here","_law_runs_here"] fP:=by
 refine fE F Iw fun _ _ _ _ _ _ h=>?_
 have u:=h.units;exact(aq (bC (i:=2) Iw.nd ar)
   (aq (kD rfl (d8 (ac 1)) (qP rfl (eI (bV (i:=3) Iw.nd) (eI (bV (i:=4) Iw.nd) nJ))) (aq (bC (i:=5) Iw.nd (bX ag))
   (aq (kD rfl (my rfl T.LU (bJ cm (ac 2) ar)) (bV (i:=6) Iw.nd) (ak (bw (aD (cr u) (d6 P5 (ac 0) (cU (ac 6)) (cU (bJ cm (ac 6) (bi df rfl T.Jd boot_len (ae (ac 4) ag))))) (ac 4) (aL _)) (ak (aU (dw ac4 ac5 cH (ac 5) (ae (bJ cm (ac 6) (bi df rfl T.Jd boot_len (ae (ac 4) ag))) ag)))) aY)))
   (aq (bw (fz (cE (ac 5))) (ak (aW kP)) aY)
   (ak (bC (i:=2) Iw.nd (bi (Cu rfl) rfl T.Qf boot_max (ae (ac 2) (ae (bi (Eg rfl) rfl T.Qf boot_max (ae (ac 5) ag)) ag)))))))))
   (ak (aW kP))))
def sQ:n_ ["_law_found"] ["_law_found"] (i_ j5):=I_
def mo:HK:=(bN (ii (M_ "int" h_) (zC (M_ "bool" h_))))
def cX:List D->M D:=mF 1 mo
def sM{G:Cs}(T:Txt K mg G){f:Addr}{fd:ax1}(F:IF K "_law_whole" "_law_whole" j5 f fd):qq7 P w K mg base 1 f fd ["_law_found"] cX:=by
 refine fE F sQ fun _ _ _ _ _ _ h=>?_
 exact(ak (aW (kA (fY (ac 0) rfl T.IG rfl T.R8 boot_int (yH _)) (mJ (Bv (fY (ac 0) rfl T.IG rfl T.Qe boot_bool (wS _)))))))
def Jw:n_ ["_law_script","_law_window","_law_most","_law_world","_law_handed_here","_law_before","_law_act","_law_found","_law_runs_here","_law_openings"] ["_law_script"] (i_ uk):=I_
def nw(G:Cs):HK:=(aI (bx (aj (lY G) (aa H_ (aa O5 ai))))
 (aI (cg (f_ bI Jy (aj dJ (aa (bT (aa O5 ai)) ai))) (gN 4))
 (aI (cg (br G.World u_ (dR G) H_ ai) (gN 7))
 (aI (cg (aj gJ (aa T_ ai)) (gN 8))
 (aI (cg (dS (Kt Ua) (gN 0) hV (f_ w_ h_ (dI 0)) 1 []) (gN 9))
 (aI (IJ (Kn (ao (f_ Kc (Kb Jo T_ bK (bA (aj bu (aa Nb ai)))) Nb)) (Kn (ao (f_ Kc QN (U8 QN))) (cZ (bM (aj fP (aa Jy (aa Ua ai))))))) (bN (dC (.bl false))) bG)
 (aI (IJ (cZ (bM (aj vn (aa (dS (Kt QN) (gN 0) hV (ii (aj cX (aa h_ ai)) (f_ PK h_ (dI 0))) 1 []) ai)))) (bN (dC (.bl false))) bG)
 (cg T_ (gN 5)))))))))
def ym(G:Cs):HK:=(aI (cg (aj fA (aa h_ ai)) (gT [1,2]))
 (aI (cg (aj (iY G.World (cI G)) (aa v_ (aa Ic ai))) (gN 3))
 (aI (cg (bT ai) (gN 4))
 (aI (cg (ci ai) (gN 5))
 (aI (og (Kt (aj gL (aa h_ (aa (dC (.bl true)) ai)))) (gN 6) (nw G))
 (bN (dC (.bl true))))))))
def EM(G:Cs):List D->M D:=mF 10 (ym G)
def FK{G:Cs}(T:Txt K mg G)(Mf:qy7 P w K mg base "_law_setting" 2 ["_law_script"] fA)(Ra:OC P w K mg base (E_ P w) "World" G.World 3 ["self","window","most"] (cI G))(N5:qy7 P w K mg base "_law_acts" 2 ["_law_script","_law_falls"] gL)(Pw:qy7 P w K mg base "_law_do" 9 ["_law_world","_law_act"] (lY G))(MK:qy7 P w K mg base "_law_handed" 3 ["_law_acts_here"] dJ)(Ls:qz7 P w K mg base G.World "given_out" 1 ["self"] (dR G))(N6:qy7 P w K mg base "_law_runs" 1 ["_law_found"] gJ)(NA:qy7 P w K mg base "_law_reach" 1 ["_law_handed_here","_law_runs_here"] fP)(NB:qy7 P w K mg base "_law_whole" 1 ["_law_found"] cX){f:Addr}{fd:ax1}(F:IF K "law" "law" uk f fd):qq7 P w K mg base 10 f fd ["_law_script"] (EM G):=by
 refine fE F Jw fun _ _ _ _ _ _ h=>?_
 have u:=h.units;exact(aq (Fg (aM Mf h.m rfl aJ (ae (ac 0) ag) (am aF)) (qP rfl (eI (bV (i:=1) Jw.nd) (eI (bV (i:=2) Jw.nd) nJ))))
   (aq (bC (i:=3) Jw.nd (uE Ra h.m rfl aJ (ae (ac 1) (ae (ac 2) ag)) (eV (am (am aF)))))
   (aq (bC (i:=4) Jw.nd (bX ag))
   (aq (bC (i:=5) Jw.nd (bZ ag))
   (aq (kD rfl (d8 (aM N5 h.m rfl aJ (ae (ac 0) (ae kP ag)) (am (am aF)))) (bV (i:=6) Jw.nd) (aq (aU (aM Pw h.m rfl aJ (ae (ac 3) (ae (ac 6) ag)) (am (am aF))))
   (aq (bC (i:=4) Jw.nd (bJ cm (ac 4) (aM MK h.m rfl aJ (ae (bX (ae (ac 6) ag)) ag) (am aF))))
   (aq (bC (i:=7) Jw.nd (dB Ls h.m T.z_ (by decide) aJ (ac 3)))
   (aq (bC (i:=8) Jw.nd (aM N6 h.m rfl aJ (ae (ac 7) ag) (am aF)))
   (aq (xK (i:=9) Jw.nd (own:=["_law_run"]) (capN:=[]) (caps:=[]) ⟨rfl,Lp.all trivial,rfl,by decide,rfl,by decide,trivial,by decide⟩ rfl (d8 (ac 8)) (ip (by decide)) (fun C s2 H2 fp=>⟨(bV (i:=0) (show(["_law_run"]:ax0).Nodup from by decide)),lA,(aK ID (ac 0) ar (fun _ _=>rfl))⟩))
   (aq (bw (LL.pt (k9 (aD (qD u) (d6 P5 (ac 7) gE (cU (bi df rfl T.Jd boot_len (ae (ac 5) ag)))) (ac 5) (aL _)) (k9 (aD (qD u) (ac 9) (Dc (ac 9) rfl T.Qg rfl T.U9 rfl) (aL _)) (nA (fz (cE (aM NA h.m rfl aJ (ae (ac 4) (ae (ac 8) ag)) (am (am aF))))))))) (ak (aW kP)) aY)
   (aq (bw (fz (cE (bi (AT rfl) rfl T.R7 boot_all (ae (iy (own:=["_law_opening"]) (capN:=[]) (caps:=[]) ⟨rfl,Lp.all trivial,rfl,by decide,rfl,by decide,trivial,by decide⟩ rfl (d8 (ac 9)) (ip (by decide)) (fun C s2 H2 fp=>⟨(bV (i:=0) (show(["_law_opening"]:ax0).Nodup from by decide)),lA,(kA (aM NB h.m rfl aJ (ae (ac 0) ag) (am aF)) (mJ (qr yN (ac 0) ar (aL _))))⟩)) ag)))) (ak (aW kP)) aY)
   (ak (bC (i:=5) Jw.nd (ac 7)))))))))))
   (ak (aW kP)))))))
end
end Lw
namespace Lw
abbrev Iu:=List Int
abbrev Pc:=Int×List Int
inductive x_ where
 |A_ (o:Nat)|t_ (o:Nat)|Ji (o:Nat)|data (o n:Nat) (p:Pc)|note (o n:Nat) (bs:ax3)
 deriving DecidableEq
def oA(k:Nat):Nat->Iu->List Pc
 |0,m=>[(1,m)]
 |n+1,m=>if k<m.length then (0,m.take k) :: oA k n (m.drop k) else [(1,m)]
def gh(k:Nat)(m:Iu):List Pc:=oA k 100 m
def ba(ps:List Pc):Iu:=ps.flatMap (·.2)
def HI(ps:List Pc):Nat:=(ps.filter fun p=>decide (p.1=1)).length
def jq(num low:Int)(w:Nat):Int:=low+(num-low) % (2 * (w:Int))
structure Hr where
 w:Nat
 given:List (Nat×Iu)
 op:Nat
 nx:Nat
 early:List (Nat×Pc)
 begun:List Pc
namespace Hr
def new(w:Nat):Hr:=⟨w,[],0,0,[],[]⟩
def begin_(h:Hr)(o:Nat):Hr:={ h with op:=o,nx:=0,early:=[],begun:=[] }
def Ik(h:Hr):Hr:=h.begin_ 0
def idx(h:Hr)(num:Nat):Int:=jq num ((h.nx:Int)-h.w) h.w
def keep(h:Hr)(num:Nat)(p:Pc):Hr:=if num<2 * h.w/\(h.nx:Int)<=h.idx num/\h.early.lookup (h.idx num).toNat=none then { h with early:=h.early++[((h.idx num).toNat,p)] } else h
def take(h:Hr)(p:Pc):Hr:=if p.1=1 then { h with given:=h.given++[(h.op,ba (h.begun++[p]))],begun:=[] } else { h with begun:=h.begun++[p] }
def pop(h:Hr):Hr:={ h with early:=h.early.filter fun e=>decide (e.1≠h.nx),nx:=h.nx+1 }
def Hx:Nat->Hr->Hr
 |0,h=>h
 |n+1,h=>match h.early.lookup h.nx with
  |none=>h
  |some p=>Hx n (h.pop.take p)
def bits(h:Hr):List Int:=(range h.w).map fun k=>if (h.early.lookup (h.nx+k)).isSome then 1 else 0
def note(h:Hr):x_:=.note h.op (h.nx % (2 * h.w)) h.bits
def data(h:Hr)(num:Nat)(p:Pc):Hr:=Hx (h.keep num p).early.length (h.keep num p)
def k_(h:Hr):x_->Hr×List x_
 |.A_ o=>if o<h.op then (h,[]) else if h.op<o then (h.begin_ o,[.t_ o]) else (h,[.t_ o])
 |.data o n p=>if o<h.op then (h,[]) else if h.op<o then (h,[.Ji o]) else (h.data n p,[(h.data n p).note])
 |_=>(h,[])
end Hr
inductive St where
 |IQ|opening|opened
 deriving DecidableEq
structure Sr where
 w:Nat
 most:Nat
 msgs:List Iu
 sure:Nat
 op:Nat
 st:St
 ps:List Pc
 base:Nat
 Hu:List Nat
namespace Sr
def new(w most:Nat):Sr:=⟨w,most,[],0,0,.IQ,[],0,[]⟩
def hand(s:Sr)(m:Iu):Sr:={ s with msgs:=s.msgs++[m],ps:=if s.st=.IQ then s.ps else s.ps++gh s.most m }
def anew(s:Sr):Sr:={ s with op:=s.op+1,st:=.opening,ps:=(s.msgs.drop s.sure).flatMap (gh s.most),base:=0,Hu:=[] }
def start(s:Sr):Sr:=if s.st=.IQ then s.anew else s
def Ik(s:Sr):Sr:={ s with st:=.IQ }
def wanted(s:Sr):List Nat:=(range' s.base (min (s.base+s.w) s.ps.length-s.base)).filter fun i=>decide (i∉s.Hu)
def dataOf(s:Sr)(i:Nat):x_:=.data s.op (i % (2 * s.w)) (s.ps.getD i (0,[]))
def tick(s:Sr):List x_:=match s.st with
 |.IQ=>[]
 |.opening=>[.A_ s.op]
 |.opened=>s.wanted.map s.dataOf
def HQ(s:Sr):Nat->List Int->Sr
 |_,[]=>s
 |k,b :: bs=>HQ (if b=1/\s.base+k<s.ps.length/\s.base+k∉s.Hu then { s with Hu:=s.Hu++[s.base+k] } else s) (k+1) bs
def Kg(s:Sr)(i:Nat):Sr:={ s with sure:=s.sure+HI ((s.ps.take i).drop s.base),base:=i }
def G_(s:Sr)(num:Nat)(bs:ax3):Sr:=
 if num<2 * s.w/\jq num s.base s.w<=min (s.base+s.w) s.ps.length then (s.Kg (jq num s.base s.w).toNat).HQ 0 bs else s
def k_(s:Sr):x_->Sr
 |.t_ o=>if o=s.op/\s.st=.opening then { s with st:=.opened } else s
 |.Ji o=>if o=s.op/\s.st=.opened then s.anew else s
 |.note o n bs=>if o=s.op/\s.st=.opened then s.G_ n bs else s
 |_=>s
end Sr
def iV(a b:List Pc):ba (a++b)=ba a++ba b:=by simp[ba]
def w3(p:Pc):ba [p]=p.2:=by simp[ba]
def eh(a b:List Pc):HI (a++b)=HI a+HI b:=by simp[HI]
def rq{a:List Pc}(h:∀p∈a,p.1=0):HI a=0:=by
 unfold HI;rw[ai2,List.filter_eq_nil_iff];intro p hp;rw[h p hp]
 decide
theorem tY(k:Nat):∀(n:Nat) (m:Iu),∃pre l,oA k n m=pre++[(1,l)]/\(∀p∈pre,p.1=0)/\ba pre++l=m
 |0,m=>⟨[],m,rfl,by simp,by simp[ba]⟩
 |n+1,m=>by
  unfold oA;split
  ·obtain⟨pre,l,h1,h2,h3⟩:=tY k n (m.drop k);refine⟨(0,m.take k) :: pre,l,by rw[h1];rfl,?_,?_⟩
   ·intro p hp;rcases ac7.mp hp with rfl|hp
    ·rfl
    ·exact h2 p hp
   ·rw[show ba ((0,m.take k) :: pre)=m.take k++ba pre by simp[ba],ae2,h3,ag3]
  ·exact⟨[],m,rfl,by simp,by simp[ba]⟩
def lV(k:Nat)(m:Iu):∃pre l,gh k m=pre++[(1,l)]/\(∀p∈pre,p.1=0)/\ba pre++l=m:=tY k 100 m
def rY(k:Nat)(m:Iu):HI (gh k m)=1:=by
 obtain⟨pre,l,h1,h2,_⟩:=lV k m;rw[h1,eh,rq h2];rfl
def qI(k:Nat)(m:Iu):∀p∈gh k m,p.1=0\/p.1=1:=by
 obtain⟨pre,l,h1,h2,_⟩:=lV k m;intro p hp;rw[h1] at hp;rcases ab0.mp hp with hp|hp
 ·exact .inl (h2 p hp)
 ·rw[ab3.mp hp];exact .inr rfl
def sF(x:List Iu×List Pc)(p:Pc):List Iu×List Pc:=if p.1=1 then (x.1++[ba (x.2++[p])],[]) else (x.1,x.2++[p])
def QO(ps:List Pc):List Iu×List Pc:=ps.foldl sF ([],[])
def wp(ps:List Pc)(p:Pc):QO (ps++[p])=sF (QO ps) p:=by simp[QO,ar6]
theorem qu:∀(ps:List Pc) (x:List Iu×List Pc),(∀p∈ps,p.1=0)->ps.foldl sF x=(x.1,x.2++ps)
 |[],x,_=>by simp
 |p :: ps,x,h=>by
  have h0:p.1=0:=h p (by simp);have h1:¬p.1=1:=by rw[h0];decide
  rw[ar8,show sF x p=(x.1,x.2++[p]) by simp[sF,h1],qu ps _ fun q hq=>h q (aa9 _ hq)];simp
def D8(k:Nat)(m:Iu)(ms:List Iu):(gh k m).foldl sF (ms,[])=(ms++[m],[]):=by
 obtain⟨pre,l,h1,h2,h3⟩:=lV k m;rw[h1,ar6,qu pre _ h2];simp[sF,iV,w3,h3]
def fl(k:Nat)(ms:List Iu):List Pc:=ms.flatMap (gh k)
def tS(k:Nat)(a b:List Iu):fl k (a++b)=fl k a++fl k b:=by simp[fl]
def uF(k:Nat)(m:Iu)(ms:List Iu):fl k (m :: ms)=gh k m++fl k ms:=by simp[fl]
theorem wO(k:Nat):∀ms:List Iu,HI (fl k ms)=ms.length
 |[]=>rfl
 |m :: ms=>by rw[uF,eh,rY,wO k ms,ab8];omega
def Cd(k:Nat)(ms:List Iu):∀p∈fl k ms,p.1=0\/p.1=1:=by
 intro p hp;obtain⟨m,_,h⟩:=au6.mp hp;exact qI k m p h
theorem Bn(k:Nat):∀(ms:List Iu) (n:Nat) (acc:List Iu),∃b,((fl k ms).take n).foldl sF (acc,[])=(acc++ms.take (HI ((fl k ms).take n)),b)
 |[],n,acc=>⟨[],by simp[fl]⟩
 |m :: ms,n,acc=>by
  rw[uF];by_cases h:(gh k m).length<=n
  ·obtain⟨b,hb⟩:=Bn k ms (n-(gh k m).length) (acc++[m]);refine⟨b,?_⟩;rw[List.take_append,ah4 h,ar6,D8,hb,eh,rY,Nat.add_comm 1,List.take_succ_cons,ae2];rfl
  ·obtain⟨pre,l,h1,h2,h3⟩:=lV k m;have hz:∀p∈((gh k m++fl k ms).take n),p.1=0:=by
    intro p hp;rw[ai1 (by omega),h1] at hp;rw[h1,aa8,ad8] at h;rw[ai1 (by omega)] at hp;exact h2 p (aj9 hp)
   refine⟨(gh k m++fl k ms).take n,?_⟩;rw[qu _ _ hz,rq hz];simp
def wo(k:Nat)(ms:List Iu)(n:Nat):(QO ((fl k ms).take n)).1=ms.take (HI ((fl k ms).take n)):=by
 obtain⟨b,hb⟩:=Bn k ms n [];unfold QO;rw[hb];simp
def rW(a:List Pc){i j:Nat}(h:i<=j):HI (a.take i)<=HI (a.take j):=by
 have e:a.take j=a.take i++(a.take j).drop i:=by
  have:=ag3 i (a.take j);rw[List.take_take,ag7 h] at this;exact this.symm
 rw[e,eh];omega
def pr(k:Nat)(ms:List Iu)(n:Nat):HI ((fl k ms).take n)<=ms.length:=by
 rw[<-wO k ms];have:=eh ((fl k ms).take n) ((fl k ms).drop n);rw[ag3] at this;omega
def wZ{i low:Int}{w:Nat}(hw:0<w)(h1:low<=i)(h2:i<low+2 * w):jq (i % (2 * (w:Int))) low w=i:=by
 unfold jq;have hm:(0:Int)<2 * (w:Int):=by omega
 have e:(i % (2 * (w:Int))-low) % (2 * (w:Int))=(i-low) % (2 * (w:Int)):=by
  rw[Int.sub_emod,Int.emod_emod_of_dvd _ (Int.dvd_refl _),<-Int.sub_emod]
 rw[e,Int.emod_eq_of_lt (by omega) (by omega)];omega
end Lw
namespace Lw
open PySem L2 DL
def Ib(p:Pc):D:=.tup [.int p.1,.tup (p.2.map D.int)]
def D_(m:Iu):D:=.tup (m.map D.int)
def m_:x_->D
 |.A_ o=>.tup [.str "hello",.int (o:Int)]
 |.t_ o=>.tup [.str "welcome",.int (o:Int)]
 |.Ji o=>.tup [.str "who",.int (o:Int)]
 |.data o n p=>.tup [.str "data",.int (o:Int),.int (n:Int),Ib p]
 |.note o n bs=>.tup [.str "note",.int (o:Int),.int (n:Int),.tup (bs.map D.int)]
def dD{S:ay4}{i j:Nat}{c d:Cell}(h1:S[i]?=some c)(h2:S[j]?=some d)(h:c≠d):i≠j:=fun e=>h (by subst e;rw[h1] at h2;injection h2)
theorem de(n:Nat):∀is:List Int,jw n (is.map D.int)
 |[]=>by simp[jw]
 |i :: is=>by simp[jw,Jm,de n is]
def Ft(n:Nat)(x:Iu):Jm n (D_ x):=by simp[D_,Jm,de]
def Gj(n:Nat)(p:Pc):Jm n (Ib p):=by simp[Ib,Jm,jw,de]
theorem A1(n:Nat):∀ps:List Pc,jw n (ps.map Ib)
 |[]=>by simp[jw]
 |p :: ps=>by rw[ac2];exact⟨Gj n p,A1 n ps⟩
theorem wJ{k:Nat}(hk:1<=k):∀(n:Nat) (m:Iu),(oA k n m).length<=m.length+1
 |0,m=>by simp[oA]
 |n+1,m=>by
  unfold oA;split
  ·have:=wJ hk n (m.drop k);rw[ae8] at this;rw[ab8];omega
  ·simp
def nW{k:Nat}(hk:1<=k)(m:Iu):(gh k m).length<=m.length+1:=wJ hk 100 m
theorem oZ{k:Nat}(hk:1<=k){x0 x1:Option D}{S:ay4}:∀(fuel:Nat) (acc:List Pc) (m:Iu),m.length<fuel->acc.length+m.length<1000000->∃pre l,oA k fuel m=pre++[(1,l)]/\pre.length<=m.length/\
  fV (ao (f_ PK (aj bu (aa Jy ai)) Ic)) (aI (bx (KU iN H_ (aa (ci (aa (dI 0) (aa (Kb Jo Jy bK (bA Ic)) ai))) ai)))
 (cg (Kb Jo Jy (bA Ic) bK) (gN 4))) fuel [x0,x1,sI (k:Int),sO S.length,some (D_ m)] (S++[.lst (acc.map Ib)])=some (.nx [x0,x1,sI (k:Int),sO S.length,some (D_ l)],S++[.lst ((acc++pre).map Ib)])
 |0,_,_,h,_=>by omega
 |f+1,acc,m,h,hz=>by
  have t1:ao (f_ PK (aj bu (aa Jy ai)) Ic) [x0,x1,sI (k:Int),sO S.length,some (D_ m)] (S++[.lst (acc.map Ib)])=.ok (decide (k<m.length)) (S++[.lst (acc.map Ib)]):=by
   refine az (av (x:=.int (m.length:Int)) (ax (af rfl ah) (by unfold D_;rw[cn,aa7])) rfl ?_);rw[Et];congr 2;rw[ac3];omega
  by_cases hc:k<m.length
  ·rw[aa3 hc] at t1;obtain⟨pre,l,p1,p2,p3⟩:=oZ (x0:=x0) (x1:=x1) (S:=S) hk f (acc++[(0,m.take k)]) (m.drop k) (by rw[ae8];omega) (by rw[aa8,ae8,ad8];omega);refine⟨(0,m.take k) :: pre,l,?_,?_,?_⟩
   ·rw[oA,ab2 hc,p1];rfl
   ·rw[ae8] at p2;rw[ab8];omega
   ·have c1:fQ (m.map D.int) none (some (k:Int))=(m.take k).map D.int:=by rw[sX (by simp;omega),aq6]
    have c2:fQ (m.map D.int) (some (k:Int)) none=(m.drop k).map D.int:=by rw[gf (by simp;omega),as9]
    have s1:∀T,Kb Jo Jy bK (bA Ic) [x0,x1,sI (k:Int),sO S.length,some (D_ m)] T=.ok (D_ (m.take k)) T:=fun T=>by
     simp only[kS,au,kl,ac9,af1,dH,jW,dW,gl,D_,Jo,c1]
    have s2:∀T,Kb Jo Jy (bA Ic) bK [x0,x1,sI (k:Int),sO S.length,some (D_ m)] T=.ok (D_ (m.drop k)) T:=fun T=>by
     simp only[kS,au,kl,ac9,af1,dH,jW,dW,gl,D_,Jo,c2]
    have Ly:∀a c:Cell,(S++[a]).set S.length c=S++[c]:=fun a c=>by rw[ag4 _ _ (aa1 _)];simp
    have ee:=pc (S:=S++[.lst (acc.map Ib)]) (n:=S.length) (xs:=acc.map Ib) (d:=Ib (0,m.take k)) (aQ rfl) (by simp;omega);rw[Ly] at ee;have e2:acc.map Ib++[Ib (0,m.take k)]=(acc++[(0,m.take k)]).map Ib:=by simp
    rw[e2] at ee;rw[GG t1 (r2:=[x0,x1,sI (k:Int),sO S.length,some (D_ (m.drop k))]) (S2:=S++[.lst ((acc++[(0,m.take k)]).map Ib)])]
    ·rw[p3];simp
    ·rw[aw (aX (j4 rfl (aQ rfl) (af (bL (af rfl (af (s1 _) ah)) (by simp)) ah) ee)),bh (s2 _)];rfl
  ·rw[aa5 hc] at t1;refine⟨[],m,by rw[oA,ab1 hc];rfl,by simp,?_⟩;rw[Fp t1,ae4]
def tq{k:Nat}(hk:1<=k){m:Iu}(hm:m.length<=40)(S:ay4):dn [D_ m,.int (k:Int)] S=.ok (.tup ((gh k m).map Ib)) S:=by
 show cP S (kc 100 [some (D_ m),sI (k:Int),none,none,none] S)=_;unfold kc;have Xu:D2 [.int (k:Int),.int 1] S=.ok (.int (k:Int)) S:=by
  rw[EF];congr 2;omega
 rw[aw (bh (ax (af rfl (af rfl ah)) Xu))];show cP S (aI _ _ [some (D_ m),sI (k:Int),sI (k:Int),none,none] S)=_;rw[aw (bh (bU ah (by decide)))];show cP S (aI _ _ [some (D_ m),sI (k:Int),sI (k:Int),sO S.length,none] (S++[.lst []]))=_;rw[aw (bh (d:=D_ m) rfl)];show cP S (aI _ _ [some (D_ m),sI (k:Int),sI (k:Int),sO S.length,some (D_ m)] (S++[.lst []]))=_;obtain⟨pre,l,p1,p2,p3⟩:=oZ (x0:=some (D_ m)) (x1:=some (.int (k:Int))) (S:=S) hk 100 [] m (by omega) (by simp;omega);rw[aw3] at p3;have Ly:∀a c:Cell,(S++[a]).set S.length c=S++[c]:=fun a c=>by rw[ag4 _ _ (aa1 _)];simp
 have ee:=pc (S:=S++[.lst (pre.map Ib)]) (n:=S.length) (xs:=pre.map Ib) (d:=Ib (1,l)) (aQ rfl) (by simp;omega);rw[Ly] at ee;have e2:pre.map Ib++[Ib (1,l)]=(gh k m).map Ib:=by unfold gh;rw[p1];simp
 rw[e2] at ee;rw[aw p3,ar9,aw (aX (j4 rfl (aQ rfl) (af (bL (af rfl (af rfl ah)) (by simp)) ah) ee)),aS (ax (af (x:=.ob S.length) rfl ah) (fW (aQ rfl)))];exact lM (by unfold Jm;exact A1 _ _)
def R_:St->Str
 |.IQ=>"shut"
 |.opening=>"opening"
 |.opened=>"open"
def PM(l:ax4):List (Key×D):=l.map fun(k:Nat)=>(Sum.inl (k:Int),.bl true)
structure HY(G:Cs)(S:ay4)(n m p q:Nat)(s:Sr):Prop where
 ob:S[n]?=some (.ins G.c_ a_ [.int (s.w:Int),.int (s.most:Int),.ob m,.int (s.sure:Int),.int (s.op:Int),.str (R_ s.st),.ob p,.int (s.base:Int),.ob q])
 ms:S[m]?=some (.lst (s.msgs.map D_))
 ps:S[p]?=some (.lst (s.ps.map Ib))
 nt:S[q]?=some (.Js (PM s.Hu))
 mp:m≠p
section
variable{G:Cs}{S S' S1 S2:ay4}{n m p q p1 q1 p2 q2 p' q':Nat}{s s' s1 s2:Sr}
def HY.nm(a:HY G S n m p q s):n≠m:=dD a.ob a.ms (by intro z;cases z)
def HY.np(a:HY G S n m p q s):n≠p:=dD a.ob a.ps (by intro z;cases z)
def HY.nq(a:HY G S n m p q s):n≠q:=dD a.ob a.nt (by intro z;cases z)
def HY.mq(a:HY G S n m p q s):m≠q:=dD a.ms a.nt (by intro z;cases z)
def HY.pq(a:HY G S n m p q s):p≠q:=dD a.ps a.nt (by intro z;cases z)
def HY.push(a:HY G S n m p q s)(c:ay4):HY G (S++c) n m p q s:=⟨aB a.ob,aB a.ms,aB a.ps,aB a.nt,a.mp⟩
structure Jj(G:Cs)(n m p q:Nat)(S:ay4)(p' q':Nat)(S':ay4)(s':Sr):Prop where
 at_:HY G S' n m p' q' s'
 fr:Fr [n,m,p,q] S S'
 p_:p'=p\/S.length<=p'
 q_:q'=q\/S.length<=q'
def Jj.trans(a:Jj G n m p q S p1 q1 S1 s1)(c:Jj G n m p1 q1 S1 p2 q2 S2 s2):Jj G n m p q S p2 q2 S2 s2:=by
 have hl:=a.fr.1;refine⟨c.at_,a.fr.trans c.fr fun i hi hs=>?_,?_,?_⟩
 ·simp only[ac7,am2,as1] at hi ⊢;have he:=a.p_;have hb:=a.q_;omega
 ·have:=a.p_;have:=c.p_;omega
 ·have:=a.q_;have:=c.q_;omega
def Jj.refl(a:HY G S n m p q s):Jj G n m p q S p q S s:=⟨a,Fr.refl _ _,.inl rfl,.inl rfl⟩
def Jj.push(a:Jj G n m p q S p' q' S' s')(c:ay4):Jj G n m p q S p' q' (S'++c) s':=⟨a.at_.push c,a.fr.tr Fr.push,a.p_,a.q_⟩
def BM(a:HY G S n m p q s)(r:r_):aC G.c_ a_ 0 h_ (some (.ob n) :: r) S=.ok (.int (s.w:Int)) S:=cj rfl a.ob rfl
def zw(a:HY G S n m p q s)(r:r_):aC G.c_ a_ 1 h_ (some (.ob n) :: r) S=.ok (.int (s.most:Int)) S:=cj rfl a.ob rfl
def EE(a:HY G S n m p q s)(r:r_):aC G.c_ a_ 2 h_ (some (.ob n) :: r) S=.ok (.ob m) S:=cj rfl a.ob rfl
def Ee(a:HY G S n m p q s)(r:r_):aC G.c_ a_ 3 h_ (some (.ob n) :: r) S=.ok (.int (s.sure:Int)) S:=cj rfl a.ob rfl
def Bt(a:HY G S n m p q s)(r:r_):aC G.c_ a_ 4 h_ (some (.ob n) :: r) S=.ok (.int (s.op:Int)) S:=cj rfl a.ob rfl
def tu(a:HY G S n m p q s)(r:r_):aC G.c_ a_ 5 h_ (some (.ob n) :: r) S=.ok (.str (R_ s.st)) S:=cj rfl a.ob rfl
def rP(a:HY G S n m p q s)(r:r_):aC G.c_ a_ 6 h_ (some (.ob n) :: r) S=.ok (.ob p) S:=cj rfl a.ob rfl
def lP(a:HY G S n m p q s)(r:r_):aC G.c_ a_ 7 h_ (some (.ob n) :: r) S=.ok (.int (s.base:Int)) S:=cj rfl a.ob rfl
def Gk(a:HY G S n m p q s)(r:r_):aC G.c_ a_ 8 h_ (some (.ob n) :: r) S=.ok (.ob q) S:=cj rfl a.ob rfl
def vE(a b:St)(S:ay4):HJ (.str (R_ a)) (.str (R_ b)) S=.ok (.bl (decide (a=b))) S:=by
 cases a<;>cases b<;>exact bg
def Gu(a b:St)(S:ay4):Kc (.str (R_ a)) (.str (R_ b)) S=.ok (.bl (!decide (a=b))) S:=by
 cases a<;>cases b<;>exact Br
structure Sb(N:Nat)(s:Sr):Prop where
 most:1<=s.most
 ml:s.msgs.length<=N
 QP:∀x,x∈s.msgs->x.length<=40
 pl:s.ps.length<=41 * N
 fg:∀x,x∈s.ps->x.1=0\/x.1=1
 nl:s.Hu.length<=7 * N
theorem xm{k:Nat}(hk:1<=k):∀{ms:List Iu},(∀x,x∈ms->x.length<=40)->(fl k ms).length<=41 * ms.length
 |[],_=>by simp[fl]
 |x :: ms,h=>by
  have h1:=nW hk x;have h2:=h x (by simp);have h3:=xm hk (ms:=ms) fun y hy=>h y (aa9 _ hy)
  rw[uF,aa8,ab8];omega
def Sb.mono{N M:Nat}(b:Sb N s)(h:N<=M):Sb M s:=⟨b.most,ab5 b.ml h,b.QP,by have:=b.pl;omega,b.fg,by have:=b.nl;omega⟩
def Sb.hand{N:Nat}{x:Iu}(b:Sb N s)(hx:x.length<=40):Sb (N+1) (s.hand x):=by
 have h1:=b.ml;have h2:=b.pl;have h3:=nW b.most x;refine⟨b.most,?_,?_,?_,?_,by have:=b.nl;show s.Hu.length<=_;omega⟩
 ·show(s.msgs++[x]).length<=_;rw[aa8,ad8];omega
 ·intro y hy;rcases ab0.mp hy with hy|hy
  ·exact b.QP y hy
  ·rw[ab3.mp hy];exact hx
 ·show(if s.st=.IQ then s.ps else s.ps++gh s.most x).length<=_;split
  ·omega
  ·rw[aa8];omega
 ·intro y hy;have Xv:y∈(if s.st=.IQ then s.ps else s.ps++gh s.most x):=hy;split at Xv
  ·exact b.fg y Xv
  ·rcases ab0.mp Xv with hy|hy
   ·exact b.fg y hy
   ·exact qI _ _ y hy
def Sb.anew{N:Nat}(b:Sb N s):Sb N s.anew:=by
 refine⟨b.most,b.ml,b.QP,?_,Cd _ _,ae7 _⟩;have:=xm b.most (ms:=s.msgs.drop s.sure) fun x hx=>b.QP x (al5 hx)
 rw[ae8] at this;have h1:=b.ml;show(fl s.most (s.msgs.drop s.sure)).length<=_;omega
def Df{N:Nat}(a:HY G S n m p q s)(b:Sb N s)(hN:N<20000){x:Iu}(hx:x.length<=40):∃S',gq G [.ob n,D_ x] S=.ok .Hw S'/\Jj G n m p q S p q S' (s.hand x):=by
 show ∃S',fin S (jh G [sO n,some (D_ x)] S)=_/\_;unfold jh;have Z7:=b.ml;have M8:=b.pl;have Ox:=nW b.most x;obtain⟨S1,q1,c1⟩:=ur (fo:=aC G.c_ a_ 2 h_) (ft:=aa v_ ai) (r:=[sO n,some (D_ x)]) (EE a _) a.ms (af rfl ah) (by rw[aa7];omega);have a1:HY G S1 n m p q { s with msgs:=s.msgs++[x] }:=⟨c1.old a.ob a.nm.symm,by simpa using c1.at_,c1.old a.ps a.mp,c1.old a.nt a.mq,a.mp⟩;have f1:Fr [n,m,p,q] S S1:=c1.fp (by simp);rw[aw (aX q1)];have t1:ao (f_ Kc (aC G.c_ a_ 5 h_) (dT "shut")) [sO n,some (D_ x)] S1=.ok (!decide (s.st=.IQ)) S1:=az (av (tu a1 _) rfl (Gu s.st .IQ _));by_cases hs:s.st=.IQ
 ·rw[aa3 hs] at t1;have e1:s.hand x = { s with msgs:=s.msgs++[x] }:=by unfold Sr.hand;rw[ab2 hs]
  rw[ay t1,e1];exact⟨S1,rfl,a1,f1,.inl rfl,.inl rfl⟩
 ·rw[aa5 hs] at t1;have e1:s.hand x = { s with msgs:=s.msgs++[x],ps:=s.ps++gh s.most x }:=by unfold Sr.hand;rw[ab1 hs]
  obtain⟨S2,q2,c2⟩:=Cm (fo:=aC G.c_ a_ 6 h_) (ft:=aa (aj dn (aa v_ (aa (aC G.c_ a_ 1 h_) ai))) ai) (r:=[sO n,some (D_ x)]) (rP a1 _) a1.ps
   (af (ax (af rfl (af (zw a1 _) ah)) (tq b.most hx S1)) ah) (by rw[aa7,aa7];show s.ps.length+_<=_;omega)
  rw[aT t1,aX q2,e1];refine⟨S2,rfl,⟨c2.old a1.ob a.np.symm,c2.old a1.ms a.mp.symm,by simpa using c2.at_,c2.old a1.nt a.pq,a.mp⟩,f1.tr (c2.fp (by simp)),.inl rfl,.inl rfl⟩
def Ec(a:HY G S n m p q s):∃S',gz G [.ob n] S=.ok .Hw S'/\Jj G n m p q S p q S' s.Ik:=by
 show ∃S',fin S (iC G [sO n] S)=_/\_;unfold iC;obtain⟨S1,q1,c1⟩:=gX (fo:=h_) (fe:=dT "shut") (r:=[sO n]) (i:=5) rfl rfl a.ob rfl;rw[q1];exact⟨S1,rfl,⟨c1.at_,c1.old a.ms a.nm,c1.old a.ps a.np,c1.old a.nt a.nq,a.mp⟩,c1.fp (by simp),.inl rfl,.inl rfl⟩
end
section
variable{G:Cs}{S S' S1 S2:ay4}{n m p q p1 q1 p2 q2 p' q':Nat}{s s' s1 s2:Sr}{N:Nat}
def By{k:Nat}{ms:List Iu}{i:Nat}{x:Iu}(h:ms[i]?=some x):fl k (ms.take (i+1))=fl k (ms.take i)++gh k x:=by
 rw[al2,h,toList_some,tS];simp[fl]
def AI{s:Sr}(b:Sb N s)(hN:N<=20000){ms:List Iu}(V3:∀x,x∈ms->x.length<=40)(hl:ms.length<=N){kk:Nat}{x1:Option D}(a:HY G S n m p q s)(hp0:s.ps=[])(hk:S[kk]?=some (.lst (ms.map D_)))(V2:kk≠p) :
  ∃S' Sa,ji (some (kk,ms.map D_)) (gN 1) (dP G) (ms.map D_) [sO n,x1] S=some (.nx [sO n,Sa],S')/\HY G S' n m p q { s with ps:=fl s.most ms }/\Fr [p] S S':=by
 obtain⟨r',S',e,Sa,rfl,a',f',_⟩:=db (g:=some (kk,ms.map D_)) (tg:=gN 1) (b:=dP G)
  (fun i r S'=>∃Sa,r=[sO n,Sa]/\HY G S' n m p q { s with ps:=fl s.most (ms.take i) }/\Fr [p] S S'/\S'[kk]?=some (.lst (ms.map D_))) (ms.map D_) 0 [sO n,x1] S
  (by
   rintro i y r S' hy ⟨Sa,rfl,a',f',k'⟩;rw[ac8] at hy;cases hx:ms[i]? with
   |none=>rw[hx] at hy;cases hy
   |some x=>
    rw[hx] at hy;cases hy;rw[af7] at a' ⊢;have hxm:=af2 hx;have Q2:=(aa2.mp hx).1;have l1:=xm b.most (ms:=ms.take i) fun y hy=>V3 y (aj9 hy)
    have l2:=nW b.most x;have l3:=V3 x hxm;rw[ad7] at l1;obtain⟨S2,q2,c2⟩:=Cm (fo:=aC G.c_ a_ 6 h_) (ft:=aa (aj dn (aa v_ (aa (aC G.c_ a_ 1 h_) ai))) ai) (r:=[sO n,some (D_ x)]) (rP a' _) a'.ps
     (af (ax (af rfl (af (zw a' _) ah)) (tq b.most l3 S')) ah) (by rw[aa7,aa7];show(fl s.most (ms.take i)).length+_<=_;omega)
    refine⟨[sO n,some (D_ x)],[sO n,some (D_ x)],S2,rfl,aX q2,c2.old k' V2.symm,some (D_ x),rfl,?_,f'.tr (c2.fp (by simp)),c2.old k' V2.symm⟩;refine⟨c2.old a'.ob a.np.symm,c2.old a'.ms a.mp.symm,?_,c2.old a'.nt a.pq,a.mp⟩;show S2[p]?=some (.lst ((fl s.most (ms.take (i+1))).map Ib));rw[By hx,ae0];exact c2.at_)
  ⟨x1,rfl,⟨a.ob,a.ms,by show S[p]?=some (.lst ((fl s.most (ms.take 0)).map Ib));rw[List.take_zero];have:=a.ps;rw[hp0] at this;exact this,a.nt,a.mp⟩,Fr.refl _ _,hk⟩
 refine⟨S',Sa,e,?_,f'⟩;rw[show 0+(ms.map D_).length=ms.length by simp,an8] at a';exact a'
def zl(a:HY G S n m p q s)(b:Sb N s)(hN:N<=20000):∃S' p' q',bR G [.ob n] S=.ok .Hw S'/\Jj G n m p q S p' q' S' s.anew:=by
 show ∃S' p' q',fin S (eF G [sO n,none] S)=_/\_;unfold eF;have ln:=bq a.ob;have lm:=bq a.ms;have lp:=bq a.ps;have lq:=bq a.nt;obtain⟨S1,e1,c1⟩:=yE (fo:=h_) (fe:=dI 1) (r:=[sO n,none]) (i:=4) rfl a.ob rfl rfl rfl;obtain⟨S2,e2,c2⟩:=gX (fo:=h_) (fe:=dT "opening") (r:=[sO n,none]) (i:=5) rfl rfl c1.at_ rfl;obtain⟨S3,e3,c3⟩:=gX (fo:=h_) (fe:=bT ai) (r:=[sO n,none]) (i:=6) (bU ah (by decide)) rfl (aB (G:=[.lst []]) c2.at_) rfl;have l1:=c1.len;have l2:=c2.len;have l3:=c3.len;rw[aa8,ad8] at l3;have ms3:S3[m]?=some (.lst (s.msgs.map D_)):=c3.old (aB (c2.old (c1.old a.ms a.nm) a.nm)) a.nm;have a3:HY G S3 n m S2.length q { s with op:=s.op+1,st:=.opening,ps:=[] }:=
  ⟨c3.at_,ms3,c3.old (aQ rfl) (by omega),c3.old (aB (c2.old (c1.old a.nt a.nq) a.nq)) a.nq,by omega⟩
 have f3:Fr [n] S S3:=((c1.fr.tr c2.fr).tr Fr.push).tr c3.fr;have b3:Sb N { s with op:=s.op+1,st:=.opening,ps:=[] }:=⟨b.most,b.ml,b.QP,ae7 _,by simp,b.nl⟩;have Tc:fQ (s.msgs.map D_) (some (s.sure:Int)) none=(s.msgs.drop s.sure).map D_:=by
  unfold fQ;rw[HT.Kk,HT.Ll,as9];by_cases h:s.sure<=(s.msgs.map D_).length
  ·rw[ag7 h,ah4 (by rw[ae8];omega)]
  ·rw[ap9 (by omega),al4 (aa1 _),al4 (by omega)];simp
 have w1:Kt (Kb Jo (aC G.c_ a_ 2 h_) (bA (aC G.c_ a_ 3 h_)) bK) [sO n,none] S3=.ok ⟨(s.msgs.drop s.sure).map D_,some (S3.length,(s.msgs.drop s.sure).map D_)⟩ (S3++[.lst ((s.msgs.drop s.sure).map D_)]):=by
  have:Kb Jo (aC G.c_ a_ 2 h_) (bA (aC G.c_ a_ 3 h_)) bK [sO n,none] S3=.ok (.ob S3.length) (S3++[.lst ((s.msgs.drop s.sure).map D_)]):=by
   rw[kS,au,EE a3];dsimp only;rw[au,dW,au,Ee a3];simp only[gl,jW,dH,au,Jo,bQ a3.ms];rw[show({ s with op:=s.op+1,st:=.opening,ps:=[] }:Sr).sure=s.sure from rfl,Tc]
  rw[n4,au,this];simp only[lI,bE]
 have V1:(s.msgs.drop s.sure).length<=N:=by have:=b.ml;rw[ae8];omega
 obtain⟨S4,x4,e4,a4,f4⟩:=AI (x1:=none) b3 hN (ms:=s.msgs.drop s.sure) (fun x hx=>b.QP x (al5 hx)) V1 (kk:=S3.length) (a3.push [.lst ((s.msgs.drop s.sure).map D_)]) rfl (aQ rfl) (by omega);have l4:=f4.1;rw[aa8,ad8] at l4;obtain⟨S5,e5,c5⟩:=gX (fo:=h_) (fe:=dI 0) (r:=[sO n,x4]) (i:=7) rfl rfl a4.ob rfl;obtain⟨S6,e6,c6⟩:=gX (fo:=h_) (fe:=kR) (r:=[sO n,x4]) (i:=8) rfl rfl (aB (G:=[.Js []]) c5.at_) rfl;have l5:=c5.len;have lp4:=bq a4.ps;refine⟨S6,S2.length,S5.length,?_,⟨⟨c6.at_,c6.old (aB (c5.old a4.ms a.nm)) a.nm,c6.old (aB (c5.old a4.ps (by omega))) (by omega),c6.old (aQ rfl) (by omega),by omega⟩,?_,.inr (by omega),.inr (by omega)⟩⟩
 ·rw[aw e1,aw e2,aw e3,aw (by rw[kg w1];exact e4),aw e5,e6];rfl
 ·have g1:Fr [n,m,p,q] S S3:=f3.mono fun i hi _=>by simp at hi;simp[hi]
  have g2:Fr [n,m,p,q] S S4:=(g1.tr Fr.push).trans f4 fun i hi hs=>by
   have:i=S2.length:=by simpa using hi
   omega
  exact((g2.tr (c5.fp (by simp))).tr Fr.push).tr (c6.fp (by simp))
def CG(a:HY G S n m p q s)(b:Sb N s)(hN:N<=20000):∃S' p' q',eZ G [.ob n] S=.ok .Hw S'/\Jj G n m p q S p' q' S' s.start:=by
 show ∃S' p' q',fin S (ig G [sO n] S)=_/\_;unfold ig;have t1:ao (f_ HJ (aC G.c_ a_ 5 h_) (dT "shut")) [sO n] S=.ok (decide (s.st=.IQ)) S:=az (av (tu a _) rfl (vE s.st .IQ _));by_cases hs:s.st=.IQ
 ·rw[aa3 hs] at t1;obtain⟨S',p',q',e1,k1⟩:=zl a b hN;refine⟨S',p',q',?_,?_⟩
  ·rw[aT t1,aX (bc rfl a.ob ah e1)];rfl
  ·unfold Sr.start;rw[ab2 hs];exact k1
 ·rw[aa5 hs] at t1;refine⟨S,p,q,?_,?_⟩
  ·rw[ay t1];rfl
  ·unfold Sr.start;rw[ab1 hs];exact Jj.refl a
def Fm(l:ax4)(k:Nat):(im (PM l) (.inl (k:Int))).isSome=decide (k∈l):=by
 induction l with
 |nil=>rfl
 |cons a r ih=>
  unfold PM at ih ⊢;rw[ac2];unfold im at ih ⊢;rw[aj0];by_cases h:a=k
  ·subst h;simp
  ·have h2:decide ((Sum.inl (a:Int):Key)=Sum.inl (k:Int))=false:=aa5 fun z=>h (by injection z with z;omega)
   simp only[h2];rw[ih];simp[af8 h]
def wb{m w:Nat}(hw:0<w)(S:ay4):d5 [.int (m:Int),.int (w:Int)] S=.ok (.int ((m % (2 * w):Nat):Int)) S:=by
 have h1:(0:Int)<2 * (w:Int):=by omega
 simp[d5,nP,dg h1]
def zG(a:HY G S n m p q s)(hw:0<s.w){i:Nat}(hi:i<s.ps.length):dj G [.ob n,.int (i:Int)] S=.ok (m_ (s.dataOf i)) S:=by
 show fin S (fm G [sO n,sI (i:Int)] S)=_;unfold fm;have hx:s.ps[i]?=some (s.ps.getD i (0,[])):=by simp[getD,hi]
 have e1:w_ (.ob p) (.int (i:Int)) S=.ok (Ib (s.ps.getD i (0,[]))) S:=j9 a.ps (by rw[ac8,hx];rfl);rw[aS (bL (af rfl (af (Bt a _) (af (ax (af rfl (af (BM a _) ah)) (wb hw S)) (af (av (rP a _) rfl e1) ah)))) (by simp))];rfl
def Dm{lo hi:Nat}(h:hi<=1000000)(S:ay4):wL (.int (lo:Int)) (.int (hi:Int)) S=.ok ⟨fw (lo:Int) 1 (hi-lo),none⟩ S\/hi<lo:=by
 by_cases hl:hi<lo
 ·exact .inr hl
 ·refine .inl ?_;show vS (lo:Int) (hi:Int) 1 S=_;have hs:small (lo:Int) (hi:Int) 1=true:=small_one (by omega) (by omega) (by omega) (by omega);unfold vS;have e:(if (lo:Int)<(hi:Int) then (hi:Int)-(lo:Int) else 0).toNat=hi-lo:=by split<;>omega
  rw[bY ⟨⟨by omega,by omega⟩,hs⟩,rangeSize_one,e]
def Au(a:HY G S n m p q s)(hN:s.ps.length<=1000000)(hb:s.base<=s.ps.length):dG G [.ob n] S=.ok (.ob S.length) (S++[.lst (s.wanted.map fun(i:Nat)=>.int (i:Int))]):=by
 show fin S (fR G [sO n,none] S)=_;unfold fR;have e1:aj AH (aa (f_ bI (aC G.c_ a_ 7 h_) (aC G.c_ a_ 0 h_)) (aa (aj bu (aa (aC G.c_ a_ 6 h_) ai)) ai)) [sO n,none] S=.ok (.int ((min (s.base+s.w) s.ps.length:Nat):Int)) S:=by
  refine ax (af (av (lP a _) (BM a _) (ck _ _)) (af (ax (af (rP a _) ah) (jY a.ps)) ah)) ?_;rw[EG,aa7];congr 2;omega
 rw[aw (bh e1)];show fin S (bN _ [sO n,sI ((min (s.base+s.w) s.ps.length:Nat):Int)] S)=_;obtain⟨hi,Xw⟩:∃hi,min (s.base+s.w) s.ps.length=hi:=⟨_,rfl⟩;have VG:s.base<=hi:=by omega
 have q1:=il (f:=zr (aC G.c_ a_ 7 h_) v_) (tg:=gN 0) (ti:=ao (f_ fu h_ (aC G.c_ a_ 8 v_))) (fe:=h_) (own:=1) (caps:=[0])
  (r:=[sO n,sI (hi:Int)]) (S:=S) (S1:=S) (w:=⟨fw (s.base:Int) 1 (hi-s.base),none⟩) (fun x=>match x with
   |.int k=>decide (k.toNat∉s.Hu)
   |_=>false) id (by
   show((aC G.c_ a_ 7 h_ [sO n,sI (hi:Int)]).bind fun x=>(v_ [sO n,sI (hi:Int)]).bind fun y=>wL x y) S=_;rw[au,lP a];show wL (.int (s.base:Int)) (.int (hi:Int)) S=_;rcases Dm (lo:=s.base) (hi:=hi) (by omega) S with h|h
   ·exact h
   ·omega) trivial (by simp[fw];omega) (by
   intro x hx;simp only[fw,mem_map,mem_range] at hx;obtain⟨k,_,rfl⟩:=hx;have hk:(s.base:Int)+(k:Int) * 1=((s.base+k:Nat):Int):=by omega
   rw[hk];refine⟨_,rfl,fun zs=>?_,fun _ zs=>rfl⟩;have ap:=a.push [.lst zs];have g2:aC G.c_ a_ 8 v_ [sI ((s.base+k:Nat):Int),sO n] (S++[.lst zs])=.ok (.ob q) (S++[.lst zs]):=cj rfl ap.ob rfl;show ao _ [sI ((s.base+k:Nat):Int),sO n] (S++[.lst zs])=_;refine az (av rfl g2 ?_);simp only[fu,ir,fO ap.nt,Fm,af4];simp)
 have hw:((fw (s.base:Int) 1 (hi-s.base)).filter (fun x=>match x with
   |.int k=>decide (k.toNat∉s.Hu)
   |_=>false)).map id=s.wanted.map fun(i:Nat)=>.int (i:Int):=by
  unfold fw Sr.wanted;rw[Xw,List.map_id,List.range'_eq_map_range,List.filter_map,List.filter_map,ah6];have:((fun x:D=>match x with
   |.int k=>decide (k.toNat∉s.Hu)
   |_=>false) ∘ fun(i:Nat)=>D.int ((s.base:Int)+(i:Int) * 1))=((fun i=>decide (i∉s.Hu)) ∘ fun x=>s.base+x):=by
   funext i;have hk:((s.base:Int)+(i:Int) * 1).toNat=s.base+i:=by omega
   simp only[ai3,hk]
  rw[this];refine ag0 fun i _=>?_
  simp only[ai3];congr 1;omega
 rw[hw] at q1;rw[Xw,aS q1];rfl
def Ek(a:HY G S n m p q s)(hw:0<s.w)(hN:s.ps.length<=1000000)(hb:s.st=.opened->s.base<=s.ps.length):∃S' l,gy G [.ob n] S=.ok (.ob l) S'/\Jj G n m p q S p q S' s/\S'[l]?=some (.lst (s.tick.map m_))/\S.length<=l:=by
 show ∃S' l,fin S (iL G [sO n] S)=_/\_;unfold iL;have t1:ao (f_ HJ (aC G.c_ a_ 5 h_) (dT "opening")) [sO n] S=.ok (decide (s.st=.opening)) S:=az (av (tu a _) rfl (vE s.st .opening _));have t2:ao (f_ HJ (aC G.c_ a_ 5 h_) (dT "open")) [sO n] S=.ok (decide (s.st=.opened)) S:=az (av (tu a _) rfl (vE s.st .opened _));cases hs:s.st with
 |opening=>
  rw[hs] at t1;have e1:s.tick=[.A_ s.op]:=by unfold Sr.tick;rw[hs]
  rw[di (by rw[aT t1];exact aS (bU (af (bL (af rfl (af (Bt a _) ah)) (by simp)) ah) (by simp))),e1];exact⟨_,_,rfl,(Jj.refl a).push _,aQ rfl,aa1 _⟩
 |IQ=>
  rw[hs] at t1 t2;have e1:s.tick=[]:=by unfold Sr.tick;rw[hs]
  rw[aw (by rw[ay t1];rfl),aw (by rw[ay t2];rfl),aS (bU ah (by decide)),e1];exact⟨_,_,rfl,(Jj.refl a).push _,aQ rfl,aa1 _⟩
 |opened=>
  rw[hs] at t1 t2;have e1:s.tick=s.wanted.map s.dataOf:=by unfold Sr.tick;rw[hs]
  obtain⟨S1,PN⟩:∃S1,S++[Cell.lst (s.wanted.map fun(i:Nat)=>.int (i:Int))]=S1:=⟨_,rfl⟩;have w1:=Au a hN (hb hs);rw[PN] at w1;have k1:S1[S.length]?=some (.lst (s.wanted.map fun(i:Nat)=>.int (i:Int))):=by rw[<-PN];exact aQ rfl
  have a1:HY G S1 n m p q s:=by rw[<-PN];exact a.push _
  have wl:s.wanted.length<=1000000:=by
   unfold Sr.wanted;refine ab5 (ap7 _ _) ?_;rw[List.length_range'];omega
  have q1:=il (f:=Kt (br G.c_ a_ (dG G) h_ ai)) (tg:=gN 0) (ti:=hV) (fe:=br G.c_ a_ (dj G) v_ (aa h_ ai)) (own:=1) (caps:=[0])
   (r:=[sO n]) (S:=S) (S1:=S1) (w:=⟨s.wanted.map fun(i:Nat)=>.int (i:Int),some (S.length,s.wanted.map fun(i:Nat)=>.int (i:Int))⟩) (fun _=>true) (fun x=>match x with
    |.int k=>m_ (s.dataOf k.toNat)
    |_=>.Hw) (by
    rw[n4,au,bc rfl a.ob ah w1];simp only[lI,k1]) k1 (by rw[aa7];exact wl) (by
    intro x hx;obtain⟨i,hi,rfl⟩:=ab6.mp hx;refine⟨_,rfl,fun _=>rfl,fun _ zs=>?_⟩;have ap:=a1.push [.lst zs];have hi2:i<s.ps.length:=by
     unfold Sr.wanted at hi;have:=(List.mem_range'_1.mp (ad3.mp hi).1).2;have:=hb hs;omega
    show br _ _ _ _ _ [sI (i:Int),sO n] (S1++[.lst zs])=_;refine bc rfl ap.ob (af rfl ah) ?_;rw[zG ap hw hi2];dsimp only;rw[af4])
  have hm:((s.wanted.map fun(i:Nat)=>D.int (i:Int)).filter fun _=>true).map (fun x=>match x with
    |.int k=>m_ (s.dataOf k.toNat)
    |_=>.Hw)=(s.wanted.map s.dataOf).map m_:=by
   rw[ai5.mpr (by simp),ah6,ah6];refine ag0 fun i _=>?_
   simp only[ai3,af4]
  dsimp only at q1;rw[hm] at q1;rw[aw (by rw[ay t1];rfl),di (by rw[aT t2];exact aS q1),e1];refine⟨_,_,rfl,⟨a1.push _,?_,.inl rfl,.inl rfl⟩,aQ rfl,?_⟩
  ·rw[<-PN];exact Fr.push.tr Fr.push
  ·rw[<-PN];simp
def Cf{xs:ay7}{i j:Nat}(h1:i<=j)(h2:j<=xs.length):fQ xs (some (i:Int)) (some (j:Int))=(xs.take j).drop i:=by
 unfold fQ;rw[HT.Kk,HT.Kk,ag7 (show i<=xs.length by omega),ag7 h2,List.drop_take]
def zK{ps:List Pc}(h:∀x,x∈ps->x.1=0\/x.1=1):(ps.map (·.1)).sum=(HI ps:Int):=by
 induction ps with
 |nil=>rfl
 |cons a r ih=>
  have h1:=h a (by simp);have h2:=ih fun x hx=>h x (aa9 _ hx)
  have e:HI (a :: r)=(if a.1=1 then 1 else 0)+HI r:=by
   unfold HI;rw[ak8];rcases h1 with h1|h1
   ·simp[h1]
   ·simp[h1];omega
  rw[ac2,sum_cons,h2,e];rcases h1 with h1|h1
  ·rw[h1];simp
  ·rw[h1];simp
def Dt(a:HY G S n m p q s)(b:Sb N s)(hN:N<=20000){i:Nat}(h1:s.base<=i)(h2:i<=s.ps.length):∃S',du G [.ob n,.int (i:Int)] S=.ok .Hw S'/\Jj G n m p q S p q S' (s.Kg i):=by
 show ∃S',fin S (eA G [sO n,sI (i:Int)] S)=_/\_;unfold eA;have M8:=b.pl;obtain⟨qs,V4⟩:∃qs,(s.ps.take i).drop s.base=qs:=⟨_,rfl⟩;have hql:qs.length<=1000000:=by rw[<-V4,ae8,ad7];omega
 have hqf:∀x,x∈qs->x.1=0\/x.1=1:=fun x hx=>b.fg x (by rw[<-V4] at hx;exact aj9 (al5 hx))
 have w1:Kt (Kb Jo (aC G.c_ a_ 6 h_) (bA (aC G.c_ a_ 7 h_)) (bA v_)) [sO n,sI (i:Int)] S=.ok ⟨qs.map Ib,some (S.length,qs.map Ib)⟩ (S++[.lst (qs.map Ib)]):=by
  have:Kb Jo (aC G.c_ a_ 6 h_) (bA (aC G.c_ a_ 7 h_)) (bA v_) [sO n,sI (i:Int)] S=.ok (.ob S.length) (S++[.lst (qs.map Ib)]):=by
   rw[kS,au,rP a];dsimp only;rw[au,dW,au,lP a];simp only[gl,jW,au,dW,kl,ac9,af1,Jo,bQ a.ps];rw[Cf h1 (by rw[aa7];exact h2),<-aq6,<-as9,V4]
  rw[n4,au,this];simp only[lI,bE]
 have q1:=il (f:=Kt (Kb Jo (aC G.c_ a_ 6 h_) (bA (aC G.c_ a_ 7 h_)) (bA v_))) (tg:=gN 0) (ti:=hV) (fe:=f_ w_ h_ (dI 0)) (own:=1) (caps:=[]) (r:=[sO n,sI (i:Int)]) (S:=S)
  (S1:=S++[.lst (qs.map Ib)]) (w:=⟨qs.map Ib,some (S.length,qs.map Ib)⟩) (fun _=>true) (fun x=>match x with
   |.tup (y :: _)=>y
   |_=>.Hw) w1 (aQ rfl) (by rw[aa7];exact hql) (by
   intro x hx;obtain⟨y,_,rfl⟩:=ab6.mp hx;exact⟨_,rfl,fun _=>rfl,fun _ zs=>av rfl rfl rfl⟩)
 have hm:((qs.map Ib).filter fun _=>true).map (fun x=>match x with
   |.tup (y :: _)=>y
   |_=>.Hw)=(qs.map (·.1)).map D.int:=by
  rw[ai5.mpr (by simp),ah6,ah6];rfl
 dsimp only at q1;rw[hm] at q1;have e1:aj oR (aa (dS (Kt (Kb Jo (aC G.c_ a_ 6 h_) (bA (aC G.c_ a_ 7 h_)) (bA v_))) (gN 0) hV (f_ w_ h_ (dI 0)) 1 []) ai) [sO n,sI (i:Int)] S=.ok (.int (HI qs:Int)) ((S++[.lst (qs.map Ib)])++[.lst ((qs.map (·.1)).map D.int)]):=by
  refine ax (af q1 ah) ?_;simp only[oR,gj,bQ bE,eX];rw[zK hqf]
 obtain⟨S2,Rb⟩:∃S2,(S++[Cell.lst (qs.map Ib)])++[Cell.lst ((qs.map (·.1)).map D.int)]=S2:=⟨_,rfl⟩;have a2:HY G S2 n m p q s:=by rw[<-Rb];exact(a.push _).push _
 have f2:Fr [n,m,p,q] S S2:=by rw[<-Rb];exact Fr.push.tr Fr.push
 rw[Rb] at e1;have q3:=zt (fo:=h_) (r:=[sO n,sI (i:Int)]) (i:=3) rfl a.ob rfl e1 a2.ob;have c3:=Ch.set (c:=.ins G.c_ a_ [.int (s.w:Int),.int (s.most:Int),.ob m,.int ((s.sure:Int)+(HI qs:Int)),.int (s.op:Int),.str (R_ s.st),.ob p,.int (s.base:Int),.ob q]) a2.ob;obtain⟨S3,Sd⟩:∃S3,S2.set n (.ins G.c_ a_ [.int (s.w:Int),.int (s.most:Int),.ob m,.int ((s.sure:Int)+(HI qs:Int)),.int (s.op:Int),.str (R_ s.st),.ob p,.int (s.base:Int),.ob q])=S3:=⟨_,rfl⟩;have Xx:o9 G.c_ a_ 3 h_ (aj oR (aa (dS (Kt (Kb Jo (aC G.c_ a_ 6 h_) (bA (aC G.c_ a_ 7 h_)) (bA v_))) (gN 0) hV (f_ w_ h_ (dI 0)) 1 []) ai)) [sO n,sI (i:Int)] S=some (.nx [sO n,sI (i:Int)],S3):=by
  rw[q3,<-Sd];rfl
 rw[Sd] at c3;obtain⟨S4,q4,c4⟩:=gX (fo:=h_) (fe:=v_) (r:=[sO n,sI (i:Int)]) (i:=7) rfl rfl c3.at_ rfl;rw[aw Xx,q4];have Xy:(s.sure:Int)+(HI qs:Int)=((s.sure+HI qs:Nat):Int):=by omega
 refine⟨S4,rfl,⟨?_,c4.old (c3.old a2.ms a.nm) a.nm,c4.old (c3.old a2.ps a.np) a.np,c4.old (c3.old a2.nt a.nq) a.nq,a.mp⟩,(f2.tr (c3.fp (by simp))).tr (c4.fp (by simp)),.inl rfl,.inl rfl⟩;have:=c4.at_;rw[Xy] at this;unfold Sr.Kg;rw[V4];exact this
def Fw{l:ax4}(k:Nat):sT (PM l) (.inl (k:Int)) (.bl true)=PM (if k∈l then l else l++[k]):=by
 have Xz:((PM l).any fun kv=>decide (kv.1=(Sum.inl (k:Int):Key)))=decide (k∈l):=by
  induction l with
  |nil=>rfl
  |cons a r ih=>
   unfold PM at ih ⊢;rw[ac2,ao2,ih];by_cases h:a=k
   ·subst h;simp
   ·have h2:decide ((Sum.inl (a:Int):Key)=Sum.inl (k:Int))=false:=aa5 fun z=>h (by injection z with z;omega)
    rw[h2];simp[af8 h]
 unfold sT;rw[Xz];by_cases h:k∈l
 ·rw[ab2 (aa3 h),ab2 h];unfold PM;rw[ah6];refine ag0 fun a _=>?_
  simp only[ai3];split<;>rfl
 ·rw[ab1 (by simp[h]),ab1 h];simp[PM]
theorem qz:∀(bs:ax3) (s:Sr) (k:Nat) (b:Int),s.HQ k (bs++[b])=(s.HQ k bs).HQ (k+bs.length) [b]
 |[],s,k,b=>rfl
 |c :: bs,s,k,b=>by
  rw[aq2];unfold Sr.HQ;rw[qz bs _ (k+1) b,ab8,show k+1+bs.length=k+(bs.length+1) by omega];rfl
theorem dr:∀(bs:ax3) (s:Sr) (k:Nat),(s.HQ k bs).w=s.w/\(s.HQ k bs).most=s.most/\(s.HQ k bs).msgs=s.msgs/\(s.HQ k bs).sure=s.sure/\(s.HQ k bs).op=s.op/\(s.HQ k bs).st=s.st/\(s.HQ k bs).ps=s.ps/\(s.HQ k bs).base=s.base/\(s.HQ k bs).Hu.length<=s.Hu.length+bs.length
 |[],s,k=>⟨rfl,rfl,rfl,rfl,rfl,rfl,rfl,rfl,by simp[Sr.HQ]⟩
 |b :: bs,s,k=>by
  unfold Sr.HQ;split
  ·obtain⟨h1,h2,h3,h4,h5,h6,h7,h8,h9⟩:=dr bs { s with Hu:=s.Hu++[s.base+k] } (k+1);refine⟨h1,h2,h3,h4,h5,h6,h7,h8,?_⟩;rw[aa8,ad8] at h9;rw[ab8];omega
  ·obtain⟨h1,h2,h3,h4,h5,h6,h7,h8,h9⟩:=dr bs s (k+1);refine⟨h1,h2,h3,h4,h5,h6,h7,h8,?_⟩;rw[ab8];omega
def Bi(a:HY G S n m p q s)(hz:s.Hu.length<=500000){bs:ax3}(hb:bs.length<=1000):∃S',da G [.ob n,.tup (bs.map D.int)] S=.ok .Hw S'/\Jj G n m p q S p q S' (s.HQ 0 bs):=by
 show ∃S',fin S (dM G [sO n,some (.tup (bs.map D.int)),none,none] S)=_/\_;unfold dM;have w1:zE 0 v_ [sO n,some (.tup (bs.map D.int)),none,none] S=.ok ⟨jn 0 (bs.map D.int),none⟩ S:=rfl;have Rc:∀{i:Nat}{y:D},(jn 0 (bs.map D.int))[i]?=some y->∃b,bs[i]?=some b/\y=.tup [.int (i:Int),.int b]:=by
  intro i y h;unfold jn at h;rw[ac8,aq3,ac8] at h;cases e:bs[i]? with
  |none=>rw[e] at h;simp at h
  |some b=>
   rw[e] at h;simp at h;exact⟨b,rfl,h.symm⟩
 obtain⟨r',S',e,x2,x3,rfl,a',f'⟩:=db (g:=none) (tg:=gT [2,3]) (b:=cA G)
  (fun i r S'=>∃x2 x3,r=[sO n,some (.tup (bs.map D.int)),x2,x3]/\HY G S' n m p q (s.HQ 0 (bs.take i))/\Fr [n,m,p,q] S S') (jn 0 (bs.map D.int)) 0 [sO n,some (.tup (bs.map D.int)),none,none] S
  (by
   rintro i y r S' hy ⟨x2,x3,rfl,a',f'⟩;obtain⟨b,V5,rfl⟩:=Rc hy;rw[af7] at a' ⊢;have Q2:=(aa2.mp V5).1;obtain⟨s',P4⟩:∃s',s.HQ 0 (bs.take i)=s':=⟨_,rfl⟩;have U_:s.HQ 0 (bs.take (i+1))=s'.HQ i [b]:=by
    rw[al2,V5,toList_some,qz,P4,ad7,ag7 (by omega),af7]
   have Z8:=dr (bs.take i) s 0;rw[P4] at Z8 a';rw[U_];obtain⟨_,_,_,_,_,_,g7,g8,g9⟩:=Z8;rw[ad7] at g9;refine⟨[sO n,some (.tup (bs.map D.int)),sI (i:Int),sI b],[sO n,some (.tup (bs.map D.int)),sI (i:Int),sI b],?_⟩;have t1:ao (f_ HJ H_ (dI 1)) [sO n,some (.tup (bs.map D.int)),sI (i:Int),sI b] S'=.ok (decide (b=1)) S':=az (av rfl rfl (iO _ _));have k1:f_ bI (aC G.c_ a_ 7 h_) Ic [sO n,some (.tup (bs.map D.int)),sI (i:Int),sI b] S'=.ok (.int ((s'.base+i:Nat):Int)) S':=by
    refine av (lP a' _) rfl ?_;rw[ck];congr 2
   have t2:ao (f_ Kv (f_ bI (aC G.c_ a_ 7 h_) Ic) (aj bu (aa (aC G.c_ a_ 6 h_) ai))) [sO n,some (.tup (bs.map D.int)),sI (i:Int),sI b] S'=.ok (decide (s'.base+i<s'.ps.length)) S':=by
    refine az (av k1 (ax (af (rP a' _) ah) (jY a'.ps)) ?_);rw[sL,aa7];congr 2;rw[ac3];omega
   by_cases hc:b=1/\s'.base+i<s'.ps.length
   ·have tt:dc (ao (f_ HJ H_ (dI 1))) (ao (f_ Kv (f_ bI (aC G.c_ a_ 7 h_) Ic) (aj bu (aa (aC G.c_ a_ 6 h_) ai)))) [sO n,some (.tup (bs.map D.int)),sI (i:Int),sI b] S'=.ok true S':=by
     rw[cL,au,t1,aa3 hc.1];show ao _ _ S'=_;rw[t2,aa3 hc.2]
    have hp:qk (.ob q) (.int ((s'.base+i:Nat):Int)) (.bl true) S'=some (S'.set q (.Js (PM (if s'.base+i∈s'.Hu then s'.Hu else s'.Hu++[s'.base+i])))):=by
     simp only[qk,ir,fO a'.nt,Fw];exact bY (P_ (by unfold PM;rw[aa7];omega))
    have hn:s'.HQ i [b] = { s' with Hu:=if s'.base+i∈s'.Hu then s'.Hu else s'.Hu++[s'.base+i] }:=by
     unfold Sr.HQ;by_cases hm:s'.base+i∈s'.Hu
     ·rw[ab1 (by simp[hm]),ab2 hm];rfl
     ·rw[ab2 ⟨hc.1,hc.2,hm⟩,ab1 hm];rfl
    refine⟨S'.set q (.Js (PM (if s'.base+i∈s'.Hu then s'.Hu else s'.Hu++[s'.base+i]))),rfl,?_,trivial,_,_,rfl,?_,f'.tr (Fr.set (by simp))⟩
    ·unfold cA;rw[aT tt,uI (d:=.bl true) rfl (Gk a' _) k1 hp]
    ·rw[hn];exact⟨cJ a'.ob a.nq.symm,cJ a'.ms a.mq.symm,cJ a'.ps a.pq.symm,dh a'.nt,a.mp⟩
   ·have tt:dc (ao (f_ HJ H_ (dI 1))) (ao (f_ Kv (f_ bI (aC G.c_ a_ 7 h_) Ic) (aj bu (aa (aC G.c_ a_ 6 h_) ai)))) [sO n,some (.tup (bs.map D.int)),sI (i:Int),sI b] S'=.ok false S':=by
     rw[cL,au,t1];by_cases Td:b=1
     ·rw[aa3 Td];show ao _ _ S'=_;rw[t2,aa5 fun z=>hc ⟨Td,z⟩]
     ·rw[aa5 Td];rfl
    have hn:s'.HQ i [b]=s':=by
     unfold Sr.HQ;rw[ab1 fun z=>hc ⟨z.1,z.2.1⟩];rfl
    refine⟨S',rfl,?_,trivial,_,_,rfl,?_,f'⟩
    ·unfold cA;rw[ay tt];rfl
    ·rw[hn];exact a')
  ⟨none,none,rfl,by rw[List.take_zero];exact a,Fr.refl _ _⟩
 have hlen:(jn 0 (bs.map D.int)).length=bs.length:=by simp[jn]
 rw[hlen,af7,an8] at a';rw[kg w1,e];exact⟨S',rfl,a',f',.inl rfl,.inl rfl⟩
def yv(m w:Nat)(S:ay4):cb [.int (m:Int),.int (w:Int)] S=.ok (.bl (decide (m<2 * w))) S:=by
 have h1:decide ((0:Int)<=(m:Int))=true:=aa3 (by omega);have h2:decide ((m:Int)<2 * (w:Int))=decide (m<2 * w):=by rw[ac3];omega
 simp[cb,jr,h1,h2]
def AD{n l:Int}{w:Nat}(hw:0<w)(S:ay4):cu [.int n,.int l,.int (w:Int)] S=.ok (.int (jq n l w)) S:=by
 simp[cu,jv,dg (show(0:Int)<2 * (w:Int) by omega),jq]
def uB(n l:Int){w:Nat}(hw:0<w):l<=jq n l w:=by
 unfold jq;have:=av3 (n-l) (show(2 * (w:Int))≠0 by omega);omega
def u6(a:HY G S n m p q s)(b:Sb N s)(hN:N<=20000)(hw:0<s.w){num:Nat}{bs:ax3}(hb:bs.length<=1000) :
  ∃S',cf G [.ob n,.int (num:Int),.tup (bs.map D.int)] S=.ok .Hw S'/\Jj G n m p q S p q S' (s.G_ num bs):=by
 show ∃S',fin S (d3 G [sO n,sI (num:Int),some (.tup (bs.map D.int)),none] S)=_/\_;unfold d3;have t1:bM (aj cb (aa v_ (aa (aC G.c_ a_ 0 h_) ai))) [sO n,sI (num:Int),some (.tup (bs.map D.int)),none] S=.ok (decide (num<2 * s.w)) S:=by
  rw[cD,au,ax (af rfl (af (BM a _) ah)) (yv num s.w S)];rfl
 by_cases c1:num<2 * s.w
 ·rw[aa3 c1] at t1;obtain⟨i,hi⟩:∃i:Nat,jq num s.base s.w=(i:Int):=⟨(jq num s.base s.w).toNat,by have:=uB num s.base hw;omega⟩;have Va:s.base<=i:=by have:=uB num s.base hw;omega
  rw[aT t1,aw (bh (ax (af rfl (af (lP a _) (af (BM a _) ah))) (AD hw S)))];rw[hi];show ∃S',fin S (IJ _ _ _ [sO n,sI (num:Int),some (.tup (bs.map D.int)),sI (i:Int)] S)=_/\_;have e1:aj AH (aa (f_ bI (aC G.c_ a_ 7 h_) (aC G.c_ a_ 0 h_)) (aa (aj bu (aa (aC G.c_ a_ 6 h_) ai)) ai)) [sO n,sI (num:Int),some (.tup (bs.map D.int)),sI (i:Int)] S=.ok (.int ((min (s.base+s.w) s.ps.length:Nat):Int)) S:=by
   refine ax (af (av (lP a _) (BM a _) (ck _ _)) (af (ax (af (rP a _) ah) (jY a.ps)) ah)) ?_;rw[EG,aa7];congr 2;omega
  have t2:ao (f_ O1 H_ (aj AH (aa (f_ bI (aC G.c_ a_ 7 h_) (aC G.c_ a_ 0 h_)) (aa (aj bu (aa (aC G.c_ a_ 6 h_) ai)) ai)))) [sO n,sI (num:Int),some (.tup (bs.map D.int)),sI (i:Int)] S=.ok (decide (i<=min (s.base+s.w) s.ps.length)) S:=by
   refine az (av rfl e1 ?_);rw[zR];congr 2;rw[ac3];omega
  by_cases c2:i<=min (s.base+s.w) s.ps.length
  ·rw[aa3 c2] at t2;have he:s.G_ num bs=(s.Kg i).HQ 0 bs:=by
    unfold Sr.G_;rw[ab2 ⟨c1,by rw[hi];omega⟩,hi];rfl
   obtain⟨S1,q1,k1⟩:=Dt a b hN Va (by omega);obtain⟨S2,q2,k2⟩:=Bi (bs:=bs) k1.at_ (by have:=b.nl;show s.Hu.length<=_;omega) hb;rw[aT t2,aw (aX (bc rfl a.ob (af rfl ah) q1)),aX (bc rfl k1.at_.ob (af rfl ah) q2),he];exact⟨S2,rfl,k1.trans k2⟩
  ·rw[aa5 c2] at t2;have he:s.G_ num bs=s:=by
    unfold Sr.G_;rw[ab1 (by rw[hi];omega)]
   rw[ay t2,he];exact⟨S,rfl,Jj.refl a⟩
 ·rw[aa5 c1] at t1;have he:s.G_ num bs=s:=by
   unfold Sr.G_;rw[ab1 (fun z=>c1 z.1)]
  rw[ay t1,he];exact⟨S,rfl,Jj.refl a⟩
def x_.KZ:x_->Nat
 |.A_ o=>o
 |.t_ o=>o
 |.Ji o=>o
 |.data o _ _=>o
 |.note o _ _=>o
def x_.knd:x_->Str
 |.A_ _=>"hello"
 |.t_ _=>"welcome"
 |.Ji _=>"who"
 |.data _ _ _=>"data"
 |.note _ _ _=>"note"
def OI:x_->Prop
 |.note _ _ bs=>bs.length<=7
 |_=>True
def Bo(c:x_)(S:ay4):w_ (m_ c) (.int 0) S=.ok (.str c.knd) S:=by cases c<;>rfl
def Z9:x_->Bool
 |.t_ _=>true
 |_=>false
def isQ:x_->Bool
 |.Ji _=>true
 |_=>false
def Z_:x_->Bool
 |.note _ _ _=>true
 |_=>false
def kW(c:x_)(S:ay4):HJ (.str c.knd) (.str "welcome") S=.ok (.bl (Z9 c)) S:=by cases c<;>simp only[x_.knd,Z9]<;>exact bg
def kQ(c:x_)(S:ay4):HJ (.str c.knd) (.str "who") S=.ok (.bl (isQ c)) S:=by cases c<;>simp only[x_.knd,isQ]<;>exact bg
def kN(c:x_)(S:ay4):HJ (.str c.knd) (.str "note") S=.ok (.bl (Z_ c)) S:=by cases c<;>simp only[x_.knd,Z_]<;>exact bg
def B6(c:x_)(S:ay4):w_ (m_ c) (.int 1) S=.ok (.int (c.KZ:Int)) S:=by cases c<;>rfl
def Fn(a:HY G S n m p q s)(b:Sb N s)(hN:N<=20000)(hw:0<s.w){c:x_}(hc:OI c)(ho:c.KZ=s.op) :
  ∃S' p' q',dz G [.ob n,m_ c] S=.ok .Hw S'/\Jj G n m p q S p' q' S' (s.k_ c):=by
 show ∃S' p' q',fin S (eC G [sO n,some (m_ c)] S)=_/\_;unfold eC;have t1:ao (f_ HJ (aC G.c_ a_ 5 h_) (dT "opening")) [sO n,some (m_ c)] S=.ok (decide (s.st=.opening)) S:=az (av (tu a _) rfl (vE s.st .opening _));have t2:ao (f_ HJ (aC G.c_ a_ 5 h_) (dT "open")) [sO n,some (m_ c)] S=.ok (decide (s.st=.opened)) S:=az (av (tu a _) rfl (vE s.st .opened _));have k0:∀{k:Str}{y:Bool},HJ (.str c.knd) (.str k) S=.ok (.bl y) S->ao (f_ HJ (f_ w_ v_ (dI 0)) (dC (.str k))) [sO n,some (m_ c)] S=.ok y S:=fun h=>az (av (av rfl rfl (Bo c S)) rfl h)
 have nothing:s.k_ c=s->IJ (dc (ao (f_ HJ (f_ w_ v_ (dI 0)) (dT "welcome"))) (ao (f_ HJ (aC G.c_ a_ 5 h_) (dT "opening")))) (j7 G.c_ a_ 5 h_ (dT "open")) (IJ (dc (ao (f_ HJ (f_ w_ v_ (dI 0)) (dT "who"))) (ao (f_ HJ (aC G.c_ a_ 5 h_) (dT "open")))) (bx (br G.c_ a_ (bR G) h_ ai)) (IJ (dc (ao (f_ HJ (f_ w_ v_ (dI 0)) (dT "note"))) (ao (f_ HJ (aC G.c_ a_ 5 h_) (dT "open")))) (bx (br G.c_ a_ (cf G) h_ (aa (f_ w_ v_ (dI 2)) (aa (f_ w_ v_ (dI 3)) ai)))) bG)) [sO n,some (m_ c)] S=some (.nx [sO n,some (m_ c)],S)->
   ∃S' p' q',fin S (IJ (dc (ao (f_ HJ (f_ w_ v_ (dI 0)) (dT "welcome"))) (ao (f_ HJ (aC G.c_ a_ 5 h_) (dT "opening")))) (j7 G.c_ a_ 5 h_ (dT "open")) (IJ (dc (ao (f_ HJ (f_ w_ v_ (dI 0)) (dT "who"))) (ao (f_ HJ (aC G.c_ a_ 5 h_) (dT "open")))) (bx (br G.c_ a_ (bR G) h_ ai)) (IJ (dc (ao (f_ HJ (f_ w_ v_ (dI 0)) (dT "note"))) (ao (f_ HJ (aC G.c_ a_ 5 h_) (dT "open")))) (bx (br G.c_ a_ (cf G) h_ (aa (f_ w_ v_ (dI 2)) (aa (f_ w_ v_ (dI 3)) ai)))) bG)) [sO n,some (m_ c)] S)=.ok .Hw S'/\Jj G n m p q S p' q' S' (s.k_ c):=by
  intro h1 h2;rw[h2,h1];exact⟨S,p,q,rfl,Jj.refl a⟩
 have an:∀{f g:ay8}{y z:Bool},f [sO n,some (m_ c)] S=.ok y S->g [sO n,some (m_ c)] S=.ok z S->dc f g [sO n,some (m_ c)] S=.ok (y && z) S:=by
  intro f g y z h1 h2;rw[cL,au,h1];cases y
  ·rfl
  ·show g _ S=_;rw[h2,Bool.true_and]
 cases c with
 |A_ o=>exact nothing rfl (by rw[ay (an (k0 (kW _ S)) t1),ay (an (k0 (kQ _ S)) t2),ay (an (k0 (kN _ S)) t2)];rfl)
 |data o i x=>exact nothing rfl (by rw[ay (an (k0 (kW _ S)) t1),ay (an (k0 (kQ _ S)) t2),ay (an (k0 (kN _ S)) t2)];rfl)
 |t_ o=>
  have M5:o=s.op:=ho;by_cases hs:s.st=.opening
  ·rw[aa3 hs] at t1;have he:s.k_ (.t_ o) = { s with st:=.opened }:=by unfold Sr.k_;exact ab2 ⟨M5,hs⟩
   obtain⟨S1,q1,c1⟩:=gX (fo:=h_) (fe:=dT "open") (r:=[sO n,some (m_ (.t_ o))]) (i:=5) rfl rfl a.ob rfl;rw[aT (an (k0 (kW _ S)) t1),q1,he];exact⟨S1,p,q,rfl,⟨c1.at_,c1.old a.ms a.nm,c1.old a.ps a.np,c1.old a.nt a.nq,a.mp⟩,c1.fp (by simp),.inl rfl,.inl rfl⟩
  ·rw[aa5 hs] at t1;exact nothing (by unfold Sr.k_;exact ab1 fun z=>hs z.2) (by rw[ay (an (k0 (kW _ S)) t1),ay (an (k0 (kQ _ S)) t2),ay (an (k0 (kN _ S)) t2)];rfl)
 |Ji o=>
  have M5:o=s.op:=ho;by_cases hs:s.st=.opened
  ·rw[aa3 hs] at t2;have he:s.k_ (.Ji o)=s.anew:=by unfold Sr.k_;exact ab2 ⟨M5,hs⟩
   obtain⟨S1,p1,q1,e1,k1⟩:=zl a b hN;rw[ay (an (k0 (kW _ S)) t1),aT (an (k0 (kQ _ S)) t2),aX (bc rfl a.ob ah e1),he];exact⟨S1,p1,q1,rfl,k1⟩
  ·rw[aa5 hs] at t2;exact nothing (by unfold Sr.k_;exact ab1 fun z=>hs z.2) (by rw[ay (an (k0 (kW _ S)) t1),ay (an (k0 (kQ _ S)) t2),ay (an (k0 (kN _ S)) t2)];rfl)
 |note o i bs=>
  have M5:o=s.op:=ho;by_cases hs:s.st=.opened
  ·rw[aa3 hs] at t2;have he:s.k_ (.note o i bs)=s.G_ i bs:=by unfold Sr.k_;exact ab2 ⟨M5,hs⟩
   have hb:bs.length<=7:=hc;obtain⟨S1,e1,k1⟩:=u6 (num:=i) (bs:=bs) a b hN hw (by omega);rw[ay (an (k0 (kW _ S)) t1),ay (an (k0 (kQ _ S)) t2),aT (an (k0 (kN _ S)) t2),aX (bc rfl a.ob (af (av rfl rfl rfl) (af (av rfl rfl rfl) ah)) e1),he];exact⟨S1,p,q,rfl,k1⟩
  ·rw[aa5 hs] at t2;exact nothing (by unfold Sr.k_;exact ab1 fun z=>hs z.2) (by rw[ay (an (k0 (kW _ S)) t1),ay (an (k0 (kQ _ S)) t2),ay (an (k0 (kN _ S)) t2)];rfl)
def wK{c:x_}(ho:c.KZ≠s.op):s.k_ c=s:=by
 cases c with
 |A_ o=>rfl
 |data o i x=>rfl
 |t_ o=>unfold Sr.k_;exact ab1 fun z=>ho z.1
 |Ji o=>unfold Sr.k_;exact ab1 fun z=>ho z.1
 |note o i bs=>unfold Sr.k_;exact ab1 fun z=>ho z.1
def Bf(a:HY G S n m p q s)(b:Sb N s)(hN:N<=20000)(hw:0<s.w){c:x_}(hc:OI c) :
  ∃S' p' q' l,fB G [.ob n,m_ c] S=.ok (.ob l) S'/\Jj G n m p q S p' q' S' (s.k_ c)/\S'[l]?=some (.lst [])/\S.length<=l:=by
 show ∃S' p' q' l,fin S (hZ G [sO n,some (m_ c)] S)=_/\_;unfold hZ;have t1:ao (f_ HJ (f_ w_ v_ (dI 1)) (aC G.c_ a_ 4 h_)) [sO n,some (m_ c)] S=.ok (decide (c.KZ=s.op)) S:=by
  refine az (av (av rfl rfl (B6 c S)) (Bt a _) ?_);rw[iO];congr 2;rw[ac3];omega
 by_cases ho:c.KZ=s.op
 ·rw[aa3 ho] at t1;obtain⟨S1,p1,q1,e1,k1⟩:=Fn a b hN hw hc ho;rw[aw (by rw[aT t1];exact aX (bc rfl a.ob (af rfl ah) e1)),aS (bU ah (by decide))];exact⟨_,p1,q1,_,rfl,k1.push _,aQ rfl,k1.fr.1⟩
 ·rw[aa5 ho] at t1;rw[aw (by rw[ay t1];rfl),aS (bU ah (by decide)),wK ho];exact⟨_,p,q,_,rfl,(Jj.refl a).push _,aQ rfl,aa1 _⟩
def Sb.note{num:Nat}{bs:ax3}(b:Sb N s)(h:bs.length<=7):Sb (N+1) (s.G_ num bs):=by
 unfold Sr.G_;split
 ·obtain⟨h1,h2,h3,h4,h5,h6,h7,h8,h9⟩:=dr bs (s.Kg (jq num s.base s.w).toNat) 0;have hn:=b.nl;have hm:=b.ml;have hp:=b.pl;refine⟨by rw[h2];exact b.most,by rw[h3];show s.msgs.length<=_;omega,by rw[h3];exact b.QP,by rw[h7];show s.ps.length<=_;omega,by rw[h7];exact b.fg,?_⟩;have:(s.Kg (jq num s.base s.w).toNat).Hu.length=s.Hu.length:=rfl;omega
 ·exact b.mono (ad9 _)
theorem Sb.k_{c:x_}(b:Sb N s)(hc:OI c):Sb (N+1) (s.k_ c):=by
 cases c with
 |A_ o=>exact b.mono (ad9 _)
 |data o i x=>exact b.mono (ad9 _)
 |t_ o=>
  unfold Sr.k_;dsimp only;split
  ·exact⟨b.most,an4 b.ml,b.QP,by have:=b.pl;show s.ps.length<=_;omega,b.fg,by have:=b.nl;show s.Hu.length<=_;omega⟩
  ·exact b.mono (ad9 _)
 |Ji o=>
  unfold Sr.k_;dsimp only;split
  ·exact b.anew.mono (ad9 _)
  ·exact b.mono (ad9 _)
 |note o i bs=>
  unfold Sr.k_;dsimp only;split
  ·exact b.note hc
  ·exact b.mono (ad9 _)
def Sb.Ik(b:Sb N s):Sb N s.Ik:=⟨b.most,b.ml,b.QP,b.pl,b.fg,b.nl⟩
def Sb.start(b:Sb N s):Sb N s.start:=by
 unfold Sr.start;split
 ·exact b.anew
 ·exact b
def Bl(s:Sr):Prop:=s.base<=s.ps.length
def Bl.hand(b:Bl s)(x:Iu):Bl (s.hand x):=by
 unfold Bl Sr.hand at *;dsimp only;split
 ·exact b
 ·rw[aa8];omega
def Bl.anew:Bl s.anew:=ae7 _
def Bl.start(b:Bl s):Bl s.start:=by
 unfold Sr.start;split
 ·exact Bl.anew
 ·exact b
theorem Bl.k_(hw:0<s.w)(b:Bl s)(c:x_):Bl (s.k_ c):=by
 cases c with
 |A_ o=>exact b
 |data o i x=>exact b
 |t_ o=>
  unfold Sr.k_;dsimp only;split<;>exact b
 |Ji o=>
  unfold Sr.k_;dsimp only;split
  ·exact Bl.anew
  ·exact b
 |note o i bs=>
  unfold Sr.k_;dsimp only;split
  ·unfold Sr.G_;split
   ·rename_i h;obtain⟨h1,h2,h3,h4,h5,h6,h7,h8,h9⟩:=dr bs (s.Kg (jq i s.base s.w).toNat) 0;unfold Bl;rw[h7,h8];have:=uB i s.base hw;show(jq i s.base s.w).toNat<=s.ps.length;omega
   ·exact b
  ·exact b
def BZ(s:Sr)(c:x_):(s.k_ c).w=s.w:=by
 cases c with
 |A_ o=>rfl
 |data o i x=>rfl
 |t_ o=>unfold Sr.k_;dsimp only;split<;>rfl
 |Ji o=>unfold Sr.k_;dsimp only;split<;>rfl
 |note o i bs=>
  unfold Sr.k_;dsimp only;split
  ·unfold Sr.G_;split
   ·exact(dr bs (s.Kg (jq i s.base s.w).toNat) 0).1
   ·rfl
  ·rfl
def eM{f:Str}{C:Addr}{ns:ax0}{ds:ay7}{d:D}{fo fe:ay5}{r:r_}(h1:fe r S=.ok d S1)(h2:fo r S1=.ok (.ob n) S1)(h3:S1[n]?=some (.ins C ns ds)):∃S2,cO C ns f fo fe r S=some (.nx r,S2)/\Ch n (.ins C (ns++[f]) (ds++[d])) S1 S2:=
 ⟨_,kK h1 h2 h3,Ch.set h3⟩
def Ew(w most:Nat)(S:ay4):∃S' m p q,iY G.c_ (b8 G) [.int (w:Int),.int (most:Int)] S=.ok (.ob S.length) S'/\HY G S' S.length m p q (Sr.new w most)/\Fr [] S S'/\S.length<=m/\S.length<=p/\S.length<=q:=by
 obtain⟨n,hn⟩:∃n,n=S.length:=⟨_,rfl⟩;have s0:(S++[Cell.ins G.c_ [] []])[n]?=some (.ins G.c_ [] []):=aQ hn;obtain⟨r,hr⟩:∃r:r_,r=[sO n,sI (w:Int),sI (most:Int)]:=⟨_,rfl⟩;have v0:∀S,h_ r S=.ok (.ob n) S:=fun S=>by rw[hr];rfl
 have v1:∀S,v_ r S=.ok (.int (w:Int)) S:=fun S=>by rw[hr];rfl
 have v2:∀S,Ic r S=.ok (.int (most:Int)) S:=fun S=>by rw[hr];rfl
 obtain⟨T1,e1,c1⟩:=eM (f:="window") (fo:=h_) (fe:=v_) (v1 _) (v0 _) s0;obtain⟨T2,e2,c2⟩:=eM (f:="most") (fo:=h_) (fe:=Ic) (v2 _) (v0 _) c1.at_;obtain⟨T3,e3,c3⟩:=eM (f:="messages") (fo:=h_) (fe:=bT ai) (r:=r) (bU ah (by decide)) (v0 _) (aB (G:=[.lst []]) c2.at_);obtain⟨T4,e4,c4⟩:=eM (f:="sure") (fo:=h_) (fe:=dI 0) (r:=r) rfl (v0 _) c3.at_;obtain⟨T5,e5,c5⟩:=eM (f:="opening") (fo:=h_) (fe:=dI 0) (r:=r) rfl (v0 _) c4.at_;obtain⟨T6,e6,c6⟩:=eM (f:="state") (fo:=h_) (fe:=dT "shut") (r:=r) rfl (v0 _) c5.at_;obtain⟨T7,e7,c7⟩:=eM (f:="pieces") (fo:=h_) (fe:=bT ai) (r:=r) (bU ah (by decide)) (v0 _) (aB (G:=[.lst []]) c6.at_);obtain⟨T8,e8,c8⟩:=eM (f:="base") (fo:=h_) (fe:=dI 0) (r:=r) rfl (v0 _) c7.at_;obtain⟨T9,e9,c9⟩:=eM (f:="noted") (fo:=h_) (fe:=kR) (r:=r) rfl (v0 _) (aB (G:=[.Js []]) c8.at_);have l1:=c1.len;have l2:=c2.len;have l3:=c3.len;have l4:=c4.len;have l5:=c5.len;have l6:=c6.len;have l7:=c7.len;have l8:=c8.len;have l9:=c9.len;rw[aa8,ad8] at l1 l3 l7 l9;have m3:T3[T2.length]?=some (.lst []):=c3.old (aQ rfl) (by omega);have m6:T6[T2.length]?=some (.lst []):=c6.old (c5.old (c4.old m3 (by omega)) (by omega)) (by omega);have m7:T7[T2.length]?=some (.lst []):=c7.old (aB m6) (by omega);have p7:T7[T6.length]?=some (.lst []):=c7.old (aQ rfl) (by omega);have m9:T9[T2.length]?=some (.lst []):=c9.old (aB (c8.old m7 (by omega))) (by omega);have p9:T9[T6.length]?=some (.lst []):=c9.old (aB (c8.old p7 (by omega))) (by omega);have q9:T9[T8.length]?=some (.Js []):=c9.old (aQ rfl) (by omega);refine⟨T9,T2.length,T6.length,T8.length,?_,?_,?_,by omega,by omega,by omega⟩
 ·unfold iY;rw[<-hn];have:b8 G [.ob n,.int (w:Int),.int (most:Int)] (S++[.ins G.c_ [] []])=.ok .Hw T9:=by
   show fin _ (dA G [sO n,sI (w:Int),sI (most:Int)] _)=_;rw[<-hr];simp only[ar9,aq2] at e2 e3 e4 e5 e6 e7 e8;unfold dA;rw[aw e1,aw e2,aw e3,aw e4,aw e5,aw e6,aw e7,aw e8];rw[show cO G.c_ ["window","most","messages","sure","opening","state","pieces","base"] "noted" h_ kR r T8=some (.nx r,T9) from e9];rfl
  rw[this]
 ·rw[<-hn];exact⟨c9.at_,m9,p9,q9,by omega⟩
 ·have f:Fr [n] S T9:=((((((((((Fr.push.tr c1.fr).tr c2.fr).tr Fr.push).tr c3.fr).tr c4.fr).tr c5.fr).tr c6.fr).tr Fr.push).tr c7.fr).tr c8.fr).tr (Fr.push.tr c9.fr);exact f.mono fun i hi hs=>by
   have:i=n:=by simpa using hi
   omega
end
def JP(g:Nat×Iu):D:=.tup [.int (g.1:Int),.tup (g.2.map D.int)]
def N7(e:List (Nat×Pc)):List (Key×D):=e.map fun q=>(Sum.inl (q.1:Int),Ib q.2)
def qG(e:List (Nat×Pc))(k:Nat):im (N7 e) (.inl (k:Int))=(e.lookup k).map Ib:=by
 induction e with
 |nil=>rfl
 |cons a r ih=>
  obtain⟨a1,a2⟩:=a;rw[ai9];unfold N7 at ih ⊢;rw[ac2];unfold im at ih ⊢;rw[aj0];by_cases h:k=a1
  ·subst h;simp
  ·have h1:(k == a1)=false:=af5.mpr h;have h2:decide ((Sum.inl (a1:Int):Key)=Sum.inl (k:Int))=false:=aa5 fun z=>h (by injection z with z;omega)
   simp only[h2,h1];exact ih
def Fy(e:List (Nat×Pc))(k:Nat):((N7 e).any fun kv=>decide (kv.1=(Sum.inl (k:Int):Key)))=(e.lookup k).isSome:=by
 induction e with
 |nil=>rfl
 |cons a r ih=>
  obtain⟨a1,a2⟩:=a;rw[ai9];unfold N7 at ih ⊢;rw[ac2,ao2];by_cases h:k=a1
  ·subst h;simp
  ·have h1:(k == a1)=false:=af5.mpr h;have h2:decide ((Sum.inl (a1:Int):Key)=Sum.inl (k:Int))=false:=aa5 fun z=>h (by injection z with z;omega)
   simp only[h2,h1,Bool.false_or];exact ih
def E6{e:List (Nat×Pc)}{k:Nat}(p:Pc)(h:e.lookup k=none):sT (N7 e) (.inl (k:Int)) (Ib p)=N7 (e++[(k,p)]):=by
 unfold sT;rw[Fy,h];simp[N7]
def Dh(e:List (Nat×Pc))(k:Nat):wq (N7 e) (.inl (k:Int))=N7 (e.filter fun q=>decide (q.1≠k)):=by
 induction e with
 |nil=>rfl
 |cons a r ih=>
  obtain⟨a1,a2⟩:=a;unfold wq N7 at ih ⊢;rw[ac2,ak8,ak8];by_cases h:a1=k
  ·subst h;simpa using ih
  ·have h2:decide ((Sum.inl (a1:Int):Key)≠Sum.inl (k:Int))=true:=aa3 fun z=>h (by injection z with z;omega)
   have h3:decide (a1≠k)=true:=aa3 h;simp only[h2,h3,ao1,ac2];rw[ih]
def Fu(e:List (Nat×Pc)):(N7 e).length=e.length:=by simp[N7]
structure Iz(G:Cs)(S:ay4)(n g e b:Nat)(h:Hr):Prop where
 ob:S[n]?=some (.ins G.g_ d_ [.int (h.w:Int),.ob g,.int (h.op:Int),.int (h.nx:Int),.ob e,.ob b])
 gv:S[g]?=some (.lst (h.given.map JP))
 ea:S[e]?=some (.Js (N7 h.early))
 be:S[b]?=some (.lst (h.begun.map Ib))
 gb:g≠b
section
variable{G:Cs}{S:ay4}{n g e b:Nat}{h:Hr}
def Iz.ng(a:Iz G S n g e b h):n≠g:=dD a.ob a.gv (by intro z;cases z)
def Iz.ne(a:Iz G S n g e b h):n≠e:=dD a.ob a.ea (by intro z;cases z)
def Iz.nb(a:Iz G S n g e b h):n≠b:=dD a.ob a.be (by intro z;cases z)
def Iz.ge(a:Iz G S n g e b h):g≠e:=dD a.gv a.ea (by intro z;cases z)
def Iz.eb(a:Iz G S n g e b h):e≠b:=dD a.ea a.be (by intro z;cases z)
def Iz.fr{S':ay4}{fp:ax4}(a:Iz G S n g e b h)(f:Fr fp S S')(h1:n∉fp)(h2:g∉fp)(h3:e∉fp)(h4:b∉fp):Iz G S' n g e b h:=⟨f.get a.ob h1,f.get a.gv h2,f.get a.ea h3,f.get a.be h4,a.gb⟩
def Iz.push(a:Iz G S n g e b h)(c:ay4):Iz G (S++c) n g e b h:=⟨aB a.ob,aB a.gv,aB a.ea,aB a.be,a.gb⟩
def Cn(a:Iz G S n g e b h)(o:Nat):∃S' e' b',cK G [.ob n,.int (o:Int)] S=.ok .Hw S'/\Iz G S' n g e' b' (h.begin_ o)/\Fr [n] S S'/\S.length<=e'/\S.length<=b':=by
 have hn:=bq a.ob;have hg:=bq a.gv;have ng:=a.ng;obtain⟨S1,q1,c1⟩:=gX (fo:=h_) (fe:=v_) (r:=[sO n,sI (o:Int)]) (i:=2) rfl rfl a.ob rfl;obtain⟨S2,q2,c2⟩:=gX (fo:=h_) (fe:=dI 0) (r:=[sO n,sI (o:Int)]) (i:=3) rfl rfl c1.at_ rfl;obtain⟨S3,q3,c3⟩:=gX (fo:=h_) (fe:=kR) (r:=[sO n,sI (o:Int)]) (i:=4) rfl rfl (aB (G:=[.Js []]) c2.at_) rfl;obtain⟨S4,q4,c4⟩:=gX (fo:=h_) (fe:=bT ai) (r:=[sO n,sI (o:Int)]) (i:=5) (bU ah (by decide)) rfl (aB (G:=[.lst []]) c3.at_) rfl;have l1:=c1.len;have l2:=c2.len;have l3:=c3.len;have l4:=c4.len;rw[aa8,ad8] at l3 l4;refine⟨S4,S2.length,S3.length,?_,⟨c4.at_,c4.old (aB (c3.old (aB (c2.old (c1.old a.gv ng) ng)) ng)) ng,c4.old (aB (c3.old (aQ rfl) (by omega))) (by omega),c4.old (aQ rfl) (by omega),by omega⟩,?_,by omega,by omega⟩
 ·show fin S (gW G [sO n,sI (o:Int)] S)=_;unfold gW;rw[aw q1,aw q2,aw q3,q4];rfl
 ·exact((((c1.fr.tr c2.fr).tr Fr.push).tr c3.fr).tr Fr.push).tr c4.fr
end
section
variable{G:Cs}{S S' S1 S2:ay4}{n g e b e' b' e1 b1 e2 b2:Nat}{h h' h1 h2:Hr}
structure IU(G:Cs)(n g e b:Nat)(S:ay4)(e' b':Nat)(S':ay4)(h':Hr):Prop where
 at_:Iz G S' n g e' b' h'
 fr:Fr [n,g,e,b] S S'
 e_:e'=e\/S.length<=e'
 b_:b'=b\/S.length<=b'
def IU.trans(a:IU G n g e b S e1 b1 S1 h1)(c:IU G n g e1 b1 S1 e2 b2 S2 h2):IU G n g e b S e2 b2 S2 h2:=by
 have hl:=a.fr.1;refine⟨c.at_,a.fr.trans c.fr fun i hi hs=>?_,?_,?_⟩
 ·simp only[ac7,am2,as1] at hi ⊢;have he:=a.e_;have hb:=a.b_;omega
 ·have:=a.e_;have:=c.e_;omega
 ·have:=a.b_;have:=c.b_;omega
def IU.refl(a:Iz G S n g e b h):IU G n g e b S e b S h:=⟨a,Fr.refl _ _,.inl rfl,.inl rfl⟩
def IU.push(a:IU G n g e b S e' b' S' h')(c:ay4):IU G n g e b S e' b' (S'++c) h':=⟨a.at_.push c,a.fr.tr Fr.push,a.e_,a.b_⟩
def sW(a:Iz G S n g e b h)(o:Nat):∃S' e' b',cK G [.ob n,.int (o:Int)] S=.ok .Hw S'/\IU G n g e b S e' b' S' (h.begin_ o):=by
 obtain⟨S',e',b',q,c,f,h1,h2⟩:=Cn a o;exact⟨S',e',b',q,⟨c,f.mono (fun i hi _=>by simp at hi;simp[hi]),.inr h1,.inr h2⟩⟩
def ug(a:Iz G S n g e b h)(r:r_):aC G.g_ d_ 2 h_ (some (.ob n) :: r) S=.ok (.int (h.op:Int)) S:=cj rfl a.ob rfl
def ub(a:Iz G S n g e b h)(r:r_):aC G.g_ d_ 3 h_ (some (.ob n) :: r) S=.ok (.int (h.nx:Int)) S:=cj rfl a.ob rfl
def Bz(a:Iz G S n g e b h)(r:r_):aC G.g_ d_ 0 h_ (some (.ob n) :: r) S=.ok (.int (h.w:Int)) S:=cj rfl a.ob rfl
def wg(a:Iz G S n g e b h)(r:r_):aC G.g_ d_ 4 h_ (some (.ob n) :: r) S=.ok (.ob e) S:=cj rfl a.ob rfl
def EI(a:Iz G S n g e b h)(r:r_):aC G.g_ d_ 5 h_ (some (.ob n) :: r) S=.ok (.ob b) S:=cj rfl a.ob rfl
def GD(a:Iz G S n g e b h)(r:r_):aC G.g_ d_ 1 h_ (some (.ob n) :: r) S=.ok (.ob g) S:=cj rfl a.ob rfl
structure Out(S:ay4)(l:Nat)(S':ay4)(cs:List x_):Prop where
 at_:S'[l]?=some (.lst (cs.map m_))
 new:S.length<=l
def Cq(a:Iz G S n g e b h)(o:Nat):∃S' e' b' l,cy G [.ob n,.int (o:Int)] S=.ok (.ob l) S'/\IU G n g e b S e' b' S' (h.k_ (.A_ o)).1/\Out S l S' (h.k_ (.A_ o)).2:=by
 show ∃S' e' b' l,fin S (dN G [sO n,sI (o:Int)] S)=_/\_;unfold dN;have t1:ao (f_ Kv v_ (aC G.g_ d_ 2 h_)) [sO n,sI (o:Int)] S=.ok (decide (o<h.op)) S:=by
  refine az (av rfl (ug a _) ?_);rw[sL];congr 2;rw[ac3];omega
 have t2:ao (f_ PK v_ (aC G.g_ d_ 2 h_)) [sO n,sI (o:Int)] S=.ok (decide (h.op<o)) S:=by
  refine az (av rfl (ug a _) ?_);rw[Et];congr 2;rw[ac3];omega
 have wl:∀S0,bN (bT (aa (ci (aa (dT "welcome") (aa v_ ai))) ai)) [sO n,sI (o:Int)] S0=some (.rt (.ob S0.length),S0++[.lst [m_ (.t_ o)]]):=fun S0=>
  aS (bU (af (bL (af rfl (af rfl ah)) (by simp)) ah) (by simp))
 by_cases c1:o<h.op
 ·have e1:h.k_ (.A_ o)=(h,[]):=by simp[Hr.k_,c1]
  rw[aa3 c1] at t1;rw[di (by rw[aT t1];exact aS (bU ah (by decide))),e1];exact⟨_,e,b,_,rfl,(IU.refl a).push _,⟨aQ rfl,aa1 _⟩⟩
 ·rw[aa5 c1] at t1;rw[aw (by rw[ay t1];rfl)];by_cases c2:h.op<o
  ·have e1:h.k_ (.A_ o)=(h.begin_ o,[.t_ o]):=by simp[Hr.k_,c1,c2]
   rw[aa3 c2] at t2;obtain⟨S1,e1',b1',q,c⟩:=sW a o;rw[aw (by rw[aT t2];exact aX (bc rfl a.ob (af rfl ah) q)),wl,e1];exact⟨_,e1',b1',_,rfl,c.push _,⟨aQ rfl,c.fr.1⟩⟩
  ·have e1:h.k_ (.A_ o)=(h,[.t_ o]):=by simp[Hr.k_,c1,c2]
   rw[aa5 c2] at t2;rw[aw (by rw[ay t2];rfl),wl,e1];exact⟨_,e,b,_,rfl,(IU.refl a).push _,⟨aQ rfl,aa1 _⟩⟩
def BG(m w:Nat)(S:ay4):cb [.int (m:Int),.int (w:Int)] S=.ok (.bl (decide (m<2 * w))) S:=by
 have h1:(0:Int)<=(m:Int):=by omega
 have h2:decide ((m:Int)<2 * (w:Int))=decide (m<2 * w):=by rw[ac3];omega
 simp[cb,jr,h1,h2]
def B5{m:Int}{low:Int}{w:Nat}(hw:0<w)(S:ay4):cu [.int m,.int low,.int (w:Int)] S=.ok (.int (jq m low w)) S:=by
 have h1:(0:Int)<2 * (w:Int):=by omega
 simp[cu,jv,dg h1,jq]
def Dq(a:Iz G S n g e b h)(hw:0<h.w)(num:Nat)(p:Pc)(hz:h.early.length<1000000):∃S',gA G [.ob n,.int (num:Int),Ib p] S=.ok .Hw S'/\IU G n g e b S e b S' (h.keep num p):=by
 show ∃S',fin S (je G [sO n,sI (num:Int),some (Ib p),none] S)=_/\_;unfold je;have t1:bM (aj cb (aa v_ (aa (aC G.g_ d_ 0 h_) ai))) [sO n,sI (num:Int),some (Ib p),none] S=.ok (decide (num<2 * h.w)) S:=by
  rw[cD,au,ax (af rfl (af (Bz a _) ah)) (BG num h.w S)];rfl
 by_cases c1:num<2 * h.w
 ·rw[aa3 c1] at t1;have t2:aj cu (aa v_ (aa (f_ sk (aC G.g_ d_ 3 h_) (aC G.g_ d_ 0 h_)) (aa (aC G.g_ d_ 0 h_) ai))) [sO n,sI (num:Int),some (Ib p),none] S=.ok (.int (h.idx num)) S:=
   ax (af rfl (af (av (ub a _) (Bz a _) (uh _ _)) (af (Bz a _) ah))) (B5 hw S)
  rw[aT t1,aw (bh t2)];show ∃S',fin S (IJ _ _ _ [sO n,sI (num:Int),some (Ib p),sI (h.idx num)] S)=_/\_;have t3:ao (f_ L8 H_ (aC G.g_ d_ 3 h_)) [sO n,sI (num:Int),some (Ib p),sI (h.idx num)] S=.ok (decide ((h.nx:Int)<=h.idx num)) S:=
   az (av rfl (ub a _) (xl _ _))
  by_cases c2:(h.nx:Int)<=h.idx num
  ·obtain⟨k,hk⟩:∃k:Nat,h.idx num=(k:Int):=⟨(h.idx num).toNat,by omega⟩;have t4:ao (f_ fu H_ (aC G.g_ d_ 4 h_)) [sO n,sI (num:Int),some (Ib p),sI (h.idx num)] S=.ok (!(h.early.lookup k).isSome) S:=by
    refine az (av rfl (wg a _) ?_);rw[hk];simp only[fu,ir,fO a.ea,qG,ap8]
   by_cases c3:h.early.lookup k=none
   ·have e1:h.keep num p = { h with early:=h.early++[(k,p)] }:=by
     unfold Hr.keep;rw[ab2 ⟨c1,c2,by rw[hk];exact c3⟩,hk];rfl
    have tt:dc (ao (f_ L8 H_ (aC G.g_ d_ 3 h_))) (ao (f_ fu H_ (aC G.g_ d_ 4 h_))) [sO n,sI (num:Int),some (Ib p),sI (h.idx num)] S=.ok true S:=by
     rw[cL,au,t3,aa3 c2];show ao _ _ S=_;rw[t4,c3];rfl
    rw[aT tt,uI (d:=Ib p) rfl (wg a _) (y:=.int (h.idx num)) rfl (S4:=S.set e (.Js (N7 (h.early++[(k,p)])))) (by
     rw[hk];simp only[qk,ir,fO a.ea,E6 p c3];exact bY (P_ (by rw[Fu];omega)))]
    refine⟨_,rfl,?_⟩;rw[e1];exact⟨⟨cJ a.ob a.ne.symm,cJ a.gv a.ge.symm,dh a.ea,cJ a.be a.eb,a.gb⟩,Fr.set (by simp),.inl rfl,.inl rfl⟩
   ·have e1:h.keep num p=h:=by
     unfold Hr.keep;exact ab1 fun q=>c3 (by have:=q.2.2;rw[hk] at this;exact this)
    have tt:dc (ao (f_ L8 H_ (aC G.g_ d_ 3 h_))) (ao (f_ fu H_ (aC G.g_ d_ 4 h_))) [sO n,sI (num:Int),some (Ib p),sI (h.idx num)] S=.ok false S:=by
     rw[cL,au,t3,aa3 c2];show ao _ _ S=_;rw[t4];cases q:h.early.lookup k with
     |none=>exact absurd q c3
     |some _=>rfl
    rw[ay tt,e1];exact⟨_,rfl,IU.refl a⟩
  ·have e1:h.keep num p=h:=by
    unfold Hr.keep;exact ab1 fun q=>c2 q.2.1
   have tt:dc (ao (f_ L8 H_ (aC G.g_ d_ 3 h_))) (ao (f_ fu H_ (aC G.g_ d_ 4 h_))) [sO n,sI (num:Int),some (Ib p),sI (h.idx num)] S=.ok false S:=by
    rw[cL,au,t3,aa5 c2];rfl
   rw[ay tt,e1];exact⟨_,rfl,IU.refl a⟩
 ·rw[aa5 c1] at t1;have e1:h.keep num p=h:=by
   unfold Hr.keep;exact ab1 fun q=>c1 q.1
  rw[ay t1,e1];exact⟨_,rfl,IU.refl a⟩
def Dl(a:Iz G S n g e b h):∃S' e' b',gp G [.ob n] S=.ok .Hw S'/\IU G n g e b S e' b' S' h.Ik:=by
 obtain⟨S',e',b',q,c⟩:=sW a 0;refine⟨S',e',b',?_,c⟩;show fin S (iD G [sO n] S)=_;unfold iD;rw[aX (bc rfl a.ob rfl q)];rfl
def EZ(p:Pc)(S:ay4):w_ (Ib p) (.int 0) S=.ok (.int p.1) S:=rfl
def Fh(p:Pc)(S:ay4):w_ (Ib p) (.int 1) S=.ok (.tup (p.2.map D.int)) S:=rfl
def oG(ps:List Pc)(k:Nat):(ba (ps.take k)).length<=(ba ps).length:=by
 have:=iV (ps.take k) (ps.drop k);rw[ag3] at this;rw[this,aa8];omega
def nG{ps:List Pc}{k:Nat}{p:Pc}(h:ps[k]?=some p):ba (ps.take (k+1))=ba (ps.take k)++p.2:=by
 rw[al2,h];simp[iV,ba]
def yw{x:D}{ps:List Pc}{gd:Option (Nat×List D)}(hx:∀T,lI x (S++T)=.ok ⟨ps.map Ib,gd⟩ (S++T))(hg:Lo gd S)(hz:(ba ps).length<=1000000):eu [x] S=.ok (.tup ((ba ps).map D.int)) S:=by
 show cP S (ju [some x,none,none] S)=_;unfold ju;rw[aw (bh (bU ah (by decide)))];show cP S (aI _ _ [some x,sO S.length,none] (S++[.lst []]))=_;have hw:Kt h_ [some x,sO S.length,none] (S++[.lst []])=.ok ⟨ps.map Ib,gd⟩ (S++[.lst []]):=by
  rw[n4,au];exact hx _
 obtain⟨r',S',q,last,rfl,rfl⟩:=db (g:=gd) (tg:=gN 2) (b:=bx (KU sG v_ (aa (f_ w_ Ic (dI 1)) ai)))
  (fun k r S'=>∃last,r=[some x,sO S.length,last]/\S'=S++[.lst ((ba (ps.take k)).map D.int)]) (ps.map Ib) 0 [some x,sO S.length,none] (S++[.lst []])
  (by
   rintro i y r S' hy ⟨last,rfl,rfl⟩;rw[ac8] at hy;cases hp:ps[i]? with
   |none=>rw[hp] at hy;cases hy
   |some p=>
    rw[hp] at hy;cases hy;rw[af7];have Ly:∀a c:Cell,(S++[a]).set S.length c=S++[c]:=fun a c=>by rw[ag4 _ _ (aa1 _)];simp
    refine⟨[some x,sO S.length,some (Ib p)],[some x,sO S.length,some (Ib p)],S++[.lst ((ba (ps.take i)).map D.int++p.2.map D.int)],rfl,?_,?_,some (Ib p),rfl,?_⟩
    ·have hl:=oG ps (i+1);rw[nG hp,aa8] at hl;have ee:=aX (r:=[some x,sO S.length,some (Ib p)]) (fe:=KU sG v_ (aa (f_ w_ Ic (dI 1)) ai)) (j4 (n:=S.length) (S:=S++[.lst ((ba (ps.take i)).map D.int)]) rfl (aQ rfl) (af (av rfl rfl (Fh p _)) ah)
      (EL (xs:=(ba (ps.take i)).map D.int) (ys:=p.2.map D.int) (aQ rfl) (by rw[aa7,aa7];omega)))
     rw[Ly] at ee;exact ee
    ·cases gd with
     |none=>trivial
     |some q=>exact aB hg
    ·rw[nG hp,ae0])
  ⟨none,rfl,by simp[ba]⟩
 rw[aw (by rw[kg hw];exact q),aS (ax (af (x:=.ob S.length) rfl ah) (fW (aQ rfl)))];rw[show 0+(ps.map Ib).length=ps.length by simp,an8];exact lM (by unfold Jm;exact de _ _)
def xW{k:Nat}{ps:List Pc}(hk:S[k]?=some (.lst (ps.map Ib)))(hz:(ba ps).length<=1000000):eu [.ob k] S=.ok (.tup ((ba ps).map D.int)) S:=by
 refine yw (gd:=some (k,ps.map Ib)) (fun T=>?_) hk hz;simp only[lI];rw[aB hk]
def Da(a:Iz G S n g e b h)(p:Pc)(z1:h.begun.length<1000000)(z2:h.given.length<1000000)(z3:(ba (h.begun++[p])).length<=1000000) :
  ∃S' b',gx G [.ob n,Ib p] S=.ok .Hw S'/\IU G n g e b S e b' S' (h.take p):=by
 show ∃S' b',fin S (iK G [sO n,some (Ib p)] S)=_/\_;unfold iK;obtain⟨S1,q1,c1⟩:=ur (fo:=aC G.g_ d_ 5 h_) (ft:=aa v_ ai) (r:=[sO n,some (Ib p)]) (EI a _) a.be (af rfl ah) (by simpa using z1);have a1:Iz G S1 n g e b { h with begun:=h.begun++[p] }:=⟨c1.old a.ob a.nb.symm,c1.old a.gv a.gb.symm,c1.old a.ea a.eb.symm,by simpa using c1.at_,a.gb⟩;have f1:Fr [n,g,e,b] S S1:=c1.fp (by simp);rw[aw (aX q1)];have t1:ao (f_ HJ (f_ w_ v_ (dI 0)) (dI 1)) [sO n,some (Ib p)] S1=.ok (decide (p.1=1)) S1:=az (av (av rfl rfl (EZ p _)) rfl (iO _ _));by_cases hl:p.1=1
 ·rw[aa3 hl] at t1;have e1:h.take p = { h with given:=h.given++[(h.op,ba (h.begun++[p]))],begun:=[] }:=by unfold Hr.take;rw[ab2 hl]
  obtain⟨S2,q2,c2⟩:=ur (d:=JP (h.op,ba (h.begun++[p]))) (fo:=aC G.g_ d_ 1 h_) (ft:=aa (ci (aa (aC G.g_ d_ 2 h_) (aa (aj eu (aa (aC G.g_ d_ 5 h_) ai)) ai))) ai)
   (r:=[sO n,some (Ib p)]) (GD a1 _) a1.gv (af (bL (af (ug a1 _) (af (ax (af (EI a1 _) ah) (xW a1.be z3)) ah)) (by simp)) ah) (by simpa using z2)
  obtain⟨S3,q3,c3⟩:=gX (fo:=h_) (fe:=bT ai) (r:=[sO n,some (Ib p)]) (i:=5) (bU ah (by decide)) rfl (aB (G:=[.lst []]) (c2.old a1.ob a.ng.symm)) rfl;have l2:=c2.len;have JZ:=bq a1.ob;have hlg:=bq a1.gv;have Xq:=f1.1;have a3:Iz G S3 n g e S2.length { h with given:=h.given++[(h.op,ba (h.begun++[p]))],begun:=[] }:=
   ⟨c3.at_,c3.old (aB (by simpa using c2.at_)) a.ng,c3.old (aB (c2.old a1.ea a.ge)) a.ne,c3.old (aQ rfl) (by omega),by omega⟩
  refine⟨S3,S2.length,?_,?_⟩
  ·rw[aT t1,aw (aX q2),q3];rfl
  ·rw[e1];exact⟨a3,((f1.tr (c2.fp (by simp))).tr Fr.push).tr (c3.fp (by simp)),.inl rfl,.inr (by omega)⟩
 ·rw[aa5 hl] at t1;have e1:h.take p = { h with begun:=h.begun++[p] }:=by unfold Hr.take;rw[ab1 hl]
  refine⟨S1,b,?_,?_⟩
  ·rw[ay t1];rfl
  ·rw[e1];exact⟨a1,f1,.inl rfl,.inl rfl⟩
end
structure Bd(N:Nat)(h:Hr):Prop where
 cnt:h.given.length+h.begun.length+h.early.length<=N
 bp:∀p,p∈h.begun->p.2.length<=40
 ep:∀q,q∈h.early->q.2.2.length<=40
theorem qM:∀{ps:List Pc},(∀p,p∈ps->p.2.length<=40)->(ba ps).length<=40 * ps.length
 |[],_=>by simp[ba]
 |p :: ps,h=>by
  have h1:=h p (by simp);have h2:=qM fun q hq=>h q (aa9 _ hq)
  have:ba (p :: ps)=p.2++ba ps:=by simp[ba]
  rw[this,aa8,ab8];omega
def pf{l:List (Nat×Pc)}{k:Nat}{p:Pc}(h:l.lookup k=some p):(k,p)∈l:=by
 induction l with
 |nil=>simp at h
 |cons a r ih=>
  obtain⟨a1,a2⟩:=a;rw[ai9] at h;cases e:k == a1 with
  |true=>
   rw[e] at h;simp at h;have:=ah7.mp e;subst this h;simp
  |false=>
   rw[e] at h;exact aa9 _ (ih h)
section
variable{N:Nat}{h:Hr}
def Bd.mono{M:Nat}(b:Bd N h)(hm:N<=M):Bd M h:=⟨ab5 b.cnt hm,b.bp,b.ep⟩
def Bd.begin_(b:Bd N h)(o:Nat):Bd N (h.begin_ o):=⟨by have:=b.cnt;simp[Hr.begin_];omega,by simp[Hr.begin_],by simp[Hr.begin_]⟩
def Bd.keep(b:Bd N h)(num:Nat){p:Pc}(hp:p.2.length<=40):Bd (N+1) (h.keep num p):=by
 unfold Hr.keep;split
 ·refine⟨?_,b.bp,fun q hq=>?_⟩
  ·have:=b.cnt;show h.given.length+h.begun.length+(h.early++_).length<=_;rw[aa8,ad8];omega
  ·rcases ab0.mp hq with hq|hq
   ·exact b.ep q hq
   ·rw[ab3.mp hq];exact hp
 ·exact b.mono (ad9 _)
def Bd.one(b:Bd N h){p:Pc}(hp:h.early.lookup h.nx=some p):Bd N (h.pop.take p)/\(h.pop.take p).early.length<h.early.length:=by
 have hm:=pf hp;have JZ:(h.early.filter fun e=>decide (e.1≠h.nx)).length<h.early.length:=am0.mpr ⟨_,hm,by simp⟩;have hc:=b.cnt;have V3:=b.ep _ hm;unfold Hr.take Hr.pop;split
 ·refine⟨⟨?_,by simp,fun q hq=>b.ep q (ad3.mp hq).1⟩,JZ⟩;show(h.given++[_]).length+0+(h.early.filter _).length<=N;rw[aa8,ad8];omega
 ·refine⟨⟨?_,fun q hq=>?_,fun q hq=>b.ep q (ad3.mp hq).1⟩,JZ⟩
  ·show h.given.length+(h.begun++[p]).length+(h.early.filter _).length<=N;rw[aa8,ad8];omega
  ·rcases ab0.mp hq with hq|hq
   ·exact b.bp q hq
   ·rw[ab3.mp hq];exact V3
theorem Bd.Hx:∀{k:Nat}{h:Hr},Bd N h->Bd N (Hr.Hx k h)
 |0,_,b=>b
 |k+1,h,b=>by
  unfold Hr.Hx;cases e:h.early.lookup h.nx with
  |none=>exact b
  |some p=>exact Bd.Hx (b.one e).1
end
section
variable{G:Cs}{S S' S1 S2:ay4}{n g e b e' b' e1 b1 e2 b2:Nat}{h h' h1 h2:Hr}{N:Nat}
def ye(hN:N<=20000):∀(k fuel:Nat) (S:ay4) (b:Nat) (h:Hr) (x1:Option D),Iz G S n g e b h->h.early.length<=k->k<fuel->Bd N h->
  ∃S' b' Sa,cq G fuel [sO n,x1] S=some (.nx [sO n,Sa],S')/\IU G n g e b S e b' S' (Hr.Hx k h):=by
 intro k
 induction k with
 |zero=>
  intro fuel S b h x1 a hk hf _;obtain⟨f,rfl⟩:∃f,fuel=f+1:=⟨fuel-1,by omega⟩;have he:h.early=[]:=ai2.mp (by omega);have t1:ao (f_ qN (aC G.g_ d_ 3 h_) (aC G.g_ d_ 4 h_)) [sO n,x1] S=.ok false S:=by
   refine az (av (ub a _) (wg a _) ?_);simp only[qN,ir,fO a.ea,qG,ap8,he];rfl
  refine⟨S,b,x1,?_,IU.refl a⟩;unfold cq;exact Fp t1
 |succ k ih=>
  intro fuel S b h x1 a hk hf hb;obtain⟨f,rfl⟩:∃f,fuel=f+1:=⟨fuel-1,by omega⟩;have t1:ao (f_ qN (aC G.g_ d_ 3 h_) (aC G.g_ d_ 4 h_)) [sO n,x1] S=.ok (h.early.lookup h.nx).isSome S:=by
   refine az (av (ub a _) (wg a _) ?_);simp only[qN,ir,fO a.ea,qG,ap8]
  cases hp:h.early.lookup h.nx with
  |none=>
   rw[hp] at t1;refine⟨S,b,x1,?_,?_⟩
   ·unfold cq;exact Fp t1
   ·unfold Hr.Hx;rw[hp];exact IU.refl a
  |some p=>
   rw[hp] at t1;obtain⟨V5,JZ⟩:=hb.one hp;have hm:=pf hp;have p40:=hb.ep _ hm;have hc:=hb.cnt;have q1:zZ vH (aC G.g_ d_ 4 h_) (aa (aC G.g_ d_ 3 h_) ai) [sO n,x1] S=.ok (Ib p) (S.set e (.Js (N7 (h.early.filter fun q=>decide (q.1≠h.nx))))):=by
    refine FC (wg a _) a.ea (af (ub a _) ah) ?_;simp only[vH,ir,fO a.ea,qG,hp,av8,Dh]
   have a1:Iz G (S.set e (.Js (N7 (h.early.filter fun q=>decide (q.1≠h.nx))))) n g e b { h with early:=h.early.filter fun q=>decide (q.1≠h.nx) }:=
    ⟨cJ a.ob a.ne.symm,cJ a.gv a.ge.symm,dh a.ea,cJ a.be a.eb,a.gb⟩
   obtain⟨S1,PN⟩:∃S1,S.set e (.Js (N7 (h.early.filter fun q=>decide (q.1≠h.nx))))=S1:=⟨_,rfl⟩;have f1:Fr [n,g,e,b] S S1:=by rw[<-PN];exact Fr.set (by simp)
   rw[PN] at q1 a1;obtain⟨S2,q2,c2⟩:=yE (fo:=h_) (fe:=dI 1) (r:=[sO n,some (Ib p)]) (i:=3) rfl a1.ob rfl rfl rfl;have a2:Iz G S2 n g e b h.pop:=⟨c2.at_,c2.old a1.gv a.ng,c2.old a1.ea a.ne,c2.old a1.be a.nb,a.gb⟩;have f2:Fr [n,g,e,b] S1 S2:=c2.fp (by simp);obtain⟨S3,b3,q3,c3⟩:=Da a2 p (by show h.begun.length<_;omega) (by show h.given.length<_;omega) (by
    have:=qM (ps:=h.begun++[p]) fun q hq=>(ab0.mp hq).elim (hb.bp q) fun z=>by rw[ab3.mp z];exact p40
    rw[aa8,ad8] at this;show(ba (h.begun++[p])).length<=_;omega)
   obtain⟨S4,b4,x4,q4,c4⟩:=ih f S3 b3 _ (some (Ib p)) c3.at_ (by omega) (by omega) V5;refine⟨S4,b4,x4,?_,?_⟩
   ·unfold cq at q4 ⊢;rw[GG t1 (r2:=[sO n,some (Ib p)]) (S2:=S3) ?_]
    ·exact q4
    ·rw[aw (bh q1)];show aI _ _ [sO n,some (Ib p)] S1=_;rw[aw q2,aX (bc rfl a2.ob (af rfl ah) q3)]
   ·have e1:Hr.Hx (k+1) h=Hr.Hx k (h.pop.take p):=by
     rw[Hr.Hx,hp]
    rw[e1];exact(IU.trans ⟨a2,f1.tr f2,.inl rfl,.inl rfl⟩ c3).trans c4
def DU(a:Iz G S n g e b h)(hw:0<h.w)(V6:h.w<=1000):∃S',gm G [.ob n] S=.ok (m_ h.note) S'/\IU G n g e b S e b S' h:=by
 show ∃S',fin S (jc G [sO n,none] S)=_/\_;unfold jc;have q1:=il (f:=o6 (aC G.g_ d_ 0 h_)) (tg:=gN 0) (ti:=hV) (fe:=UE (ao (f_ qN (f_ bI (aC G.g_ d_ 3 v_) h_) (aC G.g_ d_ 4 v_))) (dI 1) (dI 0)) (own:=1) (caps:=[0])
  (r:=[sO n,none]) (S:=S) (S1:=S) (w:=⟨fw 0 1 h.w,none⟩) (fun _=>true) (fun x=>match x with
   |.int k=>.int (if (h.early.lookup (h.nx+k.toNat)).isSome then 1 else 0)
   |_=>.Hw) (by
   show((aC G.g_ d_ 0 h_ [sO n,none]).bind wN) S=_;rw[au,Bz a];exact vf (by omega)) trivial (by simp[fw];omega) (by
   intro x hx;simp only[fw,mem_map,mem_range] at hx;obtain⟨k,_,rfl⟩:=hx;refine⟨_,rfl,fun _=>rfl,fun _ zs=>?_⟩;have ap:=a.push [.lst zs];have g1:aC G.g_ d_ 3 v_ [sI (0+(k:Int) * 1),sO n] (S++[.lst zs])=.ok (.int (h.nx:Int)) (S++[.lst zs]):=cj rfl ap.ob rfl;have g2:aC G.g_ d_ 4 v_ [sI (0+(k:Int) * 1),sO n] (S++[.lst zs])=.ok (.ob e) (S++[.lst zs]):=cj rfl ap.ob rfl;have g3:ao (f_ qN (f_ bI (aC G.g_ d_ 3 v_) h_) (aC G.g_ d_ 4 v_)) [sI (0+(k:Int) * 1),sO n] (S++[.lst zs])=.ok (h.early.lookup (h.nx+k)).isSome (S++[.lst zs]):=by
    refine az (av (av g1 rfl (ck _ _)) g2 ?_);have:(h.nx:Int)+(0+(k:Int) * 1)=((h.nx+k:Nat):Int):=by omega
    rw[this];simp only[qN,ir,fO ap.ea,qG,ap8]
   show UE _ _ _ [sI (0+(k:Int) * 1),sO n] (S++[.lst zs])=_;rw[Gs,au,g3];have hk:(0+(k:Int) * 1).toNat=k:=by omega
   dsimp only;rw[hk];cases(h.early.lookup (h.nx+k)).isSome<;>rfl)
 have Ql:((fw 0 1 h.w).filter fun _=>true).map (fun x=>match x with
   |.int k=>.int (if (h.early.lookup (h.nx+k.toNat)).isSome then 1 else 0)
   |_=>.Hw)=h.bits.map D.int:=by
  rw[ai5.mpr (by simp)];unfold fw Hr.bits;rw[ah6,ah6];refine ag0 fun k _=>?_
  have hk:(0+(k:Int) * 1).toNat=k:=by omega
  simp only[ai3,hk]
 rw[Ql] at q1;have ap:=a.push [.lst (h.bits.map D.int)];rw[aw (bh (ax (af q1 ah) (fW (aQ rfl))))];show ∃S',fin S (bN _ [sO n,some (.tup (h.bits.map D.int))] (S++[.lst (h.bits.map D.int)]))=_/\_;rw[aS (bL (af rfl (af (ug ap _) (af (ax (af (ub ap _) (af (Bz ap _) ah)) (wb hw _)) (af rfl ah)))) (by simp))];exact⟨_,rfl,(IU.refl a).push _⟩
def ix0(d:D)(xs:ay7)(S:ay4):w_ (.tup (d :: xs)) (.int 0) S=.ok d S:=aO (i:=0) rfl
def Ub:x_->Prop
 |.data _ _ p=>p.2.length<=40
 |_=>True
theorem Bd.k_{c:x_}(d:Bd N h)(hc:Ub c):Bd (N+1) (h.k_ c).1:=by
 cases c with
 |A_ o=>
  dsimp only[Hr.k_];split
  ·exact d.mono (ad9 _)
  ·split
   ·exact(d.begin_ o).mono (ad9 _)
   ·exact d.mono (ad9 _)
 |data o m p=>
  dsimp only[Hr.k_];split
  ·exact d.mono (ad9 _)
  ·split
   ·exact d.mono (ad9 _)
   ·exact Bd.Hx (d.keep m hc)
 |t_ o=>exact d.mono (ad9 _)
 |Ji o=>exact d.mono (ad9 _)
 |note o j bs=>exact d.mono (ad9 _)
def FD(h:Hr)(p:Pc):(h.take p).w=h.w:=by unfold Hr.take;split<;>rfl
theorem ua:∀(k:Nat) (h:Hr),(Hr.Hx k h).w=h.w
 |0,_=>rfl
 |k+1,h=>by
  unfold Hr.Hx;cases e:h.early.lookup h.nx with
  |none=>rfl
  |some p=>exact(ua k _).trans (FD _ _)
def E8(h:Hr)(m:Nat)(p:Pc):(h.keep m p).w=h.w:=by unfold Hr.keep;split<;>rfl
def vi(h:Hr)(m:Nat)(p:Pc):(h.data m p).w=h.w:=(ua _ _).trans (E8 _ _ _)
def Ex(h:Hr)(c:x_):(h.k_ c).1.w=h.w:=by
 cases c with
 |A_ o=>
  dsimp only[Hr.k_];split
  ·rfl
  ·split<;>rfl
 |data o m p=>
  dsimp only[Hr.k_];split
  ·rfl
  ·split
   ·rfl
   ·exact vi h m p
 |_=>rfl
def CW(a:Iz G S n g e b h)(hw:0<h.w)(V6:h.w<=1000)(d:Bd N h)(hN:N<20000)(o m:Nat)(p:Pc)(hp:p.2.length<=40) :
  ∃S' e' b' l,cC G [.ob n,.int (o:Int),.int (m:Int),Ib p] S=.ok (.ob l) S'/\IU G n g e b S e' b' S' (h.k_ (.data o m p)).1/\Out S l S' (h.k_ (.data o m p)).2:=by
 show ∃S' e' b' l,fin S (dX G [sO n,sI (o:Int),sI (m:Int),some (Ib p)] S)=_/\_;unfold dX;have t1:ao (f_ Kv v_ (aC G.g_ d_ 2 h_)) [sO n,sI (o:Int),sI (m:Int),some (Ib p)] S=.ok (decide (o<h.op)) S:=by
  refine az (av rfl (ug a _) ?_);rw[sL];congr 2;rw[ac3];omega
 have t2:ao (f_ PK v_ (aC G.g_ d_ 2 h_)) [sO n,sI (o:Int),sI (m:Int),some (Ib p)] S=.ok (decide (h.op<o)) S:=by
  refine az (av rfl (ug a _) ?_);rw[Et];congr 2;rw[ac3];omega
 by_cases c1:o<h.op
 ·have e1:h.k_ (.data o m p)=(h,[]):=by simp[Hr.k_,c1]
  rw[aa3 c1] at t1;rw[di (by rw[aT t1];exact aS (bU ah (by decide))),e1];exact⟨_,e,b,_,rfl,(IU.refl a).push _,⟨aQ rfl,aa1 _⟩⟩
 ·rw[aa5 c1] at t1;rw[aw (by rw[ay t1];rfl)];by_cases c2:h.op<o
  ·have e1:h.k_ (.data o m p)=(h,[.Ji o]):=by simp[Hr.k_,c1,c2]
   rw[aa3 c2] at t2;rw[di (by rw[aT t2];exact aS (bU (af (bL (af rfl (af rfl ah)) (by simp)) ah) (by simp))),e1];exact⟨_,e,b,_,rfl,(IU.refl a).push _,⟨aQ rfl,aa1 _⟩⟩
  ·have e1:h.k_ (.data o m p)=(h.data m p,[(h.data m p).note]):=by simp[Hr.k_,c1,c2]
   rw[aa5 c2] at t2;have hc:=d.cnt;have dk:=d.keep m hp;obtain⟨S1,q1,k1⟩:=Dq a hw m p (by omega);obtain⟨S2,b2,x2,q2,k2⟩:=ye (G:=G) (n:=n) (g:=g) (e:=e) (N:=N+1) (by omega) (h.keep m p).early.length 1000000 S1 b (h.keep m p) none k1.at_ (aa1 _) (by have:=dk.cnt;omega) dk;have XA:dU G [.ob n] S1=.ok .Hw S2:=by
    show fin S1 (cq G 1000000 [sO n,none] S1)=_;rw[q2];rfl
   have QQ:IU G n g e b S1 e b2 S2 (h.data m p):=k2;obtain⟨S3,q3,k3⟩:=DU QQ.at_ (by rw[vi];exact hw) (by rw[vi];exact V6);have k13:=(k1.trans QQ).trans k3;rw[aw (by rw[ay t2];rfl),aw (aX (bc rfl a.ob (af rfl (af rfl ah)) q1)),aw (aX (bc rfl k1.at_.ob ah XA)),aS (bU (af (bc rfl QQ.at_.ob ah q3) ah) (by simp)),e1];exact⟨_,e,b2,_,rfl,k13.push _,⟨aQ rfl,k13.fr.1⟩⟩
def AV(a:Iz G S n g e b h)(hw:0<h.w)(V6:h.w<=1000)(d:Bd N h)(hN:N<20000){c:x_}(hc:Ub c) :
  ∃S' e' b' l,fM G [.ob n,m_ c] S=.ok (.ob l) S'/\IU G n g e b S e' b' S' (h.k_ c).1/\Out S l S' (h.k_ c).2:=by
 show ∃S' e' b' l,fin S (gY G [sO n,some (m_ c)] S)=_/\_;unfold gY;have TZ:∀{k:Str}{xs:ay7},m_ c=.tup (.str k :: xs)->(∀S:List Cell,HJ (.str k) (.str "hello") S=.ok (.bl false) S)->(∀S:List Cell,HJ (.str k) (.str "data") S=.ok (.bl false) S)->h.k_ c=(h,[])->
   ∃S' e' b' l,fin S (aI (IJ (ao (f_ HJ (f_ w_ v_ (dI 0)) (dT "hello"))) (bN (br G.g_ d_ (cy G) h_ (aa (f_ w_ v_ (dI 1)) ai))) bG)
 (aI (IJ (ao (f_ HJ (f_ w_ v_ (dI 0)) (dT "data"))) (bN (br G.g_ d_ (cC G) h_ (aa (f_ w_ v_ (dI 1)) (aa (f_ w_ v_ (dI 2)) (aa (f_ w_ v_ (dI 3)) ai))))) bG)
 (bN (bT ai))) [sO n,some (m_ c)] S)=.ok (.ob l) S'/\IU G n g e b S e' b' S' (h.k_ c).1/\Out S l S' (h.k_ c).2:=by
  intro k xs Of h1 h2 he;rw[Of,aw (by rw[ay (az (av (av rfl rfl (ix0 _ _ _)) rfl (h1 _)))];rfl),aw (by rw[ay (az (av (av rfl rfl (ix0 _ _ _)) rfl (h2 _)))];rfl),aS (bU ah (by decide)),he];exact⟨_,e,b,_,rfl,(IU.refl a).push _,⟨aQ rfl,aa1 _⟩⟩
 cases c with
 |A_ o=>
  obtain⟨S',e',b',l,q,k1,k2⟩:=Cq a o;rw[di (by rw[aT (az (av (av rfl rfl rfl) rfl bg))];exact aS (bc rfl a.ob (af (av rfl rfl rfl) ah) q))];exact⟨S',e',b',l,rfl,k1,k2⟩
 |data o m p=>
  obtain⟨S',e',b',l,q,k1,k2⟩:=CW a hw V6 d hN o m p hc;rw[aw (by rw[ay (az (av (av rfl rfl rfl) rfl bg))];rfl),
   di (by rw[aT (az (av (av rfl rfl rfl) rfl bg))];exact aS (bc rfl a.ob (af (av rfl rfl rfl) (af (av rfl rfl rfl) (af (av rfl rfl rfl) ah))) q))]
  exact⟨S',e',b',l,rfl,k1,k2⟩
 |t_ o=>exact TZ (k:="welcome") rfl (fun _=>bg) (fun _=>bg) rfl
 |Ji o=>exact TZ (k:="who") rfl (fun _=>bg) (fun _=>bg) rfl
 |note o m bs=>exact TZ (k:="note") rfl (fun _=>bg) (fun _=>bg) rfl
def Es(w:Nat)(S:ay4):∃S' g e b,iY G.g_ (bS G) [.int (w:Int)] S=.ok (.ob S.length) S'/\Iz G S' S.length g e b (Hr.new w)/\Fr [] S S'/\S.length<=g/\S.length<=e/\S.length<=b:=by
 obtain⟨n,hn⟩:∃n,n=S.length:=⟨_,rfl⟩;have s0:(S++[Cell.ins G.g_ [] []])[n]?=some (.ins G.g_ [] []):=aQ hn;have q1:=kK (f:="window") (fo:=h_) (fe:=v_) (r:=[sO n,sI (w:Int)]) rfl rfl s0;have s1:=dh (d:=Cell.ins G.g_ ["window"] [.int (w:Int)]) s0;have q2:=kK (f:="given") (fo:=h_) (fe:=bT ai) (r:=[sO n,sI (w:Int)]) (bU ah (by decide)) rfl (aB (G:=[.lst []]) s1);obtain⟨T1,Om⟩:∃T1,(S++[Cell.ins G.g_ [] []]).set n (.ins G.g_ ["window"] [.int (w:Int)])=T1:=⟨_,rfl⟩;have l1:T1.length=S.length+1:=by rw[<-Om];simp
 have f1:Fr [n] S T1:=by rw[<-Om];exact Fr.push.tr (Fr.set (by simp))
 have q1':cO G.g_ [] "window" h_ v_ [sO n,sI (w:Int)] (S++[.ins G.g_ [] []])=some (.nx [sO n,sI (w:Int)],T1):=by rw[q1,<-Om];rfl
 rw[Om] at s1 q2;have s2:=dh (d:=Cell.ins G.g_ ["window","given"] [.int (w:Int),.ob T1.length]) (aB (G:=[.lst []]) s1);obtain⟨T2,N0⟩:∃T2,(T1++[Cell.lst []]).set n (.ins G.g_ ["window","given"] [.int (w:Int),.ob T1.length])=T2:=⟨_,rfl⟩;have l2:T2.length=S.length+2:=by rw[<-N0];simp;omega
 have f2:Fr [n] T1 T2:=by rw[<-N0];exact Fr.push.tr (Fr.set (by simp))
 have g2:T2[T1.length]?=some (.lst []):=by rw[<-N0];exact cJ (aQ rfl) (by omega)
 have XA:cO G.g_ ["window"] "given" h_ (bT ai) [sO n,sI (w:Int)] T1=some (.nx [sO n,sI (w:Int)],T2):=by rw[q2,<-N0];rfl
 rw[N0] at s2;have q3:=kK (f:="opening") (fo:=h_) (fe:=dI 0) (r:=[sO n,sI (w:Int)]) rfl rfl s2;have s3:=dh (d:=Cell.ins G.g_ ["window","given","opening"] [.int (w:Int),.ob T1.length,.int 0]) s2;obtain⟨T3,OD⟩:∃T3,T2.set n (.ins G.g_ ["window","given","opening"] [.int (w:Int),.ob T1.length,.int 0])=T3:=⟨_,rfl⟩;have l3:T3.length=S.length+2:=by rw[<-OD];simp;omega
 have f3:Fr [n] T2 T3:=by rw[<-OD];exact Fr.set (by simp)
 have Xx:cO G.g_ ["window","given"] "opening" h_ (dI 0) [sO n,sI (w:Int)] T2=some (.nx [sO n,sI (w:Int)],T3):=by rw[q3,<-OD];rfl
 rw[OD] at s3;have q4:=kK (f:="next_index") (fo:=h_) (fe:=dI 0) (r:=[sO n,sI (w:Int)]) rfl rfl s3;have s4:=dh (d:=Cell.ins G.g_ ["window","given","opening","next_index"] [.int (w:Int),.ob T1.length,.int 0,.int 0]) s3;obtain⟨T4,TY⟩:∃T4,T3.set n (.ins G.g_ ["window","given","opening","next_index"] [.int (w:Int),.ob T1.length,.int 0,.int 0])=T4:=⟨_,rfl⟩;have l4:T4.length=S.length+2:=by rw[<-TY];simp;omega
 have f4:Fr [n] T3 T4:=by rw[<-TY];exact Fr.set (by simp)
 have q4':cO G.g_ ["window","given","opening"] "next_index" h_ (dI 0) [sO n,sI (w:Int)] T3=some (.nx [sO n,sI (w:Int)],T4):=by rw[q4,<-TY];rfl
 rw[TY] at s4;have q5:=kK (f:="early") (fo:=h_) (fe:=kR) (r:=[sO n,sI (w:Int)]) rfl rfl (aB (G:=[.Js []]) s4);have s5:=dh (d:=Cell.ins G.g_ ["window","given","opening","next_index","early"] [.int (w:Int),.ob T1.length,.int 0,.int 0,.ob T4.length]) (aB (G:=[.Js []]) s4);obtain⟨T5,Vb⟩:∃T5,(T4++[Cell.Js []]).set n (.ins G.g_ ["window","given","opening","next_index","early"] [.int (w:Int),.ob T1.length,.int 0,.int 0,.ob T4.length])=T5:=⟨_,rfl⟩;have l5:T5.length=S.length+3:=by rw[<-Vb];simp;omega
 have f5:Fr [n] T4 T5:=by rw[<-Vb];exact Fr.push.tr (Fr.set (by simp))
 have g5:T5[T4.length]?=some (.Js []):=by rw[<-Vb];exact cJ (aQ rfl) (by omega)
 have q5':cO G.g_ ["window","given","opening","next_index"] "early" h_ kR [sO n,sI (w:Int)] T4=some (.nx [sO n,sI (w:Int)],T5):=by rw[q5,<-Vb];rfl
 rw[Vb] at s5;have q6:=kK (f:="begun") (fo:=h_) (fe:=bT ai) (r:=[sO n,sI (w:Int)]) (bU ah (by decide)) rfl (aB (G:=[.lst []]) s5);have s6:=dh (d:=Cell.ins G.g_ d_ [.int (w:Int),.ob T1.length,.int 0,.int 0,.ob T4.length,.ob T5.length]) (aB (G:=[.lst []]) s5);have q6':cO G.g_ ["window","given","opening","next_index","early"] "begun" h_ (bT ai) [sO n,sI (w:Int)] T5=some (.nx [sO n,sI (w:Int)],(T5++[Cell.lst []]).set n (.ins G.g_ d_ [.int (w:Int),.ob T1.length,.int 0,.int 0,.ob T4.length,.ob T5.length])):=by rw[q6];rfl
 have f6:Fr [n] T5 ((T5++[Cell.lst []]).set n (.ins G.g_ d_ [.int (w:Int),.ob T1.length,.int 0,.int 0,.ob T4.length,.ob T5.length])):=Fr.push.tr (Fr.set (by simp));have SW:∀m,m≠n->m∉[n]:=fun m hm=>by simpa using hm
 refine⟨(T5++[Cell.lst []]).set n (.ins G.g_ d_ [.int (w:Int),.ob T1.length,.int 0,.int 0,.ob T4.length,.ob T5.length]),T1.length,T4.length,T5.length,?_,?_,?_,by omega,by omega,by omega⟩
 ·unfold iY;rw[<-hn];have:bS G [.ob n,.int (w:Int)] (S++[.ins G.g_ [] []])=.ok .Hw ((T5++[Cell.lst []]).set n (.ins G.g_ d_ [.int (w:Int),.ob T1.length,.int 0,.int 0,.ob T4.length,.ob T5.length])):=by
   show fin _ (dy G [sO n,sI (w:Int)] _)=_;unfold dy;rw[aw q1',aw XA,aw Xx,aw q4',aw q5',q6'];rfl
  rw[this]
 ·rw[<-hn];refine⟨s6,?_,?_,cJ (aQ rfl) (by omega),by omega⟩
  ·exact f6.get (f5.get (f4.get (f3.get g2 (SW _ (by omega))) (SW _ (by omega))) (SW _ (by omega))) (SW _ (by omega))
  ·exact f6.get g5 (SW _ (by omega))
 ·exact(((((f1.tr f2).tr f3).tr f4).tr f5).tr f6).mono fun i hi hs=>by
   have:i=n:=by simpa using hi
   omega
end
def uM{S:ay4}{n:Nat}(is:ax3):pD S (n+2) (.tup (is.map D.int))=some (.tuple (is.map PyData.int)):=mG S n is
def ma(n:Nat)(c:x_):Jm n (m_ c):=by
 cases c<;>simp[m_,Ib,Jm,jw,de]
def Gc(S:ay4)(n:Nat)(q:Nat×Iu):∃p,pD S (n+4) (JP q)=some p:=by
 have:=uM (S:=S) (n:=n+1) q.2;exact⟨_,by simp only[JP,xA,KS,this];simp only[pD];rfl⟩
def AG(S:ay4)(gs:List (Nat×Iu)):∃ps,KS S 29 (gs.map JP)=some ps:=zn fun c _=>Gc S 25 c
def V7(ss:ax3):Int:=(ss.zipIdx.map fun p=>((1+p.2:Nat):Int) * p.1).sum
def Jk(cs:ax3):List Int:=(cs++[cs.sum % 256])++[V7 (cs++[cs.sum % 256]) % 256]
def aA:x_->List Int
 |.A_ o=>[0,(o:Int) / 256,(o:Int) % 256]
 |.t_ o=>[1,(o:Int) / 256,(o:Int) % 256]
 |.Ji o=>[2,(o:Int) / 256,(o:Int) % 256]
 |.data o n p=>[3,(o:Int) / 256,(o:Int) % 256,(n:Int),p.1]++p.2
 |.note o n bs=>[4,(o:Int) / 256,(o:Int) % 256,(n:Int)]++bs
def LP:x_->Prop
 |.A_ o=>o<=65535
 |.t_ o=>o<=65535
 |.Ji o=>o<=65535
 |.data o n p=>o<=65535/\n<=13/\(0<=p.1/\p.1<=1)/\p.2.length<=8/\∀x,x∈p.2->0<=x/\x<=255
 |.note o n bs=>o<=65535/\n<=13/\bs.length<=7/\∀x,x∈bs->0<=x/\x<=1
section
variable{S:ay4}
def gw{xs ys:ay7}(hz:(xs++ys).length<=1000000):bI (.tup xs) (.tup ys) S=.ok (.tup (xs++ys)) S:=vF hz
def CY(is:ax3):oR [.tup (is.map D.int)] S=.ok (.int is.sum) S:=by
 simp only[oR,gj,eX]
def Fd{l:Nat}{is:ax3}(h:S[l]?=some (.lst (is.map D.int))):oR [.ob l] S=.ok (.int is.sum) S:=by
 simp only[oR,gj,bQ h,eX]
def oU(cs:ax3)(hl:cs.length<=1000)(S:ay4):cG [.tup (cs.map D.int)] S=.ok (.tup ((Jk cs).map D.int)) S:=by
 show cP S (jj [some (.tup (cs.map D.int)),none,none] S)=_;unfold jj;obtain⟨ss,XB⟩:∃ss,cs++[cs.sum % 256]=ss:=⟨_,rfl⟩;have O3:ss.length=cs.length+1:=by rw[<-XB];simp
 have e1:f_ bI h_ (ci (aa (f_ kY (aj oR (aa h_ ai)) (dI 256)) ai)) [some (.tup (cs.map D.int)),none,none] S=.ok (.tup (ss.map D.int)) S:=by
  refine av rfl (bL (af (av (ax (af rfl ah) (CY cs)) rfl (dg (by decide))) ah) (by simp)) ?_;rw[gw (by simp;omega),<-XB,ae0];rfl
 rw[aw (bh e1)];show cP S (aI _ _ [some (.tup (cs.map D.int)),some (.tup (ss.map D.int)),none] S)=_;have q1:=il (f:=uV 1 v_) (tg:=gT [0,1]) (ti:=hV) (fe:=f_ ik h_ v_) (own:=2) (caps:=[])
  (r:=[some (.tup (cs.map D.int)),some (.tup (ss.map D.int)),none]) (S:=S) (S1:=S) (w:=⟨jn 1 (ss.map D.int),none⟩) (fun _=>true) (fun x=>match x with
   |.tup [.int i,.int j]=>.int (i * j)
   |_=>.Hw) rfl trivial (by simp[jn];omega) (by
   intro x hx;unfold jn at hx;obtain⟨y,hy,rfl⟩:=ab6.mp hx;rw[List.zipIdx_map] at hy;obtain⟨z,hz,rfl⟩:=ab6.mp hy;have JZ:z.2<ss.length:=by
    have:=List.mem_zipIdx hz;omega
   refine⟨_,rfl,fun _=>rfl,fun _ zs=>?_⟩;show f_ ik h_ v_ [sI ((1+z.2:Nat):Int),sI z.1] (S++[.lst zs])=_;exact av rfl rfl (iA (.inl ⟨by omega,by omega⟩)))
 have hw:((jn 1 (ss.map D.int)).filter fun _=>true).map (fun x=>match x with
   |.tup [.int i,.int j]=>D.int (i * j)
   |_=>.Hw)=(ss.zipIdx.map fun p=>((1+p.2:Nat):Int) * p.1).map D.int:=by
  rw[ai5.mpr (by simp)];unfold jn;rw[List.zipIdx_map,ah6,ah6,ah6];rfl
 rw[hw] at q1;rw[aw (bh (ax (af q1 ah) (Fd (aQ rfl))))];show cP S (bN _ [some (.tup (cs.map D.int)),some (.tup (ss.map D.int)),sI (V7 ss)] (S++[.lst ((ss.zipIdx.map fun p=>((1+p.2:Nat):Int) * p.1).map D.int)]))=_;have e3:f_ bI v_ (ci (aa (f_ kY Ic (dI 256)) ai)) [some (.tup (cs.map D.int)),some (.tup (ss.map D.int)),sI (V7 ss)] (S++[.lst ((ss.zipIdx.map fun p=>((1+p.2:Nat):Int) * p.1).map D.int)])=.ok (.tup ((Jk cs).map D.int)) (S++[.lst ((ss.zipIdx.map fun p=>((1+p.2:Nat):Int) * p.1).map D.int)]):=by
  refine av rfl (bL (af (av rfl rfl (dg (by decide))) ah) (by simp)) ?_;rw[gw (by simp;omega)];unfold Jk;rw[XB,ae0];rfl
 rw[aS e3];exact lM (by unfold Jm;exact de _ _)
def eG(i top:Int)(S:ay4):aP [.int i,.int top] S=.ok (.bl (decide (0<=i) && decide (i<=top))) S:=by
 by_cases h:0<=i
 ·simp[aP,lv,P6,SG,vN,h]
 ·simp[aP,lv,P6,SG,vN,h]
def vo(is:ax3)(top:Int)(hl:is.length<=1000000)(S:ay4):b9 [.tup (is.map D.int),.int top] S=.ok (.bl (is.all fun i=>decide (0<=i) && decide (i<=top))) S:=by
 show cP S (oS [some (.tup (is.map D.int)),sI top] S)=_;unfold oS;have q1:=il (f:=Kt h_) (tg:=gN 0) (ti:=hV) (fe:=aj aP (aa h_ (aa v_ ai))) (own:=1) (caps:=[1])
  (r:=[some (.tup (is.map D.int)),sI top]) (S:=S) (S1:=S) (w:=⟨is.map D.int,none⟩) (fun _=>true) (fun x=>match x with
   |.int i=>.bl (decide (0<=i) && decide (i<=top))
   |_=>.Hw) rfl trivial (by simpa using hl) (by
   intro x hx;obtain⟨i,_,rfl⟩:=ab6.mp hx;refine⟨_,rfl,fun _=>rfl,fun _ zs=>?_⟩;show aj _ _ [sI i,sI top] _=_;exact ax (af rfl (af rfl ah)) (eG i top _))
 have hw:((is.map D.int).filter fun _=>true).map (fun x=>match x with
   |.int i=>D.bl (decide (0<=i) && decide (i<=top))
   |_=>.Hw)=(is.map fun i=>decide (0<=i) && decide (i<=top)).map D.bl:=by
  rw[ai5.mpr (by simp),ah6,ah6];rfl
 rw[hw] at q1;have t1:ao (M_ "tuple" h_) [some (.tup (is.map D.int)),sI top] S=.ok true S:=rfl;have t2:ii (M_ "tuple" h_) (aj vn (aa (dS (Kt h_) (gN 0) hV (aj aP (aa h_ (aa v_ ai))) 1 [1]) ai)) [some (.tup (is.map D.int)),sI top] S=.ok (.bl (is.all fun i=>decide (0<=i) && decide (i<=top))) (S++[.lst ((is.map fun i=>decide (0<=i) && decide (i<=top)).map D.bl)]):=by
  rw[gu,au,t1];refine ax (af q1 ah) ?_;simp only[vn,gj,bQ bE,oq,List.all_map];rfl
 rw[aS t2];exact lM (by simp[Jm])
def xJ{is:ax3}{top:Int}(hl:is.length<=1000000)(h:∀x,x∈is->0<=x/\x<=top)(S:ay4):b9 [.tup (is.map D.int),.int top] S=.ok (.bl true) S:=by
 rw[vo is top hl];congr 2;rw[av9];intro x hx;simp[h x hx]
def B8{p:Pc}(h1:0<=p.1/\p.1<=1)(h2:p.2.length<=8)(h3:∀x,x∈p.2->0<=x/\x<=255)(S:ay4):iH [Ib p] S=.ok (.bl true) S:=by
 show cP S (gF [some (Ib p)] S)=_;unfold gF;have t1:Kn (cZ (bM (M_ "tuple" h_))) (ao (f_ Kc (aj bu (aa h_ ai)) (dI 2))) [some (Ib p)] S=.ok false S:=by
  have u:ao (f_ Kc (aj bu (aa h_ ai)) (dI 2)) [some (Ib p)] S=.ok false S:=az (av (x:=.int 2) (ax (af rfl ah) rfl) rfl (iQ 2 2));rw[eY,au,cN,au];exact u
 rw[aw (by rw[ay t1];rfl)];have i0:f_ w_ h_ (dI 0) [some (Ib p)] S=.ok (.int p.1) S:=rfl;have i1:f_ w_ h_ (dI 1) [some (Ib p)] S=.ok (.tup (p.2.map D.int)) S:=rfl;have e1:ao (aj aP (aa (f_ w_ h_ (dI 0)) (aa (dI 1) ai))) [some (Ib p)] S=.ok true S:=by
  refine az (ax (af i0 (af rfl ah)) ?_);rw[eG];simp[h1]
 have e2:ao (aj b9 (aa (f_ w_ h_ (dI 1)) (aa (dC Ij) ai))) [some (Ib p)] S=.ok true S:=az (ax (af i1 (af rfl ah)) (xJ (by omega) h3 S));have e3:f_ O1 (aj bu (aa (f_ w_ h_ (dI 1)) ai)) (dC Ip) [some (Ib p)] S=.ok (.bl true) S:=by
  refine av (ax (af i1 ah) (cn _)) rfl ?_;rw[zR,aa7,aa3 (by omega)]
 rw[aS (d:=.bl true) (S1:=S)]
 ·exact bz (by simp[Jm])
 ·rw[gu,au,e1];show ii _ _ _ S=_;rw[gu,au,e2];exact e3
def Ef{bs:ax3}(h2:bs.length<=7)(h3:∀x,x∈bs->0<=x/\x<=1)(S:ay4):jf [.tup (bs.map D.int)] S=.ok (.bl true) S:=by
 show cP S (gD [some (.tup (bs.map D.int))] S)=_;unfold gD;have e2:ao (aj b9 (aa h_ (aa (dI 1) ai))) [some (.tup (bs.map D.int))] S=.ok true S:=az (ax (af rfl (af rfl ah)) (xJ (by omega) h3 S));have e3:f_ O1 (aj bu (aa h_ ai)) (dC JR) [some (.tup (bs.map D.int))] S=.ok (.bl true) S:=by
  refine av (ax (af rfl ah) (cn _)) rfl ?_;rw[zR,aa7,aa3 (by omega)]
 rw[aS (d:=.bl true) (S1:=S)]
 ·exact bz (by simp[Jm])
 ·rw[gu,au,e2];exact e3
end
def x_.IL:x_->Nat
 |.A_ o=>o
 |.t_ o=>o
 |.Ji o=>o
 |.data o _ _=>o
 |.note o _ _=>o
def x_.kn:x_->Str
 |.A_ _=>"hello"
 |.t_ _=>"welcome"
 |.Ji _=>"who"
 |.data _ _ _=>"data"
 |.note _ _ _=>"note"
def x_.ki:x_->Nat
 |.A_ _=>0
 |.t_ _=>1
 |.Ji _=>2
 |.data _ _ _=>3
 |.note _ _ _=>4
section
variable{S:ay4}{G:Cs}
def xP(c:x_)(S:ay4):w_ (m_ c) (.int 0) S=.ok (.str c.kn) S:=by cases c<;>rfl
def xa(c:x_)(S:ay4):w_ (m_ c) (.int 1) S=.ok (.int (c.IL:Int)) S:=by cases c<;>rfl
def LP.op{c:x_}(h:LP c):c.IL<=65535:=by
 cases c with
 |A_ o=>exact h
 |t_ o=>exact h
 |Ji o=>exact h
 |data o n p=>exact h.1
 |note o n bs=>exact h.1
def nY(c:x_)(S:ay4):HJ (.str c.kn) (.str "data") S=.ok (.bl (decide (c.ki=3))) S:=by
 cases c with
 |A_ o=>exact(show HJ (.str "hello") (.str "data") S=.ok (.bl false) S from bg)
 |t_ o=>exact(show HJ (.str "welcome") (.str "data") S=.ok (.bl false) S from bg)
 |Ji o=>exact(show HJ (.str "who") (.str "data") S=.ok (.bl false) S from bg)
 |data o n p=>exact(show HJ (.str "data") (.str "data") S=.ok (.bl true) S from bg)
 |note o n bs=>exact(show HJ (.str "note") (.str "data") S=.ok (.bl false) S from bg)
def nQ(c:x_)(S:ay4):HJ (.str c.kn) (.str "note") S=.ok (.bl (decide (c.ki=4))) S:=by
 cases c with
 |A_ o=>exact(show HJ (.str "hello") (.str "note") S=.ok (.bl false) S from bg)
 |t_ o=>exact(show HJ (.str "welcome") (.str "note") S=.ok (.bl false) S from bg)
 |Ji o=>exact(show HJ (.str "who") (.str "note") S=.ok (.bl false) S from bg)
 |data o n p=>exact(show HJ (.str "data") (.str "note") S=.ok (.bl false) S from bg)
 |note o n bs=>exact(show HJ (.str "note") (.str "note") S=.ok (.bl true) S from bg)
def qA(c:x_)(S:ay4):inD (.str c.kn) eJ S=.ok (.bl (decide (c.ki<3))) S:=by
 have h1:OT (.str "hello") [.str "hello",.str "welcome",.str "who"]=true:=by decide
 have h2:OT (.str "welcome") [.str "hello",.str "welcome",.str "who"]=true:=by decide
 have h3:OT (.str "who") [.str "hello",.str "welcome",.str "who"]=true:=by decide
 have h4:OT (.str "data") [.str "hello",.str "welcome",.str "who"]=false:=by decide
 have h5:OT (.str "note") [.str "hello",.str "welcome",.str "who"]=false:=by decide
 cases c with
 |A_ o=>show R.ok (D.bl (OT (.str "hello") [.str "hello",.str "welcome",.str "who"])) S=_;rw[h1];rfl
 |t_ o=>show R.ok (D.bl (OT (.str "welcome") [.str "hello",.str "welcome",.str "who"])) S=_;rw[h2];rfl
 |Ji o=>show R.ok (D.bl (OT (.str "who") [.str "hello",.str "welcome",.str "who"])) S=_;rw[h3];rfl
 |data o n p=>show R.ok (D.bl (OT (.str "data") [.str "hello",.str "welcome",.str "who"])) S=_;rw[h4];rfl
 |note o n bs=>show R.ok (D.bl (OT (.str "note") [.str "hello",.str "welcome",.str "who"])) S=_;rw[h5];rfl
def D0(c:x_)(S:ay4):AA (Ke.map D.str) (.str c.kn) S=.ok (.int (c.ki:Int)) S:=by
 have h1:rD (.str "hello") [.str "hello",.str "welcome",.str "who",.str "data",.str "note"]=some 0:=by decide
 have h2:rD (.str "welcome") [.str "hello",.str "welcome",.str "who",.str "data",.str "note"]=some 1:=by decide
 have h3:rD (.str "who") [.str "hello",.str "welcome",.str "who",.str "data",.str "note"]=some 2:=by decide
 have h4:rD (.str "data") [.str "hello",.str "welcome",.str "who",.str "data",.str "note"]=some 3:=by decide
 have h5:rD (.str "note") [.str "hello",.str "welcome",.str "who",.str "data",.str "note"]=some 4:=by decide
 have e:Q6 (Ke.map D.str)=some [.str "hello",.str "welcome",.str "who",.str "data",.str "note"]:=rfl;unfold AA;cases c<;>simp only[x_.kn,x_.ki,fv,e,h1,h2,h3,h4,h5]<;>rfl
def zq{c:x_}(h:LP c)(S:ay4):cS [m_ c] S=.ok (.bl true) S:=by
 show cP S (eT [some (m_ c)] S)=_;unfold eT;have NQ:=h.op;have ht:SG S (m_ c)=some "tuple":=by cases c<;>rfl
 have i1:f_ w_ h_ (dI 1) [some (m_ c)] S=.ok (.int (c.IL:Int)) S:=av rfl rfl (xa c S);have i0:f_ w_ h_ (dI 0) [some (m_ c)] S=.ok (.str c.kn) S:=av rfl rfl (xP c S);have len:aj bu (aa h_ ai) [some (m_ c)] S=.ok (.int (if c.ki<3 then 2 else 4)) S:=by
  refine ax (af rfl ah) ?_;cases c<;>rfl
 have tt:bM (M_ "tuple" h_) [some (m_ c)] S=.ok true S:=by
  show((P6 "tuple" (m_ c)).bind oC) S=_;rw[au];simp only[P6,ht];rfl
 have t1:Kn (cZ (bM (M_ "tuple" h_))) (Kn (ao (f_ Kv (aj bu (aa h_ ai)) (dI 2))) (cZ (bM (aj aP (aa (f_ w_ h_ (dI 1)) (aa (dC Ie) ai)))))) [some (m_ c)] S=.ok false S:=by
  have u1:ao (f_ Kv (aj bu (aa h_ ai)) (dI 2)) [some (m_ c)] S=.ok false S:=by
   refine az (av len rfl ?_);rw[sL,aa5 (by split<;>omega)]
  have u2:bM (aj aP (aa (f_ w_ h_ (dI 1)) (aa (dC Ie) ai))) [some (m_ c)] S=.ok true S:=by
   rw[cD,au,ax (af i1 (af rfl ah)) (eG (c.IL:Int) 65535 S),aa3 (show(0:Int)<=(c.IL:Int) by omega),aa3 (show(c.IL:Int)<=65535 by omega)];rfl
  rw[eY,au,cN,au,tt];show Kn _ _ _ S=_;rw[eY,au,u1];show cZ _ _ S=_;rw[cN,au,u2];rfl
 have t2:ao (f_ inD (f_ w_ h_ (dI 0)) (dC eJ)) [some (m_ c)] S=.ok (decide (c.ki<3)) S:=az (av i0 rfl (qA c S));rw[aw (by rw[ay t1];rfl)];by_cases hk:c.ki<3
 ·rw[aa3 hk] at t2;rw[di (by rw[aT t2];exact aS (d:=.bl true) (av len rfl (by rw[ab2 hk,iO];rfl)))];exact bz (by simp[Jm])
 ·rw[aa5 hk] at t2;rw[aw (by rw[ay t2];rfl)];have t5:ao (f_ Kc (aj bu (aa h_ ai)) (dI 4)) [some (m_ c)] S=.ok false S:=az (av len rfl (by rw[ab1 hk,iQ];rfl));have t6:ao (f_ HJ (f_ w_ h_ (dI 0)) (dT "data")) [some (m_ c)] S=.ok (decide (c.ki=3)) S:=az (av i0 rfl (nY c S));have t7:ao (f_ HJ (f_ w_ h_ (dI 0)) (dT "note")) [some (m_ c)] S=.ok (decide (c.ki=4)) S:=az (av i0 rfl (nQ c S));cases c with
  |A_ o=>exact absurd (show 0<3 by decide) hk
  |t_ o=>exact absurd (show 1<3 by decide) hk
  |Ji o=>exact absurd (show 2<3 by decide) hk
  |data o n p=>
   obtain⟨h1,h2,h3,h4,h5⟩:=h;have i2:f_ w_ h_ (dI 2) [some (m_ (.data o n p))] S=.ok (.int (n:Int)) S:=rfl;have i3:f_ w_ h_ (dI 3) [some (m_ (.data o n p))] S=.ok (Ib p) S:=rfl;have u2:bM (aj aP (aa (f_ w_ h_ (dI 2)) (aa (dC HL) ai))) [some (m_ (.data o n p))] S=.ok true S:=by
    rw[cD,au,ax (af i2 (af rfl ah)) (eG (n:Int) 13 S),aa3 (show(0:Int)<=(n:Int) by omega),aa3 (show(n:Int)<=13 by omega)];rfl
   have t8:Kn (ao (f_ Kc (aj bu (aa h_ ai)) (dI 4))) (cZ (bM (aj aP (aa (f_ w_ h_ (dI 2)) (aa (dC HL) ai))))) [some (m_ (.data o n p))] S=.ok false S:=by
    rw[eY,au,t5];show cZ _ _ S=_;rw[cN,au,u2];rfl
   rw[aw (by rw[ay t8];rfl),di (by rw[aT t6];exact aS (ax (af i3 ah) (B8 h3 h4 h5 S)))];exact bz (by simp[Jm])
  |note o n bs=>
   obtain⟨h1,h2,h4,h5⟩:=h;have i2:f_ w_ h_ (dI 2) [some (m_ (.note o n bs))] S=.ok (.int (n:Int)) S:=rfl;have i3:f_ w_ h_ (dI 3) [some (m_ (.note o n bs))] S=.ok (.tup (bs.map D.int)) S:=rfl;have u2:bM (aj aP (aa (f_ w_ h_ (dI 2)) (aa (dC HL) ai))) [some (m_ (.note o n bs))] S=.ok true S:=by
    rw[cD,au,ax (af i2 (af rfl ah)) (eG (n:Int) 13 S),aa3 (show(0:Int)<=(n:Int) by omega),aa3 (show(n:Int)<=13 by omega)];rfl
   have t8:Kn (ao (f_ Kc (aj bu (aa h_ ai)) (dI 4))) (cZ (bM (aj aP (aa (f_ w_ h_ (dI 2)) (aa (dC HL) ai))))) [some (m_ (.note o n bs))] S=.ok false S:=by
    rw[eY,au,t5];show cZ _ _ S=_;rw[cN,au,u2];rfl
   rw[aw (by rw[ay t8];rfl),aw (by rw[ay t6];rfl),aS (d:=.bl true) (S1:=S)]
   ·exact bz (by simp[Jm])
   ·rw[gu,au,t7];exact ax (af i3 ah) (Ef h4 h5 S)
def gc{c:x_}(h:LP c):3<=(aA c).length/\(aA c).length<=13:=by
 cases c with
 |A_ o=>exact⟨by simp[aA],by simp[aA]⟩
 |t_ o=>exact⟨by simp[aA],by simp[aA]⟩
 |Ji o=>exact⟨by simp[aA],by simp[aA]⟩
 |data o n p=>obtain⟨h1,h2,h3,h4,h5⟩:=h;exact⟨by simp[aA],by simp[aA];omega⟩
 |note o n bs=>obtain⟨h1,h2,h4,h5⟩:=h;exact⟨by simp[aA],by simp[aA];omega⟩
def Ba{c:x_}(h:LP c)(S:ay4):kh [m_ c] S=.ok (.tup ((aA c).map D.int)) S:=by
 show cP S (lB [some (m_ c),none] S)=_;unfold lB;have i1:f_ w_ h_ (dI 1) [some (m_ c),none] S=.ok (.int (c.IL:Int)) S:=av rfl rfl (xa c S);have i0:∀r,f_ w_ h_ (dI 0) (some (m_ c) :: r) S=.ok (.str c.kn) S:=fun r=>av rfl rfl (xP c S)
 have kx:nZ d9 (aa (f_ w_ h_ (dI 0)) ai) [some (m_ c),none] S=.ok (.int (c.ki:Int)) S:=by
  unfold nZ;rw[au,af (i0 _) ah];exact D0 c S
 rw[aw (bh (bL (af kx (af (av i1 rfl (xh ⟨by decide,by decide⟩)) (af (av i1 rfl (dg (by decide))) ah))) (by simp)))];show cP S (aI _ _ [some (m_ c),some (.tup [.int (c.ki:Int),.int ((c.IL:Int) / 256),.int ((c.IL:Int) % 256)])] S)=_;have t6:ao (f_ HJ (f_ w_ h_ (dI 0)) (dT "data")) [some (m_ c),some (.tup [.int (c.ki:Int),.int ((c.IL:Int) / 256),.int ((c.IL:Int) % 256)])] S=.ok (decide (c.ki=3)) S:=az (av (i0 _) rfl (nY c S));have t7:ao (f_ HJ (f_ w_ h_ (dI 0)) (dT "note")) [some (m_ c),some (.tup [.int (c.ki:Int),.int ((c.IL:Int) / 256),.int ((c.IL:Int) % 256)])] S=.ok (decide (c.ki=4)) S:=az (av (i0 _) rfl (nQ c S));cases c with
 |A_ o=>
  rw[aw (by rw[ay t6];rfl),aw (by rw[ay t7];rfl),aS rfl];exact bz (by simp[Jm,jw])
 |t_ o=>
  rw[aw (by rw[ay t6];rfl),aw (by rw[ay t7];rfl),aS rfl];exact bz (by simp[Jm,jw])
 |Ji o=>
  rw[aw (by rw[ay t6];rfl),aw (by rw[ay t7];rfl),aS rfl];exact bz (by simp[Jm,jw])
 |data o n p=>
  obtain⟨h1,h2,h3,h4,h5⟩:=h;have e1:f_ bI (f_ bI v_ (ci (aa (f_ w_ h_ (dI 2)) (aa (f_ w_ (f_ w_ h_ (dI 3)) (dI 0)) ai)))) (f_ w_ (f_ w_ h_ (dI 3)) (dI 1)) [some (m_ (.data o n p)),some (.tup [.int ((3:Nat):Int),.int ((o:Int) / 256),.int ((o:Int) % 256)])] S=.ok (.tup ((aA (.data o n p)).map D.int)) S:=by
   refine av (av rfl (bL (af (x:=.int (n:Int)) rfl (af (x:=.int p.1) rfl ah)) (by simp)) (gw (by simp))) (y:=.tup (p.2.map D.int)) rfl ?_;rw[gw (by simp;omega)];rfl
  rw[di (by rw[aT t6];exact aS e1)];exact bz (by unfold Jm;exact de _ _)
 |note o n bs=>
  obtain⟨h1,h2,h4,h5⟩:=h;have e1:f_ bI (f_ bI v_ (ci (aa (f_ w_ h_ (dI 2)) ai))) (f_ w_ h_ (dI 3)) [some (m_ (.note o n bs)),some (.tup [.int ((4:Nat):Int),.int ((o:Int) / 256),.int ((o:Int) % 256)])] S=.ok (.tup ((aA (.note o n bs)).map D.int)) S:=by
   refine av (av rfl (bL (af (x:=.int (n:Int)) rfl ah) (by simp)) (gw (by simp))) (y:=.tup (bs.map D.int)) rfl ?_;rw[gw (by simp;omega)];rfl
  rw[aw (by rw[ay t6];rfl),di (by rw[aT t7];exact aS e1)];exact bz (by unfold Jm;exact de _ _)
def xw{c:x_}(h:LP c)(S:ay4):jZ G [m_ c] S=.ok (.tup ((Jk (aA c)).map D.int)) S:=by
 show cP S (mV G [some (m_ c)] S)=_;unfold mV;have t1:cZ (bM (aj cS (aa h_ ai))) [some (m_ c)] S=.ok false S:=by
  rw[cN,au,cD,au,ax (af rfl ah) (zq h S)];rfl
 have hl:=gc h;rw[aw (by rw[ay t1];rfl),aS (ax (af (ax (af rfl ah) (Ba h S)) ah) (oU _ (by omega) S))];exact bz (by unfold Jm;exact de _ _)
def tj{xs:ay7}(h:2<=xs.length):fQ xs none (some (-2))=xs.take (xs.length-2):=by
 unfold fQ;have e:HT.IV xs.length xs.length (some (-2))=xs.length-2:=by
  unfold HT.IV;simp only[];split<;>omega
 rw[HT.Ll,e];simp
def Hf(c:x_)(S:ay4):w_ (.tup ((aA c).map D.int)) (.int 0) S=.ok (.int (c.ki:Int)) S:=aO (i:=0) (by cases c<;>rfl)
def He(c:x_)(S:ay4):w_ (.tup ((aA c).map D.int)) (.int 1) S=.ok (.int ((c.IL:Int) / 256)) S:=aO (i:=1) (by cases c<;>rfl)
def GZ(c:x_)(S:ay4):w_ (.tup ((aA c).map D.int)) (.int 2) S=.ok (.int ((c.IL:Int) % 256)) S:=aO (i:=2) (by cases c<;>rfl)
def De{c:x_}(h:LP c)(S:ay4):gC [.tup ((aA c).map D.int)] S=.ok (m_ c) S:=by
 show cP S (ff [some (.tup ((aA c).map D.int)),none,none,none] S)=_;unfold ff;have NQ:=h.op;have e1:f_ w_ (dC d9) (f_ w_ h_ (dI 0)) [some (.tup ((aA c).map D.int)),none,none,none] S=.ok (.str c.kn) S:=av rfl (av rfl rfl (Hf c S)) (aO (i:=c.ki) (by cases c<;>rfl));have e2:f_ bI (f_ ik (f_ w_ h_ (dI 1)) (dI 256)) (f_ w_ h_ (dI 2)) [some (.tup ((aA c).map D.int)),sS c.kn,none,none] S=.ok (.int (c.IL:Int)) S:=by
  have i1:f_ w_ h_ (dI 1) [some (.tup ((aA c).map D.int)),sS c.kn,none,none] S=.ok (.int ((c.IL:Int) / 256)) S:=av rfl rfl (He c S);have i2:f_ w_ h_ (dI 2) [some (.tup ((aA c).map D.int)),sS c.kn,none,none] S=.ok (.int ((c.IL:Int) % 256)) S:=av rfl rfl (GZ c S);refine av (av i1 rfl (iA (.inr ⟨by decide,by decide⟩))) i2 ?_;rw[ck];congr 2;omega
 rw[aw (bh e1)];show cP S (aI _ _ [some (.tup ((aA c).map D.int)),sS c.kn,none,none] S)=_;rw[aw (bh e2)];show cP S (aI _ _ [some (.tup ((aA c).map D.int)),sS c.kn,sI (c.IL:Int),none] S)=_;have hl:=gc h;have e3:Kb Jo h_ (bA (dC HM)) bK [some (.tup ((aA c).map D.int)),sS c.kn,sI (c.IL:Int),none] S=.ok (.tup (((aA c).drop 3).map D.int)) S:=by
  simp only[kS,kl,ac9,af1,au,dH,jW,dW,gl,wy,Jo];rw[show(3:Int)=((3:Nat):Int) from rfl,gf (by rw[aa7];omega),<-as9]
 rw[aw (bh e3)];show cP S (aI _ _ [some (.tup ((aA c).map D.int)),sS c.kn,sI (c.IL:Int),some (.tup (((aA c).drop 3).map D.int))] S)=_;have t6:ao (f_ HJ v_ (dT "data")) [some (.tup ((aA c).map D.int)),sS c.kn,sI (c.IL:Int),some (.tup (((aA c).drop 3).map D.int))] S=.ok (decide (c.ki=3)) S:=az (av rfl rfl (nY c S));have t7:ao (f_ HJ v_ (dT "note")) [some (.tup ((aA c).map D.int)),sS c.kn,sI (c.IL:Int),some (.tup (((aA c).drop 3).map D.int))] S=.ok (decide (c.ki=4)) S:=az (av rfl rfl (nQ c S));have sh:∀{r:r_},ao (f_ HJ v_ (dT "data")) r S=.ok false S->ao (f_ HJ v_ (dT "note")) r S=.ok false S->
   aI (IJ (dc (ao (f_ HJ v_ (dT "data"))) (ao (f_ L8 (aj bu (aa H_ ai)) (dI 2)))) (bN (ci (aa v_ (aa Ic (aa (f_ w_ H_ (dI 0)) (aa (ci (aa (f_ w_ H_ (dI 1)) (aa (Kb Jo H_ (bA (dI 2)) bK) ai))) ai)))))) bG)
    (aI (IJ (dc (ao (f_ HJ v_ (dT "note"))) (ao (f_ L8 (aj bu (aa H_ ai)) (dI 1)))) (bN (ci (aa v_ (aa Ic (aa (f_ w_ H_ (dI 0)) (aa (Kb Jo H_ (bA (dI 1)) bK) ai)))))) bG)
    (bN (f_ bI (ci (aa v_ (aa Ic ai))) H_))) r S=bN (f_ bI (ci (aa v_ (aa Ic ai))) H_) r S:=by
  intro r a b;rw[aw (by rw[ay (by rw[cL,au,a];rfl)];rfl),aw (by rw[ay (by rw[cL,au,b];rfl)];rfl)]
 cases c with
 |A_ o=>
  rw[sh t6 t7,aS (av (bL (af rfl (af rfl ah)) (by simp)) rfl (gw (by simp[aA])))];exact bz (ma _ (.A_ o))
 |t_ o=>
  rw[sh t6 t7,aS (av (bL (af rfl (af rfl ah)) (by simp)) rfl (gw (by simp[aA])))];exact bz (ma _ (.t_ o))
 |Ji o=>
  rw[sh t6 t7,aS (av (bL (af rfl (af rfl ah)) (by simp)) rfl (gw (by simp[aA])))];exact bz (ma _ (.Ji o))
 |data o n p=>
  obtain⟨h1,h2,h3,h4,h5⟩:=h;have XC:(aA (.data o n p)).drop 3=(n:Int) :: p.1 :: p.2:=rfl;rw[XC] at t6 ⊢;have g1:ao (f_ L8 (aj bu (aa H_ ai)) (dI 2)) [some (.tup ((aA (.data o n p)).map D.int)),sS (x_.data o n p).kn,sI ((x_.data o n p).IL:Int),some (.tup (((n:Int) :: p.1 :: p.2).map D.int))] S=.ok true S:=by
   refine az (av (ax (af rfl ah) (cn _)) rfl ?_);rw[xl,aa3 (by simp;omega)]
  have g2:Kb Jo H_ (bA (dI 2)) bK [some (.tup ((aA (.data o n p)).map D.int)),sS (x_.data o n p).kn,sI ((x_.data o n p).IL:Int),some (.tup (((n:Int) :: p.1 :: p.2).map D.int))] S=.ok (.tup (p.2.map D.int)) S:=by
   simp only[kS,kl,ac9,af1,au,dH,jW,dW,gl,wy,Jo];rw[show(2:Int)=((2:Nat):Int) from rfl,gf (by simp)];rfl
  rw[di (by rw[aT (by rw[cL,au,t6];exact g1)];exact aS (bL (af rfl (af rfl (af (x:=.int (n:Int)) (av rfl rfl (aO (i:=0) rfl)) (af (bL (af (x:=.int p.1) (av rfl rfl (aO (i:=1) rfl)) (af g2 ah)) (by simp)) ah)))) (by simp)))];exact bz (ma _ (.data o n p))
 |note o n bs=>
  obtain⟨h1,h2,h4,h5⟩:=h;have XC:(aA (.note o n bs)).drop 3=(n:Int) :: bs:=rfl;rw[XC] at t6 t7 ⊢;have g1:ao (f_ L8 (aj bu (aa H_ ai)) (dI 1)) [some (.tup ((aA (.note o n bs)).map D.int)),sS (x_.note o n bs).kn,sI ((x_.note o n bs).IL:Int),some (.tup (((n:Int) :: bs).map D.int))] S=.ok true S:=by
   refine az (av (ax (af rfl ah) (cn _)) rfl ?_);rw[xl,aa3 (by simp;omega)]
  have g2:Kb Jo H_ (bA (dI 1)) bK [some (.tup ((aA (.note o n bs)).map D.int)),sS (x_.note o n bs).kn,sI ((x_.note o n bs).IL:Int),some (.tup (((n:Int) :: bs).map D.int))] S=.ok (.tup (bs.map D.int)) S:=by
   simp only[kS,kl,ac9,af1,au,dH,jW,dW,gl,wy,Jo];rw[show(1:Int)=((1:Nat):Int) from rfl,gf (by simp)];rfl
  rw[aw (by rw[ay (by rw[cL,au,t6];rfl)];rfl),di (by rw[aT (by rw[cL,au,t7];exact g1)];exact aS (bL (af rfl (af rfl (af (x:=.int (n:Int)) (av rfl rfl (aO (i:=0) rfl)) (af g2 ah)))) (by simp)))];exact bz (ma _ (.note o n bs))
def tZ{c:x_}(h:LP c):∀x,x∈aA c->0<=x/\x<=255:=by
 have NQ:=h.op;intro x hx;cases c with
 |A_ o=>have:o<=65535:=NQ;simp[aA] at hx;omega
 |t_ o=>have:o<=65535:=NQ;simp[aA] at hx;omega
 |Ji o=>have:o<=65535:=NQ;simp[aA] at hx;omega
 |data o n p=>
  obtain⟨h1,h2,h3,h4,h5⟩:=h;simp[aA] at hx;rcases hx with hx|hx|hx|hx|hx|hx
  ·omega
  ·omega
  ·omega
  ·omega
  ·omega
  ·exact h5 x hx
 |note o n bs=>
  obtain⟨h1,h2,h4,h5⟩:=h;simp[aA] at hx;rcases hx with hx|hx|hx|hx|hx
  ·omega
  ·omega
  ·omega
  ·omega
  ·have:=h5 x hx;omega
def AM{cs:ax3}(h:∀x,x∈cs->0<=x/\x<=255):∀x,x∈Jk cs->0<=x/\x<=255:=by
 intro x hx;unfold Jk at hx;rcases ab0.mp hx with hx|hx
 ·rcases ab0.mp hx with hx|hx
  ·exact h x hx
  ·rw[ab3.mp hx];omega
 ·rw[ab3.mp hx];omega
def nD(cs:ax3):(Jk cs).length=cs.length+2:=by simp[Jk]
def nV(cs:ax3):(Jk cs).take cs.length=cs:=by
 unfold Jk;rw[ae2];exact List.take_left
def Eb{c:x_}(h:LP c)(S:ay4):lG G [.tup ((Jk (aA c)).map D.int)] S=.ok (m_ c) S:=by
 show cP S (nj G [some (.tup ((Jk (aA c)).map D.int)),none,none] S)=_;unfold nj;have hl:=gc h;have Ox:=nD (aA c);have u1:bM (aj b9 (aa h_ (aa (dC Ij) ai))) [some (.tup ((Jk (aA c)).map D.int)),none,none] S=.ok true S:=by
  rw[cD,au,ax (af rfl (af rfl ah)) (xJ (by omega) (AM (tZ h)) S)];rfl
 have u2:ao (f_ Kv (aj bu (aa h_ ai)) (f_ bI (dC HM) (dC HD))) [some (.tup ((Jk (aA c)).map D.int)),none,none] S=.ok false S:=by
  refine az (av (ax (af rfl ah) (cn _)) (av rfl rfl (ck _ _)) ?_);rw[sL,aa7,aa5 (by omega)]
 have u3:ao (f_ L8 (f_ w_ h_ (dI 0)) (aj bu (aa (dC d9) ai))) [some (.tup ((Jk (aA c)).map D.int)),none,none] S=.ok false S:=by
  have i0:f_ w_ h_ (dI 0) [some (.tup ((Jk (aA c)).map D.int)),none,none] S=.ok (.int (c.ki:Int)) S:=av rfl rfl (aO (i:=0) (by cases c<;>rfl));have hk:c.ki<=4:=by cases c<;>simp[x_.ki]
  refine az (av i0 (ax (af rfl ah) (cn _)) ?_);rw[xl,aa5];show ¬((5:Int)<=(c.ki:Int));omega
 have t1:Kn (cZ (bM (aj b9 (aa h_ (aa (dC Ij) ai))))) (Kn (ao (f_ Kv (aj bu (aa h_ ai)) (f_ bI (dC HM) (dC HD)))) (ao (f_ L8 (f_ w_ h_ (dI 0)) (aj bu (aa (dC d9) ai))))) [some (.tup ((Jk (aA c)).map D.int)),none,none] S=.ok false S:=by
  rw[eY,au,cN,au,u1];show Kn _ _ _ S=_;rw[eY,au,u2];exact u3
 rw[aw (by rw[ay t1];rfl)];have e1:Kb Jo h_ bK (bA (P8 uU (dC HD))) [some (.tup ((Jk (aA c)).map D.int)),none,none] S=.ok (.tup ((aA c).map D.int)) S:=by
  have Tc:fQ ((Jk (aA c)).map D.int) none (some (-2))=(aA c).map D.int:=by
   rw[tj (by rw[aa7];omega),aa7,Ox,<-aq6,show(aA c).length+2-2=(aA c).length by omega,nV]
  show R.ok (D.tup (fQ ((Jk (aA c)).map D.int) none (some (-2)))) S=_;rw[Tc]
 rw[aw (bh e1)];show cP S (aI _ _ [some (.tup ((Jk (aA c)).map D.int)),some (.tup ((aA c).map D.int)),none] S)=_;have t2:ao (f_ Kc h_ (aj cG (aa v_ ai))) [some (.tup ((Jk (aA c)).map D.int)),some (.tup ((aA c).map D.int)),none] S=.ok false S:=
  az (av rfl (ax (af rfl ah) (oU _ (by omega) S)) (uO (uM (n:=28) (Jk (aA c))) (uM (n:=28) (Jk (aA c)))))
 rw[aw (by rw[ay t2];rfl),aw (bh (ax (af rfl ah) (De h S)))];show cP S (aI _ _ [some (.tup ((Jk (aA c)).map D.int)),some (.tup ((aA c).map D.int)),some (m_ c)] S)=_;have t3:cZ (bM (aj cS (aa Ic ai))) [some (.tup ((Jk (aA c)).map D.int)),some (.tup ((aA c).map D.int)),some (m_ c)] S=.ok false S:=by
  rw[cN,au,cD,au,ax (af rfl ah) (zq h S)];rfl
 rw[aw (by rw[ay t3];rfl),aS rfl];exact bz (ma _ c)
def Bc(p:Pc)(hl:p.2.length<=1000)(S:ay4):iH [Ib p] S=.ok (.bl (decide (0<=p.1/\p.1<=1) && (p.2.all fun i=>decide (0<=i) && decide (i<=255)) && decide (p.2.length<=8))) S:=by
 show cP S (gF [some (Ib p)] S)=_;unfold gF;have t1:Kn (cZ (bM (M_ "tuple" h_))) (ao (f_ Kc (aj bu (aa h_ ai)) (dI 2))) [some (Ib p)] S=.ok false S:=by
  have u:ao (f_ Kc (aj bu (aa h_ ai)) (dI 2)) [some (Ib p)] S=.ok false S:=az (av (x:=.int 2) (ax (af rfl ah) rfl) rfl (iQ 2 2));rw[eY,au,cN,au];exact u
 rw[aw (by rw[ay t1];rfl)];have i0:f_ w_ h_ (dI 0) [some (Ib p)] S=.ok (.int p.1) S:=rfl;have i1:f_ w_ h_ (dI 1) [some (Ib p)] S=.ok (.tup (p.2.map D.int)) S:=rfl;have e1:ao (aj aP (aa (f_ w_ h_ (dI 0)) (aa (dI 1) ai))) [some (Ib p)] S=.ok (decide (0<=p.1) && decide (p.1<=1)) S:=az (ax (af i0 (af rfl ah)) (eG _ _ S));have e2:ao (aj b9 (aa (f_ w_ h_ (dI 1)) (aa (dC Ij) ai))) [some (Ib p)] S=.ok (p.2.all fun i=>decide (0<=i) && decide (i<=255)) S:=az (ax (af i1 (af rfl ah)) (vo _ _ (by omega) S));have e3:f_ O1 (aj bu (aa (f_ w_ h_ (dI 1)) ai)) (dC Ip) [some (Ib p)] S=.ok (.bl (decide (p.2.length<=8))) S:=by
  refine av (ax (af i1 ah) (cn _)) rfl ?_;rw[zR,aa7];congr 2;rw[ac3];omega
 obtain⟨b2,R6⟩:∃b2,(p.2.all fun i=>decide (0<=i) && decide (i<=255))=b2:=⟨_,rfl⟩;rw[R6] at e2 ⊢;have hd:decide (0<=p.1/\p.1<=1)=(decide (0<=p.1) && decide (p.1<=1)):=by simp
 rw[hd];obtain⟨b1,Td⟩:∃b1,(decide (0<=p.1) && decide (p.1<=1))=b1:=⟨_,rfl⟩;rw[Td] at e1 ⊢;rw[aS (d:=.bl (b1 && b2 && decide (p.2.length<=8))) (S1:=S)]
 ·exact bz (by simp[Jm])
 ·rw[gu,au,e1];cases b1 with
  |false=>rfl
  |true=>
   show ii _ _ _ S=_;rw[gu,au,e2];cases b2 with
   |false=>rfl
   |true=>exact e3
def DF(bs:ax3)(hl:bs.length<=1000)(S:ay4):jf [.tup (bs.map D.int)] S=.ok (.bl ((bs.all fun i=>decide (0<=i) && decide (i<=1)) && decide (bs.length<=7))) S:=by
 show cP S (gD [some (.tup (bs.map D.int))] S)=_;unfold gD;have e2:ao (aj b9 (aa h_ (aa (dI 1) ai))) [some (.tup (bs.map D.int))] S=.ok (bs.all fun i=>decide (0<=i) && decide (i<=1)) S:=az (ax (af rfl (af rfl ah)) (vo _ _ (by omega) S));have e3:f_ O1 (aj bu (aa h_ ai)) (dC JR) [some (.tup (bs.map D.int))] S=.ok (.bl (decide (bs.length<=7))) S:=by
  refine av (ax (af rfl ah) (cn _)) rfl ?_;rw[zR,aa7];congr 2;rw[ac3];omega
 obtain⟨b2,R6⟩:∃b2,(bs.all fun i=>decide (0<=i) && decide (i<=1))=b2:=⟨_,rfl⟩;rw[R6] at e2 ⊢;rw[aS (d:=.bl (b2 && decide (bs.length<=7))) (S1:=S)]
 ·exact bz (by simp[Jm])
 ·rw[gu,au,e2];cases b2 with
  |false=>rfl
  |true=>exact e3
def OJ{l:ax3}{t:Int}:(l.all fun i=>decide (0<=i) && decide (i<=t))=true↔∀x,x∈l->0<=x/\x<=t:=by
 rw[av9];constructor
 ·intro h x hx;have:=h x hx;simp at this;exact this
 ·intro h x hx;simp[h x hx]
def yF{c:x_}(NQ:c.IL<=65535)(hz:∀o n p,c=.data o n p->p.2.length<=1000)(ZP:∀o n bs,c=.note o n bs->bs.length<=1000)(h:¬LP c)(S:ay4):cS [m_ c] S=.ok (.bl false) S:=by
 show cP S (eT [some (m_ c)] S)=_;unfold eT;have ht:SG S (m_ c)=some "tuple":=by cases c<;>rfl
 have i1:f_ w_ h_ (dI 1) [some (m_ c)] S=.ok (.int (c.IL:Int)) S:=av rfl rfl (xa c S);have i0:f_ w_ h_ (dI 0) [some (m_ c)] S=.ok (.str c.kn) S:=av rfl rfl (xP c S);have len:aj bu (aa h_ ai) [some (m_ c)] S=.ok (.int (if c.ki<3 then 2 else 4)) S:=by
  refine ax (af rfl ah) ?_;cases c<;>rfl
 have tt:bM (M_ "tuple" h_) [some (m_ c)] S=.ok true S:=by
  show((P6 "tuple" (m_ c)).bind oC) S=_;rw[au];simp only[P6,ht];rfl
 have t1:Kn (cZ (bM (M_ "tuple" h_))) (Kn (ao (f_ Kv (aj bu (aa h_ ai)) (dI 2))) (cZ (bM (aj aP (aa (f_ w_ h_ (dI 1)) (aa (dC Ie) ai)))))) [some (m_ c)] S=.ok false S:=by
  have u1:ao (f_ Kv (aj bu (aa h_ ai)) (dI 2)) [some (m_ c)] S=.ok false S:=by
   refine az (av len rfl ?_);rw[sL,aa5 (by split<;>omega)]
  have u2:bM (aj aP (aa (f_ w_ h_ (dI 1)) (aa (dC Ie) ai))) [some (m_ c)] S=.ok true S:=by
   rw[cD,au,ax (af i1 (af rfl ah)) (eG (c.IL:Int) 65535 S),aa3 (show(0:Int)<=(c.IL:Int) by omega),aa3 (show(c.IL:Int)<=65535 by omega)];rfl
  rw[eY,au,cN,au,tt];show Kn _ _ _ S=_;rw[eY,au,u1];show cZ _ _ S=_;rw[cN,au,u2];rfl
 have t2:ao (f_ inD (f_ w_ h_ (dI 0)) (dC eJ)) [some (m_ c)] S=.ok (decide (c.ki<3)) S:=az (av i0 rfl (qA c S));rw[aw (by rw[ay t1];rfl)];have t6:ao (f_ HJ (f_ w_ h_ (dI 0)) (dT "data")) [some (m_ c)] S=.ok (decide (c.ki=3)) S:=az (av i0 rfl (nY c S));have t7:ao (f_ HJ (f_ w_ h_ (dI 0)) (dT "note")) [some (m_ c)] S=.ok (decide (c.ki=4)) S:=az (av i0 rfl (nQ c S));cases c with
 |A_ o=>exact absurd NQ h
 |t_ o=>exact absurd NQ h
 |Ji o=>exact absurd NQ h
 |data o n p=>
  rw[aw (by rw[ay t2];rfl)];have t5:ao (f_ Kc (aj bu (aa h_ ai)) (dI 4)) [some (m_ (.data o n p))] S=.ok false S:=az (av len rfl (iQ 4 4));have i2:f_ w_ h_ (dI 2) [some (m_ (.data o n p))] S=.ok (.int (n:Int)) S:=rfl;have i3:f_ w_ h_ (dI 3) [some (m_ (.data o n p))] S=.ok (Ib p) S:=rfl;have u2:bM (aj aP (aa (f_ w_ h_ (dI 2)) (aa (dC HL) ai))) [some (m_ (.data o n p))] S=.ok (decide (n<=13)) S:=by
   rw[cD,au,ax (af i2 (af rfl ah)) (eG (n:Int) 13 S),aa3 (show(0:Int)<=(n:Int) by omega)];show R.ok (true && decide ((n:Int)<=13)) S=_;rw[Bool.true_and];congr 1;rw[ac3];omega
  have t8:Kn (ao (f_ Kc (aj bu (aa h_ ai)) (dI 4))) (cZ (bM (aj aP (aa (f_ w_ h_ (dI 2)) (aa (dC HL) ai))))) [some (m_ (.data o n p))] S=.ok (!decide (n<=13)) S:=by
   rw[eY,au,t5];show cZ _ _ S=_;rw[cN,au,u2];rfl
  by_cases hn:n<=13
  ·rw[aa3 hn] at t8;have hp:=Bc p (hz o n p rfl) S;have hf:(decide (0<=p.1/\p.1<=1) && (p.2.all fun i=>decide (0<=i) && decide (i<=255)) && decide (p.2.length<=8))=false:=by
    rw[<-aw2];intro z;simp only[ai8,ao8] at z;exact h ⟨NQ,hn,z.1.1,z.2,OJ.mp z.1.2⟩
   rw[hf] at hp;rw[aw (by rw[ay t8];rfl),di (by rw[aT t6];exact aS (ax (af i3 ah) hp))];exact bz (by simp[Jm])
  ·rw[aa5 hn] at t8;rw[di (by rw[aT t8];exact aS rfl)];exact bz (by simp[Jm])
 |note o n bs=>
  rw[aw (by rw[ay t2];rfl)];have t5:ao (f_ Kc (aj bu (aa h_ ai)) (dI 4)) [some (m_ (.note o n bs))] S=.ok false S:=az (av len rfl (iQ 4 4));have i2:f_ w_ h_ (dI 2) [some (m_ (.note o n bs))] S=.ok (.int (n:Int)) S:=rfl;have i3:f_ w_ h_ (dI 3) [some (m_ (.note o n bs))] S=.ok (.tup (bs.map D.int)) S:=rfl;have u2:bM (aj aP (aa (f_ w_ h_ (dI 2)) (aa (dC HL) ai))) [some (m_ (.note o n bs))] S=.ok (decide (n<=13)) S:=by
   rw[cD,au,ax (af i2 (af rfl ah)) (eG (n:Int) 13 S),aa3 (show(0:Int)<=(n:Int) by omega)];show R.ok (true && decide ((n:Int)<=13)) S=_;rw[Bool.true_and];congr 1;rw[ac3];omega
  have t8:Kn (ao (f_ Kc (aj bu (aa h_ ai)) (dI 4))) (cZ (bM (aj aP (aa (f_ w_ h_ (dI 2)) (aa (dC HL) ai))))) [some (m_ (.note o n bs))] S=.ok (!decide (n<=13)) S:=by
   rw[eY,au,t5];show cZ _ _ S=_;rw[cN,au,u2];rfl
  by_cases hn:n<=13
  ·rw[aa3 hn] at t8;have hp:=DF bs (ZP o n bs rfl) S;have hf:((bs.all fun i=>decide (0<=i) && decide (i<=1)) && decide (bs.length<=7))=false:=by
    rw[<-aw2];intro z;simp only[ai8,ao8] at z;exact h ⟨NQ,hn,z.2,OJ.mp z.1⟩
   rw[hf] at hp;rw[aw (by rw[ay t8];rfl),aw (by rw[ay t6];rfl),aS (d:=.bl false) (S1:=S)]
   ·exact bz (by simp[Jm])
   ·rw[gu,au,t7];exact ax (af i3 ah) hp
  ·rw[aa5 hn] at t8;rw[di (by rw[aT t8];exact aS rfl)];exact bz (by simp[Jm])
def ez:Nat->Nat->x_
 |0,o=>.A_ o
 |1,o=>.t_ o
 |2,o=>.Ji o
 |3,o=>.data o 0 (0,[])
 |_,o=>.note o 0 []
def vC{k:Nat}(h:k<=4)(o:Nat):(ez k o).ki=k:=by
 match k,h with
 |0,_=>rfl
 |1,_=>rfl
 |2,_=>rfl
 |3,_=>rfl
 |4,_=>rfl
def Cr{k:Nat}(h:k<=4)(o:Nat)(S:ay4):w_ d9 (.int (k:Int)) S=.ok (.str (ez k o).kn) S:=by
 match k,h with
 |0,_=>exact aO (i:=0) rfl
 |1,_=>exact aO (i:=1) rfl
 |2,_=>exact aO (i:=2) rfl
 |3,_=>exact aO (i:=3) rfl
 |4,_=>exact aO (i:=4) rfl
def gK(k o:Nat)(rest:ax3):D:=.tup (.str (ez k o).kn :: .int (o:Int) :: rest.map D.int)
def DV{k o:Nat}(hk:k<=4)(ho:o<=65535){rest:ax3}(h:(k<3/\rest≠[])\/(3<=k/\rest.length≠2))(S:ay4):cS [gK k o rest] S=.ok (.bl false) S:=by
 show cP S (eT [some (gK k o rest)] S)=_;unfold eT;have V8:=vC hk o;have i1:f_ w_ h_ (dI 1) [some (gK k o rest)] S=.ok (.int (o:Int)) S:=av rfl rfl (aO (i:=1) rfl);have i0:f_ w_ h_ (dI 0) [some (gK k o rest)] S=.ok (.str (ez k o).kn) S:=av rfl rfl (aO (i:=0) rfl);have len:aj bu (aa h_ ai) [some (gK k o rest)] S=.ok (.int ((rest.length+2:Nat):Int)) S:=by
  refine ax (af rfl ah) ?_;unfold gK;rw[cn];congr 2;simp;omega
 have tt:bM (M_ "tuple" h_) [some (gK k o rest)] S=.ok true S:=rfl;have t1:Kn (cZ (bM (M_ "tuple" h_))) (Kn (ao (f_ Kv (aj bu (aa h_ ai)) (dI 2))) (cZ (bM (aj aP (aa (f_ w_ h_ (dI 1)) (aa (dC Ie) ai)))))) [some (gK k o rest)] S=.ok false S:=by
  have u1:ao (f_ Kv (aj bu (aa h_ ai)) (dI 2)) [some (gK k o rest)] S=.ok false S:=by
   refine az (av len rfl ?_);rw[sL,aa5 (by omega)]
  have u2:bM (aj aP (aa (f_ w_ h_ (dI 1)) (aa (dC Ie) ai))) [some (gK k o rest)] S=.ok true S:=by
   rw[cD,au,ax (af i1 (af rfl ah)) (eG (o:Int) 65535 S),aa3 (show(0:Int)<=(o:Int) by omega),aa3 (show(o:Int)<=65535 by omega)];rfl
  rw[eY,au,cN,au,tt];show Kn _ _ _ S=_;rw[eY,au,u1];show cZ _ _ S=_;rw[cN,au,u2];rfl
 have t2:ao (f_ inD (f_ w_ h_ (dI 0)) (dC eJ)) [some (gK k o rest)] S=.ok (decide (k<3)) S:=by
  have:=qA (ez k o) S;rw[V8] at this;exact az (av i0 rfl this)
 rw[aw (by rw[ay t1];rfl)];by_cases hk3:k<3
 ·rw[aa3 hk3] at t2;have hr:rest≠[]:=by
   rcases h with h|h
   ·exact h.2
   ·omega
  have hl:0<rest.length:=aq9.mpr hr;rw[di (by rw[aT t2];exact aS (d:=.bl false) (av len rfl (by rw[iO,aa5 (by omega)])))];exact bz (by simp[Jm])
 ·rw[aa5 hk3] at t2;rw[aw (by rw[ay t2];rfl)];have hr:rest.length≠2:=by
   rcases h with h|h
   ·omega
   ·exact h.2
  have t5:ao (f_ Kc (aj bu (aa h_ ai)) (dI 4)) [some (gK k o rest)] S=.ok true S:=az (av len rfl (by rw[iQ,aa5 (by omega)];rfl));have t8:Kn (ao (f_ Kc (aj bu (aa h_ ai)) (dI 4))) (cZ (bM (aj aP (aa (f_ w_ h_ (dI 2)) (aa (dC HL) ai))))) [some (gK k o rest)] S=.ok true S:=by
   rw[eY,au,t5];rfl
  rw[di (by rw[aT t8];exact aS rfl)];exact bz (by simp[Jm])
def pd(k o:Nat)(rest:ax3):D:=match k,rest with
 |3,n :: f :: l=>.tup [.str "data",.int (o:Int),.int n,.tup [.int f,.tup (l.map D.int)]]
 |4,n :: bs=>.tup [.str "note",.int (o:Int),.int n,.tup (bs.map D.int)]
 |k,rest=>gK k o rest
def u7(z k o:Nat)(rest:ax3):Jm z (pd k o rest):=by
 unfold pd;split<;>simp[gK,Jm,jw,de]
def B0{k hi lo:Nat}(hk:k<=4){rest:ax3}(hr:rest.length<=1000)(S:ay4) :
  gC [.tup (((k:Int) :: (hi:Int) :: (lo:Int) :: rest).map D.int)] S=.ok (pd k (hi * 256+lo) rest) S:=by
 obtain⟨o,ho⟩:∃o,hi * 256+lo=o:=⟨_,rfl⟩;rw[ho];obtain⟨cs,Og⟩:∃cs,(k:Int) :: (hi:Int) :: (lo:Int) :: rest=cs:=⟨_,rfl⟩;rw[Og];have g0:∀S,w_ (.tup (cs.map D.int)) (.int 0) S=.ok (.int (k:Int)) S:=fun S=>by rw[<-Og];exact aO (i:=0) rfl
 have g1:∀S,w_ (.tup (cs.map D.int)) (.int 1) S=.ok (.int (hi:Int)) S:=fun S=>by rw[<-Og];exact aO (i:=1) rfl
 have g2:∀S,w_ (.tup (cs.map D.int)) (.int 2) S=.ok (.int (lo:Int)) S:=fun S=>by rw[<-Og];exact aO (i:=2) rfl
 have Vc:cs.drop 3=rest:=by rw[<-Og];rfl
 have Ox:3<=cs.length:=by rw[<-Og];simp
 show cP S (ff [some (.tup (cs.map D.int)),none,none,none] S)=_;unfold ff;have e1:f_ w_ (dC d9) (f_ w_ h_ (dI 0)) [some (.tup (cs.map D.int)),none,none,none] S=.ok (.str (ez k o).kn) S:=av rfl (av rfl rfl (g0 S)) (Cr hk o S);have e2:f_ bI (f_ ik (f_ w_ h_ (dI 1)) (dI 256)) (f_ w_ h_ (dI 2)) [some (.tup (cs.map D.int)),sS (ez k o).kn,none,none] S=.ok (.int (o:Int)) S:=by
  refine av (av (av rfl rfl (g1 S)) rfl (iA (.inr ⟨by decide,by decide⟩))) (av rfl rfl (g2 S)) ?_;rw[ck];congr 2;omega
 rw[aw (bh e1)];show cP S (aI _ _ [some (.tup (cs.map D.int)),sS (ez k o).kn,none,none] S)=_;rw[aw (bh e2)];show cP S (aI _ _ [some (.tup (cs.map D.int)),sS (ez k o).kn,sI (o:Int),none] S)=_;have e3:Kb Jo h_ (bA (dC HM)) bK [some (.tup (cs.map D.int)),sS (ez k o).kn,sI (o:Int),none] S=.ok (.tup (rest.map D.int)) S:=by
  simp only[kS,kl,ac9,af1,au,dH,jW,dW,gl,wy,Jo];rw[show(3:Int)=((3:Nat):Int) from rfl,gf (by rw[aa7];omega),<-as9,Vc]
 rw[aw (bh e3)];show cP S (aI _ _ [some (.tup (cs.map D.int)),sS (ez k o).kn,sI (o:Int),some (.tup (rest.map D.int))] S)=_;have V8:=vC hk o;have t6:ao (f_ HJ v_ (dT "data")) [some (.tup (cs.map D.int)),sS (ez k o).kn,sI (o:Int),some (.tup (rest.map D.int))] S=.ok (decide (k=3)) S:=by
  have:=nY (ez k o) S;rw[V8] at this;exact az (av rfl rfl this)
 have t7:ao (f_ HJ v_ (dT "note")) [some (.tup (cs.map D.int)),sS (ez k o).kn,sI (o:Int),some (.tup (rest.map D.int))] S=.ok (decide (k=4)) S:=by
  have:=nQ (ez k o) S;rw[V8] at this;exact az (av rfl rfl this)
 have n2:ao (f_ L8 (aj bu (aa H_ ai)) (dI 2)) [some (.tup (cs.map D.int)),sS (ez k o).kn,sI (o:Int),some (.tup (rest.map D.int))] S=.ok (decide (2<=rest.length)) S:=by
  refine az (av (ax (af rfl ah) (cn _)) rfl ?_);rw[xl,aa7];congr 2;rw[ac3];omega
 have n1:ao (f_ L8 (aj bu (aa H_ ai)) (dI 1)) [some (.tup (cs.map D.int)),sS (ez k o).kn,sI (o:Int),some (.tup (rest.map D.int))] S=.ok (decide (1<=rest.length)) S:=by
  refine az (av (ax (af rfl ah) (cn _)) rfl ?_);rw[xl,aa7];congr 2;rw[ac3];omega
 have t9:dc (ao (f_ HJ v_ (dT "data"))) (ao (f_ L8 (aj bu (aa H_ ai)) (dI 2))) [some (.tup (cs.map D.int)),sS (ez k o).kn,sI (o:Int),some (.tup (rest.map D.int))] S=.ok (decide (k=3) && decide (2<=rest.length)) S:=by
  rw[cL,au,t6];cases decide (k=3) with
  |false=>rfl
  |true=>exact n2
 have V9:dc (ao (f_ HJ v_ (dT "note"))) (ao (f_ L8 (aj bu (aa H_ ai)) (dI 1))) [some (.tup (cs.map D.int)),sS (ez k o).kn,sI (o:Int),some (.tup (rest.map D.int))] S=.ok (decide (k=4) && decide (1<=rest.length)) S:=by
  rw[cL,au,t7];cases decide (k=4) with
  |false=>rfl
  |true=>exact n1
 have last:bN (f_ bI (ci (aa v_ (aa Ic ai))) H_) [some (.tup (cs.map D.int)),sS (ez k o).kn,sI (o:Int),some (.tup (rest.map D.int))] S=some (.rt (gK k o rest),S):=
  aS (av (bL (af rfl (af rfl ah)) (by simp)) rfl (gw (by simp;omega)))
 by_cases h3:k=3/\2<=rest.length
 ·obtain⟨rfl,hl⟩:=h3
  match rest,hl with
  |n :: f :: l,_=>
   rw[aa3 (show(3:Nat)=3 from rfl),aa3 (show 2<=(n :: f :: l).length by simp)] at t9;have c2:Kb Jo H_ (bA (dI 2)) bK [some (.tup (cs.map D.int)),sS (ez 3 o).kn,sI (o:Int),some (.tup ((n :: f :: l).map D.int))] S=.ok (.tup (l.map D.int)) S:=by
    simp only[kS,kl,ac9,af1,au,dH,jW,dW,gl,wy,Jo];rw[show(2:Int)=((2:Nat):Int) from rfl,gf (by simp)];rfl
   rw[di (by rw[aT t9];exact aS (bL (af rfl (af rfl (af (x:=.int n) (av rfl rfl (aO (i:=0) rfl)) (af (bL (af (x:=.int f) (av rfl rfl (aO (i:=1) rfl)) (af c2 ah)) (by simp)) ah)))) (by simp)))];exact bz (u7 S.length 3 o (n :: f :: l))
 ·have f9:(decide (k=3) && decide (2<=rest.length))=false:=by
   rw[<-aw2];simpa using h3
  rw[f9] at t9;rw[aw (by rw[ay t9];rfl)];by_cases h4:k=4/\1<=rest.length
  ·obtain⟨rfl,hl⟩:=h4
   match rest,hl with
   |n :: bs,_=>
    rw[aa3 (show(4:Nat)=4 from rfl),aa3 (show 1<=(n :: bs).length by simp)] at V9;have c2:Kb Jo H_ (bA (dI 1)) bK [some (.tup (cs.map D.int)),sS (ez 4 o).kn,sI (o:Int),some (.tup ((n :: bs).map D.int))] S=.ok (.tup (bs.map D.int)) S:=by
     simp only[kS,kl,ac9,af1,au,dH,jW,dW,gl,wy,Jo];rw[show(1:Int)=((1:Nat):Int) from rfl,gf (by simp)];rfl
    rw[di (by rw[aT V9];exact aS (bL (af rfl (af rfl (af (x:=.int n) (av rfl rfl (aO (i:=0) rfl)) (af c2 ah)))) (by simp)))];exact bz (u7 S.length 4 o (n :: bs))
  ·have V_:(decide (k=4) && decide (1<=rest.length))=false:=by
    rw[<-aw2];simpa using h4
   rw[V_] at V9;rw[aw (by rw[ay V9];rfl),last];have:pd k o rest=gK k o rest:=by
    unfold pd;split
    ·exact absurd ⟨rfl,by simp⟩ h3
    ·exact absurd ⟨rfl,by simp⟩ h4
    ·rfl
   rw[this];exact bz (by rw[<-this];exact u7 _ _ _ _)
def DO{k hi lo:Nat}(hk:k<=4)(Xw:hi<=255)(VG:lo<=255){rest:ax3}(hr:rest.length<=1000)(KH:∀x,x∈rest->0<=x)(OS:∀c,LP c->aA c≠(k:Int) :: (hi:Int) :: (lo:Int) :: rest)(S:ay4) :
  cS [pd k (hi * 256+lo) rest] S=.ok (.bl false) S:=by
 obtain⟨o,ho⟩:∃o,hi * 256+lo=o:=⟨_,rfl⟩;have Qm:o<=65535:=by omega
 have hd:((o:Int) / 256)=hi/\((o:Int) % 256)=lo:=by omega
 rw[ho];unfold pd;split
 ·rename_i n f l;have hn:=KH n (by simp);have Q9:(n.toNat:Int)=n:=ar0 hn;have:=yF (c:=.data o n.toNat (f,l)) Qm (fun a b p e=>by cases e;simp at hr ⊢;omega) (fun a b p e=>by cases e) (fun z=>OS _ z (by simp[aA,hd,Q9])) S;have e:m_ (.data o n.toNat (f,l))=.tup [.str "data",.int (o:Int),.int n,.tup [.int f,.tup (l.map D.int)]]:=by simp only[m_,Ib,Q9]
  rw[e] at this;exact this
 ·rename_i n bs;have hn:=KH n (by simp);have Q9:(n.toNat:Int)=n:=ar0 hn;have:=yF (c:=.note o n.toNat bs) Qm (fun a b p e=>by cases e) (fun a b p e=>by cases e;simp at hr ⊢;omega) (fun z=>OS _ z (by simp[aA,hd,Q9])) S;have e:m_ (.note o n.toNat bs)=.tup [.str "note",.int (o:Int),.int n,.tup (bs.map D.int)]:=by simp only[m_,Q9]
  rw[e] at this;exact this
 ·rename_i h3 h4;refine DV hk Qm ?_ S
  match k,hk with
  |0,_=>exact .inl ⟨by decide,fun z=>OS (.A_ o) Qm (by simp[aA,hd,z])⟩
  |1,_=>exact .inl ⟨by decide,fun z=>OS (.t_ o) Qm (by simp[aA,hd,z])⟩
  |2,_=>exact .inl ⟨by decide,fun z=>OS (.Ji o) Qm (by simp[aA,hd,z])⟩
  |3,_=>exact .inr ⟨by decide,fun z=>by
    match rest,z with
    |[n,f],_=>exact h3 n f [] rfl rfl⟩
  |4,_=>exact .inr ⟨by decide,fun z=>by
    match rest,z with
    |[n,f],_=>exact h4 n [f] rfl rfl⟩
def DY{xs:ax3}(hl:xs.length<=1000)(h:∀c,LP c->Jk (aA c)≠xs)(S:ay4):lG G [.tup (xs.map D.int)] S=.exc G.IS S:=by
 show cP S (nj G [some (.tup (xs.map D.int)),none,none] S)=_;unfold nj;have u1:bM (aj b9 (aa h_ (aa (dC Ij) ai))) [some (.tup (xs.map D.int)),none,none] S=.ok (xs.all fun i=>decide (0<=i) && decide (i<=255)) S:=by
  rw[cD,au,ax (af rfl (af rfl ah)) (vo xs 255 (by omega) S)];rfl
 have u2:ao (f_ Kv (aj bu (aa h_ ai)) (f_ bI (dC HM) (dC HD))) [some (.tup (xs.map D.int)),none,none] S=.ok (decide (xs.length<5)) S:=by
  refine az (av (ax (af rfl ah) (cn _)) (av rfl rfl (ck _ _)) ?_);rw[sL,aa7];congr 2;rw[ac3];omega
 have LC:∀{t:HK},Kn (cZ (bM (aj b9 (aa h_ (aa (dC Ij) ai))))) (Kn (ao (f_ Kv (aj bu (aa h_ ai)) (f_ bI (dC HM) (dC HD)))) (ao (f_ L8 (f_ w_ h_ (dI 0)) (aj bu (aa (dC d9) ai))))) [some (.tup (xs.map D.int)),none,none] S=.ok true S->
   cP S (aI (IJ (Kn (cZ (bM (aj b9 (aa h_ (aa (dC Ij) ai))))) (Kn (ao (f_ Kv (aj bu (aa h_ ai)) (f_ bI (dC HM) (dC HD)))) (ao (f_ L8 (f_ w_ h_ (dI 0)) (aj bu (aa (dC d9) ai)))))) (oK G.IS (dT "these are not the cells of a strip")) bG) t [some (.tup (xs.map D.int)),none,none] S)=.exc G.IS S:=by
  intro t a;rw[qv,aT a];rfl
 cases Te:(xs.all fun i=>decide (0<=i) && decide (i<=255)) with
 |false=>
  rw[Te] at u1;refine LC ?_;rw[eY,au,cN,au,u1];rfl
 |true=>
  rw[Te] at u1;have KH:=OJ.mp Te;by_cases h5:xs.length<5
  ·rw[aa3 h5] at u2;refine LC ?_;rw[eY,au,cN,au,u1];show Kn _ _ _ S=_;rw[eY,au,u2];rfl
  ·rw[aa5 h5] at u2
   match xs,h5,hl,h,KH,u1,u2,@LC with
   |k :: hi :: lo :: a :: b :: tl,_,hl,h,KH,u1,u2,LC=>
    obtain⟨xs,Tf⟩:∃xs,k :: hi :: lo :: a :: b :: tl=xs:=⟨_,rfl⟩;have hk0:=KH k (by simp);have hhi0:=KH hi (by simp);have hlo0:=KH lo (by simp);have hxl:5<=xs.length:=by rw[<-Tf];simp
    have i0:f_ w_ h_ (dI 0) [some (.tup (xs.map D.int)),none,none] S=.ok (.int k) S:=by rw[<-Tf];exact av rfl rfl (aO (i:=0) rfl)
    rw[Tf] at hl h KH u1 u2 LC ⊢;have u3:ao (f_ L8 (f_ w_ h_ (dI 0)) (aj bu (aa (dC d9) ai))) [some (.tup (xs.map D.int)),none,none] S=.ok (decide (5<=k)) S:=az (av i0 (ax (af rfl ah) (cn _)) (xl _ _));have t1:Kn (cZ (bM (aj b9 (aa h_ (aa (dC Ij) ai))))) (Kn (ao (f_ Kv (aj bu (aa h_ ai)) (f_ bI (dC HM) (dC HD)))) (ao (f_ L8 (f_ w_ h_ (dI 0)) (aj bu (aa (dC d9) ai))))) [some (.tup (xs.map D.int)),none,none] S=.ok (decide (5<=k)) S:=by
     rw[eY,au,cN,au,u1];show Kn _ _ _ S=_;rw[eY,au,u2];exact u3
    by_cases hk5:5<=k
    ·rw[aa3 hk5] at t1;exact LC t1
    ·rw[aa5 hk5] at t1;rw[aw (by rw[ay t1];rfl)];obtain⟨cs,Og⟩:∃cs,xs.take (xs.length-2)=cs:=⟨_,rfl⟩;have e1:Kb Jo h_ bK (bA (P8 uU (dC HD))) [some (.tup (xs.map D.int)),none,none] S=.ok (.tup (cs.map D.int)) S:=by
      show R.ok (D.tup (fQ (xs.map D.int) none (some (-2)))) S=_;rw[tj (by rw[aa7];omega),aa7,<-aq6,Og]
     rw[aw (bh e1)];show cP S (aI _ _ [some (.tup (xs.map D.int)),some (.tup (cs.map D.int)),none] S)=_;have Vd:cs.length=xs.length-2:=by rw[<-Og,ad7];omega
     have t2:ao (f_ Kc h_ (aj cG (aa v_ ai))) [some (.tup (xs.map D.int)),some (.tup (cs.map D.int)),none] S=.ok (!decide (xs=Jk cs)) S:=
      az (av rfl (ax (af rfl ah) (oU _ (by omega) S)) (B7 S xs (Jk cs)))
     by_cases XD:xs=Jk cs
     ·rw[aa3 XD] at t2;rw[aw (by rw[ay t2];rfl)];obtain⟨kN,hkN⟩:∃kN:Nat,k=kN:=⟨k.toNat,by omega⟩;obtain⟨hN,hhN⟩:∃hN:Nat,hi=hN:=⟨hi.toNat,by omega⟩;obtain⟨lN,hlN⟩:∃lN:Nat,lo=lN:=⟨lo.toNat,by omega⟩;subst hkN hhN hlN;obtain⟨rest,O6⟩:∃rest,cs=(kN:Int) :: (hN:Int) :: (lN:Int) :: rest:=by
       rw[<-Og,<-Tf];exact⟨(a :: b :: tl).take (tl.length),by simp⟩
      have hrl:rest.length<=1000:=by rw[O6] at Vd;simp at Vd;omega
      have XE:∀x,x∈rest->0<=x:=fun x hx=>(KH x (by
       have:x∈cs:=by rw[O6];simp[hx]
       rw[<-Og] at this;exact aj9 this)).1
      have fg:=B0 (k:=kN) (hi:=hN) (lo:=lN) (by omega) hrl S;have fn:=DO (k:=kN) (hi:=hN) (lo:=lN) (by omega) (by omega) (by omega) hrl XE (fun c hc z=>h c hc (by rw[z,<-O6];exact XD.symm)) S;rw[<-O6] at fg;obtain⟨dd,hdd⟩:∃dd,pd kN (hN * 256+lN) rest=dd:=⟨_,rfl⟩;rw[hdd] at fg fn;rw[aw (bh (ax (af rfl ah) fg))];show cP S (aI _ _ [some (.tup (xs.map D.int)),some (.tup (cs.map D.int)),some dd] S)=_;have t3:cZ (bM (aj cS (aa Ic ai))) [some (.tup (xs.map D.int)),some (.tup (cs.map D.int)),some dd] S=.ok true S:=by
       rw[cN,au,cD,au,ax (af rfl ah) fn];rfl
      rw[qv,aT t3];rfl
     ·rw[aa5 XD] at t2;rw[qv,aT t2];rfl
end
def yK{xs cs:ax3}(h:xs=Jk cs):cs=xs.take (xs.length-2)/\xs[xs.length-2]?=some (cs.sum % 256)/\xs[xs.length-1]?=some (V7 (cs++[cs.sum % 256]) % 256)/\xs.length=cs.length+2:=by
 have hl:=nD cs;rw[<-h] at hl;refine⟨?_,?_,?_,hl⟩
 ·rw[show xs.length-2=cs.length by omega,h,nV]
 ·rw[show xs.length-2=cs.length by omega,h];unfold Jk;rw[ae2,ad5 (aa1 _)];simp
 ·rw[show xs.length-1=cs.length+1 by omega,h];unfold Jk;rw[ad5 (by simp)];simp
theorem yC:∀{l:ax3}{i:Nat}{a v:Int},l[i]?=some a->(l.set i v).sum=l.sum-a+v
 |[],_,_,_,h=>by simp at h
 |x :: l,0,a,v,h=>by
  simp at h;subst h;simp only[List.set_cons_zero,sum_cons];omega
 |x :: l,i+1,a,v,h=>by
  have:=yC (l:=l) (i:=i) (a:=a) (v:=v) (by simpa using h);simp only[as5,sum_cons,this];omega
def FM{cs:ax3}{i:Nat}{a v:Int}(ha:(Jk cs)[i]?=some a)(hv:¬(v-a) % 256=0):∀Wa,Jk Wa≠(Jk cs).set i v:=by
 intro Wa h;obtain⟨n,hn⟩:∃n,cs.length=n:=⟨_,rfl⟩;obtain⟨h1,h2,h3,h4⟩:=yK h.symm;obtain⟨g1,g2,g3,g4⟩:=yK (rfl:Jk cs=Jk cs);rw[ap4,g4] at h1 h2 h3 h4;rw[g4] at g1 g2 g3;have hi:=(aa2.mp ha).1;rw[g4] at hi;simp only[show cs.length+2-2=cs.length by omega,show cs.length+2-1=cs.length+1 by omega] at *;by_cases c1:i<cs.length
 ·have Rf:Wa=cs.set i v:=by
   rw[h1,List.take_set,nV]
  have hai:cs[i]?=some a:=by
   rw[<-ha];unfold Jk;rw[ae2,ab4 c1]
  have hs:=yC (v:=v) hai;rw[ag6 (by omega),g2] at h2
  injection h2 with h2
  rw[Rf,hs] at h2;omega
 ·have Rf:Wa=cs:=by
   rw[h1,List.take_set_of_le (by omega),nV]
  by_cases c2:i=cs.length
  ·subst c2;rw[ak9 (by rw[g4];omega)] at h2;rw[ha] at g2
   injection h2 with h2
   injection g2 with g2
   rw[Rf] at h2;omega
  ·have c3:i=cs.length+1:=by omega
   subst c3;rw[ak9 (by rw[g4];omega)] at h3;rw[ha] at g3
   injection h3 with h3
   injection g3 with g3
   rw[Rf] at h3;omega
end Lw
namespace Lw
inductive TC where
 |A_ (o:Nat)|data (o i:Nat)
 deriving DecidableEq
namespace TC
def op:TC->Nat
 |A_ o=>o
 |data o _=>o
def rank:TC->Nat
 |A_ o=>2 * o
 |data o _=>2 * o+1
end TC
inductive BC where
 |t_ (o:Nat)|Ji (o:Nat)|note (o j:Nat) (bs:ax3)
def BC.op:BC->Nat
 |t_ o=>o
 |Ji o=>o
 |note o _ _=>o
structure Sys where
 s:Sr
 h:Hr
 T:List TC
 B:List BC
 st:Nat->Nat
 tk:Nat->Nat
def mk(j:Nat)(bs:ax3)(x:Nat):Prop:=∃k,bs[k]?=some 1/\x=j+k
structure Cw where
 s:Sr
 h:Hr
 T:List x_
 B:List x_
namespace Sys
def P(x:Sys)(o:Nat):List Pc:=fl x.s.most (x.s.msgs.drop (x.st o))
def en(x:Sys)(o:Nat):Nat:=x.st o+HI ((x.P o).take (x.tk o))
def run(x:Sys)(o:Nat):List (Nat×Iu):=((x.s.msgs.drop (x.st o)).take (HI ((x.P o).take (x.tk o)))).map fun m=>(o,m)
def cT(x:Sys):TC->x_
 |.A_ o=>.A_ o
 |.data o i=>.data o (i % (2 * x.s.w)) ((x.P o).getD i (0,[]))
def cB(x:Sys):BC->x_
 |.t_ o=>.t_ o
 |.Ji o=>.Ji o
 |.note o j bs=>.note o (j % (2 * x.s.w)) bs
def con(x:Sys):Cw:=⟨x.s,x.h,x.T.map x.cT,x.B.map x.cB⟩
end Sys
structure Oo(x:Sys):Prop where
 w0:0<x.s.w
 ww:x.h.w=x.s.w
 ps:x.s.st≠.IQ->x.s.ps=x.P x.s.op/\1<=x.s.op
 OK:x.s.st=.opening->x.s.base=0/\x.s.Hu=[]/\x.tk x.s.op=0/\(x.h.op=x.s.op->x.h.early=[])
 su:x.s.sure=x.st x.s.op+HI ((x.P x.s.op).take x.s.base)
 sl:∀o,o<=x.s.op->x.st o<=x.s.msgs.length
 ch:∀o,1<=o->o<=x.s.op->∃o',o'<o/\x.st o<=x.en o'
 s0:x.st 0=0
 bt:x.s.base<=x.tk x.s.op
 tw:x.tk x.s.op<=x.s.base+x.s.w
 tl:∀o,x.tk o<=(x.P o).length
 tz:∀o,x.s.op<o->x.tk o=0
 t0:x.tk 0=0
 ho:x.h.op<=x.s.op
 hz:x.h.op=0->x.h.early=[]
 hn:x.h.nx=x.tk x.h.op
 hl:x.h.op≠0->∀o,x.h.op<o->x.tk o=0
 he:∀e,e∈x.h.early->(x.P x.h.op)[e.1]?=some e.2/\x.h.nx<e.1
 hd:(x.h.early.map (·.1)).Nodup
 hb:x.h.begun=(QO ((x.P x.h.op).take x.h.nx)).2
 hg:x.h.given=(range (x.s.op+1)).flatMap x.run
 ek:x.h.op=x.s.op->∀e,e∈x.h.early->e.1<x.s.base+x.s.w
 n0:x.s.op=0->x.s.Hu=[]
structure Ve(x:Sys):Prop where
 so:x.T.Pairwise fun a b=>a.rank<=b.rank
 bd:∀c,c∈x.T->1<=c.op/\c.rank<=2 * x.s.op+1
 bo:x.s.st=.opening->∀c,c∈x.T->c.rank<=2 * x.s.op
 rt:∀o,0<x.tk o->∀c,c∈x.T->2 * o+1<=c.rank
 rh:∀c,c∈x.T->2 * x.h.op<=c.rank
 re:x.h.early≠[]->∀c,c∈x.T->2 * x.h.op+1<=c.rank
 r2:∀o i,TC.data o i∈x.T->i<(x.P o).length
 r3:∀o i,TC.A_ o∈x.T->TC.data o i∈x.T->i<x.s.w
 r4:∀i,TC.data x.h.op i∈x.T->i<x.h.nx+x.s.w/\x.h.nx<=i+x.s.w/\∀e,e∈x.h.early->e.1<i+x.s.w
 r6:x.T.Pairwise fun a b=>∀o i j,a=TC.data o i->b=TC.data o j->i<j+x.s.w
 r7:∀i,TC.data x.s.op i∈x.T->i<x.s.base+x.s.w
structure Tg(x:Sys):Prop where
 bb:∀c,c∈x.B->1<=c.op/\c.op<=x.s.op
 bn:∀j bs,BC.note x.s.op j bs∈x.B->x.s.base<=j/\j<=x.tk x.s.op
 bp:x.B.Pairwise fun a b=>∀j bs j' ML,a=BC.note x.s.op j bs->b=BC.note x.s.op j' ML->j<=j'/\¬mk j bs j'
 m1:x.h.op=x.s.op->(∀k,k∈x.s.Hu->k<x.h.nx\/k∈x.h.early.map (·.1))/\∀j bs k,BC.note x.s.op j bs∈x.B->mk j bs k->k<x.h.nx\/k∈x.h.early.map (·.1)
 m2:∀k,k∈x.s.Hu->k≠x.s.base/\∀j bs,BC.note x.s.op j bs∈x.B->k≠j
 m4:∀j bs,BC.note x.s.op j bs∈x.B->¬mk j bs j
 nh:TC.A_ x.s.op∈x.T\/x.s.st=.opening->∀j bs,¬BC.note x.s.op j bs∈x.B
 nd:TC.A_ x.s.op∈x.T->x.s.Hu=[]
structure Iv(x:Sys):Prop where
 c:Oo x
 t:Ve x
 b:Tg x
def Sys.new(w most:Nat):Sys:=⟨Sr.new w most,Hr.new w,[],[],fun _=>0,fun _=>0⟩
def Fa{w most:Nat}(hw:0<w):Iv (Sys.new w most):=by
 refine⟨?_,?_,?_⟩
 ·constructor<;>simp[Sys.new,Sr.new,Hr.new,Sys.P,Sys.en,Sys.run,fl,HI,QO,hw]
  ·intro o h1 h2;omega
 ·constructor<;>simp[Sys.new,Sr.new,Hr.new]
 ·constructor<;>simp[Sys.new,Sr.new,Hr.new]
section
variable{x:Sys}{m:Iu}
def Sys.hand(x:Sys)(m:Iu):Sys:={ x with s:=x.s.hand m }
def Ca{o:Nat}(h:x.st o<=x.s.msgs.length):(x.hand m).P o=x.P o++gh x.s.most m:=by
 simp only[Sys.P,Sys.hand,Sr.hand];rw[aq7 h,tS];simp[fl]
def oy{o n:Nat}(h:x.st o<=x.s.msgs.length)(hn:n<=(x.P o).length):((x.hand m).P o).take n=(x.P o).take n:=by
 rw[Ca h,ai1 hn]
def D7(c:Oo x){o:Nat}(h:o<=x.s.op):(x.hand m).en o=x.en o:=by
 unfold Sys.en;rw[show(x.hand m).st=x.st from rfl,show(x.hand m).tk=x.tk from rfl,oy (c.sl o h) (c.tl o)]
def CI(c:Oo x){o:Nat}(h:o<=x.s.op):(x.hand m).run o=x.run o:=by
 unfold Sys.run;rw[show(x.hand m).st=x.st from rfl,show(x.hand m).tk=x.tk from rfl,oy (c.sl o h) (c.tl o)];have hk:=pr x.s.most (x.s.msgs.drop (x.st o)) (x.tk o);rw[show(x.hand m).s.msgs=x.s.msgs++[m] from rfl,aq7 (c.sl o h),ai1];exact hk
def iS{α β:Type}{l:List α}{f g:α->List β}(h:∀a,a∈l->f a=g a):l.flatMap f=l.flatMap g:=by
 induction l with
 |nil=>rfl
 |cons a r ih=>rw[ap0,ap0,h a (by simp),ih fun b hb=>h b (aa9 _ hb)]
def yM(v:Iv x)(m:Iu):Iv (x.hand m)/\(x.hand m).con = { x.con with s:=x.s.hand m }:=by
 obtain⟨c,t,b⟩:=v;have hP:∀o,o<=x.s.op->(x.hand m).P o=x.P o++gh x.s.most m:=fun o h=>Ca (c.sl o h)
 have hPl:∀o,o<=x.s.op->(x.P o).length<=((x.hand m).P o).length:=fun o h=>by rw[hP o h,aa8];omega
 have hT:∀o n,o<=x.s.op->n<=(x.P o).length->((x.hand m).P o).take n=(x.P o).take n:=fun o n h hn=>oy (c.sl o h) hn
 have O4:x.h.nx<=(x.P x.h.op).length:=by rw[c.hn];exact c.tl _
 have hbl:x.s.base<=(x.P x.s.op).length:=ab5 c.bt (c.tl _);refine⟨⟨?_,?_,?_⟩,?_⟩
 ·refine⟨c.w0,c.ww,?_,c.OK,?_,?_,?_,c.s0,c.bt,c.tw,?_,c.tz,c.t0,c.ho,c.hz,c.hn,c.hl,?_,c.hd,?_,?_,c.ek,c.n0⟩
  ·intro hs;obtain⟨h1,h2⟩:=c.ps hs;refine⟨?_,h2⟩;show(if x.s.st=.IQ then x.s.ps else x.s.ps++gh x.s.most m)=_;rw[ab1 (show ¬x.s.st=.IQ from hs),show(x.hand m).s.op=x.s.op from rfl,hP _ (aa1 _),h1]
  ·show x.s.sure=x.st x.s.op+HI (((x.hand m).P x.s.op).take x.s.base);rw[hT _ _ (aa1 _) hbl];exact c.su
  ·intro o ho;have:=c.sl o ho;show x.st o<=(x.s.msgs++[m]).length;rw[aa8];omega
  ·intro o h1 h2;obtain⟨o',h3,h4⟩:=c.ch o h1 h2;exact⟨o',h3,by rw[D7 c (by have:o<=x.s.op:=h2;omega)];exact h4⟩
  ·intro o;by_cases ho:o<=x.s.op
   ·exact ab5 (c.tl o) (hPl o ho)
   ·show x.tk o<=_;rw[c.tz o (by omega)];exact ae7 _
  ·intro e he;obtain⟨h1,h2⟩:=c.he e he;refine⟨?_,h2⟩;show((x.hand m).P x.h.op)[e.1]?=_;rw[hP _ c.ho,ab4 (aa2.mp h1).1];exact h1
  ·show x.h.begun=(QO (((x.hand m).P x.h.op).take x.h.nx)).2;rw[hT _ _ c.ho O4];exact c.hb
  ·show x.h.given=(range (x.s.op+1)).flatMap (x.hand m).run;rw[c.hg];exact iS fun o ho=>(CI c (by have:=ah3.mp ho;omega)).symm
 ·refine⟨t.so,t.bd,t.bo,t.rt,t.rh,t.re,?_,t.r3,t.r4,t.r6,t.r7⟩;intro o i h;have:=(t.bd _ h).2;have ho:o<=x.s.op:=by simp only[TC.rank] at this;omega
  exact ac1 (t.r2 o i h) (hPl o ho)
 ·exact⟨b.bb,b.bn,b.bp,b.m1,b.m2,b.m4,b.nh,b.nd⟩
 ·unfold Sys.con;refine congr (congr (am1 (Cw.mk (x.s.hand m)) rfl) ?_) rfl;refine ag0 fun a ha=>?_
  cases a with
  |A_ o=>rfl
  |data o i=>
   have h2:=(t.bd _ ha).2;have ho:o<=x.s.op:=by simp only[TC.rank] at h2;omega
   show x_.data o (i % (2 * x.s.w)) (((x.hand m).P o).getD i (0,[]))=x_.data o (i % (2 * x.s.w)) ((x.P o).getD i (0,[]));rw[hP o ho];have hi:=t.r2 o i ha;simp[getD,ab4 hi]
def Sys.anew(x:Sys):Sys:={ x with s:=x.s.anew,st:=fun o=>if o=x.s.op+1 then x.s.sure else x.st o }
def lX{o:Nat}(h:o<=x.s.op):x.anew.st o=x.st o:=ab1 (by omega)
def mz{o:Nat}(h:o<=x.s.op):x.anew.P o=x.P o:=by
 unfold Sys.P;rw[lX h];rfl
def zp{o:Nat}(h:o<=x.s.op):x.anew.en o=x.en o:=by
 unfold Sys.en;rw[lX h,mz h];rfl
def CB{o:Nat}(h:o<=x.s.op):x.anew.run o=x.run o:=by
 unfold Sys.run;rw[lX h,mz h];rfl
def ED(c:Oo x){o:Nat}(h:o<=x.s.op):x.en o<=x.s.msgs.length:=by
 have h1:=c.sl o h;have h2:=pr x.s.most (x.s.msgs.drop (x.st o)) (x.tk o);rw[ae8] at h2;unfold Sys.en Sys.P;omega
def Do(c:Oo x):x.s.sure<=x.en x.s.op:=by
 rw[c.su];unfold Sys.en;have:=rW (x.P x.s.op) c.bt;omega
def yQ(v:Iv x):Iv x.anew/\x.anew.con = { x.con with s:=x.s.anew }:=by
 obtain⟨c,t,b⟩:=v;have NQ:x.anew.s.op=x.s.op+1:=rfl;have Jl:x.anew.st (x.s.op+1)=x.s.sure:=ab2 rfl;have hle:=ED c (aa1 x.s.op);have hsu:=Do c;have Mp:x.h.op≠x.s.op+1:=by have:=c.ho;omega
 refine⟨⟨?_,?_,?_⟩,?_⟩
 ·refine⟨c.w0,c.ww,?_,?_,?_,?_,?_,?_,ae7 _,?_,?_,?_,c.t0,an4 c.ho,c.hz,c.hn,c.hl,?_,c.hd,?_,?_,fun h=>absurd h Mp,fun h=>absurd h (Nat.succ_ne_zero _)⟩
  ·intro _;refine⟨?_,Nat.le_add_left _ _⟩;show(x.s.msgs.drop x.s.sure).flatMap (gh x.s.most)=fl x.s.most (x.s.msgs.drop (x.anew.st (x.s.op+1)));rw[Jl];rfl
  ·exact fun _=>⟨rfl,rfl,c.tz _ (ag2 _),fun h=>absurd h Mp⟩
  ·show x.s.sure=x.anew.st (x.s.op+1)+HI ((x.anew.P (x.s.op+1)).take 0);rw[Jl];rfl
  ·intro o ho;by_cases h:o<=x.s.op
   ·rw[lX h];exact c.sl o h
   ·have:o=x.s.op+1:=by have:o<=x.s.op+1:=ho;omega
    rw[this,Jl];exact ab5 hsu hle
  ·intro o h1 h2;by_cases h:o<=x.s.op
   ·obtain⟨o',h3,h4⟩:=c.ch o h1 h;exact⟨o',h3,by rw[lX h,zp (by omega)];exact h4⟩
   ·have:o=x.s.op+1:=by have:o<=x.s.op+1:=h2;omega
    refine⟨x.s.op,by omega,?_⟩;rw[this,Jl,zp (aa1 _)];exact hsu
  ·rw[lX (ae7 _)];exact c.s0
  ·show x.tk (x.s.op+1)<=0+x.s.w;rw[c.tz _ (ag2 _)];exact ae7 _
  ·intro o;by_cases h:o<=x.s.op
   ·rw[mz h];exact c.tl o
   ·show x.tk o<=_;rw[c.tz o (by omega)];exact ae7 _
  ·intro o ho;exact c.tz o (by have:x.s.op+1<o:=ho;omega)
  ·intro e he;rw[show x.anew.h=x.h from rfl,mz c.ho];exact c.he e he
  ·rw[show x.anew.h=x.h from rfl,mz c.ho];exact c.hb
  ·show x.h.given=(range (x.s.op+1+1)).flatMap x.anew.run;rw[at0,ak7,c.hg];have e1:x.anew.run (x.s.op+1)=[]:=by
    unfold Sys.run;rw[show x.anew.tk (x.s.op+1)=0 from c.tz _ (ag2 _)];simp[HI]
   rw[ap0,e1,List.flatMap_nil,ae4,ae4];exact iS fun o ho=>(CB (by have:=ah3.mp ho;omega)).symm
 ·have Wb:∀cc,cc∈x.T->cc.rank<=2 * x.s.op+1:=fun cc h=>(t.bd cc h).2
  have opl:∀cc:TC,2 * cc.op<=cc.rank:=fun cc=>by cases cc<;>simp[TC.op,TC.rank]
  refine⟨t.so,?_,?_,t.rt,t.rh,t.re,?_,t.r3,t.r4,t.r6,?_⟩
  ·exact fun cc h=>⟨(t.bd cc h).1,by have:=Wb cc h;show cc.rank<=2 * (x.s.op+1)+1;omega⟩
  ·exact fun _ cc h=>by have:=Wb cc h;show cc.rank<=2 * (x.s.op+1);omega
  ·intro o i h;have h2:=Wb _ h;have ho:o<=x.s.op:=by simp only[TC.rank] at h2;omega
   rw[mz ho];exact t.r2 o i h
  ·intro i h;have h2:=Wb _ h;simp only[TC.rank,NQ] at h2;omega
 ·have Wc:∀j bs,¬BC.note (x.s.op+1) j bs∈x.B:=fun j bs h=>by
   have h2:=(b.bb _ h).2;simp only[BC.op] at h2;omega
  refine⟨fun cc h=>⟨(b.bb cc h).1,an4 (b.bb cc h).2⟩,fun j bs h=>absurd h (Wc j bs),?_,fun h=>absurd h Mp,fun k hk=>?_,fun j bs h=>absurd h (Wc j bs),fun _=>Wc,fun _=>rfl⟩
  ·refine an5 (fun {a a'} ha _ _=>?_) b.bp;intro j bs j' ML e1 _;rw[e1] at ha;exact absurd ha (Wc j bs)
  ·have:k∈([]:ax4):=hk;simp at this
 ·unfold Sys.con;refine congr (congr (am1 (Cw.mk x.s.anew) rfl) ?_) rfl;refine ag0 fun a ha=>?_
  cases a with
  |A_ o=>rfl
  |data o i=>
   have h2:=(t.bd _ ha).2;have ho:o<=x.s.op:=by simp only[TC.rank] at h2;omega
   show x_.data o (i % (2 * x.s.w)) ((x.anew.P o).getD i (0,[]))=x_.data o (i % (2 * x.s.w)) ((x.P o).getD i (0,[]));rw[mz ho]
def Sys.N8(x:Sys):Sys:={ x with s:=x.s.Ik }
def wW(v:Iv x):Iv x.N8/\x.N8.con = { x.con with s:=x.s.Ik }:=by
 obtain⟨c,t,b⟩:=v;refine⟨⟨⟨c.w0,c.ww,fun h=>absurd rfl h,fun h=>(by cases h),c.su,c.sl,c.ch,c.s0,c.bt,c.tw,c.tl,c.tz,c.t0,c.ho,c.hz,c.hn,c.hl,c.he,c.hd,c.hb,c.hg,c.ek,c.n0⟩,
  ⟨t.so,t.bd,fun h=>(by cases h),t.rt,t.rh,t.re,t.r2,t.r3,t.r4,t.r6,t.r7⟩,⟨b.bb,b.bn,b.bp,b.m1,b.m2,b.m4,fun h=>b.nh (h.elim .inl fun e=>(by cases e)),b.nd⟩⟩,rfl⟩
def Sys.Mg(x:Sys):Sys:={ x with h:=x.h.Ik }
def wX(v:Iv x):Iv x.Mg/\x.Mg.con = { x.con with h:=x.h.Ik }:=by
 obtain⟨c,t,b⟩:=v;refine⟨⟨⟨c.w0,c.ww,c.ps,fun e=>⟨(c.OK e).1,(c.OK e).2.1,(c.OK e).2.2.1,fun _=>rfl⟩,c.su,c.sl,c.ch,c.s0,c.bt,c.tw,c.tl,c.tz,c.t0,ae7 _,fun _=>rfl,c.t0.symm,fun h=>absurd rfl h,?_,nodup_nil,rfl,c.hg,?_,c.n0⟩,
  ⟨t.so,t.bd,t.bo,t.rt,fun cc _=>ae7 _,fun h=>absurd rfl h,t.r2,t.r3,?_,t.r6,t.r7⟩,⟨b.bb,b.bn,b.bp,?_,b.m2,b.m4,b.nh,b.nd⟩⟩,rfl⟩
 ·intro e he;have:e∈([]:List (Nat×Pc)):=he;simp at this
 ·intro _ e he;have:e∈([]:List (Nat×Pc)):=he;simp at this
 ·intro i h;have:=(t.bd _ h).1;have h0:x.Mg.h.op=0:=rfl;simp only[TC.op,h0] at this;omega
 ·intro h0;have h0':x.s.op=0:=h0.symm;refine⟨fun k hk=>?_,fun j bs k hj _=>?_⟩
  ·have hk':k∈x.s.Hu:=hk;rw[c.n0 h0'] at hk';simp at hk'
  ·have:=(b.bb _ hj).1;simp only[BC.op] at this;have hj2:x.Mg.s.op=x.s.op:=rfl;omega
end
section
variable{x:Sys}
def Sys.K0(x:Sys)(T:List TC):Sys:={ x with T:=T }
def Sys.setB(x:Sys)(B:List BC):Sys:={ x with B:=B }
def pV(t:Ve x){T:List TC}(hm:∀c,c∈T->c∈x.T)(so:T.Pairwise fun a b=>a.rank<=b.rank)(r6:T.Pairwise fun a b=>∀o i j,a=TC.data o i->b=TC.data o j->i<j+x.s.w):Ve (x.K0 T):=
 ⟨so,fun c h=>t.bd c (hm c h),fun q c h=>t.bo q c (hm c h),fun o q c h=>t.rt o q c (hm c h),fun c h=>t.rh c (hm c h),fun q c h=>t.re q c (hm c h),fun o i h=>t.r2 o i (hm _ h),fun o i h h'=>t.r3 o i (hm _ h) (hm _ h'),
  fun i h=>t.r4 i (hm _ h),r6,fun i h=>t.r7 i (hm _ h)⟩
def pX(b:Tg x){B:List BC}(hm:∀c,c∈B->c∈x.B)(bp:B.Pairwise fun a b=>∀j bs j' ML,a=BC.note x.s.op j bs->b=BC.note x.s.op j' ML->j<=j'/\¬mk j bs j'):Tg (x.setB B):=
 ⟨fun c h=>b.bb c (hm c h),fun j bs h=>b.bn j bs (hm _ h),bp,fun q=>⟨(b.m1 q).1,fun j bs k h=>(b.m1 q).2 j bs k (hm _ h)⟩,fun k hk=>⟨(b.m2 k hk).1,fun j bs h=>(b.m2 k hk).2 j bs (hm _ h)⟩,fun j bs h=>b.m4 j bs (hm _ h),fun q j bs h=>b.nh q j bs (hm _ h),b.nd⟩
def wR(c:Oo x)(T:List TC):Oo (x.K0 T):=⟨c.w0,c.ww,c.ps,c.OK,c.su,c.sl,c.ch,c.s0,c.bt,c.tw,c.tl,c.tz,c.t0,c.ho,c.hz,c.hn,c.hl,c.he,c.hd,c.hb,c.hg,c.ek,c.n0⟩
def tW(c:Oo x)(B:List BC):Oo (x.setB B):=⟨c.w0,c.ww,c.ps,c.OK,c.su,c.sl,c.ch,c.s0,c.bt,c.tw,c.tl,c.tz,c.t0,c.ho,c.hz,c.hn,c.hl,c.he,c.hd,c.hb,c.hg,c.ek,c.n0⟩
def wA(b:Tg x)(T:List TC)(hm:TC.A_ x.s.op∈T->TC.A_ x.s.op∈x.T\/x.s.st=.opening/\x.s.Hu=[]):Tg (x.K0 T):=
 ⟨b.bb,b.bn,b.bp,b.m1,b.m2,b.m4,fun q=>b.nh (q.elim (fun h=>(hm h).elim .inl fun e=>.inr e.1) .inr),fun h=>(hm h).elim b.nd fun e=>e.2⟩
def tJ(t:Ve x)(B:List BC):Ve (x.setB B):=⟨t.so,t.bd,t.bo,t.rt,t.rh,t.re,t.r2,t.r3,t.r4,t.r6,t.r7⟩
def dup{α:Type}(l:List α)(k:Nat):List α:=l.take (k+1)++l.drop k
def jo{α:Type}{l:List α}{k:Nat}{a:α}(h:a∈dup l k):a∈l:=by
 rcases ab0.mp h with h|h
 ·exact aj9 h
 ·exact al5 h
def yD{α β:Type}(f:α->β)(l:List α)(k:Nat):dup (l.map f) k=(dup l k).map f:=by simp[dup]
def ko{α:Type}{R:α->α->Prop}{l:List α}(h:l.Pairwise R)(hr:∀a,a∈l->R a a):∀k,(dup l k).Pairwise R:=by
 induction l with
 |nil=>intro k;simp[dup]
 |cons a r ih=>
  intro k;obtain⟨h1,h2⟩:=ae1.mp h;cases k with
  |zero=>
   show(a :: ([]++a :: r)).Pairwise R;rw[ar9];exact ae1.mpr ⟨fun b hb=>(ac7.mp hb).elim (fun e=>e ▸ hr a (by simp)) (h1 b),h⟩
  |succ k=>
   show(a :: dup r k).Pairwise R;exact ae1.mpr ⟨fun b hb=>h1 b (jo hb),ih h2 (fun b hb=>hr b (aa9 _ hb)) k⟩
theorem lZ{α β:Type}(f:α->β):∀(l:List α) (k:Nat),(l.map f).eraseIdx k=(l.eraseIdx k).map f
 |[],_=>rfl
 |_ :: _,0=>rfl
 |a :: r,k+1=>by
  show f a :: (r.map f).eraseIdx k=f a :: (r.eraseIdx k).map f;rw[lZ f r k]
def wP(v:Iv x)(k:Nat):Iv (x.K0 (x.T.eraseIdx k))/\(x.K0 (x.T.eraseIdx k)).con = { x.con with T:=x.con.T.eraseIdx k }:=by
 have hs:(x.T.eraseIdx k).Sublist x.T:=List.eraseIdx_sublist ..;refine⟨⟨wR v.c _,pV v.t (fun c h=>hs.subset h) (v.t.so.sublist hs) (v.t.r6.sublist hs),wA v.b _ fun h=>.inl (hs.subset h)⟩,?_⟩;unfold Sys.con;simp only[Sys.K0];refine congr (congr rfl ?_) rfl;show(x.T.eraseIdx k).map x.cT=(x.T.map x.cT).eraseIdx k;exact(lZ ..).symm
def wQ(v:Iv x)(k:Nat):Iv (x.setB (x.B.eraseIdx k))/\(x.setB (x.B.eraseIdx k)).con = { x.con with B:=x.con.B.eraseIdx k }:=by
 have hs:(x.B.eraseIdx k).Sublist x.B:=List.eraseIdx_sublist ..;refine⟨⟨tW v.c _,tJ v.t _,pX v.b (fun c h=>hs.subset h) (v.b.bp.sublist hs)⟩,?_⟩;unfold Sys.con;simp only[Sys.setB];refine congr rfl ?_;show(x.B.eraseIdx k).map x.cB=(x.B.map x.cB).eraseIdx k;exact(lZ ..).symm
def y3(v:Iv x)(k:Nat):Iv (x.K0 (dup x.T k))/\(x.K0 (dup x.T k)).con = { x.con with T:=dup x.con.T k }:=by
 refine⟨⟨wR v.c _,pV v.t (fun c h=>jo h) (ko v.t.so (fun a _=>aa1 _) k) (ko v.t.r6 (fun a _ o i j e1 e2=>?_) k),wA v.b _ fun h=>.inl (jo h)⟩,?_⟩
 ·rw[e1] at e2;cases e2;have:=v.c.w0;omega
 ·unfold Sys.con;simp only[Sys.K0];refine congr (congr rfl ?_) rfl;exact(yD x.cT x.T k).symm
def zg(v:Iv x)(k:Nat):Iv (x.setB (dup x.B k))/\(x.setB (dup x.B k)).con = { x.con with B:=dup x.con.B k }:=by
 refine⟨⟨tW v.c _,tJ v.t _,pX v.b (fun c h=>jo h) (ko v.b.bp (fun a ha j bs j' ML e1 e2=>?_) k)⟩,?_⟩
 ·rw[e1] at e2;cases e2;rw[e1] at ha;exact⟨aa1 _,v.b.m4 j bs ha⟩
 ·unfold Sys.con;simp only[Sys.setB];refine congr rfl ?_;exact(yD x.cB x.B k).symm
def Sys.Mh(x:Sys):List TC:=match x.s.st with
 |.IQ=>[]
 |.opening=>[.A_ x.s.op]
 |.opened=>x.s.wanted.map fun i=>.data x.s.op i
def d4{s:Sr}{i:Nat}(h:i∈s.wanted):s.base<=i/\i<s.base+s.w/\i<s.ps.length/\i∉s.Hu:=by
 unfold Sr.wanted at h;obtain⟨h1,h2⟩:=ad3.mp h;obtain⟨h3,h4⟩:=List.mem_range'_1.mp h1;refine⟨h3,by omega,by omega,by simpa using h2⟩
def dq{α:Type}{R:α->α->Prop}{a b:List α}(ha:a.Pairwise R)(hb:b.Pairwise R)(h:∀x,x∈a->∀y,y∈b->R x y):(a++b).Pairwise R:=List.pairwise_append.mpr ⟨ha,hb,h⟩
def zz(v:Iv x):Iv (x.K0 (x.T++x.Mh))/\(x.K0 (x.T++x.Mh)).con = { x.con with T:=x.con.T++x.s.tick }:=by
 obtain⟨c,t,b⟩:=v;have Je:∀a,a∈x.Mh->(x.s.st=.opening/\a=.A_ x.s.op/\1<=x.s.op)\/(x.s.st=.opened/\1<=x.s.op/\x.s.ps=x.P x.s.op/\∃i,a=.data x.s.op i/\i∈x.s.wanted):=by
  intro a ha;unfold Sys.Mh at ha;cases e:x.s.st with
  |IQ=>rw[e] at ha;simp at ha
  |opening=>
   rw[e] at ha;simp at ha;exact .inl ⟨rfl,ha,(c.ps (by rw[e];simp)).2⟩
  |opened=>
   rw[e] at ha;obtain⟨i,hi,rfl⟩:=ab6.mp ha;obtain⟨h1,h2⟩:=c.ps (by rw[e];simp);exact .inr ⟨rfl,h2,h1,i,rfl,hi⟩
 refine⟨⟨wR c _,?_,wA b _ fun h=>?_⟩,?_⟩
 rotate_left
 ·rcases ab0.mp h with h|h
  ·exact .inl h
  ·rcases Je _ h with ⟨e,_,_⟩|⟨_,_,_,i,q,_⟩
   ·exact .inr ⟨e,(c.OK e).2.1⟩
   ·cases q
 rotate_right
 ·have rk:∀a,a∈x.Mh->2 * x.s.op<=a.rank/\a.rank<=2 * x.s.op+1/\a.op=x.s.op/\1<=x.s.op:=by
   intro a ha;rcases Je a ha with ⟨_,rfl,h⟩|⟨_,h,_,i,rfl,_⟩<;>simp[TC.rank,TC.op,h]
  have hi0:TC.A_ x.s.op∈x.T->x.tk x.s.op=0:=fun h=>by
   cases e:x.tk x.s.op with
   |zero=>rfl
   |succ n=>
    have:=t.rt x.s.op (by omega) _ h;simp only[TC.rank] at this;omega
  refine⟨?_,?_,?_,?_,?_,?_,?_,?_,?_,?_,?_⟩
  ·refine dq t.so ?_ ?_
   ·refine an5 (R:=fun _ _=>True) ?_ (by simp[ap1]);intro a a' ha Pn _;rcases Je a ha with ⟨e,rfl,_⟩|⟨e,_,_,i,rfl,_⟩<;>rcases Je a' Pn with ⟨e',rfl,_⟩|⟨e',_,_,i',rfl,_⟩<;>simp_all [TC.rank]
   ·intro a ha a' Pn;rcases Je a' Pn with ⟨e,rfl,_⟩|⟨e,_,_,i,rfl,_⟩
    ·exact t.bo e a ha
    ·exact(t.bd a ha).2
  ·intro a ha;rcases ab0.mp ha with ha|ha
   ·exact t.bd a ha
   ·obtain⟨h1,h2,h3,h4⟩:=rk a ha;exact⟨by rw[h3];exact h4,h2⟩
  ·intro e a ha;rcases ab0.mp ha with ha|ha
   ·exact t.bo e a ha
   ·rcases Je a ha with ⟨_,rfl,_⟩|⟨e',_⟩
    ·exact aa1 _
    ·have e2:x.s.st=.opening:=e;rw[e2] at e';cases e'
  ·intro o ho a ha;rcases ab0.mp ha with ha|ha
   ·exact t.rt o ho a ha
   ·have hle:o<=x.s.op:=ap6 fun h=>by have:=c.tz o h;have:0<x.tk o:=ho;omega
    rcases Je a ha with ⟨e,rfl,_⟩|⟨e,_,_,i,rfl,_⟩
    ·have:=(c.OK e).2.2.1;have Mp:o≠x.s.op:=fun q=>by rw[q] at ho;have:0<x.tk x.s.op:=ho;omega
     simp only[TC.rank];omega
    ·simp only[TC.rank];omega
  ·intro a ha;rcases ab0.mp ha with ha|ha
   ·exact t.rh a ha
   ·have h1:=(rk a ha).1;have h2:=c.ho;show 2 * x.h.op<=_;omega
  ·intro he a ha;rcases ab0.mp ha with ha|ha
   ·exact t.re he a ha
   ·have O0:x.h.early≠[]:=he;show 2 * x.h.op+1<=_;have h2:=c.ho;rcases Je a ha with ⟨e,rfl,_⟩|⟨e,_,_,i,rfl,_⟩
    ·by_cases hq:x.h.op=x.s.op
     ·exact absurd ((c.OK e).2.2.2 hq) O0
     ·simp only[TC.rank];omega
    ·simp only[TC.rank];omega
  ·intro o i ha;rcases ab0.mp ha with ha|ha
   ·exact t.r2 o i ha
   ·rcases Je _ ha with ⟨e,q,_⟩|⟨e,_,hp,i',q,hi⟩
    ·cases q
    ·cases q;have:=(d4 hi).2.2.1;rw[hp] at this;exact this
  ·intro o i h1 h2;rcases ab0.mp h2 with h2|h2
   ·rcases ab0.mp h1 with h1|h1
    ·exact t.r3 o i h1 h2
    ·rcases Je _ h1 with ⟨e,q,_⟩|⟨e,_,_,i',q,_⟩
     ·cases q;have:=t.bo e _ h2;simp only[TC.rank] at this;omega
     ·cases q
   ·rcases Je _ h2 with ⟨e,q,_⟩|⟨e,_,_,i',q,hi⟩
    ·cases q
    ·cases q;have hw:=d4 hi;rcases ab0.mp h1 with h1|h1
     ·have hb:=c.bt;rw[hi0 h1] at hb;show i<x.s.w;omega
     ·rcases Je _ h1 with ⟨e',_,_⟩|⟨_,_,_,i',q,_⟩
      ·rw[e] at e';cases e'
      ·cases q
  ·intro i h;rcases ab0.mp h with h|h
   ·exact t.r4 i h
   ·rcases Je _ h with ⟨e,q,_⟩|⟨e,_,_,i',q,hi⟩
    ·cases q
    ·have q':TC.data x.h.op i=TC.data x.s.op i':=q
     injection q' with q1 q2
     subst q2;have hw:=d4 hi;have XG:=c.hn;rw[q1] at XG;have h1:=c.bt;have h2:=c.tw;refine⟨?_,?_,fun e he=>?_⟩
     ·show i<x.h.nx+x.s.w;omega
     ·show x.h.nx<=i+x.s.w;omega
     ·have:=c.ek q1 e he;show e.1<i+x.s.w;omega
  ·refine dq t.r6 ?_ ?_
   ·refine an5 (R:=fun _ _=>True) ?_ (by simp[ap1]);intro a a' ha Pn _ o i j e1 e2;rcases Je a ha with ⟨e,q,_⟩|⟨e,_,_,i1,q,h1⟩
    ·rw[q] at e1;cases e1
    ·rcases Je a' Pn with ⟨e',q',_⟩|⟨e',_,_,i2,q',h2⟩
     ·rw[q'] at e2;cases e2
     ·rw[q] at e1;rw[q'] at e2;cases e1;cases e2;have:=d4 h1;have:=d4 h2;show i<j+x.s.w;omega
   ·intro a ha a' Pn o i j e1 e2;rcases Je a' Pn with ⟨e',q',_⟩|⟨e',_,_,i2,q',h2⟩
    ·rw[q'] at e2;cases e2
    ·rw[q'] at e2;cases e2;rw[e1] at ha;have:=t.r7 i ha;have:=d4 h2;show i<j+x.s.w;omega
  ·intro i h;rcases ab0.mp h with h|h
   ·exact t.r7 i h
   ·rcases Je _ h with ⟨e,q,_⟩|⟨e,_,_,i',q,hi⟩
    ·cases q
    ·have q':TC.data x.s.op i=TC.data x.s.op i':=q
     injection q' with q1 q2
     subst q2;exact(d4 hi).2.1
 ·unfold Sys.con;simp only[Sys.K0];refine congr (congr rfl ?_) rfl;show(x.T++x.Mh).map x.cT=x.T.map x.cT++x.s.tick;rw[ae0];congr 1;unfold Sys.Mh Sr.tick;cases e:x.s.st with
  |IQ=>rfl
  |opening=>rfl
  |opened=>
   obtain⟨h1,_⟩:=c.ps (by rw[e];simp);simp only[ah6];refine ag0 fun i _=>?_
   show x_.data x.s.op (i % (2 * x.s.w)) ((x.P x.s.op).getD i (0,[]))=x_.data x.s.op (i % (2 * x.s.w)) (x.s.ps.getD i (0,[]));rw[h1]
end
end Lw
namespace Lw
open PySem L2 DL
structure En where
 c:x_
 x:Option (List Int)
def En.xs(e:En):List Int:=match e.x with
 |none=>Jk (aA e.c)
 |some xs=>xs
def gd(c:x_):En:=⟨c,none⟩
structure WW where
 s:Sr
 h:Hr
 T:List En
 B:List En
def eP(e:En)(place:Nat)(Ki:Int):En:=match e.x with
 |some _=>e
 |none=>if Ki % 256=0 then e else ⟨e.c,some (e.xs.set (place % e.xs.length) ((e.xs.getD (place % e.xs.length) 0+Ki) % 256))⟩
def fZ(l:List En)(k place:Nat)(Ki:Int):List En:=match l[k]? with
 |some e=>l.set k (eP e place Ki)
 |none=>l
def n7(l:List En)(k:Nat):List En:=match l[k]? with
 |some e=>l.insertIdx k e
 |none=>l
inductive Act where
 |hand (m:Iu)|start|tick|step (r:Bool)|Px (r:Bool) (k:Nat)|dbl (r:Bool) (k:Nat)|Nc (r:Bool) (k place:Nat) (Ki:Int)|Ik (r:Bool)
namespace WW
def new(w most:Nat):WW:=⟨Sr.new w most,Hr.new w,[],[]⟩
def road(w:WW)(r:Bool):List En:=if r then w.T else w.B
def IA(w:WW)(r:Bool)(l:List En):WW:=if r then { w with T:=l } else { w with B:=l }
def Jx(w:WW)(r:Bool)(e:En):WW:=match e.x with
 |some _=>w
 |none=>if r then { w with h:=(w.h.k_ e.c).1,B:=w.B++(w.h.k_ e.c).2.map gd } else { w with s:=w.s.k_ e.c }
def step(w:WW)(r:Bool):WW:=match w.road r with
 |[]=>w
 |e :: l=>(w.IA r l).Jx r e
def act(w:WW):Act->WW
 |.hand m=>{ w with s:=w.s.hand m }
 |.start=>{ w with s:=w.s.start }
 |.tick=>{ w with T:=w.T++w.s.tick.map gd }
 |.step r=>w.step r
 |.Px r k=>w.IA r ((w.road r).eraseIdx k)
 |.dbl r k=>w.IA r (n7 (w.road r) k)
 |.Nc r k place Ki=>w.IA r (fZ (w.road r) k place Ki)
 |.Ik r=>if r then { w with s:=w.s.Ik } else { w with h:=w.h.Ik }
end WW
def Rg(m:Iu):Prop:=∀x,x∈m->0<=x/\x<=255
def PO(N:Nat)(e:En):Prop:=LP e.c/\e.c.IL<=N/\e.xs.length<=100/\∀xs,e.x=some xs->∀c,LP c->Jk (aA c)≠xs
structure JO(N:Nat)(w:WW):Prop where
 sb:Sb N w.s
 bl:Bl w.s
 w0:0<w.s.w
 w7:w.s.w<=7
 m8:w.s.most<=8
 hw:w.h.w=w.s.w
 bd:Bd N w.h
 op:w.s.op<=N
 ho:w.h.op<=N
 gk:∀m,m∈w.s.msgs->Rg m
 pk:∀p,p∈w.s.ps->p.2.length<=8/\Rg p.2
 tk:∀e,e∈w.T->PO N e
 bk:∀e,e∈w.B->PO N e
 tl:w.T.length<=8 * N
 ql:w.B.length<=8 * N
def PO.mono{N M:Nat}{e:En}(h:PO N e)(hm:N<=M):PO M e:=⟨h.1,ab5 h.2.1 hm,h.2.2⟩
def vT{N:Nat}{c:x_}(h:LP c)(ho:c.IL<=N):PO N (gd c):=by
 have:=gc h;refine⟨h,ho,?_,fun xs z=>by cases z⟩;show(Jk (aA c)).length<=100;rw[nD];omega
def JO.mono{N M:Nat}{w:WW}(a:JO N w)(h:N<=M):JO M w:=
 ⟨a.sb.mono h,a.bl,a.w0,a.w7,a.m8,a.hw,a.bd.mono h,ab5 a.op h,ab5 a.ho h,a.gk,a.pk,fun e he=>(a.tk e he).mono h,fun e he=>(a.bk e he).mono h,by have:=a.tl;omega,by have:=a.ql;omega⟩
theorem qp{k:Nat}:∀(n:Nat) (m:Iu),m.length<=n->1<=k->∀p,p∈oA k n m->p.2.length<=k/\∀x,x∈p.2->x∈m
 |0,m,hm,hk,p,hp=>by
  have:m=[]:=aq5 (by omega);subst this;simp[oA] at hp;subst hp;simp
 |n+1,m,hm,hk,p,hp=>by
  unfold oA at hp;split at hp
  ·rcases ac7.mp hp with rfl|hp
   ·exact⟨by rw[ad7];omega,fun x hx=>aj9 hx⟩
   ·have:=qp n (m.drop k) (by rw[ae8];omega) hk p hp;exact⟨this.1,fun x hx=>al5 (this.2 x hx)⟩
  ·simp at hp;subst hp;exact⟨by show m.length<=k;omega,fun x hx=>hx⟩
def zv{k:Nat}(hk:1<=k)(h8:k<=8){m:Iu}(hm:m.length<=40)(ho:Rg m):∀p,p∈gh k m->p.2.length<=8/\Rg p.2:=fun p hp=>by
 have:=qp 100 m (by omega) hk p hp;exact⟨by omega,fun x hx=>ho x (this.2 x hx)⟩
section
variable{N:Nat}{w:WW}
def D5{a b:Nat}(h1:0<a)(h2:a<=7)(h3:1<=b)(h4:b<=8):JO 0 (WW.new a b):=by
 refine⟨⟨h3,by simp[WW.new,Sr.new],by simp[WW.new,Sr.new],by simp[WW.new,Sr.new],by simp[WW.new,Sr.new],by simp[WW.new,Sr.new]⟩,ae7 _,h1,h2,h4,rfl,⟨by simp[WW.new,Hr.new],by simp[WW.new,Hr.new],by simp[WW.new,Hr.new]⟩,aa1 _,aa1 _,by simp[WW.new,Sr.new],by simp[WW.new,Sr.new],by simp[WW.new],by simp[WW.new],by simp[WW.new],by simp[WW.new]⟩
def Cl(a:JO N w){m:Iu}(hm:m.length<=40)(ho:Rg m):JO (N+1) (w.act (.hand m)):=by
 have a':=a.mono (ad9 N);refine⟨a.sb.hand hm,a.bl.hand m,a.w0,a.w7,a.m8,a.hw,a'.bd,a'.op,a'.ho,fun y hy=>?_,fun p hp=>?_,a'.tk,a'.bk,a'.tl,a'.ql⟩
 ·rcases ab0.mp (show y∈w.s.msgs++[m] from hy) with hy|hy
  ·exact a.gk y hy
  ·rw[ab3.mp hy];exact ho
 ·have hp':p∈(if w.s.st=.IQ then w.s.ps else w.s.ps++gh w.s.most m):=hp;split at hp'
  ·exact a.pk p hp'
  ·rcases ab0.mp hp' with hp'|hp'
   ·exact a.pk p hp'
   ·exact zv a.sb.most a.m8 hm ho p hp'
def yO(a:JO N w):∀p,p∈w.s.anew.ps->p.2.length<=8/\Rg p.2:=fun p hp=>by
 obtain⟨m,hm,hp⟩:=au6.mp (show p∈(w.s.msgs.drop w.s.sure).flatMap (gh w.s.most) from hp);have hm':=al5 hm;exact zv a.sb.most a.m8 (a.sb.QP m hm') (a.gk m hm') p hp
def z8(a:JO N w):JO (N+1) (w.act .start):=by
 have a':=a.mono (ad9 N);by_cases h:w.s.st=.IQ
 ·have e:w.act .start = { w with s:=w.s.anew }:=by show({ w with s:=w.s.start }:WW)=_;unfold Sr.start;rw[ab2 h]
  have hb:Sb (N+1) w.s.anew:=by
   have:=(a.sb.start (s:=w.s)).mono (ad9 N);unfold Sr.start at this;rw[ab2 h] at this;exact this
  rw[e];exact⟨hb,Bl.anew,a.w0,a.w7,a.m8,a.hw,a'.bd,by have:=a.op;show w.s.op+1<=_;omega,a'.ho,a.gk,yO a,a'.tk,a'.bk,a'.tl,a'.ql⟩
 ·have e:w.act .start=w:=by show({ w with s:=w.s.start }:WW)=_;unfold Sr.start;rw[ab1 h]
  rw[e];exact a'
def xV(s:Sr):s.wanted.length<=s.w:=by
 unfold Sr.wanted;refine ab5 (ap7 _ _) ?_;rw[List.length_range'];omega
def zo(a:JO N w)(hN:N<=20000):(∀c,c∈w.s.tick->LP c/\c.IL<=N)/\w.s.tick.length<=7:=by
 have ho:=a.op;have hw:=a.w7;have h0:=a.w0;unfold Sr.tick;cases w.s.st with
 |IQ=>exact⟨fun c hc=>by simp at hc,by simp⟩
 |opening=>exact⟨fun c hc=>by simp at hc;subst hc;exact⟨(show w.s.op<=65535 by omega),ho⟩,by simp⟩
 |opened=>
  refine⟨fun c hc=>?_,by rw[aa7];have:=xV w.s;omega⟩;obtain⟨i,hi,rfl⟩:=ab6.mp hc;obtain⟨h1,h2,h3,h4⟩:=d4 hi;have Rc:w.s.ps.getD i (0,[])∈w.s.ps:=by
   rw[am5,ab9 h3];exact aw0 h3
  have hf:=a.sb.fg _ Rc;have hp:=a.pk _ Rc;have hm:=mod_lt i (show 0<2 * w.s.w by omega);exact⟨⟨by omega,by omega,by omega,hp.1,hp.2⟩,ho⟩
def AZ(a:JO N w)(hN:N<=20000):JO (N+1) (w.act .tick):=by
 have a':=a.mono (ad9 N);obtain⟨h1,h2⟩:=zo a hN;refine⟨a'.sb,a'.bl,a.w0,a.w7,a.m8,a.hw,a'.bd,a'.op,a'.ho,a.gk,a.pk,fun e he=>?_,a'.bk,?_,a'.ql⟩
 ·rcases ab0.mp (show e∈w.T++w.s.tick.map gd from he) with he|he
  ·exact a'.tk e he
  ·obtain⟨c,hc,rfl⟩:=ab6.mp he;exact(vT (h1 c hc).1 (h1 c hc).2).mono (ad9 _)
 ·show(w.T++w.s.tick.map gd).length<=_;have:=a.tl;rw[aa8,aa7];omega
def JO.rd(a:JO N w)(r:Bool):∀e,e∈w.road r->PO N e:=by
 cases r with
 |true=>exact a.tk
 |false=>exact a.bk
def JO.rl(a:JO N w)(r:Bool):(w.road r).length<=8 * N:=by
 cases r with
 |true=>exact a.tl
 |false=>exact a.ql
theorem JO.IA(a:JO N w)(r:Bool){l:List En}(h1:∀e,e∈l->PO N e)(h2:l.length<=8 * N):JO N (w.IA r l):=by
 cases r with
 |true=>exact⟨a.sb,a.bl,a.w0,a.w7,a.m8,a.hw,a.bd,a.op,a.ho,a.gk,a.pk,h1,a.bk,h2,a.ql⟩
 |false=>exact⟨a.sb,a.bl,a.w0,a.w7,a.m8,a.hw,a.bd,a.op,a.ho,a.gk,a.pk,a.tk,h1,a.tl,h2⟩
def Bs(a:JO N w)(r:Bool)(k:Nat):JO N (w.act (.Px r k)):=by
 refine a.IA r (fun e he=>a.rd r e (ai6 he)) ?_;have:=List.length_eraseIdx_le (w.road r) k;have:=a.rl r;omega
theorem lu{α:Type}:∀{l:List α}{k:Nat}{x y:α},y∈l.insertIdx k x->y=x\/y∈l
 |l,0,x,y,h=>by simpa using h
 |[],k+1,x,y,h=>by simp at h
 |z :: l,k+1,x,y,h=>by
  rw[List.insertIdx_succ_cons] at h;rcases ac7.mp h with rfl|h
  ·exact .inr ag5
  ·rcases lu h with h|h
   ·exact .inl h
   ·exact .inr (aa9 _ h)
def D3(a:JO N w)(r:Bool)(k:Nat):JO (N+1) (w.act (.dbl r k)):=by
 have a':=a.mono (ad9 N);have hl:=a.rl r;refine a'.IA r (fun e he=>?_) ?_
 ·unfold n7 at he;split at he
  ·rename_i e' h';rcases lu he with rfl|he
   ·exact a'.rd r e (af2 h')
   ·exact a'.rd r e he
  ·exact a'.rd r e he
 ·unfold n7;split
  ·exact ab5 List.length_insertIdx_le_succ (by omega)
  ·omega
def vD(a:JO N w)(hN:N<=20000){c:x_}(hc:LP c)(hcn:c.IL<=N):(∀d,d∈(w.h.k_ c).2->LP d/\d.IL<=N)/\(w.h.k_ c).2.length<=1/\(w.h.k_ c).1.op<=N:=by
 have ho:=a.ho;have hw:=a.hw;have h7:=a.w7;have h0:=a.w0;have Rh:∀h:Hr,h.op<=N->h.w=w.s.w->LP h.note/\h.note.IL<=N:=by
  intro h h1 h2;refine⟨⟨by omega,?_,?_,fun x hx=>?_⟩,h1⟩
  ·have:=mod_lt h.nx (show 0<2 * h.w by omega);omega
  ·show h.bits.length<=7;unfold Hr.bits;rw[aa7,ar5];omega
  ·obtain⟨k,_,rfl⟩:=ab6.mp (show x∈h.bits from hx);split<;>omega
 cases c with
 |A_ o=>
  have Qm:o<=65535:=hc;have Vf:o<=N:=hcn;dsimp only[Hr.k_];split
  ·exact⟨fun d hd=>by simp at hd,by simp,ho⟩
  ·split
   ·exact⟨fun d hd=>by simp at hd;subst hd;exact⟨Qm,Vf⟩,by simp,Vf⟩
   ·exact⟨fun d hd=>by simp at hd;subst hd;exact⟨Qm,Vf⟩,by simp,ho⟩
 |data o n p=>
  have Qm:=hc.1;have Vf:o<=N:=hcn;dsimp only[Hr.k_];split
  ·exact⟨fun d hd=>by simp at hd,by simp,ho⟩
  ·split
   ·exact⟨fun d hd=>by simp at hd;subst hd;exact⟨Qm,Vf⟩,by simp,ho⟩
   ·have e1:(w.h.data n p).op=w.h.op:=by
     unfold Hr.data;have t:∀(k:Nat) (h:Hr),(Hr.Hx k h).op=h.op:=by
      intro k
      induction k with
      |zero=>intro h;rfl
      |succ k ih=>
       intro h;unfold Hr.Hx;split
       ·rfl
       ·rw[ih];unfold Hr.take;split<;>rfl
     rw[t];unfold Hr.keep;split<;>rfl
    have e2:=vi w.h n p;refine⟨fun d hd=>?_,by simp,by rw[e1];exact ho⟩;simp at hd;subst hd;exact Rh _ (by rw[e1];exact ho) (by rw[e2];exact hw)
 |t_ o=>exact⟨fun d hd=>by simp[Hr.k_] at hd,by simp[Hr.k_],ho⟩
 |Ji o=>exact⟨fun d hd=>by simp[Hr.k_] at hd,by simp[Hr.k_],ho⟩
 |note o n bs=>exact⟨fun d hd=>by simp[Hr.k_] at hd,by simp[Hr.k_],ho⟩
theorem LP.Ub{c:x_}(h:LP c):Ub c:=by
 cases c with
 |data o n p=>exact ab5 h.2.2.2.1 (by decide)
 |_=>trivial
theorem LP.OI{c:x_}(h:LP c):OI c:=by
 cases c with
 |note o n bs=>exact h.2.2.1
 |_=>trivial
def nX(s:Sr)(n:Nat)(bs:ax3):(s.G_ n bs).ps=s.ps/\(s.G_ n bs).op=s.op/\(s.G_ n bs).msgs=s.msgs/\(s.G_ n bs).most=s.most:=by
 unfold Sr.G_;split
 ·have:=dr bs (s.Kg (jq n s.base s.w).toNat) 0;exact⟨this.2.2.2.2.2.2.1,this.2.2.2.2.1,this.2.2.1,this.2.1⟩
 ·exact⟨rfl,rfl,rfl,rfl⟩
def z6(a:JO N w)(c:x_):(∀p,p∈(w.s.k_ c).ps->p.2.length<=8/\Rg p.2)/\(w.s.k_ c).op<=N+1/\(w.s.k_ c).msgs=w.s.msgs/\(w.s.k_ c).most=w.s.most:=by
 have ho:=a.op;cases c with
 |t_ o=>
  dsimp only[Sr.k_];split
  ·exact⟨a.pk,by show w.s.op<=_;omega,rfl,rfl⟩
  ·exact⟨a.pk,by omega,rfl,rfl⟩
 |Ji o=>
  dsimp only[Sr.k_];split
  ·exact⟨yO a,by show w.s.op+1<=_;omega,rfl,rfl⟩
  ·exact⟨a.pk,by omega,rfl,rfl⟩
 |note o n bs=>
  dsimp only[Sr.k_];split
  ·obtain⟨e1,e2,e3,e4⟩:=nX w.s n bs;rw[e1,e2,e3,e4];exact⟨a.pk,by omega,rfl,rfl⟩
  ·exact⟨a.pk,by omega,rfl,rfl⟩
 |A_ o=>exact⟨a.pk,by show w.s.op<=_;omega,rfl,rfl⟩
 |data o n p=>exact⟨a.pk,by show w.s.op<=_;omega,rfl,rfl⟩
def xg(a:JO N w)(hN:N<=20000)(r:Bool){e:En}(he:PO N e):JO (N+1) (w.Jx r e):=by
 have a':=a.mono (ad9 N);obtain⟨c,x⟩:=e;cases x with
 |some xs=>exact a'
 |none=>
  cases r with
  |true=>
   obtain⟨k1,k2,k3⟩:=vD a hN he.1 he.2.1;refine⟨a'.sb,a'.bl,a.w0,a.w7,a.m8,(Ex w.h c).trans a.hw,a.bd.k_ he.1.Ub,a'.op,an4 k3,a.gk,a.pk,a'.tk,fun d hd=>?_,a'.tl,?_⟩
   ·rcases ab0.mp (show d∈w.B++(w.h.k_ c).2.map gd from hd) with hd|hd
    ·exact a'.bk d hd
    ·obtain⟨q,hq,rfl⟩:=ab6.mp hd;exact(vT (k1 q hq).1 (k1 q hq).2).mono (ad9 _)
   ·show(w.B++(w.h.k_ c).2.map gd).length<=_;have:=a.ql;have QQ:(w.h.k_ c).2.length<=1:=k2;rw[aa8,aa7];omega
  |false=>
   obtain⟨k1,k2,k3,k4⟩:=z6 a c;have hw:=BZ w.s c;refine⟨a.sb.k_ he.1.OI,a.bl.k_ a.w0 c,by rw[show(w.Jx false ⟨c,none⟩).s=w.s.k_ c from rfl,hw];exact a.w0,by rw[show(w.Jx false ⟨c,none⟩).s=w.s.k_ c from rfl,hw];exact a.w7,by rw[show(w.Jx false ⟨c,none⟩).s=w.s.k_ c from rfl,k4];exact a.m8,by rw[show(w.Jx false ⟨c,none⟩).s=w.s.k_ c from rfl,hw];exact a.hw,a'.bd,k2,a'.ho,fun m hm=>a.gk m (by rw[<-k3];exact hm),k1,a'.tk,a'.bk,a'.tl,a'.ql⟩
def zT(w:WW)(r:Bool)(l:List En):(w.IA r l).road r=l:=by cases r<;>rfl
def BN(a:JO N w)(hN:N<=20000)(r:Bool):JO (N+1) (w.act (.step r)):=by
 show JO (N+1) (w.step r);unfold WW.step;cases h:w.road r with
 |nil=>exact a.mono (ad9 N)
 |cons e l=>
  have h1:=a.rd r;have h2:=a.rl r;rw[h] at h1 h2;rw[ab8] at h2;exact xg (a.IA r (fun d hd=>h1 d (aa9 _ hd)) (by omega)) hN r (h1 e ag5)
def CL{e:En}(he:PO N e)(place:Nat)(Ki:Int):PO N (eP e place Ki):=by
 obtain⟨c,x⟩:=e;cases x with
 |some xs=>exact he
 |none=>
  unfold eP;dsimp only;split
  ·exact he
  ·rename_i hb;have Ox:3<=(aA c).length/\(aA c).length<=13:=gc he.1;have Tf:(⟨c,none⟩:En).xs=Jk (aA c):=rfl;have hln:=nD (aA c);refine⟨he.1,he.2.1,?_,?_⟩
   ·show(((⟨c,none⟩:En).xs).set _ _).length<=100;rw[ap4,Tf,hln];omega
   ·intro xs hx c' Uo
    injection hx with hx
    rw[<-hx,Tf];obtain⟨i,hi⟩:∃i,place % (Jk (aA c)).length=i:=⟨_,rfl⟩;have JZ:i<(Jk (aA c)).length:=by rw[<-hi];exact mod_lt _ (by omega)
    rw[hi];have KH:=AM (tZ he.1);obtain⟨a,ha⟩:∃a,(Jk (aA c))[i]?=some a:=⟨_,ab9 JZ⟩;have hga:(Jk (aA c)).getD i 0=a:=by rw[am5,ha];rfl
    rw[hga];exact FM ha (by omega) (aA c')
def zF(a:JO N w)(r:Bool)(k place:Nat)(Ki:Int):JO N (w.act (.Nc r k place Ki)):=by
 have hl:=a.rl r;refine a.IA r (fun e he=>?_) ?_
 ·unfold fZ at he;split at he
  ·rename_i e' h';rcases List.mem_or_eq_of_mem_set he with he|rfl
   ·exact a.rd r e he
   ·exact CL (a.rd r e' (af2 h')) place Ki
  ·exact a.rd r e he
 ·unfold fZ;split
  ·rw[ap4];exact hl
  ·exact hl
def Bj(a:JO N w)(r:Bool):JO N (w.act (.Ik r)):=by
 cases r with
 |true=>exact⟨a.sb.Ik,a.bl,a.w0,a.w7,a.m8,a.hw,a.bd,a.op,a.ho,a.gk,a.pk,a.tk,a.bk,a.tl,a.ql⟩
 |false=>exact⟨a.sb,a.bl,a.w0,a.w7,a.m8,a.hw,a.bd.begin_ 0,a.op,ae7 _,a.gk,a.pk,a.tk,a.bk,a.tl,a.ql⟩
def Act.ok:Act->Prop
 |.hand m=>m.length<=40/\Rg m
 |_=>True
def yV(a:JO N w)(hN:N<=20000)(t:Act)(ht:t.ok):JO (N+1) (w.act t):=by
 cases t with
 |hand m=>exact Cl a ht.1 ht.2
 |start=>exact z8 a
 |tick=>exact AZ a hN
 |step r=>exact BN a hN r
 |Px r k=>exact(Bs a r k).mono (ad9 N)
 |dbl r k=>exact D3 a r k
 |Nc r k p b=>exact(zF a r k p b).mono (ad9 N)
 |Ik r=>exact(Bj a r).mono (ad9 N)
end
structure Ad where
 n:Nat
 nS:Nat
 mS:Nat
 pS:Nat
 qS:Nat
 nH:Nat
 gH:Nat
 eH:Nat
 bH:Nat
 nR:Nat
 nT:Nat
 nB:Nat
def Ad.sf(a:Ad):List Nat:=[a.nS,a.mS,a.pS,a.qS]
def Ad.hf(a:Ad):List Nat:=[a.nH,a.gH,a.eH,a.bH]
def Ad.wf(a:Ad):List Nat:=[a.n,a.nR,a.nT,a.nB]
def Ad.fp(a:Ad):List Nat:=a.sf++a.hf++a.wf
def Ad.rn(a:Ad)(r:Bool):Nat:=if r then a.nT else a.nB
def bB(r:Bool):Str:=if r then "there" else "back"
def LW(e:En):D:=.tup [.tup (e.xs.map D.int),.bl e.x.isSome]
structure Kp(G:Cs)(S:ay4)(a:Ad)(w:WW):Prop where
 ob:S[a.n]?=some (.ins G.World u_ [.ob a.nS,.ob a.nH,.ob a.nR])
 sr:HY G S a.nS a.mS a.pS a.qS w.s
 hr:Iz G S a.nH a.gH a.eH a.bH w.h
 rd:S[a.nR]?=some (.Js [(.inr "there",.ob a.nT),(.inr "back",.ob a.nB)])
 tt:S[a.nT]?=some (.lst (w.T.map LW))
 bb:S[a.nB]?=some (.lst (w.B.map LW))
 sh:∀i,i∈a.sf->∀j,j∈a.hf->i≠j
 sw:∀i,i∈a.sf->∀j,j∈a.wf->i≠j
 hw:∀i,i∈a.hf->∀j,j∈a.wf->i≠j
 tb:a.nT≠a.nB
structure JT(G:Cs)(a:Ad)(S:ay4)(a':Ad)(S':ay4)(w':WW):Prop where
 at_:Kp G S' a' w'
 fr:Fr a.fp S S'
 nn:a'.n=a.n
 ad:∀i,i∈a'.fp->i∈a.fp\/S.length<=i
section
variable{G:Cs}{S S' S1 S2:ay4}{a a' a1 a2:Ad}{w w' w1 w2:WW}{N:Nat}
def sx{i p q r s:Nat}:i∈[p,q,r,s]↔i=p\/i=q\/i=r\/i=s:=by simp
def Kp.lt(A:Kp G S a w):∀i,i∈a.fp->i<S.length:=by
 intro i hi;simp only[Ad.fp,Ad.sf,Ad.hf,Ad.wf,ab0,sx] at hi;rcases hi with ((rfl|rfl|rfl|rfl)|(rfl|rfl|rfl|rfl))|(rfl|rfl|rfl|rfl)
 ·exact bq A.sr.ob
 ·exact bq A.sr.ms
 ·exact bq A.sr.ps
 ·exact bq A.sr.nt
 ·exact bq A.hr.ob
 ·exact bq A.hr.gv
 ·exact bq A.hr.ea
 ·exact bq A.hr.be
 ·exact bq A.ob
 ·exact bq A.rd
 ·exact bq A.tt
 ·exact bq A.bb
def Ad.Th{a:Ad}{i:Nat}(h:i∈a.sf):i∈a.fp:=by simp only[Ad.fp,ab0];exact .inl (.inl h)
def Ad.Ti{a:Ad}{i:Nat}(h:i∈a.hf):i∈a.fp:=by simp only[Ad.fp,ab0];exact .inl (.inr h)
def Ad.Ri{a:Ad}{i:Nat}(h:i∈a.wf):i∈a.fp:=by simp only[Ad.fp,ab0];exact .inr h
def HY.fr{n m p q:Nat}{s:Sr}{fp:ax4}(a:HY G S n m p q s)(f:Fr fp S S')(h:∀i,i∈[n,m,p,q]->i∉fp):HY G S' n m p q s:=
 ⟨f.get a.ob (h _ (by simp)),f.get a.ms (h _ (by simp)),f.get a.ps (h _ (by simp)),f.get a.nt (h _ (by simp)),a.mp⟩
def Kp.fr{fp:ax4}(A:Kp G S a w)(f:Fr fp S S')(h:∀i,i∈a.fp->i∉fp):Kp G S' a w:=by
 have hs:∀i,i∈a.sf->i∉fp:=fun i hi=>h i (Ad.Th hi)
 have hh:∀i,i∈a.hf->i∉fp:=fun i hi=>h i (Ad.Ti hi)
 have hw:∀i,i∈a.wf->i∉fp:=fun i hi=>h i (Ad.Ri hi)
 exact⟨f.get A.ob (hw _ (by simp[Ad.wf])),A.sr.fr f hs,A.hr.fr f (hh _ (by simp[Ad.hf])) (hh _ (by simp[Ad.hf])) (hh _ (by simp[Ad.hf])) (hh _ (by simp[Ad.hf])),f.get A.rd (hw _ (by simp[Ad.wf])),f.get A.tt (hw _ (by simp[Ad.wf])),f.get A.bb (hw _ (by simp[Ad.wf])),A.sh,A.sw,A.hw,A.tb⟩
def Kp.push(A:Kp G S a w)(c:ay4):Kp G (S++c) a w:=A.fr (fp:=[]) Fr.push fun _ _ z=>nomatch z
def JT.refl(A:Kp G S a w):JT G a S a S w:=⟨A,Fr.refl _ _,rfl,fun i hi=>.inl hi⟩
def JT.push(A:JT G a S a' S' w')(c:ay4):JT G a S a' (S'++c) w':=⟨A.at_.push c,A.fr.tr Fr.push,A.nn,A.ad⟩
def JT.trans(A:JT G a S a1 S1 w1)(C:JT G a1 S1 a2 S2 w2):JT G a S a2 S2 w2:=by
 have hl:=A.fr.1;refine⟨C.at_,A.fr.trans C.fr fun i hi hs=>?_,C.nn.trans A.nn,fun i hi=>?_⟩
 ·rcases A.ad i hi with h|h
  ·exact h
  ·omega
 ·rcases C.ad i hi with h|h
  ·exact A.ad i h
  ·exact .inr (by omega)
def Kp.snd(A:Kp G S a w){p' q':Nat}{s':Sr}(k:Jj G a.nS a.mS a.pS a.qS S p' q' S' s'):JT G a S { a with pS:=p',qS:=q' } S' { w with s:=s' }:=by
 have XH:∀i,i∈a.wf->i<S.length:=fun i hi=>A.lt i (Ad.Ri hi)
 have lth:∀i,i∈a.hf->i<S.length:=fun i hi=>A.lt i (Ad.Ti hi)
 have Je:∀i,i∈[a.nS,a.mS,p',q']->i∈a.sf\/S.length<=i:=fun i hi=>by
  have h1:=k.p_;have h2:=k.q_;simp only[sx,Ad.sf] at hi ⊢;rcases hi with rfl|rfl|rfl|rfl
  ·exact .inl (.inl rfl)
  ·exact .inl (.inr (.inl rfl))
  ·rcases h1 with rfl|h1
   ·exact .inl (.inr (.inr (.inl rfl)))
   ·exact .inr h1
  ·rcases h2 with rfl|h2
   ·exact .inl (.inr (.inr (.inr rfl)))
   ·exact .inr h2
 have ow:∀j,j∈a.wf->j∉[a.nS,a.mS,a.pS,a.qS]:=fun j hj z=>A.sw j z j hj rfl
 have oh:∀j,j∈a.hf->j∉[a.nS,a.mS,a.pS,a.qS]:=fun j hj z=>A.sh j z j hj rfl
 refine⟨⟨k.fr.get A.ob (ow _ (by simp[Ad.wf])),k.at_,A.hr.fr k.fr (oh _ (by simp[Ad.hf])) (oh _ (by simp[Ad.hf])) (oh _ (by simp[Ad.hf])) (oh _ (by simp[Ad.hf])),k.fr.get A.rd (ow _ (by simp[Ad.wf])),k.fr.get A.tt (ow _ (by simp[Ad.wf])),k.fr.get A.bb (ow _ (by simp[Ad.wf])),fun i hi j hj=>?_,fun i hi j hj=>?_,A.hw,A.tb⟩,k.fr.mono (fun i hi _=>Ad.Th hi),rfl,fun i hi=>?_⟩
 ·rcases Je i hi with h|h
  ·exact A.sh i h j hj
  ·have:=lth j hj;omega
 ·rcases Je i hi with h|h
  ·exact A.sw i h j hj
  ·have:=XH j hj;omega
 ·simp only[Ad.fp,ab0] at hi ⊢;rcases hi with (hi|hi)|hi
  ·rcases Je i hi with h|h
   ·exact .inl (.inl (.inl h))
   ·exact .inr h
  ·exact .inl (.inl (.inr hi))
  ·exact .inl (.inr hi)
def Kp.hea(A:Kp G S a w){e' b':Nat}{h':Hr}(k:IU G a.nH a.gH a.eH a.bH S e' b' S' h'):JT G a S { a with eH:=e',bH:=b' } S' { w with h:=h' }:=by
 have XH:∀i,i∈a.wf->i<S.length:=fun i hi=>A.lt i (Ad.Ri hi)
 have lts:∀i,i∈a.sf->i<S.length:=fun i hi=>A.lt i (Ad.Th hi)
 have Je:∀i,i∈[a.nH,a.gH,e',b']->i∈a.hf\/S.length<=i:=fun i hi=>by
  have h1:=k.e_;have h2:=k.b_;simp only[sx,Ad.hf] at hi ⊢;rcases hi with rfl|rfl|rfl|rfl
  ·exact .inl (.inl rfl)
  ·exact .inl (.inr (.inl rfl))
  ·rcases h1 with rfl|h1
   ·exact .inl (.inr (.inr (.inl rfl)))
   ·exact .inr h1
  ·rcases h2 with rfl|h2
   ·exact .inl (.inr (.inr (.inr rfl)))
   ·exact .inr h2
 have ow:∀j,j∈a.wf->j∉[a.nH,a.gH,a.eH,a.bH]:=fun j hj z=>A.hw j z j hj rfl
 have os:∀j,j∈a.sf->j∉[a.nH,a.gH,a.eH,a.bH]:=fun j hj z=>A.sh j hj j z rfl
 refine⟨⟨k.fr.get A.ob (ow _ (by simp[Ad.wf])),A.sr.fr k.fr os,k.at_,k.fr.get A.rd (ow _ (by simp[Ad.wf])),k.fr.get A.tt (ow _ (by simp[Ad.wf])),k.fr.get A.bb (ow _ (by simp[Ad.wf])),fun i hi j hj=>?_,A.sw,fun i hi j hj=>?_,A.tb⟩,k.fr.mono (fun i hi _=>Ad.Ti hi),rfl,fun i hi=>?_⟩
 ·rcases Je j hj with h|h
  ·exact A.sh i hi j h
  ·have:=lts i hi;omega
 ·rcases Je i hi with h|h
  ·exact A.hw i h j hj
  ·have:=XH j hj;omega
 ·simp only[Ad.fp,ab0] at hi ⊢;rcases hi with (hi|hi)|hi
  ·exact .inl (.inl (.inl hi))
  ·rcases Je i hi with h|h
   ·exact .inl (.inl (.inr h))
   ·exact .inr h
  ·exact .inl (.inr hi)
def Kp.cell(A:Kp G S a w)(r:Bool):S[a.rn r]?=some (.lst ((w.road r).map LW)):=by
 cases r with
 |true=>exact A.tt
 |false=>exact A.bb
def Ad.Vg(a:Ad)(r:Bool):a.rn r∈a.wf:=by cases r<;>simp[Ad.rn,Ad.wf]
def Kp.Vh(A:Kp G S a w)(r:Bool){l:List En}(c:Ch (a.rn r) (.lst (l.map LW)) S S'):JT G a S a S' (w.IA r l):=by
 have hm:=a.Vg r;have os:∀j,j∈a.sf->j∉[a.rn r]:=fun j hj z=>A.sw j hj _ hm (ab3.mp z)
 have oh:∀j,j∈a.hf->j∉[a.rn r]:=fun j hj z=>A.hw j hj _ hm (ab3.mp z)
 have nR:a.rn r≠a.nR:=dD (A.cell r) A.rd (by intro z;cases z);have nn:a.rn r≠a.n:=dD (A.cell r) A.ob (by intro z;cases z);refine⟨⟨?_,?_,?_,?_,?_,?_,A.sh,A.sw,A.hw,A.tb⟩,c.fr.mono (fun i hi _=>by rw[ab3.mp hi];exact Ad.Ri hm),rfl,fun i hi=>.inl hi⟩
 ·exact c.old A.ob nn
 ·cases r<;>exact A.sr.fr c.fr os
 ·cases r<;>exact A.hr.fr c.fr (oh _ (by simp[Ad.hf])) (oh _ (by simp[Ad.hf])) (oh _ (by simp[Ad.hf])) (oh _ (by simp[Ad.hf]))
 ·exact c.old A.rd nR
 ·cases r with
  |true=>exact c.at_
  |false=>exact c.old A.tt (af8 A.tb)
 ·cases r with
  |true=>exact c.old A.bb A.tb
  |false=>exact c.at_
def EU(A:Kp G S a w)(r:Bool):iW (.ob a.nR) (.str (bB r)) S=.ok (.ob (a.rn r)) S:=by
 unfold iW;have h:dE S a.nR=some [(.inr "there",.ob a.nT),(.inr "back",.ob a.nB)]:=by unfold dE;rw[A.rd]
 cases r with
 |true=>
  have:im [(.inr "there",.ob a.nT),(.inr "back",.ob a.nB)] (.inr "there")=some (.ob a.nT):=by
   unfold im;rw[aj0];simp
  simp only[ir,h,bB,ao1,this];rfl
 |false=>
  have e:decide ((Sum.inr ("there":Str):Key)=Sum.inr ("back":Str))=false:=by decide
  have:im [(.inr "there",.ob a.nT),(.inr "back",.ob a.nB)] (.inr "back")=some (.ob a.nB):=by
   unfold im;rw[aj0,e];simp
  simp only[ir,h,bB,this,au0,av5];rfl
def qV(A:Kp G S a w)(r:Bool)(rest:r_):f_ iW (aC G.World u_ 2 h_) v_ (some (.ob a.n) :: some (.str (bB r)) :: rest) S=.ok (.ob (a.rn r)) S:=
 av (cj rfl A.ob rfl) rfl (EU A r)
def uS(A:Kp G S a w)(r:Bool)(k:Nat):aR G [.ob a.n,.str (bB r),.int (k:Int)] S=.ok (.bl (decide (k<(w.road r).length))) S:=by
 show fin S (eO G [sO a.n,sS (bB r),sI (k:Int)] S)=_;unfold eO;have e1:aj bu (aa (f_ iW (aC G.World u_ 2 h_) v_) ai) [sO a.n,sS (bB r),sI (k:Int)] S=.ok (.int ((w.road r).length:Int)) S:=by
  refine ax (af (qV A r _) ah) ?_;rw[jY (A.cell r),aa7]
 rw[aS (d:=.bl (decide (k<(w.road r).length))) (S1:=S)]
 ·rfl
 ·rw[BS,au];simp only[wy];rw[au];show(((O1 (.int 0) (.int (k:Int))).bind Su).bind _) S=_;rw[au,au,zR,aa3 (show(0:Int)<=(k:Int) by omega)];simp only[GE,ao1];rw[au,e1];simp only[sL];congr 2;rw[ac3];omega
def xT(A:Kp G S a w)(r:Bool){l:Nat}{cs:List x_}(hl:S[l]?=some (.lst (cs.map m_)))(hlr:l≠a.rn r)(hc:∀c,c∈cs->LP c)(hz:(w.road r).length+cs.length<=1000000) :
  ∃S',bW G [.ob a.n,.str (bB r),.ob l] S=.ok .Hw S'/\JT G a S a S' (w.IA r (w.road r++cs.map gd)):=by
 show ∃S',fin S (eD G [sO a.n,sS (bB r),sO l,none] S)=_/\_;unfold eD;have hw:Kt Ic [sO a.n,sS (bB r),sO l,none] S=.ok ⟨cs.map m_,some (l,cs.map m_)⟩ S:=by
  rw[n4,au];show lI (.ob l) S=_;simp only[lI,hl]
 obtain⟨r',S',q,x3,rfl,k,_⟩:=db (g:=some (l,cs.map m_)) (tg:=gN 3) (b:=dO G)
  (fun i r' S'=>∃x3,r'=[sO a.n,sS (bB r),sO l,x3]/\JT G a S a S' (w.IA r (w.road r++(cs.take i).map gd))/\S'[l]?=some (.lst (cs.map m_))) (cs.map m_) 0 [sO a.n,sS (bB r),sO l,none] S
  (by
   rintro i y r' S' hy ⟨x3,rfl,k,Nd⟩;rw[ac8] at hy;cases hp:cs[i]? with
   |none=>rw[hp] at hy;cases hy
   |some c=>
    rw[hp] at hy;cases hy;rw[af7] at k ⊢;have Q2:=(aa2.mp hp).1;have HH:=hc c (af2 hp);have k':=k.at_;have Im:=k'.cell r;rw[zT] at Im;obtain⟨S2,e2,c2⟩:=ur (fo:=f_ iW (aC G.World u_ 2 h_) v_) (ft:=aa (ci (aa (aj (jZ G) (aa H_ ai)) (aa (dC (.bl false)) ai))) ai) (r:=[sO a.n,sS (bB r),sO l,some (m_ c)]) (d:=LW (gd c))
     (qV k' r _) Im (af (bL (af (ax (af rfl ah) (xw HH _)) (af rfl ah)) (by simp)) ah) (by rw[aa7,aa8,aa7,ad7];omega)
    have c3:Ch (a.rn r) (.lst ((w.road r++(cs.take (i+1)).map gd).map LW)) S' S2:=by
     have e:(w.road r++(cs.take (i+1)).map gd).map LW=(w.road r++(cs.take i).map gd).map LW++[LW (gd c)]:=by rw[al2,hp];simp
     rw[e];exact c2
    have kk:=k.trans (k'.Vh r c3);have Ly:(w.IA r (w.road r++(cs.take i).map gd)).IA r (w.road r++(cs.take (i+1)).map gd)=w.IA r (w.road r++(cs.take (i+1)).map gd):=by cases r<;>rfl
    rw[Ly] at kk;refine⟨[sO a.n,sS (bB r),sO l,some (m_ c)],[sO a.n,sS (bB r),sO l,some (m_ c)],S2,rfl,?_,c3.old Nd (af8 hlr),some (m_ c),rfl,kk,c3.old Nd (af8 hlr)⟩;unfold dO;exact aX e2)
  ⟨none,rfl,by
   have:w.IA r (w.road r++(cs.take 0).map gd)=w:=by cases r<;>simp[WW.IA,WW.road]
   rw[this];exact JT.refl A,hl⟩
 rw[show 0+(cs.map m_).length=cs.length by simp,an8] at k;refine⟨S',?_,k⟩;rw[kg hw,q];rfl
def DJ(A:Kp G S a w)(K:JO N w)(hN:N<20000){m:Iu}(hm:m.length<=40):∃S' a',iz G [.ob a.n,D_ m] S=.ok .Hw S'/\JT G a S a' S' (w.act (.hand m)):=by
 obtain⟨S',e,k⟩:=Df A.sr K.sb hN hm;refine⟨S',_,?_,A.snd k⟩;show fin S (jN G [sO a.n,some (D_ m)] S)=_;unfold jN;rw[aX (bc (cj rfl A.ob rfl) A.sr.ob (af rfl ah) e)];rfl
def AY(A:Kp G S a w)(K:JO N w)(hN:N<=20000):∃S' a',gr G [.ob a.n] S=.ok .Hw S'/\JT G a S a' S' (w.act .start):=by
 obtain⟨S',p',q',e,k⟩:=CG A.sr K.sb hN;refine⟨S',_,?_,A.snd k⟩;show fin S (jb G [sO a.n] S)=_;unfold jb;rw[aX (bc (cj rfl A.ob rfl) A.sr.ob ah e)];rfl
def Ep(A:Kp G S a w)(r:Bool):∃S' a',iq G [.ob a.n,.str (if r then "sender" else "hearer")] S=.ok .Hw S'/\JT G a S a' S' (w.act (.Ik r)):=by
 cases r with
 |true=>
  obtain⟨S',e,k⟩:=Ec A.sr;refine⟨S',_,?_,A.snd k⟩;show fin S (eK G [sO a.n,sS "sender"] S)=_;unfold eK;rw[aw (by rw[aT (az (av rfl rfl bg))];exact aX (bc (cj rfl A.ob rfl) A.sr.ob ah e)),ay (az (av rfl rfl bg))];rfl
 |false=>
  obtain⟨S',e',b',e,k⟩:=Dl A.hr;refine⟨S',_,?_,A.hea k⟩;show fin S (eK G [sO a.n,sS "hearer"] S)=_;unfold eK;rw[aw (by rw[ay (az (av rfl rfl bg))];rfl),aT (az (av rfl rfl bg)),aX (bc (cj rfl A.ob rfl) A.hr.ob ah e)];rfl
def El(A:Kp G S a w)(K:JO N w)(hN:N<=20000):∃S' a',io G [.ob a.n] S=.ok .Hw S'/\JT G a S a' S' (w.act .tick):=by
 have hp:=K.sb.pl;obtain⟨S1,l,e,k,hl,Je⟩:=Ek A.sr K.w0 (by omega) (fun _=>K.bl);have k1:=A.snd k;obtain⟨t1,t2⟩:=zo K hN;have tl:=K.tl;have O4:l≠a.nT:=fun z=>by have:=bq A.tt;omega
 obtain⟨S2,e2,k2⟩:=xT k1.at_ true hl O4 (fun c hc=>(t1 c hc).1) (by show w.T.length+_<=_;omega);refine⟨S2,_,?_,k1.trans k2⟩;show fin S (jt G [sO a.n] S)=_;unfold jt;rw[aX (bc rfl A.ob (af rfl (af (bc (cj rfl A.ob rfl) A.sr.ob ah e) ah)) e2)];rfl
def Al(A:Kp G S a w)(K:JO N w)(hN:N<20000)(r:Bool){e:En}(he:PO N e):∃S' a',fH G [.ob a.n,.str (bB r),.tup (e.xs.map D.int)] S=.ok .Hw S'/\JT G a S a' S' (w.Jx r e):=by
 show ∃S' a',fin S (gS G [sO a.n,sS (bB r),some (.tup (e.xs.map D.int)),none] S)=_/\_;unfold gS;obtain⟨c,x⟩:=e;cases x with
 |some xs=>
  have Sq:=DY (G:=G) (xs:=xs) (ab5 he.2.2.1 (by decide)) (he.2.2.2 xs rfl) S;have t1:yi [G.IS] (cg (aj (lG G) (aa Ic ai)) (gN 3)) (cg (dC .Hw) (gN 3)) [sO a.n,sS (bB r),some (.tup (xs.map D.int)),none] S=some (.nx [sO a.n,sS (bB r),some (.tup (xs.map D.int)),some .Hw],S):=by
   have e3:cg (aj (lG G) (aa Ic ai)) (gN 3) [sO a.n,sS (bB r),some (.tup (xs.map D.int)),none] S=some (.xc G.IS [sO a.n,sS (bB r),some (.tup (xs.map D.int)),none],S):=by
    unfold cg;rw[vc,ax (af rfl ah) Sq]
   unfold yi;rw[e3];simp[ZY]
  have t2:∀(k:Str),dc (ao (f_ n5 H_ (dC .Hw))) (ao (f_ HJ v_ (dC (.str k)))) [sO a.n,sS (bB r),some (.tup (xs.map D.int)),some .Hw] S=.ok false S:=fun k=>rfl
  refine⟨S,a,?_,JT.refl A⟩;show fin S (aI _ _ [sO a.n,sS (bB r),some (.tup (xs.map D.int)),none] S)=_;rw[aw t1,aw (by rw[ay (t2 _)];rfl),ay (t2 _)];rfl
 |none=>
  have HH:LP c:=he.1;have Sq:=Eb (G:=G) HH S;have t1:yi [G.IS] (cg (aj (lG G) (aa Ic ai)) (gN 3)) (cg (dC .Hw) (gN 3)) [sO a.n,sS (bB r),some (.tup ((Jk (aA c)).map D.int)),none] S=some (.nx [sO a.n,sS (bB r),some (.tup ((Jk (aA c)).map D.int)),some (m_ c)],S):=by
   unfold yi;rw[bh (ax (af rfl ah) Sq)];rfl
  have nn:∀T,ao (f_ n5 H_ (dC .Hw)) [sO a.n,sS (bB r),some (.tup ((Jk (aA c)).map D.int)),some (m_ c)] T=.ok true T:=fun T=>by cases c<;>rfl
  show ∃S' a',fin S (aI _ _ [sO a.n,sS (bB r),some (.tup ((Jk (aA c)).map D.int)),none] S)=_/\_;rw[aw t1];cases r with
  |true=>
   have y1:∀T,dc (ao (f_ n5 H_ (dC .Hw))) (ao (f_ HJ v_ (dT "there"))) [sO a.n,sS (bB true),some (.tup ((Jk (aA c)).map D.int)),some (m_ c)] T=.ok true T:=fun T=>by
    rw[cL,au,nn];exact az (av rfl rfl (show HJ (.str "there") (.str "there") T=.ok (.bl true) T from bg))
   have y2:∀T,dc (ao (f_ n5 H_ (dC .Hw))) (ao (f_ HJ v_ (dT "back"))) [sO a.n,sS (bB true),some (.tup ((Jk (aA c)).map D.int)),some (m_ c)] T=.ok false T:=fun T=>by
    rw[cL,au,nn];exact az (av rfl rfl (show HJ (.str "there") (.str "back") T=.ok (.bl false) T from bg))
   obtain⟨S1,e',b',l,q1,k1,o1⟩:=AV A.hr (by rw[K.hw];exact K.w0) (by rw[K.hw];have:=K.w7;omega) K.bd hN HH.Ub;have k2:=A.hea k1;obtain⟨h1,h2,h3⟩:=vD K (by omega) HH he.2.1;have ql:=K.ql;have O4:l≠a.nB:=fun z=>by have:=bq A.bb;have:=o1.new;omega
   obtain⟨S2,q2,k3⟩:=xT k2.at_ false o1.at_ O4 (fun d hd=>(h1 d hd).1) (by show w.B.length+_<=_;omega);refine⟨S2,_,?_,k2.trans k3⟩;rw[aw (by rw[aT (y1 _)];exact aX (bc rfl A.ob (af rfl (af (bc (cj rfl A.ob rfl) A.hr.ob (af rfl ah) q1) ah)) q2)),ay (y2 _)];rfl
  |false=>
   have y1:∀T,dc (ao (f_ n5 H_ (dC .Hw))) (ao (f_ HJ v_ (dT "there"))) [sO a.n,sS (bB false),some (.tup ((Jk (aA c)).map D.int)),some (m_ c)] T=.ok false T:=fun T=>by
    rw[cL,au,nn];exact az (av rfl rfl (show HJ (.str "back") (.str "there") T=.ok (.bl false) T from bg))
   have y2:∀T,dc (ao (f_ n5 H_ (dC .Hw))) (ao (f_ HJ v_ (dT "back"))) [sO a.n,sS (bB false),some (.tup ((Jk (aA c)).map D.int)),some (m_ c)] T=.ok true T:=fun T=>by
    rw[cL,au,nn];exact az (av rfl rfl (show HJ (.str "back") (.str "back") T=.ok (.bl true) T from bg))
   obtain⟨S1,p',q',l,e1,k1,hl,Je⟩:=Bf A.sr K.sb (by omega) K.w0 HH.OI;have k2:=A.snd k1;have O4:l≠a.nT:=fun z=>by have:=bq A.tt;omega
   obtain⟨S2,q2,k3⟩:=xT (cs:=[]) k2.at_ true hl O4 (fun d hd=>by simp at hd) (by have:=K.tl;show w.T.length+_<=_;simp;omega);refine⟨S2,{ a with pS:=p',qS:=q' },?_,?_⟩
   ·rw[aw (by rw[ay (y1 _)];rfl),aT (y2 _),aX (bc rfl A.ob (af rfl (af (bc (cj rfl A.ob rfl) A.sr.ob (af rfl ah) e1) ah)) q2)];rfl
   ·have k4:=k2.trans k3;have:({ w with s:=w.s.k_ c }:WW).IA true (({ w with s:=w.s.k_ c }:WW).road true++([]:List x_).map gd)=w.Jx false ⟨c,none⟩:=by
     show({ s:=w.s.k_ c,h:=w.h,T:=w.T++[],B:=w.B }:WW)=_;rw[ae4];rfl
    rw[this] at k4;exact k4
def EA{n:Nat}{xs:ay7}{k:Nat}{d:D}(hn:S[n]?=some (.lst xs))(hk:xs[k]?=some d):w8 (.ob n) [.int (k:Int)] S=.ok d (S.set n (.lst (xs.eraseIdx k))):=by
 have JZ:=(aa2.mp hk).1;unfold w8;simp only[bQ hn];rw[bY ⟨by omega,by omega⟩,af4];simp only[hk]
def CO(A:Kp G S a w)(K:JO N w)(hN:N<20000)(r:Bool):∃S' a',iw G [.ob a.n,.str (bB r)] S=.ok .Hw S'/\JT G a S a' S' (w.act (.step r)):=by
 show ∃S' a',fin S (jx G [sO a.n,sS (bB r)] S)=_/\JT G a S a' S' (w.step r);unfold jx;have t1:bM (br G.World u_ (aR G) h_ (aa v_ (aa (dI 0) ai))) [sO a.n,sS (bB r)] S=.ok (decide (0<(w.road r).length)) S:=by
  rw[cD,au,bc rfl A.ob (af rfl (af rfl ah)) (uS A r 0)];rfl
 unfold WW.step;cases hr:w.road r with
 |nil=>
  rw[hr] at t1;refine⟨S,a,?_,JT.refl A⟩;rw[ay t1];rfl
 |cons e l=>
  rw[hr,aa3 (by simp)] at t1;have Im:=A.cell r;rw[hr] at Im;have hk:=K.rd r e (by rw[hr];exact ag5);have hp:=EA (k:=0) (d:=LW e) Im rfl;have QM:((e :: l).map LW).eraseIdx 0=l.map LW:=rfl;rw[QM] at hp;have c1:Ch (a.rn r) (.lst (l.map LW)) S (S.set (a.rn r) (.lst (l.map LW))):=Ch.set Im;have k1:=A.Vh r c1;have K1:JO N (w.IA r l):=by
   have h1:=K.rd r;have h2:=K.rl r;rw[hr] at h1 h2;rw[ab8] at h2;exact K.IA r (fun d hd=>h1 d (aa9 _ hd)) (by omega)
  obtain⟨S2,a2,e2,k2⟩:=Al k1.at_ K1 hN r hk;refine⟨S2,a2,?_,k1.trans k2⟩;have e1:f_ w_ (KU w8 (f_ iW (aC G.World u_ 2 h_) v_) (aa (dI 0) ai)) (dI 0) [sO a.n,sS (bB r)] S=.ok (.tup (e.xs.map D.int)) (S.set (a.rn r) (.lst (l.map LW))):=
   av (j4 (qV A r _) Im (af rfl ah) hp) rfl (aO (i:=0) rfl)
  rw[aT t1,aX (bc rfl A.ob (af rfl (af e1 ah)) e2)];rfl
def D6(A:Kp G S a w)(r:Bool)(k:Nat):∃S' a',iu G [.ob a.n,.str (bB r),.int (k:Int)] S=.ok .Hw S'/\JT G a S a' S' (w.act (.Px r k)):=by
 show ∃S' a',fin S (jE G [sO a.n,sS (bB r),sI (k:Int)] S)=_/\JT G a S a' S' (w.IA r ((w.road r).eraseIdx k));unfold jE;have t1:bM (br G.World u_ (aR G) h_ (aa v_ (aa Ic ai))) [sO a.n,sS (bB r),sI (k:Int)] S=.ok (decide (k<(w.road r).length)) S:=by
  rw[cD,au,bc rfl A.ob (af rfl (af rfl ah)) (uS A r k)];rfl
 by_cases hk:k<(w.road r).length
 ·rw[aa3 hk] at t1;have Im:=A.cell r;obtain⟨e,he⟩:∃e,(w.road r)[k]?=some e:=⟨_,ab9 hk⟩;have hp:=EA (k:=k) (d:=LW e) Im (by rw[ac8,he];rfl);rw[lZ] at hp;have k1:=A.Vh (l:=(w.road r).eraseIdx k) r (Ch.set Im);refine⟨_,a,?_,k1⟩;rw[aT t1,aX (j4 (qV A r _) Im (af rfl ah) hp)];rfl
 ·rw[aa5 hk] at t1;refine⟨S,a,?_,?_⟩
  ·rw[ay t1];rfl
  ·rw[List.eraseIdx_of_length_le (by omega)];have:w.IA r (w.road r)=w:=by cases r<;>rfl
   rw[this];exact JT.refl A
theorem nU{α:Type}:∀(l:List α) (k:Nat) (x:α),k<=l.length->l.insertIdx k x=l.take k++x :: l.drop k
 |l,0,x,_=>by simp
 |[],k+1,x,h=>by simp at h
 |y :: l,k+1,x,h=>by
  rw[List.insertIdx_succ_cons,nU l k x (by simpa using h)];rfl
def Fi(A:Kp G S a w)(K:JO N w)(hN:N<=20000)(r:Bool)(k:Nat):∃S' a',fC G [.ob a.n,.str (bB r),.int (k:Int)] S=.ok .Hw S'/\JT G a S a' S' (w.act (.dbl r k)):=by
 show ∃S' a',fin S (gM G [sO a.n,sS (bB r),sI (k:Int)] S)=_/\JT G a S a' S' (w.IA r (n7 (w.road r) k));unfold gM;have t1:bM (br G.World u_ (aR G) h_ (aa v_ (aa Ic ai))) [sO a.n,sS (bB r),sI (k:Int)] S=.ok (decide (k<(w.road r).length)) S:=by
  rw[cD,au,bc rfl A.ob (af rfl (af rfl ah)) (uS A r k)];rfl
 have hl:=K.rl r;unfold n7;by_cases hk:k<(w.road r).length
 ·rw[aa3 hk] at t1;have Im:=A.cell r;obtain⟨e,he⟩:∃e,(w.road r)[k]?=some e:=⟨_,ab9 hk⟩;rw[he];have Vi:f_ w_ (f_ iW (aC G.World u_ 2 h_) v_) Ic [sO a.n,sS (bB r),sI (k:Int)] S=.ok (LW e) S:=av (qV A r _) rfl (j9 Im (by rw[ac8,he];rfl));have KH:wE (.ob (a.rn r)) [.int (k:Int),LW e] S=.ok .Hw (S.set (a.rn r) (.lst (((w.road r).insertIdx k e).map LW))):=by
   unfold wE;simp only[bQ Im];rw[bY ⟨⟨by omega,by rw[aa7];omega⟩,by rw[aa7];exact P_ (show(w.road r).length<=1000000 by omega)⟩,af4,nU _ _ _ (by omega),ae0,ac2,aq6,as9]
  have k1:=A.Vh (l:=(w.road r).insertIdx k e) r (Ch.set Im);refine⟨_,a,?_,k1⟩;rw[aT t1,aX (j4 (qV A r _) Im (af rfl (af Vi ah)) KH)];rfl
 ·rw[aa5 hk] at t1;rw[List.getElem?_eq_none (by omega)];refine⟨S,a,?_,?_⟩
  ·rw[ay t1];rfl
  ·have:w.IA r (w.road r)=w:=by cases r<;>rfl
   show JT G a S a S (w.IA r (w.road r));rw[this];exact JT.refl A
def xu{xs:ax3}(hx:0<xs.length)(hl:xs.length<=1000)(place:Nat)(Ki:Int)(S:ay4):jV [.tup (xs.map D.int),.int (place:Int),.int Ki] S=.ok (.tup ((xs.set (place % xs.length) ((xs.getD (place % xs.length) 0+Ki) % 256)).map D.int)) S:=by
 show cP S (mY [some (.tup (xs.map D.int)),sI (place:Int),sI Ki,none,none] S)=_;unfold mY;rw[aw (bh (d:=.ob S.length) (S1:=S++[.lst (xs.map D.int)]) (ax (af rfl ah) rfl))];show cP S (aI _ _ [some (.tup (xs.map D.int)),sI (place:Int),sI Ki,sO S.length,none] (S++[.lst (xs.map D.int)]))=_;obtain⟨i,hi⟩:∃i,place % xs.length=i:=⟨_,rfl⟩;have JZ:i<xs.length:=by rw[<-hi];exact mod_lt _ hx
 have e1:f_ kY v_ (aj bu (aa H_ ai)) [some (.tup (xs.map D.int)),sI (place:Int),sI Ki,sO S.length,none] (S++[.lst (xs.map D.int)])=.ok (.int (i:Int)) (S++[.lst (xs.map D.int)]):=by
  refine av rfl (ax (af rfl ah) (jY bE)) ?_;rw[aa7,dg (by omega),<-hi];congr 2
 rw[aw (bh e1),hi];show cP S (aI _ _ [some (.tup (xs.map D.int)),sI (place:Int),sI Ki,sO S.length,sI (i:Int)] (S++[.lst (xs.map D.int)]))=_;have hg:xs[i]?=some (xs.getD i 0):=by rw[am5,ab9 JZ];rfl
 obtain⟨v,hv⟩:∃v,(xs.getD i 0+Ki) % 256=v:=⟨_,rfl⟩;have e2:f_ kY (f_ bI (f_ w_ H_ Jy) Ic) (dI 256) [some (.tup (xs.map D.int)),sI (place:Int),sI Ki,sO S.length,sI (i:Int)] (S++[.lst (xs.map D.int)])=.ok (.int v) (S++[.lst (xs.map D.int)]):=by
  refine av (av (av rfl rfl (j9 bE (by rw[ac8,hg];rfl))) rfl (ck _ _)) rfl ?_;rw[dg (by decide),hv]
 have Ly:∀a c:Cell,(S++[a]).set S.length c=S++[c]:=fun a c=>by rw[ag4 _ _ (aa1 _)];simp
 have e3:pj (.ob S.length) (.int (i:Int)) (.int v) (S++[.lst (xs.map D.int)])=some (S++[.lst ((xs.set i v).map D.int)]):=by
  have Vi:Ou (xs.map D.int).length (i:Int)=some i:=by
   unfold Ou;rw[aa7];simp;omega
  simp only[pj,bQ bE,Vi,Ly];rw[List.map_set]
 rw[hv,aw (uI e2 rfl rfl e3),aS (ax (af rfl ah) (fW bE))];exact lM (by unfold Jm;exact de _ _)
def BJ(A:Kp G S a w)(K:JO N w)(hN:N<=20000)(r:Bool)(k place:Nat)(Ki:Int):∃S' a',gB G [.ob a.n,.str (bB r),.int (k:Int),.int (place:Int),.int Ki] S=.ok .Hw S'/\JT G a S a' S' (w.act (.Nc r k place Ki)):=by
 show ∃S' a',fin S (iZ G [sO a.n,sS (bB r),sI (k:Int),sI (place:Int),sI Ki] S)=_/\JT G a S a' S' (w.IA r (fZ (w.road r) k place Ki));unfold iZ;obtain⟨rr,Uc⟩:∃rr:r_,[sO a.n,sS (bB r),sI (k:Int),sI (place:Int),sI Ki]=rr:=⟨_,rfl⟩;have t1:bM (br G.World u_ (aR G) h_ (aa v_ (aa Ic ai))) rr S=.ok (decide (k<(w.road r).length)) S:=by
  rw[<-Uc,cD,au,bc rfl A.ob (af rfl (af rfl ah)) (uS A r k)];rfl
 have same:w.IA r (w.road r)=w:=by cases r<;>rfl
 have Im:=A.cell r;have rd:f_ iW (aC G.World u_ 2 h_) v_ rr S=.ok (.ob (a.rn r)) S:=by rw[<-Uc];exact qV A r _
 have v2:Ic rr S=.ok (.int (k:Int)) S:=by rw[<-Uc];rfl
 have v3:H_ rr S=.ok (.int (place:Int)) S:=by rw[<-Uc];rfl
 have v4:Jy rr S=.ok (.int Ki) S:=by rw[<-Uc];rfl
 rw[Uc];unfold fZ;by_cases hk:k<(w.road r).length
 ·rw[aa3 hk] at t1;obtain⟨e,he⟩:∃e,(w.road r)[k]?=some e:=⟨_,ab9 hk⟩;rw[he];have HH:=K.rd r e (af2 he);have ent:f_ w_ (f_ iW (aC G.World u_ 2 h_) v_) Ic rr S=.ok (LW e) S:=av rd v2 (j9 Im (by rw[ac8,he];rfl));have t2:bM (f_ w_ (f_ w_ (f_ iW (aC G.World u_ 2 h_) v_) Ic) (dI 1)) rr S=.ok e.x.isSome S:=by
   rw[cD,au,av ent rfl (aO (i:=1) rfl)];rfl
  have t3:ao (f_ Kc (f_ kY Jy (dI 256)) (dI 0)) rr S=.ok (!decide (Ki % 256=0)) S:=az (av (av v4 rfl (dg (by decide))) rfl (iQ _ _));have t4:dc (bM (br G.World u_ (aR G) h_ (aa v_ (aa Ic ai)))) (dc (cZ (bM (f_ w_ (f_ w_ (f_ iW (aC G.World u_ 2 h_) v_) Ic) (dI 1)))) (ao (f_ Kc (f_ kY Jy (dI 256)) (dI 0)))) rr S=.ok (!e.x.isSome && !decide (Ki % 256=0)) S:=by
   rw[cL,au,t1];show dc _ _ rr S=_;rw[cL,au,cN,au,t2];cases e.x.isSome with
   |true=>rfl
   |false=>exact t3
  obtain⟨c,x⟩:=e;cases x with
  |some xs=>
   refine⟨S,a,?_,?_⟩
   ·rw[ay t4];rfl
   ·have:(w.road r).set k (eP ⟨c,some xs⟩ place Ki)=w.road r:=by
     show(w.road r).set k ⟨c,some xs⟩=_;obtain⟨h1,h2⟩:=aa2.mp he;rw[<-h2,List.set_getElem_self]
    dsimp only;rw[this,same];exact JT.refl A
  |none=>
   by_cases hb:Ki % 256=0
   ·rw[aa3 hb] at t4;refine⟨S,a,?_,?_⟩
    ·rw[ay t4];rfl
    ·have:(w.road r).set k (eP ⟨c,none⟩ place Ki)=w.road r:=by
      unfold eP;dsimp only;rw[ab2 hb];obtain⟨h1,h2⟩:=aa2.mp he;rw[<-h2,List.set_getElem_self]
     dsimp only;rw[this,same];exact JT.refl A
   ·rw[aa5 hb] at t4;have Ox:=gc HH.1;have hxl:0<((⟨c,none⟩:En).xs).length:=by show 0<(Jk (aA c)).length;rw[nD];omega
    have QG:eP ⟨c,none⟩ place Ki=⟨c,some (((⟨c,none⟩:En).xs).set (place % ((⟨c,none⟩:En).xs).length) ((((⟨c,none⟩:En).xs).getD (place % ((⟨c,none⟩:En).xs).length) 0+Ki) % 256))⟩:=by
     unfold eP;dsimp only;rw[ab1 hb]
    have PB:=xu hxl (ab5 HH.2.2.1 (by decide)) place Ki S;have e5:ci (aa (aj jV (aa (f_ w_ (f_ w_ (f_ iW (aC G.World u_ 2 h_) v_) Ic) (dI 0)) (aa H_ (aa Jy ai)))) (aa (dC (.bl true)) ai)) rr S=.ok (LW (eP ⟨c,none⟩ place Ki)) S:=by
     rw[QG];exact bL (af (ax (af (av ent rfl (aO (i:=0) rfl)) (af v3 (af v4 ah))) PB) (af rfl ah)) (by simp)
    have e6:pj (.ob (a.rn r)) (.int (k:Int)) (LW (eP ⟨c,none⟩ place Ki)) S=some (S.set (a.rn r) (.lst (((w.road r).set k (eP ⟨c,none⟩ place Ki)).map LW))):=by
     have Vi:Ou ((w.road r).map LW).length (k:Int)=some k:=by
      unfold Ou;rw[aa7];simp;omega
     simp only[pj,bQ Im,Vi];rw[List.map_set]
    have k1:=A.Vh (l:=(w.road r).set k (eP ⟨c,none⟩ place Ki)) r (Ch.set Im);refine⟨_,a,?_,k1⟩;rw[aT t4,uI e5 rd v2 e6];rfl
 ·rw[aa5 hk] at t1;rw[List.getElem?_eq_none (by omega)];refine⟨S,a,?_,?_⟩
  ·rw[ay (by rw[cL,au,t1];rfl)];rfl
  ·dsimp only;rw[same];exact JT.refl A
end
def cv(ns:ax3)(k:Nat):Int:=ns.getD k 0
def uD{ns:ax3}{k:Nat}(S:ay4):bP [.Kh (ns.map D.int),.int k] S=.ok (.int (cv ns k)) S:=by
 unfold cv;by_cases h:k<ns.length
 ·have e1:M9 (ns.map D.int) (k:Int)=some (.int (ns.getD k 0)):=uv (by simp[getD,h]);simp[bP,j6,bu,gj,w_,e1,h]
 ·have e1:ns.getD k 0=0:=by simp[getD,h]
  simp[bP,j6,bu,gj,w_,e1,h]
def Go{ns:ax3}(S:ay4):bP [.Kh (ns.map D.int),.int 0] S=.ok (.int (cv ns 0)) S:=uD (k:=0) S
def Gz{ns:ax3}(S:ay4):bP [.Kh (ns.map D.int),.int 1] S=.ok (.int (cv ns 1)) S:=uD (k:=1) S
def Gy{ns:ax3}(S:ay4):bP [.Kh (ns.map D.int),.int 2] S=.ok (.int (cv ns 2)) S:=uD (k:=2) S
def ES{a p m:Int}(hp:0<p)(hm:0<m)(S:ay4):aE [.int a,.int p,.int m] S=.ok (.int (a * 48271 % p % m)) S:=by
 have h1:Pe a 48271:=.inr ⟨by decide,by decide⟩;simp[aE,o5,iA h1,dg hp,dg hm]
def mx(a:Int)(p m:Nat):Nat:=(a * 48271 % p % m).toNat
def mr(a:Int){p m:Nat}(hm:0<m):mx a p m<m:=by
 unfold mx;have h1:=av3 (a * 48271 % p) (show(m:Int)≠0 by omega);have h2:=Int.emod_lt_of_pos (a * 48271 % p) (show(0:Int)<m by omega);omega
def yU(a:Int){p m:Nat}(hp:0<p)(hm:0<m)(S:ay4):aE [.int a,.int (p:Int),.int (m:Int)] S=.ok (.int (mx a p m:Nat)) S:=by
 rw[ES (by omega) (by omega)];unfold mx;have h1:=av3 (a * 48271 % p) (show(m:Int)≠0 by omega);rw[ar0 h1]
def jy{f:ay5}{r:r_}{S:ay4}{a:Int}(p m:Nat)(hf:f r S=.ok (.int a) S)(hp:0<p:=by decide)(hm:0<m:=by decide):aj aE (aa f (aa (dC (.int (p:Int))) (aa (dC (.int (m:Int))) ai))) r S=.ok (.int (mx a p m:Nat)) S:=
 ax (af hf (af rfl (af rfl ah))) (yU a hp hm S)
def Nf(ns:ax3):Nat:=1+mx (cv ns 0) 9883 7
def NR(ns:ax3):Nat:=1+mx (cv ns 1) 9871 8
def yJ(ns:ax3):0<Nf ns:=by unfold Nf;omega
def FB(ns:ax3):Nf ns<=7:=by
 have:=mr (cv ns 0) (p:=9883) (m:=7) (by decide);unfold Nf;omega
def CM(ns:ax3):1<=NR ns:=by unfold NR;omega
def EY(ns:ax3):NR ns<=8:=by
 have:=mr (cv ns 1) (p:=9871) (m:=8) (by decide);unfold NR;omega
def xj(ns:ax3)(S:ay4):fA [.Kh (ns.map D.int)] S=.ok (.tup [.int (Nf ns:Int),.int (NR ns:Int)]) S:=by
 show fin S (gU [sR ns,none,none] S)=_;unfold gU;have w1:f_ bI (dI 1) (aj aE (aa (aj bP (aa h_ (aa (dI 0) ai))) (aa (dI 9883) (aa (dI 7) ai)))) [sR ns,none,none] S=.ok (.int (Nf ns:Int)) S:=by
  refine av rfl (jy 9883 7 (ax (af rfl (af rfl ah)) (Go S))) ?_;rw[ck];unfold Nf;congr 2
 rw[aw (bh w1)];show fin S (aI _ _ [sR ns,sI (Nf ns:Int),none] S)=_;have w2:f_ bI (dI 1) (aj aE (aa (aj bP (aa h_ (aa (dI 1) ai))) (aa (dI 9871) (aa (dI 8) ai)))) [sR ns,sI (Nf ns:Int),none] S=.ok (.int (NR ns:Int)) S:=by
  refine av rfl (jy 9871 8 (ax (af rfl (af rfl ah)) (Gz S))) ?_;rw[ck];unfold NR;congr 2
 rw[aw (bh w2),aS (bL (af rfl (af rfl ah)) (by simp))];rfl
def Ej{fe:ay5}{r:r_}{S S1:ay4}{x y:D}{i j:Nat}(h:fe r S=.ok (.tup [x,y]) S1):cg fe (gT [i,j]) r S=some (.nx ((r.set i (some x)).set j (some y)),S1):=by
 unfold cg;rw[vc,h];rfl
def jQ(c:Int)(L:Nat):Iu:=(range (mx c 9973 (L+1))).map fun(k:Nat)=>((mx (c+31 * k) 9967 256:Nat):Int)
def uj(c:Int)(L:Nat):(jQ c L).length<=L:=by
 have:=mr c (p:=9973) (m:=L+1) (by omega);unfold jQ;rw[aa7,ar5];omega
def qB(c:Int)(L:Nat)(hL:L<=1000)(S:ay4):cQ [.int c,.int (L:Int)] S=.ok (D_ (jQ c L)) S:=by
 show cP S (ie [sI c,sI (L:Int),none] S)=_;unfold ie;have m1:aj aE (aa h_ (aa (dI 9973) (aa (f_ bI v_ (dI 1)) ai))) [sI c,sI (L:Int),none] S=.ok (.int (mx c 9973 (L+1):Nat)) S:=
  ax (af rfl (af rfl (af (x:=.int ((L+1:Nat):Int)) (av rfl rfl (by rw[ck];congr 2)) ah))) (yU c (p:=9973) (m:=L+1) (by decide) (by omega) S)
 rw[aw (bh m1)];have JZ:=mr c (p:=9973) (m:=L+1) (by omega);obtain⟨z,hz⟩:∃z,mx c 9973 (L+1)=z:=⟨_,rfl⟩;have hm:jQ c L=(range z).map fun(k:Nat)=>((mx (c+31 * k) 9967 256:Nat):Int):=by unfold jQ;rw[hz]
 rw[hz] at JZ ⊢;show cP S (bN _ [sI c,sI (L:Int),sI (z:Int)] S)=_;have q1:=il (f:=o6 Ic) (tg:=gN 0) (ti:=hV) (fe:=aj aE (aa (f_ bI v_ (f_ ik (dI 31) h_)) (aa (dI 9967) (aa (dI 256) ai)))) (own:=1) (caps:=[0])
  (r:=[sI c,sI (L:Int),sI (z:Int)]) (S:=S) (S1:=S) (w:=⟨fw 0 1 z,none⟩) (fun _=>true) (fun x=>match x with
   |.int k=>.int (mx (c+31 * k) 9967 256:Nat)
   |_=>.Hw) (vf (by omega)) trivial (by simp[fw];omega) (by
   intro x hx;simp only[fw,mem_map,mem_range] at hx;obtain⟨k,_,rfl⟩:=hx;refine⟨_,rfl,fun _=>rfl,fun _ zs=>?_⟩;show aj _ _ [sI (0+(k:Int) * 1),sI c] _=_;refine jy 9967 256 (av rfl (av rfl rfl (iA (.inl ⟨by decide,by decide⟩))) (ck _ _)))
 have Ql:((fw 0 1 z).filter fun _=>true).map (fun x=>match x with
   |.int k=>.int (mx (c+31 * k) 9967 256:Nat)
   |_=>.Hw)=(jQ c L).map D.int:=by
  rw[ai5.mpr (by simp),hm];unfold fw;rw[ah6,ah6];refine ag0 fun k _=>?_
  have hk:0+(k:Int) * 1=(k:Int):=by omega
  simp only[ai3,hk]
 rw[Ql] at q1;rw[aS (ax (af q1 ah) (fW (aQ rfl)))];exact lM (Ft _ _)
section
variable{G:Cs}{S S' S1 S2:ay4}{a a' a1 a2:Ad}{w w' w1 w2:WW}{N:Nat}
def DC(x y:Nat)(S:ay4):∃S' a,iY G.World (cI G) [.int (x:Int),.int (y:Int)] S=.ok (.ob S.length) S'/\Kp G S' a (WW.new x y)/\Fr [] S S'/\a.n=S.length/\∀i,i∈a.fp->S.length<=i:=by
 obtain⟨n,hn⟩:∃n,n=S.length:=⟨_,rfl⟩;have s0:(S++[Cell.ins G.World [] []])[n]?=some (.ins G.World [] []):=aQ hn;obtain⟨r,hr⟩:∃r:r_,r=[sO n,sI (x:Int),sI (y:Int)]:=⟨_,rfl⟩;have v0:∀S,h_ r S=.ok (.ob n) S:=fun S=>by rw[hr];rfl
 have v1:∀S,v_ r S=.ok (.int (x:Int)) S:=fun S=>by rw[hr];rfl
 have v2:∀S,Ic r S=.ok (.int (y:Int)) S:=fun S=>by rw[hr];rfl
 obtain⟨T0,Wd⟩:∃T0,S++[Cell.ins G.World [] []]=T0:=⟨_,rfl⟩;have l0:T0.length=S.length+1:=by rw[<-Wd];simp
 rw[Wd] at s0;obtain⟨U1,m,p,q,e1,k1,f1,g1,g2,g3⟩:=Ew (G:=G) x y T0;have u1:=f1.get s0 (by simp);obtain⟨T1,b1,c1⟩:=eM (f:="sender") (fo:=h_) (fe:=aj (iY G.c_ (b8 G)) (aa v_ (aa Ic ai))) (r:=r) (ax (af (v1 _) (af (v2 _) ah)) e1) (v0 _) u1;have Vj:HY G T1 T0.length m p q (Sr.new x y):=k1.fr c1.fr fun i hi z=>by
  simp only[sx,ab3] at hi z;omega
 have lf1:=f1.1;have lc1:=c1.len;obtain⟨U2,g,e,b,e2,k2,f2,g4,g5,g6⟩:=Es (G:=G) x T1;have u2:=f2.get c1.at_ (by simp);obtain⟨T2,b2,c2⟩:=eM (f:="hearer") (fo:=h_) (fe:=aj (iY G.g_ (bS G)) (aa v_ ai)) (r:=r) (ax (af (v1 _) ah) e2) (v0 _) u2;have lf2:=f2.1;have lc2:=c2.len;have hm:=bq Vj.ms;have hp:=bq Vj.ps;have hq:=bq Vj.nt;have hnS:=bq Vj.ob;have XJ:HY G T2 T0.length m p q (Sr.new x y):=(Vj.fr f2 (fun i hi z=>nomatch z)).fr c2.fr fun i hi z=>by
  simp only[sx,ab3] at hi z;omega
 have QQ:Iz G T2 T1.length g e b (Hr.new x):=k2.fr c2.fr (by simp;omega) (by simp;omega) (by simp;omega) (by simp;omega);have hg:=bq QQ.gv;have he:=bq QQ.ea;have hb:=bq QQ.be;have hnH:=bq QQ.ob;obtain⟨nR,Ud⟩:∃nR,nR=T2.length:=⟨_,rfl⟩;obtain⟨T3,OD⟩:∃T3,T2++[Cell.Js [(.inr ("there":Str),.ob (nR+1)),(.inr ("back":Str),.ob (nR+2))]]++[.lst []]++[.lst []]=T3:=⟨_,rfl⟩;have dd:rC (jg (dT "there") (bT ai) (jg (dT "back") (bT ai) tQ)) r T2=.ok (.ob nR) T3:=by
  unfold rC jg tQ;simp only[au,wy,jW];rw[bU ah (by decide)];simp only[au];rw[bU ah (by decide)];simp only[];have hd:dE (T2++[Cell.Js []]++[.lst []]++[.lst []]) T2.length=some []:=by
   unfold dE;rw[aB (aB (aQ rfl))]
  have hk:oX [(D.str "there",D.ob (T2++[Cell.Js []]).length),(D.str "back",D.ob (T2++[Cell.Js []]++[Cell.lst []]).length)]=some [(.inr ("there":Str),.ob (nR+1)),(.inr ("back":Str),.ob (nR+2))]:=by
   rw[Ud];simp[oX,ir]
  rw[hd,hk];dsimp only;have e:decide ((Sum.inr ("there":Str):Key)=Sum.inr ("back":Str))=false:=by decide
  have hmg:um [] [((.inr ("there":Str):Key),D.ob (nR+1)),(.inr ("back":Str),D.ob (nR+2))]=[(.inr ("there":Str),.ob (nR+1)),(.inr ("back":Str),.ob (nR+2))]:=by
   simp only[um,ar8,List.foldl_nil,sT,List.any_nil,ao2,e,au0,av5,ar9,Bool.or_false];rfl
  rw[bY (by simp),hmg,<-OD,Ud];congr 1;rw[ae2,ae2,ag4 _ _ (aa1 _)];simp
 have u3:T3[n]?=some (.ins G.World ["sender","hearer"] [.ob T0.length,.ob T1.length]):=by rw[<-OD];exact aB (aB (aB c2.at_))
 obtain⟨T4,b3,c3⟩:=eM (f:="roads") (fo:=h_) (fe:=rC (jg (dT "there") (bT ai) (jg (dT "back") (bT ai) tQ))) (r:=r) dd (v0 _) u3;have l3:T3.length=nR+3:=by rw[<-OD,Ud];simp
 have lc3:=c3.len;have f3:Fr [] T2 T3:=by rw[<-OD,ae2,ae2];exact Fr.push
 have O4:n<T0.length:=by omega
 have r1:T3[nR]?=some (.Js [(.inr ("there":Str),.ob (nR+1)),(.inr ("back":Str),.ob (nR+2))]):=by rw[<-OD];exact aB (aB (aQ Ud))
 have r2:T3[nR+1]?=some (.lst []):=by rw[<-OD];exact aB (aQ (by rw[Ud];simp))
 have r3:T3[nR+2]?=some (.lst []):=by rw[<-OD];exact aQ (by rw[Ud];simp)
 have q1:n≠nR:=by omega
 have q2:n≠nR+1:=by omega
 have q3:n≠nR+2:=by omega
 refine⟨T4,⟨n,T0.length,m,p,q,T1.length,g,e,b,nR,nR+1,nR+2⟩,?_,⟨c3.at_,?_,?_,c3.old r1 q1,c3.old r2 q2,c3.old r3 q3,?_,?_,?_,by simp⟩,?_,hn,?_⟩
 ·unfold iY;have:cI G [.ob S.length,.int (x:Int),.int (y:Int)] (S++[.ins G.World [] []])=.ok .Hw T4:=by
   rw[Wd,<-hn];show fin T0 (dQ G [sO n,sI (x:Int),sI (y:Int)] T0)=_;rw[<-hr];unfold dQ;have b2':cO G.World ["sender"] "hearer" h_ (aj (iY G.g_ (bS G)) (aa v_ ai)) r T1=some (.nx r,T2):=b2;rw[aw b1,aw b2'];rw[show cO G.World ["sender","hearer"] "roads" h_ (rC (jg (dT "there") (bT ai) (jg (dT "back") (bT ai) tQ))) r T2=some (.nx r,T4) from b3];rfl
  rw[this]
 ·exact(XJ.fr f3 (fun i hi z=>nomatch z)).fr c3.fr fun i hi z=>by
   simp only[sx,ab3] at hi z;omega
 ·exact(QQ.fr f3 (by simp) (by simp) (by simp) (by simp)).fr c3.fr (by simp;omega) (by simp;omega) (by simp;omega) (by simp;omega)
 ·intro i hi j hj;simp only[Ad.sf,Ad.hf,sx] at hi hj;omega
 ·intro i hi j hj;simp only[Ad.sf,Ad.wf,sx] at hi hj;omega
 ·intro i hi j hj;simp only[Ad.hf,Ad.wf,sx] at hi hj;omega
 ·have fS:Fr [n] S T4:=(((((show Fr [n] S T0 by rw[<-Wd];exact Fr.push).tr (f1.mono fun i hi _=>nomatch hi)).tr c1.fr).tr (f2.mono fun i hi _=>nomatch hi)).tr c2.fr).tr ((f3.mono fun i hi _=>nomatch hi).tr c3.fr);exact⟨fS.1,fun i hi _=>fS.2 i hi (by simp;omega)⟩
 ·intro i hi;simp only[Ad.fp,Ad.sf,Ad.hf,Ad.wf,ab0,sx] at hi;omega
inductive LA where
 |KZ|hand (c:Int)|tick|step (r:Bool)|Ir (k:Nat) (r:Bool) (i:Nat) (c:Int)|Ik (r:Bool)
def BH:Nat->Str
 |0=>"lose"
 |1=>"double"
 |_=>"spoil"
def LA.kn:LA->Str
 |.KZ=>"open"
 |.hand _=>"hand"
 |.tick=>"tick"
 |.step _=>"step"
 |.Ir k _ _ _=>BH k
 |.Ik _=>"fall"
def LA.d:LA->D
 |.KZ=>.tup [.str "open"]
 |.hand c=>.tup [.str "hand",.int c]
 |.tick=>.tup [.str "tick"]
 |.step r=>.tup [.str "step",.str (bB r)]
 |.Ir k r i c=>.tup [.str (BH k),.str (bB r),.int (i:Int),.int c]
 |.Ik r=>.tup [.str "fall",.str (if r then "sender" else "hearer")]
def LA.act:LA->Act
 |.KZ=>.start
 |.hand c=>.hand (jQ c 12)
 |.tick=>.tick
 |.step r=>.step r
 |.Ir 0 r i _=>.Px r i
 |.Ir 1 r i _=>.dbl r i
 |.Ir _ r i c=>.Nc r i (mx c 9829 16) (mx c 9817 256:Nat)
 |.Ik r=>.Ik r
def A4(c:Int)(L:Nat):Rg (jQ c L):=fun x hx=>by
 unfold jQ at hx;obtain⟨k,_,rfl⟩:=ab6.mp hx;have:=mr (c+31 * k) (p:=9967) (m:=256) (by decide);omega
theorem LA.ok(t:LA):t.act.ok:=by
 cases t with
 |hand c=>exact⟨ab5 (uj c 12) (by decide),A4 c 12⟩
 |Ir k r i c=>
  match k with
  |0=>trivial
  |1=>trivial
  |_+2=>trivial
 |_=>trivial
def BL(t:LA)(S:ay4):w_ t.d (.int 0) S=.ok (.str t.kn) S:=by cases t<;>exact aO (i:=0) rfl
def BB(t:LA):(PyData.str t.kn).canLay0=true:=by
 cases t with
 |Ir k r i c=>
  match k with
  |0=>exact(by decide:(PyData.str "lose").canLay0=true)
  |1=>exact(by decide:(PyData.str "double").canLay0=true)
  |_+2=>exact(by decide:(PyData.str "spoil").canLay0=true)
 |KZ=>exact(by decide:(PyData.str "open").canLay0=true)
 |hand c=>exact(by decide:(PyData.str "hand").canLay0=true)
 |tick=>exact(by decide:(PyData.str "tick").canLay0=true)
 |step r=>exact(by decide:(PyData.str "step").canLay0=true)
 |Ik r=>exact(by decide:(PyData.str "fall").canLay0=true)
def rR(t:LA)(k:Str)(hk:(PyData.str k).canLay0=true:=by decide)(r0:Option D)(S:ay4):ao (f_ HJ (f_ w_ v_ (dI 0)) (dC (.str k))) [r0,some t.d] S=.ok (decide (t.kn=k)) S:=
 az (av (av rfl rfl (BL t S)) rfl (bg (BB t) hk rfl))
def Gf(A:Kp G S a w)(K:JO N w)(hN:N<20000)(t:LA):∃S' a',lY G [.ob a.n,t.d] S=.ok .Hw S'/\JT G a S a' S' (w.act t.act):=by
 show ∃S' a',fin S (mX G [sO a.n,some t.d] S)=_/\_;unfold mX;have i1:=rR t "hand" (r0:=some (.ob a.n)) (S:=S);have i2:=rR t "tick" (r0:=some (.ob a.n)) (S:=S);have i3:=rR t "step" (r0:=some (.ob a.n)) (S:=S);have i4:=rR t "lose" (r0:=some (.ob a.n)) (S:=S);have i5:=rR t "double" (r0:=some (.ob a.n)) (S:=S);have i6:=rR t "spoil" (r0:=some (.ob a.n)) (S:=S);have i7:=rR t "fall" (r0:=some (.ob a.n)) (S:=S);have SA:N<=20000:=by omega
 cases t with
 |hand c=>
  have hl:=uj c 12;obtain⟨S',a',e,k⟩:=DJ A K hN (m:=jQ c 12) (by omega);rw[show decide ((LA.hand c).kn=("hand":Str))=true from (by decide:decide (("hand":Str) = "hand")=true)] at i1;refine⟨S',a',?_,k⟩;rw[aT i1,aX (bc rfl A.ob (af (ax (af (av rfl rfl (aO (i:=1) rfl)) (af rfl ah)) (qB c 12 (by decide) S)) ah) e)];rfl
 |tick=>
  obtain⟨S',a',e,k⟩:=El A K SA;rw[show decide (LA.tick.kn=("hand":Str))=false by decide] at i1;rw[show decide (LA.tick.kn=("tick":Str))=true by decide] at i2;refine⟨S',a',?_,k⟩;rw[ay i1,aT i2,aX (bc rfl A.ob ah e)];rfl
 |step r=>
  obtain⟨S',a',e,k⟩:=CO A K hN r;rw[show decide ((LA.step r).kn=("hand":Str))=false from (by decide:decide (("step":Str) = "hand")=false)] at i1;rw[show decide ((LA.step r).kn=("tick":Str))=false from (by decide:decide (("step":Str) = "tick")=false)] at i2;rw[show decide ((LA.step r).kn=("step":Str))=true from (by decide:decide (("step":Str) = "step")=true)] at i3;refine⟨S',a',?_,k⟩;rw[ay i1,ay i2,aT i3,aX (bc rfl A.ob (af (av rfl rfl (aO (i:=1) rfl)) ah) e)];rfl
 |Ir k r i c=>
  match k with
  |0=>
   obtain⟨S',a',e,k⟩:=D6 A r i;rw[show decide ((LA.Ir 0 r i c).kn=("hand":Str))=false from (by decide:decide (("lose":Str) = "hand")=false)] at i1;rw[show decide ((LA.Ir 0 r i c).kn=("tick":Str))=false from (by decide:decide (("lose":Str) = "tick")=false)] at i2;rw[show decide ((LA.Ir 0 r i c).kn=("step":Str))=false from (by decide:decide (("lose":Str) = "step")=false)] at i3;rw[show decide ((LA.Ir 0 r i c).kn=("lose":Str))=true from (by decide:decide (("lose":Str) = "lose")=true)] at i4;refine⟨S',a',?_,k⟩;rw[ay i1,ay i2,ay i3,aT i4,aX (bc rfl A.ob (af (av rfl rfl (aO (i:=1) rfl)) (af (av rfl rfl (aO (i:=2) rfl)) ah)) e)];rfl
  |1=>
   obtain⟨S',a',e,k⟩:=Fi A K SA r i;rw[show decide ((LA.Ir 1 r i c).kn=("hand":Str))=false from (by decide:decide (("double":Str) = "hand")=false)] at i1;rw[show decide ((LA.Ir 1 r i c).kn=("tick":Str))=false from (by decide:decide (("double":Str) = "tick")=false)] at i2;rw[show decide ((LA.Ir 1 r i c).kn=("step":Str))=false from (by decide:decide (("double":Str) = "step")=false)] at i3;rw[show decide ((LA.Ir 1 r i c).kn=("lose":Str))=false from (by decide:decide (("double":Str) = "lose")=false)] at i4;rw[show decide ((LA.Ir 1 r i c).kn=("double":Str))=true from (by decide:decide (("double":Str) = "double")=true)] at i5;refine⟨S',a',?_,k⟩;rw[ay i1,ay i2,ay i3,ay i4,aT i5,aX (bc rfl A.ob (af (av rfl rfl (aO (i:=1) rfl)) (af (av rfl rfl (aO (i:=2) rfl)) ah)) e)];rfl
  |j+2=>
   obtain⟨S',a',e,k⟩:=BJ A K SA r i (mx c 9829 16) (mx c 9817 256:Nat);rw[show decide ((LA.Ir (j+2) r i c).kn=("hand":Str))=false from (by decide:decide (("spoil":Str) = "hand")=false)] at i1;rw[show decide ((LA.Ir (j+2) r i c).kn=("tick":Str))=false from (by decide:decide (("spoil":Str) = "tick")=false)] at i2;rw[show decide ((LA.Ir (j+2) r i c).kn=("step":Str))=false from (by decide:decide (("spoil":Str) = "step")=false)] at i3;rw[show decide ((LA.Ir (j+2) r i c).kn=("lose":Str))=false from (by decide:decide (("spoil":Str) = "lose")=false)] at i4;rw[show decide ((LA.Ir (j+2) r i c).kn=("double":Str))=false from (by decide:decide (("spoil":Str) = "double")=false)] at i5;rw[show decide ((LA.Ir (j+2) r i c).kn=("spoil":Str))=true from (by decide:decide (("spoil":Str) = "spoil")=true)] at i6;refine⟨S',a',?_,k⟩;have x3:∀T,f_ w_ v_ (dI 3) [sO a.n,some (LA.Ir (j+2) r i c).d] T=.ok (.int c) T:=fun T=>av rfl rfl (aO (i:=3) rfl)
   have x1:∀T,f_ w_ v_ (dI 1) [sO a.n,some (LA.Ir (j+2) r i c).d] T=.ok (.str (bB r)) T:=fun T=>av rfl rfl (aO (i:=1) rfl)
   have x2:∀T,f_ w_ v_ (dI 2) [sO a.n,some (LA.Ir (j+2) r i c).d] T=.ok (.int (i:Int)) T:=fun T=>av rfl rfl (aO (i:=2) rfl)
   have y1:aj aE (aa (f_ w_ v_ (dI 3)) (aa (dI 9829) (aa (dI 16) ai))) [sO a.n,some (LA.Ir (j+2) r i c).d] S=.ok (.int (mx c 9829 16:Nat)) S:=jy 9829 16 (x3 _);have y2:aj aE (aa (f_ w_ v_ (dI 3)) (aa (dI 9817) (aa (dI 256) ai))) [sO a.n,some (LA.Ir (j+2) r i c).d] S=.ok (.int (mx c 9817 256:Nat)) S:=jy 9817 256 (x3 _);rw[ay i1,ay i2,ay i3,ay i4,ay i5,aT i6,aX (bc rfl A.ob (af (x1 _) (af (x2 _) (af y1 (af y2 ah)))) e)];rfl
 |Ik r=>
  obtain⟨S',a',e,k⟩:=Ep A r;rw[show decide ((LA.Ik r).kn=("hand":Str))=false from (by decide:decide (("fall":Str) = "hand")=false)] at i1;rw[show decide ((LA.Ik r).kn=("tick":Str))=false from (by decide:decide (("fall":Str) = "tick")=false)] at i2;rw[show decide ((LA.Ik r).kn=("step":Str))=false from (by decide:decide (("fall":Str) = "step")=false)] at i3;rw[show decide ((LA.Ik r).kn=("lose":Str))=false from (by decide:decide (("fall":Str) = "lose")=false)] at i4;rw[show decide ((LA.Ik r).kn=("double":Str))=false from (by decide:decide (("fall":Str) = "double")=false)] at i5;rw[show decide ((LA.Ik r).kn=("spoil":Str))=false from (by decide:decide (("fall":Str) = "spoil")=false)] at i6;rw[show decide ((LA.Ik r).kn=("fall":Str))=true from (by decide:decide (("fall":Str) = "fall")=true)] at i7;refine⟨S',a',?_,k⟩;rw[ay i1,ay i2,ay i3,ay i4,ay i5,ay i6,aT i7,aX (bc rfl A.ob (af (av rfl rfl (aO (i:=1) rfl)) ah) e)];rfl
 |KZ=>
  obtain⟨S',a',e,k⟩:=AY A K SA;rw[show decide (LA.KZ.kn=("hand":Str))=false by decide] at i1;rw[show decide (LA.KZ.kn=("tick":Str))=false by decide] at i2;rw[show decide (LA.KZ.kn=("step":Str))=false by decide] at i3;rw[show decide (LA.KZ.kn=("lose":Str))=false by decide] at i4;rw[show decide (LA.KZ.kn=("double":Str))=false by decide] at i5;rw[show decide (LA.KZ.kn=("spoil":Str))=false by decide] at i6;rw[show decide (LA.KZ.kn=("fall":Str))=false by decide] at i7;refine⟨S',a',?_,k⟩;rw[ay i1,ay i2,ay i3,ay i4,ay i5,ay i6,ay i7,aX (bc rfl A.ob ah e)];rfl
end
def vY{xs:ay7}(i k:Nat):fQ xs (some (i:Int)) (some ((i:Int)+(k:Int)))=(xs.drop i).take k:=by
 unfold fQ;have e:(i:Int)+(k:Int)=((i+k:Nat):Int):=by omega
 rw[e,HT.Kk,HT.Kk];by_cases h:i<=xs.length
 ·rw[ag7 h];by_cases h2:i+k<=xs.length
  ·rw[ag7 h2,show i+k-i=k by omega]
  ·rw[ap9 (by omega),ah4 (by rw[ae8];omega),ah4 (by rw[ae8];omega)]
 ·rw[ap9 (show xs.length<=i by omega),ap9 (show xs.length<=i+k by omega),al4 (aa1 _),al4 (by omega)];simp
def oa{S:ay4}{a b:Nat}{xs ys:ay7}(h1:S[a]?=some (.lst xs))(h2:S[b]?=some (.lst ys))(hz:(xs++ys).length<=1000000):bI (.ob a) (.ob b) S=.ok (.ob S.length) (S++[.lst (xs++ys)]):=by
 simp only[bI,bQ h1,bQ h2,w5 hz]
def AC{S:ay4}{a:Nat}{xs:ay7}{k:Nat}(h:S[a]?=some (.lst xs))(hz:xs.length * k<=1000000)(hk:k<=1000000):ik (.ob a) (.int (k:Int)) S=.ok (.ob S.length) (S++[.lst (replicate k xs).flatten]):=by
 unfold ik;simp only[bQ h];rw[bY ⟨⟨by omega,by omega⟩,by rw[af4];exact ag1 (P_ hz)⟩,af4]
section
variable{G:Cs}{S S' S1 S2:ay4}{a a' a1 a2:Ad}{w w' w1 w2:WW}{N:Nat}
def gO(falls:Bool)(c:Int):List LA:=
 if mx c 9859 20<2 then [.hand c] else if mx c 9859 20<6 then [.tick] else if mx c 9859 20<14 then replicate (1+mx c 9851 4) (.step (decide (mx c 9857 2=0)))
 else if mx c 9859 20<17 then [.Ir (mx c 9859 20-14) (decide (mx c 9857 2=0)) (mx c 9839 6) c] else if mx c 9859 20=17/\falls=true then [.Ik (decide (mx c 9833 2=0))] else [.KZ]
def dL(falls:Bool)(ns:ax3):List LA:=[.KZ,.hand (cv ns 2)]++((ns.drop 3).take 60).flatMap (gO falls)
def AO(falls:Bool)(c:Int):(gO falls c).length<=4:=by
 have:=mr c (p:=9851) (m:=4) (by decide);unfold gO;split
 ·simp
 ·split
  ·simp
  ·split
   ·rw[am6];omega
   ·split
    ·simp
    ·split<;>simp
theorem oP(falls:Bool):∀l:List Int,(l.flatMap (gO falls)).length<=4 * l.length
 |[]=>by simp
 |c :: l=>by
  have h1:=AO falls c;have h2:=oP falls l;rw[ap0,aa8,ab8];omega
def BV(falls:Bool)(ns:ax3):(dL falls ns).length<=242:=by
 have h1:=oP falls ((ns.drop 3).take 60);have h2:((ns.drop 3).take 60).length<=60:=by rw[ad7];omega
 unfold dL;rw[aa8];simp only[ab8,as6];omega
structure Row(S0 S:ay4)(l:Nat)(xs:List LA):Prop where
 at_:S[l]?=some (.lst (xs.map LA.d))
 fr:Fr [] S0 S
 new:S0.length<=l
def w4{S0 S:ay4}{l:Nat}{c:Cell}(f:Fr [] S0 S)(h:S0.length<=l):Fr [] S0 (S.set l c):=by
 refine⟨by rw[ap4];exact f.1,fun i hi _=>?_⟩;rw[ag6 (by omega)];exact f.2 i hi (by simp)
def Row.app{S0:ay4}{l:Nat}{xs:List LA}(R:Row S0 S l xs)(t:LA)(hz:xs.length<1000){ft:ay6}{r:r_}(h2:Ic r S=.ok (.ob l) S)(h3:ft r S=.ok [t.d] S):∃S',bx (KU iN Ic ft) r S=some (.nx r,S')/\Row S0 S' l (xs++[t])/\Fr [l] S S':=by
 have ee:=pc (n:=l) (d:=t.d) R.at_ (by rw[aa7];omega);refine⟨S.set l (.lst ((xs++[t]).map LA.d)),?_,⟨dh R.at_,w4 R.fr R.new,R.new⟩,Fr.set (by simp)⟩;rw[aX (j4 h2 R.at_ h3 ee),ae0];rfl
def DI{ns:ax3}:fQ (ns.map D.int) (some 3) (some 63)=((ns.drop 3).take 60).map D.int:=by
 have h:=vY (xs:=ns.map D.int) 3 60;rw[<-as9,<-aq6] at h;exact h
def q7{S0 S:ay4}{l:Nat}{xs:List LA}(R:Row S0 S l xs)(c:ay4):Row S0 (S++c) l xs:=⟨aB R.at_,R.fr.tr Fr.push,R.new⟩
def zY{S0:ay4}{falls:Bool}{ns:ax3}{c:Int}{l kk:Nat}{xs:List LA}{x4 x5:Option D}{cs:ay7}(R:Row S0 S l xs)(hz:xs.length<900)(hk:S[kk]?=some (.lst cs))(hkl:kk≠l) :
  ∃S' l' y4 y5,fD [sR ns,some (.bl falls),sO l,sI c,x4,x5] S=some (.nx [sR ns,some (.bl falls),sO l',sI c,y4,y5],S')/\Row S0 S' l' (xs++gO falls c)/\S'[kk]?=some (.lst cs)/\(l'=l\/S.length<=l'):=by
 unfold fD;have t20:=mr c (p:=9859) (m:=20) (by decide);obtain⟨t,ht⟩:∃t,mx c 9859 20=t:=⟨_,rfl⟩;have m1:aj aE (aa H_ (aa (dI 9859) (aa (dI 20) ai))) [sR ns,some (.bl falls),sO l,sI c,x4,x5] S=.ok (.int (t:Int)) S:=by
  rw[<-ht];exact jy 9859 20 rfl
 rw[aw (bh m1)];show ∃S' l' y4 y5,aI _ _ [sR ns,some (.bl falls),sO l,sI c,sI (t:Int),x5] S=_/\_;have t2:=mr c (p:=9857) (m:=2) (by decide);obtain⟨rd,Sq⟩:∃rd,decide (mx c 9857 2=0)=rd:=⟨_,rfl⟩;obtain⟨T,hT⟩:∃T,S++[Cell.lst [.str "there",.str "back"]]=T:=⟨_,rfl⟩;have m2:f_ w_ (bT (aa (dT "there") (aa (dT "back") ai))) (aj aE (aa H_ (aa (dI 9857) (aa (dI 2) ai)))) [sR ns,some (.bl falls),sO l,sI c,sI (t:Int),x5] S=.ok (.str (bB rd)) T:=by
  rw[<-hT];have y:aj aE (aa H_ (aa (dI 9857) (aa (dI 2) ai))) [sR ns,some (.bl falls),sO l,sI c,sI (t:Int),x5] (S++[.lst [.str "there",.str "back"]])=.ok (.int (mx c 9857 2:Nat)) (S++[.lst [.str "there",.str "back"]]):=jy 9857 2 rfl;refine av (bU (af rfl (af rfl ah)) (by simp)) y (j9 bE ?_);rw[<-Sq];rcases (show mx c 9857 2=0\/mx c 9857 2=1 by omega) with h|h<;>rw[h]<;>rfl
 have R1:Row S0 T l xs:=by rw[<-hT];exact q7 R _
 have Tj:T[kk]?=some (.lst cs):=by rw[<-hT];exact aB hk
 have lT:T.length=S.length+1:=by rw[<-hT];simp
 rw[aw (bh m2)];show ∃S' l' y4 y5,IJ _ _ _ [sR ns,some (.bl falls),sO l,sI c,sI (t:Int),sS (bB rd)] T=_/\_;obtain⟨r,hr⟩:∃r:r_,[sR ns,some (.bl falls),sO l,sI c,sI (t:Int),sS (bB rd)]=r:=⟨_,rfl⟩;have v1:∀S,v_ r S=.ok (.bl falls) S:=fun S=>by rw[<-hr];rfl
 have v2:∀S,Ic r S=.ok (.ob l) S:=fun S=>by rw[<-hr];rfl
 have v3:∀S,H_ r S=.ok (.int c) S:=fun S=>by rw[<-hr];rfl
 have v4:∀S,Jy r S=.ok (.int (t:Int)) S:=fun S=>by rw[<-hr];rfl
 have v5:∀S,Nb r S=.ok (.str (bB rd)) S:=fun S=>by rw[<-hr];rfl
 have lt:∀k:Nat,ao (f_ Kv Jy (dC (.int (k:Int)))) r T=.ok (decide (t<k)) T:=fun k=>by
  refine az (av (v4 _) rfl ?_);rw[sL];congr 2;rw[ac3];omega
 have We:ao (f_ Kv Jy (dI 2)) r T=.ok (decide (t<2)) T:=lt 2;have Wf:ao (f_ Kv Jy (dI 6)) r T=.ok (decide (t<6)) T:=lt 6;have Rj:ao (f_ Kv Jy (dI 14)) r T=.ok (decide (t<14)) T:=lt 14;have Rk:ao (f_ Kv Jy (dI 17)) r T=.ok (decide (t<17)) T:=lt 17;have XM:ao (f_ HJ Jy (dI 17)) r T=.ok (decide (t=17)) T:=by
  refine az (av (v4 _) rfl ?_);rw[iO];congr 2;rw[ac3];omega
 rw[hr];have Mi:∀{b:HK}(la:LA) {ft:ay6},b=bx (KU iN Ic ft)->ft r T=.ok [la.d] T->gO falls c=[la]->∃S' l' y4 y5,b r T=some (.nx [sR ns,some (.bl falls),sO l',sI c,y4,y5],S')/\Row S0 S' l' (xs++gO falls c)/\S'[kk]?=some (.lst cs)/\(l'=l\/S.length<=l'):=by
  intro b la ft hb hf ht;obtain⟨S',e,R',f⟩:=R1.app la (by omega) (v2 _) hf;rw[ht,hb];exact⟨S',l,_,_,by rw[e,<-hr],R',f.get Tj (by simpa using hkl),.inl rfl⟩
 unfold gO at *;rw[ht,Sq] at *;by_cases h2:t<2
 ·rw[aa3 h2] at We;rw[aT We];simp only[ab2 h2] at Mi ⊢;exact Mi (.hand c) rfl (af (bL (af rfl (af (v3 _) ah)) (by simp)) ah) rfl
 ·rw[aa5 h2] at We;rw[ay We];simp only[ab1 h2] at Mi ⊢;by_cases h6:t<6
  ·rw[aa3 h6] at Wf;rw[aT Wf];simp only[ab2 h6] at Mi ⊢;exact Mi .tick rfl (af (bL (af rfl ah) (by simp)) ah) rfl
  ·rw[aa5 h6] at Wf;rw[ay Wf];simp only[ab1 h6] at Mi ⊢;by_cases Wg:t<14
   ·rw[aa3 Wg] at Rj;rw[aT Rj];simp only[ab2 Wg];have t4:=mr c (p:=9851) (m:=4) (by decide);obtain⟨j,hj⟩:∃j,mx c 9851 4=j:=⟨_,rfl⟩;rw[hj] at t4 ⊢;obtain⟨U,hU⟩:∃U,T++[Cell.lst [LA.d (.step rd)]]++[.lst ((replicate (1+j) (LA.step rd)).map LA.d)]=U:=⟨_,rfl⟩;have y:∀T,f_ bI (dI 1) (aj aE (aa H_ (aa (dI 9851) (aa (dI 4) ai)))) r T=.ok (.int ((1+j:Nat):Int)) T:=fun T=>by
     have y0:aj aE (aa H_ (aa (dI 9851) (aa (dI 4) ai))) r T=.ok (.int (mx c 9851 4:Nat)) T:=jy 9851 4 (v3 _);refine av rfl y0 ?_;rw[ck,hj];congr 2
    have XN:(replicate (1+j) [LA.d (.step rd)]).flatten=(replicate (1+j) (LA.step rd)).map LA.d:=by
     rw[List.map_replicate]
     induction (1+j) with
     |zero=>rfl
     |succ k ih=>rw[ai0,am7,ih,ai0];rfl
    have mu:f_ ik (bT (aa (ci (aa (dT "step") (aa Nb ai))) ai)) (f_ bI (dI 1) (aj aE (aa H_ (aa (dI 9851) (aa (dI 4) ai))))) r T=.ok (.ob (T.length+1)) U:=by
     refine av (bU (af (bL (af rfl (af (v5 _) ah)) (by simp)) ah) (by simp)) (y _) ?_;rw[<-hU];rw[AC (aQ rfl) (by simp;omega) (by omega)];have e:(replicate (1+j) [D.tup [D.str "step",D.str (bB rd)]]).flatten=(replicate (1+j) (LA.step rd)).map LA.d:=XN;rw[e];simp[LA.d]
    have QH:U[l]?=some (.lst (xs.map LA.d)):=by rw[<-hU];exact aB (aB R1.at_)
    have XQ:U[T.length+1]?=some (.lst ((replicate (1+j) (LA.step rd)).map LA.d)):=by rw[<-hU];exact aQ (by simp)
    have ad:f_ bI Ic (f_ ik (bT (aa (ci (aa (dT "step") (aa Nb ai))) ai)) (f_ bI (dI 1) (aj aE (aa H_ (aa (dI 9851) (aa (dI 4) ai)))))) r T=.ok (.ob U.length) (U++[.lst ((xs++replicate (1+j) (LA.step rd)).map LA.d)]):=by
     refine av (v2 _) mu ?_;rw[ae0];exact oa QH XQ (by simp;omega)
    have lU:T.length<=U.length:=by rw[<-hU];simp
    have fU:Fr [] T U:=by rw[<-hU,ae2];exact Fr.push
    have hs:=R1.fr.1;refine⟨_,U.length,sI (t:Int),sS (bB rd),?_,⟨bE,(R1.fr.tr fU).tr Fr.push,by omega⟩,aB (fU.get Tj (by simp)),.inr (by omega)⟩;rw[bh ad,<-hr];rfl
   ·rw[aa5 Wg] at Rj;rw[ay Rj];simp only[ab1 Wg] at Mi ⊢;by_cases Wh:t<17
    ·rw[aa3 Wh] at Rk;rw[aT Rk];simp only[ab2 Wh] at Mi ⊢;obtain⟨T2,N0⟩:∃T2,T++[Cell.lst [.str "lose",.str "double",.str "spoil"]]=T2:=⟨_,rfl⟩;have R2:Row S0 T2 l xs:=by rw[<-N0];exact q7 R1 _
     have R5:T2[kk]?=some (.lst cs):=by rw[<-N0];exact aB Tj
     have sb:∀T,f_ sk Jy (dI 14) r T=.ok (.int ((t-14:Nat):Int)) T:=fun T=>av (v4 _) rfl (by rw[uh];congr 2;omega)
     have kd:f_ w_ (bT (aa (dT "lose") (aa (dT "double") (aa (dT "spoil") ai)))) (f_ sk Jy (dI 14)) r T=.ok (.str (BH (t-14))) T2:=by
      rw[<-N0];refine av (bU (af rfl (af rfl (af rfl ah))) (by simp)) (sb _) (j9 bE ?_);rcases (show t-14=0\/t-14=1\/t-14=2 by omega) with h|h|h<;>rw[h]<;>rfl
     have mm:aj aE (aa H_ (aa (dI 9839) (aa (dI 6) ai))) r T2=.ok (.int (mx c 9839 6:Nat)) T2:=jy 9839 6 (v3 _);have ft:aa (ci (aa (f_ w_ (bT (aa (dT "lose") (aa (dT "double") (aa (dT "spoil") ai)))) (f_ sk Jy (dI 14))) (aa Nb (aa (aj aE (aa H_ (aa (dI 9839) (aa (dI 6) ai)))) (aa H_ ai))))) ai r T=.ok [LA.d (.Ir (t-14) rd (mx c 9839 6) c)] T2:=
      af (bL (af kd (af (v5 _) (af mm (af (v3 _) ah)))) (by simp)) ah
     have ee:=pc (S:=T2) (n:=l) (d:=LA.d (.Ir (t-14) rd (mx c 9839 6) c)) R2.at_ (by rw[aa7];omega);refine⟨T2.set l (.lst ((xs++[LA.Ir (t-14) rd (mx c 9839 6) c]).map LA.d)),l,sI (t:Int),sS (bB rd),?_,⟨dh R2.at_,w4 R2.fr R2.new,R2.new⟩,cJ R5 (af8 hkl),.inl rfl⟩;have:bx (KU iN Ic (aa (ci (aa (f_ w_ (bT (aa (dT "lose") (aa (dT "double") (aa (dT "spoil") ai)))) (f_ sk Jy (dI 14))) (aa Nb (aa (aj aE (aa H_ (aa (dI 9839) (aa (dI 6) ai)))) (aa H_ ai))))) ai)) r T=some (.nx r,T2.set l (.lst ((xs++[LA.Ir (t-14) rd (mx c 9839 6) c]).map LA.d))):=by
      refine aX (d:=.Hw) ?_;rw[ae0];exact j4 (v2 _) R1.at_ ft ee
     rw[this,<-hr]
    ·rw[aa5 Wh] at Rk;rw[ay Rk];simp only[ab1 Wh] at Mi ⊢;have an:dc (ao (f_ HJ Jy (dI 17))) (bM v_) r T=.ok (decide (t=17/\falls=true)) T:=by
      rw[cL,au,XM];by_cases h:t=17
      ·rw[aa3 h];show bM v_ r T=_;rw[cD,au,v1];cases falls<;>simp[h]
      ·rw[aa5 h];simp[h]
     by_cases hf:t=17/\falls=true
     ·rw[aa3 hf] at an;rw[aT an];simp only[ab2 hf];have t2b:=mr c (p:=9833) (m:=2) (by decide);obtain⟨wh,hwh⟩:∃wh,decide (mx c 9833 2=0)=wh:=⟨_,rfl⟩;rw[hwh];obtain⟨U,hU⟩:∃U,T++[Cell.lst [.str "sender",.str "hearer"]]++[.lst [LA.d (.Ik wh)]]=U:=⟨_,rfl⟩;have y:∀T,aj aE (aa H_ (aa (dI 9833) (aa (dI 2) ai))) r T=.ok (.int (mx c 9833 2:Nat)) T:=fun T=>jy 9833 2 (v3 _)
      have wi:f_ w_ (bT (aa (dT "sender") (aa (dT "hearer") ai))) (aj aE (aa H_ (aa (dI 9833) (aa (dI 2) ai)))) r T=.ok (.str (if wh then "sender" else "hearer")) (T++[.lst [.str "sender",.str "hearer"]]):=by
       refine av (bU (af rfl (af rfl ah)) (by simp)) (y _) (j9 bE ?_);rw[<-hwh];rcases (show mx c 9833 2=0\/mx c 9833 2=1 by omega) with h|h<;>rw[h]<;>rfl
      have ls:bT (aa (ci (aa (dT "fall") (aa (f_ w_ (bT (aa (dT "sender") (aa (dT "hearer") ai))) (aj aE (aa H_ (aa (dI 9833) (aa (dI 2) ai))))) ai))) ai) r T=.ok (.ob (T.length+1)) U:=by
       rw[bU (af (bL (af rfl (af wi ah)) (by simp)) ah) (by simp),<-hU];simp[LA.d]
      have QH:U[l]?=some (.lst (xs.map LA.d)):=by rw[<-hU];exact aB (aB R1.at_)
      have XQ:U[T.length+1]?=some (.lst [LA.d (.Ik wh)]):=by rw[<-hU];exact aQ (by simp)
      have ad:f_ bI Ic (bT (aa (ci (aa (dT "fall") (aa (f_ w_ (bT (aa (dT "sender") (aa (dT "hearer") ai))) (aj aE (aa H_ (aa (dI 9833) (aa (dI 2) ai))))) ai))) ai)) r T=.ok (.ob U.length) (U++[.lst ((xs++[LA.Ik wh]).map LA.d)]):=by
       refine av (v2 _) ls ?_;rw[ae0];exact oa QH XQ (by simp;omega)
      have lU:T.length<=U.length:=by rw[<-hU];simp
      have fU:Fr [] T U:=by rw[<-hU,ae2];exact Fr.push
      have hs:=R1.fr.1;refine⟨_,U.length,sI (t:Int),sS (bB rd),?_,⟨bE,(R1.fr.tr fU).tr Fr.push,by omega⟩,aB (fU.get Tj (by simp)),.inr (by omega)⟩;rw[bh ad,<-hr];rfl
     ·rw[aa5 hf] at an;rw[ay an];simp only[ab1 hf] at Mi ⊢;exact Mi .KZ rfl (af (bL (af rfl ah) (by simp)) ah) rfl
def Eu(falls:Bool)(ns:ax3)(S:ay4):∃S' l,gL [.Kh (ns.map D.int),.bl falls] S=.ok (.ob l) S'/\Row S S' l (dL falls ns):=by
 show ∃S' l,fin S (kB [sR ns,some (.bl falls),none,none,none,none] S)=_/\_;unfold kB;have e1:bT (aa (ci (aa (dT "open") ai)) (aa (ci (aa (dT "hand") (aa (aj bP (aa h_ (aa (dI 2) ai))) ai))) ai)) [sR ns,some (.bl falls),none,none,none,none] S=.ok (.ob S.length) (S++[.lst ([LA.KZ,.hand (cv ns 2)].map LA.d)]):=
  bU (af (bL (af rfl ah) (by simp)) (af (bL (af rfl (af (ax (af rfl (af rfl ah)) (Gy _)) ah)) (by simp)) ah)) (by simp)
 rw[aw (bh e1)];show ∃S' l,fin S (aI _ _ [sR ns,some (.bl falls),sO S.length,none,none,none] (S++[.lst ([LA.KZ,.hand (cv ns 2)].map LA.d)]))=_/\_;obtain⟨sl,O3⟩:∃sl,(ns.drop 3).take 60=sl:=⟨_,rfl⟩;have hsll:sl.length<=60:=by rw[<-O3,ad7];omega
 obtain⟨S1,PN⟩:∃S1,S++[Cell.lst ([LA.KZ,.hand (cv ns 2)].map LA.d)]=S1:=⟨_,rfl⟩;have R0:Row S S1 S.length [LA.KZ,.hand (cv ns 2)]:=by rw[<-PN];exact⟨bE,Fr.push,aa1 _⟩
 have l1:S1.length=S.length+1:=by rw[<-PN];simp
 rw[PN];have s1:Kt (Kb Jo h_ (bA (dI 3)) (bA (dI 63))) [sR ns,some (.bl falls),sO S.length,none,none,none] S1=.ok ⟨sl.map D.int,some (S1.length,sl.map D.int)⟩ (S1++[.lst (sl.map D.int)]):=by
  rw[n4,au];have:Kb Jo h_ (bA (dI 3)) (bA (dI 63)) [sR ns,some (.bl falls),sO S.length,none,none,none] S1=.ok (.ob S1.length) (S1++[.lst (sl.map D.int)]):=by
   rw[<-O3,<-DI];rfl
  rw[this];simp only[lI,bE]
 obtain⟨r',S',q,l,x3,x4,x5,rfl,k,XR,hlk⟩:=db (g:=some (S1.length,sl.map D.int)) (tg:=gN 3) (b:=fD)
  (fun i r' S'=>∃l x3 x4 x5,r'=[sR ns,some (.bl falls),sO l,x3,x4,x5]/\Row S S' l ([LA.KZ,.hand (cv ns 2)]++(sl.take i).flatMap (gO falls))/\S'[S1.length]?=some (.lst (sl.map D.int))/\S1.length≠l) (sl.map D.int) 0 [sR ns,some (.bl falls),sO S.length,none,none,none] (S1++[.lst (sl.map D.int)])
  (by
   rintro i y r' S' hy ⟨l,x3,x4,x5,rfl,k,XR,hlk⟩;rw[ac8] at hy;cases hp:sl[i]? with
   |none=>rw[hp] at hy;cases hy
   |some c=>
    rw[hp] at hy;cases hy;rw[af7] at k ⊢;have hlen:=oP falls (sl.take i);rw[ad7] at hlen;obtain⟨S2,l2,y4,y5,e2,k2,R5,QH⟩:=zY (falls:=falls) (ns:=ns) (c:=c) (x4:=x4) (x5:=x5) k (by rw[aa8];simp only[ab8,as6];omega) XR hlk;have JZ:=bq XR;refine⟨[sR ns,some (.bl falls),sO l,sI c,x4,x5],_,S2,rfl,e2,R5,l2,_,_,_,rfl,?_,R5,by omega⟩;rw[al2,hp,toList_some,ak7,<-ae2];simpa using k2)
  ⟨S.length,none,none,none,rfl,by simpa using q7 R0 _,bE,by omega⟩
 rw[show 0+(sl.map D.int).length=sl.length by simp,an8] at k;refine⟨S',l,?_,?_⟩
 ·rw[aw (by rw[kg s1];exact q),aS rfl];rfl
 ·unfold dL;rw[O3];exact k
end
def BU{G:Cs}{S:ay4}{a:Ad}{w:WW}(A:Kp G S a w):dR G [.ob a.n] S=.ok (.tup (w.h.given.map JP)) S:=by
 show fin S (eS G [sO a.n] S)=_;unfold eS;rw[aS (ax (af (cj (cj rfl A.ob rfl) A.hr.ob rfl) ah) (fW A.hr.gv))];rfl
section
variable{G:Cs}{S S' S1 S2:ay4}{a a' a1 a2:Ad}{w w' w1 w2:WW}{N:Nat}
def JT.out(k:JT G a S a' S' w'){j:Nat}{c:Cell}(hj:S[j]?=some c)(hn:j∉a.fp):S'[j]?=some c/\j∉a'.fp:=by
 refine⟨k.fr.get hj hn,fun z=>?_⟩;have:=bq hj;rcases k.ad j z with h|h
 ·exact hn h
 ·omega
end
end Lw
namespace Lw
def kf{l:List (Nat×Pc)}{k:Nat}{p:Pc}(h:l.lookup k=some p):(k,p)∈l:=by
 induction l with
 |nil=>simp at h
 |cons a r ih=>
  obtain⟨a1,a2⟩:=a;rw[ai9] at h;cases e:k == a1 with
  |true=>
   rw[e] at h;simp at h;have:=ah7.mp e;subst this h;simp
  |false=>
   rw[e] at h;exact aa9 _ (ih h)
def o7{l:List (Nat×Pc)}{k:Nat}(h:l.lookup k=none):k∉l.map (·.1):=by
 induction l with
 |nil=>simp
 |cons a r ih=>
  obtain⟨a1,a2⟩:=a;rw[ai9] at h;cases e:k == a1 with
  |true=>rw[e] at h;simp at h
  |false=>
   rw[e] at h;have h1:k≠a1:=fun q=>by rw[q,beq_self_eq_true] at e;cases e
   simp only[ac2,ac7,not_or];exact⟨h1,ih h⟩
structure Mj(Q:List Pc)(G:List (Nat×Iu))(h:Hr):Prop where
 he:∀e,e∈h.early->Q[e.1]?=some e.2/\h.nx<=e.1
 hd:(h.early.map (·.1)).Nodup
 hb:h.begun=(QO (Q.take h.nx)).2
 hg:h.given=G++(QO (Q.take h.nx)).1.map fun m=>(h.op,m)
structure Qn(h h':Hr):Prop where
 w:h'.w=h.w
 op:h'.op=h.op
 nx:h.nx<=h'.nx
 keys:∀k,h.nx<=k->k<h'.nx->k∈h.early.map (·.1)
 sub:∀e,e∈h'.early->e∈h.early
 Lv:∀k,k∈h.early.map (·.1)->h'.nx<=k->k∈h'.early.map (·.1)
def Qn.refl(h:Hr):Qn h h:=⟨rfl,rfl,aa1 _,fun k a b=>by omega,fun _ q=>q,fun _ q _=>q⟩
def wG{l:List (Nat×Pc)}{n k:Nat}(hk:k∈l.map (·.1))(hn:k≠n):k∈(l.filter fun e=>decide (e.1≠n)).map (·.1):=by
 obtain⟨e,he,rfl⟩:=ab6.mp hk;exact ab6.mpr ⟨e,ad3.mpr ⟨he,aa3 hn⟩,rfl⟩
def Be{Q:List Pc}{G:List (Nat×Iu)}{h:Hr}{p:Pc}(r:Mj Q G h)(hp:h.early.lookup h.nx=some p):Mj Q G (h.pop.take p)/\(h.pop.take p).early=h.early.filter (fun e=>decide (e.1≠h.nx))/\(h.pop.take p).nx=h.nx+1/\(h.pop.take p).w=h.w/\(h.pop.take p).op=h.op:=by
 have hq:=(r.he _ (kf hp)).1;have ht:Q.take (h.nx+1)=Q.take h.nx++[p]:=by
  have hl:=(aa2.mp hq);obtain⟨h1,h2⟩:=hl;rw[al2,hq];rfl
 have e1:(h.pop.take p).early=h.early.filter (fun e=>decide (e.1≠h.nx)):=by unfold Hr.take Hr.pop;split<;>rfl
 have e2:(h.pop.take p).nx=h.nx+1:=by unfold Hr.take Hr.pop;split<;>rfl
 have e3:(h.pop.take p).w=h.w:=by unfold Hr.take Hr.pop;split<;>rfl
 have e4:(h.pop.take p).op=h.op:=by unfold Hr.take Hr.pop;split<;>rfl
 refine⟨⟨?_,?_,?_,?_⟩,e1,e2,e3,e4⟩
 ·intro e he;rw[e1] at he;obtain⟨a1,a2⟩:=ad3.mp he;have a3:=r.he e a1;have a4:e.1≠h.nx:=by simpa using a2
  rw[e2];exact⟨a3.1,by omega⟩
 ·rw[e1];exact r.hd.sublist ((List.filter_sublist).map _)
 ·rw[e2,ht,wp];unfold Hr.take sF;by_cases hl:p.1=1
  ·rw[ab2 hl,ab2 hl]
  ·rw[ab1 hl,ab1 hl];show h.begun++[p]=_;rw[r.hb]
 ·rw[e2,e4,ht,wp];unfold Hr.take sF;by_cases hl:p.1=1
  ·rw[ab2 hl,ab2 hl];show h.given++[(h.op,ba (h.begun++[p]))]=_;rw[r.hg,r.hb];simp
  ·rw[ab1 hl,ab1 hl];exact r.hg
theorem nE{Q:List Pc}{G:List (Nat×Iu)}:∀(n:Nat) (h:Hr),h.early.length<=n->Mj Q G h->Mj Q G (Hr.Hx n h)/\Qn h (Hr.Hx n h)/\(Hr.Hx n h).nx∉(Hr.Hx n h).early.map (·.1)
 |0,h,hl,r=>by
  have:h.early=[]:=ai2.mp (by omega);exact⟨r,Qn.refl h,by unfold Hr.Hx;rw[this];simp⟩
 |n+1,h,hl,r=>by
  unfold Hr.Hx;cases e:h.early.lookup h.nx with
  |none=>exact⟨r,Qn.refl h,o7 e⟩
  |some p=>
   dsimp only;obtain⟨r',e1,e2,e3,e4⟩:=Be r e;have hm:=kf e;have JZ:(h.pop.take p).early.length<=n:=by
    rw[e1];have:(h.early.filter fun e=>decide (e.1≠h.nx)).length<h.early.length:=am0.mpr ⟨_,hm,by simp⟩;omega
   obtain⟨a,b,c⟩:=nE n _ JZ r';refine⟨a,⟨b.w.trans e3,b.op.trans e4,by have:=b.nx;omega,?_,?_,?_⟩,c⟩
   ·intro k h1 h2;by_cases hk:k=h.nx
    ·rw[hk];exact ab6.mpr ⟨_,hm,rfl⟩
    ·have:=b.keys k (by omega) h2;rw[e1] at this;obtain⟨q,hq,rfl⟩:=ab6.mp this;exact ab6.mpr ⟨q,(ad3.mp hq).1,rfl⟩
   ·intro q hq;have:=b.sub q hq;rw[e1] at this;exact(ad3.mp this).1
   ·intro k hk hn;have hb:=b.nx;exact b.Lv k (by rw[e1];exact wG hk (by omega)) hn
def yb{α:Type}{l:List α}{a:α}(h:l.Nodup)(ha:a∉l):(l++[a]).Nodup:=by
 rw[List.nodup_append];refine⟨h,by simp,fun x hx y hy=>?_⟩;simp at hy;subst hy;exact fun e=>ha (e ▸ hx)
def Aw{Q:List Pc}{G:List (Nat×Iu)}{h:Hr}{i:Nat}{p:Pc}(hw:0<h.w)(r:Mj Q G h)(h1:(h.nx:Int)-h.w<=i)(h2:i<h.nx+h.w)(hp:Q[i]?=some p) :
  Mj Q G (h.keep (i % (2 * h.w)) p)/\(h.keep (i % (2 * h.w)) p).w=h.w/\(h.keep (i % (2 * h.w)) p).op=h.op/\(h.keep (i % (2 * h.w)) p).nx=h.nx/\(∀e,e∈(h.keep (i % (2 * h.w)) p).early->e∈h.early\/e=(i,p))/\(∀e,e∈h.early->e∈(h.keep (i % (2 * h.w)) p).early)/\
   (h.nx<=i->i∈(h.keep (i % (2 * h.w)) p).early.map (·.1)):=by
 have hi:h.idx (i % (2 * h.w))=(i:Int):=by
  unfold Hr.idx;have:((i % (2 * h.w):Nat):Int)=(i:Int) % (2 * (h.w:Int)):=by push_cast;rfl
  rw[this];exact wZ hw h1 (by omega)
 have JZ:i % (2 * h.w)<2 * h.w:=mod_lt _ (by omega);unfold Hr.keep;rw[hi];simp only[af4];by_cases hc:i % (2 * h.w)<2 * h.w/\(h.nx:Int)<=i/\h.early.lookup i=none
 ·rw[ab2 hc];obtain⟨_,c2,c3⟩:=hc;refine⟨⟨?_,?_,r.hb,r.hg⟩,rfl,rfl,rfl,?_,?_,?_⟩
  ·intro e he;rcases ab0.mp he with he|he
   ·exact r.he e he
   ·have:=ab3.mp he;subst this;exact⟨hp,by show h.nx<=i;omega⟩
  ·show(h.early++[(i,p)]).map (·.1) |>.Nodup;rw[ae0];exact yb r.hd (o7 c3)
  ·intro e he;rcases ab0.mp he with he|he
   ·exact .inl he
   ·exact .inr (ab3.mp he)
  ·exact fun e he=>aq0 _ he
  ·intro _;show i∈(h.early++[(i,p)]).map (·.1);rw[ae0];exact af3 _ (by simp)
 ·rw[ab1 hc];refine⟨r,rfl,rfl,rfl,fun e he=>.inl he,fun e he=>he,fun hn=>?_⟩;have:h.early.lookup i≠none:=fun q=>hc ⟨JZ,by omega,q⟩
  cases e:h.early.lookup i with
  |none=>exact absurd e this
  |some q=>exact ab6.mpr ⟨_,kf e,rfl⟩
def Cw.stepT(c:Cw):Cw:=match c.T with
 |[]=>c
 |a :: r=>{ c with h:=(c.h.k_ a).1,T:=r,B:=c.B++(c.h.k_ a).2 }
def Cw.IW(c:Cw):Cw:=match c.B with
 |[]=>c
 |a :: r=>{ c with s:=c.s.k_ a,B:=r }
section
variable{x:Sys}
def qd(b:Tg x){c:BC}(hb:1<=c.op/\c.op<=x.s.op)(hc:∀j bs,c≠.note x.s.op j bs):Tg (x.setB (x.B++[c])):=by
 have hm:∀j bs,BC.note x.s.op j bs∈x.B++[c]->BC.note x.s.op j bs∈x.B:=fun j bs h=>by
  rcases ab0.mp h with h|h
  ·exact h
  ·exact absurd (ab3.mp h).symm (hc j bs)
 refine⟨fun a ha=>?_,fun j bs h=>b.bn j bs (hm j bs h),?_,fun q=>⟨(b.m1 q).1,fun j bs k h=>(b.m1 q).2 j bs k (hm j bs h)⟩,fun k hk=>⟨(b.m2 k hk).1,fun j bs h=>(b.m2 k hk).2 j bs (hm j bs h)⟩,fun j bs h=>b.m4 j bs (hm j bs h),
  fun q j bs h=>b.nh q j bs (hm j bs h),b.nd⟩
 ·rcases ab0.mp ha with ha|ha
  ·exact b.bb a ha
  ·rw[ab3.mp ha];exact hb
 ·refine dq b.bp (by simp) fun a _ a' Pn j bs j' ML _ e2=>?_
  rw[ab3.mp Pn] at e2;exact absurd e2 (hc j' ML)
def qj{y:Sys}{s:Sr}{h:Hr}{T B:List x_}(h1:y.s=s)(h2:y.h=h)(h3:y.T.map y.cT=T)(h4:y.B.map y.cB=B):y.con=⟨s,h,T,B⟩:=by
 unfold Sys.con;rw[h1,h2,h3,h4]
def AQ(v:Iv x){o:Nat}{r:List TC}(hT:x.T=.A_ o :: r):∃y:Sys,Iv y/\y.con=x.con.stepT/\y.s=x.s/\y.st=x.st:=by
 obtain⟨c,t,b⟩:=v;have KH:TC.A_ o∈x.T:=by rw[hT];simp
 obtain⟨Tn,Pf⟩:=t.bd _ KH;have Rl:(TC.A_ o).rank=2 * o:=rfl;have NQ:(TC.A_ o).op=o:=rfl;rw[Rl] at Pf;rw[NQ] at Tn;have Va:=t.rh _ KH;rw[Rl] at Va;have so:=t.so;have r6:=t.r6;rw[hT] at so r6;obtain⟨XS,Vk⟩:=ae1.mp so;obtain⟨_,Vl⟩:=ae1.mp r6;have hm:∀cc,cc∈r->cc∈x.T:=fun cc h=>by rw[hT];exact aa9 _ h
 have Vm:o<=x.s.op:=by omega
 have t1:=pV t hm Vk Vl;have c1:=wR c r;have b1:=wA b r fun h=>.inl (hm _ h)
 have N9:x.con.stepT=⟨x.s,(x.h.k_ (.A_ o)).1,r.map x.cT,x.B.map x.cB++(x.h.k_ (.A_ o)).2⟩:=by
  unfold Sys.con Cw.stepT;rw[hT];rfl
 have tk0:∀q,o<=q->x.tk q=0:=fun q hq=>by
  cases e:x.tk q with
  |zero=>rfl
  |succ n=>
   have:=t.rt q (by omega) _ KH;rw[Rl] at this;omega
 by_cases he:x.h.op=o
 ·refine⟨(x.K0 r).setB ((x.K0 r).B++[.t_ o]),⟨tW c1 _,tJ t1 _,qd (c:=.t_ o) b1 ⟨Tn,Vm⟩ (fun _ _ q=>by cases q)⟩,?_,rfl,rfl⟩;rw[N9];have e1:x.h.k_ (.A_ o)=(x.h,[.t_ o]):=by simp[Hr.k_,he]
  rw[e1];refine qj rfl rfl rfl ?_;show(x.B++[BC.t_ o]).map x.cB=_;rw[ae0];rfl
 ·have JZ:x.h.op<o:=by omega
  have e1:x.h.k_ (.A_ o)=(x.h.begin_ o,[.t_ o]):=by
   simp only[Hr.k_];rw[ab1 (by omega),ab2 JZ]
  refine⟨{ x with h:=x.h.begin_ o,T:=r,B:=x.B++[.t_ o] },⟨?_,?_,?_⟩,?_,rfl,rfl⟩
  ·refine⟨c.w0,c.ww,c.ps,fun q=>⟨(c.OK q).1,(c.OK q).2.1,(c.OK q).2.2.1,fun _=>rfl⟩,c.su,c.sl,c.ch,c.s0,c.bt,c.tw,c.tl,c.tz,c.t0,Vm,fun _=>rfl,(tk0 o (aa1 _)).symm,fun _ q hq=>tk0 q (ag1 hq),?_,nodup_nil,rfl,c.hg,?_,c.n0⟩
   ·intro e q;have:e∈([]:List (Nat×Pc)):=q;simp at this
   ·intro _ e q;have:e∈([]:List (Nat×Pc)):=q;simp at this
  ·refine⟨Vk,t1.bd,t1.bo,t1.rt,?_,fun q=>absurd rfl q,t1.r2,t1.r3,?_,Vl,t1.r7⟩
   ·intro cc h;have:=XS cc h;rw[Rl] at this;exact this
   ·intro i h;have:=t.r3 o i KH (hm _ h);refine⟨?_,ae7 _,fun e q=>?_⟩
    ·show i<0+x.s.w;omega
    ·have:e∈([]:List (Nat×Pc)):=q;simp at this
  ·have b2:=qd b1 (c:=.t_ o) ⟨Tn,Vm⟩ (fun _ _ q=>by cases q);refine⟨b2.bb,b2.bn,b2.bp,fun q=>?_,b2.m2,b2.m4,b2.nh,b2.nd⟩;have q':o=x.s.op:=q;have Vn:TC.A_ x.s.op∈x.T:=q' ▸ KH;refine⟨fun k hk=>?_,fun j bs k hj _=>?_⟩
   ·have hk':k∈x.s.Hu:=hk;rw[b.nd Vn] at hk';simp at hk'
   ·rcases ab0.mp hj with hj|hj
    ·exact absurd hj (b.nh (.inl Vn) j bs)
    ·simp at hj
  ·rw[N9,e1];refine qj rfl rfl rfl ?_;show(x.B++[BC.t_ o]).map x.cB=_;rw[ae0];rfl
def vG(c:Oo x)(h:x.h.op≠0):x.h.given=(range x.h.op).flatMap x.run++x.run x.h.op:=by
 rw[c.hg];have e:x.s.op+1=x.h.op+1+(x.s.op-x.h.op):=by have:=c.ho;omega
 rw[e,List.range_add,ak7,at0,ak7];have z:((range (x.s.op-x.h.op)).map (x.h.op+1+·)).flatMap x.run=[]:=by
  rw[List.flatMap_eq_nil_iff];intro o ho;obtain⟨k,_,rfl⟩:=ab6.mp ho;unfold Sys.run;rw[c.hl h _ (by omega)];simp[HI]
 rw[z];simp
def DN(v:Iv x){o i:Nat}{r:List TC}(hT:x.T=.data o i :: r):∃y:Sys,Iv y/\y.con=x.con.stepT/\y.s=x.s/\y.st=x.st:=by
 obtain⟨c,t,b⟩:=v;have KH:TC.data o i∈x.T:=by rw[hT];simp
 obtain⟨Tn,Pf⟩:=t.bd _ KH;have Rl:(TC.data o i).rank=2 * o+1:=rfl;have NQ:(TC.data o i).op=o:=rfl;rw[Rl] at Pf;rw[NQ] at Tn;have Va:=t.rh _ KH;rw[Rl] at Va;have so:=t.so;have r6:=t.r6;rw[hT] at so r6;obtain⟨XS,Vk⟩:=ae1.mp so;obtain⟨r61,Vl⟩:=ae1.mp r6;have hm:∀cc,cc∈r->cc∈x.T:=fun cc h=>by rw[hT];exact aa9 _ h
 have Vm:o<=x.s.op:=by omega
 have t1:=pV t hm Vk Vl;have c1:=wR c r;have b1:=wA b r fun h=>.inl (hm _ h)
 have Qo:∀cc,cc∈r->2 * o+1<=cc.rank:=fun cc h=>by have:=XS cc h;rw[Rl] at this;exact this
 have hP:=t.r2 o i KH;obtain⟨p,hp⟩:∃p,(x.P o)[i]?=some p:=⟨(x.P o)[i],by simp[hP]⟩;have UX:x.cT (.data o i)=.data o (i % (2 * x.s.w)) p:=by
  show x_.data o (i % (2 * x.s.w)) ((x.P o).getD i (0,[]))=_;simp[getD,hp]
 have N9:x.con.stepT=⟨x.s,(x.h.k_ (.data o (i % (2 * x.s.w)) p)).1,r.map x.cT,x.B.map x.cB++(x.h.k_ (.data o (i % (2 * x.s.w)) p)).2⟩:=by
  unfold Sys.con Cw.stepT;rw[hT,ac2,UX]
 by_cases he:x.h.op=o
 rotate_left
 ·have JZ:x.h.op<o:=by omega
  refine⟨(x.K0 r).setB ((x.K0 r).B++[.Ji o]),⟨tW c1 _,tJ t1 _,qd (c:=.Ji o) b1 ⟨Tn,Vm⟩ (fun _ _ q=>by cases q)⟩,?_,rfl,rfl⟩;rw[N9];have e1:x.h.k_ (.data o (i % (2 * x.s.w)) p)=(x.h,[.Ji o]):=by
   simp only[Hr.k_];rw[ab1 (by omega),ab2 JZ]
  rw[e1];refine qj rfl rfl rfl ?_;show(x.B++[BC.Ji o]).map x.cB=_;rw[ae0];rfl
 ·subst he;have h0:x.h.op≠0:=by omega
  obtain⟨q1,q2,q3⟩:=t.r4 i KH;have hw:=c.ww;have O4:x.h.nx<=(x.P x.h.op).length:=by rw[c.hn];exact c.tl _
  have row:Mj (x.P x.h.op) ((range x.h.op).flatMap x.run) x.h:=by
   refine⟨fun e h=>⟨(c.he e h).1,ag1 (c.he e h).2⟩,c.hd,c.hb,?_⟩;rw[vG c h0];congr 1;unfold Sys.run;rw[c.hn,show x.P x.h.op=fl x.s.most (x.s.msgs.drop (x.st x.h.op)) from rfl,wo]
  obtain⟨k1,k2,k3,k4,k5,k6,k7⟩:=Aw (h:=x.h) (i:=i) (p:=p) (by rw[hw];exact c.w0) row (by omega) (by omega) hp;rw[hw] at k1 k2 k3 k4 k5 k6 k7;obtain⟨a1,a2,a3⟩:=nE _ _ (aa1 _) k1;have e1:x.h.k_ (.data x.h.op (i % (2 * x.s.w)) p)=(x.h.data (i % (2 * x.s.w)) p,[(x.h.data (i % (2 * x.s.w)) p).note]):=by
   simp only[Hr.k_];rw[ab1 (ak3 _),ab1 (ak3 _)]
  have XT:x.h.data (i % (2 * x.s.w)) p=Hr.Hx (x.h.keep (i % (2 * x.s.w)) p).early.length (x.h.keep (i % (2 * x.s.w)) p):=rfl;rw[<-XT] at a1 a2 a3;obtain⟨h',hh⟩:∃h',x.h.data (i % (2 * x.s.w)) p=h':=⟨_,rfl⟩;rw[hh] at a1 a2 a3 e1;have w':h'.w=x.s.w:=a2.w.trans k2;have NP:h'.op=x.h.op:=a2.op.trans k3;have nx':x.h.nx<=h'.nx:=by have:=a2.nx;rw[k4] at this;exact this
  have ear:∀e,e∈h'.early->e∈x.h.early\/e=(i,p):=fun e q=>k5 e (a2.sub e q)
  have key:∀k,k∈x.h.early.map (·.1)->h'.nx<=k->k∈h'.early.map (·.1):=fun k q hk=>by
   obtain⟨e,he,rfl⟩:=ab6.mp q;exact a2.Lv _ (ab6.mpr ⟨e,k6 e he,rfl⟩) hk
  have gap:∀k,x.h.nx<=k->k<h'.nx->k=i\/k∈x.h.early.map (·.1):=fun k h1 h2=>by
   have:=a2.keys k (by rw[k4];exact h1) h2;obtain⟨e,he,rfl⟩:=ab6.mp this;rcases k5 e he with q|q
   ·exact .inr (ab6.mpr ⟨e,q,rfl⟩)
   ·rw[q];exact .inl rfl
  have bound:∀M,(∀e,e∈x.h.early->e.1<M)->i<M->x.h.nx<=M->h'.nx<=M:=fun M m1 m2 m3=>by
   apply ap6;intro JZ;rcases gap M m3 JZ with q|q
   ·omega
   ·obtain⟨e,he,q⟩:=ab6.mp q;have:=m1 e he;omega
  have pl:h'.nx<=(x.P x.h.op).length:=bound _ (fun e he=>(aa2.mp (c.he e he).1).1) hP O4;have strict:∀e,e∈h'.early->(x.P x.h.op)[e.1]?=some e.2/\h'.nx<e.1:=fun e q=>by
   obtain⟨z1,z2⟩:=a1.he e q;have:e.1≠h'.nx:=fun z=>a3 (z ▸ ab6.mpr ⟨e,q,rfl⟩)
   exact⟨z1,by omega⟩
  have Qp:x.s.st=.opening->x.h.op≠x.s.op:=fun q z=>by
   have:=t.bo q _ KH;rw[Rl] at this;omega
  obtain⟨y,hy⟩:∃y:Sys,y = { x with h:=h',T:=r,B:=x.B++[.note x.h.op h'.nx h'.bits],tk:=fun q=>if q=x.h.op then h'.nx else x.tk q }:=⟨_,rfl⟩;have ys:y.s=x.s:=by rw[hy]
  have yh:y.h=h':=by rw[hy]
  have yT:y.T=r:=by rw[hy]
  have yB:y.B=x.B++[.note x.h.op h'.nx h'.bits]:=by rw[hy]
  have N_:y.st=x.st:=by rw[hy]
  have Mq:∀q,q≠x.h.op->y.tk q=x.tk q:=fun q hq=>by rw[hy];exact ab1 hq
  have OL:y.tk x.h.op=h'.nx:=by rw[hy];exact ab2 rfl
  have yP:∀q,y.P q=x.P q:=fun q=>by unfold Sys.P;rw[ys,N_]
  have Rm:∀q,q≠x.h.op->y.run q=x.run q:=fun q hq=>by unfold Sys.run;rw[ys,N_,yP,Mq q hq]
  have XU:∀q,x.en q<=y.en q:=fun q=>by
   unfold Sys.en;rw[N_,yP];by_cases hq:q=x.h.op
   ·rw[hq,OL];have:=rW (x.P x.h.op) nx';rw[c.hn] at this;omega
   ·rw[Mq q hq];exact aa1 _
  have tkm:x.tk x.s.op<=y.tk x.s.op:=by
   by_cases hq:x.s.op=x.h.op
   ·rw[hq,OL,<-c.hn];exact nx'
   ·rw[Mq _ hq];exact aa1 _
  refine⟨y,⟨?_,?_,?_⟩,?_,ys,N_⟩
  ·refine⟨by rw[ys];exact c.w0,by rw[yh,ys];exact w',by rw[ys];intro q;rw[yP];exact c.ps q,?_,by rw[ys,N_,yP];exact c.su,by rw[ys,N_];exact c.sl,?_,by rw[N_];exact c.s0,?_,?_,?_,?_,?_,by rw[yh,ys,NP];exact c.ho,?_,?_,?_,?_,?_,?_,?_,?_,by rw[ys];exact c.n0⟩
   ·rw[ys,yh,NP];intro q;refine⟨(c.OK q).1,(c.OK q).2.1,?_,fun z=>absurd z (Qp q)⟩;rw[Mq _ (fun z=>Qp q z.symm)];exact(c.OK q).2.2.1
   ·rw[ys,N_];intro q h1 h2;obtain⟨q',h3,h4⟩:=c.ch q h1 h2;exact⟨q',h3,ab5 h4 (XU q')⟩
   ·rw[ys];exact ab5 c.bt tkm
   ·rw[ys];by_cases hq:x.s.op=x.h.op
    ·rw[hq,OL];refine bound _ (fun e he=>c.ek hq.symm e he) (t.r7 i (hq ▸ KH)) ?_;rw[c.hn,<-hq];exact c.tw
    ·rw[Mq _ hq];exact c.tw
   ·intro q;rw[yP];by_cases hq:q=x.h.op
    ·rw[hq,OL];exact pl
    ·rw[Mq q hq];exact c.tl q
   ·rw[ys];intro q hq;rw[Mq q (by have:=c.ho;omega)];exact c.tz q hq
   ·rw[Mq 0 (fun z=>h0 z.symm)];exact c.t0
   ·rw[yh,NP];exact fun z=>absurd z h0
   ·rw[yh,NP,OL]
   ·rw[yh,NP];intro _ q hq;rw[Mq q (by omega)];exact c.hl h0 q hq
   ·rw[yh,NP];intro e q;rw[yP];exact strict e q
   ·rw[yh];exact a1.hd
   ·rw[yh,NP,yP];exact a1.hb
   ·rw[yh,ys];have e3:x.s.op+1=x.h.op+1+(x.s.op-x.h.op):=by have:=c.ho;omega
    rw[e3,List.range_add,ak7,at0,ak7,a1.hg];have z:((range (x.s.op-x.h.op)).map (x.h.op+1+·)).flatMap y.run=[]:=by
     rw[List.flatMap_eq_nil_iff];intro o ho;obtain⟨k,_,rfl⟩:=ab6.mp ho;rw[Rm _ (by omega)];unfold Sys.run;rw[c.hl h0 _ (by omega)];simp[HI]
    rw[z,ae4,ap0,List.flatMap_nil,ae4];congr 1
    ·exact iS fun q hq=>(Rm q (by have:=ah3.mp hq;omega)).symm
    ·unfold Sys.run;rw[ys,N_,yP,OL,NP,show x.P x.h.op=fl x.s.most (x.s.msgs.drop (x.st x.h.op)) from rfl,wo]
   ·rw[yh,NP,ys];intro q e he;rcases ear e he with z|z
    ·exact c.ek q e z
    ·rw[z];exact t.r7 i (q ▸ KH)
  ·refine⟨by rw[yT];exact Vk,by rw[yT,ys];exact t1.bd,by rw[yT,ys];exact t1.bo,?_,?_,?_,?_,by rw[yT,ys];exact t1.r3,?_,by rw[yT,ys];exact Vl,by rw[yT,ys];exact t1.r7⟩
   ·rw[yT];intro q hq cc h;by_cases z:q=x.h.op
    ·rw[z];exact Qo cc h
    ·rw[Mq q z] at hq;exact t1.rt q hq cc h
   ·rw[yT,yh,NP];intro cc h;have:=Qo cc h;omega
   ·rw[yT,yh,NP];exact fun _ cc h=>Qo cc h
   ·rw[yT];intro q j h;rw[yP];exact t1.r2 q j h
   ·rw[yT,yh,NP,ys];intro j h;obtain⟨z1,z2,z3⟩:=t.r4 j (hm _ h);have z4:=r61 _ h x.h.op i j rfl rfl;refine⟨by omega,bound _ z3 z4 z2,fun e he=>?_⟩;rcases ear e he with q|q
    ·exact z3 e q
    ·rw[q];exact z4
  ·have O7:∀k,x.h.op=x.s.op->(k<x.h.nx\/k∈x.h.early.map (·.1))->k≠h'.nx/\(k<h'.nx\/k∈h'.early.map (·.1)):=by
    intro k _ hk;rcases hk with hk|hk
    ·exact⟨by omega,.inl (by omega)⟩
    ·by_cases JZ:k<h'.nx
     ·exact⟨by omega,.inl JZ⟩
     ·have:=key k hk (by omega);exact⟨fun z=>a3 (z ▸ this),.inr this⟩
   have Oa:∀j bs,BC.note x.s.op j bs∈y.B->BC.note x.s.op j bs∈x.B\/(x.h.op=x.s.op/\j=h'.nx/\bs=h'.bits):=by
    intro j bs h;rw[yB] at h;rcases ab0.mp h with h|h
    ·exact .inl h
    ·have:=ab3.mp h
     injection this with z1 z2 z3
     exact .inr ⟨z1.symm,z2,z3⟩
   have mkb:∀k,mk h'.nx h'.bits k->k∈h'.early.map (·.1):=by
    rintro k ⟨d,hd,rfl⟩;unfold Hr.bits at hd;rw[ac8] at hd;cases e:(range h'.w)[d]? with
    |none=>rw[e] at hd;simp at hd
    |some d'=>
     rw[e] at hd;obtain⟨z1,z2⟩:=aa2.mp e;rw[List.getElem_range] at z2;subst z2;cases e2:h'.early.lookup (h'.nx+d) with
     |none=>rw[av8,e2] at hd;simp at hd
     |some q=>exact ab6.mpr ⟨_,kf e2,rfl⟩
   refine⟨?_,?_,?_,?_,?_,?_,?_,?_⟩
   ·rw[yB,ys];intro a ha;rcases ab0.mp ha with ha|ha
    ·exact b.bb a ha
    ·rw[ab3.mp ha];exact⟨by show 1<=x.h.op;omega,c.ho⟩
   ·rw[ys];intro j bs h;rcases Oa j bs h with h|⟨z1,z2,_⟩
    ·exact⟨(b.bn j bs h).1,ab5 (b.bn j bs h).2 tkm⟩
    ·subst z2;rw[<-z1,OL];refine⟨?_,aa1 _⟩;have h1:=c.bt;have h2:=c.hn;rw[z1] at h2;omega
   ·rw[yB,ys];refine dq b.bp (by simp) fun a ha a' Pn j bs j' ML e1 e2=>?_
    rw[ab3.mp Pn] at e2
    injection e2 with z1 z2 z3
    subst z2;rw[e1] at ha;have h1:=(b.bn j bs ha).2;have h2:=c.hn;rw[z1] at h2;refine⟨by omega,fun hk=>?_⟩;exact(O7 h'.nx z1 ((b.m1 z1).2 j bs _ ha hk)).1 rfl
   ·rw[yh,NP,ys];intro q;refine⟨fun k hk=>(O7 k q ((b.m1 q).1 k hk)).2,fun j bs k hj hk=>?_⟩;rcases Oa j bs hj with h|⟨_,z2,z3⟩
    ·exact(O7 k q ((b.m1 q).2 j bs k h hk)).2
    ·subst z2 z3;exact .inr (mkb k hk)
   ·rw[ys];intro k hk;refine⟨(b.m2 k hk).1,fun j bs hj=>?_⟩;rcases Oa j bs hj with h|⟨z1,z2,_⟩
    ·exact(b.m2 k hk).2 j bs h
    ·rw[z2];exact(O7 k z1 ((b.m1 z1).1 k hk)).1
   ·rw[ys];intro j bs hj;rcases Oa j bs hj with h|⟨z1,z2,z3⟩
    ·exact b.m4 j bs h
    ·subst z2 z3;exact fun hk=>a3 (mkb _ hk)
   ·rw[yT,ys];intro q j bs hj;rcases Oa j bs hj with h|⟨z1,_,_⟩
    ·exact b1.nh q j bs h
    ·rcases q with q|q
     ·have:=Qo _ q;have R5:(TC.A_ x.s.op).rank=2 * x.s.op:=rfl;rw[R5] at this;omega
     ·exact Qp q z1
   ·rw[yT,ys];exact b1.nd
  ·rw[N9,e1];refine qj ys yh ?_ ?_
   ·rw[yT];refine ag0 fun a _=>?_
    cases a with
    |A_ q=>rfl
    |data q j=>
     show x_.data q (j % (2 * y.s.w)) ((y.P q).getD j (0,[]))=x_.data q (j % (2 * x.s.w)) ((x.P q).getD j (0,[]));rw[ys,yP]
   ·rw[yB,ae0];congr 1
    ·refine ag0 fun a _=>?_
     cases a<;>simp[Sys.cB,ys]
    ·show [x_.note x.h.op (h'.nx % (2 * y.s.w)) h'.bits]=[h'.note];unfold Hr.note;rw[NP,w',ys]
def AU(v:Iv x):∃y:Sys,Iv y/\y.con=x.con.stepT/\y.s=x.s/\y.st=x.st:=by
 cases e:x.T with
 |nil=>
  refine⟨x,v,?_,rfl,rfl⟩;unfold Sys.con Cw.stepT;rw[e];rfl
 |cons a r=>
  cases a with
  |A_ o=>exact AQ v e
  |data o i=>exact DN v e
theorem kJ:∀(bs:ax3) (s:Sr) (k:Nat),(s.HQ k bs).w=s.w/\(s.HQ k bs).most=s.most/\(s.HQ k bs).msgs=s.msgs/\(s.HQ k bs).sure=s.sure/\(s.HQ k bs).op=s.op/\(s.HQ k bs).st=s.st/\(s.HQ k bs).ps=s.ps/\(s.HQ k bs).base=s.base/\∀t,t∈(s.HQ k bs).Hu->t∈s.Hu\/∃i,bs[i]?=some 1/\t=s.base+(k+i)
 |[],s,k=>⟨rfl,rfl,rfl,rfl,rfl,rfl,rfl,rfl,fun t h=>.inl h⟩
 |b :: bs,s,k=>by
  unfold Sr.HQ;by_cases hc:b=1/\s.base+k<s.ps.length/\s.base+k∉s.Hu
  ·rw[ab2 hc];obtain⟨h1,h2,h3,h4,h5,h6,h7,h8,h9⟩:=kJ bs { s with Hu:=s.Hu++[s.base+k] } (k+1);refine⟨h1,h2,h3,h4,h5,h6,h7,h8,fun t ht=>?_⟩;rcases h9 t ht with q|⟨i,q1,q2⟩
   ·have q':t∈s.Hu++[s.base+k]:=q;rcases ab0.mp q' with q'|q'
    ·exact .inl q'
    ·exact .inr ⟨0,by simp[hc.1],by have:=ab3.mp q';omega⟩
   ·exact .inr ⟨i+1,by simpa using q1,by have:t=s.base+(k+1+i):=q2;omega⟩
  ·rw[ab1 hc];obtain⟨h1,h2,h3,h4,h5,h6,h7,h8,h9⟩:=kJ bs s (k+1);refine⟨h1,h2,h3,h4,h5,h6,h7,h8,fun t ht=>?_⟩;rcases h9 t ht with q|⟨i,q1,q2⟩
   ·exact .inl q
   ·exact .inr ⟨i+1,by simpa using q1,by omega⟩
def zV(R:List Pc){b i:Nat}(h:b<=i):HI (R.take b)+HI ((R.take i).drop b)=HI (R.take i):=by
 have:R.take i=R.take b++(R.take i).drop b:=by
  have h2:=(ag3 b (R.take i)).symm;rw[List.take_take,ag7 h] at h2;exact h2
 rw[this,eh,<-this]
def uP(v:Iv x){c:BC}{r:List BC}(hB:x.B=c :: r)(hs:x.s.k_ (x.cB c)=x.s):∃y:Sys,Iv y/\y.con=x.con.IW:=by
 have bp:=v.b.bp;rw[hB] at bp;refine⟨x.setB r,⟨tW v.c r,tJ v.t r,pX v.b (fun a h=>by rw[hB];exact aa9 _ h) (ae1.mp bp).2⟩,?_⟩;unfold Sys.con Cw.IW;rw[hB,ac2];dsimp only;rw[hs];rfl
def qb{c:BC}{r:List BC}(hB:x.B=c :: r):x.con.IW=⟨x.s.k_ (x.cB c),x.h,x.T.map x.cT,r.map x.cB⟩:=by
 unfold Sys.con Cw.IW;rw[hB];rfl
def xo(v:Iv x){r:List BC}(hB:x.B=.t_ x.s.op :: r)(Jl:x.s.st=.opening):∃y:Sys,Iv y/\y.con=x.con.IW:=by
 obtain⟨c,t,b⟩:=v;have bp:=b.bp;rw[hB] at bp;have hm:∀a,a∈r->a∈x.B:=fun a h=>by rw[hB];exact aa9 _ h
 have KQ:x.s.st≠.IQ:=by rw[Jl];intro z;cases z
 have hs:x.s.k_ (x.cB (.t_ x.s.op)) = { x.s with st:=.opened }:=by
  show x.s.k_ (.t_ x.s.op)=_;unfold Sr.k_;exact ab2 ⟨rfl,Jl⟩
 refine⟨{ x with s:={ x.s with st:=.opened },B:=r },⟨?_,?_,?_⟩,?_⟩
 ·exact⟨c.w0,c.ww,fun _=>c.ps KQ,(fun q=>by cases q),c.su,c.sl,c.ch,c.s0,c.bt,c.tw,c.tl,c.tz,c.t0,c.ho,c.hz,c.hn,c.hl,c.he,c.hd,c.hb,c.hg,c.ek,c.n0⟩
 ·exact⟨t.so,t.bd,(fun q=>by cases q),t.rt,t.rh,t.re,t.r2,t.r3,t.r4,t.r6,t.r7⟩
 ·refine⟨fun a h=>b.bb a (hm a h),fun j bs h=>b.bn j bs (hm _ h),(ae1.mp bp).2,fun q=>⟨(b.m1 q).1,fun j bs k h=>(b.m1 q).2 j bs k (hm _ h)⟩,fun k hk=>⟨(b.m2 k hk).1,fun j bs h=>(b.m2 k hk).2 j bs (hm _ h)⟩,fun j bs h=>b.m4 j bs (hm _ h),?_,b.nd⟩;intro q j bs h;rcases q with q|q
  ·exact b.nh (.inl q) j bs (hm _ h)
  ·cases q
 ·rw[qb hB,hs];rfl
def EW(v:Iv x){r:List BC}(hB:x.B=.Ji x.s.op :: r)(Jl:x.s.st=.opened):∃y:Sys,Iv y/\y.con=x.con.IW:=by
 have hs:x.s.k_ (x.cB (.Ji x.s.op))=x.s.anew:=by
  show x.s.k_ (.Ji x.s.op)=_;unfold Sr.k_;exact ab2 ⟨rfl,Jl⟩
 have bp:=v.b.bp;rw[hB] at bp;have v1:Iv (x.setB r):=⟨tW v.c r,tJ v.t r,pX v.b (fun a h=>by rw[hB];exact aa9 _ h) (ae1.mp bp).2⟩;obtain⟨v2,e2⟩:=yQ v1;refine⟨(x.setB r).anew,v2,?_⟩;rw[e2,qb hB,hs];rfl
def CZ(v:Iv x){j:Nat}{bs:ax3}{r:List BC}(hB:x.B=.note x.s.op j bs :: r)(Jl:x.s.st=.opened):∃y:Sys,Iv y/\y.con=x.con.IW:=by
 obtain⟨c,t,b⟩:=v;have bp:=b.bp;rw[hB] at bp;obtain⟨bp1,bp2⟩:=ae1.mp bp;have hm:∀a,a∈r->a∈x.B:=fun a h=>by rw[hB];exact aa9 _ h
 have KH:BC.note x.s.op j bs∈x.B:=by rw[hB];simp
 have KQ:x.s.st≠.IQ:=by rw[Jl];intro z;cases z
 obtain⟨QM,NQ⟩:=c.ps KQ;obtain⟨Td,R6⟩:=b.bn j bs KH;have htl:=c.tl x.s.op;have htw:=c.tw;have hw:=c.w0;have hn:jq (((j % (2 * x.s.w):Nat)):Int) (x.s.base:Int) x.s.w=(j:Int):=by
  have:((j % (2 * x.s.w):Nat):Int)=(j:Int) % (2 * (x.s.w:Int)):=by push_cast;rfl
  rw[this];exact wZ hw (by omega) (by omega)
 have hs:x.s.k_ (x.cB (.note x.s.op j bs))=(x.s.Kg j).HQ 0 bs:=by
  show x.s.k_ (.note x.s.op (j % (2 * x.s.w)) bs)=_;have h1:x.s.k_ (.note x.s.op (j % (2 * x.s.w)) bs)=x.s.G_ (j % (2 * x.s.w)) bs:=by unfold Sr.k_;exact ab2 ⟨rfl,Jl⟩
  rw[h1];unfold Sr.G_;rw[ab2 ⟨mod_lt _ (by omega),by rw[hn,QM];omega⟩,hn,af4]
 obtain⟨h1,h2,h3,h4,h5,h6,h7,h8,h9⟩:=kJ bs (x.s.Kg j) 0;obtain⟨s',P4⟩:∃s',(x.s.Kg j).HQ 0 bs=s':=⟨_,rfl⟩;rw[P4] at h1 h2 h3 h4 h5 h6 h7 h8 h9 hs;have k1:s'.w=x.s.w:=h1;have k2:s'.most=x.s.most:=h2;have k3:s'.msgs=x.s.msgs:=h3;have k4:s'.sure=x.s.sure+HI ((x.s.ps.take j).drop x.s.base):=h4;have k5:s'.op=x.s.op:=h5;have k6:s'.st=x.s.st:=h6;have k7:s'.ps=x.s.ps:=h7;have k8:s'.base=j:=h8;obtain⟨y,hy⟩:∃y:Sys,y = { x with s:=s',B:=r }:=⟨_,rfl⟩;have ys:y.s=s':=by rw[hy]
 have yh:y.h=x.h:=by rw[hy]
 have yT:y.T=x.T:=by rw[hy]
 have yB:y.B=r:=by rw[hy]
 have N_:y.st=x.st:=by rw[hy]
 have Mq:y.tk=x.tk:=by rw[hy]
 have yP:∀o,y.P o=x.P o:=fun o=>by unfold Sys.P;rw[ys,N_,k2,k3]
 have XU:∀o,y.en o=x.en o:=fun o=>by unfold Sys.en;rw[N_,yP,Mq]
 have Rm:y.run=x.run:=by funext o;unfold Sys.run;rw[ys,N_,yP,Mq,k3]
 refine⟨y,⟨?_,?_,?_⟩,?_⟩
 ·refine⟨?_,?_,?_,?_,?_,?_,?_,?_,?_,?_,?_,?_,?_,?_,?_,?_,?_,?_,?_,?_,?_,?_,?_⟩
  ·rw[ys,k1];exact c.w0
  ·rw[ys,yh,k1];exact c.ww
  ·intro q;rw[ys,k7,yP,k5];exact c.ps KQ
  ·intro q;rw[ys,k6,Jl] at q;cases q
  ·rw[ys,k4,k5,k8,N_,yP,c.su,QM,Nat.add_assoc,zV _ Td]
  ·intro o ho;rw[ys,k5] at ho;rw[ys,k3,N_];exact c.sl o ho
  ·intro o h1 h2;rw[ys,k5] at h2;obtain⟨o',q1,q2⟩:=c.ch o h1 h2;exact⟨o',q1,by rw[N_,XU];exact q2⟩
  ·rw[N_];exact c.s0
  ·rw[ys,Mq,k8,k5];exact R6
  ·rw[ys,Mq,k8,k5,k1];omega
  ·intro o;rw[Mq,yP];exact c.tl o
  ·intro o ho;rw[ys,k5] at ho;rw[Mq];exact c.tz o ho
  ·rw[Mq];exact c.t0
  ·rw[yh,ys,k5];exact c.ho
  ·rw[yh];exact c.hz
  ·rw[yh,Mq];exact c.hn
  ·rw[yh,Mq];exact c.hl
  ·rw[yh,yP];exact c.he
  ·rw[yh];exact c.hd
  ·rw[yh,yP];exact c.hb
  ·rw[yh,ys,k5,Rm];exact c.hg
  ·intro q e he;rw[yh,ys,k5] at q;rw[yh] at he;have:=c.ek q e he;rw[ys,k8,k1];omega
  ·intro q;rw[ys,k5] at q;omega
 ·refine⟨?_,?_,?_,?_,?_,?_,?_,?_,?_,?_,?_⟩
  ·rw[yT];exact t.so
  ·rw[yT,ys,k5];exact t.bd
  ·intro q;rw[ys,k6,Jl] at q;cases q
  ·rw[yT,Mq];exact t.rt
  ·rw[yT,yh];exact t.rh
  ·rw[yT,yh];exact t.re
  ·intro o i h;rw[yT] at h;rw[yP];exact t.r2 o i h
  ·rw[yT,ys,k1];exact t.r3
  ·rw[yT,yh,ys,k1];exact t.r4
  ·rw[yT,ys,k1];exact t.r6
  ·intro i h;rw[yT,ys,k5] at h;have:=t.r7 i h;rw[ys,k8,k1];omega
 ·have new:∀k,k∈s'.Hu->k∈x.s.Hu\/mk j bs k:=fun k hk=>by
   rcases h9 k hk with q|⟨i,q1,q2⟩
   ·exact .inl q
   ·exact .inr ⟨i,q1,by have:k=j+(0+i):=q2;omega⟩
  refine⟨?_,?_,?_,?_,?_,?_,?_,?_⟩
  ·intro a h;rw[yB] at h;rw[ys,k5];exact b.bb a (hm a h)
  ·intro j' ML h;rw[yB,ys,k5] at h;rw[ys,k8,Mq,k5];exact⟨(bp1 _ h j bs j' ML rfl rfl).1,(b.bn j' ML (hm _ h)).2⟩
  ·rw[yB,ys,k5];exact bp2
  ·intro q;rw[yh,ys,k5] at q;obtain⟨q1,q2⟩:=b.m1 q;rw[yB,ys,yh,k5];refine⟨fun k hk=>?_,fun j' ML k h=>q2 j' ML k (hm _ h)⟩;rcases new k hk with z|z
   ·exact q1 k z
   ·exact q2 j bs k KH z
  ·intro k hk;rw[ys] at hk;rw[yB,ys,k8,k5];rcases new k hk with z|z
   ·exact⟨(b.m2 k z).2 j bs KH,fun j' ML h=>(b.m2 k z).2 j' ML (hm _ h)⟩
   ·exact⟨fun e=>b.m4 j bs KH (e ▸ z),fun j' ML h e=>(bp1 _ h j bs j' ML rfl rfl).2 (e ▸ z)⟩
  ·intro j' ML h;rw[yB,ys,k5] at h;exact b.m4 j' ML (hm _ h)
  ·intro q j' ML h;rw[yB,ys,k5] at h;rw[yT,ys,k5,k6,Jl] at q;rcases q with q|q
   ·exact b.nh (.inl q) j' ML (hm _ h)
   ·cases q
  ·intro q;rw[yT,ys,k5] at q;exact absurd KH (b.nh (.inl q) j bs)
 ·rw[qb hB,hs];refine qj ys yh ?_ ?_
  ·rw[yT];refine ag0 fun a _=>?_
   cases a with
   |A_ q=>rfl
   |data q i=>
    show x_.data q (i % (2 * y.s.w)) ((y.P q).getD i (0,[]))=x_.data q (i % (2 * x.s.w)) ((x.P q).getD i (0,[]));rw[ys,yP,k1]
  ·rw[yB];refine ag0 fun a _=>?_
   cases a<;>simp[Sys.cB,ys,k1]
def Ci(v:Iv x):∃y:Sys,Iv y/\y.con=x.con.IW:=by
 cases e:x.B with
 |nil=>
  refine⟨x,v,?_⟩;unfold Sys.con Cw.IW;rw[e];rfl
 |cons a r=>
  cases a with
  |t_ o=>
   by_cases hc:o=x.s.op/\x.s.st=.opening
   ·obtain⟨rfl,Jl⟩:=hc;exact xo v e Jl
   ·exact uP v e (by show x.s.k_ (.t_ o)=_;unfold Sr.k_;exact ab1 hc)
  |Ji o=>
   by_cases hc:o=x.s.op/\x.s.st=.opened
   ·obtain⟨rfl,Jl⟩:=hc;exact EW v e Jl
   ·exact uP v e (by show x.s.k_ (.Ji o)=_;unfold Sr.k_;exact ab1 hc)
  |note o j bs=>
   by_cases hc:o=x.s.op/\x.s.st=.opened
   ·obtain⟨rfl,Jl⟩:=hc;exact CZ v e Jl
   ·exact uP v e (by show x.s.k_ (.note o (j % (2 * x.s.w)) bs)=_;unfold Sr.k_;exact ab1 hc)
def Sys.start(x:Sys):Sys:=if x.s.st=.IQ then x.anew else x
def wv(v:Iv x):Iv x.start/\x.start.con = { x.con with s:=x.s.start }:=by
 unfold Sys.start Sr.start;by_cases h:x.s.st=.IQ
 ·rw[ab2 h,ab2 h];exact yQ v
 ·rw[ab1 h,ab1 h];exact⟨v,rfl⟩
end
def NF(c:Cw):Prop:=(c.s.op=0/\c.s.st=.IQ/\c.T=[]/\c.B=[]/\c.h.op=0)\/
 (c.s.op=1/\c.s.st≠.IQ/\(∀o,x_.Ji o∉c.B)/\((c.s.st=.opened\/(∃o,x_.t_ o∈c.B)\/∃o n p,x_.data o n p∈c.T)->c.h.op=1))
section
variable{x:Sys}
def NF.new(w most:Nat):NF (Sys.new w most).con:=.inl ⟨rfl,rfl,rfl,rfl,rfl⟩
def NF.hand(h:NF x.con)(m:Iu):NF { x.con with s:=x.s.hand m }:=by
 rcases h with h|h
 ·exact .inl h
 ·exact .inr h
def NF.start(h:NF x.con):NF { x.con with s:=x.s.start }:=by
 unfold Sr.start;rcases h with ⟨h1,h2,h3,h4,h5⟩|h
 ·rw[ab2 (show x.s.st=.IQ from h2)];refine .inr ⟨?_,?_,?_,?_⟩
  ·show x.s.op+1=1;have:x.s.op=0:=h1;omega
  ·intro z;cases z
  ·intro o z;have:x_.Ji o∈x.con.B:=z;rw[h4] at this;cases this
  ·rintro (z|⟨o,z⟩|⟨o,n,p,z⟩)
   ·cases z
   ·have:x_.t_ o∈x.con.B:=z;rw[h4] at this;cases this
   ·have:x_.data o n p∈x.con.T:=z;rw[h3] at this;cases this
 ·rw[ab1 (show ¬x.s.st=.IQ from h.2.1)];exact .inr h
def NF.O8(h:NF x.con)(k:Nat):NF { x.con with T:=x.con.T.eraseIdx k }:=by
 rcases h with ⟨h1,h2,h3,h4,h5⟩|⟨h1,h2,h3,h4⟩
 ·exact .inl ⟨h1,h2,by show x.con.T.eraseIdx k=[];rw[h3];rfl,h4,h5⟩
 ·refine .inr ⟨h1,h2,h3,fun z=>h4 ?_⟩;rcases z with z|z|⟨o,n,p,z⟩
  ·exact .inl z
  ·exact .inr (.inl z)
  ·exact .inr (.inr ⟨o,n,p,ai6 z⟩)
def NF.O9(h:NF x.con)(k:Nat):NF { x.con with B:=x.con.B.eraseIdx k }:=by
 rcases h with ⟨h1,h2,h3,h4,h5⟩|⟨h1,h2,h3,h4⟩
 ·exact .inl ⟨h1,h2,h3,by show x.con.B.eraseIdx k=[];rw[h4];rfl,h5⟩
 ·refine .inr ⟨h1,h2,fun o z=>h3 o (ai6 z),fun z=>h4 ?_⟩;rcases z with z|⟨o,z⟩|z
  ·exact .inl z
  ·exact .inr (.inl ⟨o,ai6 z⟩)
  ·exact .inr (.inr z)
def NF.To(h:NF x.con)(k:Nat):NF { x.con with T:=dup x.con.T k }:=by
 rcases h with ⟨h1,h2,h3,h4,h5⟩|⟨h1,h2,h3,h4⟩
 ·exact .inl ⟨h1,h2,by show dup x.con.T k=[];rw[h3];simp[dup],h4,h5⟩
 ·refine .inr ⟨h1,h2,h3,fun z=>h4 ?_⟩;rcases z with z|z|⟨o,n,p,z⟩
  ·exact .inl z
  ·exact .inr (.inl z)
  ·exact .inr (.inr ⟨o,n,p,jo z⟩)
def NF.Tp(h:NF x.con)(k:Nat):NF { x.con with B:=dup x.con.B k }:=by
 rcases h with ⟨h1,h2,h3,h4,h5⟩|⟨h1,h2,h3,h4⟩
 ·exact .inl ⟨h1,h2,h3,by show dup x.con.B k=[];rw[h4];simp[dup],h5⟩
 ·refine .inr ⟨h1,h2,fun o z=>h3 o (jo z),fun z=>h4 ?_⟩;rcases z with z|⟨o,z⟩|z
  ·exact .inl z
  ·exact .inr (.inl ⟨o,jo z⟩)
  ·exact .inr (.inr z)
def NF.tick(h:NF x.con):NF { x.con with T:=x.con.T++x.s.tick }:=by
 rcases h with ⟨h1,h2,h3,h4,h5⟩|⟨h1,h2,h3,h4⟩
 ·have e:x.s.tick=[]:=by
   have h2':x.s.st=.IQ:=h2;unfold Sr.tick;rw[h2']
  exact .inl ⟨h1,h2,by show x.con.T++x.s.tick=[];rw[h3,e];rfl,h4,h5⟩
 ·refine .inr ⟨h1,h2,h3,fun z=>h4 ?_⟩;rcases z with z|z|⟨o,n,p,z⟩
  ·exact .inl z
  ·exact .inr (.inl z)
  ·rcases ab0.mp z with z|z
   ·exact .inr (.inr ⟨o,n,p,z⟩)
   ·refine .inl ?_;show x.s.st=.opened;unfold Sr.tick at z;cases e:x.s.st with
    |IQ=>rw[e] at z;simp at z
    |opening=>rw[e] at z;simp at z
    |opened=>rfl
def z0(s:Sr)(c:x_)(h:∀o,c≠.Ji o):(s.k_ c).op=s.op/\((s.k_ c).st=s.st\/((∃o,c=.t_ o)/\(s.k_ c).st=.opened/\s.st=.opening)):=by
 cases c with
 |A_ o=>exact⟨rfl,.inl rfl⟩
 |data o n p=>exact⟨rfl,.inl rfl⟩
 |Ji o=>exact absurd rfl (h o)
 |t_ o=>
  unfold Sr.k_;dsimp only;by_cases hc:o=s.op/\s.st=.opening
  ·rw[ab2 hc];exact⟨rfl,.inr ⟨⟨o,rfl⟩,rfl,hc.2⟩⟩
  ·rw[ab1 hc];exact⟨rfl,.inl rfl⟩
 |note o n bs=>
  unfold Sr.k_;dsimp only;split
  ·unfold Sr.G_;split
   ·obtain⟨_,_,_,_,h5,h6,_⟩:=kJ bs (s.Kg (jq n s.base s.w).toNat) 0;exact⟨h5,.inl h6⟩
   ·exact⟨rfl,.inl rfl⟩
  ·exact⟨rfl,.inl rfl⟩
theorem NF.IW(h:NF x.con):NF x.con.IW:=by
 cases e:x.con.B with
 |nil=>
  have:x.con.IW=x.con:=by unfold Cw.IW;rw[e]
  rw[this];exact h
 |cons a r=>
  have Jl:x.con.IW = { x.con with s:=x.con.s.k_ a,B:=r }:=by unfold Cw.IW;rw[e]
  rw[Jl];rcases h with ⟨h1,h2,h3,h4,h5⟩|⟨h1,h2,h3,h4⟩
  ·rw[h4] at e;cases e
  ·have hw:∀o,a≠.Ji o:=fun o z=>h3 o (by rw[e,z];simp)
   have hm:∀b,b∈r->b∈x.con.B:=fun b hb=>by rw[e];exact aa9 _ hb
   obtain⟨q1,q2⟩:=z0 x.con.s a hw;refine .inr ⟨q1.trans h1,?_,fun o z=>h3 o (hm _ z),fun z=>h4 ?_⟩
   ·rcases q2 with q2|⟨_,q2,_⟩
    ·show(x.con.s.k_ a).st≠.IQ;rw[q2];exact h2
    ·show(x.con.s.k_ a).st≠.IQ;rw[q2];intro z;cases z
   ·rcases z with z|⟨o,z⟩|z
    ·rcases q2 with q2|⟨⟨o,q0⟩,_,_⟩
     ·exact .inl (q2 ▸ z)
     ·exact .inr (.inl ⟨o,by rw[e,q0];simp⟩)
    ·exact .inr (.inl ⟨o,hm _ z⟩)
    ·exact .inr (.inr z)
theorem NF.stepT(v:Iv x)(h:NF x.con):NF x.con.stepT:=by
 cases e:x.con.T with
 |nil=>
  have:x.con.stepT=x.con:=by unfold Cw.stepT;rw[e]
  rw[this];exact h
 |cons a r=>
  have Jl:x.con.stepT = { x.con with h:=(x.con.h.k_ a).1,T:=r,B:=x.con.B++(x.con.h.k_ a).2 }:=by unfold Cw.stepT;rw[e]
  rw[Jl];rcases h with ⟨h1,h2,h3,h4,h5⟩|⟨h1,h2,h3,h4⟩
  ·rw[h3] at e;cases e
  ·have hm:∀b,b∈r->b∈x.con.T:=fun b hb=>by rw[e];exact aa9 _ hb
   have ha:a∈x.con.T:=by rw[e];simp
   obtain⟨tc,htc,Up⟩:=ab6.mp (show a∈x.T.map x.cT from ha);have Wi:=v.t.bd tc htc;have hop1:x.s.op=1:=h1;have hho:x.h.op<=1:=by have:=v.c.ho;omega
   cases tc with
   |A_ o=>
    have ho:o=1:=by
     have q1:1<=o:=Wi.1;have q2:2 * o<=2 * x.s.op+1:=Wi.2;omega
    subst ho;have UQ:a=.A_ 1:=Up.symm;subst UQ;have hh:((x.h.k_ (.A_ 1)).1.op=1)/\(x.h.k_ (.A_ 1)).2=[.t_ 1]:=by
     dsimp only[Hr.k_];rw[ab1 (by omega)];split
     ·exact⟨rfl,rfl⟩
     ·exact⟨by show x.h.op=1;omega,rfl⟩
    refine .inr ⟨h1,h2,fun o z=>?_,fun _=>hh.1⟩;have z':x_.Ji o∈x.con.B++(x.h.k_ (.A_ 1)).2:=z;rw[hh.2] at z';rcases ab0.mp z' with z'|z'
    ·exact h3 o z'
    ·simp at z'
   |data o i=>
    have ho:o=1:=by
     have q1:1<=o:=Wi.1;have q2:2 * o+1<=2 * x.s.op+1:=Wi.2;omega
    subst ho;obtain⟨nn,pp,UQ⟩:∃nn pp,a=.data 1 nn pp:=⟨_,_,Up.symm⟩;subst UQ;have XW:x.h.op=1:=h4 (.inr (.inr ⟨1,nn,pp,ha⟩));have hh:((x.h.k_ (.data 1 nn pp)).1.op=1)/\(x.h.k_ (.data 1 nn pp)).2=[(x.h.data nn pp).note]:=by
     dsimp only[Hr.k_];rw[ab1 (by omega),ab1 (by omega)];refine⟨?_,rfl⟩;show(x.h.data nn pp).op=1;have:∀(k:Nat) (g:Hr),(Hr.Hx k g).op=g.op:=by
      intro k
      induction k with
      |zero=>intro g;rfl
      |succ k ih=>
       intro g;unfold Hr.Hx;cases g.early.lookup g.nx with
       |none=>rfl
       |some p=>dsimp only;rw[ih];unfold Hr.take;split<;>rfl
     unfold Hr.data;rw[this];unfold Hr.keep;split<;>exact XW
    refine .inr ⟨h1,h2,fun o z=>?_,fun _=>hh.1⟩;have z':x_.Ji o∈x.con.B++(x.h.k_ (.data 1 nn pp)).2:=z;rw[hh.2] at z';rcases ab0.mp z' with z'|z'
    ·exact h3 o z'
    ·simp[Hr.note] at z'
def CQ(x:Sys)(o:Nat):(x.run o).map (·.2)=(x.s.msgs.drop (x.st o)).take (HI ((x.P o).take (x.tk o))):=by
 unfold Sys.run;rw[ah6];exact List.map_id' _
end
def bD(l:List En):List x_:=l.filterMap fun e=>match e.x with
 |none=>some e.c
 |some _=>none
def WW.con(w:WW):Cw:=⟨w.s,w.h,bD w.T,bD w.B⟩
def kM(a b:List En):bD (a++b)=bD a++bD b:=by simp[bD]
def qL(cs:List x_):bD (cs.map gd)=cs:=by
 unfold bD;rw[List.filterMap_map]
 induction cs with
 |nil=>rfl
 |cons c cs ih=>rw[ao0];simp only[ai3,gd] at ih ⊢;rw[ih]
def fX{c:x_}{l:List En}:bD (⟨c,none⟩ :: l)=c :: bD l:=rfl
def iB{c:x_}{xs:ax3}{l:List En}:bD (⟨c,some xs⟩ :: l)=bD l:=rfl
theorem gI:∀(l:List En) (k:Nat),bD (l.eraseIdx k)=bD l\/∃j,bD (l.eraseIdx k)=(bD l).eraseIdx j
 |[],k=>.inl rfl
 |⟨c,none⟩ :: l,0=>.inr ⟨0,rfl⟩
 |⟨c,some xs⟩ :: l,0=>.inl rfl
 |⟨c,none⟩ :: l,k+1=>by
  rw[List.eraseIdx_cons_succ,fX,fX];rcases gI l k with h|⟨j,h⟩
  ·exact .inl (by rw[h])
  ·exact .inr ⟨j+1,by rw[h];rfl⟩
 |⟨c,some xs⟩ :: l,k+1=>by
  rw[List.eraseIdx_cons_succ,iB,iB];exact gI l k
def tU(e:En)(l:List En)(k:Nat):n7 (e :: l) (k+1)=e :: n7 l k:=by
 unfold n7;rw[ac9];cases l[k]? with
 |none=>rfl
 |some x=>rfl
theorem jR:∀(l:List En) (k:Nat),bD (n7 l k)=bD l\/∃j,bD (n7 l k)=dup (bD l) j
 |[],k=>.inl rfl
 |⟨c,none⟩ :: l,0=>.inr ⟨0,rfl⟩
 |⟨c,some xs⟩ :: l,0=>.inl rfl
 |⟨c,none⟩ :: l,k+1=>by
  rw[tU,fX,fX];rcases jR l k with h|⟨j,h⟩
  ·exact .inl (by rw[h])
  ·exact .inr ⟨j+1,by rw[h];rfl⟩
 |⟨c,some xs⟩ :: l,k+1=>by
  rw[tU,iB,iB];exact jR l k
def pa(e:En)(l:List En)(k p:Nat)(b:Int):fZ (e :: l) (k+1) p b=e :: fZ l k p b:=by
 unfold fZ;rw[ac9];cases l[k]? with
 |none=>rfl
 |some x=>rfl
theorem gG(p:Nat)(b:Int):∀(l:List En) (k:Nat),bD (fZ l k p b)=bD l\/∃j,bD (fZ l k p b)=(bD l).eraseIdx j
 |[],k=>.inl rfl
 |⟨c,none⟩ :: l,0=>by
  show bD (eP ⟨c,none⟩ p b :: l)=_\/∃j,bD (eP ⟨c,none⟩ p b :: l)=_;unfold eP;dsimp only;split
  ·exact .inl rfl
  ·exact .inr ⟨0,rfl⟩
 |⟨c,some xs⟩ :: l,0=>.inl rfl
 |⟨c,none⟩ :: l,k+1=>by
  rw[pa,fX,fX];rcases gG p b l k with h|⟨j,h⟩
  ·exact .inl (by rw[h])
  ·exact .inr ⟨j+1,by rw[h];rfl⟩
 |⟨c,some xs⟩ :: l,k+1=>by
  rw[pa,iB,iB];exact gG p b l k
inductive CS:Bool->Cw->Cw->Prop
 |same {f:Bool}(c:Cw):CS f c c
 |hand {f:Bool}(c:Cw) (m:Iu):CS f c { c with s:=c.s.hand m }
 |start {f:Bool}(c:Cw):CS f c { c with s:=c.s.start }
 |tick {f:Bool}(c:Cw):CS f c { c with T:=c.T++c.s.tick }
 |stepT {f:Bool}(c:Cw):CS f c c.stepT
 |IW {f:Bool}(c:Cw):CS f c c.IW
 |O8 {f:Bool}(c:Cw) (k:Nat):CS f c { c with T:=c.T.eraseIdx k }
 |O9 {f:Bool}(c:Cw) (k:Nat):CS f c { c with B:=c.B.eraseIdx k }
 |To {f:Bool}(c:Cw) (k:Nat):CS f c { c with T:=dup c.T k }
 |Tp {f:Bool}(c:Cw) (k:Nat):CS f c { c with B:=dup c.B k }
 |N8 (c:Cw):CS true c { c with s:=c.s.Ik }
 |Mg (c:Cw):CS true c { c with h:=c.h.Ik }
def jP{w:WW}{l:List En}{g:List x_}(h:bD l=g):(w.IA true l).con = { w.con with T:=g }:=by subst h;rfl
def j2{w:WW}{l:List En}{g:List x_}(h:bD l=g):(w.IA false l).con = { w.con with B:=g }:=by subst h;rfl
def BO(w:WW)(r:Bool)(f:Bool):CS f w.con (w.step r).con:=by
 unfold WW.step;cases r with
 |true=>
  cases hT:w.T with
  |nil=>
   have:w.road true=[]:=hT;rw[this];exact .same _
  |cons e l=>
   have hr:w.road true=e :: l:=hT;rw[hr];obtain⟨c,x⟩:=e;cases x with
   |some xs=>
    have:((w.IA true l).Jx true ⟨c,some xs⟩).con=w.con:=by
     show(⟨w.s,w.h,bD l,bD w.B⟩:Cw)=⟨w.s,w.h,bD w.T,bD w.B⟩;rw[hT];rfl
    dsimp only;rw[this];exact .same _
   |none=>
    have:((w.IA true l).Jx true ⟨c,none⟩).con=w.con.stepT:=by
     have ht:w.con.T=c :: bD l:=by show bD w.T=_;rw[hT];rfl
     unfold Cw.stepT;rw[ht];show(⟨w.s,(w.h.k_ c).1,bD l,bD (w.B++(w.h.k_ c).2.map gd)⟩:Cw)=_;rw[kM,qL];rfl
    dsimp only;rw[this];exact .stepT _
 |false=>
  cases hB:w.B with
  |nil=>
   have:w.road false=[]:=hB;rw[this];exact .same _
  |cons e l=>
   have hr:w.road false=e :: l:=hB;rw[hr];obtain⟨c,x⟩:=e;cases x with
   |some xs=>
    have:((w.IA false l).Jx false ⟨c,some xs⟩).con=w.con:=by
     show(⟨w.s,w.h,bD w.T,bD l⟩:Cw)=⟨w.s,w.h,bD w.T,bD w.B⟩;rw[hB];rfl
    dsimp only;rw[this];exact .same _
   |none=>
    have:((w.IA false l).Jx false ⟨c,none⟩).con=w.con.IW:=by
     have ht:w.con.B=c :: bD l:=by show bD w.B=_;rw[hB];rfl
     unfold Cw.IW;rw[ht];rfl
    dsimp only;rw[this];exact .IW _
def Act.falls:Act->Bool
 |.Ik _=>true
 |_=>false
def DM(w:WW)(t:Act)(f:Bool)(hf:t.falls=true->f=true):CS f w.con (w.act t).con:=by
 cases t with
 |hand m=>exact .hand w.con m
 |start=>exact .start w.con
 |tick=>
  have:(w.act .tick).con = { w.con with T:=w.con.T++w.con.s.tick }:=by
   show(⟨w.s,w.h,bD (w.T++w.s.tick.map gd),bD w.B⟩:Cw)=_;rw[kM,qL];rfl
  rw[this];exact .tick _
 |step r=>exact BO w r f
 |Px r k=>
  cases r with
  |true=>
   show CS f w.con (w.IA true (w.T.eraseIdx k)).con;rcases gI w.T k with h|⟨j,h⟩
   ·rw[jP h];exact .same _
   ·rw[jP h];exact .O8 _ j
  |false=>
   show CS f w.con (w.IA false (w.B.eraseIdx k)).con;rcases gI w.B k with h|⟨j,h⟩
   ·rw[j2 h];exact .same _
   ·rw[j2 h];exact .O9 _ j
 |dbl r k=>
  cases r with
  |true=>
   show CS f w.con (w.IA true (n7 w.T k)).con;rcases jR w.T k with h|⟨j,h⟩
   ·rw[jP h];exact .same _
   ·rw[jP h];exact .To _ j
  |false=>
   show CS f w.con (w.IA false (n7 w.B k)).con;rcases jR w.B k with h|⟨j,h⟩
   ·rw[j2 h];exact .same _
   ·rw[j2 h];exact .Tp _ j
 |Nc r k p b=>
  cases r with
  |true=>
   show CS f w.con (w.IA true (fZ w.T k p b)).con;rcases gG p b w.T k with h|⟨j,h⟩
   ·rw[jP h];exact .same _
   ·rw[jP h];exact .O8 _ j
  |false=>
   show CS f w.con (w.IA false (fZ w.B k p b)).con;rcases gG p b w.B k with h|⟨j,h⟩
   ·rw[j2 h];exact .same _
   ·rw[j2 h];exact .O9 _ j
 |Ik r=>
  have:f=true:=hf rfl;subst this;cases r with
  |true=>exact .N8 w.con
  |false=>exact .Mg w.con
def Gd(c:Cw):Prop:=∃x:Sys,Iv x/\x.con=c
def Fc{a b:Nat}(h:0<a):Gd (WW.new a b).con:=⟨Sys.new a b,Fa h,rfl⟩
def Gq{f:Bool}{c c':Cw}(g:Gd c)(h:CS f c c'):Gd c':=by
 obtain⟨x,v,rfl⟩:=g;cases h with
 |same=>exact⟨x,v,rfl⟩
 |hand _ m=>exact⟨_,(yM v m).1,(yM v m).2⟩
 |start=>exact⟨_,(wv v).1,(wv v).2⟩
 |tick=>exact⟨_,(zz v).1,(zz v).2⟩
 |stepT=>obtain⟨y,h1,h2,_⟩:=AU v;exact⟨y,h1,h2⟩
 |IW=>obtain⟨y,h1,h2⟩:=Ci v;exact⟨y,h1,h2⟩
 |O8 _ k=>exact⟨_,(wP v k).1,(wP v k).2⟩
 |O9 _ k=>exact⟨_,(wQ v k).1,(wQ v k).2⟩
 |To _ k=>exact⟨_,(y3 v k).1,(y3 v k).2⟩
 |Tp _ k=>exact⟨_,(zg v k).1,(zg v k).2⟩
 |N8=>exact⟨_,(wW v).1,(wW v).2⟩
 |Mg=>exact⟨_,(wX v).1,(wX v).2⟩
end Lw
namespace Lw
open PySem L2 DL
section
variable{G:Cs}{S S' S1 S2:ay4}{a a' a1 a2:Ad}{w w' w1 w2:WW}{N:Nat}
def DH(A:Kp G S a w){j:Nat}(h:S.length<=j):j∉a.fp:=fun z=>by have:=A.lt j z;omega
def LA.msgs:LA->List Iu
 |.hand c=>[jQ c 12]
 |_=>[]
def Cy(w:WW)(t:LA):(w.act t.act).s.msgs=w.s.msgs++t.msgs:=by
 have hh:∀c,(w.s.k_ c).msgs=w.s.msgs:=by
  intro c;cases c with
  |t_ o=>dsimp only[Sr.k_];split<;>rfl
  |Ji o=>dsimp only[Sr.k_];split<;>rfl
  |note o n bs=>
   dsimp only[Sr.k_];split
   ·exact(nX w.s n bs).2.2.1
   ·rfl
  |A_ o=>rfl
  |data o n p=>rfl
 have hs:∀r,(w.step r).s.msgs=w.s.msgs:=by
  intro r;unfold WW.step;cases w.road r with
  |nil=>rfl
  |cons e l=>
   obtain⟨c,x⟩:=e;cases x with
   |some xs=>cases r<;>rfl
   |none=>
    cases r with
    |true=>rfl
    |false=>exact hh c
 cases t with
 |hand c=>rfl
 |KZ=>
  show w.s.start.msgs=w.s.msgs++[];rw[ae4];unfold Sr.start;split<;>rfl
 |tick=>exact(ae4 _).symm
 |step r=>exact(hs r).trans (ae4 _).symm
 |Ir k r i c=>
  match k with
  |0=>cases r<;>exact(ae4 _).symm
  |1=>cases r<;>exact(ae4 _).symm
  |_+2=>cases r<;>exact(ae4 _).symm
 |Ik r=>cases r<;>exact(ae4 _).symm
def Ax(t:LA){l:Nat}(hl:S[l]?=some (.lst [t.d])):dJ [.ob l] S=.ok (.ob S.length) (S++[.lst (t.msgs.map D_)]):=by
 show fin S (iU [sO l] S)=_;unfold iU;have hw:Kt h_ [sO l] S=.ok ⟨[t.d],some (l,[t.d])⟩ S:=by
  rw[n4,au];show lI (.ob l) S=_;simp only[lI,hl]
 have q1:=il (f:=Kt h_) (tg:=gN 0) (ti:=ao (f_ HJ (f_ w_ h_ (dI 0)) (dT "hand"))) (fe:=aj cQ (aa (f_ w_ h_ (dI 1)) (aa (dI 12) ai))) (own:=1) (caps:=[])
  (r:=[sO l]) (fun _=>decide (t.kn=("hand":Str))) (fun x=>match x with
   |.tup [_,.int c]=>D_ (jQ c 12)
   |_=>.Hw) hw hl (by simp) (by
   intro x hx;rw[ab3.mp hx];refine⟨[some t.d],rfl,fun zs=>?_,fun hk zs=>?_⟩
   ·exact az (av (av rfl rfl (BL t _)) rfl (bg (BB t) (by decide) rfl))
   ·cases t with
    |hand c=>exact ax (af (av rfl rfl (aO (i:=1) rfl)) (af rfl ah)) (qB c 12 (by decide) _)
    |KZ=>exact absurd hk (by decide)
    |tick=>exact absurd hk (by decide)
    |step r=>exact absurd hk (by rw[show decide ((LA.step r).kn=("hand":Str))=false from (by decide:decide (("step":Str) = "hand")=false)];decide)
    |Ik r=>exact absurd hk (by rw[show decide ((LA.Ik r).kn=("hand":Str))=false from (by decide:decide (("fall":Str) = "hand")=false)];decide)
    |Ir k r i c=>
     match k with
     |0=>exact absurd hk (by rw[show decide ((LA.Ir 0 r i c).kn=("hand":Str))=false from (by decide:decide (("lose":Str) = "hand")=false)];decide)
     |1=>exact absurd hk (by rw[show decide ((LA.Ir 1 r i c).kn=("hand":Str))=false from (by decide:decide (("double":Str) = "hand")=false)];decide)
     |j+2=>exact absurd hk (by rw[show decide ((LA.Ir (j+2) r i c).kn=("hand":Str))=false from (by decide:decide (("spoil":Str) = "hand")=false)];decide))
 rw[aS q1];have e:([t.d].filter fun _=>decide (t.kn=("hand":Str))).map (fun x=>match x with
   |.tup [_,.int c]=>D_ (jQ c 12)
   |_=>.Hw)=t.msgs.map D_:=by
  cases t with
  |hand c=>
   rw[show decide ((LA.hand c).kn=("hand":Str))=true from (by decide:decide (("hand":Str) = "hand")=true)];rfl
  |KZ=>rw[show decide (LA.KZ.kn=("hand":Str))=false by decide];rfl
  |tick=>rw[show decide (LA.tick.kn=("hand":Str))=false by decide];rfl
  |step r=>rw[show decide ((LA.step r).kn=("hand":Str))=false from (by decide:decide (("step":Str) = "hand")=false)];rfl
  |Ik r=>rw[show decide ((LA.Ik r).kn=("hand":Str))=false from (by decide:decide (("fall":Str) = "hand")=false)];rfl
  |Ir k r i c=>
   match k with
   |0=>rw[show decide ((LA.Ir 0 r i c).kn=("hand":Str))=false from (by decide:decide (("lose":Str) = "hand")=false)];rfl
   |1=>rw[show decide ((LA.Ir 1 r i c).kn=("hand":Str))=false from (by decide:decide (("double":Str) = "hand")=false)];rfl
   |j+2=>rw[show decide ((LA.Ir (j+2) r i c).kn=("hand":Str))=false from (by decide:decide (("spoil":Str) = "hand")=false)];rfl
 rw[e];rfl
end
def zM{i:Int}(S:ay4):cX [.int i] S=.ok (.bl true) S:=by
 simp[cX,mo,P6,SG,vN]
section
variable{S S' S1 S2:ay4}
theorem Cb{α:Type}{p q:α->D}{tg:Mx}{fe:ay5}{r0:r_}{g:Option (Nat×List D)}(hg:Lo g S):∀(l:List α) (ys:ay7),ys.length+l.length<=1000000->
  (∀m,m∈l->∃r1,tg (p m) r0=some r1/\∀zs,fe r1 (S++[.lst zs])=.ok (q m) (S++[.lst zs]))->
  dZ tg hV fe S.length g r0 (l.map p) (S++[.lst ys])=.ok () (S++[.lst (ys++l.map q)])
 |[],ys,_,_=>by
  rw[aw3,aw3,ae4];rfl
 |m :: l,ys,hz,hx=>by
  rw[ab8] at hz;obtain⟨r1,t1,t2⟩:=hx m ag5;have Ly:(S++[Cell.lst ys]).set S.length (.lst (ys++[q m]))=S++[.lst (ys++[q m])]:=by
   rw[ag4 _ _ (aa1 _)];simp
  have VT:Lo g (S++[Cell.lst (ys++[q m])]):=by
   cases g with
   |none=>trivial
   |some p=>exact aB hg
  have ih:=Cb hg l (ys++[q m]) (by rw[aa8,ad8];omega) (fun y hy=>hx y (aa9 _ hy));rw[ac2];unfold dZ;rw[t1];dsimp only;show(match fe r1 (S++[Cell.lst ys]) with
   |.ok d S2=>(match S2[S.length]? with
    |some (.lst ys)=>Ka (ys.length<sizeLine/\Lo g (S2.set S.length (.lst (ys++[d])))) (dZ tg hV fe S.length g r0 (l.map p) (S2.set S.length (.lst (ys++[d])))) .bad
    |_=>.bad)
   |_=>.bad)=_
  rw[t2];dsimp only;rw[bE];dsimp only;rw[Ly,bY ⟨P_ (by omega),VT⟩,ih,ae2];rfl
def B1{α:Type}{p q:α->D}{f:r_->M Wk}{tg:Mx}{fe:ay5}{own:Nat}{caps:ax4}{r:r_}{g:Option (Nat×List D)}{l:List α}(h1:f r S=.ok ⟨l.map p,g⟩ S1)(hg:Lo g S1)(hz:l.length<=1000000)
  (hx:∀m,m∈l->∃r1,tg (p m) (ic own caps r)=some r1/\∀zs,fe r1 (S1++[.lst zs])=.ok (q m) (S1++[.lst zs])):dS f tg hV fe own caps r S=.ok (.ob S1.length) (S1++[.lst (l.map q)]):=by
 unfold dS;rw[au,h1];dsimp only;rw[Cb hg l [] (by simpa using hz) hx];rfl
def xZ{r:r_}{i n:Nat}{xs:ay7}(h:mO i r S=.ok (.ob n) S)(hn:S[n]?=some (.lst xs)):Kt (mO i) r S=.ok ⟨xs,some (n,xs)⟩ S:=by
 rw[n4,au,h];show lI (.ob n) S=_;simp only[lI,hn]
def Cv{t u:ay8}{r:r_}{b:Bool}(h1:t r S=.ok false S1)(h2:u r S1=.ok b S2):Kn t u r S=.ok b S2:=by
 simp[h1,h2]
end
end Lw
namespace Lw
abbrev Rn:=Nat×List Iu
def ij(rs:List Rn)(g:Nat×Iu):List Rn:=match rs.getLast? with
 |some r=>if r.1=g.1 then rs.dropLast++[(r.1,r.2++[g.2])] else rs++[(g.1,[g.2])]
 |none=>rs++[(g.1,[g.2])]
def ib(gs:List (Nat×Iu)):List Rn:=gs.foldl ij []
def rF(rs:List Rn)(o:Nat)(ms:List Iu)(m:Iu):ij (rs++[(o,ms)]) (o,m)=rs++[(o,ms++[m])]:=by
 simp[ij]
def tR{rs:List Rn}{g:Nat×Iu}(h:∀r,rs.getLast?=some r->r.1≠g.1):ij rs g=rs++[(g.1,[g.2])]:=by
 unfold ij;cases e:rs.getLast? with
 |none=>rfl
 |some r=>exact ab1 (h r e)
theorem tM(rs:List Rn)(o:Nat):∀(ms as:List Iu),(ms.map fun m=>(o,m)).foldl ij (rs++[(o,as)])=rs++[(o,as++ms)]
 |[],as=>by simp
 |m :: ms,as=>by
  rw[ac2,ar8,rF,tM rs o ms];simp
def xt{rs:List Rn}{o:Nat}{ms:List Iu}(hm:ms≠[])(h:∀r,r∈rs->r.1<o):(ms.map fun m=>(o,m)).foldl ij rs=rs++[(o,ms)]:=by
 cases ms with
 |nil=>exact absurd rfl hm
 |cons m ms=>
  rw[ac2,ar8,tR (fun r e=>ad0 (h r (List.mem_of_getLast? e))),tM];rfl
section
variable{x:Sys}
def Sys.ms(x:Sys)(o:Nat):List Iu:=(x.run o).map (·.2)
def Bm(x:Sys)(o:Nat):x.run o=(x.ms o).map fun m=>(o,m):=by
 unfold Sys.ms Sys.run;rw[ah6,ah6];rfl
def Sys.ops(x:Sys)(n:Nat):List Nat:=(range n).filter fun o=>!(x.ms o).isEmpty
def Sys.bl(x:Sys)(n:Nat):List Rn:=(x.ops n).map fun o=>(o,x.ms o)
def rE{n o:Nat}(h:o∈x.ops n):o<n:=by
 unfold Sys.ops at h;simpa using (ad3.mp h).1
theorem yY(x:Sys):∀n,ib ((range n).flatMap x.run)=x.bl n
 |0=>rfl
 |n+1=>by
  have ih:=yY x n;unfold ib at ih ⊢;rw[at0,ak7,ar6,ih];have e1:([n]:ax4).flatMap x.run=x.run n:=by simp
  rw[e1,Bm];unfold Sys.bl Sys.ops;rw[at0,List.filter_append,ae0];by_cases hm:x.ms n=[]
  ·rw[hm];simp[hm]
  ·rw[xt hm]
   ·have:(!(x.ms n).isEmpty)=true:=by simpa using hm
    simp[ak8,this]
   ·intro r hr;obtain⟨o,ho,rfl⟩:=ab6.mp hr;exact rE ho
def xx(x:Sys)(n:Nat):(x.ops n).Pairwise (· < ·):=List.Pairwise.sublist List.filter_sublist ao9
def FF(x:Sys)(n:Nat):(x.bl n).map (·.1)=x.ops n:=by
 unfold Sys.bl;rw[ah6];exact List.map_id' _
def Dr{l:ax4}(up:l.Pairwise (· < ·)){i o o':Nat}(h:l[i]?=some o)(h':o'∈l)(hl:o'<o):o'∈l.take i:=by
 obtain⟨j,hj,e⟩:=ak1.mp h';obtain⟨hi,e2⟩:=aa2.mp h;have hji:j<i:=by
  rcases Nat.lt_or_ge j i with z|z
  ·exact z
  ·exfalso;by_cases q:i=j
   ·subst q;omega
   ·have:=aj5.mp up i j hi hj (by omega);omega
 have:(l.take i)[j]?=some o':=by rw[List.getElem?_take_of_lt hji,ab9 hj,e]
 exact af2 this
def uW(x:Sys)(o:Nat):x.ms o=(x.s.msgs.drop (x.st o)).take (HI ((x.P o).take (x.tk o))):=CQ x o
def AR(c:Oo x){o:Nat}(h:o<=x.s.op):(x.ms o).length=HI ((x.P o).take (x.tk o)):=by
 have h1:=ED c h;unfold Sys.en at h1;rw[uW,ad7,ae8];omega
def BT(c:Oo x){o:Nat}(h:o<=x.s.op):(x.s.msgs.drop (x.st o)).take (x.ms o).length=x.ms o:=by
 rw[AR c h,<-uW]
def EC(c:Oo x){o:Nat}(h:o<=x.s.op):x.st o+(x.ms o).length=x.en o:=by
 rw[AR c h];rfl
def ms0(c:Oo x):x.ms 0=[]:=by
 rw[uW,c.t0];simp[HI]
def Ce(c:Oo x){i o R:Nat}(hi:(x.ops (x.s.op+1))[i]?=some o)(hR:∀o',o'∈(x.ops (x.s.op+1)).take i->x.en o'<=R):x.st o<=R:=by
 have ho:o<=x.s.op:=at7 (rE (af2 hi));have key:∀o',o'<o->x.en o'<=R:=by
  intro o'
  induction o' using Nat.strongRecOn with
  |ind o' ih=>
   intro hl;by_cases hm:x.ms o'=[]
   ·have e:x.en o'=x.st o':=by
     have:=EC c (show o'<=x.s.op by omega);rw[hm] at this;simpa using this.symm
    rw[e];by_cases z:o'=0
    ·rw[z,c.s0];exact ae7 _
    ·obtain⟨o2,q1,q2⟩:=c.ch o' (by omega) (by omega);exact ab5 q2 (ih o2 q1 (by omega))
   ·refine hR o' (Dr (xx x _) hi ?_ hl);unfold Sys.ops;exact ad3.mpr ⟨ah3.mpr (by omega),by simpa using hm⟩
 by_cases z:o=0
 ·rw[z,c.s0];exact ae7 _
 ·obtain⟨o2,q1,q2⟩:=c.ch o (by omega) ho;exact ab5 q2 (key o2 q1)
def Dz(c:Oo x){n o:Nat}(h:o∈x.ops n):0<o:=by
 rcases Nat.eq_zero_or_pos o with z|z
 ·subst z;have:=(ad3.mp h).2;rw[ms0 c] at this;simp at this
 ·exact z
end
structure Se(L:ax4)(c:Cw):Prop where
 t:∀o n p,x_.data o n p∈c.T->o∈L
 g:∀g,g∈c.h.given->g.1∈L
def xv(h:Hr)(p:Pc):(h.take p).op=h.op/\h.given <+: (h.take p).given/\∀g,g∈(h.take p).given->g∈h.given\/g.1=h.op:=by
 unfold Hr.take;split
 ·refine⟨rfl,List.prefix_append _ _,fun g hg=>?_⟩;rcases ab0.mp hg with z|z
  ·exact .inl z
  ·rw[ab3] at z;exact .inr (by rw[z])
 ·exact⟨rfl,ae9 _,fun g hg=>.inl hg⟩
theorem tV:∀(n:Nat) (h:Hr),h.given <+: (Hr.Hx n h).given/\∀g,g∈(Hr.Hx n h).given->g∈h.given\/g.1=h.op
 |0,h=>⟨ae9 _,fun g hg=>.inl hg⟩
 |n+1,h=>by
  unfold Hr.Hx;cases h.early.lookup h.nx with
  |none=>exact⟨ae9 _,fun g hg=>.inl hg⟩
  |some p=>
   obtain⟨a1,a2⟩:=tV n (h.pop.take p);obtain⟨b0,b1,b2⟩:=xv h.pop p;refine⟨b1.trans a1,fun g hg=>?_⟩;rcases a2 g hg with z|z
   ·exact b2 g z
   ·exact .inr (z.trans b0)
def yx(h:Hr)(n:Nat)(p:Pc):(h.keep n p).given=h.given/\(h.keep n p).op=h.op:=by
 unfold Hr.keep;split<;>exact⟨rfl,rfl⟩
def pe(h:Hr)(c:x_):h.given <+: (h.k_ c).1.given/\∀g,g∈(h.k_ c).1.given->g∈h.given\/∃n p,c=.data g.1 n p:=by
 cases c with
 |A_ o=>unfold Hr.k_;dsimp only;split<;>(try split)<;>exact⟨ae9 _,fun g hg=>.inl hg⟩
 |data o n p=>
  unfold Hr.k_;dsimp only;split
  ·exact⟨ae9 _,fun g hg=>.inl hg⟩
  ·split
   ·exact⟨ae9 _,fun g hg=>.inl hg⟩
   ·rename_i h1 h2;have ho:h.op=o:=by omega
    show h.given <+: (h.data n p).given/\_;unfold Hr.data;obtain⟨k1,k2⟩:=yx h n p;obtain⟨a1,a2⟩:=tV (h.keep n p).early.length (h.keep n p);rw[k1] at a1 a2;refine⟨a1,fun g hg=>?_⟩;rcases a2 g hg with z|z
    ·exact .inl z
    ·exact .inr ⟨n,p,by rw[z,k2,ho]⟩
 |t_ o=>exact⟨ae9 _,fun g hg=>.inl hg⟩
 |Ji o=>exact⟨ae9 _,fun g hg=>.inl hg⟩
 |note o n bs=>exact⟨ae9 _,fun g hg=>.inl hg⟩
def DE(s:Sr){o n:Nat}{p:Pc}(h:x_.data o n p∈s.tick):o=s.op:=by
 unfold Sr.tick at h;split at h
 ·cases h
 ·rw[ab3] at h;cases h
 ·obtain⟨i,_,e⟩:=ab6.mp h;unfold Sr.dataOf at e;cases e;rfl
theorem Cg:∀{l L:ax4},l.Nodup->(∀o,o∈l->o∈L)->l.length<=L.length
 |[],L,_,_=>ae7 _
 |a :: l,L,h,k=>by
  obtain⟨h1,h2⟩:=aj7.mp h;have ha:=k a ag5;have:=Cg (l:=l) (L:=L.erase a) h2 fun o ho=>(List.mem_erase_of_ne (fun z=>h1 (by rw[<-z];exact ho))).mpr (k o (aa9 _ ho))
  rw[List.length_erase_of_mem ha] at this;have:=List.length_pos_of_mem ha;rw[ab8];omega
end Lw
namespace Lw
open PySem L2 DL
def LA.tk:LA->Nat
 |.tick=>1
 |_=>0
def O_(l:List LA):Nat:=(l.map LA.tk).sum
def kI(a b:List LA):O_ (a++b)=O_ a+O_ b:=by simp[O_]
def Bb(falls:Bool)(c:Int):O_ (gO falls c)<=1:=by
 unfold gO;split
 ·exact ae7 _
 ·split
  ·exact aa1 _
  ·split
   ·unfold O_;rw[List.map_replicate,List.sum_replicate_nat];simp[LA.tk]
   ·split
    ·exact ae7 _
    ·split<;>exact ae7 _
theorem tN(falls:Bool):∀l:List Int,O_ (l.flatMap (gO falls))<=l.length
 |[]=>ae7 _
 |c :: l=>by
  have h1:=Bb falls c;have h2:=tN falls l;rw[ap0,kI,ab8];omega
def BK(falls:Bool)(ns:ax3)(i:Nat):O_ ((dL falls ns).take i)<=60:=by
 have h1:=tN falls ((ns.drop 3).take 60);have h2:((ns.drop 3).take 60).length<=60:=by rw[ad7];omega
 have h3:O_ (dL falls ns)<=60:=by
  unfold dL;rw[kI];have:O_ [.KZ,.hand (cv ns 2)]=0:=rfl;omega
 have h4:=kI ((dL falls ns).take i) ((dL falls ns).drop i);rw[ag3] at h4;omega
def xi{e:En}{l:List En}{c:x_}(h:c∈bD l):c∈bD (e :: l):=by
 obtain⟨d,x⟩:=e;cases x with
 |none=>exact aa9 _ h
 |some xs=>exact h
def CT{L:ax4}{w:WW}(h:Se L w.con)(t:LA):∃L',L'.length<=L.length+t.tk/\Se L' (w.act t.act).con:=by
 have sub:∀{l:List En},(∀c,c∈bD l->c∈bD w.T)->Se L (w.IA true l).con:=fun hs=>⟨fun o n p hc=>h.t o n p (hs _ hc),h.g⟩
 cases t with
 |KZ=>exact⟨L,aa1 _,h.t,h.g⟩
 |hand c=>exact⟨L,aa1 _,h.t,h.g⟩
 |tick=>
  refine⟨w.s.op :: L,aa1 _,fun o n p hc=>?_,fun g hg=>aa9 _ (h.g g hg)⟩;have hc:x_.data o n p∈bD (w.T++w.s.tick.map gd):=hc;rw[kM,qL] at hc;rcases ab0.mp hc with z|z
  ·exact aa9 _ (h.t o n p z)
  ·rw[DE w.s z];exact ag5
 |step r=>
  refine⟨L,aa1 _,?_⟩;show Se L (w.step r).con;unfold WW.step;cases r with
  |true=>
   cases hT:w.T with
   |nil=>rw[show w.road true=[] from hT];exact h
   |cons e l=>
    rw[show w.road true=e :: l from hT];have hs:∀c,c∈bD l->c∈bD w.T:=fun c hc=>by rw[hT];exact xi hc
    obtain⟨c,x⟩:=e;cases x with
    |some xs=>exact sub hs
    |none=>
     refine⟨fun o n p hc=>h.t o n p (hs _ hc),fun g hg=>?_⟩;rcases (pe w.h c).2 g hg with z|⟨n,p,rfl⟩
     ·exact h.g g z
     ·exact h.t g.1 n p (by show _∈bD w.T;rw[hT];exact ag5)
  |false=>
   cases hB:w.B with
   |nil=>rw[show w.road false=[] from hB];exact h
   |cons e l=>
    rw[show w.road false=e :: l from hB];obtain⟨c,x⟩:=e;cases x with
    |some xs=>exact⟨h.t,h.g⟩
    |none=>exact⟨h.t,h.g⟩
 |Ir k r i c=>
  refine⟨L,aa1 _,?_⟩
  match k with
  |0=>
   cases r with
   |false=>exact⟨h.t,h.g⟩
   |true=>
    refine sub fun c hc=>?_
    have hc:c∈bD (w.T.eraseIdx i):=hc;rcases gI w.T i with z|⟨j,z⟩
    ·rw[<-z];exact hc
    ·rw[z] at hc;exact ai6 hc
  |1=>
   cases r with
   |false=>exact⟨h.t,h.g⟩
   |true=>
    refine sub fun c hc=>?_
    have hc:c∈bD (n7 w.T i):=hc;rcases jR w.T i with z|⟨j,z⟩
    ·rw[<-z];exact hc
    ·rw[z] at hc;exact jo hc
  |_+2=>
   cases r with
   |false=>exact⟨h.t,h.g⟩
   |true=>
    refine sub fun d hc=>?_
    have hc:d∈bD (fZ w.T i (mx c 9829 16) (mx c 9817 256:Nat)):=hc;rcases gG (mx c 9829 16) (mx c 9817 256:Nat) w.T i with z|⟨j,z⟩
    ·rw[<-z];exact hc
    ·rw[z] at hc;exact ai6 hc
 |Ik r=>cases r<;>exact⟨L,aa1 _,h.t,h.g⟩
def Am(w:WW)(t:LA):w.h.given <+: (w.act t.act).h.given:=by
 cases t with
 |step r=>
  show _ <+: (w.step r).h.given;unfold WW.step;cases w.road r with
  |nil=>exact ae9 _
  |cons e l=>
   obtain⟨c,x⟩:=e;cases x with
   |some xs=>cases r<;>exact ae9 _
   |none=>
    cases r with
    |true=>exact(pe w.h c).1
    |false=>exact ae9 _
 |Ir k r i c=>
  match k with
  |0=>cases r<;>exact ae9 _
  |1=>cases r<;>exact ae9 _
  |_+2=>cases r<;>exact ae9 _
 |Ik r=>cases r<;>exact ae9 _
 |KZ=>exact ae9 _
 |hand c=>exact ae9 _
 |tick=>exact ae9 _
structure Due(hs:List Iu)(rs:List Rn):Prop where
 up:(rs.map (·.1)).Pairwise (· < ·)
 pos:∀r,r∈rs->0<r.1
 VQ:rs.length<=60
 ne:∀r,r∈rs->r.2≠[]
 way:∃st:Nat->Nat,∀(i:Nat) (r:Rn) (R:Nat),rs[i]?=some r->(∀q,q∈rs.take i->st q.1+q.2.length<=R)->st r.1<=R/\(hs.drop (st r.1)).take r.2.length=r.2
def FJ{w:WW}{L:ax4}(g:Gd w.con)(h:Se L w.con)(hL:L.length<=60):Due w.s.msgs (ib w.h.given):=by
 obtain⟨x,v,e⟩:=g;have h1:x.h=w.h:=am1 Cw.h e;have h2:x.s=w.s:=am1 Cw.s e;have c:=v.c;have hg:=c.hg;rw[h1] at hg;have hr:ib w.h.given=x.bl (x.s.op+1):=by rw[hg,yY]
 rw[hr,<-h2];have KH:∀o,o∈x.ops (x.s.op+1)->o∈L:=by
  intro o ho;have Mp:=(ad3.mp ho).2;cases hm:x.ms o with
  |nil=>rw[hm] at Mp;simp at Mp
  |cons m l=>
   refine h.g (o,m) ?_;show(o,m)∈w.h.given;rw[hg];refine au6.mpr ⟨o,ah3.mpr (rE ho),?_⟩;rw[Bm,hm];exact ag5
 refine⟨by rw[FF];exact xx x _,fun r hr=>?_,?_,fun r hr=>?_,x.st,fun i r R hi hR=>?_⟩
 ·obtain⟨o,ho,rfl⟩:=ab6.mp hr;exact Dz c ho
 ·have:=Cg (l:=x.ops (x.s.op+1)) ((xx x _).imp fun h=>ad0 h) KH;unfold Sys.bl;rw[aa7];omega
 ·obtain⟨o,ho,rfl⟩:=ab6.mp hr;have Mp:=(ad3.mp ho).2;intro z;have z:x.ms o=[]:=z;rw[z] at Mp;simp at Mp
 ·unfold Sys.bl at hi hR;rw[ac8] at hi;cases ho:(x.ops (x.s.op+1))[i]? with
  |none=>rw[ho] at hi;cases hi
  |some o=>
   rw[ho] at hi;cases hi;have hle:o<=x.s.op:=at7 (rE (af2 ho));refine⟨Ce c ho fun o' M5=>?_,BT c hle⟩;have XX:o'<=x.s.op:=at7 (rE (aj9 M5));rw[<-EC c XX];exact hR (o',x.ms o') (by rw[<-aq6];exact List.mem_map_of_mem M5)
def Ue(m:Iu):PyData:=.tuple (m.map PyData.int)
theorem rK(S:ay4):∀ms:List Iu,KS S 29 (ms.map D_)=some (ms.map Ue)
 |[]=>by simp[KS]
 |m :: ms=>by
  rw[ac2];simp only[KS,D_,mG S 27];rw[rK S ms];rfl
theorem oY:∀xs ys:List Iu,PyData.eqvAll (xs.map Ue) (ys.map Ue)=decide (xs=ys)
 |[],[]=>by simp[PyData.eqvAll]
 |[],_ :: _=>by simp[PyData.eqvAll]
 |_ :: _,[]=>by simp[PyData.eqvAll]
 |x :: xs,y :: ys=>by
  simp only[ac2,PyData.eqvAll,Ue,PyData.eqv,lK,List.cons.injEq];rw[oY xs ys];by_cases h1:x=y<;>by_cases h2:xs=ys<;>simp[h1,h2]
def CP{S:ay4}{a b:Nat}{xs ys:List Iu}(h1:S[a]?=some (.lst (xs.map D_)))(h2:S[b]?=some (.lst (ys.map D_))):HJ (.ob a) (.ob b) S=.ok (.bl (decide (xs=ys))) S:=by
 have e1:pD S 30 (.ob a)=some (.list (xs.map Ue)):=by rw[zh h1,rK];rfl
 have e2:pD S 30 (.ob b)=some (.list (ys.map Ue)):=by rw[zh h2,rK];rfl
 simp only[HJ,e1,e2,PyData.eqv,oY]
def cW(b:Nat):List Rn->List D
 |[]=>[]
 |r :: rs=>.tup [.int (r.1:Int),.ob b] :: cW (b+1) rs
theorem lr:∀(rs:List Rn) (b:Nat) (r:Rn),cW b (rs++[r])=cW b rs++[.tup [.int (r.1:Int),.ob (b+rs.length)]]
 |[],b,r=>by simp[cW]
 |q :: rs,b,r=>by
  rw[aq2,cW,lr rs (b+1) r,cW,ab8,aq2,show b+1+rs.length=b+(rs.length+1) by omega]
theorem qJ:∀(rs:List Rn) (b:Nat),(cW b rs).length=rs.length
 |[],b=>rfl
 |q :: rs,b=>by rw[cW,ab8,qJ rs,ab8]
theorem zb:∀(rs:List Rn) (b i:Nat),(cW b rs)[i]?=rs[i]?.map fun r=>.tup [.int (r.1:Int),.ob (b+i)]
 |[],b,i=>by simp[cW]
 |q :: rs,b,0=>by simp[cW]
 |q :: rs,b,i+1=>by
  rw[cW,ac9,ac9,zb rs (b+1) i,show b+1+i=b+(i+1) by omega]
def qe(rs:List Rn):List Cell:=rs.map fun r=>.lst (r.2.map D_)
def RS(S:ay4)(rs:List Rn):List Cell:=S ++ .lst (cW (S.length+1) rs) :: qe rs
section
variable{S:ay4}{rs:List Rn}
def FI:(RS S rs).length=S.length+1+rs.length:=by simp[RS,qe];omega
def rX:(RS S rs)[S.length]?=some (.lst (cW (S.length+1) rs)):=by simp[RS]
def EH{i:Nat}{r:Rn}(h:rs[i]?=some r):(RS S rs)[S.length+1+i]?=some (.lst (r.2.map D_)):=by
 unfold RS;rw[ad5 (by omega),show S.length+1+i-S.length=i+1 by omega,ac9,qe,ac8,h];rfl
def CU(o:Nat)(ms:List Iu)(m:Iu):(RS S (rs++[(o,ms)])).set (S.length+1+rs.length) (.lst (ms.map D_++[D_ m]))=RS S (rs++[(o,ms++[m])]):=by
 unfold RS;rw[ag4 _ _ (by omega),show S.length+1+rs.length-S.length=rs.length+1 by omega,as5];have e:cW (S.length+1) (rs++[(o,ms)])=cW (S.length+1) (rs++[(o,ms++[m])]):=by rw[lr,lr]
 rw[e];congr 2;unfold qe;rw[ae0,ae0,ag4 _ _ (by simp)];simp
def FA(o:Nat)(m:Iu):((RS S rs)++[Cell.lst [D_ m]]).set S.length (Cell.lst (cW (S.length+1) rs++[D.tup [.int (o:Int),.ob (RS S rs).length]]))=RS S (rs++[(o,[m])]):=by
 rw[FI];unfold RS;rw[ae2,ag4 _ _ (aa1 _),Nat.sub_self,lr];simp[qe]
end
theorem rG:∀(gs:List (Nat×Iu)) (rs:List Rn) (k:Nat),rs.length<=k->(∀r,r∈rs->r.2.length<=k)->(gs.foldl ij rs).length<=k+gs.length/\∀r,r∈gs.foldl ij rs->r.2.length<=k+gs.length
 |[],rs,k,h1,h2=>⟨h1,h2⟩
 |g :: gs,rs,k,h1,h2=>by
  rw[ar8];have hn:(rs++[(g.1,[g.2])]).length<=k+1/\∀r,r∈rs++[(g.1,[g.2])]->r.2.length<=k+1:=by
   refine⟨by rw[aa8];simp;exact h1,fun r hr=>?_⟩;rcases ab0.mp hr with z|z
   ·exact an4 (h2 r z)
   ·rw[ab3] at z;subst z;simp
  have:(ij rs g).length<=k+1/\∀r,r∈ij rs g->r.2.length<=k+1:=by
   unfold ij;cases e:rs.getLast? with
   |none=>exact hn
   |some q=>
    dsimp only;split
    ·have hq:=h2 q (List.mem_of_getLast? e);refine⟨by rw[aa8,List.length_dropLast];simp;omega,fun r hr=>?_⟩;rcases ab0.mp hr with z|z
     ·exact an4 (h2 r ((List.dropLast_sublist rs).subset z))
     ·rw[ab3] at z;subst z;rw[aa8];simp;exact hq
    ·exact hn
  have:=rG gs (ij rs g) (k+1) this.1 this.2;rw[ab8];rw[show k+(gs.length+1)=k+1+gs.length by omega];exact this
def zN{S:ay4}{n:Nat}{xs:ay7}{d:D}(h:S[n]?=some (.lst (xs++[d]))):w_ (.ob n) (.int (-1)) S=.ok d S:=by
 have e:M9 (xs++[d]) (-1)=some d:=by
  unfold M9 Ou;rw[ab1 (by omega),ab2 (by simp;omega)];show(xs++[d])[_]?=_;have:((-1:Int)+((xs++[d]).length:Nat)).toNat=xs.length:=by simp;omega
  rw[this];simp
 simp only[w_,gj,bQ h,e]
def B9(gs:List (Nat×Iu))(S:ay4)(hz:gs.length<=100000):gJ [.tup (gs.map JP)] S=.ok (.ob S.length) (RS S (ib gs)):=by
 show fin S (kO [some (.tup (gs.map JP)),none,none,none] S)=_;unfold kO;rw[aw (bh (bU ah (by decide)))];show fin S (aI _ _ [some (.tup (gs.map JP)),sO S.length,none,none] (S++[.lst []]))=_;have hw:Kt h_ [some (.tup (gs.map JP)),sO S.length,none,none] (S++[.lst []])=.ok ⟨gs.map JP,none⟩ (S++[.lst []]):=rfl;obtain⟨r',S3,q,hI⟩:=db (g:=none) (tg:=gT [2,3]) (b:=jd)
  (fun i r S'=>S'=RS S (ib (gs.take i))/\∃x2 x3,r=[some (.tup (gs.map JP)),sO S.length,x2,x3]) (gs.map JP) 0 [some (.tup (gs.map JP)),sO S.length,none,none] (S++[.lst []])
  (by
   rintro i y r S' hy ⟨rfl,x2,x3,rfl⟩;rw[ac8] at hy;cases hp:gs[i]? with
   |none=>rw[hp] at hy;cases hy
   |some g=>
    rw[hp] at hy;cases hy;rw[af7];have XG:ib (gs.take (i+1))=ij (ib (gs.take i)) g:=by
     rw[take_succ,hp];unfold ib;rw[ar6];rfl
    obtain⟨z1,z2⟩:=rG (gs.take i) [] 0 (aa1 _) (fun r hr=>nomatch hr);have hti:(gs.take i).length<=gs.length:=by rw[ad7];omega
    obtain⟨rs,Qo⟩:∃rs,ib (gs.take i)=rs:=⟨_,rfl⟩;have z1:rs.length<=100000:=by rw[<-Qo];unfold ib;omega
    have z2:∀r,r∈rs->r.2.length<=100000:=fun r hr=>by
     have:=z2 r (by rw[<-Qo] at hr;exact hr);omega
    rw[XG,Qo];obtain⟨o,m⟩:=g;refine⟨[some (.tup (gs.map JP)),sO S.length,sI (o:Int),some (D_ m)],[some (.tup (gs.map JP)),sO S.length,sI (o:Int),some (D_ m)],RS S (ij rs (o,m)),rfl,?_,trivial,rfl,_,_,rfl⟩;obtain⟨r0,Vo⟩:∃r0,r0=[some (D.tup (gs.map JP)),sO S.length,sI (o:Int),some (D_ m)]:=⟨_,rfl⟩;rw[<-Vo];have v1:v_ r0 (RS S rs)=.ok (.ob S.length) (RS S rs):=by rw[Vo];rfl
    have v2:Ic r0 (RS S rs)=.ok (.int (o:Int)) (RS S rs):=by rw[Vo];rfl
    have v3:∀T,H_ r0 T=.ok (D_ m) T:=fun T=>by rw[Vo];rfl
    have v4:∀T,Ic r0 T=.ok (.int (o:Int)) T:=fun T=>by rw[Vo];rfl
    have t1:bM v_ r0 (RS S rs)=.ok (!rs.isEmpty) (RS S rs):=by
     rw[cD,au,v1];show oC (.ob S.length) (RS S rs)=_;simp only[oC,rX];congr 2;cases rs with
     |nil=>rfl
     |cons r rs=>rfl
    have new:∀(h:∀r,rs.getLast?=some r->r.1≠o),bx (KU iN v_ (aa (ci (aa Ic (aa (bT (aa H_ ai)) ai))) ai)) r0 (RS S rs)=some (.nx r0,RS S (ij rs (o,m))):=by
     intro h;rw[tR h,<-FA];refine aX (d:=.Hw) (j4 v1 rX (af (bL (af v2 (af (bU (af (v3 _) ah) (by simp)) ah)) (by simp)) ah) ?_);exact pc (aB (rX (rs:=rs))) (by rw[qJ];omega)
    unfold jd;rcases List.eq_nil_or_concat rs with z|⟨Pl,⟨o',ms⟩,z⟩
    ·subst z;have cond:dc (bM v_) (ao (f_ HJ (f_ w_ (f_ w_ v_ (P8 uU (dI 1))) (dI 0)) Ic)) r0 (RS S [])=.ok false (RS S []):=by
      rw[cL,au,t1];rfl
     rw[ay cond];exact new fun r hr=>by cases hr
    ·have z:rs=Pl++[(o',ms)]:=by rw[z];simp
     subst z;have hx:f_ w_ v_ (P8 uU (dI 1)) r0 (RS S (Pl++[(o',ms)]))=.ok (.tup [.int (o':Int),.ob (S.length+1+Pl.length)]) (RS S (Pl++[(o',ms)])):=
      av v1 rfl (zN (xs:=cW (S.length+1) Pl) (by rw[<-lr Pl (S.length+1) (o',ms)];exact rX))
     have cond:dc (bM v_) (ao (f_ HJ (f_ w_ (f_ w_ v_ (P8 uU (dI 1))) (dI 0)) Ic)) r0 (RS S (Pl++[(o',ms)]))=.ok (decide (o'=o)) (RS S (Pl++[(o',ms)])):=by
      rw[cL,au,t1];have:(!(Pl++[(o',ms)]).isEmpty)=true:=by simp
      rw[this];show ao _ r0 _=_;refine az (av (av hx rfl (aO (i:=0) rfl)) v2 ?_);rw[iO];congr 2;rw[ac3];omega
     by_cases ho:o'=o
     ·subst ho;rw[aa3 rfl] at cond;rw[aT cond,rF,<-CU];have hat:(RS S (Pl++[(o',ms)]))[S.length+1+Pl.length]?=some (.lst (ms.map D_)):=EH (r:=(o',ms)) (by simp);refine aX (d:=.Hw) (j4 (av hx rfl (aO (i:=1) rfl)) hat (af (v3 _) ah) ?_);exact pc hat (by rw[aa7];have:=z2 (o',ms) (by simp);have:ms.length<=100000:=this;omega)
     ·rw[aa5 ho] at cond;rw[ay cond];refine new fun r hr=>?_
      rw[List.getLast?_concat] at hr;cases hr;exact ho)
  ⟨rfl,none,none,rfl⟩
 obtain⟨rfl,x2,x3,rfl⟩:=hI;rw[aw (by rw[kg hw];exact q),aS (d:=.ob S.length) rfl,Bq,aa7,af7,an8]
def mw(hs ms:List Iu)(j:Nat):List Nat:=((range j).filter fun b=>decide ((hs.drop b).take ms.length=ms)).map fun b=>b+ms.length
def AF(hs ms:List Iu)(j:Nat):mw hs ms (j+1)=if (hs.drop j).take ms.length=ms then mw hs ms j++[j+ms.length] else mw hs ms j:=by
 unfold mw;rw[at0,List.filter_append,ae0];split
 ·rename_i h;simp[h]
 ·rename_i h;simp[h]
def Bk{hs ms:List Iu}{j e:Nat}(h:e∈mw hs ms j)(hm:ms≠[]):e<=hs.length:=by
 obtain⟨b,hb,rfl⟩:=ab6.mp h;have h2:(hs.drop b).take ms.length=ms:=by simpa using (ad3.mp hb).2
 have h3:=am1 length h2;rw[ad7,ae8] at h3;have:=aq9.mpr hm;omega
def Bw{hs ms:List Iu}{j b:Nat}(h:b<j)(hb:(hs.drop b).take ms.length=ms):b+ms.length∈mw hs ms j:=
 ab6.mpr ⟨b,ad3.mpr ⟨ah3.mpr h,by simpa using hb⟩,rfl⟩
def BD(hs ms:List Iu)(j:Nat):(mw hs ms j).length<=j:=by
 unfold mw;rw[aa7];have:=ap7 (fun b=>decide ((hs.drop b).take ms.length=ms)) (range j);rw[ar5] at this;exact this
def ld{S S':ay4}(h:Fr [] S S'){i:Nat}{c:Cell}(hc:S[i]?=some c):S'[i]?=some c:=h.get hc (by simp)
def lH(l:ax4):List D:=(l.map fun e:Nat=>(e:Int)).map D.int
def An(l:ax4)(e:Nat):lH (l++[e])=lH l++[.int (e:Int)]:=by simp[lH]
def Aj(l:ax4):(lH l).length=l.length:=by simp[lH]
def w9{hs ms:List Iu}{T:ay4}{hl k el b:Nat}{es:ax4}{x1 x2 x3:Option D}(hh:T[hl]?=some (.lst (hs.map D_)))(hk:T[k]?=some (.lst (ms.map D_)))(he:T[el]?=some (.lst (lH es)))(hz:es.length<=100000) :
  ∃T',eN [sO hl,x1,x2,x3,sO k,sO el,sI (b:Int)] T=some (.nx [sO hl,x1,x2,x3,sO k,sO el,sI (b:Int)],T')/\
   T'[el]?=some (.lst (lH (if (hs.drop b).take ms.length=ms then es++[b+ms.length] else es)))/\Fr [el] T T':=by
 obtain⟨r,hr⟩:∃r,r=[some (D.ob hl),x1,x2,x3,sO k,sO el,sI (b:Int)]:=⟨_,rfl⟩;rw[<-hr];have v0:∀T,h_ r T=.ok (.ob hl) T:=fun T=>by rw[hr];rfl
 have v4:∀T,Jy r T=.ok (.ob k) T:=fun T=>by rw[hr];rfl
 have v5:∀T,Nb r T=.ok (.ob el) T:=fun T=>by rw[hr];rfl
 have v6:∀T,O5 r T=.ok (.int (b:Int)) T:=fun T=>by rw[hr];rfl
 have sm:∀{T:ay4},T[k]?=some (.lst (ms.map D_))->f_ bI O5 (aj bu (aa Jy ai)) r T=.ok (.int ((b:Int)+(ms.length:Int))) T:=fun h=>by
  refine av (v6 _) (ax (af (v4 _) ah) (jY h)) ?_;rw[ck,aa7]
 obtain⟨sl,O3⟩:∃sl,(hs.drop b).take ms.length=sl:=⟨_,rfl⟩;obtain⟨T1,Om⟩:∃T1,T++[Cell.lst (sl.map D_)]=T1:=⟨_,rfl⟩;have s1:Kb Jo h_ (bA O5) (bA (f_ bI O5 (aj bu (aa Jy ai)))) r T=.ok (.ob T.length) T1:=by
  rw[kS,au,v0];show((bA O5 r).bind _) T=_;rw[au,dW,au,v6];show((bA _ r).bind _) T=_;rw[au,dW,au,sm hk];show Jo (.ob hl) (some (b:Int)) (some ((b:Int)+(ms.length:Int))) T=_;simp only[Jo,bQ hh];rw[vY,<-as9,<-aq6,O3,Om]
 have Tj:T1[k]?=some (.lst (ms.map D_)):=by rw[<-Om];exact aB hk
 have PL:T1[el]?=some (.lst (lH es)):=by rw[<-Om];exact aB he
 have cond:ao (f_ HJ (Kb Jo h_ (bA O5) (bA (f_ bI O5 (aj bu (aa Jy ai))))) Jy) r T=.ok (decide (sl=ms)) T1:=
  az (av s1 (v4 _) (CP (by rw[<-Om];exact bE) Tj))
 have f1:Fr [el] T T1:=by rw[<-Om];exact Fr.push
 unfold eN;by_cases h:sl=ms
 ·rw[aa3 h] at cond;rw[aT cond,ab2 (O3.trans h)];refine⟨T1.set el (.lst (lH es++[.int ((b:Int)+(ms.length:Int))])),aX (d:=.Hw) (j4 (v5 _) PL (af (sm Tj) ah) (pc PL (by rw[Aj];omega))),?_,f1.tr (Fr.set (by simp))⟩;rw[dh PL,An];rfl
 ·rw[aa5 h] at cond;rw[ay cond,ab1 fun z=>h (O3.symm.trans z)];exact⟨T1,rfl,PL,f1⟩
def yj{hs ms:List Iu}{T:ay4}{hl k R:Nat}{x1 x3 x5 x6:Option D}(hh:T[hl]?=some (.lst (hs.map D_)))(hk:T[k]?=some (.lst (ms.map D_)))(hR:R<=100000)(hm:ms≠[]){st:Nat}(Jl:st<=R)(heq:(hs.drop st).take ms.length=ms) :
  ∃T' R' y5 y6,eL [sO hl,x1,sI (R:Int),x3,sO k,x5,x6] T=some (.nx [sO hl,x1,sI (R':Nat),x3,sO k,y5,y6],T')/\Fr [] T T'/\R<=R'/\st+ms.length<=R'/\(R'<=R\/R'<=hs.length):=by
 unfold eL;rw[aw (bh (bU ah (by decide)))];obtain⟨el,R3⟩:∃el,T.length=el:=⟨_,rfl⟩;obtain⟨T1,Om⟩:∃T1,T++[Cell.lst []]=T1:=⟨_,rfl⟩;rw[Om,R3];show ∃T' R' y5 y6,aI _ _ [sO hl,x1,sI (R:Int),x3,sO k,sO el,x6] T1=_/\_;have f1:Fr [] T T1:=by rw[<-Om];exact Fr.push
 have PL:T1[el]?=some (.lst (lH [])):=by rw[<-Om,<-R3];exact bE
 have hw:o6 (f_ bI Ic (dI 1)) [sO hl,x1,sI (R:Int),x3,sO k,sO el,x6] T1=.ok ⟨fw 0 1 (R+1),none⟩ T1:=by
  show wN (.int ((R:Int)+1)) T1=_;exact vf (n:=R+1) (by omega)
 obtain⟨r',T2,q,hI⟩:=db (g:=none) (tg:=gN 6) (b:=eN)
  (fun i r S'=>(∃y6,r=[sO hl,x1,sI (R:Int),x3,sO k,sO el,y6])/\Fr [] T S'/\S'[el]?=some (.lst (lH (mw hs ms i)))) (fw 0 1 (R+1)) 0 [sO hl,x1,sI (R:Int),x3,sO k,sO el,x6] T1
  (by
   rintro i y r S' hy ⟨⟨y6,rfl⟩,fr,he⟩;have Q2:=(aa2.mp hy).1;have hil':i<R+1:=by simpa[fw] using Q2
   have hyy:=vU hy;rw[show(0:Int)+(i:Int) * 1=(i:Int) by omega] at hyy;subst hyy;rw[af7] at he ⊢;obtain⟨S2,e2,h2,f2⟩:=w9 (x1:=x1) (x2:=some (.int (R:Int))) (x3:=x3) (b:=i) (ld fr hh) (ld fr hk) he (by have:=BD hs ms i;omega);refine⟨_,_,S2,rfl,e2,trivial,⟨_,rfl⟩,fr.trans f2 (fun j hj hl=>?_),?_⟩
   ·have:j=el:=by simpa using hj
    omega
   ·rw[AF];exact h2)
  ⟨⟨_,rfl⟩,f1,PL⟩
 obtain⟨⟨y6,rfl⟩,f2,h2⟩:=hI;rw[aw (by rw[kg hw];exact q)];have hlen:(fw 0 1 (R+1)).length=R+1:=by simp[fw]
 rw[hlen,af7] at h2;have has:=Bw (hs:=hs) (ms:=ms) (j:=R+1) (b:=st) (by omega) heq;obtain⟨es,TU⟩:∃es,mw hs ms (R+1)=es:=⟨_,rfl⟩;have hle:∀e,e∈es->e<=hs.length:=fun e he=>Bk (by rw[TU];exact he) hm
 rw[TU] at h2 has;have t1:cZ (bM Nb) [sO hl,x1,sI (R:Int),x3,sO k,sO el,y6] T2=.ok false T2:=by
  have tr:bM Nb [sO hl,x1,sI (R:Int),x3,sO k,sO el,y6] T2=.ok true T2:=by
   rw[cD,au];show oC (.ob el) T2=_;simp only[oC,h2];cases es with
   |nil=>cases has
   |cons e es=>rfl
  rw[cN,au,tr];rfl
 rw[aw (by rw[ay t1];rfl)];obtain⟨M,hM⟩:∃M,(es.map fun e:Nat=>(e:Int)).max?=some M:=by
  cases hx:(es.map fun e:Nat=>(e:Int)).max? with
  |none=>
   rw[List.max?_eq_none_iff] at hx;rw[List.map_eq_nil_iff.mp hx] at has;cases has
  |some M=>exact⟨M,rfl⟩
 obtain⟨m1,m2⟩:=List.max?_eq_some_iff.mp hM;obtain⟨e,he,rfl⟩:=ab6.mp m1;have m3:=m2 ((st+ms.length:Nat):Int) (ab6.mpr ⟨_,has,rfl⟩);have:=hle e he;refine⟨T2,max R e,sO el,y6,?_,f2,Nat.le_max_left _ _,by omega,by omega⟩;refine bh (i:=2) (d:=.int ((max R e:Nat):Int)) (ax (af rfl (af (ax (af rfl ah) (AW h2 hM)) ah)) ?_);rw[EF];congr 2;omega
def z5{hs:List Iu}{rs:List Rn}(D:Due hs rs){T:ay4}{hl rl b:Nat}(hh:T[hl]?=some (.lst (hs.map D_)))(hr:T[rl]?=some (.lst (cW b rs)))(hc:∀i r,rs[i]?=some r->T[b+i]?=some (.lst (r.2.map D_)))(hz:hs.length<=10000) :
  ∃T',fP [.ob hl,.ob rl] T=.ok (.bl true) T'/\Fr [] T T':=by
 obtain⟨st,way⟩:=D.way;show ∃T',fin T (jH [sO hl,sO rl,none,none,none,none,none] T)=_/\_;unfold jH;rw[aw (bh rfl)];show ∃T',fin T (aI _ _ [sO hl,sO rl,sI 0,none,none,none,none] T)=_/\_;have hw:Kt v_ [sO hl,sO rl,sI 0,none,none,none,none] T=.ok ⟨cW b rs,some (rl,cW b rs)⟩ T:=xZ rfl hr;obtain⟨r',T2,q,hI⟩:=db (g:=some (rl,cW b rs)) (tg:=gT [3,4]) (b:=eL)
  (fun i r S'=>∃(R:Nat) (x3 x4 x5 x6:Option DL.D),r=[sO hl,sO rl,sI (R:Nat),x3,x4,x5,x6]/\Fr [] T S'/\R<=hs.length/\∀q,q∈rs.take i->st q.1+q.2.length<=R) (cW b rs) 0 [sO hl,sO rl,sI 0,none,none,none,none] T
  (by
   rintro i y r S' hy ⟨R,x3,x4,x5,x6,rfl,fr,hR,hq⟩;rw[zb] at hy;cases hp:rs[i]? with
   |none=>rw[hp] at hy;cases hy
   |some g=>
    rw[hp] at hy;cases hy;rw[af7] at hq ⊢;obtain⟨w1,w2⟩:=way i g R hp hq;obtain⟨S2,R',y5,y6,e2,f2,l1,l2,l3⟩:=yj (x1:=some (.ob rl)) (x3:=some (.int (g.1:Int))) (x5:=x5) (x6:=x6) (ld fr hh) (ld fr (hc i g hp)) (by omega) (D.ne g (af2 hp)) w1 w2;have f3:Fr [] T S2:=fr.tr f2;refine⟨_,_,S2,rfl,e2,ld f3 hr,R',_,_,_,_,rfl,f3,by omega,fun p hpp=>?_⟩;rw[take_succ,hp] at hpp;rcases ab0.mp hpp with z|z
    ·exact ab5 (hq p z) l1
    ·have:p=g:=by simpa using z
     rw[this];exact l2)
  ⟨0,none,none,none,none,rfl,Fr.refl _ _,ae7 _,fun q hq=>by simp at hq⟩
 obtain⟨R,x3,x4,x5,x6,rfl,fr,_,_⟩:=hI;refine⟨T2,?_,fr⟩;rw[aw (by rw[kg hw];exact q),aS rfl];rfl
def JT.fr0{G:Cs}{S S1 S2:ay4}{a a':Ad}{v:WW}(k:JT G a S a' S1 v)(f:Fr [] S1 S2):JT G a S a' S2 v:=
 ⟨k.at_.fr f (fun _ _ z=>nomatch z),k.fr.tr (f.mono fun _ z _=>nomatch z),k.nn,k.ad⟩
def Ga:D->D
 |.tup (d :: _)=>d
 |_=>.Hw
theorem vw:∀(rs:List Rn) (b:Nat),((cW b rs).filter fun _=>true).map Ga=(rs.map fun r=>(r.1:Int)).map D.int
 |[],b=>rfl
 |r :: rs,b=>by
  have:=vw rs (b+1);rw[cW,ak8,ab2 rfl,ac2,this];rfl
theorem wH:∀{rs:List Rn}{b:Nat}{x:D},x∈cW b rs->∃o k:Nat,x=.tup [.int (o:Int),.ob k]
 |[],b,x,h=>nomatch h
 |r :: rs,b,x,h=>by
  rw[cW] at h;rcases ac7.mp h with z|z
  ·exact⟨r.1,b,z⟩
  ·exact wH z
def DD{S:ay4}{n:Nat}{is:ax3}(h:S[n]?=some (.lst (is.map D.int)))(up:is.Pairwise (· < ·))(hl:is.length<64):uR (.ob n) S=.ok (.ob S.length) (S++[.lst (is.map D.int)]):=by
 simp only[uR,bQ h,eX];exact bY ⟨up,hl⟩
section
variable{G:Cs}{S S' S1 S2:ay4}{a a' a1 a2:Ad}{w w' w1 w2:WW}{N:Nat}
def Fe(A:Kp G S a w)(K:JO N w)(hN:N<20000)(g:Gd w.con){L:ax4}(tk:Se L w.con)(t:LA)(hL:L.length+t.tk<=60){hl:Nat}(hh:S[hl]?=some (.lst (w.s.msgs.map D_)))(ho:hl∉a.fp)(hz:w.s.msgs.length<=9999){d0 d1 d2 x7 x8 x9:Option D} :
  ∃S' a' Nd L' y7 y8 y9,nw G [d0,d1,d2,sO a.n,sO hl,some (.tup (w.h.given.map JP)),some t.d,x7,x8,x9] S=some (.nx [d0,d1,d2,sO a.n,sO Nd,some (.tup ((w.act t.act).h.given.map JP)),some t.d,y7,y8,y9],S')/\JT G a S a' S' (w.act t.act)/\Gd (w.act t.act).con/\L'.length<=L.length+t.tk/\Se L' (w.act t.act).con/\S'[Nd]?=some (.lst ((w.act t.act).s.msgs.map D_))/\Nd∉a'.fp:=by
 unfold nw;obtain⟨S1,a1,e1,k1⟩:=Gf A K hN t;have cs:=DM w t.act true (fun _=>rfl);have g':=Gq g cs;have K':=yV K (by omega) t.act t.ok;obtain⟨XW,Tn⟩:=k1.out hh ho;have hm:=Cy w t;have NX:=Am w t;obtain⟨L',hL',U4⟩:=CT tk t;obtain⟨v,hv⟩:∃v,w.act t.act=v:=⟨_,rfl⟩;rw[hv] at k1 g' hm NX U4 K' ⊢;have Z7:t.msgs.length<=1:=by cases t<;>simp[LA.msgs]
 have Ug:=FJ g' U4 (by omega);have hgl:=K'.bd.cnt;rw[aw (aX (ax (af rfl (af rfl ah)) e1))];obtain⟨S2,Rb⟩:∃S2,S1++[Cell.lst [t.d]]=S2:=⟨_,rfl⟩;obtain⟨S3,Sd⟩:∃S3,S2++[Cell.lst (t.msgs.map D_)]=S3:=⟨_,rfl⟩;have c1:aj dJ (aa (bT (aa O5 ai)) ai) [d0,d1,d2,sO a.n,sO hl,some (.tup (w.h.given.map JP)),some t.d,x7,x8,x9] S1=.ok (.ob S2.length) S3:=by
  rw[<-Sd];refine ax (af (bU (af rfl ah) (by simp)) ah) ?_;rw[Rb];exact Ax t (by rw[<-Rb];exact bE)
 have c2:f_ bI Jy (aj dJ (aa (bT (aa O5 ai)) ai)) [d0,d1,d2,sO a.n,sO hl,some (.tup (w.h.given.map JP)),some t.d,x7,x8,x9] S1=.ok (.ob S3.length) (S3++[.lst (v.s.msgs.map D_)]):=by
  refine av rfl c1 ?_;rw[hm,ae0];exact oa (by rw[<-Sd,<-Rb];exact aB (aB XW)) (by rw[<-Sd];exact aQ rfl) (by rw[aa8,aa7,aa7];omega)
 rw[aw (bh c2)];obtain⟨S4,XY⟩:∃S4,S3++[Cell.lst (v.s.msgs.map D_)]=S4:=⟨_,rfl⟩;have p4:∃T,S4=S1++T:=⟨[Cell.lst [t.d]]++[Cell.lst (t.msgs.map D_)]++[Cell.lst (v.s.msgs.map D_)],by rw[<-XY,<-Sd,<-Rb];simp⟩;have h4:S4[S3.length]?=some (.lst (v.s.msgs.map D_)):=by rw[<-XY];exact bE
 have l3:S1.length<=S3.length:=by rw[<-Sd,<-Rb];simp
 have k4:JT G a S a1 S4 v:=by obtain⟨T,e⟩:=p4;rw[e];exact k1.push T
 rw[XY];obtain⟨Nd,XZ⟩:∃Nd,S3.length=Nd:=⟨_,rfl⟩;rw[XZ] at h4 l3 ⊢;show ∃S' a' Nd L' y7 y8 y9,aI _ _ [d0,d1,d2,sO a.n,sO _,some (.tup (w.h.given.map JP)),some t.d,x7,x8,x9] S4=_/\_;have hgv:=BU k4.at_;have ob4:=k4.at_.ob;rw[k4.nn] at hgv ob4;rw[aw (bh (bc rfl ob4 ah hgv))];obtain⟨rs,Qo⟩:∃rs,ib v.h.given=rs:=⟨_,rfl⟩;rw[Qo] at Ug;obtain⟨S5,Wj⟩:∃S5,RS S4 rs=S5:=⟨_,rfl⟩;have e5:gJ [.tup (v.h.given.map JP)] S4=.ok (.ob S4.length) S5:=by rw[B9 _ _ (by omega),Qo,Wj]
 have f5:Fr [] S4 S5:=by rw[<-Wj];unfold RS;exact Fr.push
 show ∃S' a' Nd L' y7 y8 y9,aI _ _ [d0,d1,d2,sO a.n,sO _,some (.tup (w.h.given.map JP)),some t.d,some (.tup (v.h.given.map JP)),x8,x9] S4=_/\_;rw[aw (bh (ax (af rfl ah) e5))];show ∃S' a' Nd L' y7 y8 y9,aI _ _ [d0,d1,d2,sO a.n,sO _,some (.tup (w.h.given.map JP)),some t.d,some (.tup (v.h.given.map JP)),sO S4.length,x9] S5=_/\_;have X0:S5[S4.length]?=some (.lst (cW (S4.length+1) rs)):=by rw[<-Wj];exact rX
 obtain⟨os,PF⟩:∃os:List Int,(rs.map fun r=>(r.1:Int))=os:=⟨_,rfl⟩;have V0:os.length<64:=by rw[<-PF,aa7];have:=Ug.VQ;omega
 have hup:os.Pairwise (· < ·):=by
  have e:os=(rs.map (·.1)).map fun o:Nat=>(o:Int):=by rw[<-PF,ah6];rfl
  rw[e,List.pairwise_map];exact Ug.up.imp fun h=>by omega
 have hpo:∀o,o∈os->0<o:=fun o h=>by
  rw[<-PF] at h;obtain⟨r,hr,rfl⟩:=ab6.mp h;have:=Ug.pos r hr;omega
 obtain⟨S6,Vp⟩:∃S6,S5++[Cell.lst (os.map D.int)]=S6:=⟨_,rfl⟩;have e6:dS (Kt Ua) (gN 0) hV (f_ w_ h_ (dI 0)) 1 [] [d0,d1,d2,sO a.n,sO Nd,some (.tup (w.h.given.map JP)),some t.d,some (.tup (v.h.given.map JP)),sO S4.length,x9] S5=.ok (.ob S5.length) S6:=by
  have:=il (f:=Kt Ua) (tg:=gN 0) (ti:=hV) (fe:=f_ w_ h_ (dI 0)) (own:=1) (caps:=[]) (r:=[d0,d1,d2,sO a.n,sO Nd,some (.tup (w.h.given.map JP)),some t.d,some (.tup (v.h.given.map JP)),sO S4.length,x9])
   (fun _=>true) Ga (xZ rfl X0) X0 (by show(cW (S4.length+1) rs).length<=_;rw[qJ];have:=Ug.VQ;omega) (fun x hx=>by
    obtain⟨o,k,rfl⟩:=wH hx;exact⟨_,rfl,fun zs=>rfl,fun _ zs=>av rfl rfl (aO (i:=0) rfl)⟩)
  rw[this,vw,PF,Vp]
 rw[aw (bh e6)];obtain⟨r,hr⟩:∃r,r=[d0,d1,d2,some (D.ob a.n),sO Nd,some (.tup (w.h.given.map JP)),some t.d,some (.tup (v.h.given.map JP)),sO S4.length,sO S5.length]:=⟨_,rfl⟩;show ∃S' a' Nd L' y7 y8 y9,aI _ _ [d0,d1,d2,sO a.n,sO _,some (.tup (w.h.given.map JP)),some t.d,some (.tup (v.h.given.map JP)),sO S4.length,sO S5.length] S6=_/\_;have v4:∀T,Jy r T=.ok (.ob Nd) T:=fun T=>by rw[hr];rfl
 have v5:∀T,Nb r T=.ok (.tup (w.h.given.map JP)) T:=fun T=>by rw[hr];rfl
 have v7:∀T,T_ r T=.ok (.tup (v.h.given.map JP)) T:=fun T=>by rw[hr];rfl
 have v8:∀T,Ua r T=.ok (.ob S4.length) T:=fun T=>by rw[hr];rfl
 have v9:∀T,QN r T=.ok (.ob S5.length) T:=fun T=>by rw[hr];rfl
 have hr6:r.set 5 (some (.tup (v.h.given.map JP)))=[d0,d1,d2,some (D.ob a.n),sO Nd,some (.tup (v.h.given.map JP)),some t.d,some (.tup (v.h.given.map JP)),sO S4.length,sO S5.length]:=by rw[hr];rfl
 rw[<-hr];have h6:S6[S5.length]?=some (.lst (os.map D.int)):=by rw[<-Vp];exact bE
 have f6:Fr [] S4 S6:=by rw[<-Vp];exact f5.tr Fr.push
 have tA:ao (f_ Kc (Kb Jo T_ bK (bA (aj bu (aa Nb ai)))) Nb) r S6=.ok false S6:=by
  have sl:Kb Jo T_ bK (bA (aj bu (aa Nb ai))) r S6=.ok (.tup (w.h.given.map JP)) S6:=by
   have le:aj bu (aa Nb ai) r S6=.ok (.int ((w.h.given.length:Nat):Int)) S6:=by
    rw[ax (af (v5 _) ah) (cn _),aa7]
   rw[kS,au,v7];show((bK r).bind _) S6=_;rw[au,dH,jW];show((bA _ r).bind _) S6=_;rw[au,dW,au,le];show Jo (.tup (v.h.given.map JP)) none (some ((w.h.given.length:Nat):Int)) S6=_;have:fQ (v.h.given.map JP) none (some ((w.h.given.length:Nat):Int))=w.h.given.map JP:=by
    rw[sX (by rw[aa7];exact NX.length_le),<-aq6,<-List.prefix_iff_eq_take.mp NX]
   simp only[Jo,jW,this]
  exact az (av sl (v5 _) (Ev (AG S6 _)))
 obtain⟨S7,Uh⟩:∃S7,S6++[Cell.lst (os.map D.int)]=S7:=⟨_,rfl⟩;have f7:Fr [] S4 S7:=by rw[<-Uh];exact f6.tr Fr.push
 have h7:S7[S5.length]?=some (.lst (os.map D.int)):=by rw[<-Uh];exact aB h6
 have tB:ao (f_ Kc QN (U8 QN)) r S6=.ok false S7:=by
  have ss:U8 QN r S6=.ok (.ob S6.length) S7:=by
   show((QN r).bind uR) S6=_;rw[au,v9];show uR (.ob S5.length) S6=_;rw[DD h6 hup V0,Uh]
  exact az (av (v9 _) ss (AS h7 (by rw[<-Uh];exact bE) ⟨_,rB S7 28 os⟩))
 obtain⟨S8,e8,f8⟩:=z5 Ug (T:=S7) (hl:=Nd) (rl:=S4.length) (b:=S4.length+1) (ld f7 h4) (by rw[<-Uh,<-Vp];exact aB (aB X0)) (fun i r h=>by rw[<-Uh,<-Vp];refine aB (aB ?_);rw[<-Wj];exact EH h) (by rw[hm,aa8];omega);have tC:cZ (bM (aj fP (aa Jy (aa Ua ai)))) r S7=.ok false S8:=by
  rw[cN,au,cD,au,ax (af (v4 _) (af (v8 _) ah)) e8];rfl
 rw[aw (by rw[ay (Cv tA (Cv tB tC))];rfl)];have Vq:Fr [] S4 S8:=f7.tr f8;have h8:S8[S5.length]?=some (.lst (os.map D.int)):=ld f8 h7;obtain⟨S9,X1⟩:∃S9,S8++[Cell.lst (os.map fun _=>D.bl true)]=S9:=⟨_,rfl⟩;have e9:dS (Kt QN) (gN 0) hV (ii (aj cX (aa h_ ai)) (f_ PK h_ (dI 0))) 1 [] r S8=.ok (.ob S8.length) S9:=by
  rw[<-X1];refine B1 (p:=D.int) (q:=fun _=>D.bl true) (g:=some (S5.length,os.map D.int)) (xZ (v9 _) h8) h8 (by omega) fun o ho=>⟨[sI o],rfl,fun zs=>?_⟩
  have w1:ao (aj cX (aa h_ ai)) [sI o] (S8++[.lst zs])=.ok true (S8++[.lst zs]):=az (ax (af rfl ah) (zM _));rw[gu,au,w1];show f_ PK h_ (dI 0) [sI o] (S8++[.lst zs])=_;refine av rfl rfl ?_;rw[Et,aa3 (hpo o ho)]
 have tD:cZ (bM (aj vn (aa (dS (Kt QN) (gN 0) hV (ii (aj cX (aa h_ ai)) (f_ PK h_ (dI 0))) 1 []) ai))) r S8=.ok false S9:=by
  have l9:S9[S8.length]?=some (.lst ((os.map fun _=>true).map D.bl)):=by
   rw[<-X1,ah6];exact bE
  have ea:vn [.ob S8.length] S9=.ok (.bl true) S9:=by
   have:((os.map fun _:Int=>true).all id)=true:=by rw[List.all_map];simp
   simp only[vn,gj,bQ l9,oq,this]
  rw[cN,au,cD,au,ax (af e9 ah) ea];rfl
 rw[aw (by rw[ay tD];rfl),bh (v7 _),hr6];have f9:Fr [] S4 S9:=by rw[<-X1];exact Vq.tr Fr.push
 refine⟨S9,a1,Nd,L',_,_,_,rfl,k4.fr0 f9,g',hL',U4,ld f9 h4,fun z=>?_⟩;have:=k1.at_.lt _ z;omega
def Cj(G:Cs):∀ns:List Int,ns.length<=63->∃S',EM G [.Kh (ns.map D.int)] []=.ok (.bl true) S':=by
 intro ns KQ;show ∃S',fin [] (ym G [sR ns,none,none,none,none,none,none,none,none,none] [])=_;unfold ym;rw[aw (Ej (ax (af rfl ah) (xj ns [])))];show ∃S',fin [] (aI _ _ [sR ns,sI (Nf ns:Int),sI (NR ns:Int),none,none,none,none,none,none,none] [])=_;obtain⟨S1,a0,e1,A0,f0,hn0,TQ⟩:=DC (G:=G) (Nf ns) (NR ns) [];rw[aw (bh (ax (af rfl (af rfl ah)) e1)),<-hn0];show ∃S',fin [] (aI _ _ [sR ns,sI (Nf ns:Int),sI (NR ns:Int),sO a0.n,none,none,none,none,none,none] S1)=_;rw[aw (bh (bU ah (by decide))),aw (bh (bL ah (by decide)))];show ∃S',fin [] (aI _ _ [sR ns,sI (Nf ns:Int),sI (NR ns:Int),sO a0.n,sO S1.length,some (.tup []),none,none,none,none] (S1++[.lst []]))=_;obtain⟨S2,l,e2,R⟩:=Eu true ns (S1++[.lst []]);have A2:Kp G S2 a0 (WW.new (Nf ns) (NR ns)):=(A0.push [.lst []]).fr R.fr (fun i _ z=>nomatch z);have QH:S2[S1.length]?=some (.lst []):=R.fr.get bE (by simp);have ll:l∉a0.fp:=fun z=>by have h1:=A0.lt l z;have h2:=R.new;rw[aa8] at h2;simp at h2;omega
 have lh:S1.length∉a0.fp:=DH A0 (aa1 _);have hal:=BV true ns;have hw:Kt (aj gL (aa h_ (aa (dC (.bl true)) ai))) [sR ns,sI (Nf ns:Int),sI (NR ns:Int),sO a0.n,sO S1.length,some (.tup []),none,none,none,none] (S1++[.lst []])=.ok ⟨(dL true ns).map LA.d,some (l,(dL true ns).map LA.d)⟩ S2:=by
  rw[n4,au,ax (af rfl (af rfl ah)) e2];show lI (.ob l) S2=_;simp only[lI,R.at_]
 obtain⟨r',S',q,_⟩:=db (g:=some (l,(dL true ns).map LA.d)) (tg:=gN 6) (b:=nw G)
  (fun i r S'=>∃a w hl L x6 x7 x8 x9,r=[sR ns,sI (Nf ns:Int),sI (NR ns:Int),sO a0.n,sO hl,some (.tup (w.h.given.map JP)),x6,x7,x8,x9]/\a.n=a0.n/\Kp G S' a w/\JO i w/\Gd w.con/\length L<=O_ ((dL true ns).take i)/\Se L w.con/\S'[hl]?=some (.lst (w.s.msgs.map D_))/\hl∉a.fp/\S'[l]?=some (.lst ((dL true ns).map LA.d))/\l∉a.fp) ((dL true ns).map LA.d) 0 [sR ns,sI (Nf ns:Int),sI (NR ns:Int),sO a0.n,sO S1.length,some (.tup []),none,none,none,none] S2
  (by
   rintro i y r S' hy ⟨a,w,hl,L,x6,x7,x8,x9,rfl,hn,A,K,g,hL,tk,hh,ho,hlc,VG⟩;rw[ac8] at hy;cases hp:(dL true ns)[i]? with
   |none=>rw[hp] at hy;cases hy
   |some t=>
    rw[hp] at hy;cases hy;rw[af7] at K hL ⊢;have Q2:=(aa2.mp hp).1;have Z7:=K.sb.ml;have ht:O_ ((dL true ns).take (i+1))=O_ ((dL true ns).take i)+t.tk:=by
     rw[take_succ,hp,kI];simp[O_]
    have h60:=BK true ns (i+1);obtain⟨S3,a3,hl3,L3,y7,y8,y9,e3,k3,g3,z3,t3,RX,ho3⟩:=Fe (d0:=some (.Kh (ns.map D.int))) (d1:=some (.int (Nf ns:Int))) (d2:=some (.int (NR ns:Int))) (x7:=x7) (x8:=x8) (x9:=x9) A K (by omega) g tk t (by omega) hh ho (by omega);rw[hn] at e3;obtain⟨o1,o2⟩:=k3.out hlc VG;exact⟨[sR ns,sI (Nf ns:Int),sI (NR ns:Int),sO a0.n,sO hl,some (.tup (w.h.given.map JP)),some t.d,x7,x8,x9],_,S3,rfl,e3,o1,a3,_,hl3,L3,_,y7,y8,y9,rfl,k3.nn.trans hn,k3.at_,yV K (by omega) t.act t.ok,g3,by omega,t3,RX,ho3,o1,o2⟩)
  ⟨a0,WW.new (Nf ns) (NR ns),S1.length,[],none,none,none,none,rfl,rfl,A2,D5 (yJ ns) (FB ns) (CM ns) (EY ns),Fc (yJ ns),ae7 _,⟨(fun o n p h=>nomatch h),fun g h=>nomatch h⟩,QH,lh,R.at_,ll⟩
 refine⟨S',?_⟩;rw[aw (by rw[kg hw];exact q),aS rfl];rfl
end
def nI(K:aw5)(x:Str)(f:Addr):Prop:=nsIn K mainGlobals x=some (some (.ref f))
def fI(K:aw5)(g:Addr)(x:Str)(f:Addr):Prop:=findIn K (.ref g) x=some (some (.ref f))
def iF(K:aw5)(f:Addr):Prop:=isFn K (.ref f)=true
def nN(K:aw5)(x:Str):Prop:=nsIn K mainGlobals x=some none
def fN(K:aw5)(g:Addr)(x:Str):Prop:=findIn K (.ref g) x=some none
def oF(K:aw5)(f:Addr)(x q:Str)(st:Stmt):Prop:=∃fd,IF K x q st f fd
def oF_mk{K:aw5}{x qual:Str}{st:Stmt}{f:Addr}{oc:Value}{od an:Option Addr}{PD:ax9}{kV doc pm HG ct:Value}(l:K.lookup f=some ⟨oc,od,.func (fnOf x qual (IX st) (IC st) (i_ st) .none kV doc pm an HG ct),PD⟩)(c:codeIn K HG qual=true)(k:keepIn K (.ref f)=true):oF K f x qual st:=⟨_,ET l c k⟩
def cF{P:ay1}{w:ay3}{K:aw5}{mg:aw9}{base h:Heap}(X:K.In h)(G:h.Ns mainGlobals mg){x x' q:Str}{st:Stmt}{f:Addr}{fd:ax1}{k:Nat}{ps:ax0}{F:ay9}(a:nI K x f)(hF:IF K x' q st f fd)(b:Binds K fd ps [])(o:qq7 P w K mg base k f fd ps F):qy7 P w K mg base x k ps F:=⟨⟨f,_,at1 X G a,hF.kp,b,o⟩⟩
def cM{P:ay1}{w:ay3}{K:aw5}{mg:aw9}{base:Heap}{g:Addr}{x x' q:Str}{st:Stmt}{f:Addr}{fd:ax1}{k:Nat}{ps:ax0}{F:ay9}(a:fI K g x f)(i:iF K f)(hF:IF K x' q st f fd)(b:Binds K fd ps [])(o:qq7 P w K mg base k f fd ps F):qz7 P w K mg base g x k ps F:=⟨⟨f,_,⟨a,i,hF.kp⟩,b,o⟩⟩
def LX{K:aw5}{x q:Str}{st:Stmt}{f:Addr}{fd:ax1}{ps:ax0}(F:IF K x q st f fd)(h:∀(kV doc pm:Value) (an:Option Addr) (HG ct u0:Value),bindArgs (fnOf x q (IX st) (IC st) (i_ st) .none kV doc pm an HG ct) ⟨[u0],[]⟩=pure (ps.zip [u0]))(hp:ps.length=1:=by rfl):Binds K fd ps []:=F.binds fun a b c d e g us hl=>match us,hl.trans hp with|[u0],_=>h a b c d e g u0
def LY{K:aw5}{x q:Str}{st:Stmt}{f:Addr}{fd:ax1}{ps:ax0}(F:IF K x q st f fd)(h:∀(kV doc pm:Value) (an:Option Addr) (HG ct u0 u1:Value),bindArgs (fnOf x q (IX st) (IC st) (i_ st) .none kV doc pm an HG ct) ⟨[u0,u1],[]⟩=pure (ps.zip [u0,u1]))(hp:ps.length=2:=by rfl):Binds K fd ps []:=F.binds fun a b c d e g us hl=>match us,hl.trans hp with|[u0,u1],_=>h a b c d e g u0 u1
def PQ{K:aw5}{x q:Str}{st:Stmt}{f:Addr}{fd:ax1}{ps:ax0}(F:IF K x q st f fd)(h:∀(kV doc pm:Value) (an:Option Addr) (HG ct u0 u1 u2:Value),bindArgs (fnOf x q (IX st) (IC st) (i_ st) .none kV doc pm an HG ct) ⟨[u0,u1,u2],[]⟩=pure (ps.zip [u0,u1,u2]))(hp:ps.length=3:=by rfl):Binds K fd ps []:=F.binds fun a b c d e g us hl=>match us,hl.trans hp with|[u0,u1,u2],_=>h a b c d e g u0 u1 u2
def bn4{K:aw5}{x q:Str}{st:Stmt}{f:Addr}{fd:ax1}{ps:ax0}(F:IF K x q st f fd)(h:∀(kV doc pm:Value) (an:Option Addr) (HG ct u0 u1 u2 u3:Value),bindArgs (fnOf x q (IX st) (IC st) (i_ st) .none kV doc pm an HG ct) ⟨[u0,u1,u2,u3],[]⟩=pure (ps.zip [u0,u1,u2,u3]))(hp:ps.length=4:=by rfl):Binds K fd ps []:=F.binds fun a b c d e g us hl=>match us,hl.trans hp with|[u0,u1,u2,u3],_=>h a b c d e g u0 u1 u2 u3
def bn5{K:aw5}{x q:Str}{st:Stmt}{f:Addr}{fd:ax1}{ps:ax0}(F:IF K x q st f fd)(h:∀(kV doc pm:Value) (an:Option Addr) (HG ct u0 u1 u2 u3 u4:Value),bindArgs (fnOf x q (IX st) (IC st) (i_ st) .none kV doc pm an HG ct) ⟨[u0,u1,u2,u3,u4],[]⟩=pure (ps.zip [u0,u1,u2,u3,u4]))(hp:ps.length=5:=by rfl):Binds K fd ps []:=F.binds fun a b c d e g us hl=>match us,hl.trans hp with|[u0,u1,u2,u3,u4],_=>h a b c d e g u0 u1 u2 u3 u4
def bn6{K:aw5}{x q:Str}{st:Stmt}{f:Addr}{fd:ax1}{ps:ax0}(F:IF K x q st f fd)(h:∀(kV doc pm:Value) (an:Option Addr) (HG ct u0 u1 u2 u3 u4 u5:Value),bindArgs (fnOf x q (IX st) (IC st) (i_ st) .none kV doc pm an HG ct) ⟨[u0,u1,u2,u3,u4,u5],[]⟩=pure (ps.zip [u0,u1,u2,u3,u4,u5]))(hp:ps.length=6:=by rfl):Binds K fd ps []:=F.binds fun a b c d e g us hl=>match us,hl.trans hp with|[u0,u1,u2,u3,u4,u5],_=>h a b c d e g u0 u1 u2 u3 u4 u5
def all_mk{l:PySem.W.OpenLaw}{w:ay3}{K:aw5}{h:Heap}{mg:aw9}{fa:Addr}{Hy:Addr}{C_:Addr}{HU:Addr}{KO:Addr}{Jr:Addr}{f0 f1 f2 f3 f4 f5 f6 f7 f8 f9 V_ f11 f12 f13 f14 f15 f16 f17 f18 X2 f20 X3 X4 X5 X6 X7 f26 f27 X8 X9 f30 f31 X_ f33 Ya Yb Yc Yd Ye Yf Yg Yh Yi Yj Yk Yl Ym Yn Vq f49 Yo Yp Yq Yr Ys Yt f56 Yu f58 f59 f60 f61 f62:Addr}{Pa:Addr}{NC:ax2}{Ro:Nat}{Rp:ax9}{K4:Addr}{JX:ax2}{MM:Nat}{MN:ax9}{MO:Tok}{ND:Tok}{OM:Tok}{KI:Tok}{Ob:Tok}{NG:Tok}{MP:Tok}(X:K.In h)(G:h.Ns mainGlobals mg)(hfa:mg "law"=some (.ref fa))
  (Qq:nI K "Hearer" Hy)
  (Qr:nI K "Sender" C_)
  (Rq:nI K "World" HU)
  (Qs:nI K "NoCard" KO)
  (Py:nI K "NoStrip" Jr)
  (a0:nI K "_law_mix" f0)
  (l0:oF K f0 "_law_mix" "_law_mix" mD)
  (a1:nI K "_law_cell" f1)
  (l1:oF K f1 "_law_cell" "_law_cell" lf)
  (a2:nI K "_law_setting" f2)
  (l2:oF K f2 "_law_setting" "_law_setting" iJ)
  (a3:fI K C_ "__init__" f3)
  (i3:iF K f3)
  (l3:oF K f3 "__init__" "Sender.__init__" fK)
  (a4:fI K Hy "__init__" f4)
  (i4:iF K f4)
  (l4:oF K f4 "__init__" "Hearer.__init__" fL)
  (a5:fI K HU "__init__" f5)
  (i5:iF K f5)
  (l5:oF K f5 "__init__" "World.__init__" gg)
  (a6:nI K "_law_acts" f6)
  (l6:oF K f6 "_law_acts" "_law_acts" lj)
  (a7:nI K "pieces_of" f7)
  (l7:oF K f7 "pieces_of" "pieces_of" ly)
  (a8:fI K C_ "hand" f8)
  (i8:iF K f8)
  (l8:oF K f8 "hand" "Sender.hand" jG)
  (a9:fI K HU "hand" f9)
  (i9:iF K f9)
  (l9:oF K f9 "hand" "World.hand" kq)
  (a10:nI K "_law_message" V_)
  (l10:oF K V_ "_law_message" "_law_message" iP)
  (a11:nI K "with_checks" f11)
  (l11:oF K f11 "with_checks" "with_checks" jI)
  (a12:nI K "is_whole" f12)
  (l12:oF K f12 "is_whole" "is_whole" m0)
  (a13:nI K "is_row" f13)
  (l13:oF K f13 "is_row" "is_row" qc)
  (a14:nI K "is_piece" f14)
  (l14:oF K f14 "is_piece" "is_piece" mZ)
  (a15:nI K "are_bits" f15)
  (l15:oF K f15 "are_bits" "are_bits" mE)
  (a16:nI K "is_card" f16)
  (l16:oF K f16 "is_card" "is_card" oN)
  (a17:nI K "cells_of" f17)
  (l17:oF K f17 "cells_of" "cells_of" mW)
  (a18:nI K "written" f18)
  (l18:oF K f18 "written" "written" oI)
  (a19:fI K HU "put_behind" X2)
  (i19:iF K X2)
  (l19:oF K X2 "put_behind" "World.put_behind" eU)
  (a20:nI K "number_of" f20)
  (l20:oF K f20 "number_of" "number_of" lC)
  (a21:fI K C_ "data_of" X3)
  (i21:iF K X3)
  (l21:oF K X3 "data_of" "Sender.data_of" fT)
  (a22:fI K C_ "wanted" X4)
  (i22:iF K X4)
  (l22:oF K X4 "wanted" "Sender.wanted" gZ)
  (a23:fI K C_ "tick" X5)
  (i23:iF K X5)
  (l23:oF K X5 "tick" "Sender.tick" jp)
  (a24:fI K HU "tick" X6)
  (i24:iF K X6)
  (l24:oF K X6 "tick" "World.tick" kF)
  (a25:fI K HU "has_strip" X7)
  (i25:iF K X7)
  (l25:oF K X7 "has_strip" "World.has_strip" fj)
  (a26:nI K "card_from" f26)
  (l26:oF K f26 "card_from" "card_from" lg)
  (a27:nI K "read" f27)
  (l27:oF K f27 "read" "read" yk)
  (a28:fI K Hy "begin" X8)
  (i28:iF K X8)
  (l28:oF K X8 "begin" "Hearer.begin" iE)
  (a29:fI K Hy "hears_hello" X9)
  (i29:iF K X9)
  (l29:oF K X9 "hears_hello" "Hearer.hears_hello" d7)
  (a30:nI K "goes_round" f30)
  (l30:oF K f30 "goes_round" "goes_round" j8)
  (a31:nI K "index_near" f31)
  (l31:oF K f31 "index_near" "index_near" km)
  (a32:fI K Hy "keep" X_)
  (i32:iF K X_)
  (l32:oF K X_ "keep" "Hearer.keep" jJ)
  (a33:nI K "letters_of" f33)
  (l33:oF K f33 "letters_of" "letters_of" ke)
  (a34:fI K Hy "take" Ya)
  (i34:iF K Ya)
  (l34:oF K Ya "take" "Hearer.take" jA)
  (a35:fI K Hy "take_all" Yb)
  (i35:iF K Yb)
  (l35:oF K Yb "take_all" "Hearer.take_all" fJ)
  (a36:fI K Hy "note" Yc)
  (i36:iF K Yc)
  (l36:oF K Yc "note" "Hearer.note" jB)
  (a37:fI K Hy "hears_data" Yd)
  (i37:iF K Yd)
  (l37:oF K Yd "hears_data" "Hearer.hears_data" eE)
  (a38:fI K Hy "hears" Ye)
  (i38:iF K Ye)
  (l38:oF K Ye "hears" "Hearer.hears" iM)
  (a39:fI K C_ "open_anew" Yf)
  (i39:iF K Yf)
  (l39:oF K Yf "open_anew" "Sender.open_anew" eW)
  (a40:fI K C_ "move_base" Yg)
  (i40:iF K Yg)
  (l40:oF K Yg "move_base" "Sender.move_base" eQ)
  (a41:fI K C_ "note_pieces" Yh)
  (i41:iF K Yh)
  (l41:oF K Yh "note_pieces" "Sender.note_pieces" dY)
  (a42:fI K C_ "hears_note" Yi)
  (i42:iF K Yi)
  (l42:oF K Yi "hears_note" "Sender.hears_note" eB)
  (a43:fI K C_ "hears_own" Yj)
  (i43:iF K Yj)
  (l43:oF K Yj "hears_own" "Sender.hears_own" eR)
  (a44:fI K C_ "hears" Yk)
  (i44:iF K Yk)
  (l44:oF K Yk "hears" "Sender.hears" iT)
  (a45:fI K HU "arrive" Yl)
  (i45:iF K Yl)
  (l45:oF K Yl "arrive" "World.arrive" iG)
  (a46:fI K HU "step" Ym)
  (i46:iF K Ym)
  (l46:oF K Ym "step" "World.step" kG)
  (a47:fI K HU "lose" Yn)
  (i47:iF K Yn)
  (l47:oF K Yn "lose" "World.lose" kL)
  (a48:fI K HU "double" Vq)
  (i48:iF K Vq)
  (l48:oF K Vq "double" "World.double" jk)
  (a49:nI K "changed" f49)
  (l49:oF K f49 "changed" "changed" oj)
  (a50:fI K HU "spoil" Yo)
  (i50:iF K Yo)
  (l50:oF K Yo "spoil" "World.spoil" jz)
  (a51:fI K C_ "fall" Yp)
  (i51:iF K Yp)
  (l51:oF K Yp "fall" "Sender.fall" jD)
  (a52:fI K Hy "fall" Yq)
  (i52:iF K Yq)
  (l52:oF K Yq "fall" "Hearer.fall" jK)
  (a53:fI K HU "fall" Yr)
  (i53:iF K Yr)
  (l53:oF K Yr "fall" "World.fall" kj)
  (a54:fI K C_ "start" Ys)
  (i54:iF K Ys)
  (l54:oF K Ys "start" "Sender.start" iR)
  (a55:fI K HU "start" Yt)
  (i55:iF K Yt)
  (l55:oF K Yt "start" "World.start" jM)
  (a56:nI K "_law_do" f56)
  (l56:oF K f56 "_law_do" "_law_do" ox)
  (a57:fI K HU "given_out" Yu)
  (i57:iF K Yu)
  (l57:oF K Yu "given_out" "World.given_out" fF)
  (a58:nI K "_law_runs" f58)
  (l58:oF K f58 "_law_runs" "_law_runs" lx)
  (a59:nI K "_law_handed" f59)
  (l59:oF K f59 "_law_handed" "_law_handed" jF)
  (a60:nI K "_law_reach" f60)
  (l60:oF K f60 "_law_reach" "_law_reach" kH)
  (a61:nI K "_law_whole" f61)
  (l61:oF K f61 "_law_whole" "_law_whole" j5)
  (a62:nI K "law" f62)
  (l62:oF K f62 "law" "law" uk)
  (Qt:plainGet K Hy Str.empty=true)
  (Qu:hasDictIn K Hy=true)
  (Qv:plainOver K Hy=true)
  (Qw:findIn K (.ref Hy) "__setattr__"=some (some (.builtin "object.__setattr__")))
  (Qx:makesIn K Hy=true)
  (Qy:keepIn K (.ref Hy)=true)
  (Ml:fN K Hy "window")
  (MQ:fN K Hy "given")
  (LQ:fN K Hy "opening")
  (Lf:fN K Hy "next_index")
  (MR:fN K Hy "early")
  (MS:fN K Hy "begun")
  (Qz:plainGet K C_ Str.empty=true)
  (QA:hasDictIn K C_=true)
  (QB:plainOver K C_=true)
  (QC:findIn K (.ref C_) "__setattr__"=some (some (.builtin "object.__setattr__")))
  (QD:makesIn K C_=true)
  (QE:keepIn K (.ref C_)=true)
  (Mm:fN K C_ "window")
  (NH:fN K C_ "most")
  (LD:fN K C_ "messages")
  (NI:fN K C_ "sure")
  (LR:fN K C_ "opening")
  (MT:fN K C_ "state")
  (Mn:fN K C_ "pieces")
  (NJ:fN K C_ "base")
  (MU:fN K C_ "noted")
  (Rt:plainGet K HU Str.empty=true)
  (Ru:hasDictIn K HU=true)
  (Rv:plainOver K HU=true)
  (Rw:findIn K (.ref HU) "__setattr__"=some (some (.builtin "object.__setattr__")))
  (Rx:makesIn K HU=true)
  (Ry:keepIn K (.ref HU)=true)
  (MV:fN K HU "sender")
  (MW:fN K HU "hearer")
  (NK:fN K HU "roads")
  (Pz:excIn K KO [.type "ValueError",.type "Exception",.type "BaseException",.type "object"] "ValueError.__new__"=true)
  (ON:excIn K Jr [.type "ValueError",.type "Exception",.type "BaseException",.type "object"] "ValueError.__new__"=true)
  (Jb:subIn K (.ref Jr) (.ref Jr)=some true)
  (Vr:nN K "all")
  (Tq:nN K "bool")
  (Oc:nN K "enumerate")
  (Vs:nN K "int")
  (NL:nN K "isinstance")
  (Vt:nN K "len")
  (Ts:nN K "list")
  (Vu:nN K "max")
  (Vv:nN K "min")
  (Rz:nN K "range")
  (Vw:nN K "set")
  (QF:nN K "sorted")
  (Vx:nN K "sum")
  (RA:nN K "tuple")
  (RB:nI K "KINDS" Pa)
  (RC:K.lookup Pa=some ⟨.type "tuple",none,.seq NC Ro,Rp⟩)
  (RD:(zip Ke NC.toList).all (fun p=>match p.2 with|.str x _=>x == p.1|_=>false)=true)
  (RE:Ke.length=NC.toList.length)
  (MX:nI K "SHORT_KINDS" K4)
  (MY:K.lookup K4=some ⟨.type "tuple",none,.seq JX MM,MN⟩)
  (MZ:(zip Jg JX.toList).all (fun p=>match p.2 with|.str x _=>x == p.1|_=>false)=true)
  (M0:Jg.length=JX.toList.length)
  (M3:nsIn K mainGlobals "TOP_OPENING"=some (some (.int 65535 MO)))
  (NM:nsIn K mainGlobals "TOP_NUMBER"=some (some (.int 13 ND)))
  (OO:nsIn K mainGlobals "TOP_CELL"=some (some (.int 255 OM)))
  (KJ:nsIn K mainGlobals "MOST_PIECE_LETTERS"=some (some (.int 8 KI)))
  (Od:nsIn K mainGlobals "MOST_BITS"=some (some (.int 7 Ob)))
  (NN:nsIn K mainGlobals "HEAD_CELLS"=some (some (.int 3 NG)))
  (M4:nsIn K mainGlobals "CHECK_CELLS"=some (some (.int 2 MP)))
  : ∃fd:FuncData,(∀(s:Shared) (v:Value),BindsTo s fd ⟨[v],[]⟩ [("_law_script",v)])/\∀base:Heap,K.In base->base.Ns mainGlobals mg->Lk l.prog w K mg base (E_ l.prog w) 10 fa fd ["_law_script"] (yI K):=by
 have e:=hfa.symm.trans (at1 X G a62);cases e;have T:Txt K mg (⟨Hy,C_,HU,KO,Jr⟩:Cs):=⟨ah9 X G Vr,ah9 X G Tq,ah9 X G Oc,ah9 X G Vs,ah9 X G NL,ah9 X G Vt,ah9 X G Ts,ah9 X G Vu,ah9 X G Vv,ah9 X G Rz,ah9 X G Vw,ah9 X G QF,ah9 X G Vx,ah9 X G RA,⟨Qt,Qu,Qv,Qw⟩,Ml,MQ,LQ,Lf,MR,MS,⟨Qz,QA,QB,QC⟩,Mm,NH,LD,NI,LR,MT,Mn,NJ,MU,⟨Rt,Ru,Rv,Rw⟩,MV,MW,NK,⟨at1 X G Qs,Pz⟩,⟨at1 X G Py,ON⟩,Jb,vK (at1 X G RB) RC RD RE (by decide),vK (at1 X G MX) MY MZ M0 (by decide),⟨_,at1 X G M3,ja⟩,⟨_,at1 X G NM,ja⟩,⟨_,at1 X G OO,ja⟩,⟨_,at1 X G KJ,ja⟩,⟨_,at1 X G Od,ja⟩,⟨_,at1 X G NN,ja⟩,⟨_,at1 X G M4,ja⟩⟩;obtain⟨_,F0⟩:=l0;obtain⟨_,F1⟩:=l1;obtain⟨_,F2⟩:=l2;obtain⟨_,F3⟩:=l3;obtain⟨_,F4⟩:=l4;obtain⟨_,F5⟩:=l5;obtain⟨_,F6⟩:=l6;obtain⟨_,F7⟩:=l7;obtain⟨_,F8⟩:=l8;obtain⟨_,F9⟩:=l9;obtain⟨_,Yv⟩:=l10;obtain⟨_,Yw⟩:=l11;obtain⟨_,Yx⟩:=l12;obtain⟨_,Yy⟩:=l13;obtain⟨_,Yz⟩:=l14;obtain⟨_,YA⟩:=l15;obtain⟨_,YB⟩:=l16;obtain⟨_,YC⟩:=l17;obtain⟨_,YD⟩:=l18;obtain⟨_,YE⟩:=l19;obtain⟨_,YF⟩:=l20;obtain⟨_,YG⟩:=l21;obtain⟨_,YH⟩:=l22;obtain⟨_,YI⟩:=l23;obtain⟨_,YJ⟩:=l24;obtain⟨_,YK⟩:=l25;obtain⟨_,YL⟩:=l26;obtain⟨_,YM⟩:=l27;obtain⟨_,YN⟩:=l28;obtain⟨_,YO⟩:=l29;obtain⟨_,YQ⟩:=l30;obtain⟨_,YR⟩:=l31;obtain⟨_,YS⟩:=l32;obtain⟨_,YT⟩:=l33;obtain⟨_,YU⟩:=l34;obtain⟨_,YV⟩:=l35;obtain⟨_,YW⟩:=l36;obtain⟨_,YX⟩:=l37;obtain⟨_,YY⟩:=l38;obtain⟨_,YZ⟩:=l39;obtain⟨_,Y0⟩:=l40;obtain⟨_,Y1⟩:=l41;obtain⟨_,Y2⟩:=l42;obtain⟨_,Y3⟩:=l43;obtain⟨_,Y4⟩:=l44;obtain⟨_,Y5⟩:=l45;obtain⟨_,Y6⟩:=l46;obtain⟨_,Y7⟩:=l47;obtain⟨_,Y8⟩:=l48;obtain⟨_,Y9⟩:=l49;obtain⟨_,Y_⟩:=l50;obtain⟨_,Za⟩:=l51;obtain⟨_,Zb⟩:=l52;obtain⟨_,Zc⟩:=l53;obtain⟨_,Zd⟩:=l54;obtain⟨_,Ze⟩:=l55;obtain⟨_,Zf⟩:=l56;obtain⟨_,Zg⟩:=l57;obtain⟨_,Zh⟩:=l58;obtain⟨_,Zi⟩:=l59;obtain⟨_,Zj⟩:=l60;obtain⟨_,Zk⟩:=l61;obtain⟨_,F62⟩:=l62;obtain⟨oc,od,kV,doc,pm,an,HG,ct,PD,rfl,lk,Of⟩:=F62.ex;refine⟨fnOf "law" "law" (IX uk) (IC uk) (i_ uk) .none kV doc pm an HG ct,fun s v=>.of_eq rfl,fun base _ _=>?_⟩;have q:=@cF l.prog w K mg base h X G;have r:=@cM l.prog w K mg base;have C0:=q a0 F0 (PQ F0 fun _ _ _ _ _ _ _ _ _=>rfl) (wU T  F0);have C1:=q a1 F1 (LY F1 fun _ _ _ _ _ _ _ _=>rfl) (ut T  F1);have C2:=q a2 F2 (LX F2 fun _ _ _ _ _ _ _=>rfl) (pJ T C1 C0 F2);have C3:OC l.prog w K mg base (E_ l.prog w) "Sender" C_ 1 ["self","window","most"] (b8 (⟨Hy,C_,HU,KO,Jr⟩:Cs)):=⟨⟨f3,_,at1 X G Qr,⟨QD,a3,i3,QE⟩,(PQ F3 fun _ _ _ _ _ _ _ _ _=>rfl),mU T  F3⟩⟩;have C4:OC l.prog w K mg base (E_ l.prog w) "Hearer" Hy 1 ["self","window"] (bS (⟨Hy,C_,HU,KO,Jr⟩:Cs)):=⟨⟨f4,_,at1 X G Qq,⟨Qx,a4,i4,Qy⟩,(LY F4 fun _ _ _ _ _ _ _ _=>rfl),mI T  F4⟩⟩;have C5:OC l.prog w K mg base (E_ l.prog w) "World" HU 3 ["self","window","most"] (cI (⟨Hy,C_,HU,KO,Jr⟩:Cs)):=⟨⟨f5,_,at1 X G Rq,⟨Rx,a5,i5,Ry⟩,(PQ F5 fun _ _ _ _ _ _ _ _ _=>rfl),n3 T C3 C4 F5⟩⟩;have C6:=q a6 F6 (LY F6 fun _ _ _ _ _ _ _ _=>rfl) (vt T C1 C0 F6);have C7:=q a7 F7 (LY F7 fun _ _ _ _ _ _ _ _=>rfl) (uo T  F7);have C8:=r a8 i8 F8 (LY F8 fun _ _ _ _ _ _ _ _=>rfl) (qR T C7 F8)
 have C9:=r a9 i9 F9 (LY F9 fun _ _ _ _ _ _ _ _=>rfl) (sP T C8 F9);have C10:=q a10 Yv (LY Yv fun _ _ _ _ _ _ _ _=>rfl) (pI T C0 Yv);have C11:=q a11 Yw (LX Yw fun _ _ _ _ _ _ _=>rfl) (rV T  Yw);have Zl:=q a12 Yx (LY Yx fun _ _ _ _ _ _ _ _=>rfl) (wB T  Yx);have Zm:=q a13 Yy (LY Yy fun _ _ _ _ _ _ _ _=>rfl) (AJ T Zl Yy);have C14:=q a14 Yz (LX Yz fun _ _ _ _ _ _ _=>rfl) (wc T Zl Zm Yz);have C15:=q a15 YA (LX YA fun _ _ _ _ _ _ _=>rfl) (we T Zm YA);have C16:=q a16 YB (LX YB fun _ _ _ _ _ _ _=>rfl) (xO T Zl C14 C15 YB);have C17:=q a17 YC (LX YC fun _ _ _ _ _ _ _=>rfl) (wC T  YC);have C18:=q a18 YD (LX YD fun _ _ _ _ _ _ _=>rfl) (xp T C16 C17 C11 YD);have C19:=r a19 i19 YE (PQ YE fun _ _ _ _ _ _ _ _ _=>rfl) (md T C18 YE);have C20:=q a20 YF (LY YF fun _ _ _ _ _ _ _ _=>rfl) (uH T  YF);have C21:=r a21 i21 YG (LY YG fun _ _ _ _ _ _ _ _=>rfl) (nz T C20 YG);have C22:=r a22 i22 YH (LX YH fun _ _ _ _ _ _ _=>rfl) (n8 T  YH);have C23:=r a23 i23 YI (LX YI fun _ _ _ _ _ _ _=>rfl) (rQ T C22 C21 YI);have C24:=r a24 i24 YJ (LX YJ fun _ _ _ _ _ _ _=>rfl) (si T C23 C19 YJ);have Wl:=r a25 i25 YK (PQ YK fun _ _ _ _ _ _ _ _ _=>rfl) (mK T  YK);have C26:=q a26 YL (LX YL fun _ _ _ _ _ _ _=>rfl) (vg T  YL);have C27:=q a27 YM (LX YM fun _ _ _ _ _ _ _=>rfl) (Dn T Zm C11 C26 C16 YM);have C28:=r a28 i28 YN (LY YN fun _ _ _ _ _ _ _ _=>rfl) (pB T  YN);have C29:=r a29 i29 YO (LY YO fun _ _ _ _ _ _ _ _=>rfl) (kX T C28 YO);have C30:=q a30 YQ (LY YQ fun _ _ _ _ _ _ _ _=>rfl) (sd T  YQ);have C31:=q a31 YR (PQ YR fun _ _ _ _ _ _ _ _ _=>rfl) (rZ T  YR);have C32:=r a32 i32 YS (PQ YS fun _ _ _ _ _ _ _ _ _=>rfl) (qO T C30 C31 YS);have C33:=q a33 YT (LX YT fun _ _ _ _ _ _ _=>rfl) (sC T  YT);have C34:=r a34 i34 YU (LY YU fun _ _ _ _ _ _ _ _=>rfl) (qx T C33 YU);have C35:=r a35 i35 YV (LX YV fun _ _ _ _ _ _ _=>rfl) (mH T C34 YV);have C36:=r a36 i36 YW (LX YW fun _ _ _ _ _ _ _=>rfl) (rj T C20 YW);have C37:=r a37 i37 YX (bn4 YX fun _ _ _ _ _ _ _ _ _ _=>rfl) (lF T C32 C35 C36 YX);have C38:=r a38 i38 YY (LY YY fun _ _ _ _ _ _ _ _=>rfl) (pL T C29 C37 YY);have C39:=r a39 i39 YZ (LX YZ fun _ _ _ _ _ _ _=>rfl) (mh T C7 YZ);have C40:=r a40 i40 Y0 (LY Y0 fun _ _ _ _ _ _ _ _=>rfl) (mj T  Y0);have C41:=r a41 i41 Y1 (LY Y1 fun _ _ _ _ _ _ _ _=>rfl) (kU T  Y1);have C42:=r a42 i42 Y2 (PQ Y2 fun _ _ _ _ _ _ _ _ _=>rfl) (li T C30 C31 C40 C41 Y2);have C43:=r a43 i43 Y3 (LY Y3 fun _ _ _ _ _ _ _ _=>rfl) (me T C39 C42 Y3);have C44:=r a44 i44 Y4 (LY Y4 fun _ _ _ _ _ _ _ _=>rfl) (px T C43 Y4);have C45:=r a45 i45 Y5 (PQ Y5 fun _ _ _ _ _ _ _ _ _=>rfl) (pv T C27 C38 C19 C44 Y5);have C46:=r a46 i46 Y6 (LY Y6 fun _ _ _ _ _ _ _ _=>rfl) (sE T Wl C45 Y6);have C47:=r a47 i47 Y7 (PQ Y7 fun _ _ _ _ _ _ _ _ _=>rfl) (sV T Wl Y7);have C48:=r a48 i48 Y8 (PQ Y8 fun _ _ _ _ _ _ _ _ _=>rfl) (pz T Wl Y8);have C49:=q a49 Y9 (PQ Y9 fun _ _ _ _ _ _ _ _ _=>rfl) (xS T  Y9);have C50:=r a50 i50 Y_ (bn5 Y_ fun _ _ _ _ _ _ _ _ _ _ _=>rfl) (qt T Wl C49 Y_);have C51:=r a51 i51 Za (LX Za fun _ _ _ _ _ _ _=>rfl) (qZ T  Za);have C52:=r a52 i52 Zb (LX Zb fun _ _ _ _ _ _ _=>rfl) (qE T C28 Zb);have C53:=r a53 i53 Zc (LY Zc fun _ _ _ _ _ _ _ _=>rfl) (sy T C51 C52 Zc);have C54:=r a54 i54 Zd (LX Zd fun _ _ _ _ _ _ _=>rfl) (pO T C39 Zd);have C55:=r a55 i55 Ze (LX Ze fun _ _ _ _ _ _ _=>rfl) (rH T C54 Ze);have C56:=q a56 Zf (LY Zf fun _ _ _ _ _ _ _ _=>rfl) (xQ T C10 C9 C24 C46 C47 C48 C0 C50 C53 C55 Zf);have C57:=r a57 i57 Zg (LX Zg fun _ _ _ _ _ _ _=>rfl) (mB T  Zg);have C58:=q a58 Zh (LX Zh fun _ _ _ _ _ _ _=>rfl) (ve T  Zh);have C59:=q a59 Zi (LX Zi fun _ _ _ _ _ _ _=>rfl) (p0 T C10 Zi);have C60:=q a60 Zj (LY Zj fun _ _ _ _ _ _ _ _=>rfl) (sg T  Zj);have C61:=q a61 Zk (LX Zk fun _ _ _ _ _ _ _=>rfl) (sM T  Zk);exact Lk.imp (FK T C2 C5 C6 C56 C59 C57 C58 C60 C61 F62) (BY (Cj _))
def walk{l:PySem.W.OpenLaw}{q:ay1}{loose:ax0}{XP:(Str->Option Value)->Heap->Prop}{YP:World->Heap->Prop}{d:DefRec}{K:Params->PySem.W.Frag}(hn:l.most=some 63)(UA:d.params.defaults=[])
  (hY:∀(w:ay3) (h:Heap),YP w h->(K w.params).In h)
  (F:∀(w:ay3) (mg:aw9) (fa:Addr) (h:Heap),(K w.params).In h->h.Ns mainGlobals mg->mg d.name=some (.ref fa)->
   ∃fd:FuncData,(∀(s:Shared) (u:Value),BindsTo s fd ⟨[u],[]⟩ [("_law_script",u)])/\∀base:Heap,(K w.params).In base->base.Ns mainGlobals mg->Lk l.prog w (K w.params) mg base (E_ l.prog w) 10 fa fd ["_law_script"] (yI (K w.params))) :
  PySem.W.WalkO q loose XP YP l.row.toRowW d [] (fun f vs=>PySem.call f vs):=
 L2.QV (n:=63) (k:=10) (x:="_law_script") (CX:=fun w=>E_ l.prog w) (sp:=fun w=>yI (K w.params)) hn (by decide) UA ⟨rfl,by decide,by decide⟩ hY F (fun _ _ a ns hl ho hS=>⟨a,ns,rfl,hS,hl,ho,fun _=>rfl⟩) fun _ _ _ _ _ z=>CD z
end Lw
end
open PySem PySem.W PyProof.Rows
set_option maxRecDepth 100000 in
set_option maxHeartbeats 0 in
theorem PySem.Challenge.cw_sureroad_k14_whole_runs_holds : PySem.Challenge.rw_sureroad_k14_whole_runs.Holds := by
 w_on;o_law;k_head;(case hw=>w_witness2)
 k_fill
 refine Lw.walk (l:=PySem.Challenge.rw_sureroad_k14_whole_runs) rfl rfl (fun w h Y=>PySem.W.kIn_of Y) ?F
 case F=>
  intro w mg fa h KX G hmg;apply Lw.all_mk KX G hmg
  all_goals (first|k_is|(unfold Lw.nI;k_is)|(unfold Lw.fI;k_is)|(unfold Lw.iF;k_is)|(unfold Lw.nN;k_is)|(unfold Lw.fN;k_is)|(refine' Lw.oF_mk ?l ?c ?k;(case l=>k_is);(case c=>k_is);(case k=>k_is))|rfl|decide|k_exc)
