import PyProof.Rows.All
import Wide.All
import OpenK.AllK
import Wide.FinOn
import Lean
import PyProof.EqAt
import PyProof.EqKinds
import PyProof.TupleCall
import PyProof.P3Eq
import PyProof.NeKinds
import PyProof.StationsW
import PyProof.ExcClass3
import PyProof.NsDelKeeps
import PyProof.RulesAs
import PyProof.ListRange
import PySem.Challenge.RW_sureroad_k02_joined_again
set_option Elab.async false
set_option linter.all false
set_option maxRecDepth 100000
set_option maxHeartbeats 4000000
namespace L2
open PySem PySem.Spec PyProof.Rows
abbrev Key := Sum Int Str
def keyIs : Key → Value → Bool
  | .inl k, v => Value.isInt k v
  | .inr x, v => Value.isStrOf x v
def keyH (w : World) : Key → Int
  | .inl k => hashInt k
  | .inr x => hashStr w x
theorem keyIs_shape : ∀ {k : Key} {v : Value}, keyIs k v = true → (∃ i t, k = Sum.inl i ∧ v = Value.int i t) ∨ (∃ x t, k = Sum.inr x ∧ v = Value.str x t)
  | .inl i, v, h => by
    obtain ⟨t, e⟩ := Value.isInt_shape (k := i) (v := v) h
    exact .inl ⟨i, t, rfl, e⟩
  | .inr x, v, h => by
    obtain ⟨t, e⟩ := Value.isStrOf_shape (x := x) (v := v) h
    exact .inr ⟨x, t, rfl, e⟩
theorem key_ll (a b : Int) : decide ((Sum.inl a : Key) = Sum.inl b) = (a == b) := by
  by_cases e : a = b
  · subst e; simp
  · have h : ¬ (Sum.inl a : Key) = Sum.inl b := fun q => e (Sum.inl.inj q)
    rw [decide_eq_false h]
    exact (beq_eq_false_iff_ne.mpr e).symm
theorem key_rr (a b : Str) : decide ((Sum.inr a : Key) = Sum.inr b) = decide (a = b) := by
  by_cases e : a = b
  · subst e; simp
  · have h : ¬ (Sum.inr a : Key) = Sum.inr b := fun q => e (Sum.inr.inj q)
    rw [decide_eq_false h, decide_eq_false e]
theorem key_lr (a : Int) (b : Str) : decide ((Sum.inl a : Key) = Sum.inr b) = false := decide_eq_false (fun q => nomatch q)
theorem key_rl (a : Str) (b : Int) : decide ((Sum.inr a : Key) = Sum.inl b) = false := decide_eq_false (fun q => nomatch q)
def mixKind (prog : Program) (w : World) : PySem.KeyKind prog w Key where
  is := keyIs
  hash := keyH w
  inj := fun v a b ha hb => by
    rcases keyIs_shape ha with ⟨i, t, rfl, rfl⟩ | ⟨x, t, rfl, rfl⟩
    · rcases keyIs_shape hb with ⟨j, u, rfl, e⟩ | ⟨y, u, rfl, e⟩
      · injection e with e1 _; rw [e1]
      · exact nomatch e
    · rcases keyIs_shape hb with ⟨j, u, rfl, e⟩ | ⟨y, u, rfl, e⟩
      · exact nomatch e
      · injection e with e1 _; rw [e1]
  byValue := fun k v h => by
    rcases keyIs_shape h with ⟨i, t, rfl, rfl⟩ | ⟨x, t, rfl, rfl⟩ <;> rfl
  pyHash := fun hv h => by
    rcases keyIs_shape hv with ⟨i, t, rfl, rfl⟩ | ⟨x, t, rfl, rfl⟩
    · exact wpAny_pyHash_int h
    · exact wpAny_pyHash_str h
  eqBool := fun hu hv h => by
    rcases keyIs_shape hu with ⟨i, t, rfl, rfl⟩ | ⟨x, t, rfl, rfl⟩
    · rcases keyIs_shape hv with ⟨j, u, rfl, rfl⟩ | ⟨y, u, rfl, rfl⟩
      · rw [key_ll] at h; exact wpAny_eqBool_int h
      · rw [key_lr] at h; exact SeqAt.EqAt.int_str i t y u _ _ _ _ h
    · rcases keyIs_shape hv with ⟨j, u, rfl, rfl⟩ | ⟨y, u, rfl, rfl⟩
      · rw [key_rl] at h; exact SeqAt.EqAt.str_int x t j u _ _ _ _ h
      · rw [key_rr] at h; exact wpAny_eqBool_str h
  «strs» := fun k x t v h => by
    rcases keyIs_shape h with ⟨i, u, rfl, e⟩ | ⟨y, u, rfl, e⟩
    · exact nomatch e
    · injection e with e1 _
      subst e1
      cases v <;> rfl
end L2
namespace L2
open PySem PySem.Spec PyProof.Rows
inductive V where
  | non | bl (b : Bool) | int (i : Int) | str (x : Str) | byt (b : Array UInt8) | flt (b : UInt64) | ref (a : Addr) | ty (n : String)
  deriving DecidableEq
def RelV : V → Value → Prop
  | .non, u => u = Value.none
  | .bl b, u => u = Value.bool b
  | .int i, u => ∃ t, u = Value.int i t
  | .str x, u => ∃ t, u = Value.str x t
  | .byt b, u => ∃ t, u = Value.bytes b t
  | .flt b, u => ∃ t, u = Value.float b t
  | .ref a, u => u = Value.ref a
  | .ty n, u => u = Value.type n
abbrev Vals : List V → List Value → Prop := Paired RelV
theorem Vals.length {xs : List V} {us : List Value} (r : Vals xs us) : xs.length = us.length := Paired.length r
theorem Vals.get : ∀ {xs : List V} {us : List Value} {i : Nat} {x : V}, Vals xs us → xs[i]? = some x → ∃ u, us[i]? = some u ∧ RelV x u
  | _, _, _, _, .nil, e => by simp at e
  | _, _, 0, _, .cons r _, e => by simp at e; subst e; exact ⟨_, rfl, r⟩
  | _, _, i + 1, x, .cons _ t, e => by
    obtain ⟨u, h1, h2⟩ := Vals.get (i := i) (x := x) t (by simpa using e)
    exact ⟨u, by simpa using h1, h2⟩
theorem Vals.set {x : V} {u : Value} (r : RelV x u) : ∀ {xs : List V} {us : List Value} (i : Nat), Vals xs us → Vals (xs.set i x) (us.set i u)
  | _, _, _, .nil => .nil
  | _, _, 0, .cons _ t => .cons r t
  | _, _, i + 1, .cons q t => .cons q (Vals.set r i t)
theorem Vals.append : ∀ {xs ys : List V} {us ws : List Value}, Vals xs us → Vals ys ws → Vals (xs ++ ys) (us ++ ws)
  | _, _, _, _, .nil, s => s
  | _, _, _, _, .cons r t, s => .cons r (Vals.append t s)
theorem Vals.take : ∀ {xs : List V} {us : List Value} (n : Nat), Vals xs us → Vals (xs.take n) (us.take n)
  | _, _, 0, _ => .nil
  | _, _, _ + 1, .nil => .nil
  | _, _, n + 1, .cons r t => .cons r (Vals.take n t)
theorem Vals.drop : ∀ {xs : List V} {us : List Value} (n : Nat), Vals xs us → Vals (xs.drop n) (us.drop n)
  | _, _, 0, r => r
  | _, _, _ + 1, .nil => .nil
  | _, _, n + 1, .cons _ t => Vals.drop n t
def RelO : Option V → Option Value → Prop
  | some v, some u => RelV v u
  | none, none => True
  | _, _ => False
def KV {κ : Type} : List (κ × V) → List (κ × Value) → Prop := Paired fun (p : κ × V) (q : κ × Value) => p.1 = q.1 ∧ RelV p.2 q.2
def kV : Key → V
  | .inl i => .int i
  | .inr x => .str x
inductive HO where
  | lst (xs : List V)
  | tup (xs : List V)
  | dK (kvs : List (Key × V)) | dT (kvs : List (List Key × V))
  | set (S : Int → Bool) (n : Nat)
  | ins (C dx : Addr) (fs : List (Str × V))
  | own (x : Addr)
  | xd (fs : List (Str × V))
  | met (f x : Addr)
  | rng (lo hi : Int)
  | frz (o : Obj) (u : HO)
  | tbl (ps : Array Value)
  | ext (φ : Heap → Prop)
abbrev Hp := Addr → Option HO
def upd (H : Hp) (a : Addr) (o : HO) : Hp := fun b => if b = a then some o else H b
theorem upd_same {H : Hp} {a : Addr} {o : HO} : upd H a o a = some o := by unfold upd; rw [if_pos rfl]
theorem upd_ne {H : Hp} {a b : Addr} {o : HO} (h : b ≠ a) : upd H a o b = H b := by unfold upd; rw [if_neg h]
theorem ne_of_none {H : Hp} {a b : Addr} {o : HO} (h : H a = some o) (h' : H b = none) : a ≠ b := by
  intro e; subst e; rw [h] at h'; cases h'
section
variable (P : Program) (w : World)
def ObjOk (H : Hp) (h : Heap) (a : Addr) : HO → Prop
  | .lst xs => xs.length ≤ sizeLine ∧ ∃ (its : List Value) (n : Nat), Vals xs its ∧ h.get? a = some { cls := .type "list", data := .seq its.toArray n }
  | .tup xs => xs.length ≤ sizeLine ∧ ∃ its : List Value, Vals xs its ∧ IsTup h a its.toArray
  | .dK kvs => kvs.length ≤ sizeLine ∧ (a == sysModules) = false ∧ ∃ vs, KV kvs vs ∧ h.DictOf (mixKind P w) a vs
  | .dT kvs => kvs.length ≤ sizeLine ∧ (a == sysModules) = false ∧ ∃ xs : List (List Key × Addr × Value),
      Paired (fun (p : List Key × V) (q : List Key × Addr × Value) => p.1 = q.1 ∧ H q.2.1 = some (.tup (p.1.map kV)) ∧ RelV p.2 q.2.2) kvs xs ∧
      ∃ o es ep, h.get? a = some o ∧ o.ExactDict ∧ o.data = .dict es ep ∧ es.toList = xs.map (entryOfKey (tupleKind (mixKind P w))) ∧ (xs.map (·.1)).Nodup
  | .set S n => h.SetOf (intKind P w) a S n
  | .ins C dx fs => H dx = some (.own a) ∧ fs.length ≤ 1000 ∧ dx ≠ a ∧ h.get? a = some (PySem.W.instObj C dx) ∧
      ∃ mA, h.Ns1 dx mA ∧ (∀ f, RelO (fs.lookup f) (mA f)) ∧ PySem.Within mA (fs.map (·.1))
  | .own _ => ∃ o, h.get? a = some o
  | .xd fs => ∃ mA, h.Ns1 a mA ∧ ∀ f, RelO (fs.lookup f) (mA f)
  | .rng lo hi => ∃ t u v, h.get? a = some { cls := .type "range", data := .fields #[.int lo t, .int hi u, .int 1 v] }
  | .frz o u => h.get? a = some o ∧ ObjOk H h a u
  | .tbl ps => h.get? a = some { cls := .none, data := .fields ps }
  | .met f x => h.get? a = some (PySem.W.methodObj (.ref f) (.ref x))
  | .ext φ => φ h ∧ (∃ o, h.get? a = some o) ∧ ∀ h1 h2 : Heap, φ h1 → (∀ o, h1.get? a = some o → h2.get? a = some o) → φ h2
def HOk (H : Hp) (h : Heap) : Prop := ∀ a o, H a = some o → ObjOk P w H h a o
end
section
variable {P : Program} {w : World} {H H' : Hp} {h h' : Heap} {a : Addr} {o : HO}
theorem ObjOk.lt (x : ObjOk P w H h a o) : a < h.objs.size := by
  cases o with
  | lst xs => obtain ⟨_, _, _, _, e⟩ := x; exact Heap.lt_size e
  | tup xs => obtain ⟨_, _, _, p⟩ := x; exact p.lt
  | dK kvs => obtain ⟨_, _, _, _, o, _, _, e, _⟩ := x; exact Heap.lt_size e
  | dT kvs => obtain ⟨_, _, _, _, o, _, _, e, _⟩ := x; exact Heap.lt_size e
  | set S n => obtain ⟨o, _, _, _, e, _⟩ := x; exact Heap.lt_size e
  | ins C dx fs => obtain ⟨_, _, _, e, _⟩ := x; exact Heap.lt_size e
  | own y => obtain ⟨_, e⟩ := x; exact Heap.lt_size e
  | xd fs => obtain ⟨_, ⟨_, _, _, e, _⟩, _⟩ := x; exact Heap.lt_size e
  | rng lo hi => obtain ⟨_, _, _, e⟩ := x; exact Heap.lt_size e
  | frz ob u => obtain ⟨e, _⟩ := x; exact Heap.lt_size e
  | tbl ps => exact Heap.lt_size (show h.get? a = some _ from x)
  | met f y => exact Heap.lt_size (show h.get? a = some _ from x)
  | ext φ => obtain ⟨_, ⟨_, e⟩, _⟩ := x; exact Heap.lt_size e
theorem Paired.mapP {α β : Type} {F G : α → β → Prop} : ∀ {l₁ : List α} {l₂ : List β}, Paired F l₁ l₂ → (∀ a b, F a b → G a b) → Paired G l₁ l₂
  | _, _, .nil, _ => .nil
  | _, _, .cons r t, f => .cons (f _ _ r) (Paired.mapP t f)
theorem ObjOk.stay (x : ObjOk P w H h a o) (k : ∀ b u, (b = a ∨ H b = some (.own a)) → h.get? b = some u → h'.get? b = some u)
    (ho : ∀ b, H b = some (.own a) → H' b = some (.own a)) (ht : ∀ b xs, H b = some (.tup xs) → H' b = some (.tup xs)) : ObjOk P w H' h' a o := by
  induction o with
  | lst xs => obtain ⟨z, its, n, r, e⟩ := x; exact ⟨z, its, n, r, k _ _ (.inl rfl) e⟩
  | tup xs => obtain ⟨z, its, r, ob, e, c⟩ := x; exact ⟨z, its, r, ob, k _ _ (.inl rfl) e, c⟩
  | dK kvs => obtain ⟨z, y, vs, r, ob, es, ep, e, c⟩ := x; exact ⟨z, y, vs, r, ob, es, ep, k _ _ (.inl rfl) e, c⟩
  | dT kvs =>
    obtain ⟨z, y, xs, r, ob, es, ep, e, c⟩ := x
    exact ⟨z, y, xs, Paired.mapP r fun p q z => ⟨z.1, ht _ _ z.2.1, z.2.2⟩, ob, es, ep, k _ _ (.inl rfl) e, c⟩
  | set S n => obtain ⟨ob, es, ep, t, e, c⟩ := x; exact ⟨ob, es, ep, t, k _ _ (.inl rfl) e, c⟩
  | ins C dx fs =>
    obtain ⟨d, z, ne, e, mA, ⟨od, es, ep, e2, c⟩, r⟩ := x
    exact ⟨ho _ d, z, ne, k _ _ (.inl rfl) e, mA, ⟨od, es, ep, k _ _ (.inr d) e2, c⟩, r⟩
  | own y => obtain ⟨ob, e⟩ := x; exact ⟨ob, k _ _ (.inl rfl) e⟩
  | xd fs => obtain ⟨mA, ⟨od, es, ep, e, c⟩, r⟩ := x; exact ⟨mA, ⟨od, es, ep, k _ _ (.inl rfl) e, c⟩, r⟩
  | rng lo hi => obtain ⟨t, u, v, e⟩ := x; exact ⟨t, u, v, k _ _ (.inl rfl) e⟩
  | frz ob u ih => obtain ⟨e, q⟩ := x; exact ⟨k _ _ (.inl rfl) e, ih q⟩
  | tbl ps =>
    have e : h.get? a = some { cls := .none, data := .fields ps } := x
    show h'.get? a = some { cls := .none, data := .fields ps }
    exact k a _ (.inl rfl) e
  | met f y =>
    have e : h.get? a = some (PySem.W.methodObj (.ref f) (.ref y)) := x
    show h'.get? a = some (PySem.W.methodObj (.ref f) (.ref y))
    exact k a _ (.inl rfl) e
  | ext φ => obtain ⟨p, ⟨o, e⟩, st⟩ := x; exact ⟨st _ _ p fun o q => k _ _ (.inl rfl) q, ⟨o, k _ _ (.inl rfl) e⟩, st⟩
theorem HOk.lt (x : HOk P w H h) (e : H a = some o) : a < h.objs.size := (x a o e).lt
theorem HOk.fresh (x : HOk P w H h) (e : h.objs.size ≤ a) : H a = none := by
  cases q : H a with
  | none => rfl
  | some u => exact absurd (Nat.lt_of_lt_of_le (x.lt q) e) (Nat.lt_irrefl _)
theorem HOk.kept (x : HOk P w H h) (k : ∀ b u, h.get? b = some u → h'.get? b = some u) : HOk P w H h' := fun a o e =>
  (x a o e).stay (fun b u _ q => k b u q) (fun _ q => q) fun _ _ q => q
theorem HOk.laid (x : HOk P w H h) (k : ∀ b u, h.get? b = some u → h'.get? b = some u) (hp : h.objs.size ≤ a) (new : ObjOk P w (upd H a o) h' a o) : HOk P w (upd H a o) h' := fun b u e => by
  have hn := x.fresh hp
  by_cases hb : b = a
  · subst hb; rw [upd_same] at e; cases e; exact new
  · rw [upd_ne hb] at e
    exact (x b u e).stay (fun c v _ q => k c v q) (fun c q => by rw [upd_ne (ne_of_none q hn)]; exact q) fun c xs q => by rw [upd_ne (ne_of_none q hn)]; exact q
end
def Rd (H : Hp) (a : Addr) (u : HO) : Prop := H a = some u ∨ ∃ o, H a = some (.frz o u)
theorem Rd.of {H : Hp} {a : Addr} {u : HO} (h : H a = some u) : Rd H a u := .inl h
theorem Rd.ok {P : Program} {w : World} {H : Hp} {h : Heap} {a : Addr} {u : HO} (r : Rd H a u) (x : HOk P w H h) : ObjOk P w H h a u := by
  rcases r with r | ⟨o, r⟩
  · exact x a u r
  · obtain ⟨_, q⟩ := x a _ r
    exact q
def Mut : Option HO → Prop
  | some (.lst _) => True
  | some (.dK _) => True
  | some (.dT _) => True
  | some (.set _ _) => True
  | some (.ins _ _ _) => True
  | some (.ext _) => True
  | _ => False
section
variable {P : Program} {w : World} {H : Hp} {h h' : Heap} {x e : Addr} {o' : HO}
theorem HOk.write (ok : HOk P w H h) (mu : Mut (H x)) (he : e = x ∨ H e = some (.own x)) (k : ∀ b u, b ≠ e → h.get? b = some u → h'.get? b = some u) (heo : ∃ u, h'.get? e = some u)
    (new : ObjOk P w (upd H x o') h' x o') : HOk P w (upd H x o') h' := fun b u q => by
  have nown : ∀ c y, H c = some (.own y) → c ≠ x := fun c y r z => by subst z; rw [r] at mu; exact mu
  have ntup : ∀ c xs, H c = some (.tup xs) → c ≠ x := fun c xs r z => by subst z; rw [r] at mu; exact mu
  by_cases hb : b = x
  · subst hb; rw [upd_same] at q; cases q; exact new
  · rw [upd_ne hb] at q
    by_cases hbe : b = e
    · have q' : H b = some (.own x) := by
        rcases he with z | z
        · exact absurd (hbe.trans z) hb
        · rw [hbe]; exact z
      rw [q] at q'; cases q'
      obtain ⟨v, hv⟩ := heo
      exact ⟨v, by rw [hbe]; exact hv⟩
    · refine (ok b u q).stay (fun c v hc r => k c v ?_ r) (fun c r => by rw [upd_ne (nown c b r)]; exact r) fun c xs r => by rw [upd_ne (ntup c xs r)]; exact r
      rcases hc with rfl | hc
      · exact hbe
      · rintro rfl
        rcases he with z | z
        · exact nown c b hc z
        · rw [hc] at z; cases z; exact hb rfl
end
structure Un (fs ex : List Addr) (H H' : Hp) (h h' : Heap) : Prop where
  keep : ∀ b o, h.get? b = some o → H b = none → b ∉ fs → b ∉ ex → h'.get? b = some o
  slot : ∀ b o, h.get? b = some o → H b = none → b ∈ fs → b ∉ ex → ∃ sl, h'.get? b = some { o with slots := sl }
  free : ∀ b o, h.get? b = some o → H b = none → b ∉ ex → H' b = none
  there : ∀ b o, h.get? b = some o → b ∉ ex → ∃ o', h'.get? b = some o'
  tups : ∀ b xs, H b = some (.tup xs) → H' b = some (.tup xs)
  frzs : ∀ b o u, H b = some (.frz o u) → H' b = some (.frz o u)
  tbls : ∀ b ps, H b = some (.tbl ps) → ∃ more, H' b = some (.tbl (ps ++ more))
section
variable {fs fs' ex ex' : List Addr} {H H1 H2 : Hp} {h h1 h2 h' : Heap} {a x e : Addr} {o : HO}
theorem Un.any (u : Un fs ex H H1 h h1) {b : Addr} {ob : Obj} (q : h.get? b = some ob) (n : H b = none) (hx : b ∉ ex) : ∃ sl, h1.get? b = some { ob with slots := sl } := by
  by_cases hb : b ∈ fs
  · exact u.slot b ob q n hb hx
  · exact ⟨ob.slots, u.keep b ob q n hb hx⟩
theorem Un.trans (a : Un fs ex H H1 h h1) (b : Un fs ex H1 H2 h1 h2) : Un fs ex H H2 h h2 where
  keep := fun c ob q n hc hx => b.keep c ob (a.keep c ob q n hc hx) (a.free c ob q n hx) hc hx
  slot := fun c ob q n hc hx => by
    obtain ⟨sl, e1⟩ := a.slot c ob q n hc hx
    obtain ⟨sl', e2⟩ := b.slot c _ e1 (a.free c ob q n hx) hc hx
    exact ⟨sl', e2⟩
  free := fun c ob q n hx => by
    obtain ⟨o', e1⟩ := a.there c ob q hx
    exact b.free c o' e1 (a.free c ob q n hx) hx
  there := fun c ob q hx => by
    obtain ⟨o', e1⟩ := a.there c ob q hx
    exact b.there c o' e1 hx
  tups := fun c xs q => b.tups c xs (a.tups c xs q)
  frzs := fun c ob xs q => b.frzs c ob xs (a.frzs c ob xs q)
  tbls := fun c ps q => by
    obtain ⟨m1, e1⟩ := a.tbls c ps q
    obtain ⟨m2, e2⟩ := b.tbls c _ e1
    exact ⟨m1 ++ m2, by rw [e2, Array.append_assoc]⟩
theorem Un.kept (k : ∀ b u, h.get? b = some u → h'.get? b = some u) : Un fs ex H H h h' :=
  ⟨fun b ob q _ _ _ => k b ob q, fun b ob q _ _ _ => ⟨ob.slots, k b ob q⟩, fun _ _ _ n _ => n, fun b ob q _ => ⟨ob, k b ob q⟩, fun _ _ q => q, fun _ _ _ q => q, fun _ ps q => ⟨#[], by rw [q]; simp⟩⟩
theorem Un.refl : Un fs ex H H h h := Un.kept fun _ _ q => q
theorem Un.laid (k : ∀ b u, h.get? b = some u → h'.get? b = some u) (hp : h.objs.size ≤ a) (hn : H a = none) : Un fs ex H (upd H a o) h h' where
  keep := fun b u q _ _ _ => k b u q
  slot := fun b u q _ _ _ => ⟨u.slots, k b u q⟩
  free := fun b u q n _ => by rw [upd_ne (Nat.ne_of_lt (Nat.lt_of_lt_of_le (Heap.lt_size q) hp))]; exact n
  there := fun b u q _ => ⟨u, k b u q⟩
  tups := fun b xs q => by rw [upd_ne (ne_of_none q hn)]; exact q
  frzs := fun b u xs q => by rw [upd_ne (ne_of_none q hn)]; exact q
  tbls := fun b ps q => ⟨#[], by rw [upd_ne (ne_of_none q hn), q]; simp⟩
theorem Un.write (mu : Mut (H x)) (he : e = x ∨ H e = some (.own x)) (k : ∀ b u, b ≠ e → h.get? b = some u → h'.get? b = some u) (heo : ∃ u, h'.get? e = some u) : Un fs ex H (upd H x o) h h' := by
  have hx : ∀ b, H b = none → b ≠ x := fun b n z => by subst z; rw [n] at mu; exact mu
  have hb : ∀ b, H b = none → b ≠ e := fun b n z => by
    subst z
    rcases he with r | r
    · exact hx b n r
    · rw [n] at r; cases r
  have hm : ∀ b u, H b = some u → ¬ Mut (some u) → b ≠ x := fun b u q nm z => by subst z; rw [q] at mu; exact nm mu
  refine ⟨fun b u q n _ _ => k b u (hb b n) q, fun b u q n _ _ => ⟨u.slots, k b u (hb b n) q⟩, fun b u q n _ => by rw [upd_ne (hx b n)]; exact n, fun b u q _ => ?_,
    fun b xs q => by rw [upd_ne (hm b _ q fun z => z)]; exact q, fun b u xs q => by rw [upd_ne (hm b _ q fun z => z)]; exact q, fun b ps q => ⟨#[], by rw [upd_ne (hm b _ q fun z => z), q]; simp⟩⟩
  by_cases hbe : b = e
  · subst hbe; exact heo
  · exact ⟨u, k b u hbe q⟩
theorem Un.mono (u : Un fs ex H H1 h h1) (hs : ∀ b ∈ fs, b ∈ fs') (hx : ∀ b ∈ ex, b ∈ ex') : Un fs' ex' H H1 h h1 :=
  ⟨fun b ob q n hb he => u.keep b ob q n (fun z => hb (hs b z)) fun z => he (hx b z), fun _ _ q n _ he => u.any q n fun z => he (hx _ z), fun b ob q n he => u.free b ob q n fun z => he (hx b z), fun b ob q he => u.there b ob q fun z => he (hx b z), u.tups, u.frzs, u.tbls⟩
end
def trk (h : Heap) (H : Hp) : List Addr := (List.range h.objs.size).filter fun a => (H a).isSome
def hidT (h : Heap) (H : Hp) : Heap := PySem.W.hideAll h (trk h H)
theorem hidT_size (h : Heap) (H : Hp) : (hidT h H).objs.size = h.objs.size := PySem.W.hideAll_size _ _
theorem hidT_get {h : Heap} {H : Hp} {b : Addr} {o : Obj} (e : h.get? b = some o) (n : H b = none) : (hidT h H).get? b = some o :=
  PySem.W.hideAll_get _ e fun hm => by
    have q : (H b).isSome = true := (List.mem_filter.mp hm).2
    rw [n] at q; simp at q
theorem of_hidT {h : Heap} {H : Hp} {b : Addr} {o : Obj} (e : (hidT h H).get? b = some o) : h.get? b = some o ∧ H b = none := by
  have e' : h.get? b = some o := PySem.W.of_hideAll (trk h H) e
  refine ⟨e', ?_⟩
  cases q : H b with
  | none => rfl
  | some x =>
    have hm : b ∈ trk h H := List.mem_filter.mpr ⟨List.mem_range.mpr (Heap.lt_size e'), by simp [q]⟩
    have z : (hidT h H).get? b = none := PySem.W.hideAll_none (trk h H) hm
    rw [z] at e; cases e
def allNews (g h : Heap) (L : Addr) : List (Addr × Obj) := (List.range h.objs.size).filterMap fun a => if a = L ∨ (g.get? a).isSome = true then none else (h.get? a).map fun o => (a, o)
def rest (g h : Heap) (L d : Addr) : List (Addr × Obj) := (allNews g h L).filter fun p => decide (p.1 ≠ d)
end L2
namespace L2
open PySem PySem.Spec PyProof.Rows
structure Mod (K : PySem.W.Frag) (mg : Str → Option Value) (base : Heap) : Prop where
  kin : K.In base
  glob : base.Ns mainGlobals mg
  blt : ∃ mb, base.Ns builtinsNs mb ∧ ∀ x : Str, x ≠ "__name__" → mb x = bootBuiltins x
  nolimit : base.NoLimit
structure Cx where
  prog : Program
  w : World
  K : PySem.W.Frag
  mg : Str → Option Value
  base : Heap
  A : Around
  N : List Str
  s₀ : Shared
  H₀ : Hp
  env : Env
  outer : List Env
  stack : List Env
  ex : List Addr
  fn : Str → Bool
  calm : Bool
  pn : List (Addr × Obj)
  xe : Value → Shared → Prop
def frs (l : List Env) : List Addr := l.filterMap (·.frame)
abbrev Cx.fs (X : Cx) : List Addr := frs X.outer
def Vis (sc : Scope) (x : Str) : Prop := sc.names.lookup x = some .local ∨ sc.names.lookup x = some .cell ∨ sc.names.lookup x = some .free
def Loc (sc : Scope) (x : Str) : Prop := sc.names.lookup x = some .local ∨ sc.names.lookup x = some .cell
def Look (env : Env) (h : Heap) (m : Str → Option Value) (x : Str) (u : Value) : Prop :=
  (env.kindOf x = some .local ∧ m x = some u) ∨ ((env.kindOf x = some .cell ∨ env.kindOf x = some .free) ∧ ∃ c, env.cells.lookup x = some c ∧ h.IsCell c (some u))
structure Cx.Ok (X : Cx) : Prop where
  mod : Mod X.K X.mg X.base
  kind : X.env.scope.kind = .function
  glob : X.env.globals = mainGlobals
  blt : X.env.builtins = builtinsNs
  above : X.s₀.heap.objs.size ≤ X.env.locals
  inj : ∀ x y c, X.env.cells.lookup x = some c → X.env.cells.lookup y = some c → x = y
  has : ∀ x, (X.env.kindOf x = some .cell ∨ X.env.kindOf x = some .free) → ∃ c, X.env.cells.lookup x = some c
  cab : ∀ x c, X.fn x = true → X.env.cells.lookup x = some c → X.s₀.heap.objs.size ≤ c
  hd : X.calm = true → X.A.handled = none
  frames : X.A.frames = some X.stack
  stk : X.stack = X.outer ∨ (X.stack = X.env :: X.outer ∧ X.env.frame = some X.env.locals)
  exf : ∀ b ∈ X.ex, b ≠ X.env.locals ∧ ∀ x c, X.env.cells.lookup x = some c → c ≠ b
  bs : ∀ b o, X.base.get? b = some o → X.s₀.heap.get? b = some o ∧ X.H₀ b = none
  bsz : X.base.objs.size ≤ X.s₀.heap.objs.size
  noex : ∀ b o, X.base.get? b = some o → b ∉ X.ex
  exfs : ∀ b ∈ X.ex, b ∉ X.fs
  funs : X.s₀.heap.FunFrames X.base X.outer
  frf : ∀ b ∈ X.fs, X.H₀ b = none
structure Inv (X : Cx) (pins : List (Addr × Obj)) (σ : List (Option V)) (H : Hp) (s : Shared) : Prop where
  ok : X.Ok
  os : s.os = X.s₀.os
  bare : AllBare s.gens
  base : Un X.fs X.ex X.H₀ H X.s₀.heap s.heap
  loc : ∃ m, s.heap.Ns X.env.locals m ∧ ∀ (i : Nat) (x : Str) (v : V), X.N[i]? = some x → σ[i]? = some (some v) → Vis X.env.scope x → ∃ u, RelV v u ∧ Look X.env s.heap m x u
  cell : ∀ x c, X.env.cells.lookup x = some c → ∃ v, s.heap.IsCell c v
  free : H X.env.locals = none
  freeC : ∀ x c, X.env.cells.lookup x = some c → H c = none
  pin : ∀ p ∈ X.pn ++ pins, s.heap.get? p.1 = some p.2 ∧ H p.1 = none ∧ p.1 ≠ X.env.locals ∧ p.1 ∉ X.fs ∧ ∀ v, p.2.data ≠ .cell v
  hok : HOk X.prog X.w H s.heap
  len : σ.length = X.N.length
section
variable {X : Cx} {pins : List (Addr × Obj)} {σ : List (Option V)} {H H' : Hp} {s : Shared} {h' : Heap}
theorem Cx.Ok.nofr (ok : X.Ok) {b : Addr} {o : Obj} (e : X.base.get? b = some o) : b ∉ X.fs := fun hb => by
  have := (ok.funs.mem hb).1
  rw [e] at this; cases this
theorem Inv.bs (I : Inv X pins σ H s) : ∀ b o, X.base.get? b = some o → s.heap.get? b = some o ∧ H b = none := fun b o e =>
  ⟨I.base.keep b o (I.ok.bs b o e).1 (I.ok.bs b o e).2 (I.ok.nofr e) (I.ok.noex b o e), I.base.free b o (I.ok.bs b o e).1 (I.ok.bs b o e).2 (I.ok.noex b o e)⟩
theorem Inv.bk (I : Inv X pins σ H s) : ∀ b o, X.base.get? b = some o → s.heap.get? b = some o := fun b o e => (I.bs b o e).1
theorem Inv.mod (I : Inv X pins σ H s) : Mod X.K X.mg X.base := I.ok.mod
theorem Inv.kIn (I : Inv X pins σ H s) : X.K.In s.heap := I.ok.mod.kin.keeps I.bk
theorem Inv.nolimit (I : Inv X pins σ H s) : s.heap.NoLimit := I.ok.mod.nolimit.keeps I.bk
theorem Inv.fr (I : Inv X pins σ H s) : ∃ m, Fr X.base X.env.locals s.heap m :=
  let ⟨m, hn, _⟩ := I.loc
  ⟨m, hn, I.bk, Nat.le_trans I.ok.bsz I.ok.above⟩
theorem Inv.lt (I : Inv X pins σ H s) : X.env.locals < s.heap.objs.size := let ⟨_, hn, _⟩ := I.loc; hn.lt
theorem Inv.sz (I : Inv X pins σ H s) : X.s₀.heap.objs.size ≤ s.heap.objs.size := Nat.le_trans I.ok.above (Nat.le_of_lt I.lt)
theorem Inv.nofs (I : Inv X pins σ H s) {a : Addr} (h : s.heap.objs.size ≤ a) : a ∉ X.fs := fun hb => by
  obtain ⟨_, o, ho, _⟩ := I.ok.funs.mem hb
  exact absurd (Nat.lt_of_lt_of_le (Heap.lt_size ho) (Nat.le_trans I.sz h)) (Nat.lt_irrefl _)
theorem Inv.cne (I : Inv X pins σ H s) : ∀ x c, X.env.cells.lookup x = some c → c ≠ X.env.locals := fun x c e z => by
  obtain ⟨v, o, ho, hd⟩ := I.cell x c e
  obtain ⟨m, ⟨o', es, ep, ho', hd', _⟩, _⟩ := I.loc
  rw [z, ho'] at ho; cases ho; rw [hd'] at hd; cases hd
theorem Inv.funs (I : Inv X pins σ H s) : s.heap.FunFrames X.base X.outer := by
  have all : ∀ (l : List Env), (∀ b ∈ frs l, b ∈ X.fs) → X.s₀.heap.FunFrames X.base l → s.heap.FunFrames X.base l := by
    intro l
    induction l with
    | nil => intro _ _; trivial
    | cons env r ih =>
      intro hs hl
      obtain ⟨hk, ⟨L, o, hf, hn, ho, hd⟩, hr⟩ := hl
      have hL : L ∈ X.fs := hs L (by unfold frs; rw [List.filterMap_cons, hf]; exact List.mem_cons_self)
      obtain ⟨sl, e⟩ := I.base.slot L o ho (I.ok.frf L hL) hL fun z => I.ok.exfs L z hL
      exact ⟨hk, ⟨L, _, hf, hn, e, hd⟩, ih (fun b hb => hs b (by unfold frs; rw [List.filterMap_cons, hf]; exact List.mem_cons_of_mem _ hb)) hr⟩
  exact all X.outer (fun _ hb => hb) I.ok.funs
theorem Inv.stack (I : Inv X pins σ H s) : s.heap.FunFrames X.base X.stack := by
  rcases I.ok.stk with e | ⟨e, hf⟩
  · rw [e]; exact I.funs
  · rw [e]
    obtain ⟨m, hn, _⟩ := I.loc
    refine .cons (by rw [I.ok.kind]; decide) hf hn ?_ I.funs
    exact Heap.get?_none_of_le (Nat.le_trans I.ok.bsz I.ok.above)
theorem Inv.stkSub (I : Inv X pins σ H s) : ∀ b ∈ frs X.stack, b ∈ X.env.locals :: X.fs := fun b hb => by
  rcases I.ok.stk with e | ⟨e, hf⟩
  · rw [e] at hb; exact List.mem_cons_of_mem _ hb
  · rw [e] at hb
    unfold frs at hb
    rw [List.filterMap_cons, hf] at hb
    exact hb
theorem Inv.stkFree (I : Inv X pins σ H s) : ∀ b ∈ frs X.stack, H b = none := fun b hb => by
  rcases List.mem_cons.mp (I.stkSub b hb) with e | hb
  · rw [e]; exact I.free
  · obtain ⟨_, o, ho, _⟩ := I.ok.funs.mem hb
    exact I.base.free b o ho (I.ok.frf b hb) fun z => I.ok.exfs b z hb
theorem Inv.step {g' : Array GenState} {t' : Nat} {d' : Drawn} {ch : List Addr} (I : Inv X pins σ H s)
    (hch : ∀ b ∈ ch, (b ∈ X.ex ∨ X.s₀.heap.objs.size ≤ b) ∧ b ≠ X.env.locals ∧ (∀ x c, X.env.cells.lookup x = some c → c ≠ b) ∧ ∀ p ∈ X.pn ++ pins, p.1 ≠ b)
    (keep : ∀ b o, b ≠ X.env.locals → b ∉ X.fs → b ∉ ch → s.heap.get? b = some o → H b = none → h'.get? b = some o)
    (slot : ∀ b o, b ≠ X.env.locals → b ∈ X.fs → b ∉ ch → s.heap.get? b = some o → H b = none → ∃ sl, h'.get? b = some { o with slots := sl }) (free : ∀ b o, b ∉ ch → s.heap.get? b = some o → H b = none → H' b = none)
    (there : ∀ b o, b ∉ ch → s.heap.get? b = some o → ∃ o', h'.get? b = some o')
    (tups : ∀ b xs, H b = some (.tup xs) → H' b = some (.tup xs)) (frzs : ∀ b o u, H b = some (.frz o u) → H' b = some (.frz o u)) (tbls : ∀ b ps, H b = some (.tbl ps) → ∃ more, H' b = some (.tbl (ps ++ more)))
    (ns : ∀ m, s.heap.Ns X.env.locals m → h'.Ns X.env.locals m) (hok : HOk X.prog X.w H' h') (hg : AllBare g') :
    Inv X pins σ H' { s with heap := h', gens := g', drawn := d', toks := t' } := by
  have neL : ∀ b o, X.s₀.heap.get? b = some o → b ≠ X.env.locals := fun b o e => Nat.ne_of_lt (Nat.lt_of_lt_of_le (Heap.lt_size e) I.ok.above)
  have neC : ∀ b o, X.s₀.heap.get? b = some o → b ∉ X.ex → b ∉ ch := fun b o e hx hb => by
    rcases (hch b hb).1 with z | z
    · exact hx z
    · exact absurd (Nat.lt_of_lt_of_le (Heap.lt_size e) z) (Nat.lt_irrefl _)
  have cellK : ∀ x c, X.env.cells.lookup x = some c → ∀ v, s.heap.IsCell c v → h'.IsCell c v := fun x c e v ⟨o, ho, hd⟩ => by
    have nch : c ∉ ch := fun z => (hch c z).2.2.1 x c e rfl
    by_cases hc : c ∈ X.fs
    · obtain ⟨sl, q⟩ := slot c o (I.cne x c e) hc nch ho (I.freeC x c e)
      exact ⟨_, q, hd⟩
    · exact ⟨o, keep c o (I.cne x c e) hc nch ho (I.freeC x c e), hd⟩
  refine ⟨I.ok, I.os, hg, ⟨fun b o e n hb hx => ?_, fun b o e n hb hx => ?_, fun b o e n hx => ?_, fun b o e hx => ?_, fun b xs e => tups b xs (I.base.tups b xs e), fun b o xs e => frzs b o xs (I.base.frzs b o xs e), fun b ps e => ?_⟩, ?_, fun x c e => ?_, ?_, fun x c e => ?_, fun p hp => ?_, hok, I.len⟩
  · exact keep b o (neL b o e) hb (neC b o e hx) (I.base.keep b o e n hb hx) (I.base.free b o e n hx)
  · obtain ⟨sl, e1⟩ := I.base.slot b o e n hb hx
    obtain ⟨sl', e2⟩ := slot b _ (neL b o e) hb (neC b o e hx) e1 (I.base.free b o e n hx)
    exact ⟨sl', e2⟩
  · obtain ⟨o', e1⟩ := I.base.there b o e hx
    exact free b o' (neC b o e hx) e1 (I.base.free b o e n hx)
  · obtain ⟨o', e1⟩ := I.base.there b o e hx
    exact there b o' (neC b o e hx) e1
  · obtain ⟨m1, e1⟩ := I.base.tbls b ps e
    obtain ⟨m2, e2⟩ := tbls b _ e1
    exact ⟨m1 ++ m2, by rw [e2, Array.append_assoc]⟩
  · obtain ⟨m, hn, hl⟩ := I.loc
    refine ⟨m, ns m hn, fun i x v e1 e2 e3 => ?_⟩
    obtain ⟨u, r, l⟩ := hl i x v e1 e2 e3
    refine ⟨u, r, ?_⟩
    rcases l with l | ⟨k, c, e, z⟩
    · exact .inl l
    · exact .inr ⟨k, c, e, cellK x c e _ z⟩
  · obtain ⟨v, z⟩ := I.cell x c e
    exact ⟨v, cellK x c e v z⟩
  · obtain ⟨m, ⟨o, _, _, ho, _⟩, _⟩ := I.loc
    exact free _ o (fun z => (hch _ z).2.1 rfl) ho I.free
  · obtain ⟨v, o, ho, hd⟩ := I.cell x c e
    exact free c o (fun z => (hch c z).2.2.1 x c e rfl) ho (I.freeC x c e)
  · obtain ⟨e, n, ne, nf, d⟩ := I.pin p hp
    have nch : p.1 ∉ ch := fun z => (hch p.1 z).2.2.2 p hp rfl
    exact ⟨keep p.1 p.2 ne nf nch e n, free p.1 p.2 nch e n, ne, nf, d⟩
theorem Inv.un {t' : Nat} (I : Inv X pins σ H s) (u : Un X.fs [] H H' s.heap h') (hok : HOk X.prog X.w H' h') : Inv X pins σ H' { s with heap := h', toks := t' } := by
  obtain ⟨m, ⟨o, es, ep, ho, r⟩, _⟩ := id I.loc
  obtain ⟨sl, hL⟩ := u.any ho I.free (by simp)
  exact I.step (g' := s.gens) (d' := s.drawn) (ch := []) (fun _ z => nomatch z) (fun b o _ hb _ e n => u.keep b o e n hb (by simp)) (fun b o _ hb _ e n => u.slot b o e n hb (by simp)) (fun b o _ e n => u.free b o e n (by simp)) (fun b o _ e => u.there b o e (by simp)) u.tups u.frzs u.tbls (fun m' hm => by
    obtain ⟨o', es', ep', ho', r'⟩ := hm
    rw [ho] at ho'; cases ho'
    exact ⟨_, es', ep', hL, r'⟩) hok I.bare
theorem Inv.call {g' : Array GenState} {t' : Nat} {d' : Drawn} {ch : List Addr} (I : Inv X pins σ H s) (u : Un (frs X.stack) ch H H' s.heap h') (hok : HOk X.prog X.w H' h') (hg : AllBare g')
    (hch : ∀ b ∈ ch, (b ∈ X.ex ∨ X.s₀.heap.objs.size ≤ b) ∧ b ≠ X.env.locals ∧ (∀ x c, X.env.cells.lookup x = some c → c ≠ b) ∧ ∀ p ∈ X.pn ++ pins, p.1 ≠ b) :
    Inv X pins σ H' { s with heap := h', gens := g', drawn := d', toks := t' } := by
  obtain ⟨m, ⟨o, es, ep, ho, r⟩, _⟩ := id I.loc
  obtain ⟨sl, hL⟩ := u.any ho I.free fun z => (hch _ z).2.1 rfl
  exact I.step (ch := ch) hch (fun b o hL hb hc e n => u.keep b o e n (fun z => (List.mem_cons.mp (I.stkSub b z)).elim hL hb) hc) (fun b o _ _ hc e n => u.any e n hc) (fun b o hc e n => u.free b o e n hc) (fun b o hc e => u.there b o e hc) u.tups u.frzs u.tbls (fun m' hm => by
    obtain ⟨o', es', ep', ho', r'⟩ := hm
    rw [ho] at ho'; cases ho'
    exact ⟨_, es', ep', hL, r'⟩) hok hg
theorem Inv.turned {t' : Nat} {it : Addr} (I : Inv X pins σ H s) (k : ∀ b o, b ≠ it → s.heap.get? b = some o → h'.get? b = some o) (hn : H it = none) (hL : it ≠ X.env.locals)
    (h1 : it ∈ X.ex ∨ X.s₀.heap.objs.size ≤ it) (h2 : ∀ x c, X.env.cells.lookup x = some c → c ≠ it) (h3 : ∀ p ∈ X.pn ++ pins, p.1 ≠ it) : Inv X pins σ H { s with heap := h', toks := t' } := by
  have nit : ∀ b u, H b = some u → b ≠ it := fun b u e z => by rw [z, hn] at e; cases e
  refine I.step (g' := s.gens) (d' := s.drawn) (ch := [it]) (fun b hb => ?_) (fun b o _ _ hc e _ => k b o (fun z => hc (by simp [z])) e) (fun b o _ _ hc e _ => ⟨o.slots, k b o (fun z => hc (by simp [z])) e⟩) (fun _ _ _ _ n => n)
    (fun b o hc e => ⟨o, k b o (fun z => hc (by simp [z])) e⟩) (fun _ _ e => e) (fun _ _ _ e => e) (fun b ps e => ⟨#[], by rw [e]; simp⟩) (fun m hm => ?_) (fun b u e => ?_) I.bare
  · have e : b = it := by simpa using hb
    subst e
    exact ⟨h1, hL, h2, h3⟩
  · obtain ⟨o, es, ep, ho, r⟩ := hm
    exact ⟨o, es, ep, k _ o (Ne.symm hL) ho, r⟩
  · refine (I.hok b u e).stay (fun c v hc q => k c v ?_ q) (fun _ q => q) fun _ _ q => q
    rcases hc with z | z
    · rw [z]; exact nit b u e
    · exact nit c _ z
theorem Inv.tok (I : Inv X pins σ H s) (t : Nat) : Inv X pins σ H { s with toks := t } := I.un (h' := s.heap) (t' := t) Un.refl I.hok
theorem Inv.kept {t' : Nat} (I : Inv X pins σ H s) (k : ∀ b u, s.heap.get? b = some u → h'.get? b = some u) : Inv X pins σ H { s with heap := h', toks := t' } := I.un (Un.kept k) (I.hok.kept k)
theorem Inv.laid {a : Addr} {o : HO} {t' : Nat} (I : Inv X pins σ H s) (k : ∀ b u, s.heap.get? b = some u → h'.get? b = some u) (hp : s.heap.objs.size ≤ a) (new : ObjOk X.prog X.w (upd H a o) h' a o) :
    Inv X pins σ (upd H a o) { s with heap := h', toks := t' } := I.un (Un.laid k hp (I.hok.fresh hp)) (I.hok.laid k hp new)
theorem Inv.write {x e : Addr} {o : HO} {t' : Nat} (I : Inv X pins σ H s) (mu : Mut (H x)) (he : e = x ∨ H e = some (.own x)) (k : ∀ b u, b ≠ e → s.heap.get? b = some u → h'.get? b = some u) (heo : ∃ u, h'.get? e = some u)
    (new : ObjOk X.prog X.w (upd H x o) h' x o) : Inv X pins σ (upd H x o) { s with heap := h', toks := t' } := I.un (Un.write mu he k heo) (I.hok.write mu he k heo new)
theorem Inv.pins_of {pins' : List (Addr × Obj)} (I : Inv X pins σ H s) (h : ∀ p ∈ pins', s.heap.get? p.1 = some p.2 ∧ H p.1 = none ∧ p.1 ≠ X.env.locals ∧ p.1 ∉ X.fs ∧ ∀ v, p.2.data ≠ .cell v) : Inv X pins' σ H s :=
  ⟨I.ok, I.os, I.bare, I.base, I.loc, I.cell, I.free, I.freeC, fun p hp => (List.mem_append.mp hp).elim (fun z => I.pin p (List.mem_append_left _ z)) (h p), I.hok, I.len⟩
theorem nodup_ix {N : List Str} (hN : N.Nodup) {i j : Nat} {x : Str} (a : N[i]? = some x) (b : N[j]? = some x) : i = j := by
  obtain ⟨h1, e1⟩ := List.getElem?_eq_some_iff.mp a
  obtain ⟨h2, e2⟩ := List.getElem?_eq_some_iff.mp b
  exact (List.getElem_inj hN).mp (e1.trans e2.symm)
theorem store_ok2 {M : Model} {A : Around} {E : Value → Shared → Prop} {i : Nat} {x : Str} {v : V} {u : Value} {Q : Unit → Shared → Prop} (I : Inv X pins σ H s) (hN : X.N.Nodup) (hi : X.N[i]? = some x) (hx : Loc X.env.scope x) (r : RelV v u)
    (h : ∀ s', Inv X pins (σ.set i (some v)) H s' → (∃ a, Heap.SameBut a s.heap s'.heap ∧ (a = X.env.locals ∨ X.env.cells.lookup x = some a)) → Q () s') (hf : X.fn x = true ∨ X.env.scope.names.lookup x = some .local := by first | exact .inl rfl | exact .inr rfl | assumption) : wpAny M A (storeName X.env x u) Q E s := by
  obtain ⟨m, hn, hl⟩ := id I.loc
  have hcls : (X.env.scope.kind == .class || (X.env.scope.kind == .module && X.env.locals != X.env.globals)) = false := by rw [I.ok.kind]; rfl
  have hiσ : i < σ.length := by rw [I.len]; exact (List.getElem?_eq_some_iff.mp hi).1
  have cne := I.cne
  have tracked : ∀ {a : Addr} {h' : Heap}, (∃ o, s.heap.get? a = some o ∧ H a = none) → Heap.SameBut a s.heap h' → HOk X.prog X.w H h' := fun {a h'} ha hs b ob e => by
    obtain ⟨_, _, hfree⟩ := ha
    refine (I.hok b ob e).stay (fun c w' hc q => (hs.2 c ?_).trans q) (fun _ q => q) fun _ _ q => q
    rintro rfl
    rcases hc with rfl | hc
    · rw [hfree] at e; cases e
    · rw [hfree] at hc; cases hc
  rcases hx with hk | hk
  · refine wpAny_storeName_local hk hn (fun h' hn' hs => ?_) hcls
    obtain ⟨oL, _, _, hoL, _⟩ := id hn
    refine h _ ⟨I.ok, I.os, I.bare, ⟨fun b o e n hb hx => ?_, fun b o e n hb hx => ?_, I.base.free, fun b o e hx => ?_, I.base.tups, I.base.frzs, I.base.tbls⟩, ⟨_, hn', fun j y v' e1 e2 e3 => ?_⟩, fun y c e => ?_, I.free, I.freeC, fun p hp => ?_, tracked ⟨oL, hoL, I.free⟩ hs, by simpa using I.len⟩ ⟨_, hs, .inl rfl⟩
    · exact (hs.2 b (Nat.ne_of_lt (Nat.lt_of_lt_of_le (Heap.lt_size e) I.ok.above))).trans (I.base.keep b o e n hb hx)
    · obtain ⟨sl, e1⟩ := I.base.slot b o e n hb hx
      exact ⟨sl, (hs.2 b (Nat.ne_of_lt (Nat.lt_of_lt_of_le (Heap.lt_size e) I.ok.above))).trans e1⟩
    · obtain ⟨o', e1⟩ := I.base.there b o e hx
      exact ⟨o', (hs.2 b (Nat.ne_of_lt (Nat.lt_of_lt_of_le (Heap.lt_size e) I.ok.above))).trans e1⟩
    · by_cases hj : j = i
      · subst hj
        rw [hi] at e1; cases e1
        rw [List.getElem?_set_self hiσ] at e2
        cases e2
        exact ⟨u, r, .inl ⟨hk, by simp⟩⟩
      · rw [List.getElem?_set_ne (Ne.symm hj)] at e2
        obtain ⟨u', r', q⟩ := hl j y v' e1 e2 e3
        refine ⟨u', r', ?_⟩
        rcases q with ⟨k, e⟩ | ⟨k, c, e, z⟩
        · refine .inl ⟨k, ?_⟩
          have : y ≠ x := fun e => hj (nodup_ix hN e1 (e ▸ hi))
          simp [this, e]
        · exact .inr ⟨k, c, e, z.sameBut hs (cne y c e)⟩
    · obtain ⟨w', z⟩ := I.cell y c e
      exact ⟨w', z.sameBut hs (cne y c e)⟩
    · obtain ⟨e, n, ne, nf, d⟩ := I.pin p hp
      exact ⟨(hs.2 p.1 ne).trans e, n, ne, nf, d⟩
  · have hfn : X.fn x = true := by
      rcases hf with z | z
      · exact z
      · rw [z] at hk; cases hk
    obtain ⟨c, hc⟩ := I.ok.has x (.inl hk)
    obtain ⟨w', z⟩ := I.cell x c hc
    refine wpAny_storeName_cell I.ok.kind hk hc z (fun h' hc' hs => ?_)
    obtain ⟨oc, hoc, hocd⟩ := id z
    refine h { s with heap := h' } ⟨I.ok, I.os, I.bare, ⟨fun b o e n hb hx => ?_, fun b o e n hb hx => ?_, I.base.free, fun b o e hx => ?_, I.base.tups, I.base.frzs, I.base.tbls⟩, ⟨m, hn.sameBut hs (Ne.symm (cne x c hc)), fun j y v' e1 e2 e3 => ?_⟩, fun y c' e => ?_, I.free, I.freeC, fun p hp => ?_, tracked ⟨oc, hoc, I.freeC x c hc⟩ hs, by simpa using I.len⟩ ⟨c, hs, .inr hc⟩
    · exact (hs.2 b (Nat.ne_of_lt (Nat.lt_of_lt_of_le (Heap.lt_size e) (I.ok.cab x c hfn hc)))).trans (I.base.keep b o e n hb hx)
    · obtain ⟨sl, e1⟩ := I.base.slot b o e n hb hx
      exact ⟨sl, (hs.2 b (Nat.ne_of_lt (Nat.lt_of_lt_of_le (Heap.lt_size e) (I.ok.cab x c hfn hc)))).trans e1⟩
    · obtain ⟨o', e1⟩ := I.base.there b o e hx
      exact ⟨o', (hs.2 b (Nat.ne_of_lt (Nat.lt_of_lt_of_le (Heap.lt_size e) (I.ok.cab x c hfn hc)))).trans e1⟩
    · by_cases hj : j = i
      · subst hj
        rw [hi] at e1; cases e1
        rw [List.getElem?_set_self hiσ] at e2
        cases e2
        exact ⟨u, r, .inr ⟨.inl hk, c, hc, hc'⟩⟩
      · rw [List.getElem?_set_ne (Ne.symm hj)] at e2
        obtain ⟨u', r', q⟩ := hl j y v' e1 e2 e3
        refine ⟨u', r', ?_⟩
        rcases q with q | ⟨k, c', e, z'⟩
        · exact .inl q
        · refine .inr ⟨k, c', e, z'.sameBut hs ?_⟩
          rintro rfl
          exact hj (nodup_ix hN e1 (I.ok.inj _ _ _ e hc ▸ hi))
    · by_cases hcc : c' = c
      · subst hcc; exact ⟨_, hc'⟩
      · obtain ⟨w2, z2⟩ := I.cell y c' e
        exact ⟨w2, z2.sameBut hs hcc⟩
    · obtain ⟨e, n, ne, nf, d⟩ := I.pin p hp
      refine ⟨(hs.2 p.1 ?_).trans e, n, ne, nf, d⟩
      intro q
      rw [q, hoc] at e
      have q' : oc = p.2 := Option.some.inj e
      exact d w' (by rw [← q']; exact hocd)
theorem store_ok {M : Model} {A : Around} {E : Value → Shared → Prop} {i : Nat} {x : Str} {v : V} {u : Value} {Q : Unit → Shared → Prop} (I : Inv X pins σ H s) (hN : X.N.Nodup) (hi : X.N[i]? = some x) (hx : Loc X.env.scope x) (r : RelV v u)
    (h : ∀ s', Inv X pins (σ.set i (some v)) H s' → Q () s') (hf : X.fn x = true ∨ X.env.scope.names.lookup x = some .local := by first | exact .inl rfl | exact .inr rfl | assumption) : wpAny M A (storeName X.env x u) Q E s :=
  store_ok2 I hN hi hx r (fun s' I' _ => h s' I') hf
theorem Inv.call' {s' : Shared} {ch : List Addr} (I : Inv X pins σ H s) (ho : s'.os = s.os) (u : Un (frs X.stack) ch H H' s.heap s'.heap) (hok : HOk X.prog X.w H' s'.heap) (hg : AllBare s'.gens)
    (hch : ∀ b ∈ ch, (b ∈ X.ex ∨ X.s₀.heap.objs.size ≤ b) ∧ b ≠ X.env.locals ∧ (∀ x c, X.env.cells.lookup x = some c → c ≠ b) ∧ ∀ p ∈ X.pn ++ pins, p.1 ≠ b) : Inv X pins σ H' s' := by
  obtain ⟨h', g', d', t', o'⟩ := s'
  have e : o' = s.os := ho
  subst e
  exact I.call (g' := g') (t' := t') (d' := d') u hok hg hch
end
abbrev XK := Value → Option Addr → Hp → Prop
abbrev St := List (Option V)
abbrev VK := V → Hp → Prop
abbrev TE := St → Hp → VK → Prop
abbrev TT := St → Hp → (Bool → Hp → Prop) → Prop
structure Ends where
  nx : St → Hp → Prop
  rt : VK
  bk : St → Hp → Prop := fun _ _ => False
  ct : St → Hp → Prop := fun _ _ => False
abbrev TS := Ends → St → Hp → Prop
def EP (X : Cx) (pins : List (Addr × Obj)) (σ : St) (Q : VK) (u : Value) (s' : Shared) : Prop := ∃ v H', Inv X pins σ H' s' ∧ RelV v u ∧ Q v H'
def TP (X : Cx) (pins : List (Addr × Obj)) (σ : St) (Q : Bool → Hp → Prop) (b : Bool) (s' : Shared) : Prop := ∃ H', Inv X pins σ H' s' ∧ Q b H'
def AP (X : Cx) (pins : List (Addr × Obj)) (σ : St) (Q : List V → Hp → Prop) (us : List Value) (s' : Shared) : Prop := ∃ vs H', Inv X pins σ H' s' ∧ Vals vs us ∧ Q vs H'
def SP (X : Cx) (pins : List (Addr × Obj)) (D : Ends) (f : Flow) (s' : Shared) : Prop :=
  match f with
  | .next => ∃ σ' H', Inv X pins σ' H' s' ∧ D.nx σ' H'
  | .brk => ∃ σ' H', Inv X pins σ' H' s' ∧ D.bk σ' H'
  | .cont => ∃ σ' H', Inv X pins σ' H' s' ∧ D.ct σ' H'
  | .ret u => ∃ v σ' H', Inv X pins σ' H' s' ∧ RelV v u ∧ D.rt v H'
def PE (X : Cx) (e : Expr) (t : TE) : Prop :=
  ∀ (pins : List (Addr × Obj)) (s : Shared) (σ : St) (H : Hp) (Q : VK), Inv X pins σ H s → t σ H Q → wpAny (model X.prog X.w) X.A (eval e X.env) (EP X pins σ Q) X.xe s
def PT (X : Cx) (e : Expr) (t : TT) : Prop :=
  ∀ (pins : List (Addr × Obj)) (s : Shared) (σ : St) (H : Hp) (Q : Bool → Hp → Prop), Inv X pins σ H s → t σ H Q → wpAny (model X.prog X.w) X.A (isTrue e X.env (eval e X.env)) (TP X pins σ Q) X.xe s
def PW (X : Cx) (e : Expr) (t : TT) : Prop :=
  ∀ (whole : Sem Value) (pins : List (Addr × Obj)) (s : Shared) (σ : St) (H : Hp) (Q : Bool → Hp → Prop), Inv X pins σ H s → t σ H Q → wpAny (model X.prog X.w) X.A (isTrue e X.env whole) (TP X pins σ Q) X.xe s
theorem PW.pt {X : Cx} {e : Expr} {t : TT} (h : PW X e t) : PT X e t := h _
def PSs (X : Cx) (st : List Stmt) (t : TS) : Prop :=
  ∀ (pins : List (Addr × Obj)) (s : Shared) (σ : St) (H : Hp) (D : Ends), Inv X pins σ H s → t D σ H → wpAny (model X.prog X.w) X.A (execs st X.env) (SP X pins D) X.xe s
theorem thn {α : Type} {t : Sem α} {Q Q' : α → Shared → Prop} {M : Model} {A : Around} {E : Value → Shared → Prop} {s : Shared} (h : wpAny M A t Q E s) (hQ : ∀ a s, Q a s → Q' a s) : wpAny M A t Q' E s := wpAny_mono h hQ fun _ _ x => x
end L2
namespace L2
open PySem PySem.Spec PyProof.Rows
section
variable {X : Cx}
def tVar (i : Nat) : TE := fun σ H Q => ∃ v, σ[i]? = some (some v) ∧ Q v H
theorem pe_var {i : Nat} {x : Str} {pos : Pos} (hN : X.N[i]? = some x) (hv : Vis X.env.scope x) (hd : (x == ("__debug__" : Str)) = false := by decide) (hcd : (x == ("__classdict__" : Str)) = false := by decide) : PE X (.Name x pos) (tVar i) := by
  intro pins s σ H Q I h
  obtain ⟨v, e, h⟩ := h
  obtain ⟨m, hn, hl⟩ := I.loc
  obtain ⟨u, r, l⟩ := hl i x v hN e hv
  have fin : EP X pins σ Q u s := ⟨v, H, I, r, h⟩
  rcases l with ⟨hk, hm⟩ | ⟨hk, c, hc, hcell⟩
  · exact wpAny_Name (wpAny_loadName_local I.ok.kind hk hn hm fin) hd
  · rcases hk with hk | hk
    · exact wpAny_Name (wpAny_loadName_cell I.ok.kind hk hc hcell fin) hd
    · exact wpAny_Name (wpAny_loadName_free I.ok.kind hk hc hcell fin hcd) hd
def Gl (X : Cx) (x : Str) : Prop := X.env.kindOf x = some .globalImplicit
theorem ld_glob {E : Value → Shared → Prop} {pins : List (Addr × Obj)} {s : Shared} {σ : St} {H : Hp} {x : Str} {u : Value} {pos : Pos} {Q : Value → Shared → Prop} (I : Inv X pins σ H s) (hg : Gl X x) (hm : X.mg x = some u) (h : Q u s)
    (hd : (x == ("__debug__" : Str)) = false := by decide) : wpAny (model X.prog X.w) X.A (eval (.Name x pos) X.env) Q E s :=
  Calls.Name_function_global I.ok.kind hg (Calls.loadGlobal_global (by rw [I.ok.glob]; exact I.mod.glob.keeps I.bk) hm h) hd
theorem ld_blt {E : Value → Shared → Prop} {pins : List (Addr × Obj)} {s : Shared} {σ : St} {H : Hp} {x : Str} {u : Value} {pos : Pos} {Q : Value → Shared → Prop} (I : Inv X pins σ H s) (hg : Gl X x) (hm : X.mg x = none) (hv : bootBuiltins x = some u) (h : Q u s)
    (hn : x ≠ "__name__" := by decide) (hd : (x == ("__debug__" : Str)) = false := by decide) : wpAny (model X.prog X.w) X.A (eval (.Name x pos) X.env) Q E s := by
  obtain ⟨mb, h1, h2⟩ := I.mod.blt
  exact Calls.Name_function_global I.ok.kind hg (Calls.loadGlobal_builtin (by rw [I.ok.glob]; exact I.mod.glob.keeps I.bk) hm (by rw [I.ok.blt]; exact h1.keeps I.bk) ((h2 x hn).trans hv) h) hd
variable {a b : Expr} {ta tb : TE} {pos : Pos}
variable {tA tB' : TT} {rest : List Expr}
end
end L2
namespace L2
open PySem PySem.Spec PyProof.Rows
def SqL (K : PySem.W.Frag) (H : Hp) (a : Addr) (xs : List V) : Prop :=
  Rd H a (.lst xs) ∨
    ∃ (o : Obj) (its : Array Value) (n : Nat), K.lookup a = some o ∧ o.cls = .type "list" ∧ o.dict = none ∧ o.data = .seq its n ∧ its.size ≤ sizeLine ∧ Vals xs its.toList
def SqT (K : PySem.W.Frag) (H : Hp) (a : Addr) (xs : List V) : Prop :=
  Rd H a (.tup xs) ∨
    ∃ (o : Obj) (its : Array Value) (n : Nat), K.lookup a = some o ∧ o.cls = .type "tuple" ∧ o.data = .seq its n ∧ its.size ≤ sizeLine ∧ Vals xs its.toList
def absV : Value → Option V
  | .none => some .non
  | .bool b => some (.bl b)
  | .int i _ => some (.int i)
  | .str x _ => some (.str x)
  | .bytes b _ => some (.byt b)
  | .float b _ => some (.flt b)
  | .ref a => some (.ref a)
  | .type n => some (.ty n)
  | _ => none
theorem RelV.abs {x : V} {u : Value} (r : RelV x u) : absV u = some x := by
  cases x with
  | non => cases r; rfl
  | bl _ => cases r; rfl
  | int _ => obtain ⟨t, rfl⟩ := r; rfl
  | str _ => obtain ⟨t, rfl⟩ := r; rfl
  | byt _ => obtain ⟨t, rfl⟩ := r; rfl
  | flt _ => obtain ⟨t, rfl⟩ := r; rfl
  | ref _ => cases r; rfl
  | ty _ => cases r; rfl
theorem RelV.inj {x y : V} {u : Value} (r : RelV x u) (q : RelV y u) : x = y := Option.some.inj (r.abs.symm.trans q.abs)
theorem Vals.inj : ∀ {xs ys : List V} {us : List Value}, Vals xs us → Vals ys us → xs = ys
  | _, _, _, .nil, .nil => rfl
  | _, _, _, .cons r t, .cons r' t' => by rw [r.inj r', Vals.inj t t']
section
variable {X : Cx} {pins : List (Addr × Obj)} {σ : St} {H : Hp} {s : Shared} {a : Addr} {xs ys : List V}
theorem SqL.of {K : PySem.W.Frag} (h : H a = some (.lst xs)) : SqL K H a xs := .inl (.inl h)
theorem SqT.of {K : PySem.W.Frag} (h : H a = some (.tup xs)) : SqT K H a xs := .inl (.inl h)
theorem Inv.list (I : Inv X pins σ H s) (h : SqL X.K H a xs) : ∃ its : List Value, Vals xs its ∧ PlainL s.heap a its.toArray ∧ xs.length ≤ sizeLine := by
  rcases h with h | ⟨o, its, n, hk, hc, hd, hs, hz, r⟩
  · obtain ⟨z, its, n, r, e⟩ := h.ok I.hok
    exact ⟨its, r, ⟨_, n, e, rfl, rfl, rfl⟩, z⟩
  · refine ⟨its.toList, r, ⟨o, n, I.kIn a o hk, hc, hd, by simpa using hs⟩, ?_⟩
    have e := r.length
    simp only [Array.length_toList] at e
    omega
theorem Inv.tuple (I : Inv X pins σ H s) (h : SqT X.K H a xs) : ∃ its : List Value, Vals xs its ∧ IsTup s.heap a its.toArray ∧ xs.length ≤ sizeLine := by
  rcases h with h | ⟨o, its, n, hk, hc, hs, hz, r⟩
  · obtain ⟨z, its, r, p⟩ := h.ok I.hok
    exact ⟨its, r, p, z⟩
  · refine ⟨its.toList, r, ⟨o, I.kIn a o hk, hc, n, by simpa using hs⟩, ?_⟩
    have e := r.length
    simp only [Array.length_toList] at e
    omega
theorem Inv.list_inj (I : Inv X pins σ H s) (h : SqL X.K H a xs) (h' : SqL X.K H a ys) : xs = ys := by
  obtain ⟨its, r, ⟨o, n, e, _, _, d⟩, _⟩ := I.list h
  obtain ⟨its', r', ⟨o', n', e', _, _, d'⟩, _⟩ := I.list h'
  rw [e] at e'; cases e'
  rw [d] at d'
  injection d' with d1 _
  have : its = its' := by simpa using congrArg Array.toList d1
  subst this
  exact r.inj r'
theorem Inv.tuple_inj (I : Inv X pins σ H s) (h : SqT X.K H a xs) (h' : SqT X.K H a ys) : xs = ys := by
  obtain ⟨its, r, ⟨o, e, _, n, d⟩, _⟩ := I.tuple h
  obtain ⟨its', r', ⟨o', e', _, n', d'⟩, _⟩ := I.tuple h'
  rw [e] at e'; cases e'
  rw [d] at d'
  injection d' with d1 _
  have : its = its' := by simpa using congrArg Array.toList d1
  subst this
  exact r.inj r'
end
abbrev Cx.wish (X : Cx) (E : Value → Shared → Prop) : Cx := { X with xe := E }
abbrev Cx.nox (X : Cx) : Cx := X.wish fun _ _ => False
theorem Cx.Ok.wish {X : Cx} (ok : X.Ok) (E : Value → Shared → Prop) : (X.wish E).Ok :=
  ⟨ok.mod, ok.kind, ok.glob, ok.blt, ok.above, ok.inj, ok.has, ok.cab, ok.hd, ok.frames, ok.stk, ok.exf, ok.bs, ok.bsz, ok.noex, ok.exfs, ok.funs, ok.frf⟩
theorem Cx.Ok.unwish {X : Cx} {E : Value → Shared → Prop} (ok : (X.wish E).Ok) : X.Ok :=
  ⟨ok.mod, ok.kind, ok.glob, ok.blt, ok.above, ok.inj, ok.has, ok.cab, ok.hd, ok.frames, ok.stk, ok.exf, ok.bs, ok.bsz, ok.noex, ok.exfs, ok.funs, ok.frf⟩
section
variable {X : Cx} {pins : List (Addr × Obj)} {σ : St} {H : Hp} {s : Shared} {E : Value → Shared → Prop}
theorem Inv.wish (I : Inv X pins σ H s) (E : Value → Shared → Prop) : Inv (X.wish E) pins σ H s := ⟨I.ok.wish E, I.os, I.bare, I.base, I.loc, I.cell, I.free, I.freeC, I.pin, I.hok, I.len⟩
theorem Inv.unwish (I : Inv (X.wish E) pins σ H s) : Inv X pins σ H s := ⟨I.ok.unwish, I.os, I.bare, I.base, I.loc, I.cell, I.free, I.freeC, I.pin, I.hok, I.len⟩
theorem SP.unwish {D : Ends} {f : Flow} {s' : Shared} (h : SP (X.wish E) pins D f s') : SP X pins D f s' := by
  cases f with
  | next => obtain ⟨σ', H', I, q⟩ := h; exact ⟨σ', H', I.unwish, q⟩
  | brk => obtain ⟨σ', H', I, q⟩ := h; exact ⟨σ', H', I.unwish, q⟩
  | cont => obtain ⟨σ', H', I, q⟩ := h; exact ⟨σ', H', I.unwish, q⟩
  | ret u => obtain ⟨v, σ', H', I, r, q⟩ := h; exact ⟨v, σ', H', I.unwish, r, q⟩
theorem PE.nox {e : Expr} {t : TE} (h : PE X.nox e t) : PE X e t := fun pins s σ H Q I hw =>
  wpAny_mono (h pins s σ H Q (I.wish _) hw) (fun _ _ ⟨v, H', I', r, q⟩ => ⟨v, H', I'.unwish, r, q⟩) fun _ _ z => False.elim z
theorem PT.nox {e : Expr} {t : TT} (h : PT X.nox e t) : PT X e t := fun pins s σ H Q I hw =>
  wpAny_mono (h pins s σ H Q (I.wish _) hw) (fun _ _ ⟨H', I', q⟩ => ⟨H', I'.unwish, q⟩) fun _ _ z => False.elim z
theorem PSs.nox {st : List Stmt} {t : TS} (h : PSs X.nox st t) : PSs X st t := fun pins s σ H D I hw =>
  wpAny_mono (h pins s σ H D (I.wish _) hw) (fun _ _ q => q.unwish) fun _ _ z => False.elim z
end
section
variable {X : Cx} {st : Stmt} {rest : List Stmt} {t u : TS} {e : Expr} {te : TE} {pos : Pos}
theorem Inv.quiet {pins : List (Addr × Obj)} {σ : St} {H : Hp} {s : Shared} (I : Inv X pins σ H s) : interactive X.env = false := by simp [interactive, I.ok.kind]
end
abbrev TG := V → St → Hp → (St → Hp → Prop) → Prop
def PG (X : Cx) (target : Expr) (t : TG) : Prop :=
  ∀ (pins : List (Addr × Obj)) (s : Shared) (σ : St) (H : Hp) (v : V) (u : Value) (Q : St → Hp → Prop), Inv X pins σ H s → RelV v u → t v σ H Q →
    wpAny (model X.prog X.w) X.A (assign target X.env u) (fun _ s' => ∃ σ' H', Inv X pins σ' H' s' ∧ Q σ' H') X.xe s
abbrev TSet := V → V → V → Hp → (Hp → Prop) → Prop
def PSet (X : Cx) (t : TSet) : Prop :=
  ∀ (pins : List (Addr × Obj)) (s : Shared) (σ : St) (H : Hp) (o i v : V) (ov iv u : Value) (Q : Hp → Prop), Inv X pins σ H s → RelV o ov → RelV i iv → RelV v u → t o i v H Q →
    wpAny (model X.prog X.w) X.A (setItem ov iv u) (fun _ s' => ∃ H', Inv X pins σ H' s' ∧ Q H') X.xe s
section
variable {X : Cx} {pos : Pos}
def gName (i : Nat) : TG := fun v σ H Q => Q (σ.set i (some v)) H
theorem pg_name {i : Nat} {x : Str} (hN : X.N.Nodup) (hi : X.N[i]? = some x) (hx : Loc X.env.scope x) (hf : X.fn x = true ∨ X.env.scope.names.lookup x = some .local := by first | exact .inl rfl | exact .inr rfl | assumption) : PG X (.Name x pos) (gName i) := by
  intro pins s σ H v u Q I r h
  exact wpAny_assign_Name (store_ok I hN hi hx r (fun s' I' => ⟨_, H, I', h⟩) hf)
end
section
variable {X : Cx} {pos : Pos}
end
structure It where
  go : Nat → Hp → Prop
  yld : Nat → Hp → V → Hp → Prop
  stop : Nat → Hp → Prop
def FpOk (X : Cx) (pins : List (Addr × Obj)) (H : Hp) (b : Addr) : Prop :=
  H b = none ∧ b ≠ X.env.locals ∧ b ∉ X.fs ∧ (b ∈ X.ex ∨ X.s₀.heap.objs.size ≤ b) ∧ (∀ x c, X.env.cells.lookup x = some c → c ≠ b) ∧ ∀ p ∈ X.pn ++ pins, p.1 ≠ b
theorem Inv.fpOk {X : Cx} {pins : List (Addr × Obj)} {σ : St} {H H' : Hp} {s : Shared} {b : Addr} (I : Inv X pins σ H s) (hb : s.heap.objs.size ≤ b) (hn : H' b = none) : FpOk X pins H' b := by
  refine ⟨hn, Nat.ne_of_gt (Nat.lt_of_lt_of_le I.lt hb), I.nofs hb, .inr (Nat.le_trans I.sz hb), fun x c e z => ?_, fun p hp z => ?_⟩
  · obtain ⟨v, q⟩ := I.cell x c e
    exact absurd (Nat.lt_of_lt_of_le q.lt (by rw [z]; exact hb)) (Nat.lt_irrefl _)
  · exact absurd (Nat.lt_of_lt_of_le (Heap.lt_size (I.pin p hp).1) (by rw [z]; exact hb)) (Nat.lt_irrefl _)
structure Turn (P : Program) (w : World) (K : PySem.W.Frag) (tg : Expr) (J : It) (fp : List Addr) (it : Addr) (tn : Nat → Heap → Prop) : Prop where
  mem : it ∈ fp
  obj : ∀ i h, tn i h → ∀ b ∈ fp, ∃ o, h.get? b = some o ∧ ∀ v, o.data ≠ .cell v
  keep : ∀ i h h', tn i h → (∀ b ∈ fp, ∀ o, h.get? b = some o → h'.get? b = some o) → tn i h'
  item : ∀ (X : Cx), X.prog = P → X.w = w → X.K = K → X.calm = true → ∀ (i : Nat) (pins : List (Addr × Obj)) (s : Shared) (σ : St) (H : Hp) (E : Value → Shared → Prop), Inv X pins σ H s → (∀ b ∈ fp, FpOk X pins H b) → tn i s.heap → J.go i H →
    wpAny (model P w) X.A (pyNext (.ref it)) (fun r s1 => ∃ u, r = some u ∧
      wpAny (model P w) X.A (letOwnedTupleGo tg (.ref it) u) (fun _ s2 => ∃ x H', Inv X pins σ H' s2 ∧ RelV x u ∧ J.yld i H x H' ∧ tn (i + 1) s2.heap ∧ ∀ b ∈ fp, H' b = none) E s1) E s
  done : ∀ (X : Cx), X.prog = P → X.w = w → X.K = K → X.calm = true → ∀ (i : Nat) (pins : List (Addr × Obj)) (s : Shared) (σ : St) (H : Hp) (E : Value → Shared → Prop), Inv X pins σ H s → (∀ b ∈ fp, FpOk X pins H b) → tn i s.heap → J.stop i H →
    wpAny (model P w) X.A (pyNext (.ref it)) (fun r s1 => r = none ∧ Inv X pins σ H s1) E s
  self : ∀ (A : Around) (i : Nat) (s : Shared) (Q : Value → Shared → Prop) (E : Value → Shared → Prop), tn i s.heap → Q (.ref it) s → wpAny (model P w) A (pyIter (.ref it)) Q E s
def PIE (X : Cx) (pins : List (Addr × Obj)) (σ : St) (tg : Expr) (R : It → Hp → Prop) (itv : Value) (s2 : Shared) : Prop :=
  ∃ (it : Addr) (fp : List Addr) (tn : Nat → Heap → Prop) (J : It) (H' : Hp), itv = .ref it ∧ Inv X pins σ H' s2 ∧ Turn X.prog X.w X.K tg J fp it tn ∧ tn 0 s2.heap ∧ (∀ b ∈ fp, FpOk X pins H' b) ∧ R J H'
theorem go_of {M : Model} {A : Around} {E : Value → Shared → Prop} {s : Shared} {tg : Expr} {it : Addr} {u : Value} {o : Obj} {n : String} {vs : Array Value} {Q : Unit → Shared → Prop} (ho : s.heap.get? it = some o) (hc : o.cls = .type n) (hd : o.data = .fields vs)
    (hn : ["enumerate", "zip", "dict_itemiterator", "dict_reverseitemiterator", "odict_iterator", "itertools.zip_longest", "itertools.pairwise"].contains n = false) (hQ : Q () s) : wpAny M A (letOwnedTupleGo tg (.ref it) u) Q E s := by
  unfold letOwnedTupleGo
  cases tg <;> first
    | exact wpAny_pure hQ
    | (cases u <;> first
        | exact wpAny_pure hQ
        | (refine wpAny_bind (wpAny_load ho ?_)
           rw [hc, hd]
           show wpAny M A (if (["enumerate", "zip", "dict_itemiterator", "dict_reverseitemiterator", "odict_iterator", "itertools.zip_longest", "itertools.pairwise"].contains n && vs[0]? == some (rawInt _)) = true then _ else _) Q E s
           rw [if_neg (by intro h; rw [hn, Bool.false_and] at h; cases h)]
           exact wpAny_pure hQ))
def Itl (K : PySem.W.Frag) (a : Addr) : It :=
  ⟨fun i H => ∃ xs x, SqL K H a xs ∧ xs[i]? = some x, fun i H x H' => H' = H ∧ ∀ xs, SqL K H a xs → xs[i]? = some x, fun i H => ∃ xs, SqL K H a xs ∧ xs.length ≤ i⟩
def Itt (K : PySem.W.Frag) (a : Addr) : It :=
  ⟨fun i H => ∃ xs x, SqT K H a xs ∧ xs[i]? = some x, fun i H x H' => H' = H ∧ ∀ xs, SqT K H a xs → xs[i]? = some x, fun i H => ∃ xs, SqT K H a xs ∧ xs.length ≤ i⟩
theorem turn_list {P : Program} {w : World} {K : PySem.W.Frag} {tg : Expr} (a it : Addr) : Turn P w K tg (Itl K a) [it] it (fun i h => h.IsListIter it a i) where
  mem := by simp
  obj := fun i h st b hb => by
    have e : b = it := by simpa using hb
    subst e
    obtain ⟨o, e, c, d⟩ := st
    exact ⟨o, e, fun v z => by rw [d] at z; cases z⟩
  keep := fun i h h' st k => st.at fun o e => k it (by simp) o e
  item := by
    intro X hP hw hK hc i pins s σ H E I hf st hg
    subst hP hw hK
    obtain ⟨xs, x, hq, hx⟩ := hg
    obtain ⟨its, rv, p, hz⟩ := I.list hq
    obtain ⟨u, hu, ru⟩ := rv.get hx
    obtain ⟨f0, f1, f2, f3, f4, f5⟩ := hf it (by simp)
    refine wpAny_pyNext_list_item st p.isList (x := u) (by simpa using hu) fun h' st' sb => ?_
    have I1 : Inv X pins σ H { s with heap := h' } := I.turned (t' := s.toks) (fun b o hb e => (sb.2 b hb).trans e) f0 f1 f3 f4 f5
    obtain ⟨o, e, c, d⟩ := id st'
    exact ⟨u, rfl, go_of (s := { s with heap := h' }) e c d (by decide) ⟨x, H, I1, ru, ⟨rfl, fun ys hy => by rw [I.list_inj hy hq]; exact hx⟩, st', fun b hb => (hf b hb).1⟩⟩
  done := by
    intro X hP hw hK hc i pins s σ H E I hf st hg
    subst hP hw hK
    obtain ⟨xs, hq, hx⟩ := hg
    obtain ⟨its, rv, p, hz⟩ := I.list hq
    obtain ⟨f0, f1, f2, f3, f4, f5⟩ := hf it (by simp)
    have hl := rv.length
    exact wpAny_pyNext_list_end (I.ok.hd hc) st p.isList (by simp; omega) fun h' eb => ⟨rfl, I.turned (t' := s.toks) (fun b o hb e => eb b o hb e) f0 f1 f3 f4 f5⟩
  self := fun _ _ _ _ _ st h => wpAny_pyIter_listiter st h
theorem turn_tuple {P : Program} {w : World} {K : PySem.W.Frag} {tg : Expr} (a it : Addr) : Turn P w K tg (Itt K a) [it] it (fun i h => h.IsTupleIter it a i) where
  mem := by simp
  obj := fun i h st b hb => by
    have e : b = it := by simpa using hb
    subst e
    obtain ⟨o, e, c, d⟩ := st
    exact ⟨o, e, fun v z => by rw [d] at z; cases z⟩
  keep := fun i h h' st k => st.at fun o e => k it (by simp) o e
  item := by
    intro X hP hw hK hc i pins s σ H E I hf st hg
    subst hP hw hK
    obtain ⟨xs, x, hq, hx⟩ := hg
    obtain ⟨its, rv, p, hz⟩ := I.tuple hq
    obtain ⟨u, hu, ru⟩ := rv.get hx
    obtain ⟨f0, f1, f2, f3, f4, f5⟩ := hf it (by simp)
    refine wpAny_pyNext_tuple_item st (show s.heap.IsTuple a its.toArray from p) (x := u) (by simpa using hu) fun h' st' sb => ?_
    have I1 : Inv X pins σ H { s with heap := h' } := I.turned (t' := s.toks) (fun b o hb e => (sb.2 b hb).trans e) f0 f1 f3 f4 f5
    obtain ⟨o, e, c, d⟩ := id st'
    exact ⟨u, rfl, go_of (s := { s with heap := h' }) e c d (by decide) ⟨x, H, I1, ru, ⟨rfl, fun ys hy => by rw [I.tuple_inj hy hq]; exact hx⟩, st', fun b hb => (hf b hb).1⟩⟩
  done := by
    intro X hP hw hK hc i pins s σ H E I hf st hg
    subst hP hw hK
    obtain ⟨xs, hq, hx⟩ := hg
    obtain ⟨its, rv, p, hz⟩ := I.tuple hq
    obtain ⟨f0, f1, f2, f3, f4, f5⟩ := hf it (by simp)
    have hl := rv.length
    exact wpAny_pyNext_tuple_end (I.ok.hd hc) st (show s.heap.IsTuple a its.toArray from p) (by simp; omega) fun h' eb => ⟨rfl, I.turned (t' := s.toks) (fun b o hb e => eb b o hb e) f0 f1 f3 f4 f5⟩
  self := fun _ _ _ _ _ st h => wpAny_pyIter_tupleiter st h
end L2
namespace L2
open PySem PySem.Spec PyProof.Rows
section
variable {X : Cx} {tg : Expr}
def pinsAt (fp : List Addr) (h : Heap) : List (Addr × Obj) := fp.filterMap fun b => (h.get? b).map fun o => (b, o)
theorem mem_pinsAt {fp : List Addr} {h : Heap} {b : Addr} {o : Obj} (hb : b ∈ fp) (e : h.get? b = some o) : (b, o) ∈ pinsAt fp h := List.mem_filterMap.mpr ⟨b, hb, by rw [e]; rfl⟩
theorem of_pinsAt {fp : List Addr} {h : Heap} {p : Addr × Obj} (hp : p ∈ pinsAt fp h) : p.1 ∈ fp ∧ h.get? p.1 = some p.2 := by
  obtain ⟨b, hb, e⟩ := List.mem_filterMap.mp hp
  cases q : h.get? b with
  | none => rw [q] at e; cases e
  | some o =>
    rw [q] at e
    have e' : (b, o) = p := Option.some.inj e
    subst e'
    exact ⟨hb, q⟩
theorem Inv.pinned {pins : List (Addr × Obj)} {σ : St} {H : Hp} {s : Shared} {fp : List Addr} (I : Inv X pins σ H s) (hf : ∀ b ∈ fp, FpOk X pins H b) (ho : ∀ b ∈ fp, ∃ o, s.heap.get? b = some o ∧ ∀ v, o.data ≠ .cell v) : Inv X (pins ++ pinsAt fp s.heap) σ H s :=
  I.pins_of fun p hp => (List.mem_append.mp hp).elim (fun z => I.pin p (List.mem_append_right _ z)) fun z => by
    obtain ⟨hb, e⟩ := of_pinsAt z
    obtain ⟨f0, f1, f2, _⟩ := hf p.1 hb
    obtain ⟨o, e', d⟩ := ho p.1 hb
    rw [e] at e'; cases e'
    exact ⟨e, f0, f1, f2, d⟩
theorem Inv.unpinned {pins pl : List (Addr × Obj)} {σ : St} {H : Hp} {s : Shared} (I : Inv X (pins ++ pl) σ H s) : Inv X pins σ H s := I.pins_of fun p hp => I.pin p (List.mem_append_right _ (List.mem_append_left _ hp))
end
end L2
namespace L2
open PySem PySem.Spec PyProof.Rows
abbrev R2 := V → V → Hp → VK → Prop
def OpR (X : Cx) (f : Value → Value → Sem Value) (r : R2) : Prop :=
  ∀ (pins : List (Addr × Obj)) (s : Shared) (σ : St) (H : Hp) (x y : V) (v u : Value) (Q : VK), Inv X pins σ H s → RelV x v → RelV y u → r x y H Q →
    wpAny (model X.prog X.w) X.A (f v u) (EP X pins σ Q) X.xe s
def UnR (X : Cx) (f : Value → Sem Value) (r : V → Hp → VK → Prop) : Prop :=
  ∀ (pins : List (Addr × Obj)) (s : Shared) (σ : St) (H : Hp) (x : V) (v : Value) (Q : VK), Inv X pins σ H s → RelV x v → r x H Q →
    wpAny (model X.prog X.w) X.A (f v) (EP X pins σ Q) X.xe s
def CallR (X : Cx) (f : Value) (r : List V → Hp → VK → Prop) : Prop :=
  ∀ (pins : List (Addr × Obj)) (s : Shared) (σ : St) (H : Hp) (xs : List V) (us : List Value) (Q : VK), Inv X pins σ H s → Vals xs us → r xs H Q →
    wpAny (model X.prog X.w) X.A (call f us) (EP X pins σ Q) X.xe s
def TruR (X : Cx) (r : V → Hp → (Bool → Hp → Prop) → Prop) : Prop :=
  ∀ (pins : List (Addr × Obj)) (s : Shared) (σ : St) (H : Hp) (x : V) (v : Value) (Q : Bool → Hp → Prop), Inv X pins σ H s → RelV x v → r x H Q →
    wpAny (model X.prog X.w) X.A (truthy v) (TP X pins σ Q) X.xe s
def rI (C : Int → Int → Prop) (g : Int → Int → V) : R2 := fun x y H Q => ∃ i j, x = .int i ∧ y = .int j ∧ C i j ∧ Q (g i j) H
def rI0 (g : Int → Int → V) : R2 := fun x y H Q => ∃ i j, x = .int i ∧ y = .int j ∧ Q (g i j) H
def rU (g : Int → V) : V → Hp → VK → Prop := fun x H Q => ∃ i, x = .int i ∧ Q (g i) H
section
variable {X : Cx} {a b c : Expr} {ta tb tc : TE} {pos : Pos}
theorem opI {f : Value → Value → Sem Value} {C : Int → Int → Prop} {g : Int → Int → Int}
    (rule : ∀ (i j : Int) (t u : Tok) (s : Shared) (Q : Value → Shared → Prop) (E : Value → Shared → Prop), C i j → Q (.int (g i j) s.toks) { s with toks := s.toks + 1 } → wpAny (model X.prog X.w) X.A (f (.int i t) (.int j u)) Q E s) :
    OpR X f (rI C fun i j => .int (g i j)) := by
  intro pins s σ H x y v u Q I rx ry h
  obtain ⟨i, j, rfl, rfl, hc, q⟩ := h
  obtain ⟨t, rfl⟩ := rx
  obtain ⟨t', rfl⟩ := ry
  exact rule i j t t' s _ _ hc ⟨.int (g i j), H, I.tok _, ⟨_, rfl⟩, q⟩
theorem opB0 {f : Value → Value → Sem Value} {g : Int → Int → Bool}
    (rule : ∀ (i j : Int) (t u : Tok) (s : Shared) (Q : Value → Shared → Prop) (E : Value → Shared → Prop), Q (.bool (g i j)) s → wpAny (model X.prog X.w) X.A (f (.int i t) (.int j u)) Q E s) :
    OpR X f (rI0 fun i j => .bl (g i j)) := by
  intro pins s σ H x y v u Q I rx ry h
  obtain ⟨i, j, rfl, rfl, q⟩ := h
  obtain ⟨t, rfl⟩ := rx
  obtain ⟨t', rfl⟩ := ry
  exact rule i j t t' s _ _ ⟨.bl (g i j), H, I, rfl, q⟩
def CMul (i j : Int) : Prop := (-(2 ^ 64) < i ∧ i < 2 ^ 64) ∨ (-(2 ^ 64) < j ∧ j < 2 ^ 64)
theorem CMul.ok {i j : Int} (h : CMul i j) : IntMulOk i j := by
  rcases h with ⟨h1, h2⟩ | ⟨h1, h2⟩
  · exact .of_left (intBits_le_64 h1 h2)
  · exact .of_right (intBits_le_64 h1 h2)
theorem op_mul : OpR X (binaryOp .Mult) (rI CMul fun i j => .int (i * j)) := opI fun _ _ _ _ _ _ _ hc q => mul_int q hc.ok
theorem op_mod : OpR X (binaryOp .Mod) (rI (fun _ j => 0 < j) fun i j => .int (i % j)) := opI fun i j _ _ _ _ _ hc q => by
  have h1 : (0 : Int) < j := hc
  exact mod_int' (by omega) (by rw [Int.fmod_eq_emod_of_nonneg i (by omega)]; exact q)
theorem unI {f : Value → Sem Value} {g : Int → Int}
    (rule : ∀ (i : Int) (t : Tok) (s : Shared) (Q : Value → Shared → Prop) (E : Value → Shared → Prop), Q (.int (g i) s.toks) { s with toks := s.toks + 1 } → wpAny (model X.prog X.w) X.A (f (.int i t)) Q E s) :
    UnR X f (rU fun i => .int (g i)) := by
  intro pins s σ H x v Q I rx h
  obtain ⟨i, rfl, q⟩ := h
  obtain ⟨t, rfl⟩ := rx
  exact rule i t s _ _ ⟨.int (g i), H, I.tok _, ⟨_, rfl⟩, q⟩
theorem un_neg : UnR X (unaryOp .USub) (rU fun i => .int (-i)) := unI fun _ _ _ _ _ q => neg_int q
end
section
variable {X : Cx} {a b c : Expr} {ta tb tc : TE} {pos : Pos}
theorem op_lt : OpR X (compareOp .Lt) (rI0 fun i j => .bl (decide (i < j))) := opB0 fun _ _ _ _ _ _ _ q => lt_int q
theorem op_gt : OpR X (compareOp .Gt) (rI0 fun i j => .bl (decide (j < i))) := opB0 fun _ _ _ _ _ _ _ q => gt_int q
theorem op_ge : OpR X (compareOp .GtE) (rI0 fun i j => .bl (decide (j ≤ i))) := opB0 fun _ _ _ _ _ _ _ q => ge_int q
theorem OpR.or {f : Value → Value → Sem Value} {r r' : R2} (h : OpR X f r) (h' : OpR X f r') : OpR X f (fun x y H Q => r x y H Q ∨ r' x y H Q) := by
  intro pins s σ H x y v u Q I rx ry q
  rcases q with q | q
  · exact h pins s σ H x y v u Q I rx ry q
  · exact h' pins s σ H x y v u Q I rx ry q
theorem nomark (b : Expr) {op : CmpOp} (h : op ≠ .In := by decide) (h2 : op ≠ .NotIn := by decide) : behindInMarks op b = false := by
  have e1 : (op == CmpOp.In) = false := by cases op <;> first | rfl | exact absurd rfl h
  have e2 : (op == CmpOp.NotIn) = false := by cases op <;> first | rfl | exact absurd rfl h2
  cases b <;> simp [behindInMarks, e1, e2]
def TruV (K : PySem.W.Frag) (x : V) (H : Hp) (k : Bool) : Prop :=
  match x with
  | .non => k = false
  | .bl b => k = b
  | .int i => k = (i != 0)
  | .str y => y.length ≤ sizeLine ∧ k = ((y.length : Int) != 0)
  | .byt y => y.size ≤ sizeLine ∧ k = ((y.size : Int) != 0)
  | .ref p => (∃ xs, SqL K H p xs ∧ k = !xs.isEmpty) ∨ (∃ xs, SqT K H p xs ∧ k = !xs.isEmpty) ∨ ∃ kvs, H p = some (.dK kvs) ∧ k = !kvs.isEmpty
  | _ => False
theorem isEmpty_kv {κ : Type} {kvs : List (κ × V)} {vs : List (κ × Value)} (r : KV kvs vs) : (!vs.isEmpty) = !kvs.isEmpty := by
  cases r <;> rfl
theorem isEmpty_of {xs : List V} {its : List Value} (r : Vals xs its) : (!its.toArray.isEmpty) = !xs.isEmpty := by
  cases r <;> simp
theorem line63 : (sizeLine : Nat) < 2 ^ 63 := by rw [sizeLine_eq]; decide
theorem tru_ok : TruR X (fun x H Q => ∃ k, TruV X.K x H k ∧ Q k H) := by
  intro pins s σ H x v Q I rx h
  obtain ⟨k, e, q⟩ := h
  have hl := line63
  have hs : sizeLine = 16777216 := sizeLine_eq
  cases x with
  | non =>
    cases rx
    have e' : k = false := e
    subst e'
    exact truthy_none ⟨H, I, q⟩
  | bl b =>
    cases rx
    have e' : k = b := e
    subst e'
    exact wpAny_truthy_bool ⟨H, I, q⟩
  | int i =>
    obtain ⟨t, rfl⟩ := rx
    have e' : k = (i != 0) := e
    subst e'
    exact PySem.P.truthy_int ⟨H, I, q⟩
  | str y =>
    obtain ⟨t, rfl⟩ := rx
    obtain ⟨hy, e'⟩ : y.length ≤ sizeLine ∧ k = ((y.length : Int) != 0) := e
    subst e'
    exact PySem.P.truthy_str (by omega) ⟨H, I.tok _, q⟩
  | byt y =>
    obtain ⟨t, rfl⟩ := rx
    obtain ⟨hy, e'⟩ : y.size ≤ sizeLine ∧ k = ((y.size : Int) != 0) := e
    subst e'
    exact PySem.W.truthy_bytes (by omega) ⟨H, I.tok _, q⟩
  | ref p =>
    cases rx
    have e' : (∃ xs, SqL X.K H p xs ∧ k = !xs.isEmpty) ∨ (∃ xs, SqT X.K H p xs ∧ k = !xs.isEmpty) ∨ ∃ kvs, H p = some (.dK kvs) ∧ k = !kvs.isEmpty := e
    rcases e' with ⟨xs, hx, e'⟩ | ⟨xs, hx, e'⟩ | ⟨kvs, hx, e'⟩
    · subst e'
      obtain ⟨its, r, pl, hz⟩ := I.list hx
      have hlen := r.length
      exact wpAny_truthy_list pl.isList (by simp only [List.size_toArray]; omega) ⟨H, I.tok _, by rw [isEmpty_of r]; exact q⟩
    · subst e'
      obtain ⟨its, r, pl, hz⟩ := I.tuple hx
      have hlen := r.length
      exact truthy_tuple pl (by simp only [List.size_toArray]; omega) ⟨H, I.tok _, by rw [isEmpty_of r]; exact q⟩
    · subst e'
      obtain ⟨hz, hS, vs, r, m⟩ : kvs.length ≤ sizeLine ∧ (p == sysModules) = false ∧ ∃ vs, KV kvs vs ∧ s.heap.DictOf (mixKind X.prog X.w) p vs := I.hok p _ hx
      have hlen : kvs.length = vs.length := Paired.length r
      exact wpAny_truthy_dict hS m (by omega) ⟨H, I.tok _, by rw [isEmpty_kv r]; exact q⟩
  | _ => exact (show False from e).elim
theorem vals1 {x : V} {us : List Value} (r : Vals [x] us) : ∃ u, us = [u] ∧ RelV x u := by
  cases r with
  | cons r1 r2 => cases r2; exact ⟨_, rfl, r1⟩
theorem vals2 {x y : V} {us : List Value} (r : Vals [x, y] us) : ∃ u w', us = [u, w'] ∧ RelV x u ∧ RelV y w' := by
  cases r with
  | cons r1 r2 =>
    cases r2 with
    | cons r3 r4 => cases r4; exact ⟨_, _, rfl, r1, r3⟩
theorem call_max2 (hc : X.calm = true) : CallR X (.builtin "max") (fun xs H Q => ∃ i j, xs = [.int i, .int j] ∧ Q (.int (if j > i then j else i)) H) := by
  intro pins s σ H xs us Q I r h
  obtain ⟨i, j, rfl, q⟩ := h
  obtain ⟨u, w', rfl, ⟨t, rfl⟩, ⟨t', rfl⟩⟩ := vals2 r
  refine max_two_ints (I.ok.hd hc) fun h' tk k => ⟨_, H, I.kept k, ?_, q⟩
  by_cases hj : j > i
  · rw [if_pos hj, if_pos hj]; exact ⟨_, rfl⟩
  · rw [if_neg hj, if_neg hj]; exact ⟨_, rfl⟩
theorem call_int1 : CallR X (.type "int") (fun xs H Q => (∃ i, xs = [.int i] ∧ Q (.int i) H) ∨ ∃ k, xs = [.bl k] ∧ Q (.int (if k then 1 else 0)) H) := by
  intro pins s σ H xs us Q I r h
  rcases h with ⟨i, rfl, q⟩ | ⟨k, rfl, q⟩
  · obtain ⟨u, rfl, t, rfl⟩ := vals1 r
    exact call_int_int ⟨.int i, H, I, ⟨_, rfl⟩, q⟩
  · obtain ⟨u, rfl, r1⟩ := vals1 r
    cases r1
    exact call_int_bool ⟨.int (if k then 1 else 0), H, I.tok _, ⟨_, rfl⟩, q⟩
end
end L2
namespace L2
open PySem PySem.Spec PyProof.Rows
structure ObjM (h : Heap) (x dx C : Addr) (mA : Str → Option Value) : Prop where
  obj : h.get? x = some (PySem.W.instObj C dx)
  ns : h.Ns1 dx mA
  ne : dx ≠ x
theorem lookIn_ns {h : Heap} {dx : Addr} {mA : Str → Option Value} (n : h.Ns1 dx mA) : ∃ od, h.get? dx = some od ∧ ∀ name, PySem.W.lookIn name od = some (mA name) := by
  obtain ⟨o, es, ep, ho, hd, hk, _, hm⟩ := n
  refine ⟨o, ho, fun name => ?_⟩
  have e := hm name
  unfold nsFind findBy at e
  rw [← Array.find?_toList] at e
  unfold PySem.W.lookIn
  rw [hd]
  dsimp only
  split
  · rename_i y q
    rw [q] at e
    exact congrArg some e
  · rename_i q
    rw [q] at e
    have a : es.toList.any (·.refKey) = false := by
      rw [List.any_eq_false]
      intro y hy
      obtain ⟨z, t, hkey⟩ := hk y (Array.mem_toList_iff.mp hy)
      simp [DictEntry.refKey, hkey]
    have a' : ¬ es.toList.any (·.refKey) = true := by rw [a]; exact Bool.false_ne_true
    rw [if_neg a']
    exact congrArg some e
theorem ObjM.look {h : Heap} {x dx C : Addr} {mA : Str → Option Value} (I : ObjM h x dx C mA) : ∃ od, PySem.W.InstAt h x (PySem.W.instObj C dx) C (some od) ∧ ∀ name, PySem.W.lookIn name od = some (mA name) :=
  let ⟨od, ho, hl⟩ := lookIn_ns I.ns
  ⟨od, ⟨I.obj, rfl, rfl, ho⟩, hl⟩
section
variable {prog : Program} {w : World} {A : Around} {E : Value → Shared → Prop} {s : Shared} {K : PySem.W.Frag} {x dx C f : Addr} {mA : Str → Option Value} {name : Str} {v : Value}
end
def putF (f : Str) (v : V) : List (Str × V) → List (Str × V)
  | [] => [(f, v)]
  | (g, x) :: r => if g = f then (g, v) :: r else (g, x) :: putF f v r
section
variable {P : Program} {w : World} {H H' : Hp} {h h' : Heap} {a C dx : Addr} {fs fs' : List (Str × V)}
end
structure Cls (K : PySem.W.Frag) (C : Addr) : Prop where
  pg : PySem.W.plainGet K C Str.empty = true
  hd : PySem.W.hasDictIn K C = true
  po : PySem.W.plainOver K C = true
  sa : PySem.W.findIn K (.ref C) "__setattr__" = some (some (.builtin "object.__setattr__"))
theorem Cls.get {K : PySem.W.Frag} {C : Addr} (c : Cls K C) (f : Str) : PySem.W.plainGet K C f = true := c.pg
def NoAttr (K : PySem.W.Frag) (C : Addr) (f : Str) : Prop := PySem.W.findIn K (.ref C) f = some none
structure Con (K : PySem.W.Frag) (C : Addr) (f : Str) (v : V) (u : Value) : Prop where
  at_ : PySem.W.findIn K (.ref C) f = some (some u)
  rel : RelV v u
  get : PySem.W.specialIn K u "__get__" = some none
  cp : PySem.W.copiedNames.contains f = false
structure Meth (K : PySem.W.Frag) (C : Addr) (m : Str) (f : Addr) : Prop where
  at_ : PySem.W.findIn K (.ref C) m = some (some (.ref f))
  fn : PySem.W.isFn K (.ref f) = true
  kp : PySem.W.keepIn K (.ref f) = true
section
variable {X : Cx} {pins : List (Addr × Obj)} {σ : St} {H : Hp} {s : Shared} {a C dx : Addr} {fs : List (Str × V)} {f : Str} {v : V} {A : Around} {E : Value → Shared → Prop}
end
def sFld (K : PySem.W.Frag) (ta tv : TE) (f : Str) : TS := fun D σ H => tv σ H fun y H1 => ta σ H1 fun x H2 => ∃ a C dx fs, x = .ref a ∧ H2 a = some (.ins C dx fs) ∧ Cls K C ∧ NoAttr K C f ∧ fs.length < 1000 ∧
  D.nx σ (upd H2 a (.ins C dx (putF f y fs)))
section
variable {X : Cx} {o e value : Expr} {f : Str} {pos pos' tpos : Pos} {ta tv : TE}
end
section
variable {X : Cx} {pins : List (Addr × Obj)} {σ : St} {H : Hp} {s : Shared} {A : Around} {E : Value → Shared → Prop} {Q : Value → Shared → Prop} {c : Value} {b : Bool}
inductive TyOf (K : PySem.W.Frag) (H : Hp) : V → Value → Prop where
  | non : TyOf K H .non (.type "NoneType")
  | bl (x : Bool) : TyOf K H (.bl x) (.type "bool")
  | int (i : Int) : TyOf K H (.int i) (.type "int")
  | str (x : Str) : TyOf K H (.str x) (.type "str")
  | flt (x : UInt64) : TyOf K H (.flt x) (.type "float")
  | lst {a : Addr} {xs : List V} (e : H a = some (.lst xs)) : TyOf K H (.ref a) (.type "list")
  | frz {a : Addr} {o : Obj} {xs : List V} (e : H a = some (.frz o (.lst xs))) : TyOf K H (.ref a) (.type "list")
  | tup {a : Addr} {xs : List V} (e : H a = some (.tup xs)) : TyOf K H (.ref a) (.type "tuple")
  | dK {a : Addr} {kvs : List (Key × V)} (e : H a = some (.dK kvs)) : TyOf K H (.ref a) (.type "dict")
  | dT {a : Addr} {kvs : List (List Key × V)} (e : H a = some (.dT kvs)) : TyOf K H (.ref a) (.type "dict")
  | ins {a C dx : Addr} {fs : List (Str × V)} (e : H a = some (.ins C dx fs)) (cl : Cls K C) (ha : PySem.W.findIn K (.ref C) "__class__" = some (some (.builtin "object.__class__")))
      (hn : PySem.W.specialIn K (.builtin "object.__class__") "__get__" = some (some (.builtin "getset_descriptor.__get__"))) (htk : PySem.W.takesIn K (.builtin "object.__class__") = some true)
      (hm : PySem.W.mroIn K C (.type "object") = some true) : TyOf K H (.ref a) (.ref C)
end
end L2
namespace L2
open PySem PySem.Spec PyProof.Rows
structure Room (k : Nat) (A : Around) : Prop where
  hd : A.handled = none
  dp : A.depth + 3 * k + 5 < recursionLimit
  un : A.units + 16 * k + 200 < cLine
theorem Room.mono {j k : Nat} {A : Around} (r : Room k A) (h : j ≤ k) : Room j A := ⟨r.hd, by have := r.dp; omega, by have := r.un; omega⟩
theorem Room.deeper {k : Nat} {A : Around} (r : Room (k + 1) A) (env : Env) : Room k (A.deeper env) :=
  ⟨r.hd, by have := r.dp; show A.depth + 1 + 3 * k + 5 < _; omega, by have := r.un; show A.units + 3 + 16 * k + 200 < _; omega⟩
theorem Room.depth {k : Nat} {A : Around} (r : Room k A) : A.depth < recursionLimit := by have := r.dp; omega
theorem Room.units {k : Nat} {A : Around} (r : Room k A) : A.units + 64 < cLine := by have := r.un; omega
section
variable {X : Cx} {e : Expr} {es : List Expr} {te : TE} {t : TA} {pos : Pos}
end
abbrev Sp := List V → Hp → VK → XK → Prop
abbrev CXT := List Env → Hp → Shared → XK → Value → Shared → Prop
structure Env0 (P : Program) (w : World) (K : PySem.W.Frag) (mg : Str → Option Value) (base : Heap) (A : Around) (outer : List Env) (s : Shared) (H : Hp) : Prop where
  frames : A.frames = some outer
  mod : Mod K mg base
  bs : ∀ b o, base.get? b = some o → s.heap.get? b = some o ∧ H b = none
  bsz : base.objs.size ≤ s.heap.objs.size
  funs : s.heap.FunFrames base outer
  frf : ∀ b ∈ frs outer, H b = none
  hok : HOk P w H s.heap
  bare : AllBare s.gens
def CE (outer : List Env) (P : Program) (w : World) (H : Hp) (s : Shared) (Q : VK) (u : Value) (s' : Shared) : Prop :=
  ∃ v H', s'.os = s.os ∧ AllBare s'.gens ∧ Un (frs outer) [] H H' s.heap s'.heap ∧ HOk P w H' s'.heap ∧ RelV v u ∧ Q v H'
def CR (CX : CXT) (outer : List Env) (P : Program) (w : World) (H : Hp) (s : Shared) (Q : VK) (E : XK) (r : Result) (s' : Shared) : Prop :=
  match r with
  | .ok (.ret u) => CE outer P w H s Q u s'
  | .ok _ => False
  | .error e => CX outer H s E e s'
structure FnOk (P : Program) (w : World) (K : PySem.W.Frag) (mg : Str → Option Value) (base : Heap) (CX : CXT) (k : Nat) (f : Addr) (fd : FuncData) (ps : List Str) (sp : Sp) : Prop where
  len : ∀ vs H Q E, sp vs H Q E → vs.length = ps.length
  run : ∀ (A : Around) (outer : List Env) (s : Shared) (H : Hp) (args : Args) (us : List Value) (vs : List V) (Q : VK) (E : XK), Room k A → Env0 P w K mg base A outer s H → BindsTo s fd args (ps.zip us) → Vals vs us → sp vs H Q E →
    codeAny (model P w) A (.call (.ref f) args) (CR CX outer P w H s Q E) s
theorem FnOk.mono {P : Program} {w : World} {K : PySem.W.Frag} {mg : Str → Option Value} {base : Heap} {CX : CXT} {j k : Nat} {f : Addr} {fd : FuncData} {ps : List Str} {sp : Sp} (F : FnOk P w K mg base CX j f fd ps sp) (h : j ≤ k) :
    FnOk P w K mg base CX k f fd ps sp := ⟨F.len, fun A outer s H args us vs Q E hr => F.run A outer s H args us vs Q E (hr.mono h)⟩
theorem FnOk.imp {P : Program} {w : World} {K : PySem.W.Frag} {mg : Str → Option Value} {base : Heap} {CX : CXT} {k : Nat} {f : Addr} {fd : FuncData} {ps : List Str} {sp sp' : Sp} (F : FnOk P w K mg base CX k f fd ps sp)
    (h : ∀ vs H Q E, sp' vs H Q E → sp vs H Q E) : FnOk P w K mg base CX k f fd ps sp' :=
  ⟨fun vs H Q E q => F.len vs H Q E (h _ _ _ _ q), fun A outer s H args us vs Q E hr he hb hv hs => F.run A outer s H args us vs Q E hr he hb hv (h _ _ _ _ hs)⟩
section
variable {X : Cx} {pins : List (Addr × Obj)} {σ : St} {H : Hp} {s s' : Shared}
theorem Inv.env0 (I : Inv X pins σ H s) : Env0 X.prog X.w X.K X.mg X.base X.A X.stack s H :=
  ⟨I.ok.frames, I.ok.mod, I.bs, Nat.le_trans I.ok.bsz I.sz, I.stack, I.stkFree, I.hok, I.bare⟩
theorem Inv.after {Q : VK} {u : Value} (I : Inv X pins σ H s) (h : CE X.stack X.prog X.w H s Q u s') : EP X pins σ Q u s' := by
  obtain ⟨v, H', os, bare, un, hok, r, q⟩ := h
  obtain ⟨hh, g, d, t, os'⟩ := s'
  obtain rfl : os' = s.os := os
  exact ⟨v, H', I.call (h' := hh) (g' := g) (d' := d) (t' := t) (ch := []) un hok bare (fun b z => absurd z (by simp)), r, q⟩
end
def Binds (K : PySem.W.Frag) (fd : FuncData) (ps : List Str) (ds : List Value) : Prop :=
  ∀ (s : Shared) (us : List Value), K.In s.heap → (us ++ ds).length = ps.length → BindsTo s fd ⟨us, []⟩ (ps.zip (us ++ ds))
theorem Binds.all {K : PySem.W.Frag} {fd : FuncData} {ps : List Str} (h : ∀ us : List Value, us.length = ps.length → bindArgs fd ⟨us, []⟩ = pure (ps.zip us)) : Binds K fd ps [] := fun s us _ hl => by
  rw [List.append_nil] at hl ⊢
  exact .of_eq (h us hl)
section
variable {X : Cx} {CX : CXT} {k : Nat} {f C : Addr} {fd : FuncData} {ps : List Str} {sp : Sp} {dvs : List V} {ds : List Value} {E : XK} {x m : Str} {p pos apos : Pos} {e o : Expr} {es : List Expr} {ta : TE} {t : TA}
structure Mk (K : PySem.W.Frag) (C f : Addr) : Prop where
  makes : PySem.W.makesIn K C = true
  init : PySem.W.findIn K (.ref C) "__init__" = some (some (.ref f))
  fn : PySem.W.isFn K (.ref f) = true
  kp : PySem.W.keepIn K (.ref C) = true
end
section
variable {X : Cx} {CX : CXT} {k : Nat} {f C : Addr} {fd : FuncData} {ps ks : List Str} {sp : Sp} {E : XK} {x m : Str} {p pos apos kpos : Pos} {e o : Expr} {es : List Expr} {kws : List Keyword} {te ta : TE} {t tk : TA} {nm : Option Str}
structure KBinds (K : PySem.W.Frag) (fd : FuncData) (ps ks : List Str) (g : List Value → List Value → List Value) (gV : List V → List V → List V) : Prop where
  to : ∀ (s : Shared) (us ws : List Value), K.In s.heap → (g us ws).length = ps.length → BindsTo s fd ⟨us, ks.zip ws⟩ (ps.zip (g us ws))
  rel : ∀ {vs : List V} {us : List Value} {zs : List V} {ws : List Value}, Vals vs us → Vals zs ws → Vals (gV vs zs) (g us ws)
variable {g : List Value → List Value → List Value} {gV : List V → List V → List V}
end
structure FnScope (N P : List Str) (sc : Scope) : Prop where
  kind : sc.kind = .function
  co : sc.isCoroutine = false
  gen : sc.isGenerator = false
  nd : N.Nodup
  pre : N.take P.length = P
  par : ∀ x ∈ P, sc.names.lookup x = some .local ∨ sc.names.lookup x = some .cell
  nofree : ∀ y ∈ sc.names, y.2 ≠ .free
theorem bindL_out {kindOf : Str → Option NameKind} {x : Str} : ∀ {binds : List (Str × Value)} {m : Str → Option Value}, (∀ v, (x, v) ∉ binds) → bindL kindOf binds m x = m x
  | [], _, _ => rfl
  | (n, v) :: r, m, h => by
    unfold bindL
    rw [bindL_out fun w hw => h w (List.mem_cons_of_mem _ hw)]
    split
    · have : x ≠ n := by rintro rfl; exact h v List.mem_cons_self
      simp [this]
    · rfl
theorem bindC_out {kindOf : Str → Option NameKind} {x : Str} : ∀ {binds : List (Str × Value)} {m : Str → Option Value}, (∀ v, (x, v) ∉ binds) → bindC kindOf binds m x = m x
  | [], _, _ => rfl
  | (n, v) :: r, m, h => by
    unfold bindC
    rw [bindC_out fun w hw => h w (List.mem_cons_of_mem _ hw)]
    split
    · rfl
    · have : x ≠ n := by rintro rfl; exact h v List.mem_cons_self
      simp [this]
theorem bindL_get {kindOf : Str → Option NameKind} {x : Str} {v : Value} : ∀ {P : List Str} {vs : List Value} {i : Nat} {m : Str → Option Value}, P.Nodup → P[i]? = some x → vs[i]? = some v → kindOf x = some .local →
    bindL kindOf (P.zip vs) m x = some v
  | [], _, _, _, _, h, _, _ => by simp at h
  | _ :: _, [], _, _, _, _, h, _ => by simp at h
  | p :: P, w :: vs, 0, m, nd, h1, h2, hk => by
    simp at h1 h2; subst h1; subst h2
    show bindL kindOf ((p, w) :: P.zip vs) m p = _
    unfold bindL
    rw [bindL_out fun v hv => (List.nodup_cons.mp nd).1 (List.of_mem_zip hv).1, if_pos hk]
    simp
  | p :: P, w :: vs, i + 1, m, nd, h1, h2, hk => by
    show bindL kindOf ((p, w) :: P.zip vs) m x = _
    unfold bindL
    exact bindL_get (i := i) (List.nodup_cons.mp nd).2 (by simpa using h1) (by simpa using h2) hk
theorem bindC_get {kindOf : Str → Option NameKind} {x : Str} {v : Value} : ∀ {P : List Str} {vs : List Value} {i : Nat} {m : Str → Option Value}, P.Nodup → P[i]? = some x → vs[i]? = some v → kindOf x ≠ some .local →
    bindC kindOf (P.zip vs) m x = some v
  | [], _, _, _, _, h, _, _ => by simp at h
  | _ :: _, [], _, _, _, _, h, _ => by simp at h
  | p :: P, w :: vs, 0, m, nd, h1, h2, hk => by
    simp at h1 h2; subst h1; subst h2
    show bindC kindOf ((p, w) :: P.zip vs) m p = _
    unfold bindC
    rw [bindC_out fun v hv => (List.nodup_cons.mp nd).1 (List.of_mem_zip hv).1, if_neg hk]
    simp
  | p :: P, w :: vs, i + 1, m, nd, h1, h2, hk => by
    show bindC kindOf ((p, w) :: P.zip vs) m x = _
    unfold bindC
    exact bindC_get (i := i) (List.nodup_cons.mp nd).2 (by simpa using h1) (by simpa using h2) hk
def start (N : List Str) (vs : List V) : St := vs.map some ++ List.replicate (N.length - vs.length) none
def cxOf (CX : CXT) (P : Program) (w : World) (K : PySem.W.Frag) (mg : Str → Option Value) (base : Heap) (N : List Str) (qual : Str) (scope : Scope) (f : Addr) (cd : Value) (A : Around) (outer : List Env) (s : Shared) (H : Hp) (E : XK) : Cx where
  prog := P
  w := w
  K := K
  mg := mg
  base := base
  A := A.deeper (envOfC qual scope s.heap.objs.size f cd)
  N := N
  s₀ := s
  H₀ := H
  env := envOfC qual scope s.heap.objs.size f cd
  outer := outer
  stack := envOfC qual scope s.heap.objs.size f cd :: outer
  ex := []
  calm := true
  fn := fun _ => true
  pn := []
  xe := fun e s' => wpAny (model P w) (A.deeper (envOfC qual scope s.heap.objs.size f cd)) (leaving (envOfC qual scope s.heap.objs.size f cd) e) (fun _ s'' => CX outer H s E e s'') (fun e' s'' => CX outer H s E e' s'') s'
theorem cell_has {sc : Scope} {n : Nat} {x : Str} (h : sc.names.lookup x = some .cell) : ∃ c, (cellsFrom n sc.names []).lookup x = some c := by
  have q := PySem.W.cellsFrom_some sc.names n [] (.inl h)
  exact Option.isSome_iff_exists.mp q
theorem inv_start {CX : CXT} {P : Program} {w : World} {K : PySem.W.Frag} {mg : Str → Option Value} {base : Heap} {N ps : List Str} {qual : Str} {scope : Scope} {f : Addr} {cd : Value} {A : Around} {outer : List Env} {s s1 : Shared} {H : Hp} {E : XK} {us : List Value} {vs : List V}
    (S : FnScope N ps scope) (hd : A.handled = none) (e0 : Env0 P w K mg base A outer s H) (hl : vs.length = ps.length) (r : Vals vs us)
    (x : InCallC s s.heap.objs.size (bindL (envOfC qual scope s.heap.objs.size f cd).kindOf (ps.zip us) fun _ => none) (cellsFrom (s.heap.objs.size + 1) scope.names []) (bindC (envOfC qual scope s.heap.objs.size f cd).kindOf (ps.zip us) fun _ => none) s1) :
    Inv (cxOf CX P w K mg base N qual scope f cd A outer s H E) [] (start N vs) H s1 := by
  have hpl : ps.length ≤ N.length := by have := congrArg List.length S.pre; rw [List.length_take] at this; omega
  obtain ⟨h1, tk, rfl, hk⟩ := x.done
  have noA : ∀ b : Addr, b ∉ (cxOf CX P w K mg base N qual scope f cd A outer s H E).ex := fun b z => absurd (show b ∈ ([] : List Addr) from z) (by simp)
  refine ⟨⟨e0.mod, S.kind, rfl, rfl, Nat.le_refl _, fun y z c h1 h2 => ?_, fun y hy => ?_, fun y c _ h => ?_, fun _ => hd, Around.frames_deeper e0.frames, .inr ⟨rfl, rfl⟩, fun b z => absurd z (noA b), e0.bs, e0.bsz, fun b _ _ => noA b, fun b z => absurd z (noA b), e0.funs, e0.frf⟩,
    rfl, e0.bare, Un.kept hk, ⟨_, x.toInCall.ns, fun i y v h1 h2 h3 => ?_⟩, fun y c h => ⟨_, x.cell y c h⟩, e0.hok.fresh (Nat.le_refl _), fun y c h => ?_, fun p hp => absurd (show p ∈ ([] : List (Addr × Obj)) from hp) (by simp), e0.hok.kept hk, ?_⟩
  · exact name_of_addr x.apart (PySem.mem_of_lookup h1) (PySem.mem_of_lookup h2)
  · have hy : scope.names.lookup y = some .cell ∨ scope.names.lookup y = some .free := hy
    rcases hy with hy | hy
    · exact cell_has hy
    · exact absurd rfl (S.nofree _ (PySem.mem_of_lookup hy))
  · exact Nat.le_of_lt (x.above y c (PySem.mem_of_lookup h))
  · have hi : i < vs.length := by
      unfold start at h2
      by_cases hi : i < vs.length
      · exact hi
      · rw [List.getElem?_append_right (by simpa using hi)] at h2
        rw [List.getElem?_replicate] at h2
        split at h2 <;> cases h2
    have ha : vs[i]? = some v := by
      unfold start at h2
      rw [List.getElem?_append_left (by simpa using hi), List.getElem?_map] at h2
      cases e : vs[i]? with
      | none => rw [e] at h2; cases h2
      | some a => rw [e] at h2; cases h2; rfl
    obtain ⟨u, hu, rv⟩ := r.get ha
    have hp : ps[i]? = some y := by
      rw [← S.pre, List.getElem?_take_of_lt (by omega)]; exact h1
    have ndP : ps.Nodup := by rw [← S.pre]; exact S.nd.sublist (List.take_sublist _ _)
    refine ⟨u, rv, ?_⟩
    rcases S.par y (List.mem_of_getElem? hp) with k | k
    · exact .inl ⟨k, bindL_get ndP hp hu k⟩
    · obtain ⟨c, e⟩ := cell_has (n := s.heap.objs.size + 1) k
      refine .inr ⟨.inl k, c, e, ?_⟩
      have q := x.cell y c e
      rw [bindC_get ndP hp hu (by show scope.names.lookup y ≠ _; rw [k]; decide)] at q
      exact q
  · exact e0.hok.fresh (Nat.le_of_lt (x.above y c (PySem.mem_of_lookup h)))
  · unfold start
    show _ = N.length
    rw [List.length_append, List.length_map, List.length_replicate]
    omega
theorem fn_of {CX : CXT} {P : Program} {w : World} {K : PySem.W.Frag} {mg : Str → Option Value} {base : Heap} {k : Nat} {f : Addr} {name qual : Str} {params : Arguments} {body : List Stmt} {scope : Scope} {dV kV doc pm cdv ct oc : Value} {an od : Option Addr}
    {osl : Array (Option Value)} {N ps : List Str} {sp : Sp} (lk : K.lookup f = some ⟨oc, od, .func (PySem.W.fnOf name qual params body scope dV kV doc pm an cdv ct), osl⟩) (hcd : PySem.W.codeIn K cdv qual = true) (S : FnScope N ps scope)
    (len : ∀ vs H Q E, sp vs H Q E → vs.length = ps.length)
    (hbody : ∀ (A : Around) (outer : List Env) (s : Shared) (H : Hp) (vs : List V) (Q : VK) (E : XK), Room k (A.deeper (envOfC qual scope s.heap.objs.size f cdv)) → sp vs H Q E →
      ∃ t, PSs (cxOf CX P w K mg base N qual scope f cdv A outer s H E) body t ∧ t { nx := fun _ H' => Q .non H', rt := Q } (start N vs) H) :
    FnOk P w K mg base CX (k + 1) f (PySem.W.fnOf name qual params body scope dV kV doc pm an cdv ct) ps sp := by
  refine ⟨len, fun A outer s H args us vs Q E hr e0 hb r hsp => ?_⟩
  have hl := len _ _ _ _ hsp
  have KX : K.In s.heap := e0.mod.kin.keeps fun b o e => (e0.bs b o e).1
  have lim : s.heap.NoLimit := e0.mod.nolimit.keeps fun b o e => (e0.bs b o e).1
  have hkind : ∀ y ∈ ps.zip us, scope.names.lookup y.1 = some .local ∨ (scope.names.lookup y.1 = some .cell ∧ ((cellsFrom (s.heap.objs.size + 1) scope.names []).lookup y.1).isSome = true) := fun ⟨n, v⟩ hy => by
    rcases S.par n (List.of_mem_zip hy).1 with q | q
    · exact .inl q
    · exact .inr ⟨q, PySem.W.cellsFrom_some _ _ _ (.inl q)⟩
  refine codeAny_call_function hr.depth (KX _ _ lk) rfl S.co S.gen rfl (PySem.W.codeRec_of KX hcd) (hb _ _ _ _ ?_)
  refine wpAny_newFunctionEnv_cells S.kind hkind fun env he s1 x => ?_
  subst he
  refine ⟨lim.keeps x.toInCall.keep, codeAny_func ?_⟩
  obtain ⟨t, ht, hq⟩ := hbody A outer s H vs Q E (hr.deeper _) hsp
  have I : Inv (cxOf CX P w K mg base N qual scope f cdv A outer s H E) [] (start N vs) H s1 := inv_start S hr.hd e0 hl r x
  refine wpAny_mono (ht [] s1 (start N vs) H _ I hq) (fun fl s' hs => ?_) fun e s' hs => hs
  have fin : ∀ {σ' : St} {H' : Hp} {v : V} {u : Value}, Inv (cxOf CX P w K mg base N qual scope f cdv A outer s H E) [] σ' H' s' → RelV v u → Q v H' → CE outer P w H s Q u s' :=
    fun {σ' H' v u} J rv q => ⟨v, H', J.os, J.bare, J.base, J.hok, rv, q⟩
  cases fl with
  | ret u =>
    obtain ⟨v, σ', H', J, rv, q⟩ := hs
    exact fin J rv q
  | next =>
    obtain ⟨σ', H', J, q⟩ := hs
    exact fin (v := V.non) (u := Value.none) J rfl q
  | brk =>
    obtain ⟨_, _, _, q⟩ := hs
    exact False.elim q
  | cont =>
    obtain ⟨_, _, _, q⟩ := hs
    exact False.elim q
end L2
namespace L2
open PySem PySem.Spec PyProof.Rows
section
variable {X : Cx} {x : Str} {p pos : Pos} {e : Expr} {es : List Expr} {t : TA} {id T : String} {r : List V → Hp → VK → Prop}
end
end L2
namespace HT
open PySem PyProof.Rows
section
open PySem.SeqAt
open PySem.AutoSeq1 (wpAny_loadPart')
open PySem.MeetsSeq PySem.MeetsSeq2 PySem.MeetsSeq3
end
section
variable {prog : Program} {w : World} {A : Around} {E : Value → Shared → Prop} {s : Shared}
theorem cat_tup {t b : Addr} {vs ws : List Value} {Q : Value → Shared → Prop} (ht : IsTup s.heap t vs.toArray) (hb : IsTup s.heap b ws.toArray) (hv : vs ≠ [])
    (h1 : ws = [] → Q (.ref t) s) (h2 : ws ≠ [] → Q (.ref s.heap.objs.size) { s with heap := s.heap.push { cls := .type "tuple", data := .seq (vs ++ ws).toArray } })
    (hsz : vs.length + ws.length ≤ sizeLine) : wpAny (model prog w) A (binaryOp .Add (.ref t) (.ref b)) Q E s := by
  obtain ⟨⟨cls, dd, data, sl⟩, ho, hc, n, hd⟩ := id ht
  obtain ⟨⟨cls2, dd2, data2, sl2⟩, ho2, hc2, n2, hd2⟩ := id hb
  simp only at hc hd hc2 hd2
  subst hc hd hc2 hd2
  have e : vs.toArray ++ ws.toArray = (vs ++ ws).toArray := by simp
  by_cases hw : ws = []
  · exact concat_meets ⟨_, ho, rfl⟩ ⟨_, ho2, rfl⟩ noFill_tuple_add seq_tuple_add PySem.F.slot_tuple_add PySem.F.entry_tuple_add (PySem.F.args_tuple_add_2 _ _)
      (tuple_addW1 t b vs.toArray ws.toArray n n2 dd dd2 sl sl2 (by simpa using hv) (by simp [hw])) ⟨ho, ho2, h1 hw⟩
  · refine concat_meets ⟨_, ho, rfl⟩ ⟨_, ho2, rfl⟩ noFill_tuple_add seq_tuple_add PySem.F.slot_tuple_add PySem.F.entry_tuple_add (PySem.F.args_tuple_add_2 _ _)
      (tuple_addW2 t b vs.toArray ws.toArray n n2 dd dd2 sl sl2 (by simpa using hv) (by simpa using hw) (by rw [List.size_toArray, List.size_toArray]; exact hsz)) ⟨ho, ho2, ?_⟩
    rw [e]
    exact h2 hw
def sIx (n d : Nat) : Option Int → Nat
  | none => d
  | some v => if v < 0 then (v + (n : Int)).toNat else min v.toNat n
theorem sIx_none (n d : Nat) : sIx n d none = d := rfl
theorem sIx_nat (n d k : Nat) : sIx n d (some (k : Int)) = min k n := by
  show (if (k : Int) < 0 then ((k : Int) + (n : Int)).toNat else min (k : Int).toNat n) = min k n
  rw [if_neg (by omega), Int.toNat_natCast]
theorem sIx_le (n d : Nat) (hd : d ≤ n) (o : Option Int) : sIx n d o ≤ n := by
  cases o with
  | none => exact hd
  | some v =>
    show (if v < 0 then (v + (n : Int)).toNat else min v.toNat n) ≤ n
    by_cases hv : v < 0
    · rw [if_pos hv]; omega
    · rw [if_neg hv]; exact Nat.min_le_right _ _
theorem clip_eq (v : Int) (n d : Nat) : (if v < 0 then max (v + (n : Int)) 0 else min v (n : Int)) = ((sIx n d (some v) : Nat) : Int) := by
  show (if v < 0 then max (v + (n : Int)) 0 else min v (n : Int)) = (((if v < 0 then (v + (n : Int)).toNat else min v.toNat n) : Nat) : Int)
  by_cases hv : v < 0
  · simp only [if_pos hv]; omega
  · simp only [if_neg hv]; omega
theorem adjust_gen (lo hi : Option Int) (n : Nat) : Builtin.Slice.sliceAdjust lo hi 1 (n : Int) = (((sIx n 0 lo : Nat) : Int), ((sIx n n hi : Nat) : Int)) := by
  have h1 : ¬ ((1 : Int) < 0) := by omega
  unfold Builtin.Slice.sliceAdjust
  simp only [h1, if_false]
  refine Prod.ext ?_ ?_
  · cases lo with
    | none => rfl
    | some v => exact clip_eq v n 0
  · cases hi with
    | none => rfl
    | some v => exact clip_eq v n n
theorem places_gen (i j : Nat) : Builtin.Slice.slicePlaces (i : Int) (j : Int) 1 = j - i := by
  unfold Builtin.Slice.slicePlaces
  have h1 : (1 : Int) > 0 := by omega
  simp only [h1, if_true, Int.ediv_one]
  split <;> omega
theorem slicePart_ {v : Value} {o : Option Int} {Q : Option Int → Shared → Prop} (p : IsPart v o) (h : Q o s) : wpAny (model prog w) A (Builtin.Slice.slicePartIndex v) Q E s := by
  cases p with
  | none => exact slicePart_none h
  | int i t => exact slicePart_int h
theorem sliceApplied_gen {sl : Addr} {vl vu : Value} {lo hi : Option Int} {n : Nat} {Q : Int × Int × Nat → Shared → Prop} (hs : s.heap.IsSliceOf sl vl vu .none) (pl : IsPart vl lo) (pu : IsPart vu hi)
    (h : Q (((sIx n 0 lo : Nat) : Int), 1, sIx n n hi - sIx n 0 lo) s) : wpAny (model prog w) A (Builtin.Slice.sliceApplied (.ref sl) (pure (n : Int))) Q E s := by
  obtain ⟨os, hos, hcs, hds⟩ := id hs
  unfold Builtin.Slice.sliceApplied Builtin.Slice.sliceFields
  refine wpAny_bind (wpAny_bind (wpAny_field hos hds (x := vl) rfl (wpAny_bind (wpAny_field hos hds (x := vu) rfl (wpAny_bind (wpAny_field hos hds (x := .none) rfl (wpAny_pure ?_)))))))
  refine wpAny_bind (slicePart_none ?_)
  show wpAny _ _ (if ((1 : Int) == 0) = true then _ else _) _ _ s
  rw [if_neg (by decide)]
  refine wpAny_bind (slicePart_ pl (wpAny_bind (slicePart_ pu (wpAny_bind (wpAny_pure ?_)))))
  show wpAny _ _ (match Builtin.Slice.sliceAdjust lo hi 1 (n : Int) with | (lo, hi) => pure (lo, (1 : Int), Builtin.Slice.slicePlaces lo hi 1)) _ _ s
  rw [adjust_gen lo hi n]
  show wpAny _ _ (pure (((sIx n 0 lo : Nat) : Int), (1 : Int), Builtin.Slice.slicePlaces ((sIx n 0 lo : Nat) : Int) ((sIx n n hi : Nat) : Int) 1)) _ _ s
  rw [places_gen]
  exact wpAny_pure h
theorem pick_gen (xs : Array Value) (i k : Nat) : ((List.range k).filterMap fun (m : Nat) => xs[((i : Int) + (m : Int) * 1).toNat]?).toArray = ((xs.toList.drop i).take k).toArray := by
  have e : (fun (m : Nat) => xs[((i : Int) + (m : Int) * 1).toNat]?) = fun m => xs[i + m]? := by
    funext m
    have : ((i : Int) + (m : Int) * 1).toNat = i + m := by omega
    rw [this]
  rw [e]
  have := pick_run xs i k
  rw [List.filterMap_map] at this
  have e2 : ((fun x => xs[x]?) ∘ fun x => i + x) = fun m => xs[i + m]? := rfl
  rw [e2] at this
  rw [this]
theorem getItem_tuple_cut {t sl : Addr} {items : Array Value} {vl vu : Value} {lo hi : Option Int} {Q : Value → Shared → Prop} (ht : IsTup s.heap t items) (hs : s.heap.IsSliceOf sl vl vu .none) (pl : IsPart vl lo) (pu : IsPart vu hi)
    (hw : ¬ (sIx items.size 0 lo = 0 ∧ sIx items.size items.size hi = items.size))
    (h : Q (.ref s.heap.objs.size) { s with heap := s.heap.push { cls := .type "tuple", data := .seq ((items.toList.drop (sIx items.size 0 lo)).take (sIx items.size items.size hi - sIx items.size 0 lo)).toArray } })
    (hsz : items.size ≤ sizeLine) : wpAny (model prog w) A (getItem (.ref t) (.ref sl)) Q E s := by
  have htake : sizeOk (.seq ((items.toList.drop (sIx items.size 0 lo)).take (sIx items.size items.size hi - sIx items.size 0 lo)).toArray) := by
    show ((items.toList.drop (sIx items.size 0 lo)).take (sIx items.size items.size hi - sIx items.size 0 lo)).toArray.size ≤ sizeLine
    rw [List.size_toArray, List.length_take, List.length_drop, Array.length_toList]
    omega
  have hj : sIx items.size items.size hi ≤ items.size := sIx_le _ _ (Nat.le_refl _) hi
  obtain ⟨os, hos, hcs, hds⟩ := id hs
  have hTs : s.TypeIs (.ref sl) "slice" := ⟨os, hos, hcs⟩
  unfold getItem
  try with_reducible refine wpAny_holding ?_
  first | refine wpAny_bind (wpAny_pure ?_) | skip
  refine wpAny_bind (wpAny_sequenceKey ht.typeIs (by decide) ?_)
  refine wpAny_bind (wpAny_callSpecial?_slot (name := Str.ofString "__getitem__") ht.typeIs PyProof.Rows.slot_tuple_getitem
    (wpAny_call_entry PyProof.Rows.slot_tuple_getitem ht.typeIs entry_tuple_getitem ?_ (args_tuple_getitem _ _)))
  show wpAny _ _ (Builtin.Tuple.tupleItemsOf (.ref t) >>= _) _ _ s
  refine wpAny_bind (tupleItemsOf_ ht ?_)
  refine wpAny_bind (wpAny_typeOf hTs ?_)
  rw [if_pos (by decide)]
  refine wpAny_bind (sliceApplied_gen hs pl pu ?_)
  have hno : ¬ ((((sIx items.size 0 lo : Nat) : Int) == 0 && (1 : Int) == 1 && (sIx items.size items.size hi - sIx items.size 0 lo) == items.size) = true) := by
    intro q
    rw [Bool.and_eq_true, Bool.and_eq_true] at q
    have q1 : ((sIx items.size 0 lo : Nat) : Int) = 0 := eq_of_beq q.1.1
    have q2 : sIx items.size items.size hi - sIx items.size 0 lo = items.size := eq_of_beq q.2
    exact hw ⟨by omega, by omega⟩
  show wpAny _ _ (if (((sIx items.size 0 lo : Nat) : Int) == 0 && (1 : Int) == 1 && (sIx items.size items.size hi - sIx items.size 0 lo) == items.size) = true then _ else _) _ _ s
  rw [if_neg hno, pick_gen]
  first
    | exact wpAny_bind (m := Builtin.Tuple.tupleExact _) (wpAny_newObj_type (wpAny_pure ⟨_, rfl, wpAny_pure h⟩) htake)
    | exact wpAny_bind (m := Builtin.Tuple.tupleExact _) (wpAny_newObj_type (wpAny_bind (wpAny_pure (wpAny_pure ⟨_, rfl, wpAny_pure h⟩))) htake)
    | exact wpAny_bind (wpAny_bind (m := Builtin.Tuple.tupleExact _) (wpAny_newObj_type (wpAny_pure (wpAny_pure ⟨_, rfl, wpAny_pure h⟩)) htake))
    | exact wpAny_bind (wpAny_bind (m := Builtin.Tuple.tupleExact _) (wpAny_newObj_type (wpAny_pure ⟨_, rfl, wpAny_pure h⟩) htake))
end
end HT
namespace L2
open PySem PySem.Spec PyProof.Rows
abbrev TO := St → Hp → (Option Int → Hp → Prop) → Prop
section
variable {X : Cx} {e : Expr} {te : TE} {lo hi : Option Expr} {tl th : TO} {pos p2 : Pos}
def SlR (X : Cx) (r : V → Option Int → Option Int → Hp → VK → Prop) : Prop :=
  ∀ (pins : List (Addr × Obj)) (s : Shared) (σ : St) (H : Hp) (x : V) (v vl vu : Value) (lo hi : Option Int) (sl : Addr) (Q : VK), Inv X pins σ H s → RelV x v → s.heap.IsSliceOf sl vl vu .none → IsPart vl lo → IsPart vu hi → r x lo hi H Q →
    ∃ T id, typeLookup (.type T) "__getitem__" = pure (some (.builtin id)) ∧ s.TypeIs v T ∧ wpAny (model X.prog X.w) X.A (getItem v (.ref sl)) (EP X pins σ Q) X.xe s
theorem SlR.or {r r' : V → Option Int → Option Int → Hp → VK → Prop} (h : SlR X r) (h' : SlR X r') : SlR X (fun x lo hi H Q => r x lo hi H Q ∨ r' x lo hi H Q) := by
  intro pins s σ H x v vl vu lo hi sl Q I rx hs pl pu q
  rcases q with q | q
  · exact h pins s σ H x v vl vu lo hi sl Q I rx hs pl pu q
  · exact h' pins s σ H x v vl vu lo hi sl Q I rx hs pl pu q
def cutV (xs : List V) (lo hi : Option Int) : List V := (xs.drop (HT.sIx xs.length 0 lo)).take (HT.sIx xs.length xs.length hi - HT.sIx xs.length 0 lo)
theorem cutV_length (xs : List V) (lo hi : Option Int) : (cutV xs lo hi).length ≤ xs.length := by
  unfold cutV
  rw [List.length_take, List.length_drop]
  omega
theorem Vals.nil_iff {xs : List V} {us : List Value} (r : Vals xs us) : us = [] ↔ xs = [] := by
  cases r with
  | nil => simp
  | cons _ _ => simp
end
end L2
namespace L2
open PySem PySem.Spec PyProof.Rows
def ixN (n : Nat) (i : Int) : Option Nat := if 0 ≤ i then (if i < n then some i.toNat else none) else if -(n : Int) ≤ i then some (i + n).toNat else none
def atI {α : Type} (xs : List α) (i : Int) : Option α := (ixN xs.length i).bind fun j => xs[j]?
theorem ixN_seq {n : Nat} {i : Int} {j : Nat} (h : ixN n i = some j) : seqIndex? i n = some j ∧ j < n ∧ -(n : Int) ≤ i ∧ i < n := by
  unfold ixN at h
  by_cases h0 : 0 ≤ i
  · rw [if_pos h0] at h
    by_cases h1 : i < n
    · rw [if_pos h1] at h
      have e : i.toNat = j := Option.some.inj h
      exact ⟨by rw [seqIndex_of h0 h1, e], by omega, by omega, h1⟩
    · rw [if_neg h1] at h; cases h
  · rw [if_neg h0] at h
    by_cases h1 : -(n : Int) ≤ i
    · rw [if_pos h1] at h
      have e : (i + n).toNat = j := Option.some.inj h
      exact ⟨by rw [seqIndex_neg (by omega) h1, e], by omega, h1, by omega⟩
    · rw [if_neg h1] at h; cases h
theorem atI_get {α : Type} {xs : List α} {i : Int} {v : α} (h : atI xs i = some v) : ∃ j, seqIndex? i xs.length = some j ∧ xs[j]? = some v ∧ j < xs.length ∧ -(xs.length : Int) ≤ i ∧ i < xs.length := by
  unfold atI at h
  cases e : ixN xs.length i with
  | none => rw [e] at h; cases h
  | some j =>
    rw [e] at h
    obtain ⟨h1, h2, h3, h4⟩ := ixN_seq e
    exact ⟨j, h1, h, h2, h3, h4⟩
theorem atI_nat {α : Type} {xs : List α} {j : Nat} {v : α} (h : xs[j]? = some v) : atI xs (j : Int) = some v := by
  have hj : j < xs.length := (List.getElem?_eq_some_iff.mp h).1
  have e : ixN xs.length (j : Int) = some j := by
    unfold ixN
    rw [if_pos (by omega), if_pos (by omega)]; simp
  unfold atI; rw [e]; exact h
def PlainIx (b : Expr) : Prop := ∀ o i, subscripted b false o i = operate [o, i] (getItem o i)
def IxR (X : Cx) (r : R2) : Prop :=
  ∀ (value slice : Expr) (pins : List (Addr × Obj)) (s : Shared) (σ : St) (H : Hp) (x y : V) (v u : Value) (Q : VK), Inv X pins σ H s → RelV x v → RelV y u → r x y H Q →
    subscripted slice false v u = operate [v, u] (getItem v u) → wpAny (model X.prog X.w) X.A (subscriptTail value slice v u) (EP X pins σ Q) X.xe s
def MtR (X : Cx) (id : String) (r : V → List V → Hp → VK → Prop) : Prop :=
  ∀ (pins : List (Addr × Obj)) (s : Shared) (σ : St) (H : Hp) (x : V) (xs : List V) (v : Value) (us : List Value) (Q : VK), Inv X pins σ H s → RelV x v → Vals xs us → r x xs H Q →
    wpAny (model X.prog X.w) X.A (call (.builtin id) (v :: us)) (EP X pins σ Q) X.xe s
section
variable {X : Cx} {a b : Expr} {ta tb : TE} {pos : Pos}
theorem IxR.or {r r' : R2} (h : IxR X r) (h' : IxR X r') : IxR X (fun x y H Q => r x y H Q ∨ r' x y H Q) := by
  intro value slice pins s σ H x y v u Q I rx ry q hs
  rcases q with q | q
  · exact h value slice pins s σ H x y v u Q I rx ry q hs
  · exact h' value slice pins s σ H x y v u Q I rx ry q hs
theorem MtR.or {id : String} {r r' : V → List V → Hp → VK → Prop} (h : MtR X id r) (h' : MtR X id r') : MtR X id (fun x xs H Q => r x xs H Q ∨ r' x xs H Q) := by
  intro pins s σ H x xs v us Q I rx rs q
  rcases q with q | q
  · exact h pins s σ H x xs v us Q I rx rs q
  · exact h' pins s σ H x xs v us Q I rx rs q
def rIxL (K : PySem.W.Frag) : R2 := fun x y H Q => ∃ p xs i v, x = .ref p ∧ y = .int i ∧ SqL K H p xs ∧ atI xs i = some v ∧ Q v H
def rIxT (K : PySem.W.Frag) : R2 := fun x y H Q => ∃ p xs i v, x = .ref p ∧ y = .int i ∧ SqT K H p xs ∧ atI xs i = some v ∧ Q v H
theorem ix_list : IxR X (rIxL X.K) := by
  intro value slice pins s σ H x y v u Q I rx ry h hs
  obtain ⟨p, xs, i, z, rfl, rfl, hq, he, q⟩ := h
  cases rx
  obtain ⟨t, rfl⟩ := ry
  obtain ⟨its, r, pl, hz⟩ := I.list hq
  obtain ⟨j, h1, h2, h3, h4, h5⟩ := atI_get he
  obtain ⟨w, ew, rw'⟩ := r.get h2
  have hl := r.length
  have hn := line63
  have fin : EP X pins σ Q w s := ⟨z, H, I, rw', q⟩
  by_cases h0 : 0 ≤ i
  · have hj : i.toNat = j := by
      rw [seqIndex_of h0 h5] at h1
      exact Option.some.inj h1
    exact item_listR pl.isList h0 (by omega) (by rw [hj]; simpa using ew) fin hs
  · have hj : (i + (its.toArray.size : Int)).toNat = j := by
      rw [seqIndex_neg (by omega) h4] at h1
      rw [List.size_toArray, ← hl]
      exact Option.some.inj h1
    exact subscriptTail_builtinR (x := w) pl.isList.typeIs slot_list_getitem.lookup
      (wpAny_getItem_list_neg (Q := fun r s' => r = w ∧ EP X pins σ Q r s') pl.isList (by omega) (by rw [List.size_toArray] <;> omega) (by omega) (by rw [hj]; simpa using ew) ⟨rfl, fin⟩) hs
theorem ix_tup : IxR X (rIxT X.K) := by
  intro value slice pins s σ H x y v u Q I rx ry h hs
  obtain ⟨p, xs, i, z, rfl, rfl, hq, he, q⟩ := h
  cases rx
  obtain ⟨t, rfl⟩ := ry
  obtain ⟨its, r, pl, hz⟩ := I.tuple hq
  obtain ⟨j, h1, h2, h3, h4, h5⟩ := atI_get he
  obtain ⟨w, ew, rw'⟩ := r.get h2
  have hl := r.length
  have hn := line63
  have fin : EP X pins σ Q w s := ⟨z, H, I, rw', q⟩
  exact subscriptTail_builtinR (x := w) pl.typeIs slot_tuple_getitem.lookup
    (getItem_tuple (j := j) (Q := fun r s' => r = w ∧ EP X pins σ Q r s') pl (by omega) (by omega) (by rw [List.size_toArray, ← hl]; exact h1) (by simpa using ew) ⟨rfl, fin⟩) hs
theorem mapSeq_set (its : List Value) (n j : Nat) (u : Value) : Obj.mapSeq (·.setIfInBounds j u) { cls := .type "list", data := .seq its.toArray n } = { cls := .type "list", data := .seq (its.set j u).toArray n } := by
  simp [Obj.mapSeq]
theorem Inv.lst {pins : List (Addr × Obj)} {σ : St} {H : Hp} {s : Shared} {p : Addr} {xs : List V} (I : Inv X pins σ H s) (h : H p = some (.lst xs)) :
    ∃ (its : List Value) (n : Nat), Vals xs its ∧ s.heap.get? p = some { cls := .type "list", data := .seq its.toArray n } ∧ xs.length ≤ sizeLine := by
  obtain ⟨z, its, n, r, e⟩ := I.hok p _ h
  exact ⟨its, n, r, e, z⟩
theorem Inv.lstUpd {pins : List (Addr × Obj)} {σ : St} {H : Hp} {s : Shared} {p : Addr} {xs ys : List V} {its its' : List Value} {n n' : Nat} {f : Obj → Obj} (I : Inv X pins σ H s) (h : H p = some (.lst xs))
    (ho : s.heap.get? p = some { cls := .type "list", data := .seq its.toArray n }) (hf : f { cls := .type "list", data := .seq its.toArray n } = { cls := .type "list", data := .seq its'.toArray n' }) (r : Vals ys its') (hz : ys.length ≤ sizeLine) (t : Nat) :
    Inv X pins σ (upd H p (.lst ys)) { s with heap := s.heap.update p f, toks := t } := by
  have e : (s.heap.update p f).get? p = some { cls := .type "list", data := .seq its'.toArray n' } := by
    rw [Heap.get?_update_self f ho (by rw [hf] <;> rfl), hf]
  refine I.write (x := p) (e := p) (by rw [h]; trivial) (.inl rfl) (fun b u hb q => (Heap.get?_update_other _ _ (Ne.symm hb)).trans q) ⟨_, e⟩ ?_
  exact ⟨hz, its', n', r, e⟩
def rSetL : V → V → V → Hp → (Hp → Prop) → Prop := fun o i v H Q => ∃ p xs k j, o = .ref p ∧ i = .int k ∧ H p = some (.lst xs) ∧ ixN xs.length k = some j ∧ Q (upd H p (.lst (xs.set j v)))
theorem set_list : PSet X rSetL := by
  intro pins s σ H o i v ov iv u Q I ro ri rv h
  obtain ⟨p, xs, k, j, rfl, rfl, hp, hj, q⟩ := h
  cases ro
  obtain ⟨t, rfl⟩ := ri
  obtain ⟨its, n, r, ho, hz⟩ := I.lst hp
  obtain ⟨h1, h2, h3, h4⟩ := ixN_seq hj
  have hl := r.length
  have hn := line63
  have I' : Inv X pins σ (upd H p (.lst (xs.set j v))) { s with heap := s.heap.update p (Obj.mapSeq (·.setIfInBounds j u)) } :=
    I.lstUpd hp ho (mapSeq_set its n j u) (r.set rv j) (by rw [List.length_set]; exact hz) s.toks
  by_cases h0 : 0 ≤ k
  · have hk : k.toNat = j := by
      rw [seqIndex_of h0 h4] at h1
      exact Option.some.inj h1
    exact PySem.W.ki_setAt ho h0 (by omega) (by rw [List.size_toArray, ← hl]; exact h4) (by rw [hk]; exact ⟨_, I', q⟩)
  · have hk : (k + (its.toArray.size : Int)).toNat = j := by
      rw [seqIndex_neg (by omega) h3] at h1
      rw [List.size_toArray, ← hl]
      exact Option.some.inj h1
    exact PySem.W.ki_setBack ho (by omega) (by rw [List.size_toArray, ← hl]; exact h3) (by omega) (by rw [hk]; exact ⟨_, I', q⟩)
theorem slice_bounds (lo hi : Option Int) (n : Nat) : (sliceBounds lo hi none n).1 = ((HT.sIx n 0 lo : Nat) : Int) ∧ (sliceBounds lo hi none n).2.1 = ((HT.sIx n n hi : Nat) : Int) ∧ (sliceBounds lo hi none n).2.2 = 1 := by
  refine ⟨?_, ?_, rfl⟩
  · cases lo with
    | none => simp [sliceBounds, HT.sIx]
    | some i =>
      simp only [sliceBounds, HT.sIx, Option.getD_none, show (1 : Int) > 0 by decide, if_true]
      by_cases h : i < 0
      · simp only [h, if_true] <;> omega
      · simp only [h, if_false] <;> omega
  · cases hi with
    | none => simp [sliceBounds, HT.sIx]
    | some i =>
      simp only [sliceBounds, HT.sIx, Option.getD_none, show (1 : Int) > 0 by decide, if_true]
      by_cases h : i < 0
      · simp only [h, if_true] <;> omega
      · simp only [h, if_false] <;> omega
theorem slicePick_cut (its : List Value) (lo hi : Option Int) : slicePick its.toArray lo hi none = ((its.drop (HT.sIx its.length 0 lo)).take (HT.sIx its.length its.length hi - HT.sIx its.length 0 lo)).toArray := by
  obtain ⟨h1, h2, h3⟩ := slice_bounds lo hi its.toArray.size
  unfold slicePick
  rw [h1, h2, h3]
  simp only [sliceRange_one, pick_run, List.size_toArray] <;> rfl
def rSlL (K : PySem.W.Frag) : V → Option Int → Option Int → Hp → VK → Prop := fun x lo hi H Q => ∃ a xs, x = .ref a ∧ SqL K H a xs ∧ ∀ p, H p = none → Q (.ref p) (upd H p (.lst (cutV xs lo hi)))
theorem sl_list : SlR X (rSlL X.K) := by
  intro pins s σ H x v vl vu lo hi sl Q I rx hs pl pu h
  obtain ⟨a, xs, rfl, hx, q⟩ := h
  cases rx
  obtain ⟨its, r, ht, hz⟩ := I.list hx
  have hlen := r.length
  refine ⟨"list", _, slot_list_getitem.lookup, ht.isList.typeIs, ?_⟩
  refine wpAny_getItem_list_slice ht.isList hs pl pu .none (by simp) ?_ (by rw [List.size_toArray] <;> omega)
  rw [slicePick_cut, ← hlen]
  refine ⟨.ref s.heap.objs.size, _, I.laid (t' := s.toks) (o := .lst (cutV xs lo hi)) (fun b ob q => Heap.get?_push_of_some _ q) (Nat.le_refl _) ?_, rfl, q _ (I.hok.fresh (Nat.le_refl _))⟩
  exact ⟨Nat.le_trans (cutV_length xs lo hi) hz, _, 0, (r.drop (HT.sIx xs.length 0 lo)).take (HT.sIx xs.length xs.length hi - HT.sIx xs.length 0 lo), Heap.get?_push_size _ rfl⟩
theorem call_len_seq : CallR X (.builtin "len") (fun xs H Q => ∃ p ys, xs = [.ref p] ∧ (SqL X.K H p ys ∨ SqT X.K H p ys) ∧ Q (.int ys.length) H) := by
  intro pins s σ H xs us Q I r h
  obtain ⟨p, ys, rfl, hq, q⟩ := h
  obtain ⟨u, rfl, rx⟩ := vals1 r
  cases rx
  have hn := line63
  rcases hq with hq | hq
  · obtain ⟨its, r', pl, hz⟩ := I.list hq
    have hlen := r'.length
    exact Calls.call_len_list pl.isList (by simp only [List.size_toArray] <;> omega) ⟨.int ys.length, H, I.tok _, ⟨s.toks + 1, by rw [List.size_toArray, hlen]⟩, q⟩
  · obtain ⟨its, r', pl, hz⟩ := I.tuple hq
    have hlen := r'.length
    exact len_tuple pl (by simp only [List.size_toArray] <;> omega) ⟨.int ys.length, H, I.tok _, ⟨s.toks + 1, by rw [List.size_toArray, hlen]⟩, q⟩
theorem CallR.or {f : Value} {r r' : List V → Hp → VK → Prop} (h : CallR X f r) (h' : CallR X f r') : CallR X f (fun xs H Q => r xs H Q ∨ r' xs H Q) := by
  intro pins s σ H xs us Q I rs q
  rcases q with q | q
  · exact h pins s σ H xs us Q I rs q
  · exact h' pins s σ H xs us Q I rs q
theorem call_list_of : CallR X (.type "list") (fun xs H Q => ∃ p ys, xs = [.ref p] ∧ (SqL X.K H p ys ∨ SqT X.K H p ys) ∧ ∀ l, H l = none → Q (.ref l) (upd H l (.lst ys))) := by
  intro pins s σ H xs us Q I r h
  obtain ⟨p, ys, rfl, hq, q⟩ := h
  obtain ⟨u, rfl, rx⟩ := vals1 r
  cases rx
  have fin : ∀ (its : List Value), Vals ys its → ys.length ≤ sizeLine → ∀ (h' : Heap) (c' : Nat), (∀ b o', s.heap.get? b = some o' → h'.get? b = some o') →
      h'.get? s.heap.objs.size = some { cls := .type "list", dict := none, data := .seq its.toArray c', slots := #[] } → EP X pins σ Q (.ref s.heap.objs.size) { s with heap := h' } := fun its r' hz h' c' kp e =>
    ⟨.ref s.heap.objs.size, _, I.laid (t' := s.toks) kp (Nat.le_refl _) (show ObjOk X.prog X.w _ h' _ (.lst ys) from ⟨hz, its, c', r', e⟩), rfl, q _ (I.hok.fresh (Nat.le_refl _))⟩
  rcases hq with hq | hq
  · obtain ⟨its, r', pl, hz⟩ := I.list hq
    have hlen := r'.length
    obtain ⟨o, ho, hc, n, hd⟩ := pl.isList
    exact call_list_seq p (.inl rfl) ho hc hd (fun h' c' kp e => fin its r' hz h' c' kp e) (by simp only [List.size_toArray] <;> omega)
  · obtain ⟨its, r', pl, hz⟩ := I.tuple hq
    have hlen := r'.length
    obtain ⟨o, ho, hc, n, hd⟩ := pl
    exact call_list_seq p (.inr rfl) ho hc hd (fun h' c' kp e => fin its r' hz h' c' kp e) (by simp only [List.size_toArray] <;> omega)
theorem call_tuple_of : CallR X (.type "tuple") (fun xs H Q => ∃ p ys, xs = [.ref p] ∧ ((SqL X.K H p ys ∧ ∀ l, H l = none → Q (.ref l) (upd H l (.tup ys))) ∨ (SqT X.K H p ys ∧ Q (.ref p) H))) := by
  intro pins s σ H xs us Q I r h
  obtain ⟨p, ys, rfl, h⟩ := h
  obtain ⟨u, rfl, rx⟩ := vals1 r
  cases rx
  rcases h with ⟨hq, q⟩ | ⟨hq, q⟩
  · obtain ⟨its, r', pl, hz⟩ := I.list hq
    have hlen := r'.length
    refine call_tuple_list pl.isList (fun h' kp => ?_) (by simp only [List.size_toArray] <;> omega)
    have I1 : Inv X pins σ H { s with heap := h' } := I.kept (t' := s.toks) kp
    have I2 : Inv X pins σ (upd H h'.objs.size (.tup ys)) { s with heap := h'.push { cls := .type "tuple", data := .seq its.toArray } } :=
      I1.laid (t' := s.toks) (fun b o e => Heap.get?_push_of_some _ e) (Nat.le_refl _) (show ObjOk X.prog X.w _ _ _ (.tup ys) from ⟨hz, its, r', IsTup.new _ _⟩)
    exact ⟨.ref h'.objs.size, _, I2, rfl, q _ (I1.hok.fresh (Nat.le_refl _))⟩
  · obtain ⟨its, r', pl, hz⟩ := I.tuple hq
    exact call_tuple_same pl ⟨.ref p, H, I, rfl, q⟩
def tyV (K : PySem.W.Frag) (T : String) (x : V) (H : Hp) : Prop := match x with
  | .str _ => T = "str"
  | .int _ => T = "int"
  | .ref p => (T = "list" ∧ ∃ xs, SqL K H p xs) ∨ (T = "tuple" ∧ ∃ o, K.lookup p = some o ∧ o.cls = .type "tuple" ∧ o.dict = none) ∨
      (T = "dict" ∧ ((∃ kvs, H p = some (.dK kvs)) ∨ ∃ kvs, H p = some (.dT kvs))) ∨ (T = "set" ∧ ∃ S n, H p = some (.set S n))
  | _ => False
theorem tyV_is {pins : List (Addr × Obj)} {σ : St} {H : Hp} {s : Shared} {T : String} {x : V} {v : Value} (I : Inv X pins σ H s) (r : RelV x v) (ty : tyV X.K T x H) :
    s.TypeIs v T ∧ ∀ a, v = .ref a → ∃ ob, s.heap.get? a = some ob ∧ ob.dict = none := by
  cases x with
  | str z =>
    obtain ⟨t, rfl⟩ := r
    cases (show T = "str" from ty)
    exact ⟨typeIs_str s z t, fun _ e => nomatch e⟩
  | int i =>
    obtain ⟨t, rfl⟩ := r
    cases (show T = "int" from ty)
    exact ⟨typeIs_int s i t, fun _ e => nomatch e⟩
  | ref p =>
    cases r
    rcases ty with ⟨rfl, xs, hq⟩ | ⟨rfl, o, hk, hc, hd⟩ | ⟨rfl, hk⟩ | ⟨rfl, S, n, hk⟩
    · obtain ⟨its, _, pl, _⟩ := I.list hq
      refine ⟨pl.isList.typeIs, fun a e => ?_⟩
      cases e
      obtain ⟨o, n, e, c, hd, _⟩ := pl
      exact ⟨o, e, hd⟩
    · refine ⟨⟨o, I.kIn p o hk, hc⟩, fun a e => ?_⟩
      cases e
      exact ⟨o, I.kIn _ o hk, hd⟩
    · have z : ∃ o, s.heap.get? p = some o ∧ o.ExactDict := by
        rcases hk with ⟨kvs, hk⟩ | ⟨kvs, hk⟩
        · obtain ⟨_, _, _, _, o, _, _, e, ex, _⟩ := I.hok p _ hk
          exact ⟨o, e, ex⟩
        · obtain ⟨_, _, _, _, o, _, _, e, ex, _⟩ := I.hok p _ hk
          exact ⟨o, e, ex⟩
      obtain ⟨o, e, ex⟩ := z
      refine ⟨⟨o, e, ex.1⟩, fun a e2 => ?_⟩
      cases e2
      exact ⟨o, e, ex.2.1⟩
    · obtain ⟨o, _, _, _, e, ex, _⟩ := I.hok p _ hk
      refine ⟨⟨o, e, ex.1⟩, fun a e2 => ?_⟩
      cases e2
      exact ⟨o, e, ex.2.1⟩
  | _ => exact False.elim ty
variable {o e : Expr} {es : List Expr} {to : TE} {t : TA} {name : Str} {apos cpos : Pos} {T id : String} {r : V → List V → Hp → VK → Prop}
end
end L2
namespace L2
open PySem PySem.Spec PyProof.Rows
def MtM (X : Cx) (id : String) (r : V → List V → Hp → VK → Prop) : Prop :=
  ∀ (pins : List (Addr × Obj)) (s : Shared) (σ : St) (H : Hp) (x : V) (xs : List V) (v : Value) (us : List Value) (Q : VK), Inv X pins σ H s → RelV x v → Vals xs us → r x xs H Q →
    wpAny (model X.prog X.w) X.A (call (.builtin id) (v :: us)) (EP X pins σ Q) X.xe s
theorem Vals.one : ∀ {x : V} {us : List Value}, Vals [x] us → ∃ u, us = [u] ∧ RelV x u
  | _, _, .cons r .nil => ⟨_, rfl, r⟩
theorem Vals.two : ∀ {x y : V} {us : List Value}, Vals [x, y] us → ∃ u v, us = [u, v] ∧ RelV x u ∧ RelV y v
  | _, _, _, .cons r (.cons q .nil) => ⟨_, _, rfl, r, q⟩
theorem Vals.zero : ∀ {us : List Value}, Vals [] us → us = []
  | _, .nil => rfl
theorem Vals.rep {xs : List V} {us : List Value} (h : Vals xs us) : ∀ k : Nat, Vals (List.replicate k xs).flatten (List.replicate k us).flatten
  | 0 => .nil
  | k + 1 => by
    rw [List.replicate_succ, List.replicate_succ, List.flatten_cons, List.flatten_cons]
    exact Vals.append h (Vals.rep h k)
theorem foldl_rep (its : List Value) : ∀ (k : Nat) (acc : List Value),
    List.foldl (fun x1 x2 => x1 ++ x2) acc.toArray (List.replicate k its.toArray) = (acc ++ (List.replicate k its).flatten).toArray
  | 0, acc => by simp
  | k + 1, acc => by
    have e : acc.toArray ++ its.toArray = (acc ++ its).toArray := by simp
    have e2 : (acc ++ its) ++ (List.replicate k its).flatten = acc ++ (List.replicate (k + 1) its).flatten := by
      rw [List.replicate_succ, List.flatten_cons, List.append_assoc]
    rw [← e2, ← foldl_rep its k (acc ++ its), ← e, List.replicate_succ, List.foldl_cons]
section
variable {X : Cx} {pins : List (Addr × Obj)} {σ : St} {H : Hp} {s : Shared} {l b : Addr} {xs ys zs : List V}
theorem Inv.lset {its its' : List Value} {n : Nat} {f : Array Value → Array Value} {t' : Nat} (I : Inv X pins σ H s) (hH : H l = some (.lst xs))
    (e : s.heap.get? l = some { cls := .type "list", data := .seq its.toArray n }) (hf : f its.toArray = its'.toArray) (hv : Vals ys its') (hz : ys.length ≤ sizeLine) :
    Inv X pins σ (upd H l (.lst ys)) { s with heap := s.heap.update l (Obj.mapSeq f), toks := t' } := by
  have q := PySem.IsL.update e f
  rw [hf] at q
  refine I.write (x := l) (e := l) (by rw [hH]; exact trivial) (.inl rfl) (fun b' u hb hu => (Heap.get?_update_other s.heap (Obj.mapSeq f) (Ne.symm hb)).trans hu) ⟨_, q⟩ ?_
  exact ⟨hz, its', _, hv, q⟩
theorem Inv.lnew {its : List Value} {t' : Nat} (I : Inv X pins σ H s) (hv : Vals ys its) (hz : ys.length ≤ sizeLine) :
    Inv X pins σ (upd H s.heap.objs.size (.lst ys)) { s with heap := s.heap.push { cls := .type "list", data := .seq its.toArray }, toks := t' } :=
  I.laid (fun _ _ q => Heap.get?_push_of_some _ q) (Nat.le_refl _) ⟨hz, its, 0, hv, Heap.get?_push_size _ rfl⟩
theorem Inv.fresh (I : Inv X pins σ H s) : H s.heap.objs.size = none := I.hok.fresh (Nat.le_refl _)
theorem Inv.lstM (I : Inv X pins σ H s) (hH : H l = some (.lst xs)) : xs.length ≤ sizeLine ∧ ∃ (its : List Value) (n : Nat), Vals xs its ∧ xs.length = its.length ∧ s.heap.get? l = some { cls := .type "list", data := .seq its.toArray n } := by
  obtain ⟨z, its, n, r, e⟩ := I.hok l _ hH
  exact ⟨z, its, n, r, r.length, e⟩
theorem notLongL {n : Nat} (h : n ≤ sizeLine) : Builtin.List.listTooLong n = false := by
  unfold Builtin.List.listTooLong
  exact decide_eq_false (by omega)
end
section
variable {X : Cx}
def rAppend : V → List V → Hp → VK → Prop := fun x vs H Q => ∃ l xs y, x = .ref l ∧ vs = [y] ∧ H l = some (.lst xs) ∧ xs.length < sizeLine ∧ Q .non (upd H l (.lst (xs ++ [y])))
theorem mt_append : MtM X "list.append" rAppend := by
  intro pins s σ H x vs v us Q I rx rv h
  obtain ⟨l, xs, y, rfl, rfl, hH, hz, q⟩ := h
  cases rx
  obtain ⟨u, rfl, ru⟩ := rv.one
  obtain ⟨z, its, n, r, hl, e⟩ := I.lstM hH
  refine call_meets F.slot_list_append ⟨_, e, rfl⟩ F.entry_list_append (F.args_list_append_2 _ _) (PySem.list_append l its.toArray n u (by rw [List.size_toArray]; omega)) ⟨e, ?_⟩
  refine ⟨.non, _, I.lset (its' := its ++ [u]) hH e (by simp) (r.append (.cons ru .nil)) ?_, rfl, q⟩
  rw [List.length_append, List.length_singleton]
  omega
def rCat : R2 := fun x y H Q => ∃ l b xs zs, x = .ref l ∧ y = .ref b ∧ H l = some (.lst xs) ∧ H b = some (.lst zs) ∧ xs.length + zs.length ≤ sizeLine ∧ ∀ p, H p = none → Q (.ref p) (upd H p (.lst (xs ++ zs)))
theorem op_cat : OpR X (binaryOp .Add) rCat := by
  intro pins s σ H x y v u Q I rx ry h
  obtain ⟨l, b, xs, zs, rfl, rfl, hH, hB, hz, q⟩ := h
  cases rx
  cases ry
  obtain ⟨z, its, n, r, hl, e⟩ := I.lstM hH
  obtain ⟨z2, its2, n2, r2, hl2, e2⟩ := I.lstM hB
  refine PySem.P.add_list e e2 ?_ (by rw [List.size_toArray, List.size_toArray]; omega)
  have ea : its.toArray ++ its2.toArray = (its ++ its2).toArray := by simp
  rw [ea]
  exact ⟨.ref _, _, I.lnew (t' := s.toks) (r.append r2) (by rw [List.length_append]; omega), rfl, q _ I.fresh⟩
def rRep : R2 := fun x y H Q => ∃ l k xs, x = .ref l ∧ y = .int k ∧ H l = some (.lst xs) ∧ -(2 ^ 63) ≤ k ∧ k < 2 ^ 63 ∧ xs.length * k.toNat ≤ sizeLine ∧
  ∀ p, H p = none → Q (.ref p) (upd H p (.lst (List.replicate k.toNat xs).flatten))
theorem len_rep {α : Type} (xs : List α) (k : Nat) : (List.replicate k xs).flatten.length = k * xs.length := by
  induction k with
  | zero => simp
  | succ k ih => rw [List.replicate_succ, List.flatten_cons, List.length_append, ih, Nat.succ_mul, Nat.add_comm]
theorem op_rep : OpR X (binaryOp .Mult) rRep := by
  intro pins s σ H x y v u Q I rx ry h
  obtain ⟨l, k, xs, rfl, rfl, hH, h1, h2, hz, q⟩ := h
  cases rx
  obtain ⟨t, rfl⟩ := ry
  obtain ⟨z, its, n, r, hl, e⟩ := I.lstM hH
  have hlen : its.toArray.size * k.toNat ≤ sizeLine := by rw [List.size_toArray, ← hl]; exact hz
  have hcap : ¬ its.toArray.size * k.toNat > (2 ^ 63 - 1) / 8 := by
    have : (sizeLine : Nat) ≤ (2 ^ 63 - 1) / 8 := by decide
    omega
  have hfit : ¬ (!Builtin.List.listFitsIndex k) = true := by
    rw [fitsIndex_both h1 h2]
    exact Bool.false_ne_true
  have hlong : ¬ Builtin.List.listTooLong (its.toArray.size * k.toNat) = true := by
    rw [notLongL hlen]
    exact Bool.false_ne_true
  have hnew : List.foldl (fun x1 x2 => x1 ++ x2) #[] (List.replicate (if its.toArray.isEmpty = true then 0 else k.toNat) its.toArray) = (List.replicate k.toNat its).flatten.toArray := by
    have f0 : ∀ m : Nat, List.foldl (fun x1 x2 => x1 ++ x2) #[] (List.replicate m its.toArray) = (List.replicate m its).flatten.toArray := fun m => by
      have := foldl_rep its m []
      rw [List.nil_append] at this
      exact this
    rw [f0]
    cases its with
    | nil => simp
    | cons a r' => rw [if_neg (by simp)]
  refine wpAny_binaryOp_repeat_ref (T := "list") (U := "int") (by decide) ⟨_, e, rfl⟩ (fun s' => typeIs_int s' k t) noFill_list_mul F.fills_int_mul F.slot_int_rmul repeat_list F.slot_int_index.lookup
    (call_meets F.slot_int_rmul (typeIs_int s k t) F.entry_int_rmul (F.args_int_rmul_2 _ _) (int___rmul___int_list k t l its.toArray n)
      ⟨e, rfl, ⟨_, e, rfl⟩, call_meets F.slot_list_mul ⟨_, e, rfl⟩ F.entry_list_mul (F.args_list_mul_2 _ _) (AutoListH.list___mul___list_int_3 l its.toArray n k t hfit hcap hlong) ⟨e, ?_⟩⟩)
  rw [hnew]
  exact ⟨.ref _, _, I.lnew (t' := s.toks) (r.rep k.toNat) (by rw [len_rep, Nat.mul_comm]; exact hz), rfl, q _ I.fresh⟩
end
section
variable {prog : Program} {w : World} {A : Around} {E : Value → Shared → Prop} {s : Shared}
end
section
variable {X : Cx}
end
end L2
namespace Att
open PySem PySem.W PySem.Calls PyProof.Rows
theorem ints_of_wellAll {P : Params} {h : Heap} : ∀ (ns : List Int) (vs : List Value), WellAll P h vs (ns.map WData.int) → IntsAre vs ns := by
  intro ns
  induction ns with
  | nil =>
    intro vs w
    rw [List.map_nil] at w
    cases w
    exact .nil
  | cons n ns ih =>
    intro vs w
    rw [List.map_cons] at w
    cases w with
    | cons a b =>
      cases a
      exact .cons _ _ (ih _ b)
theorem script_of {l : OpenLaw} {n : Nat} (hn : l.most = some n) {P : Params} {h : Heap} {args : List WData} {vals : List Value}
    (hpre : l.row.toRowW.claim.pre args = true) (hwl : WellAll P h vals args) :
    ∃ a vs ns, vals = [Value.ref a] ∧ args = [WData.list (ns.map WData.int)] ∧ h.get? a = some { cls := .type "list", data := .seq vs.toArray } ∧ IntsAre vs ns ∧ ns.length ≤ n := by
  have hsh : WShape.hasAll [] args [.list .int] = true := (pre_splitW hpre).1
  have hc : l.pre.holds [] { args := args } = true := (pre_splitW hpre).2
  obtain ⟨d, r, rfl, h1, h2⟩ := hasAllW_cons hsh
  obtain rfl := hasAllW_nil h2
  obtain ⟨xs, rfl, h3⟩ := hasW_list h1
  obtain ⟨ns, rfl⟩ := items_int h3
  have hlen : ns.length ≤ n := by
    unfold OpenLaw.pre at hc
    have h4 : (WTm.not (.lt (.lit (.int (n : Int))) (.len (.arg 0)))).holds [] { args := [.list (ns.map .int)] } = true := by
      have h4 := (holds_andW hc).1
      rw [hn] at h4
      exact h4
    have h5 := condW_of h4 (w_not (w_lt w_lit (w_len_list (w_arg rfl))))
    rw [List.length_map] at h5
    refine Nat.le_of_not_lt fun q => ?_
    have q' : (n : Int) < ((ns.length : Nat) : Int) := by omega
    first
      | (rw [decide_eq_true q'] at h5; exact absurd h5 (by decide))
      | (simp at h5; omega)
  cases hwl with
  | cons w1 w2 =>
    cases w2
    cases w1 with
    | list ho hall => exact ⟨_, _, ns, rfl, rfl, ho, ints_of_wellAll ns _ hall, hlen⟩
theorem post_true (l : OpenLaw) (args : List WData) : l.row.toRowW.claim.post args (.bool true) args = true :=
  postW_of (r := l.row.toRowW) (X := (true == true))
    (show WShape.has [] (.bool true) .bool = true by first | rfl | decide | simp [WShape.has, WShape.arms, WShape.armsAll])
    (show (WTm.eq .res (.lit (.bool true))).value [] { args := args, res := some (.bool true), after := args } = some (.bool (true == true)) from w_eq_bool (w_res rfl) w_lit) rfl
theorem attach_call {l : OpenLaw} {n : Nat} {q : Program} {loose : List Str} {XP : (Str → Option Value) → Heap → Prop} {YP : World → Heap → Prop} {d : DefRec}
    (hn : l.most = some n) (hdf : d.params.defaults = [])
    (call : ∀ (w : World) (s₀ s₁ : Shared) (mg mb : Str → Option Value) (fa : Addr) (o : Obj) (pm cd doc : Value) (a : Addr) (vs : List Value) (ns : List Int),
      Ground q loose [] XP w s₀ mg mb s₁.heap → YP w s₁.heap →
      s₁.heap.get? fa = some o → o.data = .func (docDef d.name d.params d.body d.scope pm cd doc) → s₁.heap.CodeRec cd d.name → mg d.name = some (.ref fa) →
      s₁.heap.get? a = some { cls := .type "list", data := .seq vs.toArray } → IntsAre vs ns → ns.length ≤ n → s₁.gens = #[] →
      codeAny (model l.prog w) callerA (.call (.ref fa) ⟨[.ref a], []⟩) (fun r s' => r = .ok (.ret (.bool true)) ∧ OldK s₁.heap s'.heap ∧ s'.os = s₁.os ∧ AllBare s'.gens) s₁) :
    WalkO q loose XP YP l.row.toRowW d [] (fun f vs => PySem.call f vs) := by
  intro w s₀ s₁ mg mb G Y fa o pm cd doc dV kV ho hd hcd hD hmg hg args vals as hpre hlay hrd hwl hlo
  obtain rfl : dV = .none := Dflts.none hD hdf
  obtain rfl : kV = .none := Dflts.noKw hD
  obtain ⟨a, vs, ns, rfl, rfl, hobj, hints, hlen⟩ := script_of hn hpre hwl
  refine enter_call (codeAny_mono (call w s₀ s₁ mg mb fa o pm cd doc a vs ns G Y ho (fd_plain hd) hcd hmg hobj hints hlen hg) fun r s' hq => ?_)
  obtain ⟨rfl, h2, h3, h4⟩ := hq
  exact ⟨.inl ⟨.bool true, .bool true, [], rfl, fun _ => rfl, .bool true, post_true l _, fun _ => ⟨List.Pairwise.nil, fun _ hm => (nomatch hm)⟩⟩, h2, h3, h4⟩
section
variable {prog : Program} {w : World} {A : Around} {E : Value → Shared → Prop} {s : Shared} {K : Frag}
end
end Att
namespace L2
open PySem PySem.Spec PyProof.Rows
theorem vals_ints : ∀ {vs : List Value} {ns : List Int}, IntsAre vs ns → Vals (ns.map V.int) vs
  | _, _, .nil => .nil
  | _, _, .cons n t h => .cons ⟨t, rfl⟩ (vals_ints h)
def Only (H : Hp) : Prop := ∀ b, H b = none ∨ ∃ o xs, H b = some (.frz o (.lst xs))
theorem law_call {P : Program} {w : World} {K : PySem.W.Frag} {mg mb : Str → Option Value} {CX : CXT} {k : Nat} {fa a : Addr} {fd : FuncData} {x : Str} {sp : Sp} {s₁ : Shared} {vs : List Value} {ns : List Int}
    (KX : K.In s₁.heap) (hns : s₁.heap.Ns mainGlobals mg) (hb : s₁.heap.Ns builtinsNs mb) (hbb : ∀ x : Str, x ≠ "__name__" → mb x = bootBuiltins x) (hlim : s₁.heap.NoLimit) (hg : s₁.gens = #[])
    (ha : s₁.heap.get? a = some { cls := .type "list", data := .seq vs.toArray }) (hi : IntsAre vs ns) (hl : ns.length ≤ sizeLine) (hr : Room k callerA)
    (F : ∀ base : Heap, K.In base → base.Ns mainGlobals mg → FnOk P w K mg base CX k fa fd [x] sp) (hbind : ∀ (s : Shared) (u : Value), BindsTo s fd ⟨[u], []⟩ [(x, u)])
    (hsp : ∀ H : Hp, Only H → SqL K H a (ns.map V.int) → sp [.ref a] H (fun v _ => v = .bl true) fun _ _ _ => False)
    (hCX : ∀ H e s', CX [] H s₁ (fun _ _ _ => False) e s' → False) :
    codeAny (model P w) callerA (.call (.ref fa) ⟨[.ref a], []⟩) (fun r s' => r = .ok (.ret (.bool true)) ∧ OldK s₁.heap s'.heap ∧ s'.os = s₁.os ∧ AllBare s'.gens) s₁ := by
  have rv := vals_ints hi
  have lenV := hi.length
  have core : ∀ H : Hp, Only H → SqL K H a (ns.map V.int) → HOk P w H s₁.heap → (∀ b, H b ≠ none → b = a) → (H a ≠ none → K.lookup a = none) →
      codeAny (model P w) callerA (.call (.ref fa) ⟨[.ref a], []⟩) (fun r s' => r = .ok (.ret (.bool true)) ∧ OldK s₁.heap s'.heap ∧ s'.os = s₁.os ∧ AllBare s'.gens) s₁ := by
    intro H hO hS hok hA hK
    have base_of : ∀ {b : Addr} {o : Obj}, s₁.heap.get? b = some o → H b = none → (hidT s₁.heap H).get? b = some o := fun e n => hidT_get e n
    have noA : ∀ {b : Addr} {o : Obj} {es : Array DictEntry} {ep : Nat}, s₁.heap.get? b = some o → o.data = .dict es ep → H b = none := fun {b o es ep} e d => by
      cases q : H b with
      | none => rfl
      | some u =>
        have e' : b = a := hA b (by rw [q]; simp)
        subst e'
        rw [ha] at e; cases e
        have d' : Data.seq vs.toArray _ = Data.dict es ep := d
        cases d'
    have nsK : ∀ {b : Addr} {m : Str → Option Value}, s₁.heap.Ns b m → (hidT s₁.heap H).Ns b m := fun {b m} ⟨o, es, ep, e, d, r⟩ => ⟨o, es, ep, base_of e (noA e d), d, r⟩
    have hKb : K.In (hidT s₁.heap H) := fun b o e => base_of (KX b o e) (by
      cases q : H b with
      | none => rfl
      | some u =>
        have e' : b = a := hA b (by rw [q]; simp)
        subst e'
        rw [hK (by rw [q]; simp)] at e; cases e)
    have hM : Mod K mg (hidT s₁.heap H) := ⟨hKb, nsK hns, ⟨mb, nsK hb, hbb⟩, let ⟨mc, h1, h2⟩ := hlim; ⟨mc, nsK h1, h2⟩⟩
    have e0 : Env0 P w K mg (hidT s₁.heap H) callerA [] s₁ H := ⟨rfl, hM, fun b o e => of_hidT e, Nat.le_of_eq (hidT_size _ _), trivial, fun b hb => absurd (show b ∈ ([] : List Addr) from hb) (by simp), hok, .of_eq hg⟩
    refine codeAny_mono ((F _ hKb (nsK hns)).run callerA [] s₁ H ⟨[.ref a], []⟩ [.ref a] [.ref a] _ _ hr e0 (hbind s₁ (.ref a)) (.cons rfl .nil) (hsp H hO hS)) fun r s' h => ?_
    cases r with
    | error e => exact (hCX H e s' h).elim
    | ok fl =>
      cases fl with
      | next => exact False.elim h
      | brk => exact False.elim h
      | cont => exact False.elim h
      | ret u =>
        obtain ⟨v, H', os, bare, un, hok', r', q⟩ := h
        have q' : v = .bl true := q
        subst q'
        obtain rfl : u = Value.bool true := r'
        refine ⟨rfl, OldK.of_keep fun b o e => ?_, os, bare⟩
        cases q : H b with
        | none => exact un.keep b o e q (by intro z; exact absurd (show b ∈ ([] : List Addr) from z) (by simp)) (by simp)
        | some u =>
          rcases hO b with z | ⟨ob, xs, z⟩
          · rw [q] at z; cases z
          · have z2 := un.frzs b ob _ z
            obtain ⟨e1, _⟩ := hok b _ z
            obtain ⟨e2, _⟩ := hok' b _ z2
            rw [e] at e1; cases e1
            exact e2
  cases hk : K.lookup a with
  | some o =>
    have e := KX a o hk
    rw [ha] at e
    cases e
    refine core (fun _ => none) (fun _ => .inl rfl) (.inr ⟨_, vs.toArray, _, hk, rfl, rfl, rfl, by rw [List.size_toArray, lenV]; exact hl, by simpa using rv⟩) (fun b u z => by have z' : (none : Option HO) = some u := z; cases z') (fun b z => absurd rfl z) fun z => absurd rfl z
  | none =>
    refine core (fun b => if b = a then some (.frz { cls := .type "list", data := .seq vs.toArray } (.lst (ns.map V.int))) else none) (fun b => ?_) (.inl (.inr ⟨{ cls := .type "list", data := .seq vs.toArray }, if_pos rfl⟩)) (fun b u z => ?_) (fun b z => ?_) fun _ => hk
    · by_cases hb : b = a
      · exact .inr ⟨_, _, if_pos hb⟩
      · exact .inl (if_neg hb)
    · by_cases hb : b = a
      · have z' := (if_pos hb).symm.trans z
        cases z'
        subst hb
        exact ⟨ha, by rw [List.length_map]; exact hl, vs, _, rv, ha⟩
      · have z' := (if_neg hb).symm.trans z
        cases z'
    · by_cases hb : b = a
      · exact hb
      · exact absurd (if_neg hb) z
end L2
namespace L2
open PySem PySem.Spec PyProof.Rows
theorem walk_of {l : PySem.W.OpenLaw} {n k : Nat} {q : Program} {loose : List Str} {XP : (Str → Option Value) → Heap → Prop} {YP : World → Heap → Prop} {d : DefRec} {K : Params → PySem.W.Frag} {CX : World → CXT} {sp : World → Sp} {x : Str}
    (hn : l.most = some n) (hn2 : n ≤ sizeLine) (hdf : d.params.defaults = []) (hr : Room k callerA)
    (hY : ∀ (w : World) (h : Heap), YP w h → (K w.params).In h)
    (F : ∀ (w : World) (mg : Str → Option Value) (fa : Addr) (h : Heap), (K w.params).In h → h.Ns mainGlobals mg → mg d.name = some (.ref fa) →
      ∃ fd : FuncData, (∀ (s : Shared) (u : Value), BindsTo s fd ⟨[u], []⟩ [(x, u)]) ∧
        ∀ base : Heap, (K w.params).In base → base.Ns mainGlobals mg → FnOk l.prog w (K w.params) mg base (CX w) k fa fd [x] (sp w))
    (hsp : ∀ (w : World) (H : Hp) (a : Addr) (ns : List Int), ns.length ≤ n → Only H → SqL (K w.params) H a (ns.map V.int) → sp w [.ref a] H (fun v _ => v = .bl true) fun _ _ _ => False)
    (hCX : ∀ (w : World) (H : Hp) (s : Shared) (e : Value) (s' : Shared), CX w [] H s (fun _ _ _ => False) e s' → False) :
    PySem.W.WalkO q loose XP YP l.row.toRowW d [] (fun f vs => PySem.call f vs) := by
  refine Att.attach_call hn hdf fun w s₀ s₁ mg mb fa o pm cd doc a vs ns G Y ho hd hcd hmg hobj hints hlen hg => ?_
  have KX := hY w _ Y
  obtain ⟨fd, hb, hF⟩ := F w mg fa _ KX G.T.g hmg
  exact law_call KX G.T.g G.T.b G.T.builtins G.T.nolimit hg hobj hints (Nat.le_trans hlen hn2) hr hF hb (fun H hO hS => hsp w H a ns hlen hO hS) fun H e s' => hCX w H s₁ e s'
end L2
namespace L2
open PySem PySem.Spec PyProof.Rows
def defArgs (s : Stmt) : Arguments := match s with
  | .FunctionDef _ a _ _ _ _ _ _ _ _ => a
  | _ => { posonlyargs := [], args := [], vararg := none, kwonlyargs := [], kw_defaults := [], kwarg := none, defaults := [] }
def defBody (s : Stmt) : List Stmt := match s with
  | .FunctionDef _ _ b _ _ _ _ _ _ _ => b
  | _ => []
def defScope (s : Stmt) : Scope := match s with
  | .FunctionDef _ _ _ _ _ _ sc _ _ _ => sc
  | _ => { kind := .function, names := [], isGenerator := false, isCoroutine := false }
abbrev CX0 : CXT := fun _ _ _ _ _ _ => False
abbrev E0 : XK := fun _ _ _ => False
structure Fun (K : PySem.W.Frag) (x qual : Str) (st : Stmt) (f : Addr) (fd : FuncData) : Prop where
  ex : ∃ (oc : Value) (od : Option Addr) (kV doc pm : Value) (an : Option Addr) (cdv ct : Value) (osl : Array (Option Value)),
    fd = PySem.W.fnOf x qual (defArgs st) (defBody st) (defScope st) .none kV doc pm an cdv ct ∧ K.lookup f = some ⟨oc, od, .func fd, osl⟩ ∧ PySem.W.codeIn K cdv qual = true
  kp : PySem.W.keepIn K (.ref f) = true
section
variable {P : Program} {w : World} {K : PySem.W.Frag} {mg : Str → Option Value} {base : Heap}
theorem Fun.ok {x qual : Str} {st : Stmt} {f : Addr} {fd : FuncData} {N ps : List Str} {k : Nat} {sp : Sp} (F : Fun K x qual st f fd) (S : FnScope N ps (defScope st)) (len : ∀ vs H Q E, sp vs H Q E → vs.length = ps.length)
    (hbody : ∀ (cdv : Value) (A : Around) (outer : List Env) (s : Shared) (H : Hp) (vs : List V) (Q : VK) (E : XK), Room k (A.deeper (envOfC qual (defScope st) s.heap.objs.size f cdv)) → sp vs H Q E →
      ∃ t, PSs (cxOf CX0 P w K mg base N qual (defScope st) f cdv A outer s H E).nox (defBody st) t ∧ t { nx := fun _ H' => Q .non H', rt := Q } (start N vs) H) : FnOk P w K mg base CX0 (k + 1) f fd ps sp := by
  obtain ⟨oc, od, kV, doc, pm, an, cdv, ct, osl, rfl, lk, hcd⟩ := F.ex
  refine fn_of lk hcd S len fun A outer s H vs Q E hr hsp => ?_
  obtain ⟨t, h, q⟩ := hbody cdv A outer s H vs Q E hr hsp
  exact ⟨t, h.nox, q⟩
theorem Fun.binds {x qual : Str} {st : Stmt} {f : Addr} {fd : FuncData} {ps : List Str} (F : Fun K x qual st f fd)
    (h : ∀ (kV doc pm : Value) (an : Option Addr) (cdv ct : Value) (us : List Value), us.length = ps.length → bindArgs (PySem.W.fnOf x qual (defArgs st) (defBody st) (defScope st) .none kV doc pm an cdv ct) ⟨us, []⟩ = pure (ps.zip us)) : Binds K fd ps [] := by
  obtain ⟨oc, od, kV, doc, pm, an, cdv, ct, osl, rfl, lk, hcd⟩ := F.ex
  exact .all (h kV doc pm an cdv ct)
theorem fun_mk {x qual : Str} {st : Stmt} {f : Addr} {oc : Value} {od an : Option Addr} {osl : Array (Option Value)} {kV doc pm cdv ct : Value} (l : K.lookup f = some ⟨oc, od, .func (PySem.W.fnOf x qual (defArgs st) (defBody st) (defScope st) .none kV doc pm an cdv ct), osl⟩)
    (c : PySem.W.codeIn K cdv qual = true) (k : PySem.W.keepIn K (.ref f) = true) : Fun K x qual st f (PySem.W.fnOf x qual (defArgs st) (defBody st) (defScope st) .none kV doc pm an cdv ct) := ⟨⟨oc, od, kV, doc, pm, an, cdv, ct, osl, rfl, l, c⟩, k⟩
end
section
variable {X : Cx}
end
def Same (H H' : Hp) : Prop := ∀ b o, H b = some o → H' b = some o
theorem Same.refl (H : Hp) : Same H H := fun _ _ h => h
theorem Same.trans {H H1 H2 : Hp} (a : Same H H1) (b : Same H1 H2) : Same H H2 := fun c o h => b c o (a c o h)
theorem Same.free {H H' : Hp} (e : Same H H') {l : Addr} (h : H' l = Option.none) : H l = Option.none := by
  cases q : H l with
  | none => rfl
  | some o =>
    rw [e l o q] at h
    cases h
theorem Same.seq {K : PySem.W.Frag} {H H' : Hp} {a : Addr} {xs : List V} (e : Same H H') (h : SqL K H a xs) : SqL K H' a xs := by
  rcases h with (h | ⟨o, h⟩) | h
  · exact .inl (.inl (e _ _ h))
  · exact .inl (.inr ⟨o, e _ _ h⟩)
  · exact .inr h
end L2
namespace DL
open PySem PySem.Spec PyProof.Rows L2
inductive D where
  | non | bl (b : Bool) | int (i : Int) | str (x : Str) | tup (xs : List D) | rol (xs : List D) | ob (n : Nat) | xn (c : Addr)
inductive Cell where
  | lst (xs : List D) | dic (kvs : List (Key × D)) | ins (C : Addr) (ns : List Str) (ds : List D)
inductive R (α : Type) where
  | ok (a : α) (S : List Cell) | exc (c : Addr) (S : List Cell) | bad
abbrev M (α : Type) := List Cell → R α
abbrev DSt := List (Option D)
def M.bind {α β : Type} (m : M α) (k : α → M β) : M β := fun S => match m S with
  | .ok a S' => k a S'
  | .exc c S' => .exc c S'
  | .bad => .bad
def M.ret {α : Type} (a : α) : M α := fun S => .ok a S
def M.bad {α : Type} : M α := fun _ => .bad
noncomputable def cif {α : Type} (P : Prop) (a b : α) : α := @ite α P (Classical.propDecidable P) a b
theorem cif_pos {α : Type} {P : Prop} {a b : α} (h : P) : cif P a b = a := by unfold cif; exact if_pos h
theorem cif_neg {α : Type} {P : Prop} {a b : α} (h : ¬ P) : cif P a b = b := by unfold cif; exact if_neg h
def RoL (K : PySem.W.Frag) (H : Hp) (a : Addr) (xs : List V) : Prop :=
  (∃ o, H a = some (.frz o (.lst xs))) ∨
    ∃ (o : Obj) (its : Array Value) (n : Nat), K.lookup a = some o ∧ o.cls = .type "list" ∧ o.dict = none ∧ o.data = .seq its n ∧ its.size ≤ sizeLine ∧ Vals xs its.toList
theorem RoL.sq {K : PySem.W.Frag} {H : Hp} {a : Addr} {xs : List V} (h : RoL K H a xs) : SqL K H a xs := by
  rcases h with ⟨o, h⟩ | h
  · exact .inl (.inr ⟨o, h⟩)
  · exact .inr h
def XO (a c : Addr) : HO := .ext fun h => ∃ o, h.get? a = some o ∧ o.cls = .ref c
mutual
def RepV (K : PySem.W.Frag) (H : Hp) (J : List Addr) : D → V → Prop
  | .non, v => v = .non
  | .bl b, v => v = .bl b
  | .int i, v => v = .int i
  | .str x, v => v = .str x
  | .tup xs, v => ∃ a vs, v = .ref a ∧ SqT K H a vs ∧ RepVs K H J xs vs
  | .rol xs, v => ∃ a vs, v = .ref a ∧ RoL K H a vs ∧ RepVs K H J xs vs
  | .ob n, v => ∃ a, v = .ref a ∧ J[n]? = some a
  | .xn c, v => ∃ a, v = .ref a ∧ H a = some (XO a c)
def RepVs (K : PySem.W.Frag) (H : Hp) (J : List Addr) : List D → List V → Prop
  | [], vs => vs = []
  | x :: xs, vs => ∃ v r, vs = v :: r ∧ RepV K H J x v ∧ RepVs K H J xs r
end
def Stb : HO → Bool
  | .tup _ => true
  | .frz _ _ => true
  | .ext _ => true
  | _ => false
structure Ext (H : Hp) (J : List Addr) (H' : Hp) (J' : List Addr) : Prop where
  st : ∀ b o, H b = some o → Stb o = true → H' b = some o
  pre : ∃ more, J' = J ++ more
theorem Ext.refl (H : Hp) (J : List Addr) : Ext H J H J := ⟨fun _ _ e _ => e, [], by simp⟩
theorem Ext.trans {H H1 H2 : Hp} {J J1 J2 : List Addr} (a : Ext H J H1 J1) (b : Ext H1 J1 H2 J2) : Ext H J H2 J2 := by
  obtain ⟨m1, e1⟩ := a.pre
  obtain ⟨m2, e2⟩ := b.pre
  exact ⟨fun c o e st => b.st c o (a.st c o e st) st, m1 ++ m2, by rw [e2, e1, List.append_assoc]⟩
theorem Ext.new {H : Hp} {J : List Addr} {p : Addr} {o : HO} (h : H p = none) : Ext H J (upd H p o) J :=
  ⟨fun b u e _ => by rw [upd_ne (ne_of_none e h)]; exact e, [], by simp⟩
theorem Ext.snoc {H H' : Hp} {J J' : List Addr} (a : Ext H J H' J') (m : List Addr) : Ext H J H' (J' ++ m) := by
  obtain ⟨m1, e1⟩ := a.pre
  exact ⟨a.st, m1 ++ m, by rw [e1, List.append_assoc]⟩
theorem Ext.write {H : Hp} {J : List Addr} {p : Addr} {o u : HO} (h : H p = some u) (hs : Stb u = false) : Ext H J (upd H p o) J :=
  ⟨fun b w e st => by
    have : b ≠ p := by
      rintro rfl
      rw [h] at e
      cases e
      rw [hs] at st
      cases st
    rw [upd_ne this]; exact e, [], by simp⟩
section
variable {K : PySem.W.Frag} {H H' : Hp} {J J' : List Addr}
theorem SqT.ext {a : Addr} {vs : List V} (e : Ext H J H' J') (h : SqT K H a vs) : SqT K H' a vs := by
  rcases h with (h | ⟨o, h⟩) | h
  · exact .inl (.inl (e.st _ _ h rfl))
  · exact .inl (.inr ⟨o, e.st _ _ h rfl⟩)
  · exact .inr h
theorem RoL.ext {a : Addr} {vs : List V} (e : Ext H J H' J') (h : RoL K H a vs) : RoL K H' a vs := by
  rcases h with ⟨o, h⟩ | h
  · exact .inl ⟨o, e.st _ _ h rfl⟩
  · exact .inr h
mutual
theorem RepV.ext (e : Ext H J H' J') : ∀ {d : D} {v : V}, RepV K H J d v → RepV K H' J' d v
  | .non, _, h => by unfold RepV at h ⊢; exact h
  | .bl _, _, h => by unfold RepV at h ⊢; exact h
  | .int _, _, h => by unfold RepV at h ⊢; exact h
  | .str _, _, h => by unfold RepV at h ⊢; exact h
  | .tup xs, v, h => by
    unfold RepV at h ⊢
    obtain ⟨a, vs, h1, h2, h3⟩ := h
    exact ⟨a, vs, h1, SqT.ext e h2, RepVs.ext e h3⟩
  | .rol xs, v, h => by
    unfold RepV at h ⊢
    obtain ⟨a, vs, h1, h2, h3⟩ := h
    exact ⟨a, vs, h1, RoL.ext e h2, RepVs.ext e h3⟩
  | .ob n, v, h => by
    unfold RepV at h ⊢
    obtain ⟨a, h1, h2⟩ := h
    obtain ⟨m, em⟩ := e.pre
    refine ⟨a, h1, ?_⟩
    rw [em, List.getElem?_append_left (List.getElem?_eq_some_iff.mp h2).1]
    exact h2
  | .xn c, v, h => by
    unfold RepV at h ⊢
    obtain ⟨a, h1, h2⟩ := h
    exact ⟨a, h1, e.st _ _ h2 rfl⟩
theorem RepVs.ext (e : Ext H J H' J') : ∀ {xs : List D} {vs : List V}, RepVs K H J xs vs → RepVs K H' J' xs vs
  | [], _, h => by unfold RepVs at h ⊢; exact h
  | x :: xs, vs, h => by
    unfold RepVs at h ⊢
    obtain ⟨v, r, h1, h2, h3⟩ := h
    exact ⟨v, r, h1, RepV.ext e h2, RepVs.ext e h3⟩
end
theorem RepVs.length : ∀ {xs : List D} {vs : List V}, RepVs K H J xs vs → vs.length = xs.length
  | [], _, h => by unfold RepVs at h; rw [h]; rfl
  | x :: xs, vs, h => by
    unfold RepVs at h
    obtain ⟨v, r, h1, _, h3⟩ := h
    rw [h1, List.length_cons, List.length_cons, RepVs.length h3]
theorem RepVs.get : ∀ {xs : List D} {vs : List V} {i : Nat} {x : D}, RepVs K H J xs vs → xs[i]? = some x → ∃ v, vs[i]? = some v ∧ RepV K H J x v
  | [], _, _, _, _, e => by simp at e
  | y :: xs, vs, 0, x, h, e => by
    unfold RepVs at h
    obtain ⟨v, r, h1, h2, _⟩ := h
    simp at e
    subst e h1
    exact ⟨v, rfl, h2⟩
  | y :: xs, vs, i + 1, x, h, e => by
    unfold RepVs at h
    obtain ⟨v, r, h1, _, h3⟩ := h
    subst h1
    exact RepVs.get (i := i) h3 (by simpa using e)
theorem RepVs.append : ∀ {xs ys : List D} {vs ws : List V}, RepVs K H J xs vs → RepVs K H J ys ws → RepVs K H J (xs ++ ys) (vs ++ ws)
  | [], _, _, _, h, g => by unfold RepVs at h; rw [h]; exact g
  | x :: xs, ys, vs, ws, h, g => by
    unfold RepVs at h
    obtain ⟨v, r, h1, h2, h3⟩ := h
    subst h1
    rw [List.cons_append, List.cons_append]
    unfold RepVs
    exact ⟨v, _, rfl, h2, RepVs.append h3 g⟩
theorem RepVs.nil : RepVs K H J [] [] := by unfold RepVs; rfl
theorem RepVs.cons {x : D} {xs : List D} {v : V} {vs : List V} (h : RepV K H J x v) (t : RepVs K H J xs vs) : RepVs K H J (x :: xs) (v :: vs) := by
  unfold RepVs; exact ⟨v, vs, rfl, h, t⟩
theorem RepVs.one {x : D} {v : V} (h : RepV K H J x v) : RepVs K H J [x] [v] := .cons h .nil
theorem RepVs.take : ∀ {xs : List D} {vs : List V} (n : Nat), RepVs K H J xs vs → RepVs K H J (xs.take n) (vs.take n)
  | _, _, 0, _ => by simp; exact .nil
  | [], _, n + 1, h => by unfold RepVs at h; subst h; simp; exact .nil
  | x :: xs, vs, n + 1, h => by
    unfold RepVs at h
    obtain ⟨v, r, h1, h2, h3⟩ := h
    subst h1
    exact .cons h2 (RepVs.take n h3)
theorem RepVs.drop : ∀ {xs : List D} {vs : List V} (n : Nat), RepVs K H J xs vs → RepVs K H J (xs.drop n) (vs.drop n)
  | _, _, 0, h => by simpa using h
  | [], _, n + 1, h => by unfold RepVs at h; subst h; simp; exact .nil
  | x :: xs, vs, n + 1, h => by
    unfold RepVs at h
    obtain ⟨v, r, h1, h2, h3⟩ := h
    subst h1
    exact RepVs.drop n h3
theorem RepVs.set {d : D} {w : V} (hd : RepV K H J d w) : ∀ {xs : List D} {vs : List V} (n : Nat), RepVs K H J xs vs → RepVs K H J (xs.set n d) (vs.set n w)
  | [], _, n, h => by unfold RepVs at h; subst h; simp; exact .nil
  | x :: xs, vs, 0, h => by
    unfold RepVs at h
    obtain ⟨v, r, h1, h2, h3⟩ := h
    subst h1
    exact .cons hd h3
  | x :: xs, vs, n + 1, h => by
    unfold RepVs at h
    obtain ⟨v, r, h1, h2, h3⟩ := h
    subst h1
    exact .cons h2 (RepVs.set hd n h3)
theorem RepVs.nil_iff {xs : List D} {vs : List V} (h : RepVs K H J xs vs) : vs = [] ↔ xs = [] := by
  have := h.length
  constructor
  · intro e; subst e; exact List.length_eq_zero_iff.mp (by simpa using this.symm)
  · intro e; subst e; exact List.length_eq_zero_iff.mp (by simpa using this)
theorem RepVs.ints (ns : List Int) : RepVs K H J (ns.map D.int) (ns.map V.int) := by
  induction ns with
  | nil => exact .nil
  | cons n r ih => exact .cons (by unfold RepV; rfl) ih
end
def RepPs {κ : Type} (K : PySem.W.Frag) (H : Hp) (J : List Addr) : List (κ × D) → List (κ × V) → Prop
  | [], ws => ws = []
  | (k, d) :: r, ws => ∃ v t, ws = (k, v) :: t ∧ RepV K H J d v ∧ RepPs K H J r t
section
variable {κ : Type} {K : PySem.W.Frag} {H H' : Hp} {J J' : List Addr}
theorem RepPs.ext (e : Ext H J H' J') : ∀ {xs : List (κ × D)} {ws : List (κ × V)}, RepPs K H J xs ws → RepPs K H' J' xs ws
  | [], _, h => h
  | (k, d) :: r, ws, h => by
    obtain ⟨v, t, h1, h2, h3⟩ := h
    exact ⟨v, t, h1, h2.ext e, RepPs.ext e h3⟩
theorem RepPs.length : ∀ {xs : List (κ × D)} {ws : List (κ × V)}, RepPs K H J xs ws → ws.length = xs.length
  | [], _, h => by
    have h' : _ = [] := h
    rw [h']; rfl
  | (k, d) :: r, ws, h => by
    obtain ⟨v, t, h1, h2, h3⟩ := h
    rw [h1, List.length_cons, List.length_cons, RepPs.length h3]
end
def RepC (K : PySem.W.Frag) (H : Hp) (J : List Addr) : Cell → Addr → Prop
  | .lst xs, a => ∃ vs, H a = some (.lst vs) ∧ RepVs K H J xs vs
  | .dic kvs, a => ∃ ws, H a = some (.dK ws) ∧ RepPs K H J kvs ws
  | .ins C ns ds, a => ∃ dx ws, H a = some (.ins C dx ws) ∧ ws.map (·.1) = ns ∧ RepVs K H J ds (ws.map (·.2))
structure RepS (K : PySem.W.Frag) (H : Hp) (J : List Addr) (S : List Cell) : Prop where
  len : J.length = S.length
  nd : J.Nodup
  at_ : ∀ (n : Nat) c a, S[n]? = some c → J[n]? = some a → RepC K H J c a
section
variable {K : PySem.W.Frag} {H H' : Hp} {J J' : List Addr} {S : List Cell} {a p : Addr} {c c' : Cell} {n : Nat} {o o' : HO}
theorem RepC.some_ (h : RepC K H J c a) : ∃ o, H a = some o ∧ Stb o = false := by
  cases c with
  | lst xs => obtain ⟨vs, h, _⟩ := h; exact ⟨_, h, rfl⟩
  | dic xs => obtain ⟨vs, h, _⟩ := h; exact ⟨_, h, rfl⟩
  | ins C ns ds => obtain ⟨dx, vs, h, _⟩ := h; exact ⟨_, h, rfl⟩
theorem RepC.keep (h : RepC K H J c a) (e : Ext H J H' J') (he : H' a = H a) : RepC K H' J' c a := by
  cases c with
  | lst xs => obtain ⟨vs, h, r⟩ := h; exact ⟨vs, he.trans h, r.ext e⟩
  | dic xs => obtain ⟨vs, h, r⟩ := h; exact ⟨vs, he.trans h, r.ext e⟩
  | ins C ns ds => obtain ⟨dx, vs, h, q, r⟩ := h; exact ⟨dx, vs, he.trans h, q, r.ext e⟩
theorem RepS.cell (h : RepS K H J S) (hn : S[n]? = some c) : ∃ a, J[n]? = some a ∧ RepC K H J c a := by
  have hi := (List.getElem?_eq_some_iff.mp hn).1
  have hl := h.len
  exact ⟨J[n]'(by omega), by simp, h.at_ n c _ hn (by simp)⟩
theorem RepS.cellA (h : RepS K H J S) (hn : J[n]? = some a) : ∃ c, S[n]? = some c ∧ RepC K H J c a := by
  have hi := (List.getElem?_eq_some_iff.mp hn).1
  have hl := h.len
  exact ⟨S[n]'(by omega), by simp, h.at_ n _ _ (by simp) hn⟩
theorem RepS.held (h : RepS K H J S) (ha : a ∈ J) : ∃ o, H a = some o ∧ Stb o = false := by
  obtain ⟨n, hn⟩ := List.mem_iff_getElem?.mp ha
  obtain ⟨c, _, hc⟩ := h.cellA hn
  exact hc.some_
theorem RepS.new (h : RepS K H J S) (hp : H p = none) : RepS K (upd H p o) J S where
  len := h.len
  nd := h.nd
  at_ := fun n c a hc ha => by
    have r := h.at_ n c a hc ha
    obtain ⟨u, hu, _⟩ := r.some_
    exact r.keep (Ext.new hp) (upd_ne (ne_of_none hu hp))
theorem RepS.push (h : RepS K H J S) (hp : H p = none) (hc : RepC K (upd H p o) (J ++ [p]) c p) : RepS K (upd H p o) (J ++ [p]) (S ++ [c]) where
  len := by simp [h.len]
  nd := by
    rw [List.nodup_append]
    refine ⟨h.nd, by simp, ?_⟩
    intro a ha b hb
    simp at hb
    subst hb
    obtain ⟨u, hu, _⟩ := h.held ha
    exact ne_of_none hu hp
  at_ := fun n c1 a h1 ha => by
    have hl := h.len
    by_cases hn : n < S.length
    · rw [List.getElem?_append_left hn] at h1
      rw [List.getElem?_append_left (by omega)] at ha
      have r := h.at_ n c1 a h1 ha
      obtain ⟨u, hu, _⟩ := r.some_
      exact r.keep ((Ext.new hp).snoc _) (upd_ne (ne_of_none hu hp))
    · have hn' := (List.getElem?_eq_some_iff.mp h1).1
      have e : n = S.length := by rw [List.length_append] at hn'; simp at hn'; omega
      subst e
      rw [List.getElem?_append_right (Nat.le_refl _)] at h1
      rw [List.getElem?_append_right (by omega)] at ha
      simp at h1
      rw [← hl] at ha
      simp at ha
      subst h1 ha
      exact hc
theorem RepS.write (h : RepS K H J S) (hn : J[n]? = some a) (hc : RepC K (upd H a o) J c' a) : RepS K (upd H a o) J (S.set n c') where
  len := by rw [List.length_set]; exact h.len
  nd := h.nd
  at_ := fun m c1 b h1 hb => by
    obtain ⟨c0, _, r0⟩ := h.cellA hn
    obtain ⟨u0, hu0, hs0⟩ := r0.some_
    by_cases e : m = n
    · subst e
      rw [hn] at hb
      cases hb
      rw [List.getElem?_set] at h1
      simp at h1
      obtain ⟨_, h1⟩ := h1
      subst h1
      exact hc
    · rw [List.getElem?_set_ne (Ne.symm e)] at h1
      have r := h.at_ m c1 b h1 hb
      have hab : b ≠ a := by
        rintro rfl
        exact e ((List.getElem?_inj (List.getElem?_eq_some_iff.mp hb).1 h.nd).mp (hb.trans hn.symm))
      exact r.keep (Ext.write hu0 hs0) (upd_ne hab)
end
structure RepL (K : PySem.W.Frag) (H : Hp) (J : List Addr) (r : DSt) (σ : L2.St) : Prop where
  len : r.length = σ.length
  at_ : ∀ (i : Nat) d, r[i]? = some (some d) → ∃ v, σ[i]? = some (some v) ∧ RepV K H J d v
section
variable {K : PySem.W.Frag} {H H' : Hp} {J J' : List Addr} {r : DSt} {σ : L2.St}
theorem RepL.ext (h : RepL K H J r σ) (e : Ext H J H' J') : RepL K H' J' r σ := ⟨h.len, fun i d q => let ⟨v, a, b⟩ := h.at_ i d q; ⟨v, a, b.ext e⟩⟩
theorem RepL.set (h : RepL K H J r σ) {i : Nat} {d : D} {v : V} (hd : RepV K H J d v) : RepL K H J (r.set i (some d)) (σ.set i (some v)) where
  len := by simp [h.len]
  at_ := fun j d' q => by
    by_cases e : j = i
    · subst e
      rw [List.getElem?_set] at q
      simp at q
      obtain ⟨hj, q⟩ := q
      subst q
      refine ⟨v, ?_, hd⟩
      rw [List.getElem?_set]
      simp [← h.len, hj]
    · rw [List.getElem?_set_ne (Ne.symm e)] at q ⊢
      exact h.at_ j d' q
end
theorem RepL.start {K : PySem.W.Frag} {H : Hp} {J : List Addr} {N : List Str} {xs : List D} {vs : List V} (h : RepVs K H J xs vs) :
    RepL K H J (xs.map some ++ List.replicate (N.length - xs.length) none) (L2.start N vs) where
  len := by unfold L2.start; simp [h.length]
  at_ := fun i d q => by
    have hl := h.length
    unfold L2.start
    by_cases hi : i < xs.length
    · rw [List.getElem?_append_left (by simpa using hi)] at q
      rw [List.getElem?_append_left (by simp; omega)]
      rw [List.getElem?_map] at q ⊢
      cases e : xs[i]? with
      | none => rw [e] at q; simp at q
      | some x =>
        rw [e] at q
        simp at q
        subst q
        obtain ⟨v, h1, h2⟩ := h.get e
        exact ⟨v, by rw [h1]; rfl, h2⟩
    · rw [List.getElem?_append_right (by simpa using hi)] at q
      rw [List.getElem?_replicate] at q
      split at q <;> simp at q
end DL
namespace DL
open PySem PySem.Spec PyProof.Rows L2
abbrev Pins := List (Addr × Obj)
def TO (T : Addr) : HO := .ext fun h => ∃ o, h.get? T = some o
def New1 (h : Heap) (a c : Addr) : Prop := ∃ oe vs a0, h.get? a = some oe ∧ oe.cls = .ref c ∧ oe.data = .fields vs ∧ vs[0]? = some a0 ∧ vs[1]? = some .none
def Tr (h : Heap) (a c T : Addr) : Prop := ∃ oe vs oT ts a0, h.get? a = some oe ∧ oe.cls = .ref c ∧ oe.data = .fields vs ∧ vs[0]? = some a0 ∧ vs[1]? = some (.ref T) ∧ T ≠ a ∧ h.get? T = some oT ∧ oT.data = .fields ts ∧ ts[3]? = some .none
def XF (X : Cx) (H : Hp) (e : Value) (c : Addr) (h : Heap) : Prop := ∃ a, e = .ref a ∧ H a = some (XO a c) ∧ (New1 h a c ∨ ∃ T, H T = some (TO T) ∧ Tr h a c T)
structure XInv (X : Cx) (pins : Pins) (σ : L2.St) (H : Hp) (s : Shared) (e : Value) (c : Addr) : Prop where
  inv : Inv X pins σ H s
  fly : XF X H e c s.heap
def Got (K : PySem.W.Frag) (H : Hp) (J : List Addr) (d : D) (S : List Cell) : VK := fun v H' => ∃ J', Ext H J H' J' ∧ RepS K H' J' S ∧ RepV K H' J' d v
def Gots (K : PySem.W.Frag) (H : Hp) (J : List Addr) (ds : List D) (S : List Cell) (vs : List V) (H' : Hp) : Prop := ∃ J', Ext H J H' J' ∧ RepS K H' J' S ∧ RepVs K H' J' ds vs
def Gone (K : PySem.W.Frag) (H : Hp) (J : List Addr) (S : List Cell) (H' : Hp) : Prop := ∃ J', Ext H J H' J' ∧ RepS K H' J' S
def XP (X : Cx) (pins : Pins) (σ : L2.St) (c : Addr) (G : Hp → Prop) (e : Value) (s' : Shared) : Prop := ∃ H', XInv X pins σ H' s' e c ∧ G H'
def Mt (X : Cx) (pins : Pins) (σ : L2.St) (H : Hp) (J : List Addr) (r : R D) (Q : Value → Shared → Prop) (E : Value → Shared → Prop) : Prop := match r with
  | .ok d S' => ∀ u s', EP X pins σ (Got X.K H J d S') u s' → Q u s'
  | .exc c S' => ∀ e s', XP X pins σ c (Gone X.K H J S') e s' → E e s'
  | .bad => False
def MtB (X : Cx) (pins : Pins) (σ : L2.St) (H : Hp) (J : List Addr) (r : R Bool) (Q : Bool → Shared → Prop) (E : Value → Shared → Prop) : Prop := match r with
  | .ok b S' => ∀ s', TP X pins σ (fun _ => Gone X.K H J S') b s' → Q b s'
  | .exc c S' => ∀ e s', XP X pins σ c (Gone X.K H J S') e s' → E e s'
  | .bad => False
def MtA (X : Cx) (pins : Pins) (σ : L2.St) (H : Hp) (J : List Addr) (r : R (List D)) (Q : List Value → Shared → Prop) (E : Value → Shared → Prop) : Prop := match r with
  | .ok ds S' => ∀ us s', AP X pins σ (Gots X.K H J ds S') us s' → Q us s'
  | .exc c S' => ∀ e s', XP X pins σ c (Gone X.K H J S') e s' → E e s'
  | .bad => False
section
variable {X : Cx} {pins : Pins} {σ : L2.St} {H H1 : Hp} {J J1 : List Addr}
theorem Got.ext {K : PySem.W.Frag} {d : D} {S : List Cell} {v : V} {H' : Hp} (e : Ext H J H1 J1) (h : Got K H1 J1 d S v H') : Got K H J d S v H' := let ⟨J', a, b, c⟩ := h; ⟨J', e.trans a, b, c⟩
theorem Gots.ext {K : PySem.W.Frag} {d : List D} {S : List Cell} {v : List V} {H' : Hp} (e : Ext H J H1 J1) (h : Gots K H1 J1 d S v H') : Gots K H J d S v H' := let ⟨J', a, b, c⟩ := h; ⟨J', e.trans a, b, c⟩
theorem Gone.ext {K : PySem.W.Frag} {S : List Cell} {H' : Hp} (e : Ext H J H1 J1) (h : Gone K H1 J1 S H') : Gone K H J S H' := let ⟨J', a, b⟩ := h; ⟨J', e.trans a, b⟩
theorem XP.ext {c : Addr} {S : List Cell} {u : Value} {s' : Shared} (e : Ext H J H1 J1) (h : XP X pins σ c (Gone X.K H1 J1 S) u s') : XP X pins σ c (Gone X.K H J S) u s' := let ⟨H', a, b⟩ := h; ⟨H', a, b.ext e⟩
theorem Mt.ext {r : R D} {Q E : Value → Shared → Prop} (e : Ext H J H1 J1) (h : Mt X pins σ H J r Q E) : Mt X pins σ H1 J1 r Q E := by
  cases r with
  | ok d S => exact fun u s' ⟨v, H', I, rv, g⟩ => h u s' ⟨v, H', I, rv, g.ext e⟩
  | exc c S => exact fun u s' x => h u s' (x.ext e)
  | bad => exact h
theorem MtB.ext {r : R Bool} {Q : Bool → Shared → Prop} {E : Value → Shared → Prop} (e : Ext H J H1 J1) (h : MtB X pins σ H J r Q E) : MtB X pins σ H1 J1 r Q E := by
  cases r with
  | ok d S => exact fun s' ⟨H', I, g⟩ => h s' ⟨H', I, g.ext e⟩
  | exc c S => exact fun u s' x => h u s' (x.ext e)
  | bad => exact h
theorem MtA.ext {r : R (List D)} {Q : List Value → Shared → Prop} {E : Value → Shared → Prop} (e : Ext H J H1 J1) (h : MtA X pins σ H J r Q E) : MtA X pins σ H1 J1 r Q E := by
  cases r with
  | ok d S => exact fun u s' ⟨v, H', I, rv, g⟩ => h u s' ⟨v, H', I, rv, g.ext e⟩
  | exc c S => exact fun u s' x => h u s' (x.ext e)
  | bad => exact h
end
structure At (X : Cx) (pins : Pins) (σ : L2.St) (H : Hp) (J : List Addr) (r : DSt) (S : List Cell) (s : Shared) : Prop where
  inv : Inv X pins σ H s
  loc : RepL X.K H J r σ
  st : RepS X.K H J S
def PEd (X : Cx) (e : Expr) (f : DSt → M D) : Prop := ∀ (pins : Pins) (s : Shared) (σ : L2.St) (H : Hp) (J : List Addr) (r : DSt) (S : List Cell) (Q E : Value → Shared → Prop),
  At X pins σ H J r S s → Mt X pins σ H J (f r S) Q E → wpAny (model X.prog X.w) X.A (eval e X.env) Q E s
def PTd (X : Cx) (e : Expr) (f : DSt → M Bool) : Prop := ∀ (pins : Pins) (s : Shared) (σ : L2.St) (H : Hp) (J : List Addr) (r : DSt) (S : List Cell) (Q : Bool → Shared → Prop) (E : Value → Shared → Prop),
  At X pins σ H J r S s → MtB X pins σ H J (f r S) Q E → wpAny (model X.prog X.w) X.A (isTrue e X.env (eval e X.env)) Q E s
def PWd (X : Cx) (e : Expr) (f : DSt → M Bool) : Prop := ∀ (whole : Sem Value) (pins : Pins) (s : Shared) (σ : L2.St) (H : Hp) (J : List Addr) (r : DSt) (S : List Cell) (Q : Bool → Shared → Prop) (E : Value → Shared → Prop),
  At X pins σ H J r S s → MtB X pins σ H J (f r S) Q E → wpAny (model X.prog X.w) X.A (isTrue e X.env whole) Q E s
theorem PWd.pt {X : Cx} {e : Expr} {f : DSt → M Bool} (h : PWd X e f) : PTd X e f := h _
def PAd (X : Cx) (es : List Expr) (f : DSt → M (List D)) : Prop := ∀ (pos : Pos) (pins : Pins) (s : Shared) (σ : L2.St) (H : Hp) (J : List Addr) (r : DSt) (S : List Cell) (Q : List Value → Shared → Prop) (E : Value → Shared → Prop),
  At X pins σ H J r S s → MtA X pins σ H J (f r S) Q E → wpAny (model X.prog X.w) X.A (spliced (backTo pos (starEach es X.env))) Q E s
def OpD (X : Cx) (f : Value → Value → Sem Value) (g : D → D → M D) : Prop := ∀ (pins : Pins) (s : Shared) (σ : L2.St) (H : Hp) (J : List Addr) (S : List Cell) (x y : D) (vx vy : V) (v u : Value) (Q E : Value → Shared → Prop),
  Inv X pins σ H s → RepS X.K H J S → RepV X.K H J x vx → RepV X.K H J y vy → RelV vx v → RelV vy u → Mt X pins σ H J (g x y S) Q E → wpAny (model X.prog X.w) X.A (f v u) Q E s
def UnD (X : Cx) (f : Value → Sem Value) (g : D → M D) : Prop := ∀ (pins : Pins) (s : Shared) (σ : L2.St) (H : Hp) (J : List Addr) (S : List Cell) (x : D) (vx : V) (v : Value) (Q E : Value → Shared → Prop),
  Inv X pins σ H s → RepS X.K H J S → RepV X.K H J x vx → RelV vx v → Mt X pins σ H J (g x S) Q E → wpAny (model X.prog X.w) X.A (f v) Q E s
def CallD (X : Cx) (f : Value) (g : List D → M D) : Prop := ∀ (pins : Pins) (s : Shared) (σ : L2.St) (H : Hp) (J : List Addr) (S : List Cell) (xs : List D) (vs : List V) (us : List Value) (Q E : Value → Shared → Prop),
  Inv X pins σ H s → RepS X.K H J S → RepVs X.K H J xs vs → Vals vs us → Mt X pins σ H J (g xs S) Q E → wpAny (model X.prog X.w) X.A (call f us) Q E s
section
variable {X : Cx} {a b c : Expr} {fa fb fc : DSt → M D} {pos : Pos}
theorem EP.unwish {pins : Pins} {σ : L2.St} {E : Value → Shared → Prop} {Q : VK} {u : Value} {s' : Shared} (h : EP (X.wish E) pins σ Q u s') : EP X pins σ Q u s' := let ⟨v, H', I, r, q⟩ := h; ⟨v, H', I.unwish, r, q⟩
theorem OpD.of {f : Value → Value → Sem Value} {r : R2} {g : D → D → M D} (h : ∀ E, OpR (X.wish E) f r)
    (hg : ∀ (H : Hp) (J : List Addr) (S : List Cell) (x y : D) (vx vy : V) (d : D) (S' : List Cell), RepS X.K H J S → RepV X.K H J x vx → RepV X.K H J y vy → g x y S = .ok d S' → r vx vy H (Got X.K H J d S'))
    (hn : ∀ x y S c S', g x y S ≠ .exc c S') : OpD X f g := by
  intro pins s σ H J S x y vx vy v u Q E I rs rx ry rv ru m
  cases e : g x y S with
  | ok d S' =>
    rw [e] at m
    exact wpAny_mono (h E pins s σ H vx vy v u _ (I.wish E) rv ru (hg H J S x y vx vy d S' rs rx ry e)) (fun u s' q => m u s' (EP.unwish q)) fun _ _ z => z
  | exc c S' => exact absurd e (hn _ _ _ _ _)
  | bad => rw [e] at m; exact m.elim
theorem UnD.of {f : Value → Sem Value} {r : V → Hp → VK → Prop} {g : D → M D} (h : ∀ E, UnR (X.wish E) f r)
    (hg : ∀ (H : Hp) (J : List Addr) (S : List Cell) (x : D) (vx : V) (d : D) (S' : List Cell), RepS X.K H J S → RepV X.K H J x vx → g x S = .ok d S' → r vx H (Got X.K H J d S'))
    (hn : ∀ x S c S', g x S ≠ .exc c S') : UnD X f g := by
  intro pins s σ H J S x vx v Q E I rs rx rv m
  cases e : g x S with
  | ok d S' =>
    rw [e] at m
    exact wpAny_mono (h E pins s σ H vx v _ (I.wish E) rv (hg H J S x vx d S' rs rx e)) (fun u s' q => m u s' (EP.unwish q)) fun _ _ z => z
  | exc c S' => exact absurd e (hn _ _ _ _)
  | bad => rw [e] at m; exact m.elim
theorem CallD.of {f : Value} {r : List V → Hp → VK → Prop} {g : List D → M D} (h : ∀ E, CallR (X.wish E) f r)
    (hg : ∀ (H : Hp) (J : List Addr) (S : List Cell) (xs : List D) (vs : List V) (d : D) (S' : List Cell), RepS X.K H J S → RepVs X.K H J xs vs → g xs S = .ok d S' → r vs H (Got X.K H J d S'))
    (hn : ∀ xs S c S', g xs S ≠ .exc c S') : CallD X f g := by
  intro pins s σ H J S xs vs us Q E I rs rx rv m
  cases e : g xs S with
  | ok d S' =>
    rw [e] at m
    exact wpAny_mono (h E pins s σ H vs us _ (I.wish E) rv (hg H J S xs vs d S' rs rx e)) (fun u s' q => m u s' (EP.unwish q)) fun _ _ z => z
  | exc c S' => exact absurd e (hn _ _ _ _)
  | bad => rw [e] at m; exact m.elim
theorem go2 (ha : PEd X a fa) (hb : PEd X b fb) {f : Value → Value → Sem Value} {g : D → D → M D} (ho : OpD X f g) {Q E : Value → Shared → Prop} {pins : Pins} {s : Shared} {σ : L2.St} {H : Hp} {J : List Addr} {r : DSt} {S : List Cell}
    (I : At X pins σ H J r S s) (m : Mt X pins σ H J ((fa r).bind (fun x => (fb r).bind fun y => g x y) S) Q E) :
    wpAny (model X.prog X.w) X.A (eval a X.env) (fun v s₁ => wpAny (model X.prog X.w) X.A (eval b X.env) (fun u s₂ => wpAny (model X.prog X.w) X.A (f v u) Q E s₂) E s₁) E s := by
  refine ha pins s σ H J r S _ E I ?_
  unfold M.bind at m
  cases e : fa r S with
  | bad => rw [e] at m; exact m
  | exc c S1 => rw [e] at m; exact m
  | ok x S1 =>
    rw [e] at m
    intro u s' ⟨vx, H1, I1, r1, J1, ex, rs, rv⟩
    refine hb pins s' σ H1 J1 r S1 _ E ⟨I1, I.loc.ext ex, rs⟩ ?_
    dsimp only at m
    cases e2 : fb r S1 with
    | bad => rw [e2] at m; exact m
    | exc c S2 => rw [e2] at m; exact Mt.ext (r := .exc c S2) (Q := fun _ _ => True) ex m
    | ok y S2 =>
      rw [e2] at m
      intro u2 s2 ⟨vy, H2, I2, r2, J2, ex2, rs2, rv2⟩
      exact ho pins s2 σ H2 J2 S2 x y vx vy u u2 Q E I2 rs2 (rv.ext ex2) rv2 r1 r2 (Mt.ext (ex.trans ex2) m)
def dOp (g : D → D → M D) (fa fb : DSt → M D) : DSt → M D := fun r => (fa r).bind fun x => (fb r).bind fun y => g x y
theorem pd_op {op : Operator} {g : D → D → M D} (ho : OpD X (binaryOp op) g) (ha : PEd X a fa) (hb : PEd X b fb) : PEd X (.BinOp a op b pos) (dOp g fa fb) :=
  fun pins s σ H J r S Q E I m => wpAny_BinOp (go2 ha hb ho I m)
theorem pd_cmp {op : CmpOp} {g : D → D → M D} (ho : OpD X (compareOp op) g) (ha : PEd X a fa) (hb : PEd X b fb) (hm : behindInMarks op b = false) : PEd X (.Compare a [op] [b] pos) (dOp g fa fb) :=
  fun pins s σ H J r S Q E I m => wpAny_Compare1 (go2 ha hb ho I m) hm
def dVar (i : Nat) : DSt → M D := fun r S => match r[i]? with
  | some (some d) => .ok d S
  | _ => .bad
def dC (d : D) : DSt → M D := fun _ S => .ok d S
theorem Mt.ok_ {pins : Pins} {s : Shared} {σ : L2.St} {H : Hp} {J : List Addr} {S : List Cell} {d : D} {v : V} {u : Value} {Q E : Value → Shared → Prop} (m : Mt X pins σ H J (.ok d S) Q E) (I : Inv X pins σ H s) (rs : RepS X.K H J S) (rv : RepV X.K H J d v) (r : RelV v u) : Q u s :=
  m u s ⟨v, H, I, r, J, Ext.refl _ _, rs, rv⟩
theorem pd_var (i : Nat) {x : Str} (hN : X.N[i]? = some x := by rfl) (hv : Vis X.env.scope x := by first | exact Or.inl rfl | exact Or.inr (Or.inl rfl) | exact Or.inr (Or.inr rfl)) (hd : (x == ("__debug__" : Str)) = false := by decide)
    (hcd : (x == ("__classdict__" : Str)) = false := by decide) : PEd X (.Name x pos) (dVar i) := by
  intro pins s σ H J r S Q E I m
  unfold dVar at m
  cases e : r[i]? with
  | none => rw [e] at m; exact m.elim
  | some o =>
    cases o with
    | none => rw [e] at m; exact m.elim
    | some d =>
      rw [e] at m
      obtain ⟨v, h1, h2⟩ := I.loc.at_ i d e
      exact wpAny_mono (pe_var (X := X.wish E) hN hv hd hcd pins s σ H (Got X.K H J d S) (I.inv.wish E) ⟨v, h1, J, Ext.refl _ _, I.st, h2⟩) (fun u s' q => m u s' (EP.unwish q)) fun _ _ z => z
theorem pd_int {i j pos} : PEd X (.Constant (.int i) j pos) (dC (.int i)) := fun pins s σ H J r S Q E I m =>
  wpAny_Constant_int (m.ok_ (I.inv.tok _) I.st (v := .int i) (by unfold RepV; rfl) ⟨_, rfl⟩)
theorem pd_bl {i j pos} : PEd X (.Constant (.bool i) j pos) (dC (.bl i)) := fun pins s σ H J r S Q E I m =>
  Constant_bool (m.ok_ I.inv I.st (v := .bl i) (by unfold RepV; rfl) rfl)
theorem pd_str {i j pos} : PEd X (.Constant (.str i) j pos) (dC (.str i)) := fun pins s σ H J r S Q E I m =>
  Calls.Constant_str (m.ok_ (I.inv.tok _) I.st (v := .str i) (by unfold RepV; rfl) ⟨_, rfl⟩)
def KRep (K : PySem.W.Frag) (d : D) (u : Value) : Prop := ∀ H J, ∃ v, RelV v u ∧ RepV K H J d v
theorem pd_glob {x : Str} {d : D} {u : Value} {pos : Pos} (hg : Gl X x) (hm : X.mg x = some u) (kr : KRep X.K d u) (hd : (x == ("__debug__" : Str)) = false := by decide) : PEd X (.Name x pos) (dC d) := by
  intro pins s σ H J r S Q E I m
  obtain ⟨v, h1, h2⟩ := kr H J
  exact ld_glob I.inv hg hm (m.ok_ I.inv I.st h2 h1) hd
def bof : D → M Bool
  | .bl b => fun S => .ok b S
  | _ => fun _ => .bad
def dTest (f : DSt → M D) : DSt → M Bool := fun r => (f r).bind bof
theorem RepV.bl_ {K : PySem.W.Frag} {H : Hp} {J : List Addr} {b : Bool} {v : V} (h : RepV K H J (.bl b) v) : v = .bl b := by unfold RepV at h; exact h
theorem RepV.int_ {K : PySem.W.Frag} {H : Hp} {J : List Addr} {b : Int} {v : V} (h : RepV K H J (.int b) v) : v = .int b := by unfold RepV at h; exact h
theorem RepV.str_ {K : PySem.W.Frag} {H : Hp} {J : List Addr} {b : Str} {v : V} (h : RepV K H J (.str b) v) : v = .str b := by unfold RepV at h; exact h
theorem RepV.non_ {K : PySem.W.Frag} {H : Hp} {J : List Addr} {v : V} (h : RepV K H J .non v) : v = .non := by unfold RepV at h; exact h
theorem RepV.tup_ {K : PySem.W.Frag} {H : Hp} {J : List Addr} {xs : List D} {v : V} (h : RepV K H J (.tup xs) v) : ∃ a vs, v = .ref a ∧ SqT K H a vs ∧ RepVs K H J xs vs := by unfold RepV at h; exact h
theorem RepV.rol_ {K : PySem.W.Frag} {H : Hp} {J : List Addr} {xs : List D} {v : V} (h : RepV K H J (.rol xs) v) : ∃ a vs, v = .ref a ∧ RoL K H a vs ∧ RepVs K H J xs vs := by unfold RepV at h; exact h
theorem RepV.ob_ {K : PySem.W.Frag} {H : Hp} {J : List Addr} {n : Nat} {v : V} (h : RepV K H J (.ob n) v) : ∃ a, v = .ref a ∧ J[n]? = some a := by unfold RepV at h; exact h
theorem RepV.xn_ {K : PySem.W.Frag} {H : Hp} {J : List Addr} {n : Nat} {v : V} (h : RepV K H J (.xn n) v) : ∃ a, v = .ref a ∧ H a = some (XO a n) := by unfold RepV at h; exact h
theorem RepV.int (K : PySem.W.Frag) (H : Hp) (J : List Addr) (b : Int) : RepV K H J (.int b) (.int b) := by unfold RepV; rfl
theorem RepV.bl (K : PySem.W.Frag) (H : Hp) (J : List Addr) (b : Bool) : RepV K H J (.bl b) (.bl b) := by unfold RepV; rfl
theorem RepV.str (K : PySem.W.Frag) (H : Hp) (J : List Addr) (b : Str) : RepV K H J (.str b) (.str b) := by unfold RepV; rfl
theorem RepV.non (K : PySem.W.Frag) (H : Hp) (J : List Addr) : RepV K H J .non .non := by unfold RepV; rfl
theorem RepV.tup {K : PySem.W.Frag} {H : Hp} {J : List Addr} {xs : List D} {a : Addr} {vs : List V} (h : SqT K H a vs) (g : RepVs K H J xs vs) : RepV K H J (.tup xs) (.ref a) := by unfold RepV; exact ⟨a, vs, rfl, h, g⟩
theorem RepV.ob {K : PySem.W.Frag} {H : Hp} {J : List Addr} {n : Nat} {a : Addr} (h : J[n]? = some a) : RepV K H J (.ob n) (.ref a) := by unfold RepV; exact ⟨a, rfl, h⟩
theorem MtB.of_test {pins : Pins} {σ : L2.St} {H : Hp} {J : List Addr} {rd : R D} {S : List Cell} {f : DSt → M D} {r : DSt} {Q : Bool → Shared → Prop} {E : Value → Shared → Prop} (m : MtB X pins σ H J (dTest f r S) Q E) :
    Mt X pins σ H J (f r S) (fun v s' => wpAny (model X.prog X.w) X.A (truthy v) Q E s') E := by
  unfold dTest M.bind at m
  cases e : f r S with
  | bad => rw [e] at m; exact m
  | exc c S1 => rw [e] at m; exact m
  | ok x S1 =>
    rw [e] at m
    intro u s' ⟨vx, H1, I1, r1, J1, ex, rs, rv⟩
    cases x with
    | bl b =>
      cases rv.bl_
      cases r1
      exact wpAny_truthy_bool (m s' ⟨H1, I1, J1, ex, rs⟩)
    | _ => exact m.elim
theorem pt_cmpD {op : CmpOp} {g : D → D → M D} (ho : OpD X (compareOp op) g) (ha : PEd X a fa) (hb : PEd X b fb) (hm : behindInMarks op b = false) : PTd X (.Compare a [op] [b] pos) (dTest (dOp g fa fb)) := by
  intro pins s σ H J r S Q E I m
  refine wpAny_isTrue_Compare1 ?_ hm
  have m' := MtB.of_test (rd := .bad) m
  have := go2 ha hb ho I m'
  exact this
def dAnd (t u : DSt → M Bool) : DSt → M Bool := fun r => (t r).bind fun c => if c = true then u r else M.ret false
def dOr (t u : DSt → M Bool) : DSt → M Bool := fun r => (t r).bind fun c => if c = true then M.ret true else u r
def dNot (t : DSt → M Bool) : DSt → M Bool := fun r => (t r).bind fun c => M.ret (!c)
variable {tA tB' : DSt → M Bool} {rest : List Expr}
theorem goB {t : Sem Bool} {f : M Bool} {k : Bool → M Bool} {pins : Pins} {s : Shared} {σ : L2.St} {H : Hp} {J : List Addr} {r : DSt} {S : List Cell} {Q : Bool → Shared → Prop} {Q' : Bool → Shared → Prop} {E : Value → Shared → Prop} (I : At X pins σ H J r S s)
    (ha : ∀ Q1, MtB X pins σ H J (f S) Q1 E → wpAny (model X.prog X.w) X.A t Q1 E s) (m : MtB X pins σ H J (f.bind k S) Q E)
    (hk : ∀ c S1 s1 H1 J1, At X pins σ H1 J1 r S1 s1 → MtB X pins σ H1 J1 (k c S1) Q E → Q' c s1) : wpAny (model X.prog X.w) X.A t Q' E s := by
  refine ha _ ?_
  unfold M.bind at m
  cases e : f S with
  | bad => rw [e] at m; exact m
  | exc c S1 => rw [e] at m; exact m
  | ok x S1 =>
    rw [e] at m
    intro s' ⟨H1, I1, J1, ex, rs⟩
    exact hk x S1 s' H1 J1 ⟨I1, I.loc.ext ex, rs⟩ (MtB.ext ex m)
theorem pwd_or1 (ha : PTd X a tA) : PWd X (.BoolOp .Or [a] pos) tA := by
  intro wh pins s σ H J r S Q E I m
  refine isTrue_or (ha pins s σ H J r S _ E I ?_)
  cases e : tA r S with
  | bad => rw [e] at m; exact m
  | exc c S1 => rw [e] at m; exact m
  | ok x S1 =>
    rw [e] at m
    intro s' h
    cases x with
    | false => exact isTrue_or_nil (m s' h)
    | true => exact m s' h
theorem MtB.ok_ {pins : Pins} {s : Shared} {σ : L2.St} {H : Hp} {J : List Addr} {r : DSt} {S : List Cell} {b : Bool} {Q : Bool → Shared → Prop} {E : Value → Shared → Prop} (m : MtB X pins σ H J (.ok b S) Q E) (I : At X pins σ H J r S s) : Q b s :=
  m s ⟨H, I.inv, J, Ext.refl _ _, I.st⟩
theorem pwd_or (ha : PTd X a tA) (hb : PWd X (.BoolOp .Or (b :: rest) pos) tB') : PWd X (.BoolOp .Or (a :: b :: rest) pos) (dOr tA tB') := by
  intro wh pins s σ H J r S Q E I m
  refine isTrue_or (goB (r := r) I (fun Q1 => ha pins s σ H J r S Q1 E I) m fun c S1 s1 H1 J1 I1 m1 => ?_)
  cases c with
  | false => exact hb wh pins s1 σ H1 J1 r S1 Q E I1 m1
  | true => exact m1.ok_ I1
theorem ptd_not (ha : PTd X a tA) : PTd X (.UnaryOp .Not a pos) (dNot tA) := by
  intro pins s σ H J r S Q E I m
  exact isTrue_not (goB (r := r) I (fun Q1 => ha pins s σ H J r S Q1 E I) m fun c S1 s1 H1 J1 I1 m1 => m1.ok_ I1)
def dAndV (fa fb : DSt → M D) : DSt → M D := fun r => (dTest fa r).bind fun c => if c = true then fb r else M.ret (.bl false)
def dOrV (fa fb : DSt → M D) : DSt → M D := fun r => (dTest fa r).bind fun c => if c = true then M.ret (.bl true) else fb r
def dNotV (fa : DSt → M D) : DSt → M D := fun r => (dTest fa r).bind fun c => M.ret (.bl (!c))
theorem goV (ha : PEd X a fa) {k : Bool → M D} {pins : Pins} {s : Shared} {σ : L2.St} {H : Hp} {J : List Addr} {r : DSt} {S : List Cell} {Q Q' : Value → Shared → Prop} {E : Value → Shared → Prop} (I : At X pins σ H J r S s)
    (m : Mt X pins σ H J ((dTest fa r).bind k S) Q E) (hk : ∀ c S1 s1 H1 J1, At X pins σ H1 J1 r S1 s1 → Mt X pins σ H1 J1 (k c S1) Q E → Q' (.bool c) s1) : wpAny (model X.prog X.w) X.A (eval a X.env) Q' E s := by
  refine ha pins s σ H J r S _ E I ?_
  unfold dTest M.bind at m
  cases e : fa r S with
  | bad => rw [e] at m; exact m
  | exc c S1 => rw [e] at m; exact m
  | ok x S1 =>
    rw [e] at m
    intro u s' ⟨vx, H1, I1, r1, J1, ex, rs, rv⟩
    cases x with
    | bl b =>
      cases rv.bl_
      cases r1
      exact hk b S1 s' H1 J1 ⟨I1, I.loc.ext ex, rs⟩ (Mt.ext ex m)
    | _ => exact m.elim
theorem pd_one {op} (h : PEd X a fa) : PEd X (.BoolOp op [a] pos) fa := fun pins s σ H J r S Q E I m => BoolOp_one (h pins s σ H J r S Q E I m)
theorem pd_and (ha : PEd X a fa) (hb : PEd X (.BoolOp .And (b :: rest) pos) fb) : PEd X (.BoolOp .And (a :: b :: rest) pos) (dAndV fa fb) := by
  intro pins s σ H J r S Q E I m
  refine BoolOp_and (goV ha I m fun c S1 s1 H1 J1 I1 m1 => wpAny_truthy_bool ?_)
  cases c with
  | true => exact hb pins s1 σ H1 J1 r S1 Q E I1 m1
  | false => exact m1.ok_ I1.inv I1.st (RepV.bl _ _ _ false) rfl
def dIf (t : DSt → M Bool) (fa fb : DSt → M D) : DSt → M D := fun r => (t r).bind fun c => if c = true then fa r else fb r
def dChain (g g' : D → D → M D) (fa fb fc : DSt → M D) : DSt → M D := fun r => (fa r).bind fun x => (fb r).bind fun y => ((g x y).bind bof).bind fun k => if k = true then (fc r).bind fun z => g' y z else M.ret (.bl false)
end
end DL
namespace DL
open PySem PySem.Spec PyProof.Rows L2
section
variable {X : Cx} {a b c : Expr} {fa fb fc : DSt → M D} {pos : Pos}
def dNil : DSt → M (List D) := fun _ => M.ret []
def dCons (f : DSt → M D) (g : DSt → M (List D)) : DSt → M (List D) := fun r => (f r).bind fun x => (g r).bind fun xs => M.ret (x :: xs)
variable {e : Expr} {es : List Expr} {fe : DSt → M D} {ft : DSt → M (List D)}
theorem pad_nil : PAd X [] dNil := fun _ pins s σ H J r S Q E I m => Calls.spliced_nil (m [] s ⟨[], H, I.inv, .nil, J, Ext.refl _ _, I.st, .nil⟩)
theorem pad_cons (ha : PEd X e fe) (hr : PAd X es ft) (hs : starEach (e :: es) X.env = (false, eval e X.env) :: starEach es X.env := by rfl) : PAd X (e :: es) (dCons fe ft) := by
  intro pos pins s σ H J r S Q E I m
  rw [hs]
  show wpAny _ _ (spliced ((false, eval e X.env) :: backTo pos (starEach es X.env))) _ _ s
  refine Calls.spliced_cons (ha pins s σ H J r S _ E I ?_)
  unfold dCons M.bind at m
  cases e1 : fe r S with
  | bad => rw [e1] at m; exact m
  | exc c S1 => rw [e1] at m; exact m
  | ok x S1 =>
    rw [e1] at m
    intro v s1 ⟨vx, H1, I1, r1, J1, ex1, rs1, rv1⟩
    refine hr pos pins s1 σ H1 J1 r S1 _ E ⟨I1, I.loc.ext ex1, rs1⟩ ?_
    have m := MtA.ext ex1 m
    dsimp only at m
    cases e2 : ft r S1 with
    | bad => rw [e2] at m; exact m
    | exc c S2 => rw [e2] at m; exact m
    | ok xs S2 =>
      rw [e2] at m
      intro us s2 ⟨vs, H2, I2, r2, J2, ex2, rs2, rv2⟩
      exact m (v :: us) s2 ⟨vx :: vs, H2, I2, .cons r1 r2, J2, ex2, rs2, .cons (rv1.ext ex2) rv2⟩
theorem goA (h : PAd X es ft) {k : List D → M D} {pins : Pins} {s : Shared} {σ : L2.St} {H : Hp} {J : List Addr} {r : DSt} {S : List Cell} {Q E : Value → Shared → Prop} {Q' : List Value → Shared → Prop} (I : At X pins σ H J r S s)
    (m : Mt X pins σ H J ((ft r).bind k S) Q E) (hk : ∀ xs S1 s1 H1 J1 vs us, At X pins σ H1 J1 r S1 s1 → RepVs X.K H1 J1 xs vs → Vals vs us → Mt X pins σ H1 J1 (k xs S1) Q E → Q' us s1) (pos : Pos) :
    wpAny (model X.prog X.w) X.A (spliced (backTo pos (starEach es X.env))) Q' E s := by
  refine h pos pins s σ H J r S _ E I ?_
  unfold M.bind at m
  cases e1 : ft r S with
  | bad => rw [e1] at m; exact m
  | exc c S1 => rw [e1] at m; exact m
  | ok x S1 =>
    rw [e1] at m
    intro us s1 ⟨vs, H1, I1, r1, J1, ex1, rs1, rv1⟩
    exact hk x S1 s1 H1 J1 vs us ⟨I1, I.loc.ext ex1, rs1⟩ rv1 r1 (Mt.ext ex1 m)
noncomputable def newTup (xs : List D) : M D := fun S => cif (xs.length ≤ sizeLine) (.ok (.tup xs) S) .bad
noncomputable def newLst (xs : List D) : M D := fun S => cif (xs.length ≤ sizeLine) (.ok (.ob S.length) (S ++ [.lst xs])) .bad
theorem Got.tup {K : PySem.W.Frag} {H : Hp} {J : List Addr} {S : List Cell} {xs : List D} {vs : List V} {p : Addr} (rs : RepS K H J S) (rv : RepVs K H J xs vs) (hp : H p = none) : Got K H J (.tup xs) S (.ref p) (upd H p (.tup vs)) :=
  ⟨J, Ext.new hp, rs.new hp, .tup (SqT.of upd_same) (rv.ext (Ext.new hp))⟩
theorem Got.lst {K : PySem.W.Frag} {H : Hp} {J : List Addr} {S : List Cell} {xs : List D} {vs : List V} {p : Addr} (rs : RepS K H J S) (rv : RepVs K H J xs vs) (hp : H p = none) : Got K H J (.ob S.length) (S ++ [.lst xs]) (.ref p) (upd H p (.lst vs)) :=
  ⟨J ++ [p], (Ext.new hp).snoc _, rs.push hp ⟨vs, upd_same, rv.ext ((Ext.new hp).snoc _)⟩, .ob (by rw [← rs.len]; simp)⟩
theorem Mt.val {pins : Pins} {s : Shared} {σ : L2.St} {H H' : Hp} {J : List Addr} {S : List Cell} {d : D} {v : V} {u : Value} {Q E : Value → Shared → Prop} (m : Mt X pins σ H J (.ok d S) Q E) (I : Inv X pins σ H' s) (r : RelV v u) (g : Got X.K H J d S v H') : Q u s :=
  m u s ⟨v, H', I, r, g⟩
noncomputable def dTup (ft : DSt → M (List D)) : DSt → M D := fun r => (ft r).bind newTup
noncomputable def dLst (ft : DSt → M (List D)) : DSt → M D := fun r => (ft r).bind newLst
theorem pd_tup {x1} (h : PAd X es ft) : PEd X (.Tuple es x1 pos) (dTup ft) := by
  intro pins s σ H J r S Q E I m
  refine wpAny_Tuple_spliced (goA h I m (fun xs S1 s1 H1 J1 vs us I1 rv r1 m1 => ?_) pos)
  unfold newTup cif at m1
  split at m1
  · rename_i z
    have z' : vs.length ≤ sizeLine := by rw [rv.length]; exact z
    refine ⟨by rw [← r1.length]; exact z', ?_⟩
    have hf : H1 s1.heap.objs.size = none := I1.inv.hok.fresh (Nat.le_refl _)
    refine m1.val (H' := upd H1 s1.heap.objs.size (.tup vs)) (v := .ref s1.heap.objs.size) (I1.inv.laid (t' := s1.toks) (fun b u e => Heap.get?_push_of_some _ e) (Nat.le_refl _) ?_) rfl (Got.tup I1.st rv hf)
    exact ⟨z', us, r1, ⟨_, Heap.get?_push_size _ rfl, rfl, _, rfl⟩⟩
  · exact m1.elim
theorem pd_lst (h : PAd X es ft) : PEd X (.List es pos) (dLst ft) := by
  intro pins s σ H J r S Q E I m
  refine wpAny_List_spliced (goA h I m (fun xs S1 s1 H1 J1 vs us I1 rv r1 m1 => ?_) pos)
  unfold newLst cif at m1
  split at m1
  · rename_i z
    have z' : vs.length ≤ sizeLine := by rw [rv.length]; exact z
    refine ⟨by rw [← r1.length]; exact z', ?_⟩
    have hf : H1 s1.heap.objs.size = none := I1.inv.hok.fresh (Nat.le_refl _)
    refine m1.val (H' := upd H1 s1.heap.objs.size (.lst vs)) (v := .ref s1.heap.objs.size) (I1.inv.laid (t' := s1.toks) (fun b u e => Heap.get?_push_of_some _ e) (Nat.le_refl _) ?_) rfl (Got.lst I1.st rv hf)
    exact ⟨z', us, 0, r1, Heap.get?_push_size _ rfl⟩
  · exact m1.elim
def IxD (X : Cx) (g : D → D → M D) : Prop := ∀ (value slice : Expr) (pins : Pins) (s : Shared) (σ : L2.St) (H : Hp) (J : List Addr) (S : List Cell) (x y : D) (vx vy : V) (v u : Value) (Q E : Value → Shared → Prop),
  Inv X pins σ H s → RepS X.K H J S → RepV X.K H J x vx → RepV X.K H J y vy → RelV vx v → RelV vy u → subscripted slice false v u = operate [v, u] (getItem v u) → Mt X pins σ H J (g x y S) Q E → wpAny (model X.prog X.w) X.A (subscriptTail value slice v u) Q E s
theorem IxD.of {r : R2} {g : D → D → M D} (h : ∀ E, IxR (X.wish E) r)
    (hg : ∀ (H : Hp) (J : List Addr) (S : List Cell) (x y : D) (vx vy : V) (d : D) (S' : List Cell), RepS X.K H J S → RepV X.K H J x vx → RepV X.K H J y vy → g x y S = .ok d S' → r vx vy H (Got X.K H J d S'))
    (hn : ∀ x y S c S', g x y S ≠ .exc c S') : IxD X g := by
  intro value slice pins s σ H J S x y vx vy v u Q E I rs rx ry rv ru hs m
  cases e : g x y S with
  | ok d S' =>
    rw [e] at m
    exact wpAny_mono (h E value slice pins s σ H vx vy v u _ (I.wish E) rv ru (hg H J S x y vx vy d S' rs rx ry e) hs) (fun u s' q => m u s' (EP.unwish q)) fun _ _ z => z
  | exc c S' => exact absurd e (hn _ _ _ _ _)
  | bad => rw [e] at m; exact m.elim
theorem pd_ix {g : D → D → M D} (hr : IxD X g) (ha : PEd X a fa) (hb : PEd X b fb) (hs : PlainIx b) : PEd X (.Subscript a b pos) (dOp g fa fb) := by
  intro pins s σ H J r S Q E I m
  refine Subscript_ (ha pins s σ H J r S _ E I ?_)
  unfold dOp M.bind at m
  cases e : fa r S with
  | bad => rw [e] at m; exact m
  | exc c S1 => rw [e] at m; exact m
  | ok x S1 =>
    rw [e] at m
    intro u s' ⟨vx, H1, I1, r1, J1, ex, rs, rv⟩
    refine hb pins s' σ H1 J1 r S1 _ E ⟨I1, I.loc.ext ex, rs⟩ ?_
    dsimp only at m
    have m := Mt.ext ex m
    cases e2 : fb r S1 with
    | bad => rw [e2] at m; exact m
    | exc c S2 => rw [e2] at m; exact m
    | ok y S2 =>
      rw [e2] at m
      intro u2 s2 ⟨vy, H2, I2, r2, J2, ex2, rs2, rv2⟩
      exact hr a b pins s2 σ H2 J2 S2 x y vx vy u u2 Q E I2 rs2 (rv.ext ex2) rv2 r1 r2 (hs _ _) (Mt.ext ex2 m)
def MtO (X : Cx) (pins : Pins) (σ : L2.St) (H : Hp) (J : List Addr) (r : R (Option Int)) (Q : Value → Shared → Prop) (E : Value → Shared → Prop) : Prop := match r with
  | .ok o S' => ∀ u s' H', Inv X pins σ H' s' → Gone X.K H J S' H' → IsPart u o → Q u s'
  | .exc c S' => ∀ e s', XP X pins σ c (Gone X.K H J S') e s' → E e s'
  | .bad => False
def POd (X : Cx) (e : Option Expr) (f : DSt → M (Option Int)) : Prop := ∀ (pins : Pins) (s : Shared) (σ : L2.St) (H : Hp) (J : List Addr) (r : DSt) (S : List Cell) (Q E : Value → Shared → Prop),
  At X pins σ H J r S s → MtO X pins σ H J (f r S) Q E → wpAny (model X.prog X.w) X.A (evalPart e X.env) Q E s
def dNoPart : DSt → M (Option Int) := fun _ => M.ret none
def intOf : D → M (Option Int)
  | .int i => M.ret (some i)
  | _ => M.bad
def dPart (f : DSt → M D) : DSt → M (Option Int) := fun r => (f r).bind intOf
theorem pod_none : POd X none dNoPart := by
  intro pins s σ H J r S Q E I m
  rw [evalPart_none]
  exact wpAny_pure (m .none s H I.inv ⟨J, Ext.refl _ _, I.st⟩ .none)
theorem pod_some (h : PEd X e fe) : POd X (some e) (dPart fe) := by
  intro pins s σ H J r S Q E I m
  rw [evalPart_some]
  refine h pins s σ H J r S _ E I ?_
  unfold dPart M.bind at m
  cases e1 : fe r S with
  | bad => rw [e1] at m; exact m
  | exc c S1 => rw [e1] at m; exact m
  | ok x S1 =>
    rw [e1] at m
    intro u s' ⟨vx, H1, I1, r1, J1, ex, rs, rv⟩
    cases x with
    | int i =>
      cases rv.int_
      obtain ⟨t, rfl⟩ := r1
      exact m _ s' H1 I1 ⟨J1, ex, rs⟩ (.int i t)
    | _ => exact m.elim
def SlD (X : Cx) (g : D → Option Int → Option Int → M D) : Prop := ∀ (pins : Pins) (s : Shared) (σ : L2.St) (H : Hp) (J : List Addr) (S : List Cell) (x : D) (vx : V) (v vl vu : Value) (lo hi : Option Int) (sl : Addr) (Q E : Value → Shared → Prop),
  Inv X pins σ H s → RepS X.K H J S → RepV X.K H J x vx → RelV vx v → s.heap.IsSliceOf sl vl vu .none → IsPart vl lo → IsPart vu hi → Mt X pins σ H J (g x lo hi S) Q E →
    ∃ T id, typeLookup (.type T) "__getitem__" = pure (some (.builtin id)) ∧ s.TypeIs v T ∧ wpAny (model X.prog X.w) X.A (getItem v (.ref sl)) Q E s
def dSl (g : D → Option Int → Option Int → M D) (fe : DSt → M D) (fl fh : DSt → M (Option Int)) : DSt → M D := fun r => (fe r).bind fun x => (fl r).bind fun l => (fh r).bind fun h => g x l h
theorem pd_slice {g : D → Option Int → Option Int → M D} {lo hi : Option Expr} {fl fh : DSt → M (Option Int)} {p2 : Pos} (hr : SlD X g) (he : PEd X e fe) (hl : POd X lo fl) (hu : POd X hi fh) : PEd X (.Subscript e (.Slice lo hi none p2) pos) (dSl g fe fl fh) := by
  intro pins s σ H J r S Q E I m
  refine Subscript_ (he pins s σ H J r S _ E I ?_)
  unfold dSl M.bind at m
  cases e1 : fe r S with
  | bad => rw [e1] at m; exact m
  | exc c S1 => rw [e1] at m; exact m
  | ok x S1 =>
    rw [e1] at m
    intro v s1 ⟨vx, H1, I1, r1, J1, ex1, rs1, rv1⟩
    refine wpAny_Slice (hl pins s1 σ H1 J1 r S1 _ E ⟨I1, I.loc.ext ex1, rs1⟩ ?_)
    have m := Mt.ext ex1 m
    dsimp only at m
    cases e2 : fl r S1 with
    | bad => rw [e2] at m; exact m
    | exc c S2 => rw [e2] at m; exact m
    | ok l S2 =>
      rw [e2] at m
      intro vl s2 H2 I2 ⟨J2, ex2, rs2⟩ pl
      have m := Mt.ext ex2 m
      dsimp only at m
      refine hu pins s2 σ H2 J2 r S2 _ E ⟨I2, (I.loc.ext ex1).ext ex2, rs2⟩ ?_
      cases e3 : fh r S2 with
      | bad => rw [e3] at m; exact m
      | exc c S3 => rw [e3] at m; exact m
      | ok u S3 =>
        rw [e3] at m
        intro vu s3 H3 I3 ⟨J3, ex3, rs3⟩ pu
        have m := Mt.ext ex3 m
        rw [evalPart_none]
        refine wpAny_pure ?_
        have I4 : Inv X pins σ H3 { s3 with heap := s3.heap.push { cls := .type "slice", data := .fields #[vl, vu, .none] } } := I3.kept (t' := s3.toks) fun b ob q => Heap.get?_push_of_some _ q
        obtain ⟨T, id, hT, ht, hg⟩ := hr pins { s3 with heap := s3.heap.push { cls := .type "slice", data := .fields #[vl, vu, .none] } } σ H3 J3 S3 x vx v vl vu l u s3.heap.objs.size Q E I4 rs3 ((rv1.ext ex2).ext ex3) r1 (Heap.IsSliceOf.new ..) pl pu m
        show wpAny (model X.prog X.w) X.A (subscriptTail e (.Slice lo hi none p2) v (.ref s3.heap.objs.size)) Q E { s3 with heap := s3.heap.push { cls := .type "slice", data := .fields #[vl, vu, .none] } }
        exact tail_any (ops := [.ref s3.heap.objs.size, v]) ht hT hg (by with_unfolding_all rfl)
def dCall (g : List D → M D) (ft : DSt → M (List D)) : DSt → M D := fun r => (ft r).bind g
theorem pd_callB {x : Str} {p : Pos} {id : String} {g : List D → M D} (hc : CallD X (.builtin id) g) (hg : Gl X x) (hm : X.mg x = none) (hv : bootBuiltins x = some (.builtin id)) (ha : PAd X (e :: es) ft) (hn : x ≠ "__name__" := by decide) (hdb : (x == ("__debug__" : Str)) = false := by decide)
    (he : starEach (e :: es) X.env = (false, eval e X.env) :: starEach es X.env := by rfl) (hpl : (backTo pos (starEach es X.env)).any (·.1) = false := by rfl) : PEd X (.Call (.Name x p) (e :: es) [] pos) (dCall g ft) := by
  intro pins s σ H J r S Q E I m
  refine wpAny_Call_Name_kw (ld_blt I.inv hg hm hv ?_ hn hdb)
  exact PyProof.Rows.callWith_builtin1 (goA ha I m (fun xs S1 s1 H1 J1 vs us I1 rv r1 m1 => hc pins s1 σ H1 J1 S1 xs vs us Q E I1.inv I1.st rv r1 m1) pos) he hpl
theorem pd_callTy {x : Str} {p : Pos} {T : String} {g : List D → M D} (hc : CallD X (.type T) g) (hg : Gl X x) (hm : X.mg x = none) (hv : bootBuiltins x = some (.type T)) (ha : PAd X (e :: es) ft) (hn : x ≠ "__name__" := by decide) (hdb : (x == ("__debug__" : Str)) = false := by decide)
    (he : starEach (e :: es) X.env = (false, eval e X.env) :: starEach es X.env := by rfl) (hpl : (backTo pos (starEach es X.env)).any (·.1) = false := by rfl) : PEd X (.Call (.Name x p) (e :: es) [] pos) (dCall g ft) := by
  intro pins s σ H J r S Q E I m
  refine wpAny_Call_Name_kw (ld_blt I.inv hg hm hv ?_ hn hdb)
  exact PyProof.Rows.callWith_type1 (goA ha I m (fun xs S1 s1 H1 J1 vs us I1 rv r1 m1 => hc pins s1 σ H1 J1 S1 xs vs us Q E I1.inv I1.st rv r1 m1) pos) he hpl
def spD (K : PySem.W.Frag) (n : Nat) (F : List D → M D) : Sp := fun vs H Q E => vs.length = n ∧ ∃ J xs S, RepVs K H J xs vs ∧ RepS K H J S ∧ match F xs S with
  | .ok d S' => ∀ v H', Got K H J d S' v H' → Q v H'
  | .exc c S' => ∀ H', Gone K H J S' H' → E (.ref c) none H'
  | .bad => False
def PassD (CX : CXT) (X : Cx) : Prop := ∀ (E0 : XK) (pins : Pins) (σ : L2.St) (H : Hp) (s : Shared) (e : Value) (s' : Shared), Inv X pins σ H s → CX X.stack H s E0 e s' → ∃ c H', XInv X pins σ H' s' e c ∧ E0 (.ref c) none H'
abbrev FnD (P : Program) (w : World) (K : PySem.W.Frag) (mg : Str → Option Value) (base : Heap) (CX : CXT) (k : Nat) (f : Addr) (fd : FuncData) (ps : List Str) (F : List D → M D) : Prop := FnOk P w K mg base CX k f fd ps (spD K ps.length F)
theorem run_fnD {CX : CXT} {k : Nat} {f : Addr} {fd : FuncData} {ps : List Str} {F : List D → M D} {pins : Pins} {σ : L2.St} {H : Hp} {J : List Addr} {S : List Cell} {s : Shared} {Q E : Value → Shared → Prop} {xs : List D} {vs : List V} {us : List Value}
    (hF : FnD X.prog X.w X.K X.mg X.base CX k f fd ps F) (hr : Room k X.A) (hb : Binds X.K fd ps []) (hx : PassD CX X) (I : Inv X pins σ H s) (rs : RepS X.K H J S) (rx : RepVs X.K H J xs vs) (rv : Vals vs us) (hl : xs.length = ps.length)
    (m : Mt X pins σ H J (F xs S) Q E) : wpAny (model X.prog X.w) X.A (call (.ref f) us) Q E s := by
  have hlen : (us ++ []).length = ps.length := by rw [List.append_nil, ← rv.length, rx.length]; exact hl
  have hbs := hb s us I.kIn hlen
  rw [List.append_nil] at hbs
  refine wpAny_call (codeAny_mono (hF.run X.A X.stack s H ⟨us, []⟩ us vs (fun v H' => ∃ d S', F xs S = .ok d S' ∧ Got X.K H J d S' v H') (fun cl _ H' => ∃ c S', F xs S = .exc c S' ∧ cl = .ref c ∧ Gone X.K H J S' H') hr I.env0 hbs rv ?_) fun rr s' hq => ?_)
  · refine ⟨by rw [rx.length]; exact hl, J, xs, S, rx, rs, ?_⟩
    cases e : F xs S with
    | ok d S' => exact fun v H' g => ⟨d, S', rfl, g⟩
    | exc c S' => exact fun H' g => ⟨c, S', rfl, rfl, g⟩
    | bad => rw [e] at m; exact m
  · cases rr with
    | error e =>
      obtain ⟨c, H', XI, c', S', e1, e2, g⟩ := hx _ pins σ H s e s' I hq
      cases e2
      rw [e1] at m
      exact m e s' ⟨H', XI, g⟩
    | ok fl =>
      cases fl with
      | ret u =>
        obtain ⟨v, H', I', r', d, S', e1, g⟩ := I.after hq
        rw [e1] at m
        exact m u s' ⟨v, H', I', r', g⟩
      | next => exact False.elim hq
      | brk => exact False.elim hq
      | cont => exact False.elim hq
theorem pd_call {CX : CXT} {k : Nat} {f : Addr} {fd : FuncData} {ps : List Str} {F : List D → M D} {x : Str} {p : Pos} (hF : FnD X.prog X.w X.K X.mg X.base CX k f fd ps F) (hr : Room k X.A) (hg : Gl X x) (hm : X.mg x = some (.ref f)) (hk : PySem.W.keepIn X.K (.ref f) = true)
    (hb : Binds X.K fd ps []) (hx : PassD CX X) (ha : PAd X (e :: es) ft) (hl : ∀ r S xs S', ft r S = .ok xs S' → xs.length = ps.length)
    (hdb : (x == ("__debug__" : Str)) = false := by decide) (he : starEach (e :: es) X.env = (false, eval e X.env) :: starEach es X.env := by rfl) (hpl : (backTo pos (starEach es X.env)).any (·.1) = false := by rfl) :
    PEd X (.Call (.Name x p) (e :: es) [] pos) (dCall F ft) := by
  intro pins s σ H J r S Q E I m
  refine wpAny_Call_Name_kw (ld_glob I.inv hg hm ?_ hdb)
  refine PySem.W.callWith_K (h₀ := X.base) I.inv.ok.mod.kin hk ?_ he hpl
  refine ha pos pins s σ H J r S _ E I ?_
  unfold dCall M.bind at m
  cases e1 : ft r S with
  | bad => rw [e1] at m; exact m
  | exc c S1 => rw [e1] at m; exact m
  | ok xs S1 =>
    rw [e1] at m
    intro us s1 ⟨vs, H1, I1, r1, J1, ex1, rs1, rv1⟩
    exact ⟨I1.kIn, run_fnD hF hr hb hx I1 rs1 rv1 r1 (hl r S xs S1 e1) (Mt.ext ex1 m)⟩
end
end DL
namespace DL
open PySem PySem.Spec PyProof.Rows L2
inductive Fl where
  | nx (r : DSt) | rt (d : D) | bk (r : DSt) | ct (r : DSt) | xc (c : Addr) (r : DSt)
abbrev RSt := Option (Fl × List Cell)
abbrev TSt := DSt → List Cell → RSt
def MtS (X : Cx) (pins : Pins) (H : Hp) (J : List Addr) (x : RSt) (Q : Flow → Shared → Prop) (E : Value → Shared → Prop) : Prop := match x with
  | none => False
  | some (.nx r', S') => ∀ s' σ' H' J', At X pins σ' H' J' r' S' s' → Ext H J H' J' → Q .next s'
  | some (.bk r', S') => ∀ s' σ' H' J', At X pins σ' H' J' r' S' s' → Ext H J H' J' → Q .brk s'
  | some (.ct r', S') => ∀ s' σ' H' J', At X pins σ' H' J' r' S' s' → Ext H J H' J' → Q .cont s'
  | some (.rt d, S') => ∀ u s' σ', EP X pins σ' (Got X.K H J d S') u s' → Q (.ret u) s'
  | some (.xc c r', S') => ∀ e s' σ' H' J', XInv X pins σ' H' s' e c → RepL X.K H' J' r' σ' → RepS X.K H' J' S' → Ext H J H' J' → E e s'
theorem MtS.ext {X : Cx} {pins : Pins} {H H1 : Hp} {J J1 : List Addr} {x : RSt} {Q : Flow → Shared → Prop} {E : Value → Shared → Prop} (e : Ext H J H1 J1) (h : MtS X pins H J x Q E) : MtS X pins H1 J1 x Q E := by
  match x, h with
  | none, h => exact h
  | some (.nx r', S'), h => exact fun s' σ' H' J' a x => h s' σ' H' J' a (e.trans x)
  | some (.bk r', S'), h => exact fun s' σ' H' J' a x => h s' σ' H' J' a (e.trans x)
  | some (.ct r', S'), h => exact fun s' σ' H' J' a x => h s' σ' H' J' a (e.trans x)
  | some (.rt d, S'), h => exact fun u s' σ' ⟨v, H', I, rv, g⟩ => h u s' σ' ⟨v, H', I, rv, g.ext e⟩
  | some (.xc c r', S'), h => exact fun u s' σ' H' J' a b c x => h u s' σ' H' J' a b c (e.trans x)
def PSd (X : Cx) (st : Stmt) (t : TSt) : Prop := ∀ (pins : Pins) (s : Shared) (σ : L2.St) (H : Hp) (J : List Addr) (r : DSt) (S : List Cell) (Q : Flow → Shared → Prop) (E : Value → Shared → Prop),
  At X pins σ H J r S s → MtS X pins H J (t r S) Q E → wpAny (model X.prog X.w) X.A (exec st X.env) Q E s
def PSsd (X : Cx) (st : List Stmt) (t : TSt) : Prop := ∀ (pins : Pins) (s : Shared) (σ : L2.St) (H : Hp) (J : List Addr) (r : DSt) (S : List Cell) (Q : Flow → Shared → Prop) (E : Value → Shared → Prop),
  At X pins σ H J r S s → MtS X pins H J (t r S) Q E → wpAny (model X.prog X.w) X.A (execs st X.env) Q E s
def sBind {α : Type} (m : M α) (r : DSt) (k : α → List Cell → RSt) : List Cell → RSt := fun S => match m S with
  | .ok a S' => k a S'
  | .exc c S' => some (.xc c r, S')
  | .bad => none
def sNext : TSt := fun r S => some (.nx r, S)
def sSeq (t u : TSt) : TSt := fun r S => match t r S with
  | some (.nx r', S') => u r' S'
  | o => o
section
variable {X : Cx} {st : Stmt} {rest : List Stmt} {t u : TSt} {e : Expr} {fe : DSt → M D} {pos : Pos}
theorem ssd_nil : PSsd X [] sNext := fun pins s σ H J r S Q E I m => wpAny_execs_nil (m s σ H J I (Ext.refl _ _))
theorem ssd_cons (h1 : PSd X st t) (h2 : PSsd X rest u) : PSsd X (st :: rest) (sSeq t u) := by
  intro pins s σ H J r S Q E I m
  refine wpAny_execs_cons (h1 pins s σ H J r S _ E I ?_)
  unfold sSeq at m
  match e : t r S with
  | none => rw [e] at m; exact m
  | some (.nx r', S') =>
    rw [e] at m
    exact fun s' σ' H' J' a x => h2 pins s' σ' H' J' r' S' Q E a (MtS.ext x m)
  | some (.bk r', S') => rw [e] at m; exact m
  | some (.ct r', S') => rw [e] at m; exact m
  | some (.rt d, S') => rw [e] at m; exact m
  | some (.xc c r', S') => rw [e] at m; exact m
theorem ssd_one (h1 : PSd X st t) : PSsd X [st] t := by
  intro pins s σ H J r S Q E I m
  refine wpAny_execs_cons (h1 pins s σ H J r S _ E I ?_)
  match e : t r S with
  | none => rw [e] at m; exact m
  | some (.nx r', S') => rw [e] at m; exact fun s' σ' H' J' a x => wpAny_execs_nil (m s' σ' H' J' a x)
  | some (.bk r', S') => rw [e] at m; exact m
  | some (.ct r', S') => rw [e] at m; exact m
  | some (.rt d, S') => rw [e] at m; exact m
  | some (.xc c r', S') => rw [e] at m; exact m
theorem goS (he : PEd X e fe) {k : D → List Cell → RSt} {pins : Pins} {s : Shared} {σ : L2.St} {H : Hp} {J : List Addr} {r : DSt} {S : List Cell} {Q : Flow → Shared → Prop} {E : Value → Shared → Prop} {Q' : Value → Shared → Prop} (I : At X pins σ H J r S s)
    (m : MtS X pins H J (sBind (fe r) r k S) Q E) (hk : ∀ x S1 v s1 vx H1 J1, At X pins σ H1 J1 r S1 s1 → RepV X.K H1 J1 x vx → RelV vx v → MtS X pins H1 J1 (k x S1) Q E → Q' v s1) :
    wpAny (model X.prog X.w) X.A (eval e X.env) Q' E s := by
  refine he pins s σ H J r S _ E I ?_
  unfold sBind at m
  cases e1 : fe r S with
  | bad => rw [e1] at m; exact m
  | exc c S1 =>
    rw [e1] at m
    exact fun x s' ⟨H', XI, J', ex, rs⟩ => m x s' σ H' J' XI (I.loc.ext ex) rs ex
  | ok x S1 =>
    rw [e1] at m
    exact fun v s1 ⟨vx, H1, I1, r1, J1, ex, rs, rv⟩ => hk x S1 v s1 vx H1 J1 ⟨I1, I.loc.ext ex, rs⟩ rv r1 (MtS.ext ex m)
theorem goST {te : DSt → M Bool} (he : PTd X e te) {k : Bool → List Cell → RSt} {pins : Pins} {s : Shared} {σ : L2.St} {H : Hp} {J : List Addr} {r : DSt} {S : List Cell} {Q : Flow → Shared → Prop} {E : Value → Shared → Prop} {Q' : Bool → Shared → Prop} (I : At X pins σ H J r S s)
    (m : MtS X pins H J (sBind (te r) r k S) Q E) (hk : ∀ b S1 s1 H1 J1, At X pins σ H1 J1 r S1 s1 → MtS X pins H1 J1 (k b S1) Q E → Q' b s1) :
    wpAny (model X.prog X.w) X.A (isTrue e X.env (eval e X.env)) Q' E s := by
  refine he pins s σ H J r S _ E I ?_
  unfold sBind at m
  cases e1 : te r S with
  | bad => rw [e1] at m; exact m
  | exc c S1 =>
    rw [e1] at m
    exact fun x s' ⟨H', XI, J', ex, rs⟩ => m x s' σ H' J' XI (I.loc.ext ex) rs ex
  | ok x S1 =>
    rw [e1] at m
    exact fun s1 ⟨H1, I1, J1, ex, rs⟩ => hk x S1 s1 H1 J1 ⟨I1, I.loc.ext ex, rs⟩ (MtS.ext ex m)
def sDrop (fe : DSt → M D) : TSt := fun r => sBind (fe r) r fun _ S => some (.nx r, S)
theorem sd_expr (he : PEd X e fe) (hs : swapsWith e none pos.line X.env = pure false := by rfl) : PSd X (.Expr e pos) (sDrop fe) := by
  intro pins s σ H J r S Q E I m
  exact wpAny_Expr_any (goS he I m fun x S1 v s1 vx H1 J1 I1 rv r1 m1 => m1 s1 σ H1 J1 I1 (Ext.refl _ _)) I.inv.quiet hs
def sRet (fe : DSt → M D) : TSt := fun r => sBind (fe r) r fun d S => some (.rt d, S)
theorem sd_ret (he : PEd X e fe) : PSd X (.Return (some e) pos) (sRet fe) := by
  intro pins s σ H J r S Q E I m
  exact wpAny_Return_some (goS he I m fun x S1 v s1 vx H1 J1 I1 rv r1 m1 => m1 v s1 σ ⟨vx, H1, I1.inv, r1, J1, Ext.refl _ _, I1.st, rv⟩)
def sIf (c : DSt → M Bool) (t u : TSt) : TSt := fun r => sBind (c r) r fun b S => if b = true then t r S else u r S
theorem sd_if {c : Expr} {a b : List Stmt} {tc : DSt → M Bool} (hc : PTd X c tc) (ha : PSsd X a t) (hb : PSsd X b u) : PSd X (.If c a b pos) (sIf tc t u) := by
  intro pins s σ H J r S Q E I m
  refine wpAny_If (goST hc I m fun d S1 s1 H1 J1 I1 m1 => ?_)
  cases d with
  | true => exact ha pins s1 σ H1 J1 r S1 Q E I1 m1
  | false => exact hb pins s1 σ H1 J1 r S1 Q E I1 m1
abbrev TGd := D → DSt → Option DSt
def PGd (X : Cx) (tg : Expr) (t : TGd) : Prop := ∀ (pins : Pins) (s : Shared) (σ : L2.St) (H : Hp) (J : List Addr) (r : DSt) (S : List Cell) (d : D) (v : V) (u : Value) (Q : Unit → Shared → Prop) (E : Value → Shared → Prop) (r' : DSt),
  At X pins σ H J r S s → RepV X.K H J d v → RelV v u → t d r = some r' → (∀ s' σ' H' J', At X pins σ' H' J' r' S s' → Ext H J H' J' → Q () s') → wpAny (model X.prog X.w) X.A (assign tg X.env u) Q E s
def gN (i : Nat) : TGd := fun d r => some (r.set i (some d))
theorem gd_name {i : Nat} {x : Str} (hN : X.N.Nodup) (hi : X.N[i]? = some x := by rfl) (hx : Loc X.env.scope x := by first | exact Or.inl rfl | exact Or.inr rfl) (hf : X.fn x = true ∨ X.env.scope.names.lookup x = some .local := by first | exact .inl rfl | exact .inr rfl | assumption) : PGd X (.Name x pos) (gN i) := by
  intro pins s σ H J r S d v u Q E r' I rv ru e k
  cases e
  refine wpAny_mono (pg_name (X := X.wish E) hN hi hx hf pins s σ H v u (fun σ' H' => σ' = σ.set i (some v) ∧ H' = H) (I.inv.wish E) ru ⟨rfl, rfl⟩) (fun _ s' q => ?_) fun _ _ z => z
  obtain ⟨σ', H', I', rfl, rfl⟩ := q
  exact k s' _ _ J ⟨I'.unwish, I.loc.set rv, I.st⟩ (Ext.refl _ _)
end
end DL
namespace DL
open PySem PySem.Spec PyProof.Rows L2
section
variable {X : Cx} {st : Stmt} {rest : List Stmt} {t u : TSt} {e : Expr} {fe : DSt → M D} {pos : Pos}
def sAsg (fe : DSt → M D) (g : TGd) : TSt := fun r => sBind (fe r) r fun d S => match g d r with
  | some r' => some (.nx r', S)
  | none => none
theorem sd_set {i : Nat} {x : Str} {pos' : Pos} (hN : X.N.Nodup) (he : PEd X e fe) (hi : X.N[i]? = some x := by rfl) (hx : Loc X.env.scope x := by first | exact Or.inl rfl | exact Or.inr rfl) (hs : swapsWith e (some (.Name x pos')) pos.line X.env = pure false := by rfl)
    (hf : X.fn x = true ∨ X.env.scope.names.lookup x = some .local := by first | exact .inl rfl | exact .inr rfl | assumption) : PSd X (.Assign [.Name x pos'] e pos) (sAsg fe (gN i)) := by
  intro pins s σ H J r S Q E I m
  refine wpAny_Assign_Name (goS he I m fun d S1 v s1 vx H1 J1 I1 rv r1 m1 => ?_) hs
  exact store_ok I1.inv hN hi hx r1 (fun s2 I2 => m1 s2 _ H1 J1 ⟨I2, I1.loc.set rv, I1.st⟩ (Ext.refl _ _)) hf
def sWhile (c : DSt → M Bool) (b : TSt) : Nat → TSt
  | 0 => fun _ _ => none
  | n + 1 => fun r S => match c r S with
    | .ok true S1 => (match b r S1 with
      | some (.nx r', S') => sWhile c b n r' S'
      | some (.ct r', S') => sWhile c b n r' S'
      | some (.bk r', S') => some (.nx r', S')
      | some (.rt d, S') => some (.rt d, S')
      | _ => none)
    | .ok false S1 => some (.nx r, S1)
    | _ => none
theorem sd_while {c : Expr} {body : List Stmt} {tc : DSt → M Bool} {tb : TSt} (n : Nat) (hc : PTd X c tc) (hb : PSsd X body tb) : PSd X (.While c body [] pos) (sWhile tc tb n) := by
  intro pins s σ H J r S Q E I m
  refine wpAny_While (codeAny_whileLoop (fun k s' => ∃ σ' H' J' r' S', At X pins σ' H' J' r' S' s' ∧ Ext H J H' J' ∧ MtS X pins H J (sWhile tc tb k r' S') Q E) ?_ n ⟨σ, H, J, r, S, I, Ext.refl _ _, m⟩)
  rintro k s1 ⟨σ1, H1, J1, r1, S1, I1, x1, m1⟩
  cases k with
  | zero => exact m1.elim
  | succ k =>
    refine hc pins s1 σ1 H1 J1 r1 S1 _ _ I1 ?_
    unfold sWhile at m1
    cases ec : tc r1 S1 with
    | bad => rw [ec] at m1; exact m1.elim
    | exc c S2 => rw [ec] at m1; exact m1.elim
    | ok k2 S2 =>
      rw [ec] at m1
      rintro s2 ⟨H2, I2, J2, x2, rs2⟩
      cases k2 with
      | false =>
        rw [if_neg Bool.false_ne_true]
        exact wpAny_execs_nil (m1 s2 σ1 H2 J2 ⟨I2, I1.loc.ext x2, rs2⟩ (x1.trans x2))
      | true =>
        rw [if_pos rfl]
        refine hb pins s2 σ1 H2 J2 r1 S2 _ _ ⟨I2, I1.loc.ext x2, rs2⟩ ?_
        dsimp only at m1
        match eb : tb r1 S2 with
        | none => rw [eb] at m1; exact m1.elim
        | some (.nx r', S') =>
          rw [eb] at m1
          exact fun s' σ' H' J' a x => ⟨k, Nat.lt_succ_self _, σ', H', J', r', S', a, (x1.trans x2).trans x, m1⟩
        | some (.ct r', S') =>
          rw [eb] at m1
          exact fun s' σ' H' J' a x => ⟨k, Nat.lt_succ_self _, σ', H', J', r', S', a, (x1.trans x2).trans x, m1⟩
        | some (.bk r', S') =>
          rw [eb] at m1
          exact fun s' σ' H' J' a x => m1 s' σ' H' J' a ((x1.trans x2).trans x)
        | some (.rt d, S') =>
          rw [eb] at m1
          exact fun u s' σ' ⟨v, H', I', rv, g⟩ => m1 u s' σ' ⟨v, H', I', rv, g.ext (x1.trans x2)⟩
        | some (.xc c r', S') => rw [eb] at m1; exact m1.elim
structure Wk where
  items : List D
  guard : Option (Nat × List D) := none
def gok : Option (Nat × List D) → List Cell → Prop
  | none, _ => True
  | some (n, xs), S => S[n]? = some (.lst xs)
def ItOk (K : PySem.W.Frag) (it : It) (w : Wk) (H0 : Hp) (J0 : List Addr) : Prop := ∀ (H : Hp) (J : List Addr) (S : List Cell), Ext H0 J0 H J → RepS K H J S → gok w.guard S →
  (∀ i, i < w.items.length → it.go i H) ∧ it.stop w.items.length H ∧
  ∀ i x H', it.yld i H x H' → ∀ d, w.items[i]? = some d → ∃ J', Ext H J H' J' ∧ RepS K H' J' S ∧ RepV K H' J' d x
def MtW (X : Cx) (pins : Pins) (σ : L2.St) (H : Hp) (J : List Addr) (tg : Expr) (x : R Wk) (Q : Value → Shared → Prop) (E : Value → Shared → Prop) : Prop := match x with
  | .ok w S' => ∀ itv s2, PIE X pins σ tg (fun it H1 => ∃ J1, Ext H J H1 J1 ∧ RepS X.K H1 J1 S' ∧ gok w.guard S' ∧ ItOk X.K it w H1 J1) itv s2 → Q itv s2
  | .exc c S' => ∀ e s', XP X pins σ c (Gone X.K H J S') e s' → E e s'
  | .bad => False
def PId (X : Cx) (tg iter : Expr) (f : DSt → M Wk) : Prop := ∀ (pins : Pins) (s : Shared) (σ : L2.St) (H : Hp) (J : List Addr) (r : DSt) (S : List Cell) (Q E : Value → Shared → Prop),
  At X pins σ H J r S s → MtW X pins σ H J tg (f r S) Q E → wpAny (model X.prog X.w) X.A (eval iter X.env) (fun v s1 => wpAny (model X.prog X.w) X.A (pyIter v) Q E s1) E s
open Classical in
noncomputable def sTurns (g : Option (Nat × List D)) (tg : TGd) (b : TSt) : List D → TSt
  | [], r, S => some (.nx r, S)
  | x :: xs, r, S => match tg x r with
    | none => none
    | some r1 => match b r1 S with
      | some (.nx r', S') => if gok g S' then sTurns g tg b xs r' S' else none
      | some (.ct r', S') => if gok g S' then sTurns g tg b xs r' S' else none
      | some (.bk r', S') => some (.nx r', S')
      | some (.rt d, S') => some (.rt d, S')
      | _ => none
noncomputable def sFor (f : DSt → M Wk) (tg : TGd) (b : TSt) : TSt := fun r => sBind (f r) r fun w S => sTurns w.guard tg b w.items r S
theorem sd_for {tg iter : Expr} {body : List Stmt} {f : DSt → M Wk} {g : TGd} {tb : TSt} (hc : X.calm = true) (hi : PId X tg iter f) (hg : PGd X tg g) (hb : PSsd X body tb)
    (hs : ∀ x, foldedSetIterable iter X.env x = pure x := by intro _; rfl) : PSd X (.For tg iter body [] pos) (sFor f g tb) := by
  intro pins s σ H J r S Q E I m
  refine wpAny_For (hi pins s σ H J r S _ E I ?_) hs
  unfold sFor sBind at m
  cases ef : f r S with
  | bad => rw [ef] at m; exact m
  | exc c S1 =>
    rw [ef] at m
    exact fun x s' ⟨H', XI, J', ex, rs⟩ => m x s' σ H' J' XI (I.loc.ext ex) rs ex
  | ok w S1 =>
    rw [ef] at m
    dsimp only at m
    rintro itv s2 ⟨it, fp, tn, it0, H2, rfl, I2, T, st2, f2, J2, x2, rs2, gk, ok⟩
    have stat : ∀ {H' : Hp}, (∀ b ∈ fp, H' b = none) → ∀ b ∈ fp, FpOk X pins H' b := fun hn b hb => ⟨hn b hb, (f2 b hb).2⟩
    refine codeAny_forLoop_any (fun n s' => ∃ i σ' H' J' r' S', At X pins σ' H' J' r' S' s' ∧ Ext H2 J2 H' J' ∧ tn i s'.heap ∧ (∀ b ∈ fp, H' b = none) ∧ gok w.guard S' ∧ n = w.items.length - i ∧ i ≤ w.items.length ∧
      MtS X pins H J (sTurns w.guard g tb (w.items.drop i) r' S') Q E) ?_ w.items.length ⟨0, σ, H2, J2, r, S1, ⟨I2, I.loc.ext x2, rs2⟩, Ext.refl _ _, st2, fun b hb => (f2 b hb).1, gk, by simp, Nat.zero_le _, by simpa using m⟩
    rintro n s3 ⟨i, σ3, H3, J3, r3, S3, I3, x3, st3, fr3, gk3, rfl, hil, m3⟩
    obtain ⟨hgo, hstop, hyld⟩ := ok H3 J3 S3 x3 I3.st gk3
    by_cases hi' : i < w.items.length
    · obtain ⟨d, hd⟩ : ∃ d, w.items[i]? = some d := ⟨w.items[i], by simp [hi']⟩
      rw [List.drop_eq_getElem_cons hi'] at m3
      have hd' : w.items[i] = d := by
        rw [List.getElem?_eq_getElem hi'] at hd
        exact Option.some.inj hd
      rw [hd'] at m3
      unfold sTurns at m3
      cases eg : g d r3 with
      | none => rw [eg] at m3; exact m3.elim
      | some r4 =>
        rw [eg] at m3
        dsimp only at m3
        refine thn (T.item X rfl rfl rfl hc i pins s3 σ3 H3 _ I3.inv (stat fr3) st3 (hgo i hi')) fun rr s4 ⟨u, hr, h4⟩ => ?_
        subst hr
        refine thn h4 fun _ s5 ⟨x, H5, I5, r5, y5, st5, fr5⟩ => ?_
        obtain ⟨J5, x5, rs5, rv5⟩ := hyld i x H5 y5 d hd
        have I5' := I5.pinned (stat fr5) (T.obj _ _ st5)
        refine hg _ s5 σ3 H5 J5 r3 S3 d x u _ _ r4 ⟨I5', I3.loc.ext x5, rs5⟩ rv5 r5 eg fun s6 σ6 H6 J6 I6 x6 => ?_
        refine hb _ s6 σ6 H6 J6 r4 S3 _ _ I6 ?_
        have again : ∀ {r7 : DSt} {S7 : List Cell} {σ7 : L2.St} {H7 : Hp} {J7 : List Addr} {s7 : Shared}, At X (pins ++ pinsAt fp s5.heap) σ7 H7 J7 r7 S7 s7 → Ext H6 J6 H7 J7 → gok w.guard S7 → MtS X pins H J (sTurns w.guard g tb (w.items.drop (i + 1)) r7 S7) Q E →
            ∃ m, m < w.items.length - i ∧ ∃ i σ' H' J' r' S', At X pins σ' H' J' r' S' s7 ∧ Ext H2 J2 H' J' ∧ tn i s7.heap ∧ (∀ b ∈ fp, H' b = none) ∧ gok w.guard S' ∧ m = w.items.length - i ∧ i ≤ w.items.length ∧ MtS X pins H J (sTurns w.guard g tb (w.items.drop i) r' S') Q E := by
          intro r7 S7 σ7 H7 J7 s7 I7 x7 gk7 m7
          refine ⟨w.items.length - (i + 1), by omega, i + 1, σ7, H7, J7, r7, S7, ⟨I7.inv.unpinned, I7.loc, I7.st⟩, ((x3.trans x5).trans x6).trans x7, T.keep _ _ _ st5 fun b hb o e => (I7.inv.pin (b, o) (List.mem_append_right _ (List.mem_append_right _ (mem_pinsAt hb e)))).1, fun b hb => ?_, gk7, rfl, hi', m7⟩
          obtain ⟨o, e, d⟩ := T.obj _ _ st5 b hb
          exact (I7.inv.pin (b, o) (List.mem_append_right _ (List.mem_append_right _ (mem_pinsAt hb e)))).2.1
        match eb : tb r4 S3 with
        | none => rw [eb] at m3; exact m3.elim
        | some (.nx r', S') =>
          rw [eb] at m3
          dsimp only at m3
          by_cases gk' : gok w.guard S'
          · rw [if_pos gk'] at m3
            exact fun s' σ' H' J' a x => again a x gk' m3
          · rw [if_neg gk'] at m3; exact m3.elim
        | some (.ct r', S') =>
          rw [eb] at m3
          dsimp only at m3
          by_cases gk' : gok w.guard S'
          · rw [if_pos gk'] at m3
            exact fun s' σ' H' J' a x => again a x gk' m3
          · rw [if_neg gk'] at m3; exact m3.elim
        | some (.bk r', S') =>
          rw [eb] at m3
          exact fun s' σ' H' J' a x => m3 s' σ' H' J' ⟨a.inv.unpinned, a.loc, a.st⟩ ((((x2.trans x3).trans x5).trans x6).trans x)
        | some (.rt d', S') =>
          rw [eb] at m3
          exact fun u s' σ' ⟨v, H', I', rv, g'⟩ => m3 u s' σ' ⟨v, H', I'.unpinned, rv, g'.ext (((x2.trans x3).trans x5).trans x6)⟩
        | some (.xc c r', S') => rw [eb] at m3; exact m3.elim
    · have e : i = w.items.length := by omega
      subst e
      rw [List.drop_length] at m3
      refine thn (T.done X rfl rfl rfl hc _ pins s3 σ3 H3 _ I3.inv (stat fr3) st3 hstop) fun rr s4 ⟨hr, I4⟩ => ?_
      subst hr
      exact wpAny_execs_nil (m3 s4 σ3 H3 J3 ⟨I4, I3.loc, I3.st⟩ (x2.trans x3))
end
end DL
namespace DL
open PySem PySem.Spec PyProof.Rows L2
section
variable {X : Cx} {tg : Expr} {e : Expr} {fe : DSt → M D} {pos : Pos}
def wkOf : D → M Wk
  | .tup xs => M.ret ⟨xs, none⟩
  | .rol xs => M.ret ⟨xs, none⟩
  | .ob n => fun S => match S[n]? with
    | some (.lst xs) => .ok ⟨xs, some (n, xs)⟩ S
    | _ => .bad
  | _ => M.bad
def dWk (f : DSt → M D) : DSt → M Wk := fun r => (f r).bind wkOf
theorem ItOk.tup {K : PySem.W.Frag} {H : Hp} {J : List Addr} {a : Addr} {vs : List V} {xs : List D} {X : Cx} {pins : Pins} {σ : L2.St} {s : Shared} (I : Inv X pins σ H s) (hK : X.K = K) (hq : SqT K H a vs) (rv : RepVs K H J xs vs) : ItOk K (Itt K a) ⟨xs, none⟩ H J := by
  intro H1 J1 S x rs _
  have hq1 := SqT.ext x hq
  have rv1 := rv.ext x
  have hl := rv1.length
  refine ⟨fun i hi => ⟨vs, vs[i]'(by rw [hl]; exact hi), hq1, by simp⟩, ⟨vs, hq1, by rw [hl]; exact Nat.le_refl _⟩, ?_⟩
  rintro i y H' ⟨rfl, hy⟩ d hd
  obtain ⟨v, h1, h2⟩ := rv1.get hd
  have := hy vs hq1
  rw [h1] at this
  cases this
  exact ⟨J1, Ext.refl _ _, rs, h2⟩
theorem ItOk.rol {K : PySem.W.Frag} {H : Hp} {J : List Addr} {a : Addr} {vs : List V} {xs : List D} (hq : RoL K H a vs) (rv : RepVs K H J xs vs) : ItOk K (Itl K a) ⟨xs, none⟩ H J := by
  intro H1 J1 S x rs _
  have hq1 := (RoL.ext x hq).sq
  have rv1 := rv.ext x
  have hl := rv1.length
  refine ⟨fun i hi => ⟨vs, vs[i]'(by rw [hl]; exact hi), hq1, by simp⟩, ⟨vs, hq1, by rw [hl]; exact Nat.le_refl _⟩, ?_⟩
  rintro i y H' ⟨rfl, hy⟩ d hd
  obtain ⟨v, h1, h2⟩ := rv1.get hd
  have := hy vs hq1
  rw [h1] at this
  cases this
  exact ⟨J1, Ext.refl _ _, rs, h2⟩
theorem ItOk.lst {K : PySem.W.Frag} {H : Hp} {J : List Addr} {a : Addr} {n : Nat} {xs : List D} (hn : J[n]? = some a) : ItOk K (Itl K a) ⟨xs, some (n, xs)⟩ H J := by
  intro H1 J1 S x rs gk
  have hn1 : J1[n]? = some a := by
    obtain ⟨m, em⟩ := x.pre
    rw [em, List.getElem?_append_left (List.getElem?_eq_some_iff.mp hn).1]
    exact hn
  obtain ⟨vs, h1, rv1⟩ := rs.at_ n _ a gk hn1
  have hq1 : SqL K H1 a vs := SqL.of h1
  have hl := rv1.length
  refine ⟨fun i hi => ⟨vs, vs[i]'(by rw [hl]; exact hi), hq1, by simp⟩, ⟨vs, hq1, by rw [hl]; exact Nat.le_refl _⟩, ?_⟩
  rintro i y H' ⟨rfl, hy⟩ d hd
  obtain ⟨v, h1, h2⟩ := rv1.get hd
  have := hy vs hq1
  rw [h1] at this
  cases this
  exact ⟨J1, Ext.refl _ _, rs, h2⟩
theorem pid_seq (he : PEd X e fe) : PId X tg e (dWk fe) := by
  intro pins s σ H J r S Q E I m
  refine he pins s σ H J r S _ E I ?_
  unfold dWk M.bind at m
  cases e1 : fe r S with
  | bad => rw [e1] at m; exact m
  | exc c S1 => rw [e1] at m; exact m
  | ok x S1 =>
    rw [e1] at m
    dsimp only at m
    rintro v s1 ⟨vx, H1, I1, r1, J1, ex, rs, rv⟩
    cases x with
    | tup xs =>
      obtain ⟨a, vs, rfl, hq, rvs⟩ := rv.tup_
      cases r1
      obtain ⟨its, rl, p, hz⟩ := I1.tuple hq
      refine wpAny_pyIter_tuple (show s1.heap.IsTuple a its.toArray from p) (m _ _ ?_)
      refine ⟨s1.heap.objs.size, [s1.heap.objs.size], _, _, H1, rfl, I1.kept (t' := s1.toks) fun b o e => Heap.get?_push_of_some _ e, turn_tuple a _, ⟨_, Heap.get?_push_size _ rfl, rfl, rfl⟩, fun b hb => ?_, J1, ex, rs, trivial, ItOk.tup I1 rfl hq rvs⟩
      have e : b = s1.heap.objs.size := by simpa using hb
      subst e
      exact I1.fpOk (Nat.le_refl _) (I1.hok.fresh (Nat.le_refl _))
    | rol xs =>
      obtain ⟨a, vs, rfl, hq, rvs⟩ := rv.rol_
      cases r1
      obtain ⟨its, rl, p, hz⟩ := I1.list hq.sq
      refine wpAny_pyIter_list p.isList (m _ _ ?_)
      refine ⟨s1.heap.objs.size, [s1.heap.objs.size], _, _, H1, rfl, I1.kept (t' := s1.toks) fun b o e => Heap.get?_push_of_some _ e, turn_list a _, ⟨_, Heap.get?_push_size _ rfl, rfl, rfl⟩, fun b hb => ?_, J1, ex, rs, trivial, ItOk.rol hq rvs⟩
      have e : b = s1.heap.objs.size := by simpa using hb
      subst e
      exact I1.fpOk (Nat.le_refl _) (I1.hok.fresh (Nat.le_refl _))
    | ob n =>
      obtain ⟨a, rfl, hn⟩ := rv.ob_
      cases r1
      obtain ⟨c, hc, rc⟩ := rs.cellA hn
      simp only [wkOf] at m
      rw [hc] at m
      cases c with
      | lst xs =>
        obtain ⟨vs, h1, rvs⟩ := rc
        obtain ⟨its, rl, p, hz⟩ := I1.list (SqL.of h1)
        refine wpAny_pyIter_list p.isList (m _ _ ?_)
        refine ⟨s1.heap.objs.size, [s1.heap.objs.size], _, _, H1, rfl, I1.kept (t' := s1.toks) fun b o e => Heap.get?_push_of_some _ e, turn_list a _, ⟨_, Heap.get?_push_size _ rfl, rfl, rfl⟩, fun b hb => ?_, J1, ex, rs, hc, ItOk.lst hn⟩
        have e : b = s1.heap.objs.size := by simpa using hb
        subst e
        exact I1.fpOk (Nat.le_refl _) (I1.hok.fresh (Nat.le_refl _))
      | _ => exact m.elim
    | _ => exact m.elim
def rngD (lo c : Int) (n : Nat) : List D := (List.range n).map fun (i : Nat) => D.int (lo + (i : Int) * c)
def ItrS (lo c : Int) (n : Nat) : It := ⟨fun i _ => i < n, fun i H x H' => H' = H ∧ x = .int (lo + (i : Int) * c), fun i _ => n ≤ i⟩
theorem rngD_get {lo c : Int} {n i : Nat} {d : D} (h : (rngD lo c n)[i]? = some d) : d = .int (lo + (i : Int) * c) := by
  unfold rngD at h
  rw [List.getElem?_map] at h
  cases e : (List.range n)[i]? with
  | none => rw [e] at h; cases h
  | some k =>
    rw [e] at h
    obtain ⟨h2, h3⟩ := List.getElem?_eq_some_iff.mp e
    rw [List.getElem_range] at h3
    subst h3
    cases h
    rfl
theorem ItOk.rng {K : PySem.W.Frag} {H : Hp} {J : List Addr} (lo c : Int) (n : Nat) : ItOk K (ItrS lo c n) ⟨rngD lo c n, none⟩ H J := by
  intro H1 J1 S x rs _
  have hl : (rngD lo c n).length = n := by simp [rngD]
  refine ⟨fun i hi => by rw [hl] at hi; exact hi, by show n ≤ _; rw [hl]; exact Nat.le_refl _, ?_⟩
  rintro i y H' ⟨rfl, rfl⟩ d hd
  refine ⟨J1, Ext.refl _ _, rs, ?_⟩
  rw [rngD_get hd]
  exact RepV.int _ _ _ _
theorem turn_rngS {P : Program} {w : World} {K : PySem.W.Frag} {tg : Expr} (it : Addr) (lo c : Int) (n : Nat) : Turn P w K tg (ItrS lo c n) [it] it (fun i h => IsRangeIter h it (lo + (i : Nat) * c) ((n : Int) - (i : Nat)) c) where
  mem := by simp
  obj := fun i h st b hb => by
    have e : b = it := by simpa using hb
    subst e
    exact ⟨_, st, fun v z => by
      have z' : Data.fields _ = Data.cell v := z
      cases z'⟩
  keep := fun i h h' st k => k it (by simp) _ st
  item := by
    intro X hP hw hK hc i pins s σ H E I hf st hg
    subst hP hw hK
    obtain ⟨f0, f1, f2, f3, f4, f5⟩ := hf it (by simp)
    have W := Walks.range (prog := X.prog) (w := X.w) (I.ok.hd hc) it lo c n
    refine W.item i s _ _ hg st fun v h' tk hv st' kk => ?_
    obtain ⟨t, rfl⟩ := hv
    have I1 : Inv X pins σ H { s with heap := h', toks := tk } := I.turned (fun b o hb e => kk b o (by simpa using hb) e) f0 f1 f3 f4 f5
    exact ⟨_, rfl, go_of (s := { s with heap := h', toks := tk }) (n := "range_iterator") st' rfl rfl (by decide) ⟨.int (lo + i * c), H, I1, ⟨t, rfl⟩, ⟨rfl, rfl⟩, st', fun b hb => (hf b hb).1⟩⟩
  done := by
    intro X hP hw hK hc i pins s σ H E I hf st hg
    subst hP hw hK
    obtain ⟨f0, f1, f2, f3, f4, f5⟩ := hf it (by simp)
    exact wpAny_pyNext_range_end (I.ok.hd hc) st (by have : n ≤ i := hg; omega) fun h' eb => ⟨rfl, I.turned (t' := s.toks) (fun b o hb e => eb b o hb e) f0 f1 f3 f4 f5⟩
  self := fun _ _ _ _ _ st h => wpAny_pyIter_rangeiter st h
theorem rng_it {pins : Pins} {σ : L2.St} {H : Hp} {s : Shared} {Rr : It → Hp → Prop} {E : Value → Shared → Prop} {lo hi c : Int} {t u v : Tok} {tk : Nat} (I : Inv X pins σ H s) (hc : 0 < c) (hsm : Builtin.Range.small lo hi c = true)
    (q : Rr (ItrS lo c (Builtin.Range.rangeSize lo hi c).toNat) H) : wpAny (model X.prog X.w) X.A (pyIter (.ref s.heap.objs.size)) (PIE X pins σ tg Rr) E { s with heap := s.heap.push { cls := .type "range", data := .fields #[.int lo t, .int hi u, .int c v] }, toks := tk } := by
  refine wpAny_pyIter_range (IsRange.new ..) hsm ?_
  have I1 : Inv X pins σ H { s with heap := s.heap.push { cls := .type "range", data := .fields #[.int lo t, .int hi u, .int c v] }, toks := tk } := I.kept fun b o e => Heap.get?_push_of_some _ e
  refine ⟨(s.heap.push { cls := .type "range", data := .fields #[.int lo t, .int hi u, .int c v] }).objs.size, [(s.heap.push { cls := .type "range", data := .fields #[.int lo t, .int hi u, .int c v] }).objs.size], _, _, H, rfl,
    I1.kept (t' := tk) fun b o e => Heap.get?_push_of_some _ e, turn_rngS _ lo c (Builtin.Range.rangeSize lo hi c).toNat, ?_, fun b hb => ?_, q⟩
  · have e1 : lo + ((0 : Nat) : Int) * c = lo := by simp
    have e2 : (((Builtin.Range.rangeSize lo hi c).toNat : Nat) : Int) - ((0 : Nat) : Int) = Builtin.Range.rangeSize lo hi c := by
      have : 0 ≤ Builtin.Range.rangeSize lo hi c := by
        unfold Builtin.Range.rangeSize
        rw [if_pos hc]
        split
        · have := Int.ediv_nonneg (a := hi - lo - 1) (b := c) (by omega) (by omega)
          omega
        · omega
      omega
    show IsRangeIter _ _ (lo + ((0 : Nat) : Int) * c) ((((Builtin.Range.rangeSize lo hi c).toNat : Nat) : Int) - ((0 : Nat) : Int)) c
    rw [e1, e2]
    exact Heap.get?_push_size _ rfl
  · have e : b = (s.heap.push { cls := .type "range", data := .fields #[.int lo t, .int hi u, .int c v] }).objs.size := by simpa using hb
    subst e
    exact I1.fpOk (Nat.le_refl _) (I1.hok.fresh (Nat.le_refl _))
noncomputable def wRng (lo hi c : Int) : M Wk := fun S => cif ((0 < c ∧ c < 1073741824) ∧ Builtin.Range.small lo hi c = true) (.ok ⟨rngD lo c (Builtin.Range.rangeSize lo hi c).toNat, none⟩ S) .bad
noncomputable def wRng1 : D → M Wk
  | .int j => wRng 0 j 1
  | _ => M.bad
noncomputable def wRng3 : D → D → D → M Wk
  | .int i, .int j, .int c => wRng i j c
  | _, _, _ => M.bad
noncomputable def dRng1 (fa : DSt → M D) : DSt → M Wk := fun r => (fa r).bind wRng1
noncomputable def dRng3 (fa fb fc : DSt → M D) : DSt → M Wk := fun r => (fa r).bind fun x => (fb r).bind fun y => (fc r).bind fun z => wRng3 x y z
theorem MtW.ext {pins : Pins} {σ : L2.St} {H H1 : Hp} {J J1 : List Addr} {x : R Wk} {Q : Value → Shared → Prop} {E : Value → Shared → Prop} (e : Ext H J H1 J1) (h : MtW X pins σ H J tg x Q E) : MtW X pins σ H1 J1 tg x Q E := by
  cases x with
  | ok w S => exact fun itv s2 ⟨it, fp, tn, it0, H2, a, b, c, d, f, J2, x2, g⟩ => h itv s2 ⟨it, fp, tn, it0, H2, a, b, c, d, f, J2, e.trans x2, g⟩
  | exc c S => exact fun u s' x => h u s' (x.ext e)
  | bad => exact h
theorem goR {es : List Expr} {ft : DSt → M (List D)} (ha : PAd X es ft) {k : List D → M Wk} {pins : Pins} {s : Shared} {σ : L2.St} {H : Hp} {J : List Addr} {r : DSt} {S : List Cell} {Q E : Value → Shared → Prop} {Q' : List Value → Shared → Prop} (I : At X pins σ H J r S s)
    (m : MtW X pins σ H J tg ((ft r).bind k S) Q E) (hk : ∀ xs S1 s1 H1 J1 vs us, At X pins σ H1 J1 r S1 s1 → RepVs X.K H1 J1 xs vs → Vals vs us → MtW X pins σ H1 J1 tg (k xs S1) Q E → Q' us s1) (pos : Pos) :
    wpAny (model X.prog X.w) X.A (spliced (backTo pos (starEach es X.env))) Q' E s := by
  refine ha pos pins s σ H J r S _ E I ?_
  unfold M.bind at m
  cases e1 : ft r S with
  | bad => rw [e1] at m; exact m
  | exc c S1 => rw [e1] at m; exact m
  | ok x S1 =>
    rw [e1] at m
    intro us s1 ⟨vs, H1, I1, r1, J1, ex1, rs1, rv1⟩
    exact hk x S1 s1 H1 J1 vs us ⟨I1, I.loc.ext ex1, rs1⟩ rv1 r1 (MtW.ext ex1 m)
def uncons1 {α : Type} (f : D → M α) : List D → M α
  | [x] => f x
  | _ => M.bad
def uncons3 {α : Type} (f : D → D → D → M α) : List D → M α
  | [x, y, z] => f x y z
  | _ => M.bad
theorem RepVs.one_ {K : PySem.W.Frag} {H : Hp} {J : List Addr} {x : D} {vs : List V} (h : RepVs K H J [x] vs) : ∃ v, vs = [v] ∧ RepV K H J x v := by
  unfold RepVs at h
  obtain ⟨v, t, rfl, h1, h2⟩ := h
  unfold RepVs at h2
  subst h2
  exact ⟨v, rfl, h1⟩
theorem RepVs.two_ {K : PySem.W.Frag} {H : Hp} {J : List Addr} {x y : D} {vs : List V} (h : RepVs K H J [x, y] vs) : ∃ v w, vs = [v, w] ∧ RepV K H J x v ∧ RepV K H J y w := by
  unfold RepVs at h
  obtain ⟨v, t, rfl, h1, h2⟩ := h
  obtain ⟨w, rfl, h3⟩ := RepVs.one_ h2
  exact ⟨v, w, rfl, h1, h3⟩
theorem RepVs.three_ {K : PySem.W.Frag} {H : Hp} {J : List Addr} {x y z : D} {vs : List V} (h : RepVs K H J [x, y, z] vs) : ∃ v w u, vs = [v, w, u] ∧ RepV K H J x v ∧ RepV K H J y w ∧ RepV K H J z u := by
  unfold RepVs at h
  obtain ⟨v, t, rfl, h1, h2⟩ := h
  obtain ⟨w, u, rfl, h3, h4⟩ := RepVs.two_ h2
  exact ⟨v, w, u, rfl, h1, h3, h4⟩
theorem wRng_ok {pins : Pins} {σ : L2.St} {H : Hp} {J : List Addr} {S : List Cell} {lo hi c : Int} {Q E : Value → Shared → Prop} (m : MtW X pins σ H J tg (wRng lo hi c S) Q E) (rs : RepS X.K H J S) :
    (0 < c ∧ c < 1073741824) ∧ Builtin.Range.small lo hi c = true ∧ ∀ itv s2, PIE X pins σ tg (fun it H1 => it = ItrS lo c (Builtin.Range.rangeSize lo hi c).toNat ∧ H1 = H) itv s2 → Q itv s2 := by
  unfold wRng cif at m
  split at m
  · rename_i h
    refine ⟨h.1, h.2, fun itv s2 ⟨it, fp, tn, it0, H2, a, b, c, d, f, e1, e2⟩ => ?_⟩
    subst e1 e2
    exact m itv s2 ⟨it, fp, tn, _, _, a, b, c, d, f, J, Ext.refl _ _, rs, trivial, ItOk.rng _ _ _⟩
  · exact m.elim
theorem pid_range1 {a : Expr} {p : Pos} {fa : DSt → M D} (hg : Gl X "range") (hm : X.mg "range" = none) (ha : PEd X a fa) (hs : starEach [a] X.env = [(false, eval a X.env)] := by rfl) : PId X tg (.Call (.Name "range" p) [a] [] pos) (dRng1 fa) := by
  intro pins s σ H J r S Q E I m
  have m' : MtW X pins σ H J tg ((dCons fa dNil r).bind (uncons1 wRng1) S) Q E := by
    unfold dRng1 M.bind at m
    unfold dCons dNil M.bind M.ret
    cases e1 : fa r S <;> (rw [e1] at m; exact m)
  refine Call_ (ld_blt I.inv hg hm boot_range (PyProof.Rows.callWith_type1 (goR (pad_cons ha pad_nil (by rw [hs]; rfl)) I m' (fun xs S1 s1 H1 J1 vs us I1 rv r1 m1 => ?_) pos) hs rfl))
  match xs, m1, rv with
  | [.int j], m1, rv =>
    obtain ⟨v, rfl, h1⟩ := rv.one_
    cases h1.int_
    cases r1 with
    | cons q qq =>
      cases qq
      obtain ⟨t, rfl⟩ := q
      obtain ⟨hc, hsm, k⟩ := wRng_ok m1 I1.st
      exact call_range_1 (thn (rng_it I1.inv hc.1 hsm ⟨rfl, rfl⟩) k)
  | [], m1, rv => exact m1.elim
  | [.non], m1, rv => exact m1.elim
  | [.bl _], m1, rv => exact m1.elim
  | [.str _], m1, rv => exact m1.elim
  | [.tup _], m1, rv => exact m1.elim
  | [.rol _], m1, rv => exact m1.elim
  | [.ob _], m1, rv => exact m1.elim
  | [.xn _], m1, rv => exact m1.elim
  | _ :: _ :: _, m1, rv => exact m1.elim
theorem pid_range3 {a b c : Expr} {p : Pos} {fa fb fc : DSt → M D} (hg : Gl X "range") (hm : X.mg "range" = none) (ha : PEd X a fa) (hb : PEd X b fb) (hc : PEd X c fc)
    (hs : starEach [a, b, c] X.env = [(false, eval a X.env), (false, eval b X.env), (false, eval c X.env)] := by rfl)
    (hs2 : starEach [b, c] X.env = [(false, eval b X.env), (false, eval c X.env)] := by rfl) (hs3 : starEach [c] X.env = [(false, eval c X.env)] := by rfl) : PId X tg (.Call (.Name "range" p) [a, b, c] [] pos) (dRng3 fa fb fc) := by
  intro pins s σ H J r S Q E I m
  have m' : MtW X pins σ H J tg ((dCons fa (dCons fb (dCons fc dNil)) r).bind (uncons3 wRng3) S) Q E := by
    unfold dRng3 M.bind at m
    unfold dCons dNil M.bind M.ret
    cases e1 : fa r S with
    | ok x S1 =>
      rw [e1] at m
      dsimp only at m ⊢
      cases e2 : fb r S1 with
      | ok y S2 =>
        rw [e2] at m
        dsimp only at m ⊢
        cases e3 : fc r S2 <;> (rw [e3] at m; exact m)
      | exc c S1 => rw [e2] at m; exact m
      | bad => rw [e2] at m; exact m
    | exc c S1 => rw [e1] at m; exact m
    | bad => rw [e1] at m; exact m
  refine Call_ (ld_blt I.inv hg hm boot_range (PyProof.Rows.callWith_type1 (goR (pad_cons ha (pad_cons hb (pad_cons hc pad_nil (by rw [hs3]; rfl)) (by rw [hs2, hs3])) (by rw [hs, hs2])) I m' (fun xs S1 s1 H1 J1 vs us I1 rv r1 m1 => ?_) pos) (by rw [hs, hs2]) (by rw [hs2]; rfl)))
  match xs, m1, rv with
  | [x, y, z], m1, rv =>
    obtain ⟨v, w, u, rfl, h1, h2, h3⟩ := rv.three_
    cases x with
    | int i =>
      cases y with
      | int j =>
        cases z with
        | int k =>
          cases h1.int_
          cases h2.int_
          cases h3.int_
          cases r1 with
          | cons q1 r1 =>
            obtain ⟨u1, u2, rfl, q2, q3⟩ := Vals.two r1
            obtain ⟨t1, rfl⟩ := q1
            obtain ⟨t2, rfl⟩ := q2
            obtain ⟨t3, rfl⟩ := q3
            obtain ⟨hc, hsm, kk⟩ := wRng_ok m1 I1.st
            exact call_range_3 (by omega) (thn (rng_it I1.inv hc.1 hsm ⟨rfl, rfl⟩) kk) (.inl (PyProof.noPylong_small (by omega)))
        | _ => exact m1.elim
      | _ => exact m1.elim
    | _ => exact m1.elim
  | [], m1, rv => exact m1.elim
  | [_], m1, rv => exact m1.elim
  | [_, _], m1, rv => exact m1.elim
  | _ :: _ :: _ :: _ :: _, m1, rv => exact m1.elim
end
end DL
namespace DL
open PySem PySem.Spec PyProof.Rows L2
def blk (X : Cx) (scope : Scope) (N' : List Str) (cl : List (Str × Addr)) (C : Addr) (s2 : Shared) (H2 : Hp) (fp : List Addr) : Cx where
  prog := X.prog
  w := X.w
  K := X.K
  mg := X.mg
  base := X.base
  A := X.A
  N := N'
  s₀ := s2
  H₀ := H2
  env := compEnvC scope cl C X.env
  outer := X.stack
  stack := X.stack
  ex := fp
  fn := fun _ => false
  calm := X.calm
  pn := []
  xe := fun _ _ => False
def capR {α : Type} (own : Nat) (caps : List Nat) (r : List (Option α)) : List (Option α) := List.replicate own none ++ caps.map fun j => (r[j]?).join
def CapOk (X : Cx) (scope : Scope) (cl : List (Str × Addr)) : List Nat → List Str → Prop
  | [], [] => True
  | j :: js, x :: xs => (X.N[j]? = some x ∧ (X.env.kindOf x = some .cell ∨ X.env.kindOf x = some .free) ∧ ((relabel scope X.env).names.lookup x = some .cell ∨ (relabel scope X.env).names.lookup x = some .free) ∧ cl.lookup x = X.env.cells.lookup x) ∧ CapOk X scope cl js xs
  | _, _ => False
theorem CapOk.get {X : Cx} {scope : Scope} {cl : List (Str × Addr)} : ∀ {js : List Nat} {xs : List Str} {k : Nat} {j : Nat}, CapOk X scope cl js xs → js[k]? = some j → ∃ x, xs[k]? = some x ∧ X.N[j]? = some x ∧
    (X.env.kindOf x = some .cell ∨ X.env.kindOf x = some .free) ∧ ((relabel scope X.env).names.lookup x = some .cell ∨ (relabel scope X.env).names.lookup x = some .free) ∧ cl.lookup x = X.env.cells.lookup x
  | [], _, _, _, _, e => by simp at e
  | _ :: _, [], _, _, h, _ => h.elim
  | j :: js, x :: xs, 0, j', h, e => by
    simp at e
    subst e
    obtain ⟨⟨a, b, c, d⟩, _⟩ := h
    exact ⟨x, rfl, a, b, c, d⟩
  | j :: js, x :: xs, k + 1, j', h, e => by
    obtain ⟨_, h⟩ := h
    obtain ⟨y, a, b⟩ := CapOk.get (k := k) h (by simpa using e)
    exact ⟨y, by simpa using a, b⟩
theorem CapOk.len {X : Cx} {scope : Scope} {cl : List (Str × Addr)} : ∀ {js : List Nat} {xs : List Str}, CapOk X scope cl js xs → xs.length = js.length
  | [], [], _ => rfl
  | [], _ :: _, h => h.elim
  | _ :: _, [], h => h.elim
  | j :: js, x :: xs, h => by rw [List.length_cons, List.length_cons, CapOk.len h.2]
theorem RepL.cap {K : PySem.W.Frag} {H : Hp} {J : List Addr} {r : DSt} {σ : L2.St} (h : RepL K H J r σ) (own : Nat) (caps : List Nat) : RepL K H J (capR own caps r) (capR own caps σ) where
  len := by simp [capR]
  at_ := fun i d q => by
    unfold capR at q ⊢
    by_cases hi : i < own
    · rw [List.getElem?_append_left (by simpa using hi), List.getElem?_replicate] at q
      split at q <;> cases q
    · rw [List.getElem?_append_right (by simpa using hi)] at q ⊢
      simp only [List.length_replicate] at q ⊢
      rw [List.getElem?_map] at q ⊢
      cases e : caps[i - own]? with
      | none => rw [e] at q; cases q
      | some j =>
        rw [e] at q
        simp only [Option.map_some, Option.some.injEq] at q ⊢
        obtain ⟨v, h1, h2⟩ := h.at_ j d (by
          cases e2 : r[j]? with
          | none => rw [e2] at q; cases q
          | some o => rw [e2] at q; simp at q; rw [q])
        exact ⟨v, by rw [h1]; rfl, h2⟩
theorem cl_sub {X : Cx} {cl : List (Str × Addr)} (hcl : ∀ p ∈ cl, X.env.cells.lookup p.1 = some p.2) {x : Str} {c : Addr} (h : cl.lookup x = some c) : X.env.cells.lookup x = some c := by
  induction cl with
  | nil => simp at h
  | cons p r ih =>
    obtain ⟨y, b⟩ := p
    rw [List.lookup_cons] at h
    cases e : x == y with
    | true =>
      rw [e] at h
      simp at h
      subst h
      have := beq_iff_eq.mp e
      subst this
      exact hcl (x, b) (by simp)
    | false =>
      rw [e] at h
      exact ih (fun p hp => hcl p (List.mem_cons_of_mem _ hp)) h
theorem relabel_free {scope : Scope} {env : Env} {x : Str} {k : NameKind} (hk : k = .cell ∨ k = .free) (hcell : ∀ y ∈ scope.names, y.2 ≠ .cell) (h : (relabel scope env).names.lookup x = some k) : ∃ p ∈ scope.names, p.1 = x ∧ p.2 = .free := by
  unfold relabel at h
  dsimp only at h
  generalize scope.names = ns at h hcell
  induction ns with
  | nil => simp at h
  | cons p r ih =>
    obtain ⟨n, kk⟩ := p
    rw [List.map_cons] at h
    by_cases hc : (kk == NameKind.free && env.scope.kind == .function && env.kindOf n == some .cell) = true
    · simp only [hc, if_true, List.lookup_cons] at h
      cases e : x == n with
      | true =>
        have hx := beq_iff_eq.mp e
        simp only [Bool.and_eq_true, beq_iff_eq] at hc
        exact ⟨(n, kk), by simp, hx.symm, hc.1.1⟩
      | false =>
        rw [e] at h
        obtain ⟨p, hp, q⟩ := ih h fun y hy => hcell y (List.mem_cons_of_mem _ hy)
        exact ⟨p, List.mem_cons_of_mem _ hp, q⟩
    · rw [if_neg hc, List.lookup_cons] at h
      cases e : x == n with
      | true =>
        rw [e] at h
        simp at h
        have hx := beq_iff_eq.mp e
        rcases hk with rfl | rfl
        · exact absurd h (hcell (n, kk) (by simp))
        · exact ⟨(n, kk), by simp, hx.symm, h⟩
      | false =>
        rw [e] at h
        obtain ⟨p, hp, q⟩ := ih h fun y hy => hcell y (List.mem_cons_of_mem _ hy)
        exact ⟨p, List.mem_cons_of_mem _ hp, q⟩
section
variable {X : Cx} {pins : Pins} {σ : L2.St} {H2 : Hp} {s2 : Shared} {scope : Scope} {own : List Str} {capN : List Str} {caps : List Nat} {cl : List (Str × Addr)} {fp : List Addr}
structure BlkOk (X : Cx) (scope : Scope) (own capN : List Str) (caps : List Nat) (cl : List (Str × Addr)) : Prop where
  clos : closureFor scope X.env = pure cl
  cells : ∀ p ∈ cl, X.env.cells.lookup p.1 = some p.2
  frees : scope.names.all (fun p => p.2 != .free || (cl.lookup p.1).isSome) = true
  nocell : ∀ y ∈ scope.names, y.2 ≠ .cell
  kind : scope.kind = .function
  names : ∀ x ∈ scope.names, x.2 = .local → scope.names.lookup x.1 = some .local
  cap : CapOk X scope cl caps capN
  nd : (own ++ capN).Nodup
theorem blk_start (B : BlkOk X scope own capN caps cl) (I : Inv X pins σ H2 s2) (hf : ∀ b ∈ fp, FpOk X pins H2 b) (ho : ∀ b ∈ fp, ∃ o, s2.heap.get? b = some o) {h' : Heap} {tk : Nat}
    (hns : h'.Ns (s2.heap.objs.size + 1) fun _ => none) (hlst : h'.get? s2.heap.objs.size = some { cls := .type "list", data := .seq #[] }) (keep : ∀ b o, s2.heap.get? b = some o → h'.get? b = some o) :
    Inv (blk X scope (own ++ capN) cl (s2.heap.objs.size + 1) s2 H2 fp) [] (capR own.length caps σ) (upd H2 s2.heap.objs.size (.lst [])) { s2 with heap := h', toks := tk } := by
  have hacc : H2 s2.heap.objs.size = none := I.hok.fresh (Nat.le_refl _)
  have lt_of : ∀ {b : Addr} {o : Obj}, s2.heap.get? b = some o → b < s2.heap.objs.size := fun e => Heap.lt_size e
  have cexist : ∀ x c, X.env.cells.lookup x = some c → c < s2.heap.objs.size := fun x c e => by
    obtain ⟨v, hv⟩ := I.cell x c e
    obtain ⟨o, ho, _⟩ := hv
    exact lt_of ho
  have hok3 : HOk X.prog X.w (upd H2 s2.heap.objs.size (.lst [])) h' := I.hok.laid keep (Nat.le_refl _) ⟨Nat.zero_le _, [], 0, .nil, hlst⟩
  refine ⟨?_, rfl, I.bare, ?_, ?_, ?_, ?_, ?_, ?_, hok3, ?_⟩
  · refine ⟨I.ok.mod, B.kind, I.ok.glob, I.ok.blt, Nat.le_succ _, ?_, ?_, ?_, I.ok.hd, I.ok.frames, .inl rfl, ?_, I.bs, Nat.le_trans I.ok.bsz I.sz, ?_, ?_, I.stack, I.stkFree⟩
    · exact fun x y c h1 h2 => I.ok.inj x y c (cl_sub B.cells h1) (cl_sub B.cells h2)
    · intro x hx
      have : ∃ p ∈ scope.names, p.1 = x ∧ p.2 = .free := by
        rcases hx with hx | hx
        · exact relabel_free (.inl rfl) B.nocell hx
        · exact relabel_free (.inr rfl) B.nocell hx
      obtain ⟨p, hp, rfl, hfree⟩ := this
      have := (List.all_eq_true.mp B.frees) p hp
      rw [hfree] at this
      simp only [bne_self_eq_false, Bool.false_or] at this
      exact Option.isSome_iff_exists.mp this
    · exact fun x c h => by cases h
    · intro b hb
      obtain ⟨o, hbo⟩ := ho b hb
      refine ⟨Nat.ne_of_lt (Nat.lt_succ_of_lt (lt_of hbo)), fun x c h => (hf b hb).2.2.2.2.1 x c (cl_sub B.cells h)⟩
    · intro b o hb hbf
      obtain ⟨_, _, _, hx, _⟩ := hf b hbf
      rcases hx with hx | hx
      · exact I.ok.noex b o hb hx
      · exact absurd (Nat.lt_of_lt_of_le (Heap.lt_size hb) (Nat.le_trans I.ok.bsz hx)) (Nat.lt_irrefl _)
    · intro b hb hbs
      obtain ⟨_, hl, hfs, _⟩ := hf b hb
      rcases List.mem_cons.mp (I.stkSub b hbs) with e | e
      · exact hl e
      · exact hfs e
  · exact (Un.laid (o := .lst []) keep (Nat.le_refl _) hacc)
  · refine ⟨_, hns, fun i x v hN hs hv => ?_⟩
    unfold capR at hs
    by_cases hi : i < own.length
    · rw [List.getElem?_append_left (by simpa using hi), List.getElem?_replicate] at hs
      split at hs <;> cases hs
    · rw [List.getElem?_append_right (by simpa using hi)] at hs
      have hN' : (own ++ capN)[i]? = some x := hN
      rw [List.getElem?_append_right (by omega)] at hN'
      simp only [List.length_replicate] at hs
      rw [List.getElem?_map] at hs
      cases e : caps[i - own.length]? with
      | none => rw [e] at hs; cases hs
      | some j =>
        rw [e] at hs
        simp only [Option.map_some, Option.some.injEq] at hs
        obtain ⟨y, hy, hNj, hko, hkn, hcl⟩ := B.cap.get e
        rw [hN'] at hy
        cases hy
        have hσ : σ[j]? = some (some v) := by
          cases e2 : σ[j]? with
          | none => rw [e2] at hs; cases hs
          | some o => rw [e2] at hs; simp at hs; rw [hs]
        obtain ⟨m, hm, hl⟩ := I.loc
        obtain ⟨u, ru, look⟩ := hl j x v hNj hσ (.inr hko)
        rcases look with ⟨hk, _⟩ | ⟨_, c, hc, hcell⟩
        · rcases hko with hk' | hk' <;> (rw [hk] at hk'; cases hk')
        · refine ⟨u, ru, .inr ⟨hkn, c, hcl.trans hc, ?_⟩⟩
          obtain ⟨o, ho, hd⟩ := hcell
          exact ⟨o, keep c o ho, hd⟩
  · intro x c h
    obtain ⟨v, o, ho, hd⟩ := I.cell x c (cl_sub B.cells h)
    exact ⟨v, o, keep c o ho, hd⟩
  · show upd H2 s2.heap.objs.size (.lst []) (s2.heap.objs.size + 1) = none
    rw [upd_ne (Nat.succ_ne_self _)]
    exact I.hok.fresh (Nat.le_succ _)
  · intro x c h
    have h1 := cl_sub B.cells h
    rw [upd_ne (Nat.ne_of_lt (cexist x c h1))]
    exact I.freeC x c h1
  · intro p hp
    cases hp
  · unfold capR
    simp only [List.length_append, List.length_replicate, List.length_map]
    show own.length + caps.length = (own ++ capN).length
    rw [List.length_append, B.cap.len]
end
end DL
namespace DL
open PySem PySem.Spec PyProof.Rows L2
def PFd (X : Cx) (ifs : List Expr) (f : DSt → M Bool) : Prop := ∀ (pins : Pins) (s : Shared) (σ : L2.St) (H : Hp) (J : List Addr) (r : DSt) (S : List Cell) (Q : Bool → Shared → Prop) (E : Value → Shared → Prop),
  At X pins σ H J r S s → MtB X pins σ H J (f r S) Q E → wpAny (model X.prog X.w) X.A (forIn ifs true fun c b => if b = true then do let ok ← isTrue c X.env (eval c X.env); pure (ForInStep.yield ok) else pure (ForInStep.yield b)) Q E s
theorem pf_nil {X : Cx} : PFd X [] (fun _ => M.ret true) := fun pins s σ H J r S Q E I m => wpAny_tests_nil (m.ok_ I)
open Classical in
noncomputable def cTurns (tg : TGd) (ti : DSt → M Bool) (fe : DSt → M D) (n : Nat) (g : Option (Nat × List D)) (r0 : DSt) : List D → List Cell → R Unit
  | [], S => .ok () S
  | x :: xs, S => match tg x r0 with
    | none => .bad
    | some r1 => match ti r1 S with
      | .ok false S1 => if gok g S1 then cTurns tg ti fe n g r0 xs S1 else .bad
      | .ok true S1 => (match fe r1 S1 with
        | .ok d S2 => (match S2[n]? with
          | some (.lst ys) => cif (ys.length < sizeLine ∧ gok g (S2.set n (.lst (ys ++ [d])))) (cTurns tg ti fe n g r0 xs (S2.set n (.lst (ys ++ [d])))) .bad
          | _ => .bad)
        | _ => .bad)
      | _ => .bad
noncomputable def dComp (f : DSt → M Wk) (tg : TGd) (ti : DSt → M Bool) (fe : DSt → M D) (own : Nat) (caps : List Nat) : DSt → M D := fun r => (f r).bind fun w S => match cTurns tg ti fe S.length w.guard (capR own caps r) w.items (S ++ [.lst []]) with
  | .ok _ S' => .ok (.ob S.length) S'
  | _ => .bad
def TgOwn (own : Nat) (tg : TGd) : Prop := ∀ d r r', tg d r = some r' → r'.length = r.length ∧ ∀ i, own ≤ i → r'[i]? = r[i]?
theorem tgOwn_N {own i : Nat} (h : i < own) : TgOwn own (gN i) := fun d r r' e => by
  cases e
  exact ⟨by simp, fun j hj => by rw [List.getElem?_set_ne (by omega)]⟩
theorem RepL.own {K : PySem.W.Frag} {H : Hp} {J : List Addr} {own : Nat} {caps : List Nat} {r r1 : DSt} {σ : L2.St} {tg : TGd} {d : D} (ho : TgOwn own tg) (e : tg d (capR own caps r) = some r1) (h : RepL K H J r1 σ) : RepL K H J (capR own caps r) σ := by
  obtain ⟨a, b⟩ := ho _ _ _ e
  refine ⟨by rw [← a]; exact h.len, fun i d' q => ?_⟩
  by_cases hi : i < own
  · unfold capR at q
    rw [List.getElem?_append_left (by simpa using hi), List.getElem?_replicate] at q
    split at q <;> cases q
  · exact h.at_ i d' (by rw [b i (by omega)]; exact q)
section
variable {X : Cx} {elt target iter : Expr} {ifs : List Expr} {scope : Scope} {pos : Pos} {tg : TGd} {ti : DSt → M Bool} {fe : DSt → M D} {own : Nat} {caps : List Nat}
theorem comp_loop (hc : X.calm = true) (hg : PGd X target tg) (ht : PFd X ifs ti) (he : PEd X elt fe) (hown : TgOwn own tg) {r : DSt} {w : Wk} {it : Addr} {fp : List Addr} {tn : Nat → Heap → Prop} {it0 : It} {H0 : Hp} {J0 : List Addr} {n : Nat} {acc : Addr}
    (T : Turn X.prog X.w X.K target it0 fp it tn) (ok : ItOk X.K it0 w H0 J0) (hacc : J0[n]? = some acc) {RR : Result → Shared → Prop} {σ : L2.St} {S : List Cell} {s : Shared} {S' : List Cell} (I : At X [] σ H0 J0 (capR own caps r) S s)
    (hfp : ∀ b ∈ fp, FpOk X [] H0 b) (st : tn 0 s.heap) (gk : gok w.guard S) (hr : cTurns tg ti fe n w.guard (capR own caps r) w.items S = .ok () S')
    (hR : ∀ s' σ' H' J', Inv X [] σ' H' s' → RepS X.K H' J' S' → Ext H0 J0 H' J' → RR (.ok .next) s') :
    codeAny (model X.prog X.w) X.A (.compLoop (.ListComp elt [⟨target, iter, ifs, 0⟩] scope pos) 0 (.ref it) (.ref acc) X.env) RR s := by
  have stat : ∀ {H' : Hp}, (∀ b ∈ fp, H' b = none) → ∀ b ∈ fp, FpOk X [] H' b := fun hn b hb => ⟨hn b hb, (hfp b hb).2⟩
  refine codeAny_loop rfl (fun k s' => ∃ i σ' H' J' S1, At X [] σ' H' J' (capR own caps r) S1 s' ∧ Ext H0 J0 H' J' ∧ tn i s'.heap ∧ (∀ b ∈ fp, H' b = none) ∧ gok w.guard S1 ∧ k = w.items.length - i ∧ i ≤ w.items.length ∧
    cTurns tg ti fe n w.guard (capR own caps r) (w.items.drop i) S1 = .ok () S') ?_ w.items.length ⟨0, σ, H0, J0, S, I, Ext.refl _ _, st, fun b hb => (hfp b hb).1, gk, by simp, Nat.zero_le _, by simpa using hr⟩
  rintro k s3 ⟨i, σ3, H3, J3, S3, I3, x3, st3, fr3, gk3, rfl, hil, m3⟩
  show wpAny _ X.A ((compTurn (.ListComp elt [⟨target, iter, ifs, 0⟩] scope pos) 0 (.ref it) (.ref acc) X.env).onRaise (fun x => do noteFrame x X.env; theTreesLotGoes x)) _ _ s3
  refine wpAny_noted ?_
  rw [compTurn_list]
  refine wpAny_bind (wpAny_standAt (wpAny_bind ?_))
  obtain ⟨hgo, hstop, hyld⟩ := ok H3 J3 S3 x3 I3.st gk3
  by_cases hi' : i < w.items.length
  · obtain ⟨d, hd⟩ : ∃ d, w.items[i]? = some d := ⟨w.items[i], by simp [hi']⟩
    rw [List.drop_eq_getElem_cons hi'] at m3
    have hd' : w.items[i] = d := by
      rw [List.getElem?_eq_getElem hi'] at hd
      exact Option.some.inj hd
    rw [hd'] at m3
    unfold cTurns at m3
    cases eg : tg d (capR own caps r) with
    | none => rw [eg] at m3; cases m3
    | some r4 =>
      rw [eg] at m3
      dsimp only at m3
      refine thn (T.item X rfl rfl rfl hc i [] s3 σ3 H3 _ I3.inv (stat fr3) st3 (hgo i hi')) fun rr s4 ⟨u, hr, h4⟩ => ?_
      subst hr
      refine wpAny_bind (thn h4 fun _ s5 ⟨x, H5, I5, r5, y5, st5, fr5⟩ => ?_)
      obtain ⟨J5, x5, rs5, rv5⟩ := hyld i x H5 y5 d hd
      have I5' := I5.pinned (stat fr5) (T.obj _ _ st5)
      refine wpAny_bind (hg _ s5 σ3 H5 J5 (capR own caps r) S3 d x u _ _ r4 ⟨I5', I3.loc.ext x5, rs5⟩ rv5 r5 eg fun s6 σ6 H6 J6 I6 x6 => ?_)
      have back : ∀ {σ7 : L2.St} {H7 : Hp} {J7 : List Addr} {S7 : List Cell} {s7 : Shared}, At X ([] ++ pinsAt fp s5.heap) σ7 H7 J7 r4 S7 s7 → Ext H6 J6 H7 J7 → gok w.guard S7 → cTurns tg ti fe n w.guard (capR own caps r) (w.items.drop (i + 1)) S7 = .ok () S' →
          ∃ m, m < w.items.length - i ∧ ∃ i σ' H' J' S1, At X [] σ' H' J' (capR own caps r) S1 s7 ∧ Ext H0 J0 H' J' ∧ tn i s7.heap ∧ (∀ b ∈ fp, H' b = none) ∧ gok w.guard S1 ∧ m = w.items.length - i ∧ i ≤ w.items.length ∧
            cTurns tg ti fe n w.guard (capR own caps r) (w.items.drop i) S1 = .ok () S' := by
        intro σ7 H7 J7 S7 s7 I7 x7 gk7 m7
        refine ⟨w.items.length - (i + 1), by omega, i + 1, σ7, H7, J7, S7, ⟨I7.inv.unpinned, RepL.own hown eg I7.loc, I7.st⟩, ((x3.trans x5).trans x6).trans x7, T.keep _ _ _ st5 fun b hb o e => (I7.inv.pin (b, o) (List.mem_append_right _ (List.mem_append_right _ (mem_pinsAt hb e)))).1, fun b hb => ?_, gk7, rfl, hi', m7⟩
        obtain ⟨o, e, d⟩ := T.obj _ _ st5 b hb
        exact (I7.inv.pin (b, o) (List.mem_append_right _ (List.mem_append_right _ (mem_pinsAt hb e)))).2.1
      refine wpAny_bind (ht _ s6 σ6 H6 J6 r4 S3 _ _ I6 ?_)
      cases et : ti r4 S3 with
      | bad => rw [et] at m3; cases m3
      | exc c S4 => rw [et] at m3; cases m3
      | ok b S4 =>
        rw [et] at m3
        rintro s7 ⟨H7, I7, J7, x7, rs7⟩
        have A7 : At X ([] ++ pinsAt fp s5.heap) σ6 H7 J7 r4 S4 s7 := ⟨I7, I6.loc.ext x7, rs7⟩
        cases b with
        | false =>
          dsimp only at m3
          by_cases g4 : gok w.guard S4
          · rw [if_pos g4] at m3
            exact wpAny_pure ⟨rfl, back A7 x7 g4 m3⟩
          · rw [if_neg g4] at m3; cases m3
        | true =>
          dsimp only at m3
          refine wpAny_bind (wpAny_bind (he _ s7 σ6 H7 J7 r4 S4 _ _ A7 ?_))
          cases ee : fe r4 S4 with
          | bad => rw [ee] at m3; cases m3
          | exc c S5 => rw [ee] at m3; cases m3
          | ok dv S5 =>
            rw [ee] at m3
            rintro v s8 ⟨vx, H8, I8, r8, J8, x8, rs8, rv8⟩
            dsimp only at m3
            have hacc8 : J8[n]? = some acc := by
              obtain ⟨m1, e1⟩ := ((((x3.trans x5).trans x6).trans x7).trans x8).pre
              rw [e1, List.getElem?_append_left (List.getElem?_eq_some_iff.mp hacc).1]
              exact hacc
            obtain ⟨c8, hc8, rc8⟩ := rs8.cellA hacc8
            rw [hc8] at m3
            cases c8 with
            | lst ys =>
              dsimp only at m3
              by_cases g5 : ys.length < sizeLine ∧ gok w.guard (S5.set n (.lst (ys ++ [dv])))
              · rw [cif_pos g5] at m3
                obtain ⟨vs, hvs, rvs⟩ := rc8
                refine wpAny_bind (wpAny_mono (mt_append (X := X.wish (notedBy (model X.prog X.w) X.A X.env fun e s' => RR (.error e) s')) _ s8 σ6 H8 (.ref acc) [vx] (.ref acc) [v] (fun v' H9 => v' = .non ∧ H9 = upd H8 acc (.lst (vs ++ [vx]))) (I8.wish _) rfl (.cons r8 .nil)
                  ⟨acc, vs, vx, rfl, rfl, hvs, by rw [rvs.length]; exact g5.1, rfl, rfl⟩) (fun v' s9 q => ?_) fun _ _ z => z)
                obtain ⟨v9, H9, I9, r9, rfl, rfl⟩ := q
                have x9 : Ext H8 J8 (upd H8 acc (.lst (vs ++ [vx]))) J8 := Ext.write hvs rfl
                have rs9 : RepS X.K (upd H8 acc (.lst (vs ++ [vx]))) J8 (S5.set n (.lst (ys ++ [dv]))) := rs8.write hacc8 ⟨_, upd_same, (rvs.ext x9).append (.one (rv8.ext x9))⟩
                exact wpAny_pure (wpAny_pure ⟨rfl, back ⟨I9.unwish, (A7.loc.ext x8).ext x9, rs9⟩ ((x7.trans x8).trans x9) g5.2 m3⟩)
              · rw [cif_neg g5] at m3; cases m3
            | _ => cases m3
  · have e : i = w.items.length := by omega
    subst e
    rw [List.drop_length] at m3
    cases m3
    refine thn (T.done X rfl rfl rfl hc _ [] s3 σ3 H3 _ I3.inv (stat fr3) st3 hstop) fun rr s4 ⟨hr, I4⟩ => ?_
    subst hr
    exact wpAny_pure (hR s4 σ3 H3 J3 I4 I3.st x3)
end
section
variable {X : Cx} {elt target iter : Expr} {ifs : List Expr} {scope : Scope} {pos : Pos} {f : DSt → M Wk} {tg : TGd} {ti : DSt → M Bool} {fe : DSt → M D} {own capN : List Str} {caps : List Nat} {cl : List (Str × Addr)}
structure CompEnd (X : Cx) (pins : Pins) (σ : L2.St) (H : Hp) (J : List Addr) (n : Nat) (S' : List Cell) (D C : Addr) (s' : Shared) : Prop where
  ex : ∃ H' J', Inv X pins σ H' s' ∧ Ext H J H' J' ∧ RepS X.K H' J' S' ∧ J'[n]? = some D ∧ H' C = none ∧ C ≠ X.env.locals ∧ X.s₀.heap.objs.size ≤ C ∧ (∀ x c, X.env.cells.lookup x = some c → c ≠ C) ∧ ∀ p ∈ X.pn ++ pins, p.1 ≠ C
  ns : ∃ m, s'.heap.Ns C m
theorem comp_core (B : BlkOk X scope own capN caps cl) (hc : X.calm = true) (hown : TgOwn own.length tg)
    (hB : ∀ (C : Addr) (s2 : Shared) (H2 : Hp) (fp : List Addr), PGd (blk X scope (own ++ capN) cl C s2 H2 fp) target tg ∧ PFd (blk X scope (own ++ capN) cl C s2 H2 fp) ifs ti ∧ PEd (blk X scope (own ++ capN) cl C s2 H2 fp) elt fe)
    {pins : Pins} {s2 : Shared} {σ : L2.St} {H2 : Hp} {J2 : List Addr} {r : DSt} {S : List Cell} {w : Wk} {S' : List Cell} {RR : Value → Addr → Result → Shared → Prop} {E : Value → Shared → Prop}
    {it : Addr} {fp : List Addr} {tn : Nat → Heap → Prop} {it0 : It} (I2 : At X pins σ H2 J2 r S s2) (T : Turn X.prog X.w X.K target it0 fp it tn) (ok : ItOk X.K it0 w H2 J2) (hfp : ∀ b ∈ fp, FpOk X pins H2 b) (st : tn 0 s2.heap) (gk : gok w.guard S)
    (hr : cTurns tg ti fe S.length w.guard (capR own.length caps r) w.items (S ++ [.lst []]) = .ok () S')
    (hR : ∀ D C s', CompEnd X pins σ H2 J2 S.length S' D C s' → RR (.ref D) C (.ok .next) s') :
    wpAny (model X.prog X.w) X.A (newList []) (fun acc s₃ => wpAny (model X.prog X.w) X.A (newFunctionEnv scope X.env.globals cl [] X.env.qual none .none (some X.env)) (fun cenv s₄ =>
      codeAny (model X.prog X.w) X.A (.compStart (.ListComp elt [⟨target, iter, ifs, 0⟩] scope pos) 0 (.ref it) acc { cenv with scope := relabel scope X.env }) (RR acc cenv.locals) s₄) E s₃) E s2 := by
  refine wpAny_newObj_type (wpAny_newFunctionEnv B.nocell (by intro y hy; simp at hy) (fun h₁ hns₁ hsb₁ => ?_) B.kind)
  dsimp only at hns₁ hsb₁ ⊢
  have hsz : (s2.heap.push { cls := .type "list", dict := none, data := .seq ([] : List Value).toArray }).objs.size = s2.heap.objs.size + 1 := by rw [Heap.size_push]
  rw [hsz] at hns₁ hsb₁ ⊢
  have keep : ∀ b o, s2.heap.get? b = some o → h₁.get? b = some o := fun b o e =>
    hsb₁.extBut b o (Nat.ne_of_lt (Nat.lt_succ_of_lt (Heap.lt_size e))) (Heap.get?_push_of_some _ (Heap.get?_push_of_some _ e))
  have hl : h₁.get? s2.heap.objs.size = some { cls := .type "list", data := .seq #[] } := hsb₁.extBut _ _ (Nat.ne_of_lt (Nat.lt_succ_self _)) (Heap.get?_push_of_some _ (Heap.get?_push_size _ rfl))
  have fpo : ∀ b ∈ fp, ∃ o, s2.heap.get? b = some o := fun b hb => let ⟨o, e, _⟩ := T.obj _ _ st b hb; ⟨o, e⟩
  have hf0 : H2 s2.heap.objs.size = none := I2.inv.hok.fresh (Nat.le_refl _)
  have IB := blk_start (tk := s2.toks + ([] : List (Str × Value)).length) B I2.inv hfp fpo (by simpa using hns₁) hl keep
  have st1 : tn 0 h₁ := T.keep _ _ _ st fun b hb o e => keep b o e
  obtain ⟨hg, ht, he⟩ := hB (s2.heap.objs.size + 1) s2 H2 fp
  have x0 : Ext H2 J2 (upd H2 s2.heap.objs.size (.lst [])) (J2 ++ [s2.heap.objs.size]) := (Ext.new hf0).snoc _
  have rs0 : RepS X.K (upd H2 s2.heap.objs.size (.lst [])) (J2 ++ [s2.heap.objs.size]) (S ++ [.lst []]) := I2.st.push hf0 ⟨[], upd_same, .nil⟩
  have loop : codeAny (model X.prog X.w) X.A (.compLoop (.ListComp elt [⟨target, iter, ifs, 0⟩] scope pos) 0 (.ref it) (.ref s2.heap.objs.size) (compEnvC scope cl (s2.heap.objs.size + 1) X.env)) (RR (.ref s2.heap.objs.size) (s2.heap.objs.size + 1))
      { s2 with heap := h₁, toks := s2.toks + ([] : List (Str × Value)).length } := by
    refine comp_loop (X := blk X scope (own ++ capN) cl (s2.heap.objs.size + 1) s2 H2 fp) (own := own.length) (caps := caps) (r := r) (w := w) (n := S.length) hc hg ht he hown (H0 := upd H2 s2.heap.objs.size (.lst [])) (J0 := J2 ++ [s2.heap.objs.size]) (it0 := it0) (fp := fp) (tn := tn) T
      ?_ ?_ (S := S ++ [Cell.lst []]) ⟨IB, (I2.loc.ext x0).cap _ _, rs0⟩ ?_ st1 ?_ hr ?_
    · exact fun H J S1 x rs g => ok H J S1 (x0.trans x) rs g
    · rw [← I2.st.len]; simp
    · intro b hb
      obtain ⟨o, hbo⟩ := fpo b hb
      obtain ⟨f0, f1, f2, f3, f4, f5⟩ := hfp b hb
      refine ⟨by rw [upd_ne (Nat.ne_of_lt (Heap.lt_size hbo))]; exact f0, Nat.ne_of_lt (Nat.lt_succ_of_lt (Heap.lt_size hbo)), ?_, .inl hb, fun x c h => f4 x c (cl_sub B.cells h), fun p hp => by cases hp⟩
      intro hbs
      rcases List.mem_cons.mp (I2.inv.stkSub b hbs) with e | e
      · exact f1 e
      · exact f2 e
    · cases eg : w.guard with
      | none => trivial
      | some q =>
        obtain ⟨k, xs⟩ := q
        rw [eg] at gk
        show (S ++ [Cell.lst []])[k]? = _
        rw [List.getElem?_append_left (List.getElem?_eq_some_iff.mp gk).1]
        exact gk
    · intro s' σ' H' J' I' rs' x'
      refine hR _ _ s' ⟨⟨H', J', ?_, x0.trans x', rs', ?_, I'.free, ?_, ?_, ?_, ?_⟩, ?_⟩
      · refine I2.inv.call' (ch := fp) I'.os I'.base I'.hok I'.bare fun b hb => ?_
        obtain ⟨f0, f1, f2, f3, f4, f5⟩ := hfp b hb
        exact ⟨f3, f1, f4, f5⟩
      · obtain ⟨m, em⟩ := x'.pre
        rw [em, List.getElem?_append_left (by rw [List.length_append, I2.st.len]; simp), ← I2.st.len]
        simp
      · exact (Nat.ne_of_lt (Nat.lt_succ_of_lt I2.inv.lt)).symm
      · exact Nat.le_trans I2.inv.sz (Nat.le_succ _)
      · intro x c h
        obtain ⟨v, o, ho, _⟩ := I2.inv.cell x c h
        exact Nat.ne_of_lt (Nat.lt_succ_of_lt (Heap.lt_size ho))
      · intro p hp
        obtain ⟨h1, _⟩ := I2.inv.pin p hp
        exact Nat.ne_of_lt (Nat.lt_succ_of_lt (Heap.lt_size h1))
      · obtain ⟨m, hm, _⟩ := I'.loc
        exact ⟨m, hm⟩
  exact codeAny_compStart_list loop (T.self _ 0 _ _ _ st1 loop)
theorem CompEnd.let_go {pins : Pins} {σ : L2.St} {H : Hp} {J : List Addr} {n : Nat} {S' : List Cell} {D C : Addr} {s' : Shared} (h : CompEnd X pins σ H J n S' D C s') {h' : Heap} (hs : Heap.SameBut C s'.heap h') :
    ∃ H' J', Inv X pins σ H' { s' with heap := h' } ∧ Ext H J H' J' ∧ RepS X.K H' J' S' ∧ J'[n]? = some D := by
  obtain ⟨H', J', I, x, rs, hn, f0, f1, f2, f3, f4⟩ := h.ex
  exact ⟨H', J', I.turned (t' := s'.toks) (fun b o hb e => (hs.2 b hb).trans e) f0 f1 (.inr f2) f3 f4, x, rs, hn⟩
theorem pd_comp (B : BlkOk X scope own capN caps cl) (hc : X.calm = true) (hi : PId X target iter f) (hown : TgOwn own.length tg)
    (hB : ∀ (C : Addr) (s2 : Shared) (H2 : Hp) (fp : List Addr), PGd (blk X scope (own ++ capN) cl C s2 H2 fp) target tg ∧ PFd (blk X scope (own ++ capN) cl C s2 H2 fp) ifs ti ∧ PEd (blk X scope (own ++ capN) cl C s2 H2 fp) elt fe)
    (hs : ∀ x, foldedSetIterable iter X.env x = pure x := by intro _; rfl) :
    PEd X (.ListComp elt [⟨target, iter, ifs, 0⟩] scope pos) (dComp f tg ti fe own.length caps) := by
  intro pins s σ H J r S Q E I m
  rw [eval_ListComp]
  refine wpAny_comprehension_free (use := none) rfl hs B.clos B.kind B.names (hi pins s σ H J r S _ E I ?_)
  unfold dComp M.bind at m
  cases ef : f r S with
  | bad => rw [ef] at m; exact m
  | exc c S1 => rw [ef] at m; exact m
  | ok w S1 =>
    rw [ef] at m
    dsimp only at m
    rintro itv s2 ⟨it, fp, tn, it0, H2, rfl, I2, T, st2, f2, J2, x2, rs2, gk, ok⟩
    cases er : cTurns tg ti fe S1.length w.guard (capR own.length caps r) w.items (S1 ++ [.lst []]) with
    | bad => rw [er] at m; exact m.elim
    | exc c S3 => rw [er] at m; exact m.elim
    | ok uu S' =>
      rw [er] at m
      refine comp_core (RR := fun acc C => compPost (model X.prog X.w) X.A E none Q acc C) B hc hown hB ⟨I2, I.loc.ext x2, rs2⟩ T ok f2 st2 gk er fun D C s' ce => ?_
      obtain ⟨mC, hmC⟩ := ce.ns
      refine ⟨mC, hmC, fun h' hs' => ?_⟩
      obtain ⟨H', J', I', x', rs', hn⟩ := ce.let_go hs'
      exact m _ _ ⟨.ref D, H', I', rfl, J', x2.trans x', rs', .ob hn⟩
theorem sd_setComp {i : Nat} {y : Str} {py spos : Pos} (hN : X.N.Nodup) (B : BlkOk X scope own capN caps cl) (hc : X.calm = true) (hi : PId X target iter f) (hown : TgOwn own.length tg)
    (hB : ∀ (C : Addr) (s2 : Shared) (H2 : Hp) (fp : List Addr), PGd (blk X scope (own ++ capN) cl C s2 H2 fp) target tg ∧ PFd (blk X scope (own ++ capN) cl C s2 H2 fp) ifs ti ∧ PEd (blk X scope (own ++ capN) cl C s2 H2 fp) elt fe)
    (hsw : swapsWith (.ListComp elt [⟨target, iter, ifs, 0⟩] scope pos) (some (.Name y py)) spos.line X.env = pure true := by rfl) (hiN : X.N[i]? = some y := by rfl) (hx : Loc X.env.scope y := by first | exact Or.inl rfl | exact Or.inr rfl)
    (hf : X.fn y = true ∨ X.env.scope.names.lookup y = some .local := by first | exact .inl rfl | exact .inr rfl | assumption)
    (hs : ∀ x, foldedSetIterable iter X.env x = pure x := by intro _; rfl) :
    PSd X (.Assign [.Name y py] (.ListComp elt [⟨target, iter, ifs, 0⟩] scope pos) spos) (sAsg (dComp f tg ti fe own.length caps) (gN i)) := by
  intro pins s σ H J r S Q E I m
  rw [exec_Assign_Name_used _ _ _ _ hsw]
  refine wpAny_bind (wpAny_standAt (wpAny_bind ?_))
  show wpAny _ X.A (do let _ ← comprehension (.ListComp elt [⟨target, iter, ifs, 0⟩] scope pos) scope X.env _ (newList []) false (eval iter X.env) (some (assign (.Name y py) X.env))) _ _ s
  refine wpAny_bind (wpAny_mono (wpAny_comprehension_free (use := some (assign (.Name y py) X.env)) (Q := fun _ s' => Q .next s') rfl hs B.clos B.kind B.names (hi pins s σ H J r S _ E I ?_)) (fun _ s' hq => wpAny_pure (wpAny_pure hq)) fun _ _ z => z)
  unfold sAsg sBind dComp M.bind at m
  cases ef : f r S with
  | bad => rw [ef] at m; exact m
  | exc c S1 => rw [ef] at m; exact fun x s' ⟨H', XI, J', ex, rs⟩ => m x s' σ H' J' XI (I.loc.ext ex) rs ex
  | ok w S1 =>
    rw [ef] at m
    dsimp only at m
    rintro itv s2 ⟨it, fp, tn, it0, H2, rfl, I2, T, st2, f2, J2, x2, rs2, gk, ok⟩
    cases er : cTurns tg ti fe S1.length w.guard (capR own.length caps r) w.items (S1 ++ [.lst []]) with
    | bad => rw [er] at m; exact m.elim
    | exc c S3 => rw [er] at m; exact m.elim
    | ok uu S' =>
      rw [er] at m
      refine comp_core (RR := fun acc C => compPost (model X.prog X.w) X.A E (some (assign (.Name y py) X.env)) (fun _ s' => Q .next s') acc C) B hc hown hB ⟨I2, I.loc.ext x2, rs2⟩ T ok f2 st2 gk er fun D C s' ce => ?_
      obtain ⟨H', J', I', x', rs', hn, f0, f1, f2', f3, f4⟩ := ce.ex
      obtain ⟨mC, hmC⟩ := ce.ns
      show wpAny _ X.A (assign (.Name y py) X.env (.ref D)) _ _ _
      refine wpAny_assign_Name (store_ok2 I' hN hiN hx (v := .ref D) rfl (fun s3 I3 ch => ?_) hf)
      obtain ⟨ca, hsb, hca⟩ := ch
      have hCa : C ≠ ca := by
        rcases hca with e | e
        · rw [e]; exact f1
        · exact (f3 _ _ e).symm
      refine ⟨mC, hmC.sameBut hsb hCa, fun h' hs' => ?_⟩
      exact m _ _ H' J' ⟨I3.turned (h' := h') (t' := s3.toks) (fun b o hb e => (hs'.2 b hb).trans e) f0 f1 (.inr f2') f3 f4, ((I.loc.ext x2).ext x').set (.ob hn), rs'⟩ (x2.trans x')
end
end DL
namespace DL
open PySem PySem.Spec PyProof.Rows L2
mutual
def wfD (n : Nat) : D → Prop
  | .tup xs => wfDs n xs
  | .rol xs => wfDs n xs
  | .ob k => k < n
  | _ => True
def wfDs (n : Nat) : List D → Prop
  | [] => True
  | x :: xs => wfD n x ∧ wfDs n xs
end
section
variable {K : PySem.W.Frag} {H : Hp} {J m : List Addr}
mutual
theorem RepV.wf : ∀ {d : D} {v : V}, RepV K H J d v → wfD J.length d
  | .non, _, _ => by unfold wfD; trivial
  | .bl _, _, _ => by unfold wfD; trivial
  | .int _, _, _ => by unfold wfD; trivial
  | .str _, _, _ => by unfold wfD; trivial
  | .xn _, _, _ => by unfold wfD; trivial
  | .tup xs, _, h => by
    obtain ⟨a, vs, _, _, h⟩ := h.tup_
    unfold wfD
    exact RepVs.wf h
  | .rol xs, _, h => by
    obtain ⟨a, vs, _, _, h⟩ := h.rol_
    unfold wfD
    exact RepVs.wf h
  | .ob k, _, h => by
    obtain ⟨a, _, h⟩ := h.ob_
    unfold wfD
    exact (List.getElem?_eq_some_iff.mp h).1
theorem RepVs.wf : ∀ {xs : List D} {vs : List V}, RepVs K H J xs vs → wfDs J.length xs
  | [], _, _ => by unfold wfDs; trivial
  | x :: xs, _, h => by
    unfold RepVs at h
    obtain ⟨v, r, _, h1, h2⟩ := h
    unfold wfDs
    exact ⟨RepV.wf h1, RepVs.wf h2⟩
end
mutual
theorem RepV.shrink : ∀ {d : D} {v : V}, wfD J.length d → RepV K H (J ++ m) d v → RepV K H J d v
  | .non, _, _, h => by unfold RepV at h ⊢; exact h
  | .bl _, _, _, h => by unfold RepV at h ⊢; exact h
  | .int _, _, _, h => by unfold RepV at h ⊢; exact h
  | .str _, _, _, h => by unfold RepV at h ⊢; exact h
  | .xn _, _, _, h => by unfold RepV at h ⊢; exact h
  | .tup xs, _, w, h => by
    unfold wfD at w
    unfold RepV at h ⊢
    obtain ⟨a, vs, h1, h2, h3⟩ := h
    exact ⟨a, vs, h1, h2, RepVs.shrink w h3⟩
  | .rol xs, _, w, h => by
    unfold wfD at w
    unfold RepV at h ⊢
    obtain ⟨a, vs, h1, h2, h3⟩ := h
    exact ⟨a, vs, h1, h2, RepVs.shrink w h3⟩
  | .ob k, _, w, h => by
    unfold wfD at w
    unfold RepV at h ⊢
    obtain ⟨a, h1, h2⟩ := h
    rw [List.getElem?_append_left w] at h2
    exact ⟨a, h1, h2⟩
theorem RepVs.shrink : ∀ {xs : List D} {vs : List V}, wfDs J.length xs → RepVs K H (J ++ m) xs vs → RepVs K H J xs vs
  | [], _, _, h => by unfold RepVs at h ⊢; exact h
  | x :: xs, _, w, h => by
    unfold wfDs at w
    unfold RepVs at h ⊢
    obtain ⟨v, r, h1, h2, h3⟩ := h
    exact ⟨v, r, h1, RepV.shrink w.1 h2, RepVs.shrink w.2 h3⟩
end
def wfPs {κ : Type} (n : Nat) (xs : List (κ × D)) : Prop := ∀ p ∈ xs, wfD n p.2
theorem RepPs.wf {κ : Type} : ∀ {xs : List (κ × D)} {ws : List (κ × V)}, RepPs K H J xs ws → wfPs J.length xs
  | [], _, _ => fun p hp => by cases hp
  | (k, d) :: r, ws, h => by
    obtain ⟨v, t, _, h1, h2⟩ := h
    intro p hp
    rcases List.mem_cons.mp hp with rfl | hp
    · exact h1.wf
    · exact RepPs.wf h2 p hp
theorem RepPs.shrink {κ : Type} : ∀ {xs : List (κ × D)} {ws : List (κ × V)}, wfPs J.length xs → RepPs K H (J ++ m) xs ws → RepPs K H J xs ws
  | [], _, _, h => h
  | (k, d) :: r, ws, w, h => by
    obtain ⟨v, t, h0, h1, h2⟩ := h
    exact ⟨v, t, h0, h1.shrink (w (k, d) (by simp)), RepPs.shrink (fun p hp => w p (List.mem_cons_of_mem _ hp)) h2⟩
def wfC (n : Nat) : Cell → Prop
  | .lst xs => wfDs n xs
  | .dic kvs => wfPs n kvs
  | .ins _ _ ds => wfDs n ds
theorem RepC.wf {c : Cell} {a : Addr} (h : RepC K H J c a) : wfC J.length c := by
  cases c with
  | lst xs => obtain ⟨vs, _, r⟩ := h; exact r.wf
  | dic xs => obtain ⟨vs, _, r⟩ := h; exact r.wf
  | ins C ns ds => obtain ⟨dx, vs, _, _, r⟩ := h; exact r.wf
theorem RepC.shrink {c : Cell} {a : Addr} (w : wfC J.length c) (h : RepC K H (J ++ m) c a) : RepC K H J c a := by
  cases c with
  | lst xs => obtain ⟨vs, e, r⟩ := h; exact ⟨vs, e, r.shrink w⟩
  | dic xs => obtain ⟨vs, e, r⟩ := h; exact ⟨vs, e, r.shrink w⟩
  | ins C ns ds => obtain ⟨dx, vs, e, q, r⟩ := h; exact ⟨dx, vs, e, q, r.shrink w⟩
theorem RepS.wf {S : List Cell} (h : RepS K H J S) {n : Nat} {c : Cell} (hn : S[n]? = some c) : wfC S.length c := by
  obtain ⟨a, _, r⟩ := h.cell hn
  rw [← h.len]
  exact r.wf
theorem RepS.shrink {S G : List Cell} {J' : List Addr} (h : RepS K H J' (S ++ G)) (hw : ∀ (n : Nat) c, S[n]? = some c → wfC S.length c) : RepS K H (J'.take S.length) S := by
  have hl := h.len
  rw [List.length_append] at hl
  have hj : (J'.take S.length).length = S.length := by rw [List.length_take]; omega
  refine ⟨hj, h.nd.sublist (List.take_sublist _ _), fun n c a hc ha => ?_⟩
  have hn := (List.getElem?_eq_some_iff.mp hc).1
  have ha' : J'[n]? = some a := by
    rw [List.getElem?_take] at ha
    rw [if_pos hn] at ha
    exact ha
  have r := h.at_ n c a (by rw [List.getElem?_append_left hn]; exact hc) ha'
  have w := hw n c hc
  rw [← hj] at w
  rw [← List.take_append_drop S.length J'] at r
  exact r.shrink w
theorem Got.drop {H' : Hp} {S0 S G : List Cell} {d : D} {v : V} (h : Got K H J d (S ++ G) v H') (r0 : RepS K H J S0) (hl : S0.length ≤ S.length) (hd : wfD S.length d) (hw : ∀ (n : Nat) c, S[n]? = some c → wfC S.length c) : Got K H J d S v H' := by
  obtain ⟨J', x, rs, rv⟩ := h
  have hlen := rs.len
  rw [List.length_append] at hlen
  have hj : (J'.take S.length).length = S.length := by rw [List.length_take]; omega
  refine ⟨J'.take S.length, ⟨x.st, ?_⟩, rs.shrink hw, ?_⟩
  · obtain ⟨more, e⟩ := x.pre
    refine ⟨more.take (S.length - J.length), ?_⟩
    rw [e, List.take_append, List.take_of_length_le (by rw [r0.len]; exact hl)]
  · rw [← hj] at hd
    rw [← List.take_append_drop S.length J'] at rv
    exact rv.shrink hd
end
def FEnd (S0 : List Cell) (x : RSt) (y : R D) : Prop := match y with
  | .ok d S' => ∃ G, (G = [] ∨ (S0.length ≤ S'.length ∧ wfD S'.length d ∧ (S' = S0 ∨ ∀ (n : Nat) c, S'[n]? = some c → wfC S'.length c))) ∧ (x = some (.rt d, S' ++ G) ∨ (d = .non ∧ ∃ r', x = some (.nx r', S' ++ G)))
  | .exc c S' => ∃ r', x = some (.xc c r', S')
  | .bad => True
def Leaves (CX : CXT) (X : Cx) (E : XK) : Prop := ∀ (σ : L2.St) (H' : Hp) (s' : Shared) (e : Value) (c : Addr), XInv X [] σ H' s' e c → (∀ p o, H' p = none → E (.ref c) none (upd H' p o)) → X.xe e s'
section
variable {P : Program} {w : World} {K : PySem.W.Frag} {mg : Str → Option Value} {base : Heap} {CX : CXT}
theorem fnD_of {x qual : Str} {st : Stmt} {f : Addr} {fd : FuncData} {N ps : List Str} {k : Nat} {F : List D → M D} (hF : Fun K x qual st f fd) (S : FnScope N ps (defScope st))
    (hleave : ∀ (cdv : Value) (A : Around) (outer : List Env) (s : Shared) (H : Hp) (E : XK), Leaves CX (cxOf CX P w K mg base N qual (defScope st) f cdv A outer s H E) E)
    (hbody : ∀ (cdv : Value) (A : Around) (outer : List Env) (s : Shared) (H : Hp) (E : XK), Room k (A.deeper (envOfC qual (defScope st) s.heap.objs.size f cdv)) →
      ∃ t, PSsd (cxOf CX P w K mg base N qual (defScope st) f cdv A outer s H E) (defBody st) t ∧ ∀ xs S0, xs.length = ps.length → FEnd S0 (t (xs.map some ++ List.replicate (N.length - xs.length) none) S0) (F xs S0)) :
    FnD P w K mg base CX (k + 1) f fd ps F := by
  obtain ⟨oc, od, kV, doc, pm, an, cdv, ct, osl, rfl, lk, hcd⟩ := hF.ex
  refine fn_of lk hcd S (fun vs H Q E h => h.1) (fun A outer s H vs Q E hr h => ?_)
  obtain ⟨hlen, J, xs, S0, rx, rs, h⟩ := h
  obtain ⟨t, ht, hend⟩ := hbody cdv A outer s H E hr
  have hl : xs.length = ps.length := by rw [← rx.length]; exact hlen
  have he := hend xs S0 hl
  refine ⟨fun D σ H' => D = { nx := fun _ H' => Q .non H', rt := Q } ∧ σ = L2.start N vs ∧ H' = H, ?_, rfl, rfl, rfl⟩
  rintro pins s1 σ1 H1 D1 I1 ⟨rfl, rfl, rfl⟩
  refine ht pins s1 _ _ J _ S0 _ _ ⟨I1, RepL.start rx, rs⟩ ?_
  have wf0 : ∀ (n : Nat) c, S0[n]? = some c → wfC S0.length c := fun n c h => rs.wf h
  cases ef : F xs S0 with
  | bad => rw [ef] at h; exact h.elim
  | ok d S' =>
    rw [ef] at he h
    dsimp only at h
    obtain ⟨G, hG, hx⟩ := he
    have fin : ∀ {v : V} {H' : Hp}, Got K H1 J d (S' ++ G) v H' → Q v H' := fun {v H'} g => by
      rcases hG with rfl | ⟨h1, h2, h3⟩
      · rw [List.append_nil] at g
        exact h v H' g
      · refine h v H' (g.drop rs h1 h2 ?_)
        rcases h3 with rfl | h3
        · exact wf0
        · exact h3
    rcases hx with hx | ⟨rfl, r', hx⟩
    · rw [hx]
      exact fun u s' σ' ⟨v, H', I', rv, g⟩ => ⟨v, σ', H', I', rv, fin g⟩
    · rw [hx]
      exact fun s' σ' H' J' a x => ⟨σ', H', a.inv, fin ⟨J', x, a.st, RepV.non _ _ _⟩⟩
  | exc c S' =>
    rw [ef] at he h
    dsimp only at h
    obtain ⟨r', hx⟩ := he
    rw [hx]
    exact fun e s' σ' H' J' XI rl rs' x => hleave cdv A outer s H1 E σ' H' s' e c ⟨XI.inv.pins_of (fun p hp => (nomatch hp)), XI.fly⟩ (fun p o hp => h (upd H' p o) ⟨J', x.trans (Ext.new hp), rs'.new hp⟩)
end
end DL
namespace DL
open PySem PySem.Spec PyProof.Rows L2
mutual
def pD (S : List Cell) : Nat → D → Option PyData
  | 0, _ => none
  | n + 1, .non => some .none
  | n + 1, .bl b => some (.bool b)
  | n + 1, .int i => some (.int i)
  | n + 1, .str x => if PyData.canLay0 (.str x) = true then some (.str x) else none
  | n + 1, .tup xs => (pDs S n xs).map .tuple
  | n + 1, .rol xs => (pDs S n xs).map .list
  | n + 1, .ob k => match S[k]? with
    | some (.lst xs) => (pDs S n xs).map .list
    | _ => none
  | n + 1, .xn _ => none
def pDs (S : List Cell) (n : Nat) : List D → Option (List PyData)
  | [] => some []
  | x :: xs => match pD S n x, pDs S n xs with
    | some p, some ps => some (p :: ps)
    | _, _ => none
end
section
variable {X : Cx} {pins : Pins} {σ : L2.St} {H : Hp} {J : List Addr} {S : List Cell} {s : Shared}
mutual
theorem reads_of (I : Inv X pins σ H s) (rs : RepS X.K H J S) : ∀ {n : Nat} {d : D} {v : V} {u : Value} {p : PyData}, RepV X.K H J d v → RelV v u → pD S n d = some p → (∃ as, Reads s.heap u p as) ∧ p.canLay0 = true ∧ p.depth ≤ n
  | 0, _, _, _, _, _, _, e => by unfold pD at e; cases e
  | n + 1, .non, _, _, _, rv, r, e => by
    cases rv.non_; cases r; unfold pD at e; cases e
    exact ⟨⟨_, .none⟩, rfl, Nat.zero_le _⟩
  | n + 1, .bl b, _, _, _, rv, r, e => by
    cases rv.bl_; cases r; unfold pD at e; cases e
    exact ⟨⟨_, .bool b⟩, rfl, Nat.zero_le _⟩
  | n + 1, .int i, _, _, _, rv, r, e => by
    cases rv.int_; obtain ⟨t, rfl⟩ := r; unfold pD at e; cases e
    exact ⟨⟨_, .int i t⟩, rfl, Nat.zero_le _⟩
  | n + 1, .str x, _, _, _, rv, r, e => by
    cases rv.str_
    obtain ⟨t, rfl⟩ := r
    unfold pD at e
    split at e
    · rename_i h
      cases e
      exact ⟨⟨_, .str x t⟩, h, Nat.zero_le _⟩
    · cases e
  | n + 1, .tup xs, _, _, _, rv, r, e => by
    obtain ⟨a, vs, rfl, hq, rvs⟩ := rv.tup_
    cases r
    obtain ⟨its, rl, ⟨o, ho, hc, k, hd⟩, hz⟩ := I.tuple hq
    unfold pD at e
    cases ep : pDs S n xs with
    | none => rw [ep] at e; cases e
    | some ps =>
      rw [ep] at e
      cases e
      obtain ⟨⟨as, h1⟩, h2, h3⟩ := readsAll_of I rs rvs rl ep
      exact ⟨⟨_, .tuple ho hc hd (by simpa using h1)⟩, h2, Nat.succ_le_succ h3⟩
  | n + 1, .rol xs, _, _, _, rv, r, e => by
    obtain ⟨a, vs, rfl, hq, rvs⟩ := rv.rol_
    cases r
    obtain ⟨its, rl, pl, hz⟩ := I.list hq.sq
    obtain ⟨o, ho, hc, k, hd⟩ := pl.isList
    unfold pD at e
    cases ep : pDs S n xs with
    | none => rw [ep] at e; cases e
    | some ps =>
      rw [ep] at e
      cases e
      obtain ⟨⟨as, h1⟩, h2, h3⟩ := readsAll_of I rs rvs rl ep
      exact ⟨⟨_, .list ho hc hd (by simpa using h1)⟩, h2, Nat.succ_le_succ h3⟩
  | n + 1, .ob k, _, _, _, rv, r, e => by
    obtain ⟨a, rfl, hn⟩ := rv.ob_
    cases r
    obtain ⟨c, hc, rc⟩ := rs.cellA hn
    unfold pD at e
    rw [hc] at e
    cases c with
    | lst xs =>
      obtain ⟨vs, hv, rvs⟩ := rc
      obtain ⟨its, rl, pl, hz⟩ := I.list (SqL.of hv)
      obtain ⟨o, ho, hc, k, hd⟩ := pl.isList
      dsimp only at e
      cases ep : pDs S n xs with
      | none => rw [ep] at e; cases e
      | some ps =>
        rw [ep] at e
        cases e
        obtain ⟨⟨as, h1⟩, h2, h3⟩ := readsAll_of I rs rvs rl ep
        exact ⟨⟨_, .list ho hc hd (by simpa using h1)⟩, h2, Nat.succ_le_succ h3⟩
    | _ => cases e
  | n + 1, .xn c, _, _, _, _, _, e => by unfold pD at e; cases e
theorem readsAll_of (I : Inv X pins σ H s) (rs : RepS X.K H J S) : ∀ {n : Nat} {xs : List D} {vs : List V} {us : List Value} {ps : List PyData}, RepVs X.K H J xs vs → Vals vs us → pDs S n xs = some ps → (∃ as, ReadsAll s.heap us ps as) ∧ PyData.canLayAll0 ps = true ∧ PyData.depthAll ps ≤ n
  | n, [], _, _, _, rv, r, e => by
    unfold RepVs at rv
    subst rv
    cases r
    unfold pDs at e
    cases e
    exact ⟨⟨_, .nil⟩, rfl, Nat.zero_le _⟩
  | n, x :: xs, _, _, _, rv, r, e => by
    unfold RepVs at rv
    obtain ⟨v, t, rfl, h1, h2⟩ := rv
    cases r with
    | cons q qs =>
      unfold pDs at e
      cases e1 : pD S n x with
      | none => rw [e1] at e; cases e
      | some p =>
        cases e2 : pDs S n xs with
        | none => rw [e1, e2] at e; cases e
        | some ps =>
          rw [e1, e2] at e
          cases e
          obtain ⟨⟨as, a1⟩, a2, a3⟩ := reads_of I rs h1 q e1
          obtain ⟨⟨bs, b1⟩, b2, b3⟩ := readsAll_of I rs h2 qs e2
          refine ⟨⟨_, .cons a1 b1⟩, ?_, ?_⟩
          · simp [PyData.canLayAll0, a2, b2]
          · simp only [PyData.depthAll]
            exact Nat.max_le.mpr ⟨a3, b3⟩
end
end
def eqD (x y : D) : M D := fun S => match pD S 30 x, pD S 30 y with
  | some p, some q => .ok (.bl (PyData.eqv p q)) S
  | _, _ => .bad
def neD (x y : D) : M D := fun S => match pD S 30 x, pD S 30 y with
  | some p, some q => .ok (.bl (!PyData.eqv p q)) S
  | _, _ => .bad
section
variable {X : Cx}
theorem od_eq (hu : X.A.units + 64 < cLine) : OpD X (compareOp .Eq) eqD := by
  intro pins s σ H J S x y vx vy v u Q E I rs rx ry rv ru m
  unfold eqD at m
  cases e1 : pD S 30 x with
  | none => rw [e1] at m; exact m.elim
  | some p =>
    cases e2 : pD S 30 y with
    | none => rw [e1, e2] at m; exact m.elim
    | some q =>
      rw [e1, e2] at m
      obtain ⟨⟨as, a1⟩, a2, a3⟩ := reads_of I rs rx rv e1
      obtain ⟨⟨bs, b1⟩, b2, b3⟩ := reads_of I rs ry ru e2
      exact SeqAt.compareEq_reads a1 b1 a2 b2 (by have := Nat.min_le_left p.depth q.depth; omega) (m.ok_ I rs (RepV.bl _ _ _ _) rfl)
theorem od_ne (hu : X.A.units + 64 < cLine) : OpD X (compareOp .NotEq) neD := by
  intro pins s σ H J S x y vx vy v u Q E I rs rx ry rv ru m
  unfold neD at m
  cases e1 : pD S 30 x with
  | none => rw [e1] at m; exact m.elim
  | some p =>
    cases e2 : pD S 30 y with
    | none => rw [e1, e2] at m; exact m.elim
    | some q =>
      rw [e1, e2] at m
      obtain ⟨⟨as, a1⟩, a2, a3⟩ := reads_of I rs rx rv e1
      obtain ⟨⟨bs, b1⟩, b2, b3⟩ := reads_of I rs ry ru e2
      exact SeqAt.compareNe_reads a1 b1 a2 b2 (by have := Nat.min_le_left p.depth q.depth; omega) (m.ok_ I rs (RepV.bl _ _ _ _) rfl)
noncomputable def iOp (C : Int → Int → Prop) (g : Int → Int → D) : D → D → M D
  | .int i, .int j => fun S => cif (C i j) (.ok (g i j) S) .bad
  | _, _ => M.bad
theorem od_int {f : Value → Value → Sem Value} {C : Int → Int → Prop} {g : Int → Int → Int} (h : ∀ E, OpR (X.wish E) f (rI C fun i j => .int (g i j))) : OpD X f (iOp C fun i j => .int (g i j)) := by
  refine OpD.of h (fun H J S x y vx vy d S' rs rx ry e => ?_) (fun x y S c S' e => ?_)
  · cases x with
    | int i =>
      cases y with
      | int j =>
        cases rx.int_
        cases ry.int_
        simp only [iOp, cif] at e
        split at e
        · rename_i hc
          cases e
          exact ⟨i, j, rfl, rfl, hc, J, Ext.refl _ _, rs, RepV.int _ _ _ _⟩
        · cases e
      | _ => cases e
    | _ => cases e
  · cases x with
    | int i =>
      cases y with
      | int j =>
        simp only [iOp, cif] at e
        split at e <;> cases e
      | _ => cases e
    | _ => cases e
def iCmp (p : Int → Int → Bool) : D → D → M D
  | .int i, .int j => fun S => .ok (.bl (p i j)) S
  | _, _ => M.bad
theorem od_cmp {f : Value → Value → Sem Value} {p : Int → Int → Bool} (h : ∀ E, OpR (X.wish E) f (rI0 fun i j => .bl (p i j))) : OpD X f (iCmp p) := by
  refine OpD.of h (fun H J S x y vx vy d S' rs rx ry e => ?_) (fun x y S c S' e => ?_)
  · cases x with
    | int i =>
      cases y with
      | int j =>
        cases rx.int_
        cases ry.int_
        cases e
        exact ⟨i, j, rfl, rfl, J, Ext.refl _ _, rs, RepV.bl _ _ _ _⟩
      | _ => cases e
    | _ => cases e
  · cases x with
    | int i =>
      cases y with
      | int j => cases e
      | _ => cases e
    | _ => cases e
noncomputable def subD : D → D → M D := iOp (fun _ _ => True) fun i j => .int (i - j)
noncomputable def modD : D → D → M D := iOp (fun _ j => 0 < j) fun i j => .int (i % j)
theorem od_sub : OpD X (binaryOp .Sub) subD := od_int (C := fun _ _ => True) (g := fun i j => i - j) fun E => opI fun _ _ _ _ _ _ _ _ q => sub_int q
theorem od_mod : OpD X (binaryOp .Mod) modD := od_int fun E => op_mod
theorem od_lt : OpD X (compareOp .Lt) (iCmp fun i j => decide (i < j)) := od_cmp fun E => op_lt
theorem od_gt : OpD X (compareOp .Gt) (iCmp fun i j => decide (j < i)) := od_cmp fun E => op_gt
theorem od_ge : OpD X (compareOp .GtE) (iCmp fun i j => decide (j ≤ i)) := od_cmp fun E => op_ge
theorem cat_tup0 {t b : Addr} {vs ws : List Value} {A : Around} {s : Shared} {prog : Program} {w : World} {Q E : Value → Shared → Prop} (ht : IsTup s.heap t vs.toArray) (hb : IsTup s.heap b ws.toArray) (hv : vs = []) (h1 : Q (.ref b) s) :
    wpAny (model prog w) A (binaryOp .Add (.ref t) (.ref b)) Q E s := by
  obtain ⟨⟨cls, dd, data, sl⟩, ho, hc, n, hd⟩ := id ht
  obtain ⟨⟨cls2, dd2, data2, sl2⟩, ho2, hc2, n2, hd2⟩ := id hb
  simp only at hc hd hc2 hd2
  subst hc hd hc2 hd2
  exact concat_meets ⟨_, ho, rfl⟩ ⟨_, ho2, rfl⟩ noFill_tuple_add seq_tuple_add PySem.F.slot_tuple_add PySem.F.entry_tuple_add (PySem.F.args_tuple_add_2 _ _)
    (tuple_addW0 t b vs.toArray ws.toArray n n2 dd dd2 sl sl2 (by simp [hv])) ⟨ho, ho2, h1⟩
def lstAt (S : List Cell) (n : Nat) : Option (List D) := match S[n]? with
  | some (.lst xs) => some xs
  | _ => none
noncomputable def addD : D → D → M D
  | .int i, .int j => fun S => .ok (.int (i + j)) S
  | .tup xs, .tup ys => newTup (xs ++ ys)
  | .ob n, .ob m => fun S => match lstAt S n, lstAt S m with
    | some xs, some ys => newLst (xs ++ ys) S
    | _, _ => .bad
  | _, _ => M.bad
theorem lstAt_cell {S : List Cell} {n : Nat} {xs : List D} (h : lstAt S n = some xs) : S[n]? = some (.lst xs) := by
  unfold lstAt at h
  split at h
  · rename_i e; rw [e]; cases h; rfl
  · cases h
theorem RepS.lst {K : PySem.W.Frag} {H : Hp} {J : List Addr} {S : List Cell} {n : Nat} {xs : List D} {a : Addr} (rs : RepS K H J S) (h : lstAt S n = some xs) (hn : J[n]? = some a) : ∃ vs, H a = some (.lst vs) ∧ RepVs K H J xs vs := rs.at_ n _ a (lstAt_cell h) hn
theorem od_add : OpD X (binaryOp .Add) addD := by
  intro pins s σ H J S x y vx vy v u Q E I rs rx ry rv ru m
  cases x with
  | int i =>
    cases y with
    | int j =>
      cases rx.int_
      cases ry.int_
      obtain ⟨t, rfl⟩ := rv
      obtain ⟨t', rfl⟩ := ru
      exact add_int (m.ok_ (I.tok _) rs (RepV.int _ _ _ _) ⟨_, rfl⟩)
    | _ => exact m.elim
  | tup xs =>
    cases y with
    | tup ys =>
      obtain ⟨a, vs, rfl, ha, rvs⟩ := rx.tup_
      obtain ⟨b, ws, rfl, hb, rws⟩ := ry.tup_
      cases rv
      cases ru
      obtain ⟨its, r1, p1, _⟩ := I.tuple ha
      obtain ⟨its2, r2, p2, _⟩ := I.tuple hb
      simp only [addD, newTup, cif] at m
      split at m
      · rename_i hz
        rw [List.length_append] at hz
        by_cases h0 : its = []
        · have e0 : xs = [] := rvs.nil_iff.mp (r1.nil_iff.mp h0)
          subst e0
          exact cat_tup0 p1 p2 h0 (m.ok_ (v := .ref b) I rs (by rw [List.nil_append]; exact .tup hb rws) rfl)
        · refine HT.cat_tup p1 p2 h0 (fun z => ?_) (fun z => ?_) (by rw [← r1.length, ← r2.length, rvs.length, rws.length]; exact hz)
          · have e0 : ys = [] := rws.nil_iff.mp (r2.nil_iff.mp z)
            subst e0
            exact m.ok_ (v := .ref a) I rs (by rw [List.append_nil]; exact .tup ha rvs) rfl
          · have hf : H s.heap.objs.size = none := I.hok.fresh (Nat.le_refl _)
            refine m.val (H' := upd H s.heap.objs.size (.tup (vs ++ ws))) (v := .ref s.heap.objs.size) (I.laid (t' := s.toks) (fun b u e => Heap.get?_push_of_some _ e) (Nat.le_refl _) ?_) rfl (Got.tup rs (rvs.append rws) hf)
            exact ⟨by rw [List.length_append, rvs.length, rws.length]; exact hz, _, r1.append r2, IsTup.new _ _⟩
      · exact m.elim
    | _ => exact m.elim
  | ob n =>
    cases y with
    | ob k =>
      obtain ⟨a, rfl, hn⟩ := rx.ob_
      obtain ⟨b, rfl, hk⟩ := ry.ob_
      simp only [addD] at m
      cases e1 : lstAt S n with
      | none => rw [e1] at m; exact m.elim
      | some xs =>
        cases e2 : lstAt S k with
        | none => rw [e1, e2] at m; exact m.elim
        | some ys =>
          rw [e1, e2] at m
          obtain ⟨vs, hv, rvs⟩ := rs.lst e1 hn
          obtain ⟨ws, hw, rws⟩ := rs.lst e2 hk
          simp only [newLst, cif] at m
          split at m
          · rename_i hz
            rw [List.length_append] at hz
            refine wpAny_mono (op_cat (X := X.wish E) pins s σ H (.ref a) (.ref b) v u (Got X.K H J (.ob S.length) (S ++ [.lst (xs ++ ys)])) (I.wish E) rv ru ⟨a, b, vs, ws, rfl, rfl, hv, hw, by rw [rvs.length, rws.length]; exact hz, fun p hp => ?_⟩) (fun u s' q => m u s' (EP.unwish q)) fun _ _ z => z
            exact Got.lst rs (rvs.append rws) hp
          · exact m.elim
    | _ => exact m.elim
  | _ => exact m.elim
end
end DL
namespace DL
open PySem PySem.Spec PyProof.Rows L2
section
variable {X : Cx}
noncomputable def mulD : D → D → M D
  | .int i, .int j => fun S => cif (CMul i j) (.ok (.int (i * j)) S) .bad
  | .ob n, .int k => fun S => match lstAt S n with
    | some xs => cif ((-(2 ^ 63) ≤ k ∧ k < 2 ^ 63) ∧ xs.length * k.toNat ≤ sizeLine) (.ok (.ob S.length) (S ++ [.lst (List.replicate k.toNat xs).flatten])) .bad
    | none => .bad
  | _, _ => M.bad
theorem RepVs.rep {K : PySem.W.Frag} {H : Hp} {J : List Addr} {xs : List D} {vs : List V} (h : RepVs K H J xs vs) : ∀ k : Nat, RepVs K H J (List.replicate k xs).flatten (List.replicate k vs).flatten
  | 0 => .nil
  | k + 1 => by
    rw [List.replicate_succ, List.replicate_succ, List.flatten_cons, List.flatten_cons]
    exact h.append (RepVs.rep h k)
theorem od_mul : OpD X (binaryOp .Mult) mulD := by
  refine OpD.of (fun E => op_mul.or op_rep) (fun H J S x y vx vy d S' rs rx ry e => ?_) (fun x y S c S' e => ?_)
  · cases x with
    | int i =>
      cases y with
      | int j =>
        cases rx.int_
        cases ry.int_
        simp only [mulD, cif] at e
        split at e
        · rename_i hc
          cases e
          exact .inl ⟨i, j, rfl, rfl, hc, J, Ext.refl _ _, rs, RepV.int _ _ _ _⟩
        · cases e
      | _ => cases e
    | ob n =>
      cases y with
      | int k =>
        obtain ⟨a, rfl, hn⟩ := rx.ob_
        cases ry.int_
        simp only [mulD, cif] at e
        cases e1 : lstAt S n with
        | none => rw [e1] at e; cases e
        | some xs =>
          rw [e1] at e
          dsimp only at e
          split at e
          · rename_i hz
            cases e
            obtain ⟨vs, hv, rvs⟩ := rs.lst e1 hn
            exact .inr ⟨a, k, vs, rfl, rfl, hv, hz.1.1, hz.1.2, by rw [rvs.length]; exact hz.2, fun p hp => Got.lst rs (rvs.rep _) hp⟩
          · cases e
      | _ => cases e
    | _ => cases e
  · cases x with
    | int i =>
      cases y with
      | int j =>
        simp only [mulD, cif] at e
        split at e <;> cases e
      | _ => cases e
    | ob n =>
      cases y with
      | int k =>
        simp only [mulD, cif] at e
        split at e
        · split at e <;> cases e
        · cases e
      | _ => cases e
    | _ => cases e
def seqD (S : List Cell) : D → Option (List D)
  | .tup xs => some xs
  | .rol xs => some xs
  | .ob n => lstAt S n
  | _ => none
def ixD : D → D → M D
  | x, .int i => fun S => match seqD S x with
    | some xs => (match atI xs i with
      | some d => .ok d S
      | none => .bad)
    | none => .bad
  | _, _ => M.bad
theorem RepVs.atI {K : PySem.W.Frag} {H : Hp} {J : List Addr} {xs : List D} {vs : List V} {i : Int} {d : D} (h : RepVs K H J xs vs) (e : L2.atI xs i = some d) : ∃ v, L2.atI vs i = some v ∧ RepV K H J d v := by
  unfold L2.atI at e ⊢
  rw [h.length]
  cases e1 : ixN xs.length i with
  | none => rw [e1] at e; cases e
  | some j =>
    rw [e1] at e
    exact h.get (show xs[j]? = some d from e)
theorem ixd : IxD X ixD := by
  refine IxD.of (r := fun x y H Q => rIxL X.K x y H Q ∨ rIxT X.K x y H Q) (fun E => (ix_list (X := X.wish E)).or (ix_tup (X := X.wish E))) (fun H J S x y vx vy d S' rs rx ry e => ?_) (fun x y S c S' e => ?_)
  · cases y with
    | int i =>
      cases ry.int_
      simp only [ixD] at e
      cases x with
      | tup xs =>
        obtain ⟨a, vs, rfl, hq, rvs⟩ := rx.tup_
        simp only [seqD] at e
        cases e1 : atI xs i with
        | none => rw [e1] at e; cases e
        | some d =>
          rw [e1] at e
          cases e
          obtain ⟨v, h1, h2⟩ := rvs.atI e1
          exact .inr ⟨a, vs, i, v, rfl, rfl, hq, h1, J, Ext.refl _ _, rs, h2⟩
      | rol xs =>
        obtain ⟨a, vs, rfl, hq, rvs⟩ := rx.rol_
        simp only [seqD] at e
        cases e1 : atI xs i with
        | none => rw [e1] at e; cases e
        | some d =>
          rw [e1] at e
          cases e
          obtain ⟨v, h1, h2⟩ := rvs.atI e1
          exact .inl ⟨a, vs, i, v, rfl, rfl, hq.sq, h1, J, Ext.refl _ _, rs, h2⟩
      | ob n =>
        obtain ⟨a, rfl, hn⟩ := rx.ob_
        simp only [seqD] at e
        cases e0 : lstAt S n with
        | none => rw [e0] at e; cases e
        | some xs =>
          rw [e0] at e
          dsimp only at e
          obtain ⟨vs, hv, rvs⟩ := rs.lst e0 hn
          cases e1 : atI xs i with
          | none => rw [e1] at e; cases e
          | some d =>
            rw [e1] at e
            cases e
            obtain ⟨v, h1, h2⟩ := rvs.atI e1
            exact .inl ⟨a, vs, i, v, rfl, rfl, SqL.of hv, h1, J, Ext.refl _ _, rs, h2⟩
      | _ => cases e
    | _ => cases e
  · cases y with
    | int i =>
      simp only [ixD] at e
      split at e
      · split at e <;> cases e
      · cases e
    | _ => cases e
def cutD (xs : List D) (lo hi : Option Int) : List D := (xs.drop (HT.sIx xs.length 0 lo)).take (HT.sIx xs.length xs.length hi - HT.sIx xs.length 0 lo)
theorem RepVs.cut {K : PySem.W.Frag} {H : Hp} {J : List Addr} {xs : List D} {vs : List V} (h : RepVs K H J xs vs) (lo hi : Option Int) : RepVs K H J (cutD xs lo hi) (cutV vs lo hi) := by
  unfold cutD cutV
  rw [h.length]
  exact (h.drop _).take _
def slD : D → Option Int → Option Int → M D
  | .tup xs, lo, hi => M.ret (.tup (cutD xs lo hi))
  | .rol xs, lo, hi => fun S => .ok (.ob S.length) (S ++ [.lst (cutD xs lo hi)])
  | .ob n, lo, hi => fun S => match lstAt S n with
    | some xs => .ok (.ob S.length) (S ++ [.lst (cutD xs lo hi)])
    | none => .bad
  | _, _, _ => M.bad
theorem getItem_tuple_all {prog : Program} {w : World} {A : Around} {E : Value → Shared → Prop} {s : Shared} {t sl : Addr} {items : Array Value} {vl vu : Value} {lo hi : Option Int} {Q : Value → Shared → Prop} (ht : IsTup s.heap t items) (hs : s.heap.IsSliceOf sl vl vu .none)
    (pl : IsPart vl lo) (pu : IsPart vu hi) (hw : HT.sIx items.size 0 lo = 0 ∧ HT.sIx items.size items.size hi = items.size) (h : Q (.ref t) s) : wpAny (model prog w) A (getItem (.ref t) (.ref sl)) Q E s := by
  obtain ⟨os, hos, hcs, hds⟩ := id hs
  have hTs : s.TypeIs (.ref sl) "slice" := ⟨os, hos, hcs⟩
  unfold getItem
  try with_reducible refine wpAny_holding ?_
  first | refine wpAny_bind (wpAny_pure ?_) | skip
  refine wpAny_bind (wpAny_sequenceKey ht.typeIs (by decide) ?_)
  refine wpAny_bind (wpAny_callSpecial?_slot (name := Str.ofString "__getitem__") ht.typeIs PyProof.Rows.slot_tuple_getitem
    (wpAny_call_entry PyProof.Rows.slot_tuple_getitem ht.typeIs entry_tuple_getitem ?_ (args_tuple_getitem _ _)))
  show wpAny _ _ (Builtin.Tuple.tupleItemsOf (.ref t) >>= _) _ _ s
  refine wpAny_bind (tupleItemsOf_ ht ?_)
  refine wpAny_bind (wpAny_typeOf hTs ?_)
  rw [if_pos (by decide)]
  refine wpAny_bind (HT.sliceApplied_gen hs pl pu ?_)
  have hyes : ((((HT.sIx items.size 0 lo : Nat) : Int) == 0 && (1 : Int) == 1 && (HT.sIx items.size items.size hi - HT.sIx items.size 0 lo) == items.size) = true) := by
    rw [hw.1, hw.2]
    simp
  show wpAny _ _ (if (((HT.sIx items.size 0 lo : Nat) : Int) == 0 && (1 : Int) == 1 && (HT.sIx items.size items.size hi - HT.sIx items.size 0 lo) == items.size) = true then _ else _) _ _ s
  rw [if_pos hyes]
  refine wpAny_bind (m := Builtin.Tuple.tupleIsExact _) (wpAny_bind (wpAny_typeOf ht.typeIs (wpAny_pure ?_)))
  rw [if_pos (by decide)]
  first
    | exact wpAny_bind (wpAny_rule (wpAny_pure ⟨_, rfl, wpAny_pure h⟩))
    | exact wpAny_bind (wpAny_rule (wpAny_bind (wpAny_pure (wpAny_pure ⟨_, rfl, wpAny_pure h⟩))))
theorem sld : SlD X slD := by
  intro pins s σ H J S x vx v vl vu lo hi sl Q E I rs rx rv hs pl pu m
  cases x with
  | tup xs =>
    obtain ⟨a, vs, rfl, hq, rvs⟩ := rx.tup_
    cases rv
    obtain ⟨its, r, ht, hz⟩ := I.tuple hq
    have hlen : its.toArray.size = xs.length := by rw [List.size_toArray, ← r.length, rvs.length]
    refine ⟨"tuple", _, PyProof.Rows.slot_tuple_getitem.lookup, ht.typeIs, ?_⟩
    by_cases hw : HT.sIx xs.length 0 lo = 0 ∧ HT.sIx xs.length xs.length hi = xs.length
    · refine getItem_tuple_all ht hs pl pu (by rw [hlen]; exact hw) (m.ok_ (v := .ref a) I rs ?_ rfl)
      have e : cutD xs lo hi = xs := by
        unfold cutD
        rw [hw.1, hw.2]
        simp
      rw [e]
      exact .tup hq rvs
    · refine HT.getItem_tuple_cut ht hs pl pu (by rw [hlen]; exact hw) ?_ (by rw [List.size_toArray, ← r.length]; exact hz)
      have hf : H s.heap.objs.size = none := I.hok.fresh (Nat.le_refl _)
      refine m.val (H' := upd H s.heap.objs.size (.tup (cutV vs lo hi))) (v := .ref s.heap.objs.size) (I.laid (t' := s.toks) (fun b ob q => Heap.get?_push_of_some _ q) (Nat.le_refl _) ?_) rfl (Got.tup rs (rvs.cut lo hi) hf)
      have hl2 : its.toArray.size = vs.length := by rw [List.size_toArray]; exact r.length.symm
      rw [hl2]
      exact ⟨Nat.le_trans (cutV_length vs lo hi) hz, _, (r.drop (HT.sIx vs.length 0 lo)).take (HT.sIx vs.length vs.length hi - HT.sIx vs.length 0 lo), IsTup.new _ _⟩
  | rol xs =>
    obtain ⟨a, vs, rfl, hq, rvs⟩ := rx.rol_
    obtain ⟨T, id, h1, h2, h3⟩ := sl_list (X := X.wish E) pins s σ H (.ref a) v vl vu lo hi sl (Got X.K H J (.ob S.length) (S ++ [.lst (cutD xs lo hi)])) (I.wish E) rv hs pl pu ⟨a, vs, rfl, hq.sq, fun p hp => Got.lst rs (rvs.cut lo hi) hp⟩
    exact ⟨T, id, h1, h2, wpAny_mono h3 (fun u s' q => m u s' (EP.unwish q)) fun _ _ z => z⟩
  | ob n =>
    obtain ⟨a, rfl, hn⟩ := rx.ob_
    simp only [slD] at m
    cases e0 : lstAt S n with
    | none => rw [e0] at m; exact m.elim
    | some xs =>
      rw [e0] at m
      obtain ⟨vs, hv, rvs⟩ := rs.lst e0 hn
      obtain ⟨T, id, h1, h2, h3⟩ := sl_list (X := X.wish E) pins s σ H (.ref a) v vl vu lo hi sl (Got X.K H J (.ob S.length) (S ++ [.lst (cutD xs lo hi)])) (I.wish E) rv hs pl pu ⟨a, vs, rfl, SqL.of hv, fun p hp => Got.lst rs (rvs.cut lo hi) hp⟩
      exact ⟨T, id, h1, h2, wpAny_mono h3 (fun u s' q => m u s' (EP.unwish q)) fun _ _ z => z⟩
  | _ => exact m.elim
def lenD : List D → M D
  | [x] => fun S => match seqD S x with
    | some xs => .ok (.int xs.length) S
    | none => .bad
  | _ => M.bad
theorem seq_rep {K : PySem.W.Frag} {H : Hp} {J : List Addr} {S : List Cell} {x : D} {v : V} {xs : List D} (rs : RepS K H J S) (rx : RepV K H J x v) (e : seqD S x = some xs) : ∃ a vs, v = .ref a ∧ (SqL K H a vs ∨ SqT K H a vs) ∧ RepVs K H J xs vs := by
  cases x with
  | tup xs =>
    obtain ⟨a, vs, rfl, hq, rvs⟩ := rx.tup_
    cases e
    exact ⟨a, vs, rfl, .inr hq, rvs⟩
  | rol xs =>
    obtain ⟨a, vs, rfl, hq, rvs⟩ := rx.rol_
    cases e
    exact ⟨a, vs, rfl, .inl hq.sq, rvs⟩
  | ob n =>
    obtain ⟨a, rfl, hn⟩ := rx.ob_
    obtain ⟨vs, hv, rvs⟩ := rs.lst e hn
    exact ⟨a, vs, rfl, .inl (SqL.of hv), rvs⟩
  | _ => cases e
theorem cd_len : CallD X (.builtin "len") lenD := by
  refine CallD.of (r := fun xs H Q => ∃ p ys, xs = [.ref p] ∧ (SqL X.K H p ys ∨ SqT X.K H p ys) ∧ Q (.int ys.length) H) (fun E => call_len_seq (X := X.wish E)) (fun H J S xs vs d S' rs rx e => ?_) (fun xs S c S' e => ?_)
  · match xs, rx, e with
    | [x], rx, e =>
      obtain ⟨v, rfl, h1⟩ := rx.one_
      simp only [lenD] at e
      cases e1 : seqD S x with
      | none => rw [e1] at e; cases e
      | some ys =>
        rw [e1] at e
        cases e
        obtain ⟨a, ws, rfl, hq, rvs⟩ := seq_rep rs h1 e1
        exact ⟨a, ws, rfl, hq, J, Ext.refl _ _, rs, by rw [rvs.length]; exact RepV.int _ _ _ _⟩
    | [], rx, e => cases e
    | _ :: _ :: _, rx, e => cases e
  · match xs, e with
    | [x], e =>
      simp only [lenD] at e
      split at e <;> cases e
    | [], e => cases e
    | _ :: _ :: _, e => cases e
def int2 (g : Int → Int → Int) : List D → M D
  | [.int i, .int j] => M.ret (.int (g i j))
  | _ => M.bad
theorem int2_ok {g : Int → Int → Int} {xs : List D} {S S' : List Cell} {d : D} (e : int2 g xs S = .ok d S') : ∃ i j, xs = [.int i, .int j] ∧ d = .int (g i j) ∧ S' = S := by
  unfold int2 at e
  split at e
  · rename_i i j
    cases e
    exact ⟨i, j, rfl, rfl, rfl⟩
  · cases e
theorem int2_ne {g : Int → Int → Int} {xs : List D} {S S' : List Cell} {c : Addr} : int2 g xs S ≠ .exc c S' := by
  intro e
  unfold int2 at e
  split at e <;> cases e
theorem cd_max (hc : X.calm = true) : CallD X (.builtin "max") (int2 fun i j => if j > i then j else i) := by
  refine CallD.of (fun E => call_max2 (X := X.wish E) hc) (fun H J S xs vs d S' rs rx e => ?_) (fun xs S c S' => int2_ne)
  obtain ⟨i, j, rfl, rfl, rfl⟩ := int2_ok e
  obtain ⟨v, w, rfl, h1, h2⟩ := rx.two_
  cases h1.int_
  cases h2.int_
  exact ⟨i, j, rfl, J, Ext.refl _ _, rs, RepV.int _ _ _ _⟩
def intD : List D → M D
  | [.int i] => M.ret (.int i)
  | [.bl b] => M.ret (.int (if b then 1 else 0))
  | _ => M.bad
theorem cd_int : CallD X (.type "int") intD := by
  refine CallD.of (fun E => call_int1) (fun H J S xs vs d S' rs rx e => ?_) (fun xs S c S' e => ?_)
  · unfold intD at e
    split at e
    · cases e
      obtain ⟨v, rfl, h1⟩ := rx.one_
      cases h1.int_
      exact .inl ⟨_, rfl, J, Ext.refl _ _, rs, RepV.int _ _ _ _⟩
    · cases e
      obtain ⟨v, rfl, h1⟩ := rx.one_
      cases h1.bl_
      exact .inr ⟨_, rfl, J, Ext.refl _ _, rs, RepV.int _ _ _ _⟩
    · cases e
  · unfold intD at e
    split at e <;> cases e
def tupleD : List D → M D
  | [x] => fun S => match seqD S x with
    | some xs => .ok (.tup xs) S
    | none => .bad
  | _ => M.bad
theorem cd_tuple : CallD X (.type "tuple") tupleD := by
  refine CallD.of (r := fun xs H Q => ∃ p ys, xs = [.ref p] ∧ ((SqL X.K H p ys ∧ ∀ l, H l = none → Q (.ref l) (upd H l (.tup ys))) ∨ (SqT X.K H p ys ∧ Q (.ref p) H))) (fun E => call_tuple_of (X := X.wish E)) (fun H J S xs vs d S' rs rx e => ?_) (fun xs S c S' e => ?_)
  · unfold tupleD at e
    split at e
    · obtain ⟨v, rfl, h1⟩ := rx.one_
      split at e
      · rename_i e1
        cases e
        obtain ⟨a, ws, rfl, hq, rvs⟩ := seq_rep rs h1 e1
        refine ⟨a, ws, rfl, ?_⟩
        rcases hq with hq | hq
        · exact .inl ⟨hq, fun l hl => Got.tup rs rvs hl⟩
        · exact .inr ⟨hq, J, Ext.refl _ _, rs, .tup hq rvs⟩
      · cases e
    · cases e
  · unfold tupleD at e
    split at e
    · split at e <;> cases e
    · cases e
def listD : List D → M D
  | [x] => fun S => match seqD S x with
    | some xs => .ok (.ob S.length) (S ++ [.lst xs])
    | none => .bad
  | _ => M.bad
theorem cd_list : CallD X (.type "list") listD := by
  refine CallD.of (r := fun xs H Q => ∃ p ys, xs = [.ref p] ∧ (SqL X.K H p ys ∨ SqT X.K H p ys) ∧ ∀ l, H l = none → Q (.ref l) (upd H l (.lst ys))) (fun E => call_list_of (X := X.wish E)) (fun H J S xs vs d S' rs rx e => ?_) (fun xs S c S' e => ?_)
  · unfold listD at e
    split at e
    · obtain ⟨v, rfl, h1⟩ := rx.one_
      split at e
      · rename_i e1
        cases e
        obtain ⟨a, ws, rfl, hq, rvs⟩ := seq_rep rs h1 e1
        exact ⟨a, ws, rfl, hq, fun l hl => Got.lst rs rvs hl⟩
      · cases e
    · cases e
  · unfold listD at e
    split at e
    · split at e <;> cases e
    · cases e
def tyN (S : List Cell) : D → Option String
  | .non => some "NoneType"
  | .bl _ => some "bool"
  | .int _ => some "int"
  | .str _ => some "str"
  | .tup _ => some "tuple"
  | .rol _ => some "list"
  | .ob n => match S[n]? with
    | some (.lst _) => some "list"
    | some (.dic _) => some "dict"
    | _ => none
  | .xn _ => none
def subTy (t T : String) : Bool := t == T || (t == "bool" && T == "int")
def isD (T : String) (x : D) : M D := fun S => match tyN S x with
  | some t => .ok (.bl (subTy t T)) S
  | none => .bad
def dIs (T : String) (fe : DSt → M D) : DSt → M D := fun r => (fe r).bind (isD T)
variable {e : Expr} {fe : DSt → M D} {pos : Pos}
end
end DL
namespace DL
open PySem PySem.Spec PyProof.Rows L2
open AutoSeq1 (wpAny_loadPart')
section
variable {prog : Program} {w : World} {A : Around} {E : Value → Shared → Prop} {s : Shared}
end
end DL
namespace DL
open PySem PySem.Spec PyProof.Rows L2
theorem HOk.other {P : Program} {w : World} {H : Hp} {h h' : Heap} {ch : List Addr} (x : HOk P w H h) (hn : ∀ b ∈ ch, H b = none) (k : ∀ b u, b ∉ ch → h.get? b = some u → h'.get? b = some u) : HOk P w H h' := fun a o e =>
  (x a o e).stay (fun b u hb q => k b u (fun hm => by
    rcases hb with rfl | hb
    · rw [hn b hm] at e; cases e
    · rw [hn b hm] at hb; cases hb) q) (fun _ q => q) fun _ _ q => q
end DL
namespace DL
open PySem PySem.Spec PyProof.Rows L2
section
variable {prog : Program} {w : World} {A : Around} {E : Value → Shared → Prop} {s : Shared}
end
section
variable {X : Cx} {e : Expr} {fe : DSt → M D} {pos : Pos} {elts : List Expr} {k1 : Nat} {tpos : Pos}
def MtD (X : Cx) (id : String) (g : D → List D → M D) : Prop := ∀ (pins : Pins) (s : Shared) (σ : L2.St) (H : Hp) (J : List Addr) (S : List Cell) (x : D) (xs : List D) (vx : V) (vs : List V) (v : Value) (us : List Value) (Q E : Value → Shared → Prop),
  Inv X pins σ H s → RepS X.K H J S → RepV X.K H J x vx → RepVs X.K H J xs vs → RelV vx v → Vals vs us → Mt X pins σ H J (g x xs S) Q E → wpAny (model X.prog X.w) X.A (call (.builtin id) (v :: us)) Q E s
theorem goA' {es : List Expr} {ft : DSt → M (List D)} (h : PAd X es ft) {k : List D → M D} {pins : Pins} {s : Shared} {σ : L2.St} {H : Hp} {J : List Addr} {r : DSt} {S : List Cell} {Q E : Value → Shared → Prop} {Q' : List Value → Shared → Prop} (I : At X pins σ H J r S s)
    (m : Mt X pins σ H J ((ft r).bind k S) Q E) (hk : ∀ xs S1 s1 H1 J1 vs us, At X pins σ H1 J1 r S1 s1 → Ext H J H1 J1 → RepVs X.K H1 J1 xs vs → Vals vs us → Mt X pins σ H1 J1 (k xs S1) Q E → Q' us s1) (pos : Pos) :
    wpAny (model X.prog X.w) X.A (spliced (backTo pos (starEach es X.env))) Q' E s := by
  refine h pos pins s σ H J r S _ E I ?_
  unfold M.bind at m
  cases e1 : ft r S with
  | bad => rw [e1] at m; exact m
  | exc c S1 => rw [e1] at m; exact m
  | ok x S1 =>
    rw [e1] at m
    intro us s1 ⟨vs, H1, I1, r1, J1, ex1, rs1, rv1⟩
    exact hk x S1 s1 H1 J1 vs us ⟨I1, I.loc.ext ex1, rs1⟩ ex1 rv1 r1 (Mt.ext ex1 m)
def chkL (x : D) : M Unit := fun S => match x with
  | .ob n => (match lstAt S n with
    | some _ => .ok () S
    | none => .bad)
  | _ => .bad
def dBM (g : D → List D → M D) (fo : DSt → M D) (ft : DSt → M (List D)) : DSt → M D := fun r => (fo r).bind fun x => (chkL x).bind fun _ => (ft r).bind fun xs => g x xs
theorem pd_bmL {o : Expr} {es : List Expr} {fo : DSt → M D} {ft : DSt → M (List D)} {name : Str} {apos cpos : Pos} {id : String} {g : D → List D → M D} (slot : Slot "list" name id) (hty : typeOf (.builtin id) = pure (.type "method_descriptor")) (hm : MtD X id g)
    (ho : PEd X o fo) (ha : PAd X (e :: es) ft)
    (hbase : attributeBase o name X.env (eval o X.env) = eval o X.env := by rfl)
    (hfew : ((backTo cpos (starEach (e :: es) X.env)).all (fun x => !x.1) && (backToKw cpos (keywordEach [] X.env)).all (fun x => x.1.isSome)
      && decide ((e :: es).length + ([] : List Keyword).length + (if ([] : List Keyword).isEmpty then 0 else 1) < 30)) = true := by rfl)
    (hline : (apos.endLine == cpos.line) = true := by rfl) (hs : starEach (e :: es) X.env = (false, eval e X.env) :: starEach es X.env := by rfl) (hplain : (backTo cpos (starEach es X.env)).any (·.1) = false := by rfl) :
    PEd X (.Call (.Attribute o name apos) (e :: es) [] cpos) (dBM g fo ft) := by
  intro pins s σ H J r S Q E I m
  refine wpAny_Call_method_late hbase hfew hline rfl (ho pins s σ H J r S _ E I ?_)
  unfold dBM M.bind at m
  cases e1 : fo r S with
  | bad => rw [e1] at m; exact m
  | exc c S1 => rw [e1] at m; exact m
  | ok x S1 =>
    rw [e1] at m
    dsimp only at m
    rintro v s1 ⟨vx, H1, I1, r1, J1, ex1, rs1, rv1⟩
    cases x with
    | ob n =>
      obtain ⟨a, rfl, hn⟩ := rv1.ob_
      simp only [chkL] at m
      cases e2 : lstAt S1 n with
      | none => rw [e2] at m; exact m.elim
      | some xs =>
        rw [e2] at m
        obtain ⟨ws, hv, rvs⟩ := rs1.lst e2 hn
        obtain ⟨h1, h2⟩ := tyV_is I1 r1 (T := "list") (.inl ⟨rfl, ws, SqL.of hv⟩)
        refine ⟨"list", id, PySem.F.plainAttrs_list, slot, hty, h1, h2, ?_⟩
        have m := Mt.ext ex1 m
        have hA := goA' (k := fun xs => g (.ob n) xs) (Q' := fun us s2 => wpAny (model X.prog X.w) X.A (call (.builtin id) (v :: us)) Q E s2) ha ⟨I1, I.loc.ext ex1, rs1⟩ m (fun xs S2 s2 H2 J2 vs us I2 x2 rv r2 m2 => ?_) cpos
        · rw [hs] at hA ⊢
          exact Calls.callWith_builtin (by show (false || (backTo cpos (starEach es X.env)).any (·.1)) = false; rw [hplain] <;> rfl) (Calls.evalArgs_plain hA)
        · exact hm pins s2 σ H2 J2 S2 (.ob n) xs (.ref a) vs v us Q E I2.inv I2.st (rv1.ext x2) rv r1 r2 m2
    | _ => exact m.elim
noncomputable def appD : D → List D → M D
  | .ob n, [y] => fun S => match lstAt S n with
    | some xs => cif (xs.length < sizeLine) (.ok .non (S.set n (.lst (xs ++ [y])))) .bad
    | none => .bad
  | _, _ => M.bad
theorem md_append : MtD X "list.append" appD := by
  intro pins s σ H J S x xs vx vs v us Q E I rs rx rxs rv rvs m
  match x, xs, m, rx, rxs with
  | .ob n, [y], m, rx, rxs =>
    obtain ⟨a, rfl, hn⟩ := rx.ob_
    obtain ⟨w, rfl, rw'⟩ := rxs.one_
    simp only [appD, cif] at m
    cases e1 : lstAt S n with
    | none => rw [e1] at m; exact m.elim
    | some xs =>
      rw [e1] at m
      dsimp only at m
      obtain ⟨ws, hv, rws⟩ := rs.lst e1 hn
      split at m
      · rename_i hz
        refine wpAny_mono (mt_append (X := X.wish E) pins s σ H (.ref a) [w] v us (Got X.K H J .non (S.set n (.lst (xs ++ [y])))) (I.wish E) rv rvs ⟨a, ws, w, rfl, rfl, hv, by rw [rws.length]; exact hz, ?_⟩) (fun u s' q => m u s' (EP.unwish q)) fun _ _ z => z
        have x9 : Ext H J (upd H a (.lst (ws ++ [w]))) J := Ext.write hv rfl
        exact ⟨J, x9, rs.write hn ⟨_, upd_same, (rws.ext x9).append (.one (rw'.ext x9))⟩, RepV.non _ _ _⟩
      · exact m.elim
  | .ob n, [], m, _, _ => exact m.elim
  | .ob n, _ :: _ :: _, m, _, _ => exact m.elim
  | .non, xs, m, _, _ => cases xs <;> exact m.elim
  | .bl _, xs, m, _, _ => cases xs <;> exact m.elim
  | .int _, xs, m, _, _ => cases xs <;> exact m.elim
  | .str _, xs, m, _, _ => cases xs <;> exact m.elim
  | .tup _, xs, m, _, _ => cases xs <;> exact m.elim
  | .rol _, xs, m, _, _ => cases xs <;> exact m.elim
  | .xn _, xs, m, _, _ => cases xs <;> exact m.elim
end
end DL
namespace DL
open PySem PySem.Spec PyProof.Rows L2
structure Cal (P : Program) (w : World) (K : PySem.W.Frag) (mg : Str → Option Value) (base : Heap) (CX : CXT) (x : Str) (k : Nat) (ps : List Str) (F : List D → M D) : Prop where
  ex : ∃ f fd, mg x = some (.ref f) ∧ PySem.W.keepIn K (.ref f) = true ∧ Binds K fd ps [] ∧ FnD P w K mg base CX k f fd ps F
theorem pd_calC {X : Cx} {CX : CXT} {k : Nat} {ps : List Str} {F : List D → M D} {x : Str} {p pos : Pos} {e : Expr} {es : List Expr} {ft : DSt → M (List D)} (h : Cal X.prog X.w X.K X.mg X.base CX x k ps F) (hr : Room k X.A) (hg : Gl X x) (hx : PassD CX X) (ha : PAd X (e :: es) ft)
    (hl : ∀ r S xs S', ft r S = .ok xs S' → xs.length = ps.length)
    (hdb : (x == ("__debug__" : Str)) = false := by decide) (he : starEach (e :: es) X.env = (false, eval e X.env) :: starEach es X.env := by rfl) (hpl : (backTo pos (starEach es X.env)).any (·.1) = false := by rfl) :
    PEd X (.Call (.Name x p) (e :: es) [] pos) (dCall F ft) := by
  obtain ⟨f, fd, hm, hk, hb, hF⟩ := h.ex
  exact pd_call hF hr hg hm hk hb hx ha hl hdb he hpl
theorem dl_nil : ∀ (r : DSt) (S : List Cell) (xs : List D) (S' : List Cell), dNil r S = .ok xs S' → xs.length = 0 := by
  intro r S xs S' e
  cases e
  rfl
theorem dl_cons {n : Nat} {f : DSt → M D} {g : DSt → M (List D)} (h : ∀ (r : DSt) (S : List Cell) (xs : List D) (S' : List Cell), g r S = .ok xs S' → xs.length = n) : ∀ (r : DSt) (S : List Cell) (xs : List D) (S' : List Cell), dCons f g r S = .ok xs S' → xs.length = n + 1 := by
  intro r S xs S' e
  unfold dCons M.bind at e
  cases e1 : f r S with
  | bad => rw [e1] at e; cases e
  | exc c S1 => rw [e1] at e; cases e
  | ok x S1 =>
    rw [e1] at e
    dsimp only at e
    cases e2 : g r S1 with
    | bad => rw [e2] at e; cases e
    | exc c S1 => rw [e2] at e; cases e
    | ok ys S2 =>
      rw [e2] at e
      have e' : R.ok (x :: ys) S2 = R.ok xs S' := e
      injection e' with e3 e4
      rw [← e3, List.length_cons, h r S1 ys S2 e2]
def fin (S0 : List Cell) : RSt → R D
  | some (.rt d, S') => .ok d S'
  | some (.nx _, S') => .ok .non S'
  | some (.xc c _, S') => .exc c S'
  | _ => .bad
theorem fend_fin {S0 : List Cell} {x : RSt} : FEnd S0 x (fin S0 x) := by
  match x with
  | none => trivial
  | some (.rt d, S') => exact ⟨[], .inl rfl, .inl (by rw [List.append_nil])⟩
  | some (.nx r, S') => exact ⟨[], .inl rfl, .inr ⟨rfl, r, by rw [List.append_nil]⟩⟩
  | some (.xc c r, S') => exact ⟨r, rfl⟩
  | some (.bk r, S') => trivial
  | some (.ct r, S') => trivial
open Classical in
noncomputable def finP (S0 : List Cell) : RSt → R D
  | some (.rt d, S') => if (∃ G, S' = S0 ++ G) ∧ wfD S0.length d then .ok d S0 else .bad
  | some (.nx _, S') => if ∃ G, S' = S0 ++ G then .ok .non S0 else .bad
  | some (.xc c _, S') => .exc c S'
  | _ => .bad
theorem fend_finP {S0 : List Cell} {x : RSt} : FEnd S0 x (finP S0 x) := by
  match x with
  | none => trivial
  | some (.rt d, S') =>
    simp only [finP]
    by_cases h : (∃ G, S' = S0 ++ G) ∧ wfD S0.length d
    · rw [if_pos h]
      obtain ⟨⟨G, rfl⟩, hd⟩ := h
      exact ⟨G, .inr ⟨Nat.le_refl _, hd, .inl rfl⟩, .inl rfl⟩
    · rw [if_neg h]; trivial
  | some (.nx r, S') =>
    simp only [finP]
    by_cases h : ∃ G, S' = S0 ++ G
    · rw [if_pos h]
      obtain ⟨G, rfl⟩ := h
      exact ⟨G, .inr ⟨Nat.le_refl _, by unfold wfD; trivial, .inl rfl⟩, .inr ⟨rfl, r, rfl⟩⟩
    · rw [if_neg h]; trivial
  | some (.xc c r, S') => exact ⟨r, rfl⟩
  | some (.bk r, S') => trivial
  | some (.ct r, S') => trivial
def dYes : DSt → M Bool := fun _ => M.ret true
def ltD : D → D → M D := iCmp fun i j => decide (i < j)
def leD : D → D → M D := iCmp fun i j => decide (i ≤ j)
def gtD : D → D → M D := iCmp fun i j => decide (j < i)
def geD : D → D → M D := iCmp fun i j => decide (j ≤ i)
def maxD : List D → M D := int2 fun i j => if j > i then j else i
def minD : List D → M D := int2 fun i j => if j < i then j else i
def dUn (g : D → M D) (fa : DSt → M D) : DSt → M D := fun r => (fa r).bind g
theorem pd_un {X : Cx} {a : Expr} {fa : DSt → M D} {pos : Pos} {op : UnaryOp} {g : D → M D} (ho : UnD X (unaryOp op) g) (ha : PEd X a fa) : PEd X (.UnaryOp op a pos) (dUn g fa) := by
  intro pins s σ H J r S Q E I m
  refine UnaryOp_ (ha pins s σ H J r S _ E I ?_)
  unfold dUn M.bind at m
  cases e1 : fa r S with
  | bad => rw [e1] at m; exact m
  | exc c S1 => rw [e1] at m; exact m
  | ok x S1 =>
    rw [e1] at m
    rintro v s1 ⟨vx, H1, I1, r1, J1, ex, rs, rv⟩
    exact ho pins s1 σ H1 J1 S1 x vx v Q E I1 rs rv r1 (Mt.ext ex m)
def negD : D → M D
  | .int i => M.ret (.int (-i))
  | _ => M.bad
theorem ud_neg {X : Cx} : UnD X (unaryOp .USub) negD := by
  refine UnD.of (fun E => un_neg) (fun H J S x vx d S' rs rx e => ?_) (fun x S c S' e => ?_)
  · cases x with
    | int i =>
      cases rx.int_
      cases e
      exact ⟨i, rfl, J, Ext.refl _ _, rs, RepV.int _ _ _ _⟩
    | _ => cases e
  · cases x with
    | int i => cases e
    | _ => cases e
def truD (x : D) : M Bool := fun S => match x with
  | .non => .ok false S
  | .bl b => .ok b S
  | .int i => .ok (i != 0) S
  | .tup xs => .ok (!xs.isEmpty) S
  | .rol xs => .ok (!xs.isEmpty) S
  | .ob n => (match S[n]? with
    | some (.lst xs) => .ok (!xs.isEmpty) S
    | some (.dic kvs) => .ok (!kvs.isEmpty) S
    | _ => .bad)
  | _ => .bad
def dTru (f : DSt → M D) : DSt → M Bool := fun r => (f r).bind truD
theorem RepVs.isEmpty {K : PySem.W.Frag} {H : Hp} {J : List Addr} {xs : List D} {vs : List V} (h : RepVs K H J xs vs) : vs.isEmpty = xs.isEmpty := by
  have := h.length
  cases xs with
  | nil => cases vs with
    | nil => rfl
    | cons _ _ => cases this
  | cons _ _ => cases vs with
    | nil => cases this
    | cons _ _ => rfl
theorem RepPs.isEmpty {κ : Type} {K : PySem.W.Frag} {H : Hp} {J : List Addr} {xs : List (κ × D)} {vs : List (κ × V)} (h : RepPs K H J xs vs) : vs.isEmpty = xs.isEmpty := by
  have := h.length
  cases xs with
  | nil => cases vs with
    | nil => rfl
    | cons _ _ => cases this
  | cons _ _ => cases vs with
    | nil => cases this
    | cons _ _ => rfl
theorem pt_truD {X : Cx} {a : Expr} {fa : DSt → M D} (ha : PEd X a fa) (he : ∀ whole, isTrue a X.env whole = (do let v ← whole; standAt a.pos; holding [v] (truthy v)) := by intro _; rfl) : PTd X a (dTru fa) := by
  intro pins s σ H J r S Q E I m
  refine isTrue_plain (ha pins s σ H J r S _ E I ?_) (he _)
  unfold dTru M.bind at m
  cases e1 : fa r S with
  | bad => rw [e1] at m; exact m
  | exc c S1 => rw [e1] at m; exact m
  | ok x S1 =>
    rw [e1] at m
    rintro v s1 ⟨vx, H1, I1, r1, J1, ex, rs, rv⟩
    have fin : ∀ k, TruV X.K vx H1 k → truD x S1 = .ok k S1 → wpAny (model X.prog X.w) X.A (truthy v) Q E s1 := fun k ht hk => by
      dsimp only at m
      rw [hk] at m
      exact wpAny_mono (tru_ok (X := X.wish E) pins s1 σ H1 vx v (fun b H' => b = k ∧ H' = H1) (I1.wish E) r1 ⟨k, ht, rfl, rfl⟩) (fun b s2 ⟨H2, I2, hb, hH⟩ => by subst hb hH; exact m s2 ⟨_, I2.unwish, J1, ex, rs⟩) fun _ _ z => z
    cases x with
    | non => cases rv.non_; exact fin false rfl rfl
    | bl b => cases rv.bl_; exact fin b rfl rfl
    | int i => cases rv.int_; exact fin _ rfl rfl
    | tup xs =>
      obtain ⟨a, vs, rfl, hq, rvs⟩ := rv.tup_
      exact fin _ (.inr (.inl ⟨vs, hq, by rw [rvs.isEmpty]⟩)) rfl
    | rol xs =>
      obtain ⟨a, vs, rfl, hq, rvs⟩ := rv.rol_
      exact fin _ (.inl ⟨vs, hq.sq, by rw [rvs.isEmpty]⟩) rfl
    | ob n =>
      obtain ⟨a, rfl, hn⟩ := rv.ob_
      obtain ⟨c, hc, rc⟩ := rs.cellA hn
      cases c with
      | lst xs =>
        obtain ⟨vs, hv, rvs⟩ := rc
        exact fin (!xs.isEmpty) (.inl ⟨vs, SqL.of hv, by rw [rvs.isEmpty]⟩) (by simp only [truD, hc])
      | dic xs =>
        obtain ⟨vs, hv, rvs⟩ := rc
        exact fin (!xs.isEmpty) (.inr (.inr ⟨vs, hv, by rw [rvs.isEmpty]⟩)) (by simp only [truD, hc])
      | ins C ns ds =>
        dsimp only [truD] at m
        rw [hc] at m
        exact m.elim
    | _ => exact m.elim
def ClOk (X : Cx) : List (Str × Addr) → Prop
  | [] => True
  | p :: r => X.env.cells.lookup p.1 = some p.2 ∧ ClOk X r
theorem ClOk.all {X : Cx} : ∀ {cl : List (Str × Addr)}, ClOk X cl → ∀ p ∈ cl, X.env.cells.lookup p.1 = some p.2
  | [], _, p, hp => by cases hp
  | q :: r, h, p, hp => by
    rcases List.mem_cons.mp hp with rfl | hp
    · exact h.1
    · exact ClOk.all h.2 p hp
def spLaw (K : PySem.W.Frag) : Sp := fun vs H Q _ => ∃ (a : Addr) (ns : List Int), vs = [.ref a] ∧ SqL K H a (ns.map V.int) ∧ ns.length ≤ 63 ∧ Only H ∧ ∀ H', Q (.bl true) H'
theorem spLaw_of {K : PySem.W.Frag} {F : List D → M D} (hF : ∀ ns : List Int, ns.length ≤ 63 → ∃ S', F [.rol (ns.map D.int)] [] = .ok (.bl true) S') : ∀ vs H Q E, spLaw K vs H Q E → spD K 1 F vs H Q E := by
  rintro vs H Q E ⟨a, ns, rfl, hS, hl, ho, k⟩
  refine ⟨rfl, [], [.rol (ns.map D.int)], [], ?_, ⟨rfl, List.nodup_nil, fun n c a h => by simp at h⟩, ?_⟩
  · refine .one ?_
    unfold RepV
    refine ⟨a, ns.map V.int, rfl, ?_, RepVs.ints ns⟩
    rcases hS with (h | ⟨o, h⟩) | h
    · rcases ho a with e | ⟨o, xs, e⟩
      · rw [h] at e; cases e
      · rw [h] at e; cases e
    · exact .inl ⟨o, h⟩
    · exact .inr h
  · obtain ⟨S', e⟩ := hF ns hl
    rw [e]
    rintro v H' ⟨J', _, _, rv⟩
    rw [rv.bl_]
    exact k H'
end DL
namespace DL
open PySem PySem.Spec PyProof.Rows L2
@[simp] theorem cif_true {α : Type} {a b : α} : cif True a b = a := cif_pos trivial
@[simp] theorem cif_false {α : Type} {a b : α} : cif False a b = b := cif_neg (fun h => h)
theorem sTurns_inv {g : Option (Nat × List D)} {tg : TGd} {b : TSt} (Iv : Nat → DSt → List Cell → Prop) : ∀ (items : List D) (k : Nat) (r : DSt) (S : List Cell),
    (∀ i x r S, items[i]? = some x → Iv (k + i) r S → ∃ r1 r2 S2, tg x r = some r1 ∧ b r1 S = some (.nx r2, S2) ∧ gok g S2 ∧ Iv (k + i + 1) r2 S2) → Iv k r S →
    ∃ r' S', sTurns g tg b items r S = some (.nx r', S') ∧ Iv (k + items.length) r' S'
  | [], k, r, S, _, h => ⟨r, S, rfl, by simpa using h⟩
  | x :: xs, k, r, S, hs, h => by
    obtain ⟨r1, r2, S2, h1, h2, h3, h4⟩ := hs 0 x r S rfl h
    obtain ⟨r', S', e1, e2⟩ := sTurns_inv Iv xs (k + 1) r2 S2 (fun i y r S hy hi => by
      have := hs (i + 1) y r S (by simpa using hy) (by rw [show k + (i + 1) = k + 1 + i by omega]; exact hi)
      rw [show k + (i + 1) + 1 = k + 1 + i + 1 by omega] at this
      exact this) h4
    refine ⟨r', S', ?_, by rw [List.length_cons, show k + (xs.length + 1) = k + 1 + xs.length by omega]; exact e2⟩
    unfold sTurns
    rw [h1]
    dsimp only
    rw [h2]
    dsimp only
    rw [if_pos h3]
    exact e1
theorem pDs_ints (S : List Cell) (n : Nat) : ∀ is : List Int, pDs S (n + 1) (is.map D.int) = some (is.map PyData.int)
  | [] => by simp [pDs]
  | i :: is => by simp [pDs, pD, pDs_ints S n is]
theorem pD_tupInts (S : List Cell) (n : Nat) (is : List Int) : pD S (n + 2) (.tup (is.map D.int)) = some (.tuple (is.map PyData.int)) := by
  simp [pD, pDs_ints]
theorem eqvAll_ints : ∀ is js : List Int, PyData.eqvAll (is.map PyData.int) (js.map PyData.int) = decide (is = js)
  | [], [] => by simp [PyData.eqvAll]
  | [], _ :: _ => by simp [PyData.eqvAll]
  | _ :: _, [] => by simp [PyData.eqvAll]
  | i :: is, j :: js => by
    simp only [List.map_cons, PyData.eqvAll, PyData.eqv, eqvAll_ints is js, List.cons.injEq]
    by_cases h1 : i = j <;> by_cases h2 : is = js <;> simp [h1, h2]
theorem eqD_ints (S : List Cell) (is js : List Int) : eqD (.tup (is.map D.int)) (.tup (js.map D.int)) S = .ok (.bl (decide (is = js))) S := by
  simp only [eqD, pD_tupInts S 28, PyData.eqv, eqvAll_ints]
theorem neD_ints (S : List Cell) (is js : List Int) : neD (.tup (is.map D.int)) (.tup (js.map D.int)) S = .ok (.bl (!decide (is = js))) S := by
  simp only [neD, pD_tupInts S 28, PyData.eqv, eqvAll_ints]
theorem eqD_int (S : List Cell) (i j : Int) : eqD (.int i) (.int j) S = .ok (.bl (decide (i = j))) S := by
  have e : (i == j) = decide (i = j) := by
    by_cases h : i = j <;> simp [h]
  simp only [eqD, pD, PyData.eqv, e]
theorem neD_int (S : List Cell) (i j : Int) : neD (.int i) (.int j) S = .ok (.bl (!decide (i = j))) S := by
  have e : (i == j) = decide (i = j) := by
    by_cases h : i = j <;> simp [h]
  simp only [neD, pD, PyData.eqv, e]
theorem wRng_small {S : List Cell} {n : Nat} (h : n ≤ 1000000) : wRng 0 (n : Int) 1 S = .ok ⟨rngD 0 1 n, none⟩ S := by
  have hs : Builtin.Range.small 0 (n : Int) 1 = true := small_one (by omega) (by omega) (by omega) (by omega)
  unfold wRng
  have e : (if (0 : Int) < (n : Int) then (n : Int) - 0 else 0).toNat = n := by split <;> omega
  rw [cif_pos ⟨⟨by omega, by omega⟩, hs⟩, rangeSize_one, e]
theorem cutD_take {xs : List D} {k : Nat} (h : k ≤ xs.length) : cutD xs none (some (k : Int)) = xs.take k := by
  unfold cutD
  rw [HT.sIx_none, HT.sIx_nat, Nat.min_eq_left h]
  simp
theorem cutD_drop {xs : List D} {k : Nat} (h : k ≤ xs.length) : cutD xs (some (k : Int)) none = xs.drop k := by
  unfold cutD
  rw [HT.sIx_none, HT.sIx_nat, Nat.min_eq_left h]
  rw [List.take_of_length_le]
  simp
end DL
namespace DL
open PySem PySem.Spec PyProof.Rows L2
open AutoSeq1 (wpAny_loadPart')
open SeqAt
section
variable {X : Cx}
structure KTup (K : PySem.W.Frag) (u : Value) (vs : List V) : Prop where
  ex : ∃ (a : Addr) (o : Obj) (its : Array Value) (n : Nat), u = .ref a ∧ K.lookup a = some o ∧ o.cls = .type "tuple" ∧ o.dict = none ∧ o.data = .seq its n ∧ its.size ≤ sizeLine ∧ Vals vs its.toList
theorem KTup.rep {K : PySem.W.Frag} {u : Value} {vs : List V} {ds : List D} (h : KTup K u vs) (hd : ∀ H J, RepVs K H J ds vs) : KRep K (.tup ds) u := by
  obtain ⟨a, o, its, n, rfl, h1, h2, h3, h4, h5, h6⟩ := h.ex
  exact fun H J => ⟨.ref a, rfl, .tup (.inr ⟨o, its, n, h1, h2, h4, h5, h6⟩) (hd H J)⟩
end
end DL
namespace DL
open PySem PySem.Spec PyProof.Rows L2
noncomputable def insD (C : Addr) (ns : List Str) (x : D) : M (Nat × List D) := fun S => match x with
  | .ob n => (match S[n]? with
    | some (.ins C' ns' ds) => cif (C' = C ∧ ns' = ns) (.ok (n, ds) S) .bad
    | _ => .bad)
  | _ => .bad
def optM (o : Option D) : M D := fun S => match o with
  | some d => .ok d S
  | none => .bad
section
variable {X : Cx} {o e : Expr} {es : List Expr} {fo fe : DSt → M D} {ft : DSt → M (List D)} {pos tpos apos : Pos} {C : Addr} {ns : List Str} {i : Nat} {f : Str}
noncomputable def dFld (C : Addr) (ns : List Str) (i : Nat) (fo : DSt → M D) : DSt → M D := fun r => (fo r).bind fun x => (insD C ns x).bind fun p => optM p.2[i]?
theorem Ext.ins {K : PySem.W.Frag} {H : Hp} {J : List Addr} {a dx : Addr} {ws ws' : List (Str × V)} (h : H a = some (.ins C dx ws)) : Ext H J (upd H a (.ins C dx ws')) J := Ext.write h rfl
noncomputable def sFld (C : Addr) (ns : List Str) (i : Nat) (fo fe : DSt → M D) : TSt := fun r => sBind (fe r) r fun d => sBind (fo r) r fun x S1 => match insD C ns x S1 with
  | .ok p S2 => some (.nx r, S2.set p.1 (.ins C ns (p.2.set i d)))
  | _ => none
theorem goS' (he : PEd X e fe) {k : D → List Cell → RSt} {pins : Pins} {s : Shared} {σ : L2.St} {H : Hp} {J : List Addr} {r : DSt} {S : List Cell} {Q : Flow → Shared → Prop} {E : Value → Shared → Prop} {Q' : Value → Shared → Prop} (I : At X pins σ H J r S s)
    (m : MtS X pins H J (sBind (fe r) r k S) Q E) (hk : ∀ x S1 v s1 vx H1 J1, At X pins σ H1 J1 r S1 s1 → Ext H J H1 J1 → RepV X.K H1 J1 x vx → RelV vx v → MtS X pins H1 J1 (k x S1) Q E → Q' v s1) :
    wpAny (model X.prog X.w) X.A (eval e X.env) Q' E s := by
  refine he pins s σ H J r S _ E I ?_
  unfold sBind at m
  cases e1 : fe r S with
  | bad => rw [e1] at m; exact m
  | exc c S1 =>
    rw [e1] at m
    exact fun x s' ⟨H', XI, J', ex, rs⟩ => m x s' σ H' J' XI (I.loc.ext ex) rs ex
  | ok x S1 =>
    rw [e1] at m
    exact fun v s1 ⟨vx, H1, I1, r1, J1, ex, rs, rv⟩ => hk x S1 v s1 vx H1 J1 ⟨I1, I.loc.ext ex, rs⟩ ex rv r1 (MtS.ext ex m)
noncomputable def sFldN (C : Addr) (ns : List Str) (f : Str) (fo fe : DSt → M D) : TSt := fun r => sBind (fe r) r fun d => sBind (fo r) r fun x S1 => match insD C ns x S1 with
  | .ok p S2 => some (.nx r, S2.set p.1 (.ins C (ns ++ [f]) (p.2 ++ [d])))
  | _ => none
structure CalM (P : Program) (w : World) (K : PySem.W.Frag) (mg : Str → Option Value) (base : Heap) (CX : CXT) (C : Addr) (m : Str) (k : Nat) (ps : List Str) (F : List D → M D) : Prop where
  ex : ∃ f fd, Meth K C m f ∧ Binds K fd ps [] ∧ FnD P w K mg base CX k f fd ps F
noncomputable def dMeth (C : Addr) (ns : List Str) (F : List D → M D) (fo : DSt → M D) (ft : DSt → M (List D)) : DSt → M D := fun r => (fo r).bind fun x => (insD C ns x).bind fun _ => (ft r).bind fun xs => F (x :: xs)
structure CalI (P : Program) (w : World) (K : PySem.W.Frag) (mg : Str → Option Value) (base : Heap) (CX : CXT) (x : Str) (C : Addr) (k : Nat) (ps : List Str) (F : List D → M D) : Prop where
  ex : ∃ f fd, mg x = some (.ref C) ∧ Mk K C f ∧ Binds K fd ps [] ∧ FnD P w K mg base CX k f fd ps F
end
end DL
namespace L2
open PySem PySem.Spec PyProof.Rows
section
variable {κ : Type} [DecidableEq κ]
def valV (kvs : List (κ × V)) (k : κ) : Option V := (kvs.find? fun kv => decide (kv.1 = k)).map (·.2)
def putK (kvs : List (κ × V)) (k : κ) (v : V) : List (κ × V) :=
  if (kvs.any fun kv => decide (kv.1 = k)) = true then kvs.map (fun kv => if kv.1 = k then (kv.1, v) else kv) else kvs ++ [(k, v)]
def dropK (kvs : List (κ × V)) (k : κ) : List (κ × V) := kvs.filter fun kv => decide (kv.1 ≠ k)
theorem valV_pos {p : κ × V} {r : List (κ × V)} {k : κ} (e : p.1 = k) : valV (p :: r) k = some p.2 := by simp [valV, List.find?_cons, e]
theorem valV_neg {p : κ × V} {r : List (κ × V)} {k : κ} (e : ¬ p.1 = k) : valV (p :: r) k = valV r k := by simp [valV, List.find?_cons, e]
theorem RelO.getD {o : Option V} {u : Option Value} {d : V} {d' : Value} (r : RelO o u) (rd : RelV d d') : RelV (o.getD d) (u.getD d') := by
  cases o with
  | none => cases u with
    | none => exact rd
    | some _ => exact (show False from r).elim
  | some _ => cases u with
    | none => exact (show False from r).elim
    | some _ => exact r
theorem KV.val {kvs : List (κ × V)} {vs : List (κ × Value)} (r : KV kvs vs) (k : κ) : RelO (valV kvs k) (valueAt vs k) := by
  unfold KV at r
  induction r with
  | nil => exact True.intro
  | @cons p q ps qs h t ih =>
    obtain ⟨h1, h2⟩ := h
    by_cases e : p.1 = k
    · have e' : q.1 = k := h1.symm.trans e
      have b : valueAt (q :: qs) k = some q.2 := by simp [valueAt, List.find?_cons, e']
      rw [valV_pos e, b]; exact h2
    · have e' : ¬ q.1 = k := fun z => e (h1.trans z)
      have b : valueAt (q :: qs) k = valueAt qs k := by simp [valueAt, List.find?_cons, e']
      rw [valV_neg e, b]; exact ih
theorem KV.any {kvs : List (κ × V)} {vs : List (κ × Value)} (r : KV kvs vs) (k : κ) : (kvs.any fun kv => decide (kv.1 = k)) = vs.any fun kv => decide (kv.1 = k) := by
  unfold KV at r
  induction r with
  | nil => rfl
  | cons h t ih => rw [List.any_cons, List.any_cons, ih, h.1]
theorem KV.drop {kvs : List (κ × V)} {vs : List (κ × Value)} (r : KV kvs vs) (k : κ) : KV (dropK kvs k) (without vs k) := by
  unfold KV at r ⊢
  unfold dropK without
  induction r with
  | nil => exact .nil
  | @cons p q ps qs h t ih =>
    obtain ⟨h1, h2⟩ := h
    rw [List.filter_cons, List.filter_cons]
    by_cases e : p.1 = k
    · have a : ¬ decide (p.1 ≠ k) = true := by simp [e]
      have b : ¬ decide (q.1 ≠ k) = true := by simp [h1.symm.trans e]
      rw [if_neg a, if_neg b]; exact ih
    · have e' : ¬ q.1 = k := fun z => e (h1.trans z)
      have a : decide (p.1 ≠ k) = true := by simp [e]
      have b : decide (q.1 ≠ k) = true := by simp [e']
      rw [if_pos a, if_pos b]; exact .cons ⟨h1, h2⟩ ih
theorem KV.length {kvs : List (κ × V)} {vs : List (κ × Value)} (r : KV kvs vs) : kvs.length = vs.length := Paired.length r
end
abbrev KT (H : Hp) : List (List Key × V) → List (List Key × Addr × Value) → Prop := Paired fun p q => p.1 = q.1 ∧ H q.2.1 = some (.tup (p.1.map kV)) ∧ RelV p.2 q.2.2
theorem KT.val {H : Hp} {kvs : List (List Key × V)} {xs : List (List Key × Addr × Value)} (r : KT H kvs xs) (k : List Key) : RelO (valV kvs k) ((atKey xs k).map (·.2)) := by
  induction r with
  | nil => exact True.intro
  | @cons p q ps qs h t ih =>
    obtain ⟨h1, _, h2⟩ := h
    by_cases e : p.1 = k
    · have e' : q.1 = k := h1.symm.trans e
      have b : atKey (q :: qs) k = some q.2 := by simp [atKey, List.find?_cons, e']
      rw [valV_pos e, b]; exact h2
    · have e' : ¬ q.1 = k := fun z => e (h1.trans z)
      have b : atKey (q :: qs) k = atKey qs k := by simp [atKey, List.find?_cons, e']
      rw [valV_neg e, b]; exact ih
theorem KT.keeps {H H' : Hp} {kvs : List (List Key × V)} {xs : List (List Key × Addr × Value)} (r : KT H kvs xs) (ht : ∀ b ys, H b = some (.tup ys) → H' b = some (.tup ys)) : KT H' kvs xs :=
  Paired.mapP r fun _ _ z => ⟨z.1, ht _ _ z.2.1, z.2.2⟩
section
variable {P : Program} {w : World} {H : Hp} {h : Heap} {a : Addr}
end
def DGet (H : Hp) (a : Addr) (y : V) (r : Option V) : Prop :=
  (∃ kvs k, Rd H a (.dK kvs) ∧ y = kV k ∧ r = valV kvs k) ∨ ∃ kvs k b, Rd H a (.dT kvs) ∧ y = .ref b ∧ H b = some (.tup (k.map kV)) ∧ r = valV kvs k
def DPut (H : Hp) (a : Addr) (y v : V) (H' : Hp) : Prop :=
  (∃ kvs k, H a = some (.dK kvs) ∧ y = kV k ∧ kvs.length < sizeLine ∧ H' = upd H a (.dK (putK kvs k v))) ∨
  ∃ kvs k b, H a = some (.dT kvs) ∧ y = .ref b ∧ H b = some (.tup (k.map kV)) ∧ kvs.length < sizeLine ∧ H' = upd H a (.dT (putK kvs k v))
theorem DGet.k {H : Hp} {a : Addr} {kvs : List (Key × V)} {k : Key} (e : H a = some (.dK kvs)) : DGet H a (kV k) (valV kvs k) := .inl ⟨kvs, k, .inl e, rfl, rfl⟩
theorem DGet.t {H : Hp} {a b : Addr} {kvs : List (List Key × V)} {k : List Key} (e : H a = some (.dT kvs)) (eb : H b = some (.tup (k.map kV))) : DGet H a (.ref b) (valV kvs k) := .inr ⟨kvs, k, b, .inl e, rfl, eb, rfl⟩
theorem DPut.k {H : Hp} {a : Addr} {kvs : List (Key × V)} {k : Key} {v : V} (e : H a = some (.dK kvs)) (hl : kvs.length < sizeLine) : DPut H a (kV k) v (upd H a (.dK (putK kvs k v))) := .inl ⟨kvs, k, e, rfl, hl, rfl⟩
theorem DPut.t {H : Hp} {a b : Addr} {kvs : List (List Key × V)} {k : List Key} {v : V} (e : H a = some (.dT kvs)) (eb : H b = some (.tup (k.map kV))) (hl : kvs.length < sizeLine) :
    DPut H a (.ref b) v (upd H a (.dT (putK kvs k v))) := .inr ⟨kvs, k, b, e, rfl, eb, hl, rfl⟩
section
variable {X : Cx} {pins : List (Addr × Obj)} {σ : St} {H : Hp} {s : Shared} {a : Addr} {y v : V} {u r : Value} {o : Option V} {A : Around} {E : Value → Shared → Prop}
end
section
variable {X : Cx} {pins : List (Addr × Obj)} {σ : St} {H : Hp} {s : Shared} {a : Addr} {kvs : List (Key × V)} {k : Key} {u : Value} {A : Around} {E : Value → Shared → Prop}
end
section
variable {X : Cx} {o i e value : Expr} {pos pos' tpos : Pos} {td ty tv : TE}
end
section
variable {X : Cx} {pos : Pos}
end
abbrev VV : List (V × V) → List (Value × Value) → Prop := Paired fun p q => RelV p.1 q.1 ∧ RelV p.2 q.2
structure M1 (X : Cx) (o : Expr) (m : Str) (apos : Pos) (e : Expr) (cpos : Pos) : Prop where
  base : attributeBase o m X.env (eval o X.env) = eval o X.env
  few : ((backTo cpos (starEach [e] X.env)).all (fun x => !x.1) && (backToKw cpos (keywordEach [] X.env)).all (fun x => x.1.isSome)
    && decide (([e] : List Expr).length + ([] : List Keyword).length + (if ([] : List Keyword).isEmpty then 0 else 1) < 30)) = true
  line : (apos.endLine == cpos.line) = true
  trees : backTo cpos (starEach [e] X.env) = [(false, eval e X.env)]
structure M2 (X : Cx) (o : Expr) (m : Str) (apos : Pos) (e f : Expr) (cpos : Pos) : Prop where
  base : attributeBase o m X.env (eval o X.env) = eval o X.env
  few : ((backTo cpos (starEach [e, f] X.env)).all (fun x => !x.1) && (backToKw cpos (keywordEach [] X.env)).all (fun x => x.1.isSome)
    && decide (([e, f] : List Expr).length + ([] : List Keyword).length + (if ([] : List Keyword).isEmpty then 0 else 1) < 30)) = true
  line : (apos.endLine == cpos.line) = true
  trees : backTo cpos (starEach [e, f] X.env) = [(false, eval e X.env), (false, eval f X.env)]
section
variable {X : Cx} {pins : List (Addr × Obj)} {σ : St} {H : Hp} {s : Shared} {a : Addr} {y d : V} {u r : Value} {o : Option V} {A : Around} {E : Value → Shared → Prop}
end
section
variable {X : Cx} {o e f : Expr} {apos cpos : Pos} {td ty tx : TE}
end
end L2
namespace DL
open PySem PySem.Spec PyProof.Rows L2
def valD (kvs : List (Key × D)) (k : Key) : Option D := (kvs.find? fun kv => decide (kv.1 = k)).map (·.2)
section
variable {K : PySem.W.Frag} {H : Hp} {J : List Addr}
theorem RepPs.val : ∀ {kvs : List (Key × D)} {ws : List (Key × V)} (k : Key), RepPs K H J kvs ws → (∀ d, valD kvs k = some d → ∃ v, valV ws k = some v ∧ RepV K H J d v) ∧ (valD kvs k = none → valV ws k = none)
  | [], _, k, h => by
    have h' : _ = [] := h
    subst h'
    exact ⟨fun d e => (by cases e), fun _ => rfl⟩
  | (k0, d0) :: r, ws, k, h => by
    obtain ⟨v, t, rfl, h2, h3⟩ := h
    by_cases e : k0 = k
    · have e1 : valD ((k0, d0) :: r) k = some d0 := by simp [valD, List.find?_cons, e]
      have e2 : valV ((k0, v) :: t) k = some v := valV_pos e
      rw [e1, e2]
      exact ⟨fun d q => ⟨v, rfl, by cases q; exact h2⟩, fun q => (by cases q)⟩
    · have e1 : valD ((k0, d0) :: r) k = valD r k := by simp [valD, List.find?_cons, e]
      have e2 : valV ((k0, v) :: t) k = valV t k := valV_neg e
      rw [e1, e2]
      exact RepPs.val k h3
theorem RepPs.snoc {d : D} {v : V} (hd : RepV K H J d v) : ∀ {kvs : List (Key × D)} {ws : List (Key × V)} (k : Key), RepPs K H J kvs ws → RepPs K H J (kvs ++ [(k, d)]) (ws ++ [(k, v)])
  | [], _, k, h => by
    have h' : _ = [] := h
    subst h'
    exact ⟨v, [], rfl, hd, rfl⟩
  | (k0, d0) :: r, ws, k, h => by
    obtain ⟨v0, t, rfl, h2, h3⟩ := h
    exact ⟨v0, _, rfl, h2, RepPs.snoc hd k h3⟩
end
def dicAt (S : List Cell) (n : Nat) : Option (List (Key × D)) := match S[n]? with
  | some (.dic kvs) => some kvs
  | _ => none
theorem dicAt_cell {S : List Cell} {n : Nat} {kvs : List (Key × D)} (h : dicAt S n = some kvs) : S[n]? = some (.dic kvs) := by
  unfold dicAt at h
  split at h
  · rename_i e
    cases h
    exact e
  · cases h
theorem RepS.dic {K : PySem.W.Frag} {H : Hp} {J : List Addr} {S : List Cell} {n : Nat} {kvs : List (Key × D)} {a : Addr} (rs : RepS K H J S) (h : dicAt S n = some kvs) (hn : J[n]? = some a) : ∃ ws, H a = some (.dK ws) ∧ RepPs K H J kvs ws := rs.at_ n _ a (dicAt_cell h) hn
section
variable {X : Cx} {a b o e : Expr} {es : List Expr} {fa fb fo fi fe : DSt → M D} {ft : DSt → M (List D)} {pos : Pos}
def dDic0 : DSt → M D := fun _ S => .ok (.ob S.length) (S ++ [.dic []])
def StD (X : Cx) (g : D → D → D → List Cell → Option (List Cell)) : Prop := ∀ (pins : Pins) (s : Shared) (σ : L2.St) (H : Hp) (J : List Addr) (S : List Cell) (x y d : D) (vx vy vd : V) (ux uy ud : Value) (S' : List Cell) (Q : Unit → Shared → Prop) (E : Value → Shared → Prop),
  Inv X pins σ H s → RepS X.K H J S → RepV X.K H J x vx → RepV X.K H J y vy → RepV X.K H J d vd → RelV vx ux → RelV vy uy → RelV vd ud → g x y d S = some S' → (∀ s' H', Inv X pins σ H' s' → Ext H J H' J → RepS X.K H' J S' → Q () s') → wpAny (model X.prog X.w) X.A (setItem ux uy ud) Q E s
def sPut (g : D → D → D → List Cell → Option (List Cell)) (fo fi fe : DSt → M D) : TSt := fun r => sBind (fe r) r fun d => sBind (fo r) r fun x => sBind (fi r) r fun y S => match g x y d S with
  | some S' => some (.nx r, S')
  | none => none
theorem sd_put {i : Expr} {pos' : Pos} {g : D → D → D → List Cell → Option (List Cell)} (hg : StD X g) (ho : PEd X o fo) (hi : PEd X i fi) (he : PEd X e fe) (hs : swapsWith e (some (.Subscript o i pos')) pos.line X.env = pure false := by rfl) :
    PSd X (.Assign [.Subscript o i pos'] e pos) (sPut g fo fi fe) := by
  intro pins s σ H J r S Q E I m
  refine wpAny_Assign_Subscript (goS' he I m fun d S1 ud s1 vd H1 J1 I1 x1 rd ru m1 => goS' ho I1 m1 fun x S2 ux s2 vx H2 J2 I2 x2 rx rvx m2 => goS' hi I2 m2 fun y S3 uy s3 vy H3 J3 I3 x3 ry rvy m3 => ?_) hs
  cases eg : g x y d S3 with
  | none => rw [eg] at m3; exact m3.elim
  | some S' =>
    rw [eg] at m3
    exact hg pins s3 σ H3 J3 S3 x y d vx vy vd ux uy ud S' _ E I3.inv I3.st (rx.ext x3) ry ((rd.ext x2).ext x3) rvx rvy ru eg fun s' H' I' x' rs' => m3 s' σ H' J3 ⟨I', I3.loc.ext x', rs'⟩ x'
def putLD (x y d : D) (S : List Cell) : Option (List Cell) := match x, y with
  | .ob n, .int i => (match lstAt S n with
    | some xs => (match ixN xs.length i with
      | some j => some (S.set n (.lst (xs.set j d)))
      | none => none)
    | none => none)
  | _, _ => none
theorem std_lst : StD X putLD := by
  intro pins s σ H J S x y d vx vy vd ux uy ud S' Q E I rs rx ry rd rux ruy rud eg k
  unfold putLD at eg
  cases x with
  | ob n =>
    cases y with
    | int i =>
      dsimp only at eg
      obtain ⟨ad, rfl, hn⟩ := rx.ob_
      cases ry.int_
      cases ed : lstAt S n with
      | none => rw [ed] at eg; cases eg
      | some xs =>
        rw [ed] at eg
        dsimp only at eg
        cases ej : ixN xs.length i with
        | none => rw [ej] at eg; cases eg
        | some j =>
          rw [ej] at eg
          cases eg
          obtain ⟨ws, hv, rw'⟩ := rs.lst ed hn
          refine wpAny_mono (set_list (X := X.wish E) pins s σ H (.ref ad) (.int i) vd ux uy ud (fun H' => H' = upd H ad (.lst (ws.set j vd))) (I.wish E) rux ruy rud ⟨ad, ws, i, j, rfl, rfl, hv, by rw [rw'.length]; exact ej, rfl⟩) (fun _ s' q => ?_) fun _ _ z => z
          obtain ⟨H', I', rfl⟩ := q
          have x' : Ext H J (upd H ad (.lst (ws.set j vd))) J := Ext.write hv rfl
          exact k s' _ I'.unwish x' (rs.write hn ⟨_, upd_same, RepVs.set (rd.ext x') j (rw'.ext x')⟩)
    | _ => cases eg
  | _ => cases eg
def chkD (x : D) : M Unit := fun S => match x with
  | .ob n => (match dicAt S n with
    | some _ => .ok () S
    | none => .bad)
  | _ => .bad
def dBMd (g : D → List D → M D) (fo : DSt → M D) (ft : DSt → M (List D)) : DSt → M D := fun r => (fo r).bind fun x => (chkD x).bind fun _ => (ft r).bind fun xs => g x xs
end
end DL
namespace DL
open PySem PySem.Spec PyProof.Rows L2
theorem list_extend_tup (l : Addr) (items : Array Value) (n : Nat) (b : Addr) (items2 : Array Value) (n2 : Nat) (dd : Option Addr) (sl : Array (Option Value)) (hs0 : ¬(!items.isEmpty && Builtin.List.listTooLong (items.size + items2.size)) = true) (hs1 : items.size ≤ sizeLine) (hs2 : items.size + items2.size ≤ sizeLine + 1) :
    Meets (Builtin.«list.extend» ⟨[.ref l, .ref b], []⟩) (fun _ R s => s.heap.get? l = some { cls := .type "list", dict := none, data := .seq items n, slots := #[] } ∧ s.heap.get? b = some { cls := .type "tuple", dict := dd, data := .seq items2 n2, slots := sl } ∧ R (.ok (.ret Value.none)) { s with heap := s.heap.update l (Obj.mapSeq fun x => x ++ items2), toks := s.toks }) :=
  .of_wp fun prog w A R s h => by
    obtain ⟨hp, g, d, tk, os⟩ := s
    obtain ⟨hl, hb, h⟩ := h
    have f1 := PySem.AutoSeq1.idx_int
    have f2 := PySem.AutoSeq1.sub_tuple_tuple
    have f3 := PySem.AutoSeq1.sub_list_list
    have f4 := PySem.AutoSeq1.sub_tuple_list
    have f5 := PySem.AutoSeq1.sub_list_tuple
    have hz' : (items ++ items2).size ≤ sizeLine + 1 := by rw [Array.size_append]; exact hs2
    wp_walk using (wpAny_updateSeq hl rfl (hz := hs1) (_hz' := hz')), wpAny_loadPart' hl, wpAny_loadPart' hb
    exact ⟨_, rfl, h⟩
section
variable {X : Cx}
noncomputable def extD : D → List D → M D
  | .ob n, [.tup ys] => fun S => match lstAt S n with
    | some xs => cif (xs.length + ys.length ≤ sizeLine) (.ok .non (S.set n (.lst (xs ++ ys)))) .bad
    | none => .bad
  | _, _ => M.bad
theorem md_extend : MtD X "list.extend" extD := by
  intro pins s σ H J S x xs vx vs v us Q E I rs rx rxs rv rvs m
  cases x with
  | ob n =>
    match xs, m, rxs with
    | [.tup ys], m, rxs =>
      obtain ⟨ad, rfl, hn⟩ := rx.ob_
      obtain ⟨w, rfl, rw'⟩ := rxs.one_
      obtain ⟨u, rfl, ru⟩ := rvs.one
      cases rv
      obtain ⟨b, zs, rfl, hq, rz⟩ := rw'.tup_
      cases ru
      simp only [extD, cif] at m
      cases ed : lstAt S n with
      | none => rw [ed] at m; exact m.elim
      | some xs0 =>
        rw [ed] at m
        dsimp only at m
        split at m
        · rename_i hz
          obtain ⟨ws, hv, rws⟩ := rs.lst ed hn
          obtain ⟨z, its, n1, r, hl, e⟩ := I.lstM hv
          obtain ⟨its2, r2, ht, hz2⟩ := I.tuple hq
          obtain ⟨⟨cls2, dd2, data2, sl2⟩, ho2, hc2, n2, hd2⟩ := id ht
          simp only at hc2 hd2
          subst hc2 hd2
          have hl2 := r2.length
          have l1 := rws.length
          have l2 := rz.length
          have hsz : its.toArray.size + its2.toArray.size ≤ sizeLine := by rw [List.size_toArray, List.size_toArray]; omega
          have hlong : ¬ (!its.toArray.isEmpty && Builtin.List.listTooLong (its.toArray.size + its2.toArray.size)) = true := by
            rw [notLongL hsz, Bool.and_false]
            exact Bool.false_ne_true
          refine call_meets F.slot_list_extend ⟨_, e, rfl⟩ F.entry_list_extend (F.args_list_extend_2 _ _) (list_extend_tup ad its.toArray n1 b its2.toArray n2 dd2 sl2 hlong (by rw [List.size_toArray]; omega) (by omega)) ⟨e, ho2, ?_⟩
          have x' : Ext H J (upd H ad (.lst (ws ++ zs))) J := Ext.write hv rfl
          refine m _ _ ⟨.non, _, I.lset (its' := its ++ its2) hv e (by simp) (r.append r2) (by rw [List.length_append]; omega), rfl, J, x', rs.write hn ⟨_, upd_same, (rws.ext x').append (rz.ext x')⟩, RepV.non _ _ _⟩
        · exact m.elim
    | [], m, _ => exact m.elim
    | [.non], m, _ => exact m.elim
    | [.bl _], m, _ => exact m.elim
    | [.int _], m, _ => exact m.elim
    | [.str _], m, _ => exact m.elim
    | [.rol _], m, _ => exact m.elim
    | [.ob _], m, _ => exact m.elim
    | [.xn _], m, _ => exact m.elim
    | y :: _ :: _, m, _ => cases y <;> exact m.elim
  | _ => exact m.elim
end
end DL
namespace DL
open PySem PySem.Spec PyProof.Rows L2
section
variable {X : Cx}
def MtP (X : Cx) (pins : Pins) (σ : L2.St) (H : Hp) (J : List Addr) (r : R (List (D × D))) (Q : List (Value × Value) → Shared → Prop) (E : Value → Shared → Prop) : Prop := match r with
  | .ok ps S' => ∀ us s', (∃ vs H' J', Inv X pins σ H' s' ∧ VV vs us ∧ Ext H J H' J' ∧ RepS X.K H' J' S' ∧ RepVs X.K H' J' (ps.map (·.1)) (vs.map (·.1)) ∧ RepVs X.K H' J' (ps.map (·.2)) (vs.map (·.2))) → Q us s'
  | .exc c S' => ∀ e s', XP X pins σ c (Gone X.K H J S') e s' → E e s'
  | .bad => False
theorem MtP.ext {pins : Pins} {σ : L2.St} {H H1 : Hp} {J J1 : List Addr} {r : R (List (D × D))} {Q : List (Value × Value) → Shared → Prop} {E : Value → Shared → Prop} (e : Ext H J H1 J1) (h : MtP X pins σ H J r Q E) : MtP X pins σ H1 J1 r Q E := by
  cases r with
  | ok d S => exact fun u s' ⟨v, H', J', I, rv, x, g⟩ => h u s' ⟨v, H', J', I, rv, e.trans x, g⟩
  | exc c S => exact fun u s' x => h u s' (x.ext e)
  | bad => exact h
end
end DL
namespace DL
open PySem PySem.Spec PyProof.Rows L2
theorem szM {n : Nat} (h : n ≤ 1000000) : n < sizeLine := Nat.lt_of_le_of_lt h (by rw [sizeLine_eq]; decide)
section
variable {α β : Type} {S : List Cell} {r : DSt}
@[simp] theorem e_bind (m : M α) (k : α → M β) : (m.bind k) S = match m S with
  | .ok a S' => k a S'
  | .exc c S' => .exc c S'
  | .bad => .bad := rfl
@[simp] theorem e_ret (a : α) : (M.ret a) S = .ok a S := rfl
@[simp] theorem e_dVar (i : Nat) : dVar i r S = match r[i]? with
  | some (some d) => .ok d S
  | _ => .bad := rfl
@[simp] theorem e_dC (d : D) : dC d r S = .ok d S := rfl
@[simp] theorem e_dOp (g : D → D → M D) (fa fb : DSt → M D) : dOp g fa fb r = (fa r).bind fun x => (fb r).bind fun y => g x y := rfl
@[simp] theorem e_dUn (g : D → M D) (fa : DSt → M D) : dUn g fa r = (fa r).bind g := rfl
@[simp] theorem e_dCall (g : List D → M D) (ft : DSt → M (List D)) : dCall g ft r = (ft r).bind g := rfl
@[simp] theorem e_dNil : dNil r = M.ret [] := rfl
@[simp] theorem e_dCons (f : DSt → M D) (g : DSt → M (List D)) : dCons f g r = (f r).bind fun x => (g r).bind fun xs => M.ret (x :: xs) := rfl
@[simp] theorem e_dTest (f : DSt → M D) : dTest f r = (f r).bind bof := rfl
@[simp] theorem e_bof (b : Bool) : bof (.bl b) S = .ok b S := rfl
@[simp] theorem e_dTru (f : DSt → M D) : dTru f r = (f r).bind truD := rfl
@[simp] theorem e_truD_bl (b : Bool) : truD (.bl b) S = .ok b S := rfl
@[simp] theorem e_dAnd (t u : DSt → M Bool) : dAnd t u r = (t r).bind fun c => if c = true then u r else M.ret false := rfl
@[simp] theorem e_dOr (t u : DSt → M Bool) : dOr t u r = (t r).bind fun c => if c = true then M.ret true else u r := rfl
@[simp] theorem e_dNot (t : DSt → M Bool) : dNot t r = (t r).bind fun c => M.ret (!c) := rfl
@[simp] theorem e_dAndV (fa fb : DSt → M D) : dAndV fa fb r = (dTest fa r).bind fun c => if c = true then fb r else M.ret (.bl false) := rfl
@[simp] theorem e_dOrV (fa fb : DSt → M D) : dOrV fa fb r = (dTest fa r).bind fun c => if c = true then M.ret (.bl true) else fb r := rfl
@[simp] theorem e_dNotV (fa : DSt → M D) : dNotV fa r = (dTest fa r).bind fun c => M.ret (.bl (!c)) := rfl
@[simp] theorem e_dIf (t : DSt → M Bool) (fa fb : DSt → M D) : dIf t fa fb r = (t r).bind fun c => if c = true then fa r else fb r := rfl
@[simp] theorem e_dChain (g g' : D → D → M D) (fa fb fc : DSt → M D) : dChain g g' fa fb fc r = (fa r).bind fun x => (fb r).bind fun y => ((g x y).bind bof).bind fun k => if k = true then (fc r).bind fun z => g' y z else M.ret (.bl false) := rfl
@[simp] theorem e_dTup (ft : DSt → M (List D)) : dTup ft r = (ft r).bind newTup := rfl
@[simp] theorem e_dLst (ft : DSt → M (List D)) : dLst ft r = (ft r).bind newLst := rfl
@[simp] theorem e_dSl (g : D → Option Int → Option Int → M D) (fe : DSt → M D) (fl fh : DSt → M (Option Int)) : dSl g fe fl fh r = (fe r).bind fun x => (fl r).bind fun l => (fh r).bind fun h => g x l h := rfl
@[simp] theorem e_dNoPart : dNoPart r = M.ret none := rfl
@[simp] theorem e_dPart (f : DSt → M D) : dPart f r = (f r).bind intOf := rfl
@[simp] theorem e_intOf (i : Int) : intOf (.int i) = M.ret (some i) := rfl
@[simp] theorem e_dIs (T : String) (f : DSt → M D) : dIs T f r = (f r).bind (isD T) := rfl
@[simp] theorem e_dWk (f : DSt → M D) : dWk f r = (f r).bind wkOf := rfl
@[simp] theorem e_dYes : dYes r = M.ret true := rfl
@[simp] theorem e_dFld (C : Addr) (ns : List Str) (i : Nat) (fo : DSt → M D) : dFld C ns i fo r = (fo r).bind fun x => (insD C ns x).bind fun p => optM p.2[i]? := rfl
@[simp] theorem e_optM (d : D) : optM (some d) S = .ok d S := rfl
@[simp] theorem e_dMeth (C : Addr) (ns : List Str) (F : List D → M D) (fo : DSt → M D) (ft : DSt → M (List D)) : dMeth C ns F fo ft r = (fo r).bind fun x => (insD C ns x).bind fun _ => (ft r).bind fun xs => F (x :: xs) := rfl
@[simp] theorem e_dBM (g : D → List D → M D) (fo : DSt → M D) (ft : DSt → M (List D)) : dBM g fo ft r = (fo r).bind fun x => (chkL x).bind fun _ => (ft r).bind fun xs => g x xs := rfl
@[simp] theorem e_dBMd (g : D → List D → M D) (fo : DSt → M D) (ft : DSt → M (List D)) : dBMd g fo ft r = (fo r).bind fun x => (chkD x).bind fun _ => (ft r).bind fun xs => g x xs := rfl
@[simp] theorem e_dDic0 : dDic0 r S = .ok (.ob S.length) (S ++ [.dic []]) := rfl
@[simp] theorem e_gN (i : Nat) (d : D) : gN i d r = some (r.set i (some d)) := rfl
theorem lstAt_of {n : Nat} {xs : List D} (h : S[n]? = some (.lst xs)) : lstAt S n = some xs := by unfold lstAt; rw [h]
@[simp] theorem e_chkL {n : Nat} : chkL (.ob n) S = match lstAt S n with
  | some _ => .ok () S
  | none => .bad := rfl
@[simp] theorem e_chkD {n : Nat} : chkD (.ob n) S = match dicAt S n with
  | some _ => .ok () S
  | none => .bad := rfl
@[simp] theorem e_add_int (i j : Int) : addD (.int i) (.int j) S = .ok (.int (i + j)) S := rfl
@[simp] theorem e_sub_int (i j : Int) : subD (.int i) (.int j) S = .ok (.int (i - j)) S := cif_pos trivial
theorem e_mul_int {i j : Int} (h : CMul i j) : mulD (.int i) (.int j) S = .ok (.int (i * j)) S := cif_pos h
@[simp] theorem e_mul2 (j : Int) : mulD (.int 2) (.int j) S = .ok (.int (2 * j)) S := e_mul_int (.inl ⟨by decide, by decide⟩)
theorem e_mod_int {i j : Int} (h : 0 < j) : modD (.int i) (.int j) S = .ok (.int (i % j)) S := cif_pos h
@[simp] theorem e_lt (i j : Int) : ltD (.int i) (.int j) S = .ok (.bl (decide (i < j))) S := rfl
@[simp] theorem e_le (i j : Int) : leD (.int i) (.int j) S = .ok (.bl (decide (i ≤ j))) S := rfl
@[simp] theorem e_gt (i j : Int) : gtD (.int i) (.int j) S = .ok (.bl (decide (j < i))) S := rfl
@[simp] theorem e_ge (i j : Int) : geD (.int i) (.int j) S = .ok (.bl (decide (j ≤ i))) S := rfl
@[simp] theorem e_eq_int (i j : Int) : eqD (.int i) (.int j) S = .ok (.bl (decide (i = j))) S := eqD_int S i j
@[simp] theorem e_ne_int (i j : Int) : neD (.int i) (.int j) S = .ok (.bl (!decide (i = j))) S := neD_int S i j
@[simp] theorem e_min (i j : Int) : minD [.int i, .int j] S = .ok (.int (min i j)) S := by
  show R.ok (D.int (if j < i then j else i)) S = _
  congr 2
  omega
@[simp] theorem e_max (i j : Int) : maxD [.int i, .int j] S = .ok (.int (max i j)) S := by
  show R.ok (D.int (if j > i then j else i)) S = _
  congr 2
  omega
theorem e_ix_ob {xs : List D} {n i : Nat} {d : D} (hn : S[n]? = some (.lst xs)) (h : xs[i]? = some d) : ixD (.ob n) (.int (i : Int)) S = .ok d S := by
  simp only [ixD, seqD, lstAt_of hn, atI_nat h]
theorem e_len_ob {xs : List D} {n : Nat} (hn : S[n]? = some (.lst xs)) : lenD [.ob n] S = .ok (.int xs.length) S := by
  simp only [lenD, seqD, lstAt_of hn]
@[simp] theorem e_len_tup (xs : List D) : lenD [.tup xs] S = .ok (.int xs.length) S := rfl
@[simp] theorem e_tuple_tup (xs : List D) : tupleD [.tup xs] S = .ok (.tup xs) S := rfl
theorem e_tuple_ob {xs : List D} {n : Nat} (hn : S[n]? = some (.lst xs)) : tupleD [.ob n] S = .ok (.tup xs) S := by
  simp only [tupleD, seqD, lstAt_of hn]
theorem e_newTup {xs : List D} (h : xs.length ≤ 1000000) : newTup xs S = .ok (.tup xs) S := cif_pos (Nat.le_of_lt (szM h))
theorem e_newLst {xs : List D} (h : xs.length ≤ 1000000) : newLst xs S = .ok (.ob S.length) (S ++ [.lst xs]) := cif_pos (Nat.le_of_lt (szM h))
theorem e_app {xs : List D} {n : Nat} {d : D} (hn : S[n]? = some (.lst xs)) (h : xs.length < 1000000) : appD (.ob n) [d] S = .ok .non (S.set n (.lst (xs ++ [d]))) := by
  simp only [appD, lstAt_of hn]
  exact cif_pos (szM (by omega))
theorem e_ext {xs ys : List D} {n : Nat} (hn : S[n]? = some (.lst xs)) (h : xs.length + ys.length ≤ 1000000) : extD (.ob n) [.tup ys] S = .ok .non (S.set n (.lst (xs ++ ys))) := by
  simp only [extD, lstAt_of hn]
  exact cif_pos (Nat.le_of_lt (szM h))
@[simp] theorem e_sNext : sNext r S = some (.nx r, S) := rfl
@[simp] theorem e_sBind (m : M α) (k : α → List Cell → RSt) : sBind m r k S = match m S with
  | .ok a S' => k a S'
  | .exc c S' => some (.xc c r, S')
  | .bad => none := rfl
@[simp] theorem e_sSeq (t u : TSt) : sSeq t u r S = match t r S with
  | some (.nx r', S') => u r' S'
  | o => o := rfl
@[simp] theorem e_sRet (f : DSt → M D) : sRet f r = sBind (f r) r fun d S => some (.rt d, S) := rfl
@[simp] theorem e_sDrop (f : DSt → M D) : sDrop f r = sBind (f r) r fun _ S => some (.nx r, S) := rfl
@[simp] theorem e_sIf (c : DSt → M Bool) (t u : TSt) : sIf c t u r = sBind (c r) r fun b S => if b = true then t r S else u r S := rfl
@[simp] theorem e_sAsg (f : DSt → M D) (g : TGd) : sAsg f g r = sBind (f r) r fun d S => match g d r with
  | some r' => some (.nx r', S)
  | none => none := rfl
@[simp] theorem e_sFld (C : Addr) (ns : List Str) (i : Nat) (fo fe : DSt → M D) : sFld C ns i fo fe r = sBind (fe r) r fun d => sBind (fo r) r fun x S1 => match insD C ns x S1 with
  | .ok p S2 => some (.nx r, S2.set p.1 (.ins C ns (p.2.set i d)))
  | _ => none := rfl
@[simp] theorem e_sFldN (C : Addr) (ns : List Str) (f : Str) (fo fe : DSt → M D) : sFldN C ns f fo fe r = sBind (fe r) r fun d => sBind (fo r) r fun x S1 => match insD C ns x S1 with
  | .ok p S2 => some (.nx r, S2.set p.1 (.ins C (ns ++ [f]) (p.2 ++ [d])))
  | _ => none := rfl
@[simp] theorem e_sPut (g : D → D → D → List Cell → Option (List Cell)) (fo fi fe : DSt → M D) : sPut g fo fi fe r = sBind (fe r) r fun d => sBind (fo r) r fun x => sBind (fi r) r fun y S => match g x y d S with
  | some S' => some (.nx r, S')
  | none => none := rfl
@[simp] theorem e_fin_rt (S0 : List Cell) (d : D) : fin S0 (some (.rt d, S)) = .ok d S := rfl
@[simp] theorem e_fin_nx (S0 : List Cell) : fin S0 (some (.nx r, S)) = .ok .non S := rfl
@[simp] theorem e_fin_xc (S0 : List Cell) (c : Addr) : fin S0 (some (.xc c r, S)) = .exc c S := rfl
theorem finP_rt {S0 G : List Cell} {d : D} (h : wfD S0.length d) : finP S0 (some (.rt d, S0 ++ G)) = .ok d S0 := if_pos ⟨⟨G, rfl⟩, h⟩
theorem finP_rt0 {S0 : List Cell} {d : D} (h : wfD S0.length d) : finP S0 (some (.rt d, S0)) = .ok d S0 := if_pos ⟨⟨[], by simp⟩, h⟩
end
def Fr (fp : List Nat) (S S' : List Cell) : Prop := S.length ≤ S'.length ∧ ∀ i, i < S.length → i ∉ fp → S'[i]? = S[i]?
theorem Fr.refl (fp : List Nat) (S : List Cell) : Fr fp S S := ⟨Nat.le_refl _, fun _ _ _ => rfl⟩
theorem Fr.trans {fp fq : List Nat} {S S1 S2 : List Cell} (a : Fr fp S S1) (b : Fr fq S1 S2) (h : ∀ i ∈ fq, i < S.length → i ∈ fp) : Fr fp S S2 :=
  ⟨Nat.le_trans a.1 b.1, fun i hi hn => (b.2 i (Nat.lt_of_lt_of_le hi a.1) fun hq => hn (h i hq hi)).trans (a.2 i hi hn)⟩
theorem Fr.tr {fp : List Nat} {S S1 S2 : List Cell} (a : Fr fp S S1) (b : Fr fp S1 S2) : Fr fp S S2 := a.trans b fun _ h _ => h
theorem Fr.set {fp : List Nat} {S : List Cell} {n : Nat} {c : Cell} (h : n ∈ fp) : Fr fp S (S.set n c) :=
  ⟨by rw [List.length_set]; exact Nat.le_refl _, fun i _ hn => List.getElem?_set_ne fun e : n = i => hn (e ▸ h)⟩
theorem Fr.push {fp : List Nat} {S : List Cell} {c : List Cell} : Fr fp S (S ++ c) :=
  ⟨by rw [List.length_append]; omega, fun i hi _ => List.getElem?_append_left hi⟩
theorem Fr.get {fp : List Nat} {S S' : List Cell} {i : Nat} {c : Cell} (a : Fr fp S S') (h : S[i]? = some c) (hn : i ∉ fp) : S'[i]? = some c :=
  (a.2 i (List.getElem?_eq_some_iff.mp h).1 hn).trans h
theorem Fr.mono {fp fq : List Nat} {S S' : List Cell} (a : Fr fp S S') (h : ∀ i ∈ fp, i < S.length → i ∈ fq) : Fr fq S S' := ⟨a.1, fun i hi hn => a.2 i hi fun z => hn (h i z hi)⟩
theorem cell_lt {S : List Cell} {i : Nat} {c : Cell} (h : S[i]? = some c) : i < S.length := (List.getElem?_eq_some_iff.mp h).1
theorem set_same {S : List Cell} {i : Nat} {c d : Cell} (h : S[i]? = some c) : (S.set i d)[i]? = some d := by
  rw [List.getElem?_set]
  simp [cell_lt h]
theorem push_old {S G : List Cell} {j : Nat} {c : Cell} (h : S[j]? = some c) : (S ++ G)[j]? = some c := by rw [List.getElem?_append_left (cell_lt h)]; exact h
theorem push_new {S : List Cell} {c : Cell} : (S ++ [c])[S.length]? = some c := by simp
section
variable {S S1 S2 : List Cell} {r r1 : DSt} {d x y : D} {n : Nat} {C : Addr} {ns : List Str} {ds : List D}
theorem go_seq {t u : TSt} (h : t r S = some (.nx r1, S1)) : sSeq t u r S = u r1 S1 := by rw [e_sSeq, h]
theorem go_asg {fe : DSt → M D} {i : Nat} (h : fe r S = .ok d S1) : sAsg fe (gN i) r S = some (.nx (r.set i (some d)), S1) := by simp [h]
theorem go_drop {fe : DSt → M D} (h : fe r S = .ok d S1) : sDrop fe r S = some (.nx r, S1) := by simp [h]
theorem go_ret {fe : DSt → M D} (h : fe r S = .ok d S1) : sRet fe r S = some (.rt d, S1) := by simp [h]
theorem go_if {c : DSt → M Bool} {t u : TSt} {b : Bool} (h : c r S = .ok b S1) : sIf c t u r S = if b = true then t r S1 else u r S1 := by simp [h]
theorem go_ifT {c : DSt → M Bool} {t u : TSt} (h : c r S = .ok true S1) : sIf c t u r S = t r S1 := by rw [go_if h, if_pos rfl]
theorem go_ifF {c : DSt → M Bool} {t u : TSt} (h : c r S = .ok false S1) : sIf c t u r S = u r S1 := by rw [go_if h, if_neg (by decide)]
theorem go_put {g : D → D → D → List Cell → Option (List Cell)} {fo fi fe : DSt → M D} {S3 S4 : List Cell} (h1 : fe r S = .ok d S1) (h2 : fo r S1 = .ok x S2) (h3 : fi r S2 = .ok y S3) (h4 : g x y d S3 = some S4) : sPut g fo fi fe r S = some (.nx r, S4) := by
  simp [h1, h2, h3, h4]
theorem ev_call {F : List D → M D} {ft : DSt → M (List D)} {xs : List D} {a : R D} (h4 : ft r S = .ok xs S1) (h5 : F xs S1 = a) : dCall F ft r S = a := by simp [h4, h5]
theorem ev_op {g : D → D → M D} {fa fb : DSt → M D} {a : R D} (h1 : fa r S = .ok x S1) (h2 : fb r S1 = .ok y S2) (h3 : g x y S2 = a) : dOp g fa fb r S = a := by simp [h1, h2, h3]
theorem ev_cons {f : DSt → M D} {g : DSt → M (List D)} {xs : List D} (h1 : f r S = .ok x S1) (h2 : g r S1 = .ok xs S2) : dCons f g r S = .ok (x :: xs) S2 := by simp [h1, h2]
theorem ev_nil : dNil r S = .ok [] S := rfl
theorem ev_test {f : DSt → M D} {b : Bool} (h : f r S = .ok (.bl b) S1) : dTest f r S = .ok b S1 := by simp [h]
theorem ev_bm {g : D → List D → M D} {fo : DSt → M D} {ft : DSt → M (List D)} {xs ys : List D} {a : R D} (h : fo r S = .ok (.ob n) S1) (h3 : S1[n]? = some (.lst ys)) (h4 : ft r S1 = .ok xs S2) (h5 : g (.ob n) xs S2 = a) : dBM g fo ft r S = a := by
  simp [h, lstAt_of h3, h4, h5]
theorem ev_tup {ft : DSt → M (List D)} {xs : List D} (h : ft r S = .ok xs S1) (hl : xs.length ≤ 1000000) : dTup ft r S = .ok (.tup xs) S1 := by simp [h, e_newTup hl]
theorem ev_lst {ft : DSt → M (List D)} {xs : List D} (h : ft r S = .ok xs S1) (hl : xs.length ≤ 1000000) : dLst ft r S = .ok (.ob S1.length) (S1 ++ [.lst xs]) := by simp [h, e_newLst hl]
end
end DL
namespace DL
open PySem PySem.Spec PyProof.Rows L2
section
variable {S S1 S2 : List Cell} {r r1 : DSt} {d x y : D} {n i : Nat} {C : Addr} {ns : List Str} {ds ds' : List D} {fo fe : DSt → M D}
theorem push_at {S : List Cell} {i : Nat} {c : Cell} (h : i = S.length) : (S ++ [c])[i]? = some c := by subst h; exact push_new
structure Ch (n : Nat) (c : Cell) (S S' : List Cell) : Prop where
  at_ : S'[n]? = some c
  fr : Fr [n] S S'
  len : S'.length = S.length
theorem Ch.set {c c' : Cell} (h : S[n]? = some c') : Ch n c S (S.set n c) := ⟨set_same h, Fr.set (by simp), by simp⟩
theorem Ch.fp {fp : List Nat} {c : Cell} (h : Ch n c S S1) (hn : n ∈ fp) : Fr fp S S1 := h.fr.mono fun i hi _ => by
  have : i = n := by simpa using hi
  rw [this]; exact hn
end
theorem cTurns_map {tg : TGd} {ti : DSt → M Bool} {fe : DSt → M D} {r0 : DSt} (kp : D → Bool) (h : D → D) (g : Option (Nat × List D)) (S : List Cell) (hg : gok g S) : ∀ (items ys : List D),
    (∀ x, x ∈ items → ∃ r1, tg x r0 = some r1 ∧ (∀ zs, ti r1 (S ++ [.lst zs]) = .ok (kp x) (S ++ [.lst zs])) ∧ (kp x = true → ∀ zs, fe r1 (S ++ [.lst zs]) = .ok (h x) (S ++ [.lst zs]))) → ys.length + items.length ≤ 1000000 →
    cTurns tg ti fe S.length g r0 items (S ++ [.lst ys]) = .ok () (S ++ [.lst (ys ++ (items.filter kp).map h)])
  | [], ys, _, _ => by simp [cTurns]
  | x :: xs, ys, hx, hl => by
    obtain ⟨r1, h1, h2, h3⟩ := hx x (by simp)
    have hgk : ∀ zs, gok g (S ++ [Cell.lst zs]) := fun zs => by
      cases g with
      | none => trivial
      | some p => exact push_old hg
    unfold cTurns
    rw [h1]
    dsimp only
    rw [h2]
    cases hk : kp x with
    | false =>
      dsimp only
      rw [if_pos (hgk _), cTurns_map kp h g S hg xs ys (fun y hy => hx y (List.mem_cons_of_mem _ hy)) (by simp at hl; omega)]
      rw [List.filter_cons_of_neg (by simp [hk])]
    | true =>
      have hset : (S ++ [Cell.lst ys]).set S.length (.lst (ys ++ [h x])) = S ++ [.lst (ys ++ [h x])] := by
        rw [List.set_append_right _ _ (Nat.le_refl _)]
        simp
      dsimp only
      rw [h3 hk]
      dsimp only
      rw [List.getElem?_append_right (Nat.le_refl _)]
      simp only [Nat.sub_self, List.getElem?_cons_zero]
      rw [hset, cif_pos ⟨szM (by simp at hl; omega), hgk _⟩, cTurns_map kp h g S hg xs (ys ++ [h x]) (fun y hy => hx y (List.mem_cons_of_mem _ hy)) (by simp at hl ⊢; omega)]
      rw [List.filter_cons_of_pos hk, List.map_cons, List.append_assoc]
      rfl
theorem ev_comp {f : DSt → M Wk} {tg : TGd} {ti : DSt → M Bool} {fe : DSt → M D} {own : Nat} {caps : List Nat} {r : DSt} {S S1 : List Cell} {w : Wk} (kp : D → Bool) (h : D → D) (h1 : f r S = .ok w S1) (hg : gok w.guard S1) (hz : w.items.length ≤ 1000000)
    (hx : ∀ x, x ∈ w.items → ∃ r1, tg x (capR own caps r) = some r1 ∧ (∀ zs, ti r1 (S1 ++ [.lst zs]) = .ok (kp x) (S1 ++ [.lst zs])) ∧ (kp x = true → ∀ zs, fe r1 (S1 ++ [.lst zs]) = .ok (h x) (S1 ++ [.lst zs]))) :
    dComp f tg ti fe own caps r S = .ok (.ob S1.length) (S1 ++ [.lst ((w.items.filter kp).map h)]) := by
  unfold dComp
  rw [e_bind, h1]
  dsimp only
  rw [cTurns_map kp h w.guard S1 hg w.items [] hx (by simpa using hz)]
  rfl
theorem wh_F {c : DSt → M Bool} {b : TSt} {k : Nat} {r : DSt} {S S1 : List Cell} (h : c r S = .ok false S1) : sWhile c b (k + 1) r S = some (.nx r, S1) := by
  unfold sWhile
  rw [h]
theorem wh_T {c : DSt → M Bool} {b : TSt} {k : Nat} {r r2 : DSt} {S S1 S2 : List Cell} (h : c r S = .ok true S1) (hb : b r S1 = some (.nx r2, S2)) : sWhile c b (k + 1) r S = sWhile c b k r2 S2 := by
  rw [sWhile]
  dsimp only
  rw [h]
  dsimp only
  rw [hb]
theorem go_for {f : DSt → M Wk} {tg : TGd} {b : TSt} {r : DSt} {S S1 : List Cell} {w : Wk} (h : f r S = .ok w S1) : sFor f tg b r S = sTurns w.guard tg b w.items r S1 := by
  unfold sFor
  rw [e_sBind, h]
theorem wRng_eq {S : List Cell} {n : Nat} (h : n ≤ 1000000) : wRng1 (.int (n : Int)) S = .ok ⟨rngD 0 1 n, none⟩ S := wRng_small h
end DL
namespace DL
open PySem PySem.Spec PyProof.Rows L2
section
variable {S : List Cell} {x y : D} {p : PyData}
theorem pD_ob {n l : Nat} {xs : List D} (h : S[l]? = some (.lst xs)) : pD S (n + 1) (.ob l) = (pDs S n xs).map .list := by simp only [pD, h]
end
end DL
namespace DL
open PySem PySem.Spec PyProof.Rows L2
section
variable {X : Cx}
end
end DL
namespace DL
open PySem PySem.Spec PyProof.Rows L2
section
variable {prog : Program} {w : World} {A : Around} {E : Value → Shared → Prop} {s : Shared}
end
section
variable {M : Model} {A : Around} {E : Value → Shared → Prop} {s : Shared} {env : Env}
end
section
variable {X : Cx} {e : Expr} {fe : DSt → M D} {pos : Pos} {elts : List Expr} {k1 : Nat} {tpos : Pos}
theorem pd_globE {x : Str} {d : D} {pos : Pos} (hg : Gl X x) (h : ∃ u, X.mg x = some u ∧ KRep X.K d u) (hd : (x == ("__debug__" : Str)) = false := by decide) : PEd X (.Name x pos) (dC d) := by
  obtain ⟨u, h1, h2⟩ := h
  exact pd_glob hg h1 h2 hd
def KStrs (K : PySem.W.Frag) (mg : Str → Option Value) (x : Str) (ss : List Str) : Prop := ∃ u, mg x = some u ∧ KTup K u (ss.map V.str)
theorem repVs_strs {K : PySem.W.Frag} (ss : List Str) (H : Hp) (J : List Addr) : RepVs K H J (ss.map D.str) (ss.map V.str) := by
  induction ss with
  | nil => exact .nil
  | cons a r ih => exact .cons (by unfold RepV; rfl) ih
theorem KStrs.glob {K : PySem.W.Frag} {mg : Str → Option Value} {x : Str} {ss : List Str} (h : KStrs K mg x ss) : ∃ u, mg x = some u ∧ KRep K (.tup (ss.map D.str)) u := by
  obtain ⟨u, h1, h2⟩ := h
  exact ⟨u, h1, h2.rep (repVs_strs ss)⟩
theorem krep_int {K : PySem.W.Frag} {i : Int} {t : Tok} : KRep K (.int i) (.int i t) := fun H J => ⟨.int i, ⟨_, rfl⟩, RepV.int _ _ _ _⟩
end
end DL
namespace DL
open PySem PySem.Spec PyProof.Rows L2
section
variable {X : Cx} {body : List Stmt} {h0 : ExceptHandler} {hs : List ExceptHandler} {t : TSt} {pos : Pos}
end
end DL
namespace DL
open PySem PySem.Spec PyProof.Rows L2
def KeptBut (l : List Env) (ex : List Addr) (h h' : Heap) : Prop :=
  (∀ b o, h.get? b = some o → b ∉ ex → b ∉ l.filterMap (·.frame) → h'.get? b = some o) ∧ (∀ b o, h.get? b = some o → b ∉ ex → ∃ sl, h'.get? b = some { o with slots := sl })
section
variable {M : Model} {A : Around} {E : Value → Shared → Prop} {s : Shared}
theorem newEntryS {base : Heap} {env : Env} {outer : List Env} {L e : Addr} {oe : Obj} {vs : Array Value} {head a0 : Value} {hadNext : Bool} {Q : Unit → Shared → Prop}
    (hfr : A.frames = some (env :: outer)) (hl : s.heap.FunFrames base (env :: outer)) (hf : env.frame = some L)
    (he : s.heap.get? e = some oe) (hkb : base.StaysIn s.heap) (hen : base.get? e = none) (hd : oe.data = .fields vs) (hsz : 1 < vs.size) (h0 : vs[0]? = some a0)
    (h : ∀ h', Heap.LeftW base (env :: outer) e oe.cls a0 s.heap h' → KeptBut (env :: outer) [e] s.heap h' → (∃ oe' vs' T, h'.get? e = some oe' ∧ oe'.data = .fields vs' ∧ vs'[1]? = some (.ref T) ∧ s.heap.objs.size ≤ T) → Q () { s with heap := h' }) :
    wpAny M A (do let a ← frameOf env; let pl ← entryPlaceOf L hadNext; let b ← EntryCells.newEntry head a .none (rawInt L) .none pl; setField (.ref e) 1 b) (fun _ s' => wpAny M A (setFlight (.ref e) none) Q E s') E s := by
  have hene : e ∉ (env :: outer).filterMap (·.frame) := fun hm => by
    obtain ⟨_, o, ho, hnf⟩ := hl.mem hm
    rw [he] at ho
    injection ho with ho
    subst ho
    exact hnf vs hd
  refine wpAny_bind (wpAny_frameOf_fun hfr hl hf fun h1 q => ?_)
  refine wpAny_bind (wpAny_entryPlaceOf fun pl hpl => ?_)
  unfold EntryCells.newEntry newFields
  refine wpAny_bind (wpAny_newObj_type ?_ (hpl.sizeOk5 _ _ _ _ _))
  obtain ⟨tb, htb⟩ : ∃ tb : Obj, tb = { cls := .type "traceback", dict := none, data := .fields ([head, .ref L, .none, rawInt L, .none] ++ (if pl.isEmpty then List.replicate 6 Value.none else pl)).toArray } := ⟨_, rfl⟩
  rw [← htb]
  have he1 : h1.get? e = some oe := (q.2.1 e hene).trans he
  have kb1 : base.StaysIn h1 := fun b o hbo => (q.2.1 b fun hm => by rw [(hl.mem hm).1] at hbo; cases hbo).trans (hkb b o hbo)
  have he2 := Heap.get?_push_of_some (h := h1) tb he1
  refine wpAny_setField he2 hd hsz ?_
  obtain ⟨T, hT⟩ : ∃ T, T = h1.objs.size := ⟨_, rfl⟩
  have hTe : T ≠ e := by rw [hT]; exact Nat.ne_of_gt (Heap.lt_size he1)
  have hsl : s.heap.objs.size ≤ T := by rw [hT, q.1]; exact Nat.le_refl _
  obtain ⟨h2, hh2⟩ : ∃ h2, h2 = (h1.push tb).update e (Obj.mapFields (·.setIfInBounds 1 (Value.ref T))) := ⟨_, rfl⟩
  have hd3 := Obj.data_mapFields hd (·.setIfInBounds 1 (Value.ref T))
  have he3 : h2.get? e = some (Obj.mapFields (·.setIfInBounds 1 (Value.ref T)) oe) := by rw [hh2]; exact Heap.get?_update_self _ he2 (Obj.isFreed_of_fields hd3)
  have hT3 : h2.get? T = some tb := by rw [hh2, Heap.get?_update_other _ _ (Ne.symm hTe), hT]; exact Heap.get?_push_size h1 (by rw [htb]; rfl)
  have hdT : tb.data = .fields ([head, .ref L, .none, rawInt L, .none] ++ (if pl.isEmpty then List.replicate 6 Value.none else pl)).toArray := by rw [htb]
  have goal : wpAny M A (setFlight (.ref e) none) Q E { s with heap := h2 } := by
    unfold setFlight
    refine wpAny_bind (wpAny_field he3 hd3 (x := .ref T) (by simp [hsz]) ?_)
    rw [if_pos (show (Value.ref T != Value.none) = true from by simp)]
    refine wpAny_setField hT3 hdT (by simp only [List.size_toArray, List.length_append, List.length_cons, List.length_nil] <;> omega) ?_
    obtain ⟨h3, hh3⟩ : ∃ h3, h3 = h2.update T (Obj.mapFields (·.setIfInBounds 3 ((none : Option Addr).elim Value.none fun f => rawInt f))) := ⟨_, rfl⟩
    have keep : ∀ b o, b ≠ e → h1.get? b = some o → h3.get? b = some o := fun b o hbe hb => by
      have hbT : T ≠ b := by rw [hT]; exact Nat.ne_of_gt (Heap.lt_size hb)
      rw [hh3, hh2, Heap.get?_update_other _ _ hbT, Heap.get?_update_other _ _ (Ne.symm hbe)]
      exact Heap.get?_push_of_some _ hb
    have he4 : h3.get? e = some (Obj.mapFields (·.setIfInBounds 1 (Value.ref T)) oe) := by rw [hh3, Heap.get?_update_other _ _ hTe]; exact he3
    have noRecord : ∀ b o, s.heap.get? b = some o → (∀ vs, o.data ≠ .fields vs) → b ≠ e := fun b o hb hnf z => by
      rw [z, he] at hb
      injection hb with hb
      subst hb
      exact hnf vs hd
    have hT4 : h3.get? T = some (Obj.mapFields (·.setIfInBounds 3 ((none : Option Addr).elim Value.none fun f => rawInt f)) tb) := by rw [hh3]; exact Heap.get?_update_self _ hT3 (Obj.isFreed_of_fields (Obj.data_mapFields hdT _))
    have hdT4 := Obj.data_mapFields hdT (·.setIfInBounds 3 ((none : Option Addr).elim Value.none fun f => rawInt f))
    have hq : Q () { s with heap := h3 } := by
      refine h h3 ⟨fun b o hbo => keep b o (fun z => by rw [z, hen] at hbo; cases hbo) (kb1 b o hbo), hl.of_keeps fun b o hb hnf => ?_, ?_, fun b o hb hnf => ?_⟩ ⟨fun b o hb hbe hbf => ?_, fun b o hb hbe => ?_⟩ ⟨_, _, T, he4, hd3, by simp [hsz], hsl⟩
      · obtain ⟨sl, hs⟩ := q.2.2 b o hb
        exact ⟨_, keep b _ (noRecord b o hb hnf) hs, rfl⟩
      · refine ⟨_, _, T, _, _, he4, ⟨Obj.cls_mapFields _ _, by rw [Array.getElem?_setIfInBounds_ne (by decide)]; exact h0⟩, hd3, by simp [hsz], ?_, hTe, hT4, hdT4, ?_⟩
        · rw [hT]; exact kb1.fresh
        · first | (simp; done) | (rcases hpl with rfl | ⟨_, _, _, _, _, _, _, rfl⟩ <;> simp)
      · obtain ⟨sl, hs⟩ := q.2.2 b o hb
        exact ⟨sl, keep b _ (noRecord b o hb hnf) hs⟩
      · exact keep b o (by simpa using hbe) ((q.2.1 b hbf).trans hb)
      · obtain ⟨sl, hs⟩ := q.2.2 b o hb
        exact ⟨sl, keep b _ (by simpa using hbe) hs⟩
    rw [hh3] at hq
    exact hq
  rw [hh2, hT] at goal
  exact goal
def TraceAt (h : Heap) (e T : Addr) : Prop := ∃ oe vs, h.get? e = some oe ∧ oe.data = .fields vs ∧ vs[1]? = some (.ref T)
theorem land_nextS {base : Heap} {env : Env} {outer : List Env} {L e T : Addr} {cls a0 : Value} {Q : Unit → Shared → Prop}
    (hfr : A.frames = some (env :: outer)) (hl : s.heap.FunFrames base (env :: outer)) (hf : env.frame = some L) (ht : s.heap.TracedW base e cls a0) (hTr : TraceAt s.heap e T) (hkb : base.StaysIn s.heap) (hen : base.get? e = none)
    (h : ∀ h' T', Heap.LeftW base (env :: outer) e cls a0 s.heap h' → KeptBut (env :: outer) [e, T] s.heap h' → TraceAt h' e T' → s.heap.objs.size ≤ T' → (∃ oT, h'.get? T = some oT) → Q () { s with heap := h' }) : wpAny M A (noteFrame (.ref e) env) (fun _ s2 => wpAny M A (setFlight (.ref e) none) Q E s2) E s := by
  obtain ⟨oe, vs, T0, oT, ts, he, ⟨hcls, h0⟩, hd, h1, hnT, hTe, hT, hdT, h3⟩ := ht
  obtain ⟨oe', vs', b1, b2, b3⟩ := hTr
  rw [he] at b1
  cases b1
  rw [hd] at b2
  cases b2
  rw [h1] at b3
  cases b3
  subst hcls
  unfold noteFrame
  simp only [hf]
  refine wpAny_bind (wpAny_field he hd h1 ?_)
  rw [if_pos (show (Value.ref T != Value.none) = true from by simp)]
  refine wpAny_bind (wpAny_field hT hdT h3 ?_)
  rw [if_neg (show ¬ ((Value.none == rawInt L) = true) from by simp [rawInt])]
  refine wpAny_bind (wpAny_setField hT hdT (Array.getElem?_eq_some_iff.mp h3).1 ?_)
  have other : ∀ b, b ≠ T → (s.heap.update T (Obj.mapFields (·.setIfInBounds 3 Value.none))).get? b = s.heap.get? b := fun b hb => Heap.get?_update_other _ _ (Ne.symm hb)
  have noRec : ∀ b o, s.heap.get? b = some o → (∀ vs, o.data ≠ .fields vs) → b ≠ T := fun b o hb hnf z => by
    rw [z, hT] at hb
    injection hb with hb
    subst hb
    exact hnf ts hdT
  refine newEntryS hfr (hl.of_keeps fun b o hb hnf => ⟨o, (other b (noRec b o hb hnf)).trans hb, rfl⟩) hf ((other e (Ne.symm hTe)).trans he)
    (fun b o hbo => (other b fun z => by rw [z, hnT] at hbo; cases hbo).trans (hkb b o hbo)) hen hd (Array.getElem?_eq_some_iff.mp h1).1 h0
    fun h' ⟨x1, x2, x3, x4⟩ ⟨y1, y2⟩ ⟨oe', vs', T', c1, c2, c3, c4⟩ => h h' T' ⟨x1, x2, x3, fun b o hb hnf => x4 b o ((other b (noRec b o hb hnf)).trans hb) hnf⟩ ⟨fun b o hb hbe hbf => ?_, fun b o hb hbe => ?_⟩ ⟨oe', vs', c1, c2, c3⟩ ?_ ?_
  · simp only [List.mem_cons, List.not_mem_nil, or_false, not_or] at hbe
    exact y1 b o ((other b hbe.2).trans hb) (by simpa using hbe.1) hbf
  · simp only [List.mem_cons, List.not_mem_nil, or_false, not_or] at hbe
    exact y2 b o ((other b hbe.2).trans hb) (by simpa using hbe.1)
  · have hsz : (s.heap.update T (Obj.mapFields (·.setIfInBounds 3 Value.none))).objs.size = s.heap.objs.size := Heap.size_update ..
    rw [← hsz]
    exact c4
  · have hT2 : (s.heap.update T (Obj.mapFields (·.setIfInBounds 3 Value.none))).get? T = some (Obj.mapFields (·.setIfInBounds 3 Value.none) oT) := Heap.get?_update_self _ hT (Obj.isFreed_of_fields (Obj.data_mapFields hdT _))
    obtain ⟨sl, q⟩ := y2 T _ hT2 (by simpa using hTe)
    exact ⟨_, q⟩
end
end DL
namespace DL
open PySem PySem.Spec PyProof.Rows L2
section
variable {P : Program} {w : World} {H H' : Hp} {h h' : Heap} {a : Addr} {o : HO}
theorem objOk_there (x : ObjOk P w H h a o) : ∃ u, h.get? a = some u := by
  cases o with
  | lst xs => obtain ⟨_, _, _, _, e⟩ := x; exact ⟨_, e⟩
  | tup xs => obtain ⟨_, _, _, _, e, _⟩ := x; exact ⟨_, e⟩
  | dK kvs => obtain ⟨_, _, _, _, o, _, _, e, _⟩ := x; exact ⟨_, e⟩
  | dT kvs => obtain ⟨_, _, _, _, o, _, _, e, _⟩ := x; exact ⟨_, e⟩
  | set S n => obtain ⟨o, _, _, _, e, _⟩ := x; exact ⟨_, e⟩
  | ins C dx fs => obtain ⟨_, _, _, e, _⟩ := x; exact ⟨_, e⟩
  | own y => obtain ⟨_, e⟩ := x; exact ⟨_, e⟩
  | xd fs => obtain ⟨_, ⟨_, _, _, e, _⟩, _⟩ := x; exact ⟨_, e⟩
  | rng lo hi => obtain ⟨_, _, _, e⟩ := x; exact ⟨_, e⟩
  | frz ob u => obtain ⟨e, _⟩ := x; exact ⟨_, e⟩
  | tbl ps => exact ⟨_, (show h.get? a = some _ from x)⟩
  | met f y => exact ⟨_, (show h.get? a = some _ from x)⟩
  | ext φ => obtain ⟨_, ⟨_, e⟩, _⟩ := x; exact ⟨_, e⟩
theorem hok_none (x : HOk P w H h) (hp : h.get? a = none) : H a = none := by
  cases q : H a with
  | none => rfl
  | some u => obtain ⟨v, e⟩ := objOk_there (x a u q); rw [hp] at e; cases e
theorem hok_laidX (x : HOk P w H h) (k : ∀ b u, h.get? b = some u → h'.get? b = some u) (hp : h.get? a = none) (new : ObjOk P w (upd H a o) h' a o) : HOk P w (upd H a o) h' := fun b u e => by
  have hn := hok_none x hp
  by_cases hb : b = a
  · subst hb; rw [upd_same] at e; cases e; exact new
  · rw [upd_ne hb] at e
    exact (x b u e).stay (fun c v _ q => k c v q) (fun c q => by rw [upd_ne (ne_of_none q hn)]; exact q) fun c xs q => by rw [upd_ne (ne_of_none q hn)]; exact q
theorem un_laidX {fs ex : List Addr} (k : ∀ b u, h.get? b = some u → h'.get? b = some u) (hp : h.get? a = none) (hn : H a = none) : Un fs ex H (upd H a o) h h' where
  keep := fun b u q _ _ _ => k b u q
  slot := fun b u q _ _ _ => ⟨u.slots, k b u q⟩
  free := fun b u q n _ => by rw [upd_ne (fun z => by rw [z, hp] at q; cases q)]; exact n
  there := fun b u q _ => ⟨u, k b u q⟩
  tups := fun b xs q => by rw [upd_ne (ne_of_none q hn)]; exact q
  frzs := fun b u xs q => by rw [upd_ne (ne_of_none q hn)]; exact q
  tbls := fun b ps q => ⟨#[], by rw [upd_ne (ne_of_none q hn), q]; simp⟩
theorem objOk_XO {c : Addr} (e : ∃ o, h.get? a = some o ∧ o.cls = .ref c) : ObjOk P w H h a (XO a c) := by
  obtain ⟨o, e1, e2⟩ := e
  exact ⟨⟨o, e1, e2⟩, ⟨o, e1⟩, fun h1 h2 ⟨u, q1, q2⟩ k => ⟨u, k u q1, q2⟩⟩
theorem objOk_TO (e : ∃ o, h.get? a = some o) : ObjOk P w H h a (TO a) := by
  obtain ⟨o, e1⟩ := e
  exact ⟨⟨o, e1⟩, ⟨o, e1⟩, fun h1 h2 ⟨u, q1⟩ k => ⟨u, k u q1⟩⟩
theorem noted_un {l : List Env} {ex : List Addr} {T : Addr} (x : HOk P w H h) (kb : KeptBut l ex h h') (hf : ∀ b ∈ frs l, H b = none)
    (hx : ∀ b ∈ ex, (∃ c, H b = some (XO b c) ∧ ∃ o, h'.get? b = some o ∧ o.cls = .ref c) ∨ (H b = some (TO b) ∧ ∃ o, h'.get? b = some o)) (hT : h.objs.size ≤ T) (hT' : ∃ o, h'.get? T = some o) :
    Un (frs l) [] H (upd H T (TO T)) h h' ∧ HOk P w (upd H T (TO T)) h' := by
  have hn : H T = none := x.fresh hT
  have nex : ∀ b, H b = none → b ∉ ex := fun b n z => by
    rcases hx b z with ⟨c, q, _⟩ | ⟨q, _⟩ <;> (rw [n] at q; cases q)
  refine ⟨⟨fun b u q n hb _ => kb.1 b u q (nex b n) hb, fun b u q n _ _ => kb.2 b u q (nex b n), fun b u q n _ => ?_, fun b u q _ => ?_, fun b xs q => by rw [upd_ne (ne_of_none q hn)]; exact q, fun b u xs q => by rw [upd_ne (ne_of_none q hn)]; exact q, fun b ps q => ⟨#[], by rw [upd_ne (ne_of_none q hn), q]; simp⟩⟩, fun b u e => ?_⟩
  · rw [upd_ne (Nat.ne_of_lt (Nat.lt_of_lt_of_le (Heap.lt_size q) hT))]; exact n
  · by_cases z : b ∈ ex
    · rcases hx b z with ⟨c, _, o, e1, _⟩ | ⟨_, o, e1⟩ <;> exact ⟨o, e1⟩
    · obtain ⟨sl, e1⟩ := kb.2 b u q z
      exact ⟨_, e1⟩
  · by_cases hb : b = T
    · subst hb; rw [upd_same] at e; cases e; exact objOk_TO hT'
    · rw [upd_ne hb] at e
      by_cases z : b ∈ ex
      · rcases hx b z with ⟨c, q, y⟩ | ⟨q, y⟩
        · rw [q] at e; cases e; exact objOk_XO y
        · rw [q] at e; cases e; exact objOk_TO y
      · refine (x b u e).stay (fun c v hc q => kb.1 c v q ?_ ?_) (fun c q => by rw [upd_ne (ne_of_none q hn)]; exact q) fun c xs q => by rw [upd_ne (ne_of_none q hn)]; exact q
        · rcases hc with rfl | hc
          · exact z
          · intro zc
            rcases hx c zc with ⟨_, q', _⟩ | ⟨q', _⟩ <;> (rw [hc] at q'; cases q')
        · intro zf
          have := hf c zf
          rcases hc with rfl | hc
          · rw [e] at this; cases this
          · rw [hc] at this; cases this
theorem un_narrow {L : Addr} {fs ex : List Addr} (u : Un (L :: fs) ex H H' h h') (hL : h.objs.size ≤ L) : Un fs ex H H' h h' where
  keep := fun b o q n hb hx => u.keep b o q n (fun z => (List.mem_cons.mp z).elim (fun e => absurd (Heap.lt_size q) (by rw [e]; exact Nat.not_lt.mpr hL)) hb) hx
  slot := fun b o q n hb hx => u.slot b o q n (List.mem_cons_of_mem _ hb) hx
  free := u.free
  there := u.there
  tups := u.tups
  frzs := u.frzs
  tbls := u.tbls
end
theorem Tr.of {base h : Heap} {a c T : Addr} {a0 : Value} (t : h.TracedW base a (.ref c) a0) (ta : TraceAt h a T) : Tr h a c T := by
  obtain ⟨oe, vs, T0, oT, ts, he, ⟨hcls, h0⟩, hd, h1, hnT, hTe, hT, hdT, h3⟩ := t
  obtain ⟨oe', vs', b1, b2, b3⟩ := ta
  rw [he] at b1; cases b1
  rw [hd] at b2; cases b2
  rw [h1] at b3; cases b3
  exact ⟨oe, vs, oT, ts, a0, he, hcls, hd, h0, h1, hTe, hT, hdT, h3⟩
theorem Tr.to {base h : Heap} {a c T : Addr} (t : Tr h a c T) (hb : base.get? T = none) : ∃ a0, h.TracedW base a (.ref c) a0 ∧ TraceAt h a T := by
  obtain ⟨oe, vs, oT, ts, a0, he, hcls, hd, h0, h1, hTe, hT, hdT, h3⟩ := t
  exact ⟨a0, ⟨oe, vs, T, oT, ts, he, ⟨hcls, h0⟩, hd, h1, hb, hTe, hT, hdT, h3⟩, oe, vs, he, hd, h1⟩
theorem Tr.cls {h : Heap} {a c T : Addr} (t : Tr h a c T) : ∃ o, h.get? a = some o ∧ o.cls = .ref c := by
  obtain ⟨oe, vs, oT, ts, a0, he, hcls, _⟩ := t
  exact ⟨oe, he, hcls⟩
theorem Tr.end {h : Heap} {a c T : Addr} (t : Tr h a c T) : ∃ o, h.get? T = some o := by
  obtain ⟨oe, vs, oT, ts, a0, he, hcls, hd, h0, h1, hTe, hT, _⟩ := t
  exact ⟨oT, hT⟩
def CXE (P : Program) (w : World) : CXT := fun outer H s E e s' => ∃ a c T H', e = .ref a ∧ s'.os = s.os ∧ AllBare s'.gens ∧ Un (frs outer) [] H H' s.heap s'.heap ∧ HOk P w H' s'.heap ∧ H' a = some (XO a c) ∧ H' T = some (TO T) ∧ Tr s'.heap a c T ∧ E (.ref c) none H'
theorem cxe_none {P : Program} {w : World} {H : Hp} {s : Shared} {e : Value} {s' : Shared} : CXE P w [] H s (fun _ _ _ => False) e s' → False := fun ⟨_, _, _, _, _, _, _, _, _, _, _, _, z⟩ => z
theorem inv_baseNone {X : Cx} {pins : Pins} {σ : L2.St} {H : Hp} {s : Shared} {a : Addr} {o : HO} (I : Inv X pins σ H s) (e : H a = some o) : X.base.get? a = none := by
  cases q : X.base.get? a with
  | none => rfl
  | some u => have := (I.bs a u q).2; rw [e] at this; cases this
theorem note_of {X : Cx} {pins : Pins} {σ : L2.St} {H : Hp} {s : Shared} {a c : Addr} {Q : Unit → Shared → Prop} {E : Value → Shared → Prop} (hst : X.stack = X.env :: X.outer ∧ X.env.frame = some X.env.locals) (I : Inv X pins σ H s) (hX : H a = some (XO a c)) (hc : New1 s.heap a c ∨ ∃ T, H T = some (TO T) ∧ Tr s.heap a c T)
    (hq : ∀ h' T', H T' = none → Un (frs X.stack) [] H (upd H T' (TO T')) s.heap h' → HOk X.prog X.w (upd H T' (TO T')) h' → Tr h' a c T' → Q () { s with heap := h' }) :
    wpAny (model X.prog X.w) X.A (noteFrame (.ref a) X.env) (fun _ s2 => wpAny (model X.prog X.w) X.A (setFlight (.ref a) none) Q E s2) E s := by
  have hfr : X.A.frames = some (X.env :: X.outer) := by rw [I.ok.frames, hst.1]
  have hl : s.heap.FunFrames X.base (X.env :: X.outer) := by rw [← hst.1]; exact I.stack
  have hff : ∀ b ∈ frs (X.env :: X.outer), H b = none := by rw [← hst.1]; exact I.stkFree
  have hkb : X.base.StaysIn s.heap := I.bk
  rcases hc with ⟨oe, vs, a0, he, hcl, hd, h0, h1⟩ | ⟨T, hTO, tr⟩
  · unfold noteFrame
    simp only [hst.2]
    refine wpAny_bind (wpAny_field he hd h1 ?_)
    rw [if_neg (by decide)]
    refine newEntryS hfr hl hst.2 he hkb (inv_baseNone I hX) hd (Array.getElem?_eq_some_iff.mp h1).1 h0 fun h' lw kb ⟨oe', vs', T', c1, c2, c3, c4⟩ => ?_
    rw [hcl] at lw
    have tr := Tr.of lw.2.2.1 ⟨oe', vs', c1, c2, c3⟩
    obtain ⟨u1, u2⟩ := noted_un I.hok kb hff (fun b hb => .inl ⟨c, by simp at hb; subst hb; exact ⟨hX, tr.cls⟩⟩) c4 tr.end
    rw [← hst.1] at u1
    exact hq h' T' (I.hok.fresh c4) u1 u2 tr
  · obtain ⟨a0, tw, ta⟩ := tr.to (inv_baseNone I hTO)
    refine land_nextS hfr hl hst.2 tw ta hkb (inv_baseNone I hX) fun h' T' lw kb ta' hs hTt => ?_
    have tr' := Tr.of lw.2.2.1 ta'
    obtain ⟨u1, u2⟩ := noted_un I.hok kb hff (fun b hb => by
      simp only [List.mem_cons, List.not_mem_nil, or_false] at hb
      rcases hb with rfl | rfl
      · exact .inl ⟨c, hX, tr'.cls⟩
      · exact .inr ⟨hTO, hTt⟩) hs tr'.end
    rw [← hst.1] at u1
    exact hq h' T' (I.hok.fresh hs) u1 u2 tr'
theorem leavesE {P : Program} {w : World} {K : PySem.W.Frag} {mg : Str → Option Value} {base : Heap} {N : List Str} {qual : Str} {scope : Scope} {f : Addr} {cdv : Value} {A : Around} {outer : List Env} {s : Shared} {H : Hp} {E : XK} :
    Leaves (CXE P w) (cxOf (CXE P w) P w K mg base N qual scope f cdv A outer s H E) E := by
  intro σ H' s' e c XI hE
  obtain ⟨I, a, rfl, hX, hc⟩ := XI
  show wpAny (model P w) (A.deeper (envOfC qual scope s.heap.objs.size f cdv)) (leaving (envOfC qual scope s.heap.objs.size f cdv) (.ref a)) (fun _ s'' => CXE P w outer H s E (.ref a) s'') (fun e' s'' => CXE P w outer H s E e' s'') s'
  unfold leaving
  refine wpAny_bind (note_of (X := cxOf (CXE P w) P w K mg base N qual scope f cdv A outer s H E) (Q := fun _ s'' => CXE P w outer H s E (.ref a) s'') ⟨rfl, rfl⟩ I hX hc fun h' T' hn un hok tr => ?_)
  have hne : a ≠ T' := ne_of_none hX hn
  refine ⟨a, c, T', _, rfl, I.os, I.bare, un_narrow (L := s.heap.objs.size) (Un.trans (I.base.mono (fun b hb => List.mem_cons_of_mem _ hb) fun b hb => hb) un) (Nat.le_refl _), hok, by rw [upd_ne hne]; exact hX, upd_same, tr, hE T' _ hn⟩
theorem passE {X : Cx} : PassD (CXE X.prog X.w) X := by
  intro E0 pins σ H s e s' I h
  obtain ⟨a, c, T, H', rfl, os, bare, un, hok, hX, hT, tr, hE⟩ := h
  obtain ⟨hh, g, d, t, os'⟩ := s'
  obtain rfl : os' = s.os := os
  exact ⟨c, H', ⟨I.call (h' := hh) (g' := g) (d' := d) (t' := t) (ch := []) un hok bare (fun b z => absurd z (by simp)), a, rfl, hX, .inr ⟨T, hT, tr⟩⟩, hE⟩
structure ExcK (K : PySem.W.Frag) (mg : Str → Option Value) (x : Str) (C : Addr) : Prop where
  nm : mg x = some (.ref C)
  cls : PySem.W.excIn K C [.type "ValueError", .type "Exception", .type "BaseException", .type "object"] "ValueError.__new__" = true
theorem exc_of_in {K : PySem.W.Frag} {h : Heap} {C : Addr} {bmB : List Value} {newId : String} (X : K.In h) (q : PySem.W.excIn K C bmB newId = true) :
    ∃ bm N nm q bs hdct sn sub ab col dd k0 k1 k2 k3 k5 mN, h.get? C = some (excClassObj nm q C N bs bm hdct sn sub ab col dd k0 k1 k2 k3 k5 newId) ∧ h.Ns N mN ∧ mN "__init__" = none ∧ OwnTail h bmB bm := by
  unfold PySem.W.excIn at q
  split at q
  · rename_i dd cd sl ho
    split at q
    · rename_i C' bm k0 k1 k2 k3 n k5 hm hs
      simp only [Bool.and_eq_true, beq_iff_eq, Bool.not_eq_true'] at q
      obtain ⟨⟨⟨⟨⟨rfl, rfl⟩, hdel⟩, ht⟩, hok⟩, hni⟩ := q
      obtain ⟨nm, bs, mro, ns, qn, hd, sn, sub, ab, col, del⟩ := cd
      dsimp only at hm hdel hok hni
      subst hm hdel
      have hsl : sl = #[k0, k1, k2, k3, some (.builtin n), k5] := by
        obtain ⟨l⟩ := sl
        simp only at hs
        rw [hs]
      subst hsl
      exact ⟨bm, ns, nm, qn, bs, hd, sn, sub, ab, col, dd, k0, k1, k2, k3, k5, _, X _ _ ho, .of_isNs (PySem.W.isNs_of_in X hok), PySem.W.nsMap_none_of_in X hok hni, PySem.W.tail_of_in X ht⟩
    · cases q
  · cases q
def sRaise (C : Addr) (fe : DSt → M D) : TSt := fun r => sBind (fe r) r fun _ S => some (.xc C r, S)
theorem sd_raise {X : Cx} {x : Str} {C : Addr} {np cpos pos : Pos} {e : Expr} {fe : DSt → M D} (hx : ExcK X.K X.mg x C) (hg : Gl X x) (hc : X.calm = true) (he : PEd X e fe)
    (hdb : (x == ("__debug__" : Str)) = false := by decide) (hs : starEach [e] X.env = (false, eval e X.env) :: starEach [] X.env := by rfl) :
    PSd X (.Raise (some (.Call (.Name x np) [e] [] cpos)) none pos) (sRaise C fe) := by
  intro pins s σ H J r S Q E I m
  obtain ⟨tl, N, nm, q, bs, hdct, sn, sub, ab, col, dd, k0, k1, k2, k3, k5, mN, hC, hN, hni, T⟩ := exc_of_in I.inv.mod.kin hx.cls
  refine wpAny_Raise_call_subT (C := C) (nm := nm) (q := q) (N := N) (bs := bs) (bm := tl) (hdct := hdct) (sn := sn) (sub := sub) (ab := ab) (col := col) (dd := dd) (k0 := k0) (k1 := k1) (k2 := k2) (k3 := k3) (k5 := k5)
    PySem.F.excBase_ValueError (mN := mN) (T.hasType PySem.F.excBase_ValueError.hasBase) (I.inv.ok.hd hc) (by rw [hs]; rfl) hni (ld_glob I.inv hg hx.nm ⟨rfl, ?_⟩ hdb)
  rw [hs]
  refine Calls.evalArgs_plain (Calls.spliced_cons (goS he I m fun d S1 v s1 vx H1 J1 I1 rv r1 m1 => Calls.spliced_nil ⟨rfl, (by decide : (1 : Nat) ≤ sizeLine), I1.inv.bk _ _ hC, hN.keeps I1.inv.bk, T.keeps I1.inv.bk, fun h' e' hm => ?_⟩))
  obtain ⟨t0, he1, _, _⟩ := hm.there
  have hn : H1 e' = none := hok_none I1.inv.hok hm.new
  have I2 : Inv X pins σ (upd H1 e' (XO e' C)) { s1 with heap := h' } := I1.inv.un (h' := h') (t' := s1.toks) (un_laidX hm.keeps hm.new hn) (hok_laidX I1.inv.hok hm.keeps hm.new (objOk_XO ⟨_, he1, rfl⟩))
  exact m1 (.ref e') _ σ (upd H1 e' (XO e' C)) J1 ⟨I2, e', rfl, upd_same, .inl ⟨_, _, _, he1, rfl, rfl, rfl, rfl⟩⟩ (I1.loc.ext (Ext.new hn)) (I1.st.new hn) (Ext.new hn)
end DL
namespace DL
open PySem PySem.Spec PyProof.Rows L2
section
variable {P : Program} {w : World} {H H' : Hp} {h h' : Heap} {a : Addr} {o : HO}
theorem again_un {T : Addr} (x : HOk P w H h) (hT : H T = some (TO T)) (k : ∀ b, b ≠ T → h'.get? b = h.get? b) (hT' : ∃ o, h'.get? T = some o) (fs : List Addr) :
    Un fs [] H H h h' ∧ HOk P w H h' := by
  have ne : ∀ b, H b = none → b ≠ T := fun b n z => by rw [z, hT] at n; cases n
  refine ⟨⟨fun b u q n _ _ => (k b (ne b n)).trans q, fun b u q n _ _ => ⟨u.slots, (k b (ne b n)).trans q⟩, fun _ _ _ n _ => n, fun b u q _ => ?_, fun _ _ q => q, fun _ _ _ q => q, fun b ps q => ⟨#[], by rw [q]; simp⟩⟩, fun b u e => ?_⟩
  · by_cases z : b = T
    · subst z; exact hT'
    · exact ⟨u, (k b z).trans q⟩
  · by_cases z : b = T
    · subst z; rw [hT] at e; cases e; exact objOk_TO hT'
    · refine (x b u e).stay (fun c v hc q => (k c ?_).trans q) (fun _ q => q) fun _ _ q => q
      rcases hc with rfl | hc
      · exact z
      · rintro rfl
        rw [hT] at hc; cases hc
end
def Cx.marked (X : Cx) (a : Addr) : Cx := { X with A := X.A.mark (some (.ref a)), calm := false }
section
variable {X : Cx} {pins : Pins} {σ : L2.St} {H : Hp} {s : Shared} {a c T : Addr}
theorem inv_marked (I : Inv X pins σ H s) (a : Addr) : Inv (Cx.marked X a) pins σ H s :=
  ⟨⟨I.ok.mod, I.ok.kind, I.ok.glob, I.ok.blt, I.ok.above, I.ok.inj, I.ok.has, I.ok.cab, fun z => (nomatch z), I.ok.frames, I.ok.stk, I.ok.exf, I.ok.bs, I.ok.bsz, I.ok.noex, I.ok.exfs, I.ok.funs, I.ok.frf⟩, I.os, I.bare, I.base, I.loc, I.cell, I.free, I.freeC, I.pin, I.hok, I.len⟩
theorem inv_unmarked (ok : X.Ok) (I : Inv (Cx.marked X a) pins σ H s) : Inv X pins σ H s := ⟨ok, I.os, I.bare, I.base, I.loc, I.cell, I.free, I.freeC, I.pin, I.hok, I.len⟩
theorem setFlight_again {M : Model} {A : Around} {Q : Unit → Shared → Prop} {E : Value → Shared → Prop} (I : Inv X pins σ H s) (hT : H T = some (TO T)) (t : Tr s.heap a c T)
    (hq : ∀ h', Inv X pins σ H { s with heap := h' } → (∃ o, h'.get? a = some o ∧ o.cls = .ref c) → Q () { s with heap := h' }) : wpAny M A (setFlight (.ref a) none) Q E s := by
  obtain ⟨oe, vs, oT, ts, a0, he, hcls, hd, h0, h1, hTe, hTo, hdT, h3⟩ := t
  unfold setFlight
  refine wpAny_bind (wpAny_field he hd h1 ?_)
  rw [if_pos (show (Value.ref T != Value.none) = true from by simp)]
  refine wpAny_setField hTo hdT (Array.getElem?_eq_some_iff.mp h3).1 ?_
  have k : ∀ b, b ≠ T → (s.heap.update T (Obj.mapFields (·.setIfInBounds 3 ((none : Option Addr).elim Value.none fun f => rawInt f)))).get? b = s.heap.get? b := fun b hb => Heap.get?_update_other _ _ (Ne.symm hb)
  obtain ⟨u1, u2⟩ := again_un I.hok hT k ⟨_, Heap.get?_update_self _ hTo (Obj.isFreed_of_fields (Obj.data_mapFields hdT _))⟩ X.fs
  exact hq _ (I.un (t' := s.toks) u1 u2) ⟨oe, (k a (Ne.symm hTe)).trans he, hcls⟩
end
structure SubX (K : PySem.W.Frag) (c C : Addr) : Prop where
  sub : PySem.W.subIn K (.ref c) (.ref C) = some true
theorem excMatches_K {M : Model} {A : Around} {E : Value → Shared → Prop} {s : Shared} {K : PySem.W.Frag} {a c C : Addr} {x : Str} {mg : Str → Option Value} {Q : Bool → Shared → Prop} (X : K.In s.heap) (hC : ExcK K mg x C) (hs : PySem.W.subIn K (.ref c) (.ref C) = some true)
    (he : ∃ o, s.heap.get? a = some o ∧ o.cls = .ref c) (hq : Q true s) : wpAny M A (excMatches (.ref a) (.ref C)) Q E s := by
  obtain ⟨tl, N, nm, q, bs, hdct, sn, sub, ab, col, dd, k0, k1, k2, k3, k5, mN, hCo, hN, hni, T⟩ := exc_of_in X hC.cls
  obtain ⟨oe, he, hcls⟩ := he
  have hcB : (Value.ref C :: tl).contains (.type "BaseException") = true := by rw [List.contains_cons, T.hasType PySem.F.excBase_ValueError.hasBase, Bool.or_true]
  have f := tc_notTuple
  obtain ⟨hh, g, d, tk, os⟩ := s
  have L := PySem.W.looks_subIn (M := M) X hs
  unfold excMatches
  repeat (first | (with_reducible refine wpAny_loadPart_at he ?_; rw [hcls]) | with_reducible refine wpAny_loadPart_at hCo ?_ | (with_reducible refine wpAny_isSubtype_exc hCo ?_; rw [hcB]) | (with_reducible refine L.here ?_) | wp_step)
  exact hq
section
variable {X : Cx} {body suite : List Stmt} {b₀ : Stmt} {t u : TSt} {pos np hp : Pos} {x : Str} {C : Addr} {L : List Addr}
end
end DL
namespace DL
open PySem PySem.Spec PyProof.Rows L2
section
variable {X : Cx} {pins : Pins} {σ : L2.St} {H : Hp} {s : Shared}
theorem RepL.unset {K : PySem.W.Frag} {J : List Addr} {r : DSt} (h : RepL K H J r σ) (i : Nat) : RepL K H J (r.set i none) (σ.set i none) where
  len := by simp [h.len]
  at_ := fun j d' q => by
    by_cases e : j = i
    · subst e
      rw [List.getElem?_set] at q
      simp at q
    · rw [List.getElem?_set_ne (Ne.symm e)] at q ⊢
      exact h.at_ j d' q
theorem goes_ok {M : Model} {A : Around} {E : Value → Shared → Prop} {i : Nat} {x : Str} {pos : Pos} {Q : Unit → Shared → Prop} (I : Inv X pins σ H s) (hN : X.N.Nodup) (hi : X.N[i]? = some x) (hk : X.env.scope.names.lookup x = some .local)
    (h : ∀ s', Inv X pins (σ.set i none) H s' → Q () s') : wpAny M A (do bindName X.env x .none; unbindBehindTheSuite X.env x pos) Q E s := by
  obtain ⟨m, hn, hl⟩ := id I.loc
  have hcls : (X.env.scope.kind == .class || (X.env.scope.kind == .module && X.env.locals != X.env.globals)) = false := by rw [I.ok.kind]; rfl
  have cne := I.cne
  obtain ⟨oL, _, _, hoL, _⟩ := id hn
  refine wpAny_nameGoes_keeps hk hn hcls fun h' v hn' hs => ?_
  have tracked : HOk X.prog X.w H h' := fun b ob e => by
    refine (I.hok b ob e).stay (fun c w' hc q => (hs.2 c ?_).trans q) (fun _ q => q) fun _ _ q => q
    rintro rfl
    have hfree := I.free
    rcases hc with rfl | hc
    · rw [hfree] at e; cases e
    · rw [hfree] at hc; cases hc
  refine h _ ⟨I.ok, I.os, I.bare, ⟨fun b o e n hb hx => ?_, fun b o e n hb hx => ?_, I.base.free, fun b o e hx => ?_, I.base.tups, I.base.frzs, I.base.tbls⟩, ⟨_, hn', fun j y v' e1 e2 e3 => ?_⟩, fun y c e => ?_, I.free, I.freeC, fun p hp => ?_, tracked, by simpa using I.len⟩
  · exact (hs.2 b (Nat.ne_of_lt (Nat.lt_of_lt_of_le (Heap.lt_size e) I.ok.above))).trans (I.base.keep b o e n hb hx)
  · obtain ⟨sl, e1⟩ := I.base.slot b o e n hb hx
    exact ⟨sl, (hs.2 b (Nat.ne_of_lt (Nat.lt_of_lt_of_le (Heap.lt_size e) I.ok.above))).trans e1⟩
  · obtain ⟨o', e1⟩ := I.base.there b o e hx
    exact ⟨o', (hs.2 b (Nat.ne_of_lt (Nat.lt_of_lt_of_le (Heap.lt_size e) I.ok.above))).trans e1⟩
  · by_cases hj : j = i
    · subst hj
      rw [List.getElem?_set] at e2
      simp at e2
    · rw [List.getElem?_set_ne (Ne.symm hj)] at e2
      obtain ⟨u', r', q⟩ := hl j y v' e1 e2 e3
      refine ⟨u', r', ?_⟩
      rcases q with ⟨k, e⟩ | ⟨k, c, e, z⟩
      · refine .inl ⟨k, ?_⟩
        have : y ≠ x := fun e => hj (nodup_ix hN e1 (e ▸ hi))
        simp [this, e]
      · exact .inr ⟨k, c, e, z.sameBut hs (cne y c e)⟩
  · obtain ⟨w', z⟩ := I.cell y c e
    exact ⟨w', z.sameBut hs (cne y c e)⟩
  · obtain ⟨e, n, ne, nf, d⟩ := I.pin p hp
    exact ⟨(hs.2 p.1 ne).trans e, n, ne, nf, d⟩
end
def asEnd (i : Nat) : RSt → RSt
  | some (.nx r, S) => some (.nx (r.set i none), S)
  | _ => none
def sTryAs (L : List Addr) (i : Nat) (t u : TSt) : TSt := fun r S => match t r S with
  | some (.xc c r', S') => if c ∈ L then asEnd i (u (r'.set i (some (.xn c))) S') else none
  | x => x
section
variable {X : Cx} {body suite : List Stmt} {b₀ : Stmt} {t u : TSt} {pos np hp : Pos} {x n : Str} {C : Addr} {L : List Addr} {i : Nat}
theorem sd_tryAs (hC : ExcK X.K X.mg x C) (hL : ∀ c ∈ L, PySem.W.subIn X.K (.ref c) (.ref C) = some true) (hg : Gl X x) (hst : X.stack = X.env :: X.outer ∧ X.env.frame = some X.env.locals) (hN : X.N.Nodup) (hb : PSsd X body t) (hs : ∀ a, PSsd (Cx.marked X a) (b₀ :: suite) u)
    (hi : X.N[i]? = some n := by rfl) (hk : X.env.scope.names.lookup n = some .local := by rfl) (hdb : (x == ("__debug__" : Str)) = false := by decide) :
    PSd X (.Try body [.ExceptHandler (some (.Name x np)) (some n) (b₀ :: suite) hp] [] [] pos) (sTryAs L i t u) := by
  intro pins s σ H J r S Q E I m
  refine wpAny_Try_except (hb pins s σ H J r S _ _ I ?_)
  unfold sTryAs at m
  match e : t r S with
  | none => rw [e] at m; exact m
  | some (.nx r', S') =>
    rw [e] at m
    exact fun s' σ' H' J' a x => wpAny_execs_nil (m s' σ' H' J' a x)
  | some (.bk r', S') => rw [e] at m; exact m
  | some (.ct r', S') => rw [e] at m; exact m
  | some (.rt d, S') => rw [e] at m; exact m
  | some (.xc c r', S') =>
    rw [e] at m
    dsimp only at m
    split at m
    · rename_i hcL
      rintro ev s' σ' H' J' ⟨I1, a, rfl, hX, hc⟩ rl rs ex
      refine note_of hst I1 hX hc fun h' T' hn un hok tr => ?_
      have hne : a ≠ T' := ne_of_none hX hn
      have I2 : Inv X pins σ' (upd H' T' (TO T')) { s' with heap := h' } := I1.call (h' := h') (g' := s'.gens) (d' := s'.drawn) (t' := s'.toks) (ch := []) un hok I1.bare (fun b z => absurd z (by simp))
      have I3 := inv_marked I2 a
      refine wpAny_handleBy_cons (codeAny_handlers_test (ld_glob (X := Cx.marked X a) I3 hg hC.nm ?_ hdb)) (by intro q; cases q)
      refine excMatches_K I2.kIn hC (hL c hcL) tr.cls (codeAny_handlers_suite_as ?_)
      refine setFlight_again I3 upd_same tr fun h2 I4 _ => ?_
      have ex2 : Ext H' J' (upd H' T' (TO T')) J' := Ext.new hn
      have rX : RepV X.K (upd H' T' (TO T')) J' (.xn c) (.ref a) := by unfold RepV; exact ⟨a, rfl, by rw [upd_ne hne]; exact hX⟩
      refine store_ok (X := Cx.marked X a) (v := .ref a) I4 hN hi (.inl hk) rfl (fun s5 I5 => ?_) (.inr hk)
      refine hs a pins s5 _ _ J' (r'.set i (some (.xn c))) S' _ _ ⟨I5, (rl.ext ex2).set rX, rs.new hn⟩ ?_
      have m2 := MtS.ext (ex.trans ex2) m
      match e2 : u (r'.set i (some (.xn c))) S' with
      | none => rw [e2] at m2; exact m2
      | some (.nx r2, S2) =>
        rw [e2] at m2
        exact fun s3 σ3 H3 J3 a3 x3 => goes_ok (inv_unmarked I2.ok a3.inv) hN hi hk fun s6 I6 => m2 s6 _ H3 J3 ⟨I6, a3.loc.unset i, a3.st⟩ x3
      | some (.bk r2, S2) => rw [e2] at m2; exact m2.elim
      | some (.ct r2, S2) => rw [e2] at m2; exact m2.elim
      | some (.rt d, S2) => rw [e2] at m2; exact m2.elim
      | some (.xc c2 r2, S2) => rw [e2] at m2; exact m2.elim
    · exact m.elim
end
def AnsX (K : PySem.W.Frag) (c : Addr) (cv : Value) (b : Bool) : Prop := ∀ (prog : Program) (w : World) (A : Around) (E : Value → Shared → Prop) (s : Shared) (Q : Value → Shared → Prop) (a : Addr),
  K.In s.heap → (∃ o, s.heap.get? a = some o ∧ o.cls = .ref c) → (∀ tk, Q (.bool b) { s with toks := tk }) → wpAny (model prog w) A (call (.builtin "isinstance") [.ref a, cv]) Q E s
theorem ansX_own {K : PySem.W.Frag} {c C : Addr} (e : PySem.W.isIn K (.ref c) C = true) : AnsX K c (.ref C) true := fun prog w A E s Q a X ⟨o, h1, h2⟩ hq =>
  PySem.W.isi_call (t := .ref c) X (fun M => by rw [← h2]; exact (PySem.W.Looks.ld h1).andThen .now) e (fun z => nomatch z) (hq s.toks)
theorem ansX_type {K : PySem.W.Frag} {c : Addr} {T : String} (e : PySem.W.subIn K (.ref c) (.type T) = some true) (hm : PySem.W.kitMeta T = true) : AnsX K c (.type T) true := by
  intro prog w A E s Q a X ⟨o, h1, h2⟩ hq
  obtain ⟨hh, g, d, tt, os⟩ := s
  refine call_isinstance_of ?_
  have L0 : PySem.W.Looks (model prog w) hh (typeOf (.ref a)) (.ref c) := by rw [← h2]; exact (PySem.W.Looks.ld h1).andThen .now
  have L3 : PySem.W.Looks (model prog w) hh (isInstance (.ref a) (.type T)) true := L0.andThen (PySem.W.looks_subIn X e)
  unfold Builtin.«isinstance.nested»
  refine wpAny_bind (L0.at ?_)
  rw [if_neg (fun q => by cases beq_iff_eq.mp q)]
  refine wpAny_bind ((PySem.W.Looks.of_pure (PySem.W.kitMeta_of hm)).at ?_)
  rw [if_pos (by decide)]
  refine wpAny_bind (wpAny_bind (m := isType (.type T)) (wpAny_pure (a := true) ?_))
  refine wpAny_bind (L3.at ?_)
  exact wpAny_pure (a := true) (wpAny_pure (hq tt))
theorem mem_lookup {α β : Type} [BEq α] [LawfulBEq α] {k : α} {v : β} : ∀ {l : List (α × β)}, l.lookup k = some v → (k, v) ∈ l
  | [], h => by simp at h
  | (k', v') :: r, h => by
    rw [List.lookup_cons] at h
    by_cases e : k == k'
    · rw [e] at h
      simp at h
      rw [beq_iff_eq.mp e, h]
      exact List.mem_cons_self
    · rw [Bool.eq_false_iff.mpr e] at h
      exact List.mem_cons_of_mem _ (mem_lookup h)
def isXD (tb : List (Addr × Bool)) (d : D) : M D := fun S => match d with
  | .xn c => match tb.lookup c with
    | some b => .ok (.bl b) S
    | none => .bad
  | _ => .bad
def dIsX (tb : List (Addr × Bool)) (fe : DSt → M D) : DSt → M D := fun r => (fe r).bind (isXD tb)
section
variable {X : Cx} {e : Expr} {fe : DSt → M D} {pos : Pos}
theorem isinst_x {tb : List (Addr × Bool)} {cv : Value} {pins : Pins} {s : Shared} {σ : L2.St} {H : Hp} {J : List Addr} {S : List Cell} {x : D} {vx : V} {v : Value} {Q E : Value → Shared → Prop} (hk : ∀ p ∈ tb, AnsX X.K p.1 cv p.2) (I : Inv X pins σ H s) (rs : RepS X.K H J S) (rx : RepV X.K H J x vx) (rv : RelV vx v)
    (m : Mt X pins σ H J (isXD tb x S) Q E) : wpAny (model X.prog X.w) X.A (call (.builtin "isinstance") [v, cv]) Q E s := by
  unfold isXD at m
  cases x with
  | xn c =>
    obtain ⟨a, rfl, hn⟩ := rx.xn_
    cases rv
    dsimp only at m
    split at m
    · rename_i b hb
      obtain ⟨z, _⟩ := (show ObjOk X.prog X.w H s.heap a (XO a c) from I.hok a _ hn)
      exact hk (c, b) (mem_lookup hb) _ _ _ _ _ _ _ I.kIn z fun tk => m.ok_ (I.tok tk) rs (RepV.bl _ _ _ _) rfl
    · exact m.elim
  | _ => exact m.elim
theorem pd_isX {x : Str} {C : Addr} {tb : List (Addr × Bool)} {p p2 : Pos} (he : PEd X e fe) (hg : Gl X "isinstance") (hm : X.mg "isinstance" = none) (hgT : Gl X x) (hC : ExcK X.K X.mg x C) (hk : ∀ p ∈ tb, AnsX X.K p.1 (.ref C) p.2)
    (hs : starEach [e, .Name x p2] X.env = [(false, eval e X.env), (false, eval (.Name x p2) X.env)] := by rfl) (hs2 : starEach [.Name x p2] X.env = [(false, eval (.Name x p2) X.env)] := by rfl) (hd : (x == ("__debug__" : Str)) = false := by decide) :
    PEd X (.Call (.Name "isinstance" p) [e, .Name x p2] [] pos) (dIsX tb fe) := by
  intro pins s σ H J r S Q E I m
  refine wpAny_Call_Name_kw (ld_blt I.inv hg hm boot_isinstance ?_)
  refine PyProof.Rows.callWith_builtin1 ?_ (by rw [hs, hs2]) (by rw [hs2]; rfl)
  rw [hs]
  show wpAny _ _ (spliced ((false, eval e X.env) :: backTo pos [(false, eval (.Name x p2) X.env)])) _ _ s
  refine Calls.spliced_cons (he pins s σ H J r S _ E I ?_)
  unfold dIsX M.bind at m
  cases e1 : fe r S with
  | bad => rw [e1] at m; exact m
  | exc c S1 => rw [e1] at m; exact m
  | ok d S1 =>
    rw [e1] at m
    dsimp only at m
    rintro v s1 ⟨vx, H1, I1, r1, J1, ex, rs, rv⟩
    show wpAny _ _ (spliced ((false, eval (.Name x p2) X.env) :: backTo pos [])) _ _ s1
    refine Calls.spliced_cons (ld_glob I1 hgT hC.nm ?_ hd)
    exact Calls.spliced_nil (isinst_x hk I1 rs rv r1 (Mt.ext ex m))
theorem pd_isXT {x : Str} {T : String} {tb : List (Addr × Bool)} {p p2 : Pos} (he : PEd X e fe) (hg : Gl X "isinstance") (hm : X.mg "isinstance" = none) (hgT : Gl X x) (hmT : X.mg x = none) (hbT : bootBuiltins x = some (.type T)) (hk : ∀ p ∈ tb, AnsX X.K p.1 (.type T) p.2)
    (hs : starEach [e, .Name x p2] X.env = [(false, eval e X.env), (false, eval (.Name x p2) X.env)] := by rfl) (hs2 : starEach [.Name x p2] X.env = [(false, eval (.Name x p2) X.env)] := by rfl) (hn : x ≠ "__name__" := by decide) (hd : (x == ("__debug__" : Str)) = false := by decide) :
    PEd X (.Call (.Name "isinstance" p) [e, .Name x p2] [] pos) (dIsX tb fe) := by
  intro pins s σ H J r S Q E I m
  refine wpAny_Call_Name_kw (ld_blt I.inv hg hm boot_isinstance ?_)
  refine PyProof.Rows.callWith_builtin1 ?_ (by rw [hs, hs2]) (by rw [hs2]; rfl)
  rw [hs]
  show wpAny _ _ (spliced ((false, eval e X.env) :: backTo pos [(false, eval (.Name x p2) X.env)])) _ _ s
  refine Calls.spliced_cons (he pins s σ H J r S _ E I ?_)
  unfold dIsX M.bind at m
  cases e1 : fe r S with
  | bad => rw [e1] at m; exact m
  | exc c S1 => rw [e1] at m; exact m
  | ok d S1 =>
    rw [e1] at m
    dsimp only at m
    rintro v s1 ⟨vx, H1, I1, r1, J1, ex, rs, rv⟩
    show wpAny _ _ (spliced ((false, eval (.Name x p2) X.env) :: backTo pos [])) _ _ s1
    refine Calls.spliced_cons (ld_blt I1 hgT hmT hbT ?_ hn hd)
    exact Calls.spliced_nil (isinst_x hk I1 rs rv r1 (Mt.ext ex m))
end
end DL
namespace DL
open PySem PySem.Spec PyProof.Rows L2
theorem aL_nil {α : Type} {P : α → Prop} : ∀ c ∈ ([] : List α), P c := fun _ h => nomatch h
theorem aL_cons {α : Type} {P : α → Prop} {x : α} {l : List α} (h : P x) (t : ∀ c ∈ l, P c) : ∀ c ∈ x :: l, P c := fun c hc => (List.mem_cons.mp hc).elim (fun e => e ▸ h) (t c)
theorem paired_of {α β : Type} {R : α → β → Prop} : ∀ {l1 : List α} {l2 : List β}, l1.length = l2.length → (∀ (i : Nat) v w, l1[i]? = some v → l2[i]? = some w → R v w) → Paired R l1 l2
  | [], [], _, _ => .nil
  | [], _ :: _, h, _ => by simp at h
  | _ :: _, [], h, _ => by simp at h
  | a :: l1, b :: l2, h, k => .cons (k 0 a b rfl rfl) (paired_of (by simpa using h) fun i v w h1 h2 => k (i + 1) v w (by simpa using h1) (by simpa using h2))
def intsD (n : Nat) : List D := (List.range n).map fun i : Nat => D.int i
def dLR (n : Nat) : DSt → M D := fun _ S => .ok (.ob S.length) (S ++ [.lst (intsD n)])
section
variable {X : Cx} {pos p p2 p3 p4 : Pos}
theorem pd_lrange {n : Nat} {j : Nat} (hgl : Gl X "list") (hml : X.mg "list" = none) (hgr : Gl X "range") (hmr : X.mg "range" = none) (hc : X.calm = true) (hs : Builtin.Range.small 0 n 1 = true) (hn : Builtin.Range.rangeSize 0 n 1 = n) (hl : n ≤ 1000)
    (he : starEach [.Call (.Name "range" p2) [.Constant (.int n) j p3] [] p4] X.env = [(false, eval (.Call (.Name "range" p2) [.Constant (.int n) j p3] [] p4) X.env)] := by rfl)
    (he2 : starEach [.Constant (.int n) j p3] X.env = [(false, eval (.Constant (.int n) j p3) X.env)] := by rfl) :
    PEd X (.Call (.Name "list" p) [.Call (.Name "range" p2) [.Constant (.int n) j p3] [] p4] [] pos) (dLR n) := by
  intro pins s σ H J r S Q E I m
  refine wpAny_Call_Name_kw (ld_blt I.inv hgl hml boot_list (PyProof.Rows.callWith_type1 ?_ he rfl) (by decide) (by decide))
  rw [he]
  refine Calls.spliced_cons ?_
  refine wpAny_Call_Name_kw (ld_blt I.inv hgr hmr boot_range (PyProof.Rows.callWith_type1 ?_ he2 rfl) (by decide) (by decide))
  rw [he2]
  refine Calls.spliced_cons (wpAny_Constant_int (pos := p3) (k := j) ?_)
  refine Calls.spliced_nil (call_range_1 ?_)
  refine Calls.spliced_nil ?_
  have hz : n ≤ sizeLine := Nat.le_trans hl (by decide)
  refine call_list_range (n := n) (I.inv.ok.hd hc) (Heap.get?_push_size _ rfl) hs hn (Nat.le_trans hl (by decide)) fun h' tk acc c' hk hS hacc => ?_
  have hf : H (s.heap.objs.size + 1) = none := I.inv.hok.fresh (Nat.le_succ _)
  have hvals : Vals ((List.range n).map fun i : Nat => V.int i) acc.toList := paired_of (by rw [List.length_map, List.length_range, Array.length_toList, hacc.1]) fun i v w h1 h2 => by
    rw [List.getElem?_map] at h1
    have hi : i < n := by
      by_cases hi : i < n
      · exact hi
      · rw [List.getElem?_eq_none (by rw [List.length_range]; omega)] at h1
        cases h1
    rw [List.getElem?_range hi] at h1
    cases h1
    obtain ⟨t, rfl⟩ := hacc.2 i w (by simpa using h2)
    exact ⟨t, by simp⟩
  have rvs : RepVs X.K H J (intsD n) ((List.range n).map fun i : Nat => V.int i) := by
    unfold intsD
    have : ∀ l : List Nat, RepVs X.K H J (l.map fun i : Nat => D.int i) (l.map fun i : Nat => V.int i) := fun l => by
      induction l with
      | nil => exact .nil
      | cons a r ih => exact .cons (RepV.int _ _ _ _) ih
    exact this _
  have e : (s.heap.push { cls := Value.type "range", data := Data.fields #[.int 0 (s.toks + 1), .int n s.toks, .int 1 (s.toks + 1 + 1)] }).objs.size = s.heap.objs.size + 1 := Heap.size_push ..
  rw [e] at hS ⊢
  refine m.val (H' := upd H (s.heap.objs.size + 1) (.lst ((List.range n).map fun i : Nat => V.int i))) (v := .ref (s.heap.objs.size + 1)) ?_ rfl (Got.lst I.st rvs hf)
  refine I.inv.laid (h' := h') (t' := tk) (fun b u q => hk b u (Heap.get?_push_of_some _ q)) (Nat.le_succ _) ?_
  exact ⟨by rw [List.length_map, List.length_range]; exact hz, acc.toList, c', hvals, by simpa using hS⟩
end
end DL
namespace Lw
open PySem L2 DL
open PyProof.Rows (boot_max boot_min boot_sum boot_all boot_int boot_tuple boot_list boot_isinstance boot_range boot_enumerate boot_bool)
def top (i : Nat) : Stmt := PySem.Challenge.pw_sureroad_k02_joined_again.main.body.getD i (.Pass ⟨0, 0, 0, 0⟩)
abbrev s__law_mix : Stmt := top 11
abbrev s__law_message : Stmt := top 12
abbrev s__law_cell : Stmt := top 10
abbrev s_letters_of : Stmt := top 7
abbrev s_ends_once : Stmt := top 6
abbrev s_joined : Stmt := top 8
abbrev s__law_refused : Stmt := top 14
abbrev s_pieces_of : Stmt := top 5
abbrev s__law_pieces : Stmt := top 13
abbrev s_law : Stmt := top 15
structure Cs where
  NoMessage : Addr
  RoadError : Addr
abbrev k_MOST_MESSAGE_LETTERS : D := .int 40
structure Txt (K : PySem.W.Frag) (mg : Str → Option Value) (G : Cs) : Prop where
  b_ValueError : mg "ValueError" = none
  b_int : mg "int" = none
  b_isinstance : mg "isinstance" = none
  b_len : mg "len" = none
  b_list : mg "list" = none
  b_max : mg "max" = none
  b_range : mg "range" = none
  b_tuple : mg "tuple" = none
  x_NoMessage : ExcK K mg "NoMessage" G.NoMessage
  x_RoadError : ExcK K mg "RoadError" G.RoadError
  su_NoMessage_RoadError : PySem.W.subIn K (.ref G.NoMessage) (.ref G.RoadError) = some true
  ai_NoMessage_NoMessage : PySem.W.isIn K (.ref G.NoMessage) G.NoMessage = true
  at_NoMessage_ValueError : PySem.W.subIn K (.ref G.NoMessage) (.type "ValueError") = some true
  c_MOST_MESSAGE_LETTERS : ∃ u, mg "MOST_MESSAGE_LETTERS" = some u ∧ KRep K k_MOST_MESSAGE_LETTERS u
section
variable {P : Program} {w : World} {K : PySem.W.Frag} {mg : Str → Option Value} {base : Heap}
theorem sc__law_mix : FnScope ["_law_cell_here", "_law_prime", "_law_many"] ["_law_cell_here", "_law_prime", "_law_many"] (defScope s__law_mix) := ⟨rfl, rfl, rfl, by decide +kernel, rfl, by decide +kernel, by decide +kernel⟩
noncomputable def cd__law_mix : TSt := (sRet (dOp modD (dOp modD (dOp mulD (dVar 0) (dC (.int 48271))) (dVar 1)) (dVar 2)))
noncomputable def F__law_mix : List D → M D := fun xs S => fin S (cd__law_mix (xs.map some ++ List.replicate (3 - xs.length) none) S)
theorem ok__law_mix {G : Cs} (T : Txt K mg G) {f : Addr} {fd : FuncData} (F : Fun K "_law_mix" "_law_mix" s__law_mix f fd) : FnD P w K mg base (CXE P w) 1 f fd ["_law_cell_here", "_law_prime", "_law_many"] F__law_mix := by
  refine fnD_of F sc__law_mix (fun _ _ _ _ _ _ => leavesE) (fun cdv A outer s H E hr => ⟨cd__law_mix, ?_, fun xs S0 hl => fend_fin⟩)
  have hu := hr.units
  exact (ssd_one (sd_ret (pd_op od_mod (pd_op od_mod (pd_op od_mul (pd_var 0) pd_int) (pd_var 1)) (pd_var 2))))
theorem sc__law_message : FnScope ["_law_cell_here", "_law_longest", "_law_many"] ["_law_cell_here", "_law_longest"] (defScope s__law_message) := ⟨rfl, rfl, rfl, by decide +kernel, rfl, by decide +kernel, by decide +kernel⟩
noncomputable def cd__law_message : TSt := (sSeq (sAsg (dCall F__law_mix (dCons (dVar 0) (dCons (dC (.int 9973)) (dCons (dOp addD (dVar 1) (dC (.int 1))) dNil)))) (gN 2))
  (sRet (dCall tupleD (dCons (dComp (dRng1 (dVar 2)) (gN 0) dYes (dCall F__law_mix (dCons (dOp addD (dVar 1) (dOp mulD (dC (.int 31)) (dVar 0))) (dCons (dC (.int 9967)) (dCons (dC (.int 256)) dNil)))) 1 [0]) dNil))))
noncomputable def F__law_message : List D → M D := fun xs S => finP S (cd__law_message (xs.map some ++ List.replicate (3 - xs.length) none) S)
theorem ok__law_message {G : Cs} (T : Txt K mg G) (h__law_mix : Cal P w K mg base (CXE P w) "_law_mix" 1 ["_law_cell_here", "_law_prime", "_law_many"] F__law_mix) {f : Addr} {fd : FuncData} (F : Fun K "_law_message" "_law_message" s__law_message f fd) : FnD P w K mg base (CXE P w) 2 f fd ["_law_cell_here", "_law_longest"] F__law_message := by
  refine fnD_of F sc__law_message (fun _ _ _ _ _ _ => leavesE) (fun cdv A outer s H E hr => ⟨cd__law_message, ?_, fun xs S0 hl => fend_finP⟩)
  have hu := hr.units
  exact (ssd_cons (sd_set (i := 2) sc__law_message.nd (pd_calC h__law_mix (hr.mono (by decide)) rfl passE (pad_cons (pd_var 0) (pad_cons pd_int (pad_cons (pd_op od_add (pd_var 1) pd_int) pad_nil))) (dl_cons (dl_cons (dl_cons dl_nil)))))
      (ssd_one (sd_ret (pd_callTy cd_tuple rfl T.b_tuple boot_tuple (pad_cons (pd_comp (own := ["_law_k"]) (capN := ["_law_cell_here"]) (caps := [0]) ⟨rfl, ClOk.all ⟨rfl, trivial⟩, rfl, by decide +kernel, rfl, by decide +kernel, ⟨⟨rfl, Or.inl rfl, Or.inl rfl, rfl⟩, trivial⟩, by decide +kernel⟩ rfl (pid_range1 rfl T.b_range (pd_var 2)) (tgOwn_N (by decide)) (fun C s2 H2 fp => ⟨(gd_name (i := 0) (show (["_law_k", "_law_cell_here"] : List Str).Nodup from by decide +kernel)), pf_nil, (pd_calC h__law_mix (hr.mono (by decide)) rfl passE (pad_cons (pd_op od_add (pd_var 1) (pd_op od_mul pd_int (pd_var 0))) (pad_cons pd_int (pad_cons pd_int pad_nil))) (dl_cons (dl_cons (dl_cons dl_nil))))⟩)) pad_nil)))))
theorem sc__law_cell : FnScope ["_law_script", "_law_k"] ["_law_script", "_law_k"] (defScope s__law_cell) := ⟨rfl, rfl, rfl, by decide +kernel, rfl, by decide +kernel, by decide +kernel⟩
noncomputable def cd__law_cell : TSt := (sSeq (sIf (dTest (dOp ltD (dVar 1) (dCall lenD (dCons (dVar 0) dNil)))) (sRet (dOp ixD (dVar 0) (dVar 1))) sNext)
  (sRet (dC (.int 0))))
noncomputable def F__law_cell : List D → M D := fun xs S => fin S (cd__law_cell (xs.map some ++ List.replicate (2 - xs.length) none) S)
theorem ok__law_cell {G : Cs} (T : Txt K mg G) {f : Addr} {fd : FuncData} (F : Fun K "_law_cell" "_law_cell" s__law_cell f fd) : FnD P w K mg base (CXE P w) 1 f fd ["_law_script", "_law_k"] F__law_cell := by
  refine fnD_of F sc__law_cell (fun _ _ _ _ _ _ => leavesE) (fun cdv A outer s H E hr => ⟨cd__law_cell, ?_, fun xs S0 hl => fend_fin⟩)
  have hu := hr.units
  exact (ssd_cons (sd_if (pt_cmpD od_lt (pd_var 1) (pd_callB cd_len rfl T.b_len PySem.boot_len (pad_cons (pd_var 0) pad_nil)) (nomark _)) (ssd_one (sd_ret (pd_ix ixd (pd_var 0) (pd_var 1) (fun _ _ => rfl)))) ssd_nil)
      (ssd_one (sd_ret pd_int)))
theorem sc_letters_of : FnScope ["pieces", "letters", "piece"] ["pieces"] (defScope s_letters_of) := ⟨rfl, rfl, rfl, by decide +kernel, rfl, by decide +kernel, by decide +kernel⟩
noncomputable def bd_letters_of_1 : TSt := (sDrop (dBM extD (dVar 1) (dCons (dOp ixD (dVar 2) (dC (.int 1))) dNil)))
noncomputable def cd_letters_of : TSt := (sSeq (sAsg (dLst dNil) (gN 1))
  (sSeq (sFor (dWk (dVar 0)) (gN 2) bd_letters_of_1)
  (sRet (dCall tupleD (dCons (dVar 1) dNil)))))
noncomputable def F_letters_of : List D → M D := fun xs S => finP S (cd_letters_of (xs.map some ++ List.replicate (3 - xs.length) none) S)
theorem ok_letters_of {G : Cs} (T : Txt K mg G) {f : Addr} {fd : FuncData} (F : Fun K "letters_of" "letters_of" s_letters_of f fd) : FnD P w K mg base (CXE P w) 1 f fd ["pieces"] F_letters_of := by
  refine fnD_of F sc_letters_of (fun _ _ _ _ _ _ => leavesE) (fun cdv A outer s H E hr => ⟨cd_letters_of, ?_, fun xs S0 hl => fend_finP⟩)
  have hu := hr.units
  exact (ssd_cons (sd_set (i := 1) sc_letters_of.nd (pd_lst pad_nil))
      (ssd_cons (sd_for rfl (pid_seq (pd_var 0)) (gd_name (i := 2) sc_letters_of.nd) (ssd_one (sd_expr (pd_bmL PySem.F.slot_list_extend PySem.F.type_list_extend md_extend (pd_var 1) (pad_cons (pd_ix ixd (pd_var 2) pd_int (fun _ _ => rfl)) pad_nil)))))
      (ssd_one (sd_ret (pd_callTy cd_tuple rfl T.b_tuple boot_tuple (pad_cons (pd_var 1) pad_nil))))))
theorem sc_ends_once : FnScope ["pieces", "lasts"] ["pieces"] (defScope s_ends_once) := ⟨rfl, rfl, rfl, by decide +kernel, rfl, by decide +kernel, by decide +kernel⟩
noncomputable def cd_ends_once : TSt := (sSeq (sAsg (dComp (dWk (dVar 0)) (gN 0) dYes (dOp ixD (dVar 0) (dC (.int 0))) 1 []) (gN 1))
  (sRet (dAndV (dOp gtD (dCall lenD (dCons (dVar 1) dNil)) (dC (.int 0))) (dOp eqD (dVar 1) (dOp addD (dOp mulD (dLst (dCons (dC (.int 0)) dNil)) (dOp subD (dCall lenD (dCons (dVar 1) dNil)) (dC (.int 1)))) (dLst (dCons (dC (.int 1)) dNil)))))))
noncomputable def F_ends_once : List D → M D := fun xs S => finP S (cd_ends_once (xs.map some ++ List.replicate (2 - xs.length) none) S)
theorem ok_ends_once {G : Cs} (T : Txt K mg G) {f : Addr} {fd : FuncData} (F : Fun K "ends_once" "ends_once" s_ends_once f fd) : FnD P w K mg base (CXE P w) 1 f fd ["pieces"] F_ends_once := by
  refine fnD_of F sc_ends_once (fun _ _ _ _ _ _ => leavesE) (fun cdv A outer s H E hr => ⟨cd_ends_once, ?_, fun xs S0 hl => fend_finP⟩)
  have hu := hr.units
  exact (ssd_cons (sd_setComp (i := 1) sc_ends_once.nd (own := ["piece"]) (capN := []) (caps := []) ⟨rfl, ClOk.all trivial, rfl, by decide +kernel, rfl, by decide +kernel, trivial, by decide +kernel⟩ rfl (pid_seq (pd_var 0)) (tgOwn_N (by decide)) (fun C s2 H2 fp => ⟨(gd_name (i := 0) (show (["piece"] : List Str).Nodup from by decide +kernel)), pf_nil, (pd_ix ixd (pd_var 0) pd_int (fun _ _ => rfl))⟩))
      (ssd_one (sd_ret (pd_and (pd_cmp od_gt (pd_callB cd_len rfl T.b_len PySem.boot_len (pad_cons (pd_var 1) pad_nil)) pd_int (nomark _)) (pd_one (pd_cmp (od_eq hu) (pd_var 1) (pd_op od_add (pd_op od_mul (pd_lst (pad_cons pd_int pad_nil)) (pd_op od_sub (pd_callB cd_len rfl T.b_len PySem.boot_len (pad_cons (pd_var 1) pad_nil)) pd_int)) (pd_lst (pad_cons pd_int pad_nil))) (nomark _)))))))
theorem sc_joined : FnScope ["pieces", "message"] ["pieces"] (defScope s_joined) := ⟨rfl, rfl, rfl, by decide +kernel, rfl, by decide +kernel, by decide +kernel⟩
noncomputable def cd_joined (G : Cs) : TSt := (sSeq (sIf (dNot (dTru (dCall F_ends_once (dCons (dVar 0) dNil)))) (sRaise G.NoMessage (dC (.str "not a row of pieces of which just the last one has last 1"))) sNext)
  (sSeq (sAsg (dCall F_letters_of (dCons (dVar 0) dNil)) (gN 1))
  (sSeq (sIf (dTest (dOp gtD (dCall lenD (dCons (dVar 1) dNil)) (dC k_MOST_MESSAGE_LETTERS))) (sRaise G.NoMessage (dC (.str "the pieces have more letters than a message may have"))) sNext)
  (sRet (dVar 1)))))
noncomputable def F_joined (G : Cs) : List D → M D := fun xs S => finP S (cd_joined G (xs.map some ++ List.replicate (2 - xs.length) none) S)
theorem ok_joined {G : Cs} (T : Txt K mg G) (h_ends_once : Cal P w K mg base (CXE P w) "ends_once" 1 ["pieces"] F_ends_once) (h_letters_of : Cal P w K mg base (CXE P w) "letters_of" 1 ["pieces"] F_letters_of) {f : Addr} {fd : FuncData} (F : Fun K "joined" "joined" s_joined f fd) : FnD P w K mg base (CXE P w) 2 f fd ["pieces"] (F_joined G) := by
  refine fnD_of F sc_joined (fun _ _ _ _ _ _ => leavesE) (fun cdv A outer s H E hr => ⟨cd_joined G, ?_, fun xs S0 hl => fend_finP⟩)
  have hu := hr.units
  exact (ssd_cons (sd_if (ptd_not (pt_truD (pd_calC h_ends_once (hr.mono (by decide)) rfl passE (pad_cons (pd_var 0) pad_nil) (dl_cons dl_nil)))) (ssd_one (sd_raise T.x_NoMessage rfl rfl pd_str)) ssd_nil)
      (ssd_cons (sd_set (i := 1) sc_joined.nd (pd_calC h_letters_of (hr.mono (by decide)) rfl passE (pad_cons (pd_var 0) pad_nil) (dl_cons dl_nil)))
      (ssd_cons (sd_if (pt_cmpD od_gt (pd_callB cd_len rfl T.b_len PySem.boot_len (pad_cons (pd_var 1) pad_nil)) (pd_globE rfl T.c_MOST_MESSAGE_LETTERS) (nomark _)) (ssd_one (sd_raise T.x_NoMessage rfl rfl pd_str)) ssd_nil)
      (ssd_one (sd_ret (pd_var 1))))))
theorem sc__law_refused : FnScope ["_law_pieces_here", "_law_told", "e"] ["_law_pieces_here"] (defScope s__law_refused) := ⟨rfl, rfl, rfl, by decide +kernel, rfl, by decide +kernel, by decide +kernel⟩
noncomputable def cd__law_refused (G : Cs) : TSt := (sSeq (sAsg (dC (.bl false)) (gN 1))
  (sSeq (sTryAs [G.NoMessage] 2 (sDrop (dCall (F_joined G) (dCons (dVar 0) dNil))) (sAsg (dAndV (dIsX [(G.NoMessage, true)] (dVar 2)) (dIsX [(G.NoMessage, true)] (dVar 2))) (gN 1)))
  (sRet (dVar 1))))
noncomputable def F__law_refused (G : Cs) : List D → M D := fun xs S => finP S (cd__law_refused G (xs.map some ++ List.replicate (3 - xs.length) none) S)
theorem ok__law_refused {G : Cs} (T : Txt K mg G) (h_joined : Cal P w K mg base (CXE P w) "joined" 2 ["pieces"] (F_joined G)) {f : Addr} {fd : FuncData} (F : Fun K "_law_refused" "_law_refused" s__law_refused f fd) : FnD P w K mg base (CXE P w) 3 f fd ["_law_pieces_here"] (F__law_refused G) := by
  refine fnD_of F sc__law_refused (fun _ _ _ _ _ _ => leavesE) (fun cdv A outer s H E hr => ⟨cd__law_refused G, ?_, fun xs S0 hl => fend_finP⟩)
  have hu := hr.units
  exact (ssd_cons (sd_set (i := 1) sc__law_refused.nd pd_bl)
      (ssd_cons (sd_tryAs (i := 2) T.x_RoadError (aL_cons T.su_NoMessage_RoadError aL_nil) rfl ⟨rfl, rfl⟩ sc__law_refused.nd (ssd_one (sd_expr (pd_calC h_joined (hr.mono (by decide)) rfl passE (pad_cons (pd_var 0) pad_nil) (dl_cons dl_nil)))) (fun _ => (ssd_one (sd_set (i := 1) sc__law_refused.nd (pd_and (pd_isX (pd_var 2) rfl T.b_isinstance rfl T.x_NoMessage (aL_cons (ansX_own T.ai_NoMessage_NoMessage) aL_nil)) (pd_one (pd_isXT (pd_var 2) rfl T.b_isinstance rfl T.b_ValueError PyProof.Rows.Boot.«ValueError» (aL_cons (ansX_type T.at_NoMessage_ValueError (by decide +kernel)) aL_nil))))))))
      (ssd_one (sd_ret (pd_var 1)))))
theorem sc_pieces_of : FnScope ["message", "most", "size", "pieces", "rest"] ["message", "most"] (defScope s_pieces_of) := ⟨rfl, rfl, rfl, by decide +kernel, rfl, by decide +kernel, by decide +kernel⟩
noncomputable def cd_pieces_of (fuel : Nat) : TSt := (sSeq (sAsg (dCall maxD (dCons (dVar 1) (dCons (dC (.int 1)) dNil))) (gN 2))
  (sSeq (sAsg (dLst dNil) (gN 3))
  (sSeq (sAsg (dVar 0) (gN 4))
  (sSeq (sWhile (dTest (dOp gtD (dCall lenD (dCons (dVar 4) dNil)) (dVar 2))) (sSeq (sDrop (dBM appD (dVar 3) (dCons (dTup (dCons (dC (.int 0)) (dCons (dSl slD (dVar 4) dNoPart (dPart (dVar 2))) dNil))) dNil)))
  (sAsg (dSl slD (dVar 4) (dPart (dVar 2)) dNoPart) (gN 4))) fuel)
  (sSeq (sDrop (dBM appD (dVar 3) (dCons (dTup (dCons (dC (.int 1)) (dCons (dVar 4) dNil))) dNil)))
  (sRet (dCall tupleD (dCons (dVar 3) dNil))))))))
noncomputable def F_pieces_of : List D → M D := fun xs S => finP S (cd_pieces_of 100 (xs.map some ++ List.replicate (5 - xs.length) none) S)
theorem ok_pieces_of {G : Cs} (T : Txt K mg G) {f : Addr} {fd : FuncData} (F : Fun K "pieces_of" "pieces_of" s_pieces_of f fd) : FnD P w K mg base (CXE P w) 1 f fd ["message", "most"] F_pieces_of := by
  refine fnD_of F sc_pieces_of (fun _ _ _ _ _ _ => leavesE) (fun cdv A outer s H E hr => ⟨cd_pieces_of 100, ?_, fun xs S0 hl => fend_finP⟩)
  have hu := hr.units
  have hfu : (100 : Nat) = 100 := rfl
  generalize hfe : (100 : Nat) = fuel at hfu
  exact (ssd_cons (sd_set (i := 2) sc_pieces_of.nd (pd_callB (cd_max rfl) rfl T.b_max boot_max (pad_cons (pd_var 1) (pad_cons pd_int pad_nil))))
      (ssd_cons (sd_set (i := 3) sc_pieces_of.nd (pd_lst pad_nil))
      (ssd_cons (sd_set (i := 4) sc_pieces_of.nd (pd_var 0))
      (ssd_cons (sd_while fuel (pt_cmpD od_gt (pd_callB cd_len rfl T.b_len PySem.boot_len (pad_cons (pd_var 4) pad_nil)) (pd_var 2) (nomark _)) (ssd_cons (sd_expr (pd_bmL PySem.F.slot_list_append PySem.F.type_list_append md_append (pd_var 3) (pad_cons (pd_tup (pad_cons pd_int (pad_cons (pd_slice sld (pd_var 4) pod_none (pod_some (pd_var 2))) pad_nil))) pad_nil)))
      (ssd_one (sd_set (i := 4) sc_pieces_of.nd (pd_slice sld (pd_var 4) (pod_some (pd_var 2)) pod_none)))))
      (ssd_cons (sd_expr (pd_bmL PySem.F.slot_list_append PySem.F.type_list_append md_append (pd_var 3) (pad_cons (pd_tup (pad_cons pd_int (pad_cons (pd_var 4) pad_nil))) pad_nil)))
      (ssd_one (sd_ret (pd_callTy cd_tuple rfl T.b_tuple boot_tuple (pad_cons (pd_var 3) pad_nil)))))))))
theorem sc__law_pieces : FnScope ["_law_message_here", "_law_most", "_law_found", "_law_at"] ["_law_message_here", "_law_most"] (defScope s__law_pieces) := ⟨rfl, rfl, rfl, by decide +kernel, rfl, by decide +kernel, by decide +kernel⟩
noncomputable def bd__law_pieces_1 : TSt := (sDrop (dBM appD (dVar 2) (dCons (dTup (dCons (dCall intD (dCons (dOp geD (dOp addD (dVar 3) (dVar 1)) (dCall lenD (dCons (dVar 0) dNil))) dNil)) (dCons (dSl slD (dVar 0) (dPart (dVar 3)) (dPart (dOp addD (dVar 3) (dVar 1)))) dNil))) dNil)))
noncomputable def cd__law_pieces : TSt := (sSeq (sAsg (dLst dNil) (gN 2))
  (sSeq (sFor (dRng3 (dC (.int 0)) (dCall maxD (dCons (dC (.int 1)) (dCons (dCall lenD (dCons (dVar 0) dNil)) dNil))) (dVar 1)) (gN 3) bd__law_pieces_1)
  (sRet (dVar 2))))
noncomputable def F__law_pieces : List D → M D := fun xs S => fin S (cd__law_pieces (xs.map some ++ List.replicate (4 - xs.length) none) S)
theorem ok__law_pieces {G : Cs} (T : Txt K mg G) {f : Addr} {fd : FuncData} (F : Fun K "_law_pieces" "_law_pieces" s__law_pieces f fd) : FnD P w K mg base (CXE P w) 1 f fd ["_law_message_here", "_law_most"] F__law_pieces := by
  refine fnD_of F sc__law_pieces (fun _ _ _ _ _ _ => leavesE) (fun cdv A outer s H E hr => ⟨cd__law_pieces, ?_, fun xs S0 hl => fend_fin⟩)
  have hu := hr.units
  exact (ssd_cons (sd_set (i := 2) sc__law_pieces.nd (pd_lst pad_nil))
      (ssd_cons (sd_for rfl (pid_range3 rfl T.b_range pd_int (pd_callB (cd_max rfl) rfl T.b_max boot_max (pad_cons pd_int (pad_cons (pd_callB cd_len rfl T.b_len PySem.boot_len (pad_cons (pd_var 0) pad_nil)) pad_nil))) (pd_var 1)) (gd_name (i := 3) sc__law_pieces.nd) (ssd_one (sd_expr (pd_bmL PySem.F.slot_list_append PySem.F.type_list_append md_append (pd_var 2) (pad_cons (pd_tup (pad_cons (pd_callTy cd_int rfl T.b_int boot_int (pad_cons (pd_cmp od_ge (pd_op od_add (pd_var 3) (pd_var 1)) (pd_callB cd_len rfl T.b_len PySem.boot_len (pad_cons (pd_var 0) pad_nil)) (nomark _)) pad_nil)) (pad_cons (pd_slice sld (pd_var 0) (pod_some (pd_var 3)) (pod_some (pd_op od_add (pd_var 3) (pd_var 1)))) pad_nil))) pad_nil)))))
      (ssd_one (sd_ret (pd_var 2)))))
theorem sc_law : FnScope ["_law_script", "_law_message_here", "_law_most", "_law_row", "_law_whole", "_law_piece", "_law_at", "_law_bad", "_law_long"] ["_law_script"] (defScope s_law) := ⟨rfl, rfl, rfl, by decide +kernel, rfl, by decide +kernel, by decide +kernel⟩
noncomputable def bd_law_1 (G : Cs) : TSt := (sAsg (dOp addD (dVar 4) (dOp ixD (dVar 5) (dC (.int 1)))) (gN 4))
noncomputable def cd_law (G : Cs) : TSt := (sSeq (sAsg (dCall F__law_message (dCons (dCall F__law_cell (dCons (dVar 0) (dCons (dC (.int 0)) dNil))) (dCons (dC (.int 40)) dNil))) (gN 1))
  (sSeq (sAsg (dOp addD (dC (.int 1)) (dOp modD (dCall F__law_cell (dCons (dVar 0) (dCons (dC (.int 1)) dNil))) (dC (.int 8)))) (gN 2))
  (sSeq (sIf (dOr (dTest (dOp neD (dCall (F_joined G) (dCons (dCall F_pieces_of (dCons (dVar 1) (dCons (dVar 2) dNil))) dNil)) (dVar 1))) (dTest (dOp neD (dCall (F_joined G) (dCons (dCall tupleD (dCons (dCall F__law_pieces (dCons (dVar 1) (dCons (dOp subD (dC (.int 9)) (dVar 2)) dNil))) dNil)) dNil)) (dVar 1)))) (sRet (dC (.bl false))) sNext)
  (sSeq (sAsg (dOp addD (dComp (dWk (dSl slD (dVar 0) (dPart (dC (.int 2))) (dPart (dC (.int 8))))) (gN 0) dYes (dTup (dCons (dC (.int 0)) (dCons (dCall F__law_message (dCons (dVar 0) (dCons (dC (.int 5)) dNil))) dNil))) 1 []) (dLst (dCons (dTup (dCons (dC (.int 1)) (dCons (dCall F__law_message (dCons (dCall F__law_cell (dCons (dVar 0) (dCons (dC (.int 8)) dNil))) (dCons (dC (.int 5)) dNil))) dNil))) dNil))) (gN 3))
  (sSeq (sAsg (dTup dNil) (gN 4))
  (sSeq (sFor (dWk (dVar 3)) (gN 5) (bd_law_1 G))
  (sSeq (sIf (dTest (dOp neD (dCall (F_joined G) (dCons (dCall tupleD (dCons (dVar 3) dNil)) dNil)) (dVar 4))) (sRet (dC (.bl false))) sNext)
  (sSeq (sAsg (dOp modD (dCall F__law_cell (dCons (dVar 0) (dCons (dC (.int 9)) dNil))) (dCall lenD (dCons (dVar 3) dNil))) (gN 6))
  (sSeq (sAsg (dCall listD (dCons (dVar 3) dNil)) (gN 7))
  (sSeq (sPut putLD (dVar 7) (dVar 6) (dTup (dCons (dOp subD (dC (.int 1)) (dOp ixD (dOp ixD (dVar 3) (dVar 6)) (dC (.int 0)))) (dCons (dOp ixD (dOp ixD (dVar 3) (dVar 6)) (dC (.int 1))) dNil))))
  (sSeq (sAsg (dCall tupleD (dCons (dComp (dRng1 (dC (.int 40))) (gN 0) dYes (dTup (dCons (dC (.int 0)) (dCons (dTup (dCons (dVar 0) dNil)) dNil))) 1 []) dNil)) (gN 8))
  (sSeq (sIf (dOr (dNot (dTru (dCall (F__law_refused G) (dCons (dCall tupleD (dCons (dVar 7) dNil)) dNil)))) (dOr (dNot (dTru (dCall (F__law_refused G) (dCons (dTup dNil) dNil)))) (dNot (dTru (dCall (F__law_refused G) (dCons (dCall tupleD (dCons (dSl slD (dVar 3) dNoPart (dPart (dUn negD (dC (.int 1))))) dNil)) dNil)))))) (sRet (dC (.bl false))) sNext)
  (sRet (dAndV (dOp eqD (dCall (F_joined G) (dCons (dOp addD (dVar 8) (dTup (dCons (dTup (dCons (dC (.int 1)) (dCons (dTup dNil) dNil))) dNil))) dNil)) (dCall tupleD (dCons (dLR 40) dNil))) (dCall (F__law_refused G) (dCons (dOp addD (dVar 8) (dTup (dCons (dTup (dCons (dC (.int 1)) (dCons (dTup (dCons (dC (.int 7)) dNil)) dNil))) dNil))) dNil))))))))))))))))
noncomputable def F_law (G : Cs) : List D → M D := fun xs S => fin S (cd_law G (xs.map some ++ List.replicate (9 - xs.length) none) S)
theorem ok_law {G : Cs} (T : Txt K mg G) (h__law_cell : Cal P w K mg base (CXE P w) "_law_cell" 1 ["_law_script", "_law_k"] F__law_cell) (h__law_message : Cal P w K mg base (CXE P w) "_law_message" 2 ["_law_cell_here", "_law_longest"] F__law_message) (h_pieces_of : Cal P w K mg base (CXE P w) "pieces_of" 1 ["message", "most"] F_pieces_of) (h_joined : Cal P w K mg base (CXE P w) "joined" 2 ["pieces"] (F_joined G)) (h__law_pieces : Cal P w K mg base (CXE P w) "_law_pieces" 1 ["_law_message_here", "_law_most"] F__law_pieces) (h__law_refused : Cal P w K mg base (CXE P w) "_law_refused" 3 ["_law_pieces_here"] (F__law_refused G)) {f : Addr} {fd : FuncData} (F : Fun K "law" "law" s_law f fd) : FnD P w K mg base (CXE P w) 4 f fd ["_law_script"] (F_law G) := by
  refine fnD_of F sc_law (fun _ _ _ _ _ _ => leavesE) (fun cdv A outer s H E hr => ⟨cd_law G, ?_, fun xs S0 hl => fend_fin⟩)
  have hu := hr.units
  exact (ssd_cons (sd_set (i := 1) sc_law.nd (pd_calC h__law_message (hr.mono (by decide)) rfl passE (pad_cons (pd_calC h__law_cell (hr.mono (by decide)) rfl passE (pad_cons (pd_var 0) (pad_cons pd_int pad_nil)) (dl_cons (dl_cons dl_nil))) (pad_cons pd_int pad_nil)) (dl_cons (dl_cons dl_nil))))
      (ssd_cons (sd_set (i := 2) sc_law.nd (pd_op od_add pd_int (pd_op od_mod (pd_calC h__law_cell (hr.mono (by decide)) rfl passE (pad_cons (pd_var 0) (pad_cons pd_int pad_nil)) (dl_cons (dl_cons dl_nil))) pd_int)))
      (ssd_cons (sd_if (PWd.pt (pwd_or (pt_cmpD (od_ne hu) (pd_calC h_joined (hr.mono (by decide)) rfl passE (pad_cons (pd_calC h_pieces_of (hr.mono (by decide)) rfl passE (pad_cons (pd_var 1) (pad_cons (pd_var 2) pad_nil)) (dl_cons (dl_cons dl_nil))) pad_nil) (dl_cons dl_nil)) (pd_var 1) (nomark _)) (pwd_or1 (pt_cmpD (od_ne hu) (pd_calC h_joined (hr.mono (by decide)) rfl passE (pad_cons (pd_callTy cd_tuple rfl T.b_tuple boot_tuple (pad_cons (pd_calC h__law_pieces (hr.mono (by decide)) rfl passE (pad_cons (pd_var 1) (pad_cons (pd_op od_sub pd_int (pd_var 2)) pad_nil)) (dl_cons (dl_cons dl_nil))) pad_nil)) pad_nil) (dl_cons dl_nil)) (pd_var 1) (nomark _))))) (ssd_one (sd_ret pd_bl)) ssd_nil)
      (ssd_cons (sd_set (i := 3) sc_law.nd (pd_op od_add (pd_comp (own := ["_law_cell_here"]) (capN := []) (caps := []) ⟨rfl, ClOk.all trivial, rfl, by decide +kernel, rfl, by decide +kernel, trivial, by decide +kernel⟩ rfl (pid_seq (pd_slice sld (pd_var 0) (pod_some pd_int) (pod_some pd_int))) (tgOwn_N (by decide)) (fun C s2 H2 fp => ⟨(gd_name (i := 0) (show (["_law_cell_here"] : List Str).Nodup from by decide +kernel)), pf_nil, (pd_tup (pad_cons pd_int (pad_cons (pd_calC h__law_message (hr.mono (by decide)) rfl passE (pad_cons (pd_var 0) (pad_cons pd_int pad_nil)) (dl_cons (dl_cons dl_nil))) pad_nil)))⟩)) (pd_lst (pad_cons (pd_tup (pad_cons pd_int (pad_cons (pd_calC h__law_message (hr.mono (by decide)) rfl passE (pad_cons (pd_calC h__law_cell (hr.mono (by decide)) rfl passE (pad_cons (pd_var 0) (pad_cons pd_int pad_nil)) (dl_cons (dl_cons dl_nil))) (pad_cons pd_int pad_nil)) (dl_cons (dl_cons dl_nil))) pad_nil))) pad_nil))))
      (ssd_cons (sd_set (i := 4) sc_law.nd (pd_tup pad_nil))
      (ssd_cons (sd_for rfl (pid_seq (pd_var 3)) (gd_name (i := 5) sc_law.nd) (ssd_one (sd_set (i := 4) sc_law.nd (pd_op od_add (pd_var 4) (pd_ix ixd (pd_var 5) pd_int (fun _ _ => rfl))))))
      (ssd_cons (sd_if (pt_cmpD (od_ne hu) (pd_calC h_joined (hr.mono (by decide)) rfl passE (pad_cons (pd_callTy cd_tuple rfl T.b_tuple boot_tuple (pad_cons (pd_var 3) pad_nil)) pad_nil) (dl_cons dl_nil)) (pd_var 4) (nomark _)) (ssd_one (sd_ret pd_bl)) ssd_nil)
      (ssd_cons (sd_set (i := 6) sc_law.nd (pd_op od_mod (pd_calC h__law_cell (hr.mono (by decide)) rfl passE (pad_cons (pd_var 0) (pad_cons pd_int pad_nil)) (dl_cons (dl_cons dl_nil))) (pd_callB cd_len rfl T.b_len PySem.boot_len (pad_cons (pd_var 3) pad_nil))))
      (ssd_cons (sd_set (i := 7) sc_law.nd (pd_callTy cd_list rfl T.b_list boot_list (pad_cons (pd_var 3) pad_nil)))
      (ssd_cons (sd_put std_lst (pd_var 7) (pd_var 6) (pd_tup (pad_cons (pd_op od_sub pd_int (pd_ix ixd (pd_ix ixd (pd_var 3) (pd_var 6) (fun _ _ => rfl)) pd_int (fun _ _ => rfl))) (pad_cons (pd_ix ixd (pd_ix ixd (pd_var 3) (pd_var 6) (fun _ _ => rfl)) pd_int (fun _ _ => rfl)) pad_nil))))
      (ssd_cons (sd_set (i := 8) sc_law.nd (pd_callTy cd_tuple rfl T.b_tuple boot_tuple (pad_cons (pd_comp (own := ["_law_k"]) (capN := []) (caps := []) ⟨rfl, ClOk.all trivial, rfl, by decide +kernel, rfl, by decide +kernel, trivial, by decide +kernel⟩ rfl (pid_range1 rfl T.b_range pd_int) (tgOwn_N (by decide)) (fun C s2 H2 fp => ⟨(gd_name (i := 0) (show (["_law_k"] : List Str).Nodup from by decide +kernel)), pf_nil, (pd_tup (pad_cons pd_int (pad_cons (pd_tup (pad_cons (pd_var 0) pad_nil)) pad_nil)))⟩)) pad_nil)))
      (ssd_cons (sd_if (PWd.pt (pwd_or (ptd_not (pt_truD (pd_calC h__law_refused (hr.mono (by decide)) rfl passE (pad_cons (pd_callTy cd_tuple rfl T.b_tuple boot_tuple (pad_cons (pd_var 7) pad_nil)) pad_nil) (dl_cons dl_nil)))) (pwd_or (ptd_not (pt_truD (pd_calC h__law_refused (hr.mono (by decide)) rfl passE (pad_cons (pd_tup pad_nil) pad_nil) (dl_cons dl_nil)))) (pwd_or1 (ptd_not (pt_truD (pd_calC h__law_refused (hr.mono (by decide)) rfl passE (pad_cons (pd_callTy cd_tuple rfl T.b_tuple boot_tuple (pad_cons (pd_slice sld (pd_var 3) pod_none (pod_some (pd_un ud_neg pd_int))) pad_nil)) pad_nil) (dl_cons dl_nil)))))))) (ssd_one (sd_ret pd_bl)) ssd_nil)
      (ssd_one (sd_ret (pd_and (pd_cmp (od_eq hu) (pd_calC h_joined (hr.mono (by decide)) rfl passE (pad_cons (pd_op od_add (pd_var 8) (pd_tup (pad_cons (pd_tup (pad_cons pd_int (pad_cons (pd_tup pad_nil) pad_nil))) pad_nil))) pad_nil) (dl_cons dl_nil)) (pd_callTy cd_tuple rfl T.b_tuple boot_tuple (pad_cons (pd_lrange (n := 40) rfl T.b_list rfl T.b_range rfl (by decide) (by decide) (by decide)) pad_nil)) (nomark _)) (pd_one (pd_calC h__law_refused (hr.mono (by decide)) rfl passE (pad_cons (pd_op od_add (pd_var 8) (pd_tup (pad_cons (pd_tup (pad_cons pd_int (pad_cons (pd_tup (pad_cons pd_int pad_nil)) pad_nil))) pad_nil))) pad_nil) (dl_cons dl_nil))))))))))))))))))
end
end Lw
namespace Lw
abbrev Msg := List Int
abbrev Pc := Int × List Int
inductive Card where
  | hello (o : Nat) | welcome (o : Nat) | who (o : Nat) | data (o n : Nat) (p : Pc) | note (o n : Nat) (bs : List Int)
  deriving DecidableEq
def cutF (k : Nat) : Nat → Msg → List Pc
  | 0, m => [(1, m)]
  | n + 1, m => if k < m.length then (0, m.take k) :: cutF k n (m.drop k) else [(1, m)]
def cutP (k : Nat) (m : Msg) : List Pc := cutF k 100 m
def letters (ps : List Pc) : Msg := ps.flatMap (·.2)
def lasts (ps : List Pc) : Nat := (ps.filter fun p => decide (p.1 = 1)).length
def near (num low : Int) (w : Nat) : Int := low + (num - low) % (2 * (w : Int))
structure Hr where
  w : Nat
  given : List (Nat × Msg)
  op : Nat
  nx : Nat
  early : List (Nat × Pc)
  begun : List Pc
namespace Hr
def new (w : Nat) : Hr := ⟨w, [], 0, 0, [], []⟩
def idx (h : Hr) (num : Nat) : Int := near num ((h.nx : Int) - h.w) h.w
def keep (h : Hr) (num : Nat) (p : Pc) : Hr := if num < 2 * h.w ∧ (h.nx : Int) ≤ h.idx num ∧ h.early.lookup (h.idx num).toNat = none then { h with early := h.early ++ [((h.idx num).toNat, p)] } else h
def take (h : Hr) (p : Pc) : Hr := if p.1 = 1 then { h with given := h.given ++ [(h.op, letters (h.begun ++ [p]))], begun := [] } else { h with begun := h.begun ++ [p] }
def pop (h : Hr) : Hr := { h with early := h.early.filter fun e => decide (e.1 ≠ h.nx), nx := h.nx + 1 }
def takeAll : Nat → Hr → Hr
  | 0, h => h
  | n + 1, h => match h.early.lookup h.nx with
    | none => h
    | some p => takeAll n (h.pop.take p)
def bits (h : Hr) : List Int := (List.range h.w).map fun k => if (h.early.lookup (h.nx + k)).isSome then 1 else 0
def note (h : Hr) : Card := .note h.op (h.nx % (2 * h.w)) h.bits
def data (h : Hr) (num : Nat) (p : Pc) : Hr := takeAll (h.keep num p).early.length (h.keep num p)
end Hr
inductive St where
  | shut | opening | opened
  deriving DecidableEq
structure Sr where
  w : Nat
  most : Nat
  msgs : List Msg
  sure : Nat
  op : Nat
  st : St
  ps : List Pc
  base : Nat
  noted : List Nat
namespace Sr
def new (w most : Nat) : Sr := ⟨w, most, [], 0, 0, .shut, [], 0, []⟩
def anew (s : Sr) : Sr := { s with op := s.op + 1, st := .opening, ps := (s.msgs.drop s.sure).flatMap (cutP s.most), base := 0, noted := [] }
def start (s : Sr) : Sr := if s.st = .shut then s.anew else s
end Sr
end Lw
namespace Lw
theorem letters_append (a b : List Pc) : letters (a ++ b) = letters a ++ letters b := by simp [letters]
theorem letters_one (p : Pc) : letters [p] = p.2 := by simp [letters]
theorem cutF_spec (k : Nat) : ∀ (n : Nat) (m : Msg), ∃ pre l, cutF k n m = pre ++ [(1, l)] ∧ (∀ p ∈ pre, p.1 = 0) ∧ letters pre ++ l = m
  | 0, m => ⟨[], m, rfl, by simp, by simp [letters]⟩
  | n + 1, m => by
    unfold cutF
    split
    · obtain ⟨pre, l, h1, h2, h3⟩ := cutF_spec k n (m.drop k)
      refine ⟨(0, m.take k) :: pre, l, by rw [h1]; rfl, ?_, ?_⟩
      · intro p hp
        rcases List.mem_cons.mp hp with rfl | hp
        · rfl
        · exact h2 p hp
      · rw [show letters ((0, m.take k) :: pre) = m.take k ++ letters pre by simp [letters], List.append_assoc, h3, List.take_append_drop]
    · exact ⟨[], m, rfl, by simp, by simp [letters]⟩
theorem cutP_spec (k : Nat) (m : Msg) : ∃ pre l, cutP k m = pre ++ [(1, l)] ∧ (∀ p ∈ pre, p.1 = 0) ∧ letters pre ++ l = m := cutF_spec k 100 m
def fl (k : Nat) (ms : List Msg) : List Pc := ms.flatMap (cutP k)
end Lw
namespace Lw
open PySem L2 DL
def pcD (p : Pc) : D := .tup [.int p.1, .tup (p.2.map D.int)]
def msgD (m : Msg) : D := .tup (m.map D.int)
theorem wfDs_ints (n : Nat) : ∀ is : List Int, wfDs n (is.map D.int)
  | [] => by simp [wfDs]
  | i :: is => by simp [wfDs, wfD, wfDs_ints n is]
theorem wf_msg (n : Nat) (x : Msg) : wfD n (msgD x) := by simp [msgD, wfD, wfDs_ints]
theorem wf_pc (n : Nat) (p : Pc) : wfD n (pcD p) := by simp [pcD, wfD, wfDs, wfDs_ints]
theorem wf_pcs (n : Nat) : ∀ ps : List Pc, wfDs n (ps.map pcD)
  | [] => by simp [wfDs]
  | p :: ps => by rw [List.map_cons]; exact ⟨wf_pc n p, wf_pcs n ps⟩
end Lw
namespace Lw
open PySem L2 DL
theorem cutF_len {k : Nat} (hk : 1 ≤ k) : ∀ (n : Nat) (m : Msg), (cutF k n m).length ≤ m.length + 1
  | 0, m => by simp [cutF]
  | n + 1, m => by
    unfold cutF
    split
    · have := cutF_len hk n (m.drop k)
      rw [List.length_drop] at this
      rw [List.length_cons]
      omega
    · simp
theorem cutP_len {k : Nat} (hk : 1 ≤ k) (m : Msg) : (cutP k m).length ≤ m.length + 1 := cutF_len hk 100 m
theorem loop_pieces {k : Nat} (hk : 1 ≤ k) {x0 x1 : Option D} {S : List Cell} : ∀ (fuel : Nat) (acc : List Pc) (m : Msg), m.length < fuel → acc.length + m.length < 1000000 → ∃ pre l, cutF k fuel m = pre ++ [(1, l)] ∧ pre.length ≤ m.length ∧
    sWhile (dTest (dOp gtD (dCall lenD (dCons (dVar 4) dNil)) (dVar 2))) (sSeq (sDrop (dBM appD (dVar 3) (dCons (dTup (dCons (dC (.int 0)) (dCons (dSl slD (dVar 4) dNoPart (dPart (dVar 2))) dNil))) dNil)))
  (sAsg (dSl slD (dVar 4) (dPart (dVar 2)) dNoPart) (gN 4))) fuel [x0, x1, some (.int (k : Int)), some (.ob S.length), some (msgD m)] (S ++ [.lst (acc.map pcD)]) = some (.nx [x0, x1, some (.int (k : Int)), some (.ob S.length), some (msgD l)], S ++ [.lst ((acc ++ pre).map pcD)])
  | 0, _, _, h, _ => by omega
  | f + 1, acc, m, h, hz => by
    have t1 : dTest (dOp gtD (dCall lenD (dCons (dVar 4) dNil)) (dVar 2)) [x0, x1, some (.int (k : Int)), some (.ob S.length), some (msgD m)] (S ++ [.lst (acc.map pcD)]) = .ok (decide (k < m.length)) (S ++ [.lst (acc.map pcD)]) := by
      refine ev_test (ev_op (x := .int (m.length : Int)) (ev_call (ev_cons rfl ev_nil) (by unfold msgD; rw [e_len_tup, List.length_map])) rfl ?_)
      rw [e_gt]
      congr 2
      rw [decide_eq_decide]
      omega
    by_cases hc : k < m.length
    · rw [decide_eq_true hc] at t1
      obtain ⟨pre, l, p1, p2, p3⟩ := loop_pieces (x0 := x0) (x1 := x1) (S := S) hk f (acc ++ [(0, m.take k)]) (m.drop k) (by rw [List.length_drop]; omega) (by rw [List.length_append, List.length_drop, List.length_singleton]; omega)
      refine ⟨(0, m.take k) :: pre, l, ?_, ?_, ?_⟩
      · rw [cutF, if_pos hc, p1]
        rfl
      · rw [List.length_drop] at p2
        rw [List.length_cons]
        omega
      · have c1 : cutD (m.map D.int) none (some (k : Int)) = (m.take k).map D.int := by rw [cutD_take (by simp; omega), List.map_take]
        have c2 : cutD (m.map D.int) (some (k : Int)) none = (m.drop k).map D.int := by rw [cutD_drop (by simp; omega), List.map_drop]
        have s1 : ∀ T, dSl slD (dVar 4) dNoPart (dPart (dVar 2)) [x0, x1, some (.int (k : Int)), some (.ob S.length), some (msgD m)] T = .ok (msgD (m.take k)) T := fun T => by
          simp only [e_dSl, e_bind, e_dVar, List.getElem?_cons_succ, List.getElem?_cons_zero, e_dNoPart, e_ret, e_dPart, e_intOf, msgD, slD, c1]
        have s2 : ∀ T, dSl slD (dVar 4) (dPart (dVar 2)) dNoPart [x0, x1, some (.int (k : Int)), some (.ob S.length), some (msgD m)] T = .ok (msgD (m.drop k)) T := fun T => by
          simp only [e_dSl, e_bind, e_dVar, List.getElem?_cons_succ, List.getElem?_cons_zero, e_dNoPart, e_ret, e_dPart, e_intOf, msgD, slD, c2]
        have hset : ∀ a c : Cell, (S ++ [a]).set S.length c = S ++ [c] := fun a c => by rw [List.set_append_right _ _ (Nat.le_refl _)]; simp
        have ee := e_app (S := S ++ [.lst (acc.map pcD)]) (n := S.length) (xs := acc.map pcD) (d := pcD (0, m.take k)) (push_at rfl) (by simp; omega)
        rw [hset] at ee
        have e2 : acc.map pcD ++ [pcD (0, m.take k)] = (acc ++ [(0, m.take k)]).map pcD := by simp
        rw [e2] at ee
        rw [wh_T t1 (r2 := [x0, x1, some (.int (k : Int)), some (.ob S.length), some (msgD (m.drop k))]) (S2 := S ++ [.lst ((acc ++ [(0, m.take k)]).map pcD)])]
        · rw [p3]
          simp
        · rw [go_seq (go_drop (ev_bm rfl (push_at rfl) (ev_cons (ev_tup (ev_cons rfl (ev_cons (s1 _) ev_nil)) (by simp)) ev_nil) ee)), go_asg (s2 _)]
          rfl
    · rw [decide_eq_false hc] at t1
      refine ⟨[], m, by rw [cutF, if_neg hc]; rfl, by simp, ?_⟩
      rw [wh_F t1, List.append_nil]
theorem pieces_eq {k : Nat} (hk : 1 ≤ k) {m : Msg} (hm : m.length ≤ 40) (S : List Cell) : F_pieces_of [msgD m, .int (k : Int)] S = .ok (.tup ((cutP k m).map pcD)) S := by
  show finP S (cd_pieces_of 100 [some (msgD m), some (.int (k : Int)), none, none, none] S) = _
  unfold cd_pieces_of
  have hmax : maxD [.int (k : Int), .int 1] S = .ok (.int (k : Int)) S := by
    rw [e_max]
    congr 2
    omega
  rw [go_seq (go_asg (ev_call (ev_cons rfl (ev_cons rfl ev_nil)) hmax))]
  show finP S (sSeq _ _ [some (msgD m), some (.int (k : Int)), some (.int (k : Int)), none, none] S) = _
  rw [go_seq (go_asg (ev_lst ev_nil (by decide)))]
  show finP S (sSeq _ _ [some (msgD m), some (.int (k : Int)), some (.int (k : Int)), some (.ob S.length), none] (S ++ [.lst []])) = _
  rw [go_seq (go_asg (d := msgD m) rfl)]
  show finP S (sSeq _ _ [some (msgD m), some (.int (k : Int)), some (.int (k : Int)), some (.ob S.length), some (msgD m)] (S ++ [.lst []])) = _
  obtain ⟨pre, l, p1, p2, p3⟩ := loop_pieces (x0 := some (msgD m)) (x1 := some (.int (k : Int))) (S := S) hk 100 [] m (by omega) (by simp; omega)
  rw [List.map_nil] at p3
  have hset : ∀ a c : Cell, (S ++ [a]).set S.length c = S ++ [c] := fun a c => by rw [List.set_append_right _ _ (Nat.le_refl _)]; simp
  have ee := e_app (S := S ++ [.lst (pre.map pcD)]) (n := S.length) (xs := pre.map pcD) (d := pcD (1, l)) (push_at rfl) (by simp; omega)
  rw [hset] at ee
  have e2 : pre.map pcD ++ [pcD (1, l)] = (cutP k m).map pcD := by unfold cutP; rw [p1]; simp
  rw [e2] at ee
  rw [go_seq p3, List.nil_append, go_seq (go_drop (ev_bm rfl (push_at rfl) (ev_cons (ev_tup (ev_cons rfl (ev_cons rfl ev_nil)) (by simp)) ev_nil) ee)), go_ret (ev_call (ev_cons (x := .ob S.length) rfl ev_nil) (e_tuple_ob (push_at rfl)))]
  exact finP_rt (by unfold wfD; exact wf_pcs _ _)
end Lw
namespace Lw
open PySem L2 DL
def cv (ns : List Int) (k : Nat) : Int := ns.getD k 0
theorem cell_eq {ns : List Int} {k : Nat} (S : List Cell) : F__law_cell [.rol (ns.map D.int), .int k] S = .ok (.int (cv ns k)) S := by
  unfold cv
  by_cases h : k < ns.length
  · have e1 : atI (ns.map D.int) (k : Int) = some (.int (ns.getD k 0)) := atI_nat (by simp [List.getD, h])
    simp [F__law_cell, cd__law_cell, lenD, seqD, ixD, e1, h]
  · have e1 : ns.getD k 0 = 0 := by simp [List.getD, h]
    simp [F__law_cell, cd__law_cell, lenD, seqD, ixD, e1, h]
theorem cell0 {ns : List Int} (S : List Cell) : F__law_cell [.rol (ns.map D.int), .int 0] S = .ok (.int (cv ns 0)) S := cell_eq (k := 0) S
theorem cell1 {ns : List Int} (S : List Cell) : F__law_cell [.rol (ns.map D.int), .int 1] S = .ok (.int (cv ns 1)) S := cell_eq (k := 1) S
end Lw
namespace Lw
open PySem L2 DL
theorem mix_eq {a p m : Int} (hp : 0 < p) (hm : 0 < m) (S : List Cell) : F__law_mix [.int a, .int p, .int m] S = .ok (.int (a * 48271 % p % m)) S := by
  have h1 : CMul a 48271 := .inr ⟨by decide, by decide⟩
  simp [F__law_mix, cd__law_mix, e_mul_int h1, e_mod_int hp, e_mod_int hm]
def mx (a : Int) (p m : Nat) : Nat := (a * 48271 % p % m).toNat
theorem mx_lt (a : Int) {p m : Nat} (hm : 0 < m) : mx a p m < m := by
  unfold mx
  have h1 := Int.emod_nonneg (a * 48271 % p) (show (m : Int) ≠ 0 by omega)
  have h2 := Int.emod_lt_of_pos (a * 48271 % p) (show (0 : Int) < m by omega)
  omega
theorem mix_nat (a : Int) {p m : Nat} (hp : 0 < p) (hm : 0 < m) (S : List Cell) : F__law_mix [.int a, .int (p : Int), .int (m : Int)] S = .ok (.int (mx a p m : Nat)) S := by
  rw [mix_eq (by omega) (by omega)]
  unfold mx
  have h1 := Int.emod_nonneg (a * 48271 % p) (show (m : Int) ≠ 0 by omega)
  rw [Int.toNat_of_nonneg h1]
theorem ev_mix {f : DSt → M D} {r : DSt} {S : List Cell} {a : Int} (p m : Nat) (hf : f r S = .ok (.int a) S) (hp : 0 < p := by decide) (hm : 0 < m := by decide) : dCall F__law_mix (dCons f (dCons (dC (.int (p : Int))) (dCons (dC (.int (m : Int))) dNil))) r S = .ok (.int (mx a p m : Nat)) S :=
  ev_call (ev_cons hf (ev_cons rfl (ev_cons rfl ev_nil))) (mix_nat a hp hm S)
end Lw
namespace Lw
open PySem L2 DL
def msgOf (c : Int) (L : Nat) : Msg := (List.range (mx c 9973 (L + 1))).map fun (k : Nat) => ((mx (c + 31 * k) 9967 256 : Nat) : Int)
theorem msgOf_len (c : Int) (L : Nat) : (msgOf c L).length ≤ L := by
  have := mx_lt c (p := 9973) (m := L + 1) (by omega)
  unfold msgOf
  rw [List.length_map, List.length_range]
  omega
theorem message_eq (c : Int) (L : Nat) (hL : L ≤ 1000) (S : List Cell) : F__law_message [.int c, .int (L : Int)] S = .ok (msgD (msgOf c L)) S := by
  show finP S (cd__law_message [some (.int c), some (.int (L : Int)), none] S) = _
  unfold cd__law_message
  have m1 : dCall F__law_mix (dCons (dVar 0) (dCons (dC (.int 9973)) (dCons (dOp addD (dVar 1) (dC (.int 1))) dNil))) [some (.int c), some (.int (L : Int)), none] S = .ok (.int (mx c 9973 (L + 1) : Nat)) S :=
    ev_call (ev_cons rfl (ev_cons rfl (ev_cons (x := .int ((L + 1 : Nat) : Int)) (ev_op rfl rfl (by rw [e_add_int]; congr 2)) ev_nil))) (mix_nat c (p := 9973) (m := L + 1) (by decide) (by omega) S)
  rw [go_seq (go_asg m1)]
  have hlt := mx_lt c (p := 9973) (m := L + 1) (by omega)
  obtain ⟨z, hz⟩ : ∃ z, mx c 9973 (L + 1) = z := ⟨_, rfl⟩
  have hm : msgOf c L = (List.range z).map fun (k : Nat) => ((mx (c + 31 * k) 9967 256 : Nat) : Int) := by unfold msgOf; rw [hz]
  rw [hz] at hlt ⊢
  show finP S (sRet _ [some (.int c), some (.int (L : Int)), some (.int (z : Int))] S) = _
  have q1 := ev_comp (f := dRng1 (dVar 2)) (tg := gN 0) (ti := dYes) (fe := dCall F__law_mix (dCons (dOp addD (dVar 1) (dOp mulD (dC (.int 31)) (dVar 0))) (dCons (dC (.int 9967)) (dCons (dC (.int 256)) dNil)))) (own := 1) (caps := [0])
    (r := [some (.int c), some (.int (L : Int)), some (.int (z : Int))]) (S := S) (S1 := S) (w := ⟨rngD 0 1 z, none⟩) (fun _ => true) (fun x => match x with
      | .int k => .int (mx (c + 31 * k) 9967 256 : Nat)
      | _ => .non) (wRng_eq (by omega)) trivial (by simp [rngD]; omega) (by
      intro x hx
      simp only [rngD, List.mem_map, List.mem_range] at hx
      obtain ⟨k, _, rfl⟩ := hx
      refine ⟨_, rfl, fun _ => rfl, fun _ zs => ?_⟩
      show dCall _ _ [some (.int (0 + (k : Int) * 1)), some (.int c)] _ = _
      refine ev_mix 9967 256 (ev_op rfl (ev_op rfl rfl (e_mul_int (.inl ⟨by decide, by decide⟩))) (e_add_int _ _)))
  have hbits : ((rngD 0 1 z).filter fun _ => true).map (fun x => match x with
      | .int k => .int (mx (c + 31 * k) 9967 256 : Nat)
      | _ => .non) = (msgOf c L).map D.int := by
    rw [List.filter_eq_self.mpr (by simp), hm]
    unfold rngD
    rw [List.map_map, List.map_map]
    refine List.map_congr_left fun k _ => ?_
    have hk : 0 + (k : Int) * 1 = (k : Int) := by omega
    simp only [Function.comp_def, hk]
  rw [hbits] at q1
  rw [go_ret (ev_call (ev_cons q1 ev_nil) (e_tuple_ob (push_at rfl)))]
  exact finP_rt (wf_msg _ _)
end Lw
namespace Lw
open PySem L2 DL
section
variable {S : List Cell}
theorem pc_ix0 (p : Pc) (S : List Cell) : ixD (pcD p) (.int 0) S = .ok (.int p.1) S := rfl
theorem pc_ix1 (p : Pc) (S : List Cell) : ixD (pcD p) (.int 1) S = .ok (.tup (p.2.map D.int)) S := rfl
theorem letters_len_take (ps : List Pc) (k : Nat) : (letters (ps.take k)).length ≤ (letters ps).length := by
  have := letters_append (ps.take k) (ps.drop k)
  rw [List.take_append_drop] at this
  rw [this, List.length_append]
  omega
theorem letters_succ {ps : List Pc} {k : Nat} {p : Pc} (h : ps[k]? = some p) : letters (ps.take (k + 1)) = letters (ps.take k) ++ p.2 := by
  rw [List.take_add_one, h]
  simp [letters_append, letters]
theorem letters_eq {x : D} {ps : List Pc} {gd : Option (Nat × List D)} (hx : ∀ T, wkOf x (S ++ T) = .ok ⟨ps.map pcD, gd⟩ (S ++ T)) (hg : gok gd S) (hz : (letters ps).length ≤ 1000000) : F_letters_of [x] S = .ok (.tup ((letters ps).map D.int)) S := by
  show finP S (cd_letters_of [some x, none, none] S) = _
  unfold cd_letters_of
  rw [go_seq (go_asg (ev_lst ev_nil (by decide)))]
  show finP S (sSeq _ _ [some x, some (.ob S.length), none] (S ++ [.lst []])) = _
  have hw : dWk (dVar 0) [some x, some (.ob S.length), none] (S ++ [.lst []]) = .ok ⟨ps.map pcD, gd⟩ (S ++ [.lst []]) := by
    rw [e_dWk, e_bind]
    exact hx _
  obtain ⟨r', S', q, last, rfl, rfl⟩ := sTurns_inv (g := gd) (tg := gN 2) (b := sDrop (dBM extD (dVar 1) (dCons (dOp ixD (dVar 2) (dC (.int 1))) dNil)))
    (fun k r S' => ∃ last, r = [some x, some (.ob S.length), last] ∧ S' = S ++ [.lst ((letters (ps.take k)).map D.int)]) (ps.map pcD) 0 [some x, some (.ob S.length), none] (S ++ [.lst []])
    (by
      rintro i y r S' hy ⟨last, rfl, rfl⟩
      rw [List.getElem?_map] at hy
      cases hp : ps[i]? with
      | none => rw [hp] at hy; cases hy
      | some p =>
        rw [hp] at hy
        cases hy
        rw [Nat.zero_add]
        have hset : ∀ a c : Cell, (S ++ [a]).set S.length c = S ++ [c] := fun a c => by rw [List.set_append_right _ _ (Nat.le_refl _)]; simp
        refine ⟨[some x, some (.ob S.length), some (pcD p)], [some x, some (.ob S.length), some (pcD p)], S ++ [.lst ((letters (ps.take i)).map D.int ++ p.2.map D.int)], rfl, ?_, ?_, some (pcD p), rfl, ?_⟩
        · have hl := letters_len_take ps (i + 1)
          rw [letters_succ hp, List.length_append] at hl
          have ee := go_drop (r := [some x, some (.ob S.length), some (pcD p)]) (fe := dBM extD (dVar 1) (dCons (dOp ixD (dVar 2) (dC (.int 1))) dNil)) (ev_bm (n := S.length) (S := S ++ [.lst ((letters (ps.take i)).map D.int)]) rfl (push_at rfl) (ev_cons (ev_op rfl rfl (pc_ix1 p _)) ev_nil)
            (e_ext (xs := (letters (ps.take i)).map D.int) (ys := p.2.map D.int) (push_at rfl) (by rw [List.length_map, List.length_map]; omega)))
          rw [hset] at ee
          exact ee
        · cases gd with
          | none => trivial
          | some q => exact push_old hg
        · rw [letters_succ hp, List.map_append])
    ⟨none, rfl, by simp [letters]⟩
  rw [go_seq (by rw [go_for hw]; exact q), go_ret (ev_call (ev_cons (x := .ob S.length) rfl ev_nil) (e_tuple_ob (push_at rfl)))]
  rw [show 0 + (ps.map pcD).length = ps.length by simp, List.take_length]
  exact finP_rt (by unfold wfD; exact wfDs_ints _ _)
end
end Lw
namespace Lw
open PySem L2 DL
def pcAt (k : Nat) (m : Msg) (i : Nat) : Pc := (if m.length ≤ i * k + k then 1 else 0, (m.drop (i * k)).take k)
def pcN (k : Nat) (m : Msg) : Nat := (max 1 m.length - 1) / k + 1
theorem pcAt_succ {k : Nat} {m : Msg} (h : k < m.length) (i : Nat) : pcAt k m (i + 1) = pcAt k (m.drop k) i := by
  unfold pcAt
  have e : (i + 1) * k = k + i * k := by rw [Nat.add_mul, Nat.one_mul, Nat.add_comm]
  rw [List.drop_drop, List.length_drop, e]
  congr 1
  by_cases hc : m.length ≤ k + i * k + k
  · rw [if_pos hc, if_pos (by omega)]
  · rw [if_neg hc, if_neg (by omega)]
theorem cutF_at {k : Nat} (hk : 1 ≤ k) : ∀ (n : Nat) (m : Msg), m.length ≤ n → cutF k n m = (List.range (pcN k m)).map (pcAt k m)
  | 0, m, h => by
    have : m = [] := List.eq_nil_of_length_eq_zero (by omega)
    subst this
    have e : pcN k [] = 1 := by unfold pcN; simp
    rw [e]
    simp [cutF, pcAt]
  | n + 1, m, h => by
    unfold cutF
    by_cases hc : k < m.length
    · rw [if_pos hc, cutF_at hk n (m.drop k) (by rw [List.length_drop]; omega)]
      have e : pcN k m = pcN k (m.drop k) + 1 := by
        unfold pcN
        rw [List.length_drop, Nat.max_eq_right (by omega), Nat.max_eq_right (by omega), show m.length - 1 = (m.length - k - 1) + k by omega, Nat.add_div_right _ (by omega)]
      rw [e, List.range_succ_eq_map, List.map_cons, List.map_map]
      congr 1
      · unfold pcAt
        rw [if_neg (by omega)]
        simp
      · refine List.map_congr_left fun i _ => ?_
        exact (pcAt_succ hc i).symm
    · rw [if_neg hc]
      have e : pcN k m = 1 := by
        unfold pcN
        rw [Nat.div_eq_of_lt (by omega)]
      rw [e]
      simp only [List.range_one, List.map_cons, List.map_nil]
      unfold pcAt
      rw [if_pos (by omega), Nat.zero_mul, List.drop_zero, List.take_of_length_le (by omega)]
theorem cutP_at {k : Nat} (hk : 1 ≤ k) {m : Msg} (h : m.length ≤ 40) : cutP k m = (List.range (pcN k m)).map (pcAt k m) := cutF_at hk 100 m (by omega)
theorem cutD_win {xs : List D} (i k : Nat) : cutD xs (some (i : Int)) (some ((i : Int) + (k : Int))) = (xs.drop i).take k := by
  unfold cutD
  have e : (i : Int) + (k : Int) = ((i + k : Nat) : Int) := by omega
  rw [e, HT.sIx_nat, HT.sIx_nat]
  by_cases h : i ≤ xs.length
  · rw [Nat.min_eq_left h]
    by_cases h2 : i + k ≤ xs.length
    · rw [Nat.min_eq_left h2, show i + k - i = k by omega]
    · rw [Nat.min_eq_right (by omega), List.take_of_length_le (by rw [List.length_drop]; omega), List.take_of_length_le (by rw [List.length_drop]; omega)]
  · rw [Nat.min_eq_right (show xs.length ≤ i by omega), Nat.min_eq_right (show xs.length ≤ i + k by omega), List.drop_of_length_le (Nat.le_refl _), List.drop_of_length_le (by omega)]
    simp
theorem lpieces_eq {k : Nat} (hk : 1 ≤ k) (hk8 : k ≤ 1000) {m : Msg} (hm : m.length ≤ 40) (S : List Cell) : F__law_pieces [msgD m, .int (k : Int)] S = .ok (.ob S.length) (S ++ [.lst ((cutP k m).map pcD)]) := by
  show fin S (cd__law_pieces [some (msgD m), some (.int (k : Int)), none, none] S) = _
  unfold cd__law_pieces
  rw [go_seq (go_asg (ev_lst ev_nil (by decide)))]
  show fin S (sSeq _ _ [some (msgD m), some (.int (k : Int)), some (.ob S.length), none] (S ++ [.lst []])) = _
  have hln : ∀ r T, dCall lenD (dCons (dVar 0) dNil) (some (msgD m) :: r) T = .ok (.int (m.length : Int)) T := fun r T => ev_call (ev_cons rfl ev_nil) (by unfold msgD; rw [e_len_tup, List.length_map])
  have hmx : maxD [.int 1, .int (m.length : Int)] (S ++ [.lst []]) = .ok (.int ((max 1 m.length : Nat) : Int)) (S ++ [.lst []]) := by
    rw [e_max]
    congr 2
    omega
  have hcn : pcN k m ≤ 41 := by
    unfold pcN
    have := Nat.div_le_self (max 1 m.length - 1) k
    omega
  have w1 : dRng3 (dC (.int 0)) (dCall maxD (dCons (dC (.int 1)) (dCons (dCall lenD (dCons (dVar 0) dNil)) dNil))) (dVar 1) [some (msgD m), some (.int (k : Int)), some (.ob S.length), none] (S ++ [.lst []]) = .ok ⟨rngD 0 (k : Int) (pcN k m), none⟩ (S ++ [.lst []]) := by
    unfold dRng3
    rw [e_bind]
    simp only [e_dC]
    rw [e_bind, ev_call (ev_cons rfl (ev_cons (hln _ _) ev_nil)) hmx]
    simp only
    show wRng 0 ((max 1 m.length : Nat) : Int) (k : Int) (S ++ [.lst []]) = _
    have hsz : Builtin.Range.rangeSize 0 ((max 1 m.length : Nat) : Int) (k : Int) = (pcN k m : Int) := by
      unfold Builtin.Range.rangeSize pcN
      rw [if_pos (by omega), if_pos (by omega)]
      have : ((max 1 m.length : Nat) : Int) - 0 - 1 = ((max 1 m.length - 1 : Nat) : Int) := by omega
      rw [this, ← Int.natCast_ediv]
      omega
    have hs : Builtin.Range.small 0 ((max 1 m.length : Nat) : Int) (k : Int) = true := by
      unfold Builtin.Range.small
      rw [hsz]
      simp only [Builtin.Range.rangeFitsLong, Bool.and_eq_true, Bool.or_eq_true, decide_eq_true_eq, beq_iff_eq, if_pos (show (k : Int) > 0 by omega)]
      omega
    unfold wRng
    rw [cif_pos ⟨⟨by omega, by omega⟩, hs⟩, hsz]
    rfl
  have hset : ∀ a c : Cell, (S ++ [a]).set S.length c = S ++ [c] := fun a c => by rw [List.set_append_right _ _ (Nat.le_refl _)]; simp
  obtain ⟨r', S', e, x3, rfl, rfl⟩ := sTurns_inv (g := none) (tg := gN 3) (b := bd__law_pieces_1)
    (fun i r S' => ∃ x3, r = [some (msgD m), some (.int (k : Int)), some (.ob S.length), x3] ∧ S' = S ++ [.lst (((List.range i).map (pcAt k m)).map pcD)]) (rngD 0 (k : Int) (pcN k m)) 0 [some (msgD m), some (.int (k : Int)), some (.ob S.length), none] (S ++ [.lst []])
    (by
      rintro i y r S' hy ⟨x3, rfl, rfl⟩
      have hil := (List.getElem?_eq_some_iff.mp hy).1
      have hil' : i < pcN k m := by simpa [rngD] using hil
      have hyy := rngD_get hy
      have hyi : (0 : Int) + (i : Int) * (k : Int) = ((i * k : Nat) : Int) := by rw [Int.zero_add]; exact (Int.natCast_mul i k).symm
      rw [hyi] at hyy
      subst hyy
      rw [Nat.zero_add]
      obtain ⟨T, hT⟩ : ∃ T, S ++ [Cell.lst (((List.range i).map (pcAt k m)).map pcD)] = T := ⟨_, rfl⟩
      have v1 : dCall intD (dCons (dOp geD (dOp addD (dVar 3) (dVar 1)) (dCall lenD (dCons (dVar 0) dNil))) dNil) [some (msgD m), some (.int (k : Int)), some (.ob S.length), some (.int ((i * k : Nat) : Int))] T = .ok (.int (pcAt k m i).1) T := by
        refine ev_call (ev_cons (ev_op (ev_op rfl rfl (e_add_int _ _)) (hln _ _) (e_ge _ _)) ev_nil) ?_
        show R.ok (D.int (if decide ((m.length : Int) ≤ ((i * k : Nat) : Int) + (k : Int)) = true then 1 else 0)) T = _
        unfold pcAt
        by_cases hc : m.length ≤ i * k + k
        · rw [if_pos hc, if_pos (decide_eq_true (by omega))]
        · rw [if_neg hc, if_neg (by rw [decide_eq_true_eq]; omega)]
      have v2 : dSl slD (dVar 0) (dPart (dVar 3)) (dPart (dOp addD (dVar 3) (dVar 1))) [some (msgD m), some (.int (k : Int)), some (.ob S.length), some (.int ((i * k : Nat) : Int))] T = .ok (.tup ((pcAt k m i).2.map D.int)) T := by
        simp only [e_dSl, e_bind, e_dVar, List.getElem?_cons_succ, List.getElem?_cons_zero, e_dPart, e_intOf, e_ret, e_dOp, e_add_int, msgD, slD]
        rw [cutD_win, ← List.map_drop, ← List.map_take]
        rfl
      have hat : T[S.length]? = some (.lst (((List.range i).map (pcAt k m)).map pcD)) := by rw [← hT]; exact push_at rfl
      have ee := e_app (S := T) (n := S.length) (d := pcD (pcAt k m i)) hat (by simp; omega)
      have e2 : T.set S.length (.lst (((List.range i).map (pcAt k m)).map pcD ++ [pcD (pcAt k m i)])) = S ++ [.lst (((List.range (i + 1)).map (pcAt k m)).map pcD)] := by
        rw [← hT, hset, List.range_succ, List.map_append, List.map_append]
        rfl
      rw [e2] at ee
      refine ⟨[some (msgD m), some (.int (k : Int)), some (.ob S.length), some (.int ((i * k : Nat) : Int))], [some (msgD m), some (.int (k : Int)), some (.ob S.length), some (.int ((i * k : Nat) : Int))], S ++ [.lst (((List.range (i + 1)).map (pcAt k m)).map pcD)], rfl, ?_, trivial, _, rfl, rfl⟩
      unfold bd__law_pieces_1
      rw [hT]
      exact go_drop (ev_bm rfl hat (ev_cons (ev_tup (ev_cons v1 (ev_cons v2 ev_nil)) (by simp)) ev_nil) ee))
    ⟨none, rfl, rfl⟩
  have hlen : (rngD 0 (k : Int) (pcN k m)).length = pcN k m := by simp [rngD]
  rw [hlen, Nat.zero_add] at e
  rw [go_seq (by rw [go_for w1]; exact e), go_ret rfl, cutP_at hk hm]
  rfl
theorem e_add_obs {S : List Cell} {a b : Nat} {xs ys : List D} (h1 : S[a]? = some (.lst xs)) (h2 : S[b]? = some (.lst ys)) (hz : (xs ++ ys).length ≤ 1000000) : addD (.ob a) (.ob b) S = .ok (.ob S.length) (S ++ [.lst (xs ++ ys)]) := by
  simp only [addD, lstAt_of h1, lstAt_of h2, e_newLst hz]
end Lw
namespace Lw
open PySem L2 DL
section
variable {S : List Cell}
theorem eq_lints {a b : Nat} {is js : List Int} (h1 : S[a]? = some (.lst (is.map D.int))) (h2 : S[b]? = some (.lst (js.map D.int))) : eqD (.ob a) (.ob b) S = .ok (.bl (decide (is = js))) S := by
  have e1 : pD S 30 (.ob a) = some (.list (is.map PyData.int)) := by rw [pD_ob h1, pDs_ints S 28]; rfl
  have e2 : pD S 30 (.ob b) = some (.list (js.map PyData.int)) := by rw [pD_ob h2, pDs_ints S 28]; rfl
  simp only [eqD, e1, e2, PyData.eqv, eqvAll_ints]
theorem e_mul_obs {a : Nat} {xs : List D} {k : Nat} (h : S[a]? = some (.lst xs)) (hz : xs.length * k ≤ 1000000) (hk : k ≤ 1000000) : mulD (.ob a) (.int (k : Int)) S = .ok (.ob S.length) (S ++ [.lst (List.replicate k xs).flatten]) := by
  unfold mulD
  simp only [lstAt_of h]
  rw [cif_pos ⟨⟨by omega, by omega⟩, by rw [Int.toNat_natCast]; exact Nat.le_of_lt (szM hz)⟩, Int.toNat_natCast]
def endsB (ps : List Pc) : Bool := decide (ps ≠ [] ∧ ps.map (·.1) = List.replicate (ps.length - 1) 0 ++ [1])
def flagD : D → D
  | .tup (x :: _) => x
  | _ => .non
theorem flat_zero (k : Nat) : (List.replicate k [D.int 0]).flatten = (List.replicate k (0 : Int)).map D.int := by
  induction k with
  | zero => rfl
  | succ k ih => rw [List.replicate_succ, List.flatten_cons, ih, List.replicate_succ]; rfl
theorem ends_eq {ps : List Pc} (hz : ps.length ≤ 1000) (S : List Cell) : F_ends_once [.tup (ps.map pcD)] S = .ok (.bl (endsB ps)) S := by
  show finP S (cd_ends_once [some (.tup (ps.map pcD)), none] S) = _
  unfold cd_ends_once
  have q1 := ev_comp (f := dWk (dVar 0)) (tg := gN 0) (ti := dYes) (fe := dOp ixD (dVar 0) (dC (.int 0))) (own := 1) (caps := [])
    (r := [some (.tup (ps.map pcD)), none]) (S := S) (S1 := S) (w := ⟨ps.map pcD, none⟩) (fun _ => true) flagD rfl trivial (by rw [List.length_map]; omega) (by
      intro x hx
      obtain ⟨p, _, rfl⟩ := List.mem_map.mp hx
      refine ⟨_, rfl, fun _ => rfl, fun _ zs => ?_⟩
      show dOp _ _ _ [some (pcD p)] _ = _
      exact ev_op rfl rfl (pc_ix0 p _))
  have hm : ((ps.map pcD).filter fun _ => true).map flagD = (ps.map (·.1)).map D.int := by
    rw [List.filter_eq_self.mpr (by simp), List.map_map, List.map_map]
    rfl
  rw [hm] at q1
  rw [go_seq (go_asg q1)]
  obtain ⟨fs, hfs⟩ : ∃ fs, ps.map (·.1) = fs := ⟨_, rfl⟩
  have hfl : fs.length = ps.length := by rw [← hfs, List.length_map]
  rw [hfs]
  show finP S (sRet _ [some (.tup (ps.map pcD)), some (.ob S.length)] (S ++ [.lst (fs.map D.int)])) = _
  have hat : (S ++ [Cell.lst (fs.map D.int)])[S.length]? = some (.lst (fs.map D.int)) := push_new
  have g1 : dTest (dOp gtD (dCall lenD (dCons (dVar 1) dNil)) (dC (.int 0))) [some (.tup (ps.map pcD)), some (.ob S.length)] (S ++ [.lst (fs.map D.int)]) = .ok (decide (0 < fs.length)) (S ++ [.lst (fs.map D.int)]) := by
    refine ev_test (ev_op (x := .int (fs.length : Int)) (ev_call (ev_cons rfl ev_nil) (by rw [e_len_ob hat, List.length_map])) rfl ?_)
    rw [e_gt]
    congr 2
    rw [decide_eq_decide]
    omega
  by_cases h0 : 0 < fs.length
  · have hsub : ∀ T, T[S.length]? = some (.lst (fs.map D.int)) → dOp subD (dCall lenD (dCons (dVar 1) dNil)) (dC (.int 1)) [some (.tup (ps.map pcD)), some (.ob S.length)] T = .ok (.int ((fs.length - 1 : Nat) : Int)) T := fun T hT => by
      refine ev_op (x := .int (fs.length : Int)) (ev_call (ev_cons rfl ev_nil) (by rw [e_len_ob hT, List.length_map])) rfl ?_
      rw [e_sub_int]
      congr 2
      omega
    obtain ⟨T0, hT0⟩ : ∃ T0, S ++ [Cell.lst (fs.map D.int)] = T0 := ⟨_, rfl⟩
    have l0 : T0.length = S.length + 1 := by rw [← hT0]; simp
    rw [hT0] at hat g1 ⊢
    have m1 : dOp mulD (dLst (dCons (dC (.int 0)) dNil)) (dOp subD (dCall lenD (dCons (dVar 1) dNil)) (dC (.int 1))) [some (.tup (ps.map pcD)), some (.ob S.length)] T0 = .ok (.ob (T0.length + 1)) (T0 ++ [.lst [.int 0]] ++ [.lst ((List.replicate (fs.length - 1) (0 : Int)).map D.int)]) := by
      refine ev_op (ev_lst (ev_cons rfl ev_nil) (by decide)) (hsub _ (push_old hat)) ?_
      rw [e_mul_obs (push_at rfl) (by simp; omega) (by omega), flat_zero]
      simp
    have a1 : dOp addD (dOp mulD (dLst (dCons (dC (.int 0)) dNil)) (dOp subD (dCall lenD (dCons (dVar 1) dNil)) (dC (.int 1)))) (dLst (dCons (dC (.int 1)) dNil)) [some (.tup (ps.map pcD)), some (.ob S.length)] T0 =
        .ok (.ob (T0.length + 3)) (T0 ++ [.lst [.int 0]] ++ [.lst ((List.replicate (fs.length - 1) (0 : Int)).map D.int)] ++ [.lst [.int 1]] ++ [.lst ((List.replicate (fs.length - 1) (0 : Int) ++ [1]).map D.int)]) := by
      refine ev_op m1 (ev_lst (ev_cons rfl ev_nil) (by decide)) ?_
      rw [e_add_obs (xs := (List.replicate (fs.length - 1) (0 : Int)).map D.int) (ys := [.int 1]) (push_old (push_at (by simp))) (push_at rfl) (by simp; omega)]
      simp
    have hend : endsB ps = decide (fs = List.replicate (fs.length - 1) 0 ++ [1]) := by
      unfold endsB
      rw [hfs, hfl]
      have hne : ps ≠ [] := fun z => by rw [z] at hfl; simp at hfl; rw [hfl] at h0; simp at h0
      simp [hne]
    have a2 : dOp eqD (dVar 1) (dOp addD (dOp mulD (dLst (dCons (dC (.int 0)) dNil)) (dOp subD (dCall lenD (dCons (dVar 1) dNil)) (dC (.int 1)))) (dLst (dCons (dC (.int 1)) dNil))) [some (.tup (ps.map pcD)), some (.ob S.length)] T0 =
        .ok (.bl (endsB ps)) (T0 ++ [.lst [.int 0]] ++ [.lst ((List.replicate (fs.length - 1) (0 : Int)).map D.int)] ++ [.lst [.int 1]] ++ [.lst ((List.replicate (fs.length - 1) (0 : Int) ++ [1]).map D.int)]) := by
      refine ev_op rfl a1 ?_
      rw [hend]
      exact eq_lints (push_old (push_old (push_old (push_old hat)))) (push_at (by simp))
    rw [decide_eq_true h0] at g1
    obtain ⟨Zs, a2⟩ : ∃ Zs, dOp eqD (dVar 1) (dOp addD (dOp mulD (dLst (dCons (dC (.int 0)) dNil)) (dOp subD (dCall lenD (dCons (dVar 1) dNil)) (dC (.int 1)))) (dLst (dCons (dC (.int 1)) dNil))) [some (.tup (ps.map pcD)), some (.ob S.length)] T0 = .ok (.bl (endsB ps)) (T0 ++ Zs) := ⟨_, by rw [a2]; simp only [List.append_assoc]; rfl⟩
    have a3 : dAndV (dOp gtD (dCall lenD (dCons (dVar 1) dNil)) (dC (.int 0))) (dOp eqD (dVar 1) (dOp addD (dOp mulD (dLst (dCons (dC (.int 0)) dNil)) (dOp subD (dCall lenD (dCons (dVar 1) dNil)) (dC (.int 1)))) (dLst (dCons (dC (.int 1)) dNil)))) [some (.tup (ps.map pcD)), some (.ob S.length)] T0 = .ok (.bl (endsB ps)) (T0 ++ Zs) := by
      rw [e_dAndV, e_bind, g1]
      exact a2
    rw [go_ret a3, ← hT0, List.append_assoc]
    exact finP_rt (by simp [wfD])
  · rw [decide_eq_false h0] at g1
    have hps : ps = [] := List.eq_nil_of_length_eq_zero (by omega)
    have a3 : dAndV (dOp gtD (dCall lenD (dCons (dVar 1) dNil)) (dC (.int 0))) (dOp eqD (dVar 1) (dOp addD (dOp mulD (dLst (dCons (dC (.int 0)) dNil)) (dOp subD (dCall lenD (dCons (dVar 1) dNil)) (dC (.int 1)))) (dLst (dCons (dC (.int 1)) dNil)))) [some (.tup (ps.map pcD)), some (.ob S.length)] (S ++ [.lst (fs.map D.int)]) = .ok (.bl false) (S ++ [.lst (fs.map D.int)]) := by
      rw [e_dAndV, e_bind, g1]
      rfl
    rw [go_ret a3]
    have : endsB ps = false := by rw [hps]; rfl
    rw [this]
    exact finP_rt (by simp [wfD])
variable {G : Cs}
def goodB (ps : List Pc) : Bool := endsB ps && decide ((letters ps).length ≤ 40)
theorem letters_tup {ps : List Pc} (hz : (letters ps).length ≤ 1000000) (S : List Cell) : F_letters_of [.tup (ps.map pcD)] S = .ok (.tup ((letters ps).map D.int)) S := letters_eq (gd := none) (fun T => rfl) trivial hz
theorem joined_eq {ps : List Pc} (h1 : ps.length ≤ 1000) (h2 : (letters ps).length ≤ 1000) (S : List Cell) : F_joined G [.tup (ps.map pcD)] S = if goodB ps = true then .ok (.tup ((letters ps).map D.int)) S else .exc G.NoMessage S := by
  show finP S (cd_joined G [some (.tup (ps.map pcD)), none] S) = _
  unfold cd_joined
  have t1 : dNot (dTru (dCall F_ends_once (dCons (dVar 0) dNil))) [some (.tup (ps.map pcD)), none] S = .ok (!endsB ps) S := by
    rw [e_dNot, e_bind, e_dTru, e_bind, ev_call (ev_cons rfl ev_nil) (ends_eq h1 S)]
    rfl
  unfold goodB
  cases he : endsB ps with
  | false =>
    rw [he] at t1
    rw [e_sSeq, go_ifT t1]
    rfl
  | true =>
    rw [he] at t1
    rw [go_seq (by rw [go_ifF t1]; rfl), go_seq (go_asg (ev_call (ev_cons rfl ev_nil) (letters_tup (by omega) S)))]
    show finP S (sSeq _ _ [some (.tup (ps.map pcD)), some (.tup ((letters ps).map D.int))] S) = _
    have t2 : dTest (dOp gtD (dCall lenD (dCons (dVar 1) dNil)) (dC k_MOST_MESSAGE_LETTERS)) [some (.tup (ps.map pcD)), some (.tup ((letters ps).map D.int))] S = .ok (decide (40 < (letters ps).length)) S := by
      refine ev_test (ev_op (x := .int ((letters ps).length : Int)) (ev_call (ev_cons rfl ev_nil) (by rw [e_len_tup, List.length_map])) rfl ?_)
      rw [e_gt]
      congr 2
      rw [decide_eq_decide]
      omega
    by_cases hl : 40 < (letters ps).length
    · rw [decide_eq_true hl] at t2
      rw [e_sSeq, go_ifT t2, if_neg (by simp; omega)]
      rfl
    · rw [decide_eq_false hl] at t2
      rw [go_seq (by rw [go_ifF t2]; rfl), if_pos (by simp; omega), go_ret rfl]
      exact finP_rt0 (by unfold wfD; exact wfDs_ints _ _)
theorem refused_eq {ps : List Pc} (h1 : ps.length ≤ 1000) (h2 : (letters ps).length ≤ 1000) (S : List Cell) : F__law_refused G [.tup (ps.map pcD)] S = .ok (.bl (!goodB ps)) S := by
  show finP S (cd__law_refused G [some (.tup (ps.map pcD)), none, none] S) = _
  unfold cd__law_refused
  rw [go_seq (go_asg rfl)]
  show finP S (sSeq _ _ [some (.tup (ps.map pcD)), some (.bl false), none] S) = _
  have e1 : dCall (F_joined G) (dCons (dVar 0) dNil) [some (.tup (ps.map pcD)), some (.bl false), none] S = _ := ev_call (ev_cons rfl ev_nil) (joined_eq h1 h2 S)
  cases hg : goodB ps with
  | true =>
    rw [hg, if_pos rfl] at e1
    have e2 : sTryAs [G.NoMessage] 2 (sDrop (dCall (F_joined G) (dCons (dVar 0) dNil))) (sAsg (dAndV (dIsX [(G.NoMessage, true)] (dVar 2)) (dIsX [(G.NoMessage, true)] (dVar 2))) (gN 1)) [some (.tup (ps.map pcD)), some (.bl false), none] S = some (.nx [some (.tup (ps.map pcD)), some (.bl false), none], S) := by
      unfold sTryAs
      rw [go_drop e1]
    rw [go_seq e2, go_ret rfl]
    exact finP_rt0 (by simp [wfD])
  | false =>
    rw [hg, if_neg (by decide)] at e1
    have e2 : sTryAs [G.NoMessage] 2 (sDrop (dCall (F_joined G) (dCons (dVar 0) dNil))) (sAsg (dAndV (dIsX [(G.NoMessage, true)] (dVar 2)) (dIsX [(G.NoMessage, true)] (dVar 2))) (gN 1)) [some (.tup (ps.map pcD)), some (.bl false), none] S = some (.nx [some (.tup (ps.map pcD)), some (.bl true), none], S) := by
      unfold sTryAs
      have e3 : sDrop (dCall (F_joined G) (dCons (dVar 0) dNil)) [some (.tup (ps.map pcD)), some (.bl false), none] S = some (.xc G.NoMessage [some (.tup (ps.map pcD)), some (.bl false), none], S) := by
        rw [e_sDrop, e_sBind, e1]
      rw [e3]
      simp [dIsX, isXD, asEnd, List.lookup]
    rw [go_seq e2, go_ret rfl]
    exact finP_rt0 (by simp [wfD])
end
end Lw
namespace Lw
open PySem L2 DL
section
variable {S : List Cell} {G : Cs}
theorem flags_zero {pre : List Pc} (h : ∀ p ∈ pre, p.1 = 0) : pre.map (·.1) = List.replicate pre.length 0 := by
  rw [List.eq_replicate_iff]
  refine ⟨List.length_map _, fun b hb => ?_⟩
  obtain ⟨p, hp, rfl⟩ := List.mem_map.mp hb
  exact h p hp
theorem ends_of {pre : List Pc} {l : List Int} (h : ∀ p ∈ pre, p.1 = 0) : endsB (pre ++ [(1, l)]) = true := by
  unfold endsB
  rw [decide_eq_true_eq]
  refine ⟨by simp, ?_⟩
  rw [List.map_append, flags_zero h, List.length_append]
  simp
theorem ends_not {pre : List Pc} (h : ∀ p ∈ pre, p.1 = 0) : endsB pre = false := by
  unfold endsB
  rw [decide_eq_false_iff_not]
  rintro ⟨_, z⟩
  rw [flags_zero h] at z
  have h1 : (1 : Int) ∈ List.replicate pre.length (0 : Int) := by rw [z]; simp
  have := List.eq_of_mem_replicate h1
  omega
theorem ends_flip {pre : List Pc} {l : List Int} {i : Nat} {p : Pc} (h : ∀ p ∈ pre, p.1 = 0) (hi : (pre ++ [(1, l)])[i]? = some p) (q : List Int) : endsB ((pre ++ [(1, l)]).set i (1 - p.1, q)) = false := by
  unfold endsB
  rw [decide_eq_false_iff_not]
  rintro ⟨_, z⟩
  have hlt := (List.getElem?_eq_some_iff.mp hi).1
  have e1 : ((pre ++ [(1, l)]).map fun p : Pc => p.1)[i]? = some p.1 := by rw [List.getElem?_map, hi]; rfl
  have e2 : (pre ++ [((1 : Int), l)]).map (·.1) = List.replicate pre.length 0 ++ [1] := by rw [List.map_append, flags_zero h]; rfl
  have e3 : (((pre ++ [(1, l)]).set i (1 - p.1, q)).map fun p : Pc => p.1)[i]? = some (1 - p.1) := by rw [List.getElem?_map, List.getElem?_set_self hlt]; rfl
  have e4 : ((pre ++ [((1 : Int), l)]).set i (1 - p.1, q)).length - 1 = pre.length := by simp
  rw [z, e4, ← e2, e1] at e3
  injection e3 with e3
  omega
theorem good_cut {k : Nat} {m : Msg} (hm : m.length ≤ 40) : goodB (cutP k m) = true ∧ letters (cutP k m) = m := by
  obtain ⟨pre, l, e1, e2, e3⟩ := cutP_spec k m
  have hl : letters (cutP k m) = m := by rw [e1, letters_append, letters_one]; exact e3
  refine ⟨?_, hl⟩
  unfold goodB
  rw [hl, e1, ends_of e2]
  simp [hm]
theorem joined_cut {k : Nat} (hk : 1 ≤ k) {m : Msg} (hm : m.length ≤ 40) (S : List Cell) : F_joined G [.tup ((cutP k m).map pcD)] S = .ok (.tup (m.map D.int)) S := by
  obtain ⟨h1, h2⟩ := good_cut (k := k) hm
  have := cutP_len hk m
  rw [joined_eq (by omega) (by rw [h2]; omega), if_pos h1, h2]
theorem joined_good {ps : List Pc} (h1 : ps.length ≤ 1000) (hg : goodB ps = true) (S : List Cell) : F_joined G [.tup (ps.map pcD)] S = .ok (.tup ((letters ps).map D.int)) S := by
  have : (letters ps).length ≤ 40 := by
    unfold goodB at hg
    simp at hg
    exact hg.2
  rw [joined_eq h1 (by omega), if_pos hg]
def rowPre (ns : List Int) : List Pc := ((ns.drop 2).take 6).map fun c => (0, msgOf c 5)
def rowP (ns : List Int) : List Pc := rowPre ns ++ [(1, msgOf (cv ns 8) 5)]
theorem rowPre_zero (ns : List Int) : ∀ p ∈ rowPre ns, p.1 = 0 := fun p hp => by
  obtain ⟨c, _, rfl⟩ := List.mem_map.mp hp
  rfl
theorem rowPre_len (ns : List Int) : (rowPre ns).length ≤ 6 := by unfold rowPre; rw [List.length_map, List.length_take]; omega
theorem row_short (ns : List Int) : ∀ p ∈ rowP ns, p.2.length ≤ 5 := fun p hp => by
  unfold rowP at hp
  rcases List.mem_append.mp hp with hp | hp
  · obtain ⟨c, _, rfl⟩ := List.mem_map.mp hp
    exact msgOf_len c 5
  · simp at hp
    subst hp
    exact msgOf_len _ 5
theorem letters_short : ∀ {ps : List Pc}, (∀ p ∈ ps, p.2.length ≤ 5) → (letters ps).length ≤ 5 * ps.length
  | [], _ => by simp [letters]
  | p :: ps, h => by
    have h1 := h p List.mem_cons_self
    have h2 := letters_short (ps := ps) fun q hq => h q (List.mem_cons_of_mem _ hq)
    have : letters (p :: ps) = p.2 ++ letters ps := by simp [letters]
    rw [this, List.length_append, List.length_cons]
    omega
theorem rowP_len (ns : List Int) : (rowP ns).length = (rowPre ns).length + 1 := by unfold rowP; simp
theorem row_letters (ns : List Int) : (letters (rowP ns)).length ≤ 35 := by
  have h1 := letters_short (row_short ns)
  have h2 := rowPre_len ns
  rw [rowP_len] at h1
  omega
theorem good_row (ns : List Int) : goodB (rowP ns) = true := by
  have := row_letters ns
  unfold goodB
  rw [decide_eq_true (by omega)]
  unfold rowP
  rw [ends_of (rowPre_zero ns)]
  rfl
def longP (n : Nat) : List Pc := (List.range n).map fun (k : Nat) => ((0 : Int), [(k : Int)])
theorem longP_letters : ∀ n, letters (longP n) = (List.range n).map fun (k : Nat) => (k : Int) := fun n => by
  unfold longP letters
  rw [List.flatMap_map]
  exact (List.map_eq_flatMap ..).symm
theorem longP_zero (n : Nat) : ∀ p ∈ longP n, p.1 = 0 := fun p hp => by
  obtain ⟨c, _, rfl⟩ := List.mem_map.mp hp
  rfl
theorem cutD_but1 {xs : List D} (h : 1 ≤ xs.length) : cutD xs none (some (-1)) = xs.take (xs.length - 1) := by
  unfold cutD
  have e1 : HT.sIx xs.length 0 none = 0 := rfl
  have e2 : HT.sIx xs.length xs.length (some (-1)) = xs.length - 1 := by
    unfold HT.sIx
    simp only
    first
      | omega
      | (split <;> omega)
  rw [e1, e2]
  simp
end
end Lw
namespace Lw
open PySem L2 DL
section
variable {S : List Cell} {G : Cs}
def kOf (ns : List Int) : Nat := (1 + cv ns 1 % 8).toNat
theorem kOf_eq (ns : List Int) : (1 + cv ns 1 % 8 : Int) = (kOf ns : Int) ∧ 1 ≤ kOf ns ∧ kOf ns ≤ 8 := by
  have h1 := Int.emod_nonneg (cv ns 1) (show (8 : Int) ≠ 0 by decide)
  have h2 := Int.emod_lt_of_pos (cv ns 1) (show (0 : Int) < 8 by decide)
  unfold kOf
  omega
theorem slice_rol {ns : List Int} : cutD (ns.map D.int) (some 2) (some 8) = ((ns.drop 2).take 6).map D.int := by
  have := cutD_win (xs := ns.map D.int) 2 6
  rw [← List.map_drop, ← List.map_take] at this
  exact this
theorem e_dLR (n : Nat) (r : DSt) (S : List Cell) : dLR n r S = .ok (.ob S.length) (S ++ [.lst (intsD n)]) := rfl
theorem end_eq {LP : List Pc} (hz : ∀ p ∈ LP, p.1 = 0) (hl : letters LP = (List.range 40).map fun (k : Nat) => (k : Int)) (hn : LP.length = 40) {r : DSt} (r8 : ∀ S, dVar 8 r S = .ok (.tup (LP.map pcD)) S) (S7 : List Cell) :
    dAndV (dOp eqD (dCall (F_joined G) (dCons (dOp addD (dVar 8) (dTup (dCons (dTup (dCons (dC (.int 1)) (dCons (dTup dNil) dNil))) dNil))) dNil)) (dCall tupleD (dCons (dLR 40) dNil))) (dCall (F__law_refused G) (dCons (dOp addD (dVar 8) (dTup (dCons (dTup (dCons (dC (.int 1)) (dCons (dTup (dCons (dC (.int 7)) dNil)) dNil))) dNil))) dNil)) r S7 = .ok (.bl true) (S7 ++ [.lst (intsD 40)]) := by
  have hll : ∀ l : List Int, letters (LP ++ [(1, l)]) = (List.range 40).map (fun (k : Nat) => (k : Int)) ++ l := fun l => by rw [letters_append, letters_one, hl]
  have hlen : ((List.range 40).map (fun (k : Nat) => (k : Int))).length = 40 := by rw [List.length_map, List.length_range]
  have hL : ∀ l : List Int, (LP ++ [(1, l)]).length ≤ 1000 := fun l => by rw [List.length_append, hn]; simp
  have hg1 : goodB (LP ++ [(1, [])]) = true := by
    unfold goodB
    rw [ends_of hz, hll, List.append_nil, hlen]
    rfl
  have hg2 : goodB (LP ++ [(1, [7])]) = false := by
    unfold goodB
    rw [ends_of hz, hll, List.length_append, hlen]
    rfl
  have y1 : dOp addD (dVar 8) (dTup (dCons (dTup (dCons (dC (.int 1)) (dCons (dTup dNil) dNil))) dNil)) r S7 = .ok (.tup ((LP ++ [(1, [])]).map pcD)) S7 := by
    refine ev_op (r8 _) (ev_tup (ev_cons (ev_tup (ev_cons rfl (ev_cons (ev_tup ev_nil (by simp)) ev_nil)) (by simp)) ev_nil) (by simp)) ?_
    rw [List.map_append]
    exact e_newTup (by simp [hn])
  have z1 : dCall tupleD (dCons (dLR 40) dNil) r S7 = .ok (.tup (intsD 40)) (S7 ++ [.lst (intsD 40)]) := ev_call (ev_cons (e_dLR 40 r S7) ev_nil) (e_tuple_ob push_new)
  have hi : intsD 40 = ((List.range 40).map fun i : Nat => (i : Int)).map D.int := by unfold intsD; rw [List.map_map]; rfl
  have j1 := joined_good (G := G) (hL []) hg1 S7
  rw [hll, List.append_nil] at j1
  have x1 : dTest (dOp eqD (dCall (F_joined G) (dCons (dOp addD (dVar 8) (dTup (dCons (dTup (dCons (dC (.int 1)) (dCons (dTup dNil) dNil))) dNil))) dNil)) (dCall tupleD (dCons (dLR 40) dNil))) r S7 = .ok true (S7 ++ [.lst (intsD 40)]) := by
    refine ev_test (ev_op (ev_call (ev_cons y1 ev_nil) j1) z1 ?_)
    rw [hi, eqD_ints, decide_eq_true rfl]
  have y2 : dOp addD (dVar 8) (dTup (dCons (dTup (dCons (dC (.int 1)) (dCons (dTup (dCons (dC (.int 7)) dNil)) dNil))) dNil)) r (S7 ++ [.lst (intsD 40)]) = .ok (.tup ((LP ++ [(1, [7])]).map pcD)) (S7 ++ [.lst (intsD 40)]) := by
    refine ev_op (r8 _) (ev_tup (ev_cons (ev_tup (ev_cons rfl (ev_cons (ev_tup (ev_cons rfl ev_nil) (by simp)) ev_nil)) (by simp)) ev_nil) (by simp)) ?_
    rw [List.map_append]
    exact e_newTup (by simp [hn])
  have j2 := refused_eq (G := G) (ps := LP ++ [(1, [7])]) (hL _) (by rw [hll, List.length_append, hlen]; decide) (S7 ++ [.lst (intsD 40)])
  rw [hg2] at j2
  rw [e_dAndV, e_bind, x1]
  exact ev_call (ev_cons y2 ev_nil) j2
theorem law_true (G : Cs) : ∀ ns : List Int, ns.length ≤ 63 → ∃ S', F_law G [.rol (ns.map D.int)] [] = .ok (.bl true) S' := by
  intro ns hns
  show ∃ S', fin [] (cd_law G [some (.rol (ns.map D.int)), none, none, none, none, none, none, none, none] []) = _
  unfold cd_law
  have hml := msgOf_len (cv ns 0) 40
  obtain ⟨m, hm⟩ : ∃ m, msgOf (cv ns 0) 40 = m := ⟨_, rfl⟩
  have e1 : dCall F__law_message (dCons (dCall F__law_cell (dCons (dVar 0) (dCons (dC (.int 0)) dNil))) (dCons (dC (.int 40)) dNil)) [some (.rol (ns.map D.int)), none, none, none, none, none, none, none, none] [] = .ok (msgD m) [] := by
    rw [← hm]
    exact ev_call (ev_cons (ev_call (ev_cons rfl (ev_cons rfl ev_nil)) (cell0 _)) (ev_cons rfl ev_nil)) (message_eq (cv ns 0) 40 (by decide) _)
  rw [hm] at hml
  rw [go_seq (go_asg e1)]
  show ∃ S', fin [] (sSeq _ _ [some (.rol (ns.map D.int)), some (msgD m), none, none, none, none, none, none, none] []) = _
  obtain ⟨hk0, hk1, hk8⟩ := kOf_eq ns
  obtain ⟨k, hk⟩ : ∃ k, kOf ns = k := ⟨_, rfl⟩
  rw [hk] at hk0 hk1 hk8
  have e2 : dOp addD (dC (.int 1)) (dOp modD (dCall F__law_cell (dCons (dVar 0) (dCons (dC (.int 1)) dNil))) (dC (.int 8))) [some (.rol (ns.map D.int)), some (msgD m), none, none, none, none, none, none, none] [] = .ok (.int (k : Int)) [] := by
    refine ev_op rfl (ev_op (ev_call (ev_cons rfl (ev_cons rfl ev_nil)) (cell1 _)) rfl (e_mod_int (by decide))) ?_
    rw [e_add_int, hk0]
  rw [go_seq (go_asg e2)]
  show ∃ S', fin [] (sSeq _ _ [some (.rol (ns.map D.int)), some (msgD m), some (.int (k : Int)), none, none, none, none, none, none] []) = _
  have t1 : dTest (dOp neD (dCall (F_joined G) (dCons (dCall F_pieces_of (dCons (dVar 1) (dCons (dVar 2) dNil))) dNil)) (dVar 1)) [some (.rol (ns.map D.int)), some (msgD m), some (.int (k : Int)), none, none, none, none, none, none] [] = .ok false [] := by
    refine ev_test (ev_op (ev_call (ev_cons (ev_call (ev_cons rfl (ev_cons rfl ev_nil)) (pieces_eq hk1 hml _)) ev_nil) (joined_cut hk1 hml _)) rfl ?_)
    unfold msgD
    rw [neD_ints]
    simp
  obtain ⟨S1, hS1⟩ : ∃ S1, ([] : List Cell) ++ [.lst ((cutP (9 - k) m).map pcD)] = S1 := ⟨_, rfl⟩
  have t2 : dTest (dOp neD (dCall (F_joined G) (dCons (dCall tupleD (dCons (dCall F__law_pieces (dCons (dVar 1) (dCons (dOp subD (dC (.int 9)) (dVar 2)) dNil))) dNil)) dNil)) (dVar 1)) [some (.rol (ns.map D.int)), some (msgD m), some (.int (k : Int)), none, none, none, none, none, none] [] = .ok false S1 := by
    rw [← hS1]
    have q : dOp subD (dC (.int 9)) (dVar 2) [some (.rol (ns.map D.int)), some (msgD m), some (.int (k : Int)), none, none, none, none, none, none] [] = .ok (.int ((9 - k : Nat) : Int)) [] := ev_op rfl rfl (by rw [e_sub_int]; congr 2; omega)
    refine ev_test (ev_op (ev_call (ev_cons (ev_call (ev_cons (ev_call (ev_cons rfl (ev_cons q ev_nil)) (lpieces_eq (k := 9 - k) (by omega) (by omega) hml _)) ev_nil) (e_tuple_ob (push_at rfl))) ev_nil) (joined_cut (by omega) hml _)) rfl ?_)
    unfold msgD
    rw [neD_ints]
    simp
  have t3 : dOr (dTest (dOp neD (dCall (F_joined G) (dCons (dCall F_pieces_of (dCons (dVar 1) (dCons (dVar 2) dNil))) dNil)) (dVar 1))) (dTest (dOp neD (dCall (F_joined G) (dCons (dCall tupleD (dCons (dCall F__law_pieces (dCons (dVar 1) (dCons (dOp subD (dC (.int 9)) (dVar 2)) dNil))) dNil)) dNil)) (dVar 1))) [some (.rol (ns.map D.int)), some (msgD m), some (.int (k : Int)), none, none, none, none, none, none] [] = .ok false S1 := by
    rw [e_dOr, e_bind, t1]
    exact t2
  rw [go_seq (by rw [go_ifF t3]; rfl)]
  have hrl := rowPre_len ns
  have sl : dWk (dSl slD (dVar 0) (dPart (dC (.int 2))) (dPart (dC (.int 8)))) [some (.rol (ns.map D.int)), some (msgD m), some (.int (k : Int)), none, none, none, none, none, none] S1 = .ok ⟨((ns.drop 2).take 6).map D.int, some (S1.length, ((ns.drop 2).take 6).map D.int)⟩ (S1 ++ [.lst (((ns.drop 2).take 6).map D.int)]) := by
    rw [e_dWk, e_bind]
    have : dSl slD (dVar 0) (dPart (dC (.int 2))) (dPart (dC (.int 8))) [some (.rol (ns.map D.int)), some (msgD m), some (.int (k : Int)), none, none, none, none, none, none] S1 = .ok (.ob S1.length) (S1 ++ [.lst (((ns.drop 2).take 6).map D.int)]) := by
      rw [← slice_rol]
      rfl
    rw [this]
    simp only [wkOf, push_new]
  have q1 := ev_comp (f := dWk (dSl slD (dVar 0) (dPart (dC (.int 2))) (dPart (dC (.int 8))))) (tg := gN 0) (ti := dYes) (fe := dTup (dCons (dC (.int 0)) (dCons (dCall F__law_message (dCons (dVar 0) (dCons (dC (.int 5)) dNil))) dNil))) (own := 1) (caps := [])
    (fun _ => true) (fun x => match x with
      | .int c => pcD (0, msgOf c 5)
      | _ => .non) sl push_new (by rw [List.length_map, List.length_take]; omega) (by
      intro x hx
      obtain ⟨c, _, rfl⟩ := List.mem_map.mp hx
      refine ⟨_, rfl, fun _ => rfl, fun _ zs => ?_⟩
      show dTup _ [some (.int c)] _ = _
      exact ev_tup (ev_cons rfl (ev_cons (ev_call (ev_cons rfl (ev_cons rfl ev_nil)) (message_eq c 5 (by decide) _)) ev_nil)) (by simp))
  have hpre : ((((ns.drop 2).take 6).map D.int).filter fun _ => true).map (fun x => match x with
      | .int c => pcD (0, msgOf c 5)
      | _ => .non) = (rowPre ns).map pcD := by
    rw [List.filter_eq_self.mpr (by simp)]
    unfold rowPre
    rw [List.map_map, List.map_map]
    rfl
  rw [hpre] at q1
  obtain ⟨S2, hS2⟩ : ∃ S2, S1 ++ [Cell.lst (((ns.drop 2).take 6).map D.int)] = S2 := ⟨_, rfl⟩
  rw [hS2] at q1
  have q2 : dLst (dCons (dTup (dCons (dC (.int 1)) (dCons (dCall F__law_message (dCons (dCall F__law_cell (dCons (dVar 0) (dCons (dC (.int 8)) dNil))) (dCons (dC (.int 5)) dNil))) dNil))) dNil) [some (.rol (ns.map D.int)), some (msgD m), some (.int (k : Int)), none, none, none, none, none, none] (S2 ++ [.lst ((rowPre ns).map pcD)]) = .ok (.ob (S2 ++ [Cell.lst ((rowPre ns).map pcD)]).length) (S2 ++ [.lst ((rowPre ns).map pcD)] ++ [.lst [pcD (1, msgOf (cv ns 8) 5)]]) :=
    ev_lst (ev_cons (ev_tup (ev_cons rfl (ev_cons (ev_call (ev_cons (ev_call (ev_cons rfl (ev_cons rfl ev_nil)) (cell_eq (k := 8) _)) (ev_cons rfl ev_nil)) (message_eq (cv ns 8) 5 (by decide) _)) ev_nil)) (by simp)) ev_nil) (by simp)
  have hrw : (rowPre ns).map pcD ++ [pcD (1, msgOf (cv ns 8) 5)] = (rowP ns).map pcD := by unfold rowP; simp
  have hRL := rowP_len ns
  obtain ⟨S3, hS3⟩ : ∃ S3, S2 ++ [Cell.lst ((rowPre ns).map pcD)] ++ [.lst [pcD (1, msgOf (cv ns 8) 5)]] = S3 := ⟨_, rfl⟩
  have q3 : dOp addD (dComp (dWk (dSl slD (dVar 0) (dPart (dC (.int 2))) (dPart (dC (.int 8))))) (gN 0) dYes (dTup (dCons (dC (.int 0)) (dCons (dCall F__law_message (dCons (dVar 0) (dCons (dC (.int 5)) dNil))) dNil))) 1 []) (dLst (dCons (dTup (dCons (dC (.int 1)) (dCons (dCall F__law_message (dCons (dCall F__law_cell (dCons (dVar 0) (dCons (dC (.int 8)) dNil))) (dCons (dC (.int 5)) dNil))) dNil))) dNil)) [some (.rol (ns.map D.int)), some (msgD m), some (.int (k : Int)), none, none, none, none, none, none] S1 = .ok (.ob S3.length) (S3 ++ [.lst ((rowP ns).map pcD)]) := by
    refine ev_op q1 q2 ?_
    rw [← hrw, ← hS3]
    exact e_add_obs (push_old push_new) push_new (by simp; omega)
  rw [go_seq (go_asg q3)]
  obtain ⟨S4, hS4⟩ : ∃ S4, S3 ++ [Cell.lst ((rowP ns).map pcD)] = S4 := ⟨_, rfl⟩
  obtain ⟨n3, hn3⟩ : ∃ n3, S3.length = n3 := ⟨_, rfl⟩
  have hat : S4[n3]? = some (.lst ((rowP ns).map pcD)) := by rw [← hS4]; exact push_at hn3.symm
  rw [hS4, hn3]
  show ∃ S', fin [] (sSeq _ _ [some (.rol (ns.map D.int)), some (msgD m), some (.int (k : Int)), some (.ob n3), none, none, none, none, none] S4) = _
  rw [go_seq (go_asg (ev_tup ev_nil (by decide)))]
  show ∃ S', fin [] (sSeq _ _ [some (.rol (ns.map D.int)), some (msgD m), some (.int (k : Int)), some (.ob n3), some (.tup []), none, none, none, none] S4) = _
  have hrlet := row_letters ns
  have hw : dWk (dVar 3) [some (.rol (ns.map D.int)), some (msgD m), some (.int (k : Int)), some (.ob n3), some (.tup []), none, none, none, none] S4 = .ok ⟨(rowP ns).map pcD, some (n3, (rowP ns).map pcD)⟩ S4 := by
    rw [e_dWk, e_bind]
    show wkOf (.ob n3) S4 = _
    simp only [wkOf, hat]
  obtain ⟨r', S', q, x5, rfl, hS'⟩ := sTurns_inv (g := some (n3, (rowP ns).map pcD)) (tg := gN 5) (b := bd_law_1 G)
    (fun i r S' => ∃ x5, r = [some (.rol (ns.map D.int)), some (msgD m), some (.int (k : Int)), some (.ob n3), some (.tup ((letters ((rowP ns).take i)).map D.int)), x5, none, none, none] ∧ S' = S4) ((rowP ns).map pcD) 0 [some (.rol (ns.map D.int)), some (msgD m), some (.int (k : Int)), some (.ob n3), some (.tup []), none, none, none, none] S4
    (by
      rintro i y r S' hy ⟨x5, rfl, rfl⟩
      rw [List.getElem?_map] at hy
      cases hp : (rowP ns)[i]? with
      | none => rw [hp] at hy; cases hy
      | some p =>
        rw [hp] at hy
        cases hy
        rw [Nat.zero_add]
        refine ⟨[some (.rol (ns.map D.int)), some (msgD m), some (.int (k : Int)), some (.ob n3), some (.tup ((letters ((rowP ns).take i)).map D.int)), some (pcD p), none, none, none], [some (.rol (ns.map D.int)), some (msgD m), some (.int (k : Int)), some (.ob n3), some (.tup ((letters ((rowP ns).take (i + 1))).map D.int)), some (pcD p), none, none, none], S', rfl, ?_, hat, _, rfl, rfl⟩
        have hl := letters_len_take (rowP ns) (i + 1)
        unfold bd_law_1
        rw [letters_succ hp] at hl ⊢
        rw [List.length_append] at hl
        have ee : dOp addD (dVar 4) (dOp ixD (dVar 5) (dC (.int 1))) [some (.rol (ns.map D.int)), some (msgD m), some (.int (k : Int)), some (.ob n3), some (.tup ((letters ((rowP ns).take i)).map D.int)), some (pcD p), none, none, none] S' = .ok (.tup ((letters ((rowP ns).take i) ++ p.2).map D.int)) S' := by
          refine ev_op rfl (ev_op rfl rfl (pc_ix1 p _)) ?_
          rw [List.map_append]
          exact e_newTup (by simp; omega)
        rw [go_asg ee]
        rfl)
    ⟨none, rfl, rfl⟩
  rw [hS'] at q
  rw [go_seq (by rw [go_for hw]; exact q)]
  rw [show 0 + ((rowP ns).map pcD).length = (rowP ns).length by simp, List.take_length]
  obtain ⟨R, hR⟩ : ∃ R : Option D → Option D → Option D → DSt, R = fun a b c => [some (.rol (ns.map D.int)), some (msgD m), some (.int (k : Int)), some (.ob n3), some (.tup ((letters (rowP ns)).map D.int)), x5, a, b, c] := ⟨_, rfl⟩
  have t4 : dTest (dOp neD (dCall (F_joined G) (dCons (dCall tupleD (dCons (dVar 3) dNil)) dNil)) (dVar 4)) [some (.rol (ns.map D.int)), some (msgD m), some (.int (k : Int)), some (.ob n3), some (.tup ((letters (rowP ns)).map D.int)), x5, none, none, none] S4 = .ok false S4 := by
    refine ev_test (ev_op (ev_call (ev_cons (ev_call (ev_cons rfl ev_nil) (e_tuple_ob hat)) ev_nil) (joined_good (by omega) (good_row ns) _)) rfl ?_)
    rw [neD_ints]
    simp
  rw [go_seq (by rw [go_ifF t4]; rfl)]
  obtain ⟨at_, hat2, hat3⟩ : ∃ at_ : Nat, cv ns 9 % ((rowP ns).length : Int) = (at_ : Int) ∧ at_ < (rowP ns).length := by
    have h1 := Int.emod_nonneg (cv ns 9) (show ((rowP ns).length : Int) ≠ 0 by omega)
    have h2 := Int.emod_lt_of_pos (cv ns 9) (show (0 : Int) < ((rowP ns).length : Int) by omega)
    exact ⟨(cv ns 9 % ((rowP ns).length : Int)).toNat, by omega, by omega⟩
  have e6 : dOp modD (dCall F__law_cell (dCons (dVar 0) (dCons (dC (.int 9)) dNil))) (dCall lenD (dCons (dVar 3) dNil)) [some (.rol (ns.map D.int)), some (msgD m), some (.int (k : Int)), some (.ob n3), some (.tup ((letters (rowP ns)).map D.int)), x5, none, none, none] S4 = .ok (.int (at_ : Int)) S4 := by
    refine ev_op (ev_call (ev_cons rfl (ev_cons rfl ev_nil)) (cell_eq (k := 9) _)) (ev_call (ev_cons rfl ev_nil) (e_len_ob hat)) ?_
    rw [List.length_map, e_mod_int (by omega), hat2]
  rw [go_seq (go_asg e6)]
  show ∃ S', fin [] (sSeq _ _ [some (.rol (ns.map D.int)), some (msgD m), some (.int (k : Int)), some (.ob n3), some (.tup ((letters (rowP ns)).map D.int)), x5, some (.int (at_ : Int)), none, none] S4) = _
  have e7 : dCall listD (dCons (dVar 3) dNil) [some (.rol (ns.map D.int)), some (msgD m), some (.int (k : Int)), some (.ob n3), some (.tup ((letters (rowP ns)).map D.int)), x5, some (.int (at_ : Int)), none, none] S4 = .ok (.ob S4.length) (S4 ++ [.lst ((rowP ns).map pcD)]) := by
    refine ev_call (ev_cons rfl ev_nil) ?_
    simp only [listD, seqD, lstAt_of hat]
  rw [go_seq (go_asg e7)]
  show ∃ S', fin [] (sSeq _ _ [some (.rol (ns.map D.int)), some (msgD m), some (.int (k : Int)), some (.ob n3), some (.tup ((letters (rowP ns)).map D.int)), x5, some (.int (at_ : Int)), some (.ob S4.length), none] (S4 ++ [.lst ((rowP ns).map pcD)])) = _
  obtain ⟨p, hp⟩ : ∃ p, (rowP ns)[at_]? = some p := ⟨_, List.getElem?_eq_getElem hat3⟩
  have hpD : ((rowP ns).map pcD)[at_]? = some (pcD p) := by rw [List.getElem?_map, hp]; rfl
  have hat5 : (S4 ++ [Cell.lst ((rowP ns).map pcD)])[n3]? = some (.lst ((rowP ns).map pcD)) := push_old hat
  have ix1 : ∀ S, S[n3]? = some (.lst ((rowP ns).map pcD)) → dOp ixD (dVar 3) (dVar 6) [some (.rol (ns.map D.int)), some (msgD m), some (.int (k : Int)), some (.ob n3), some (.tup ((letters (rowP ns)).map D.int)), x5, some (.int (at_ : Int)), some (.ob S4.length), none] S = .ok (pcD p) S := fun S h => ev_op rfl rfl (e_ix_ob h hpD)
  have e8 : dTup (dCons (dOp subD (dC (.int 1)) (dOp ixD (dOp ixD (dVar 3) (dVar 6)) (dC (.int 0)))) (dCons (dOp ixD (dOp ixD (dVar 3) (dVar 6)) (dC (.int 1))) dNil)) [some (.rol (ns.map D.int)), some (msgD m), some (.int (k : Int)), some (.ob n3), some (.tup ((letters (rowP ns)).map D.int)), x5, some (.int (at_ : Int)), some (.ob S4.length), none] (S4 ++ [.lst ((rowP ns).map pcD)]) = .ok (pcD (1 - p.1, p.2)) (S4 ++ [.lst ((rowP ns).map pcD)]) :=
    ev_tup (ev_cons (ev_op rfl (ev_op (ix1 _ hat5) rfl (pc_ix0 p _)) (e_sub_int _ _)) (ev_cons (ev_op (ix1 _ hat5) rfl (pc_ix1 p _)) ev_nil)) (by simp)
  have hset : ∀ a c : Cell, (S4 ++ [a]).set S4.length c = S4 ++ [c] := fun a c => by rw [List.set_append_right _ _ (Nat.le_refl _)]; simp
  obtain ⟨bad, hbad⟩ : ∃ bad : List Pc, (rowP ns).set at_ (1 - p.1, p.2) = bad := ⟨_, rfl⟩
  have e9 : putLD (.ob S4.length) (.int (at_ : Int)) (pcD (1 - p.1, p.2)) (S4 ++ [.lst ((rowP ns).map pcD)]) = some (S4 ++ [.lst (bad.map pcD)]) := by
    have hix : ixN ((rowP ns).map pcD).length (at_ : Int) = some at_ := by
      unfold ixN
      rw [List.length_map]
      simp
      omega
    simp only [putLD, lstAt_of push_new, hix, hset]
    rw [← hbad, List.map_set]
  rw [go_seq (go_put e8 rfl rfl e9)]
  have hat6 : (S4 ++ [Cell.lst (bad.map pcD)])[n3]? = some (.lst ((rowP ns).map pcD)) := push_old hat
  obtain ⟨S5, hS5⟩ : ∃ S5, S4 ++ [Cell.lst (bad.map pcD)] = S5 := ⟨_, rfl⟩
  have hbat : S5[S4.length]? = some (.lst (bad.map pcD)) := by rw [← hS5]; exact push_new
  rw [hS5] at hat6 ⊢
  have w1 := ev_comp (f := dRng1 (dC (.int 40))) (tg := gN 0) (ti := dYes) (fe := dTup (dCons (dC (.int 0)) (dCons (dTup (dCons (dVar 0) dNil)) dNil))) (own := 1) (caps := [])
    (r := [some (.rol (ns.map D.int)), some (msgD m), some (.int (k : Int)), some (.ob n3), some (.tup ((letters (rowP ns)).map D.int)), x5, some (.int (at_ : Int)), some (.ob S4.length), none]) (S := S5) (S1 := S5) (w := ⟨rngD 0 1 40, none⟩) (fun _ => true) (fun x => match x with
      | .int c => pcD (0, [c])
      | _ => .non) (wRng_eq (n := 40) (by decide)) trivial (by simp [rngD]) (by
      intro x hx
      simp only [rngD, List.mem_map, List.mem_range] at hx
      obtain ⟨c, _, rfl⟩ := hx
      refine ⟨_, rfl, fun _ => rfl, fun _ zs => ?_⟩
      exact ev_tup (ev_cons rfl (ev_cons (ev_tup (ev_cons rfl ev_nil) (by simp)) ev_nil)) (by simp))
  have hlong : ((rngD 0 1 40).filter fun _ => true).map (fun x => match x with
      | .int c => pcD (0, [c])
      | _ => .non) = (longP 40).map pcD := by
    rw [List.filter_eq_self.mpr (by simp)]
    unfold longP rngD
    rw [List.map_map, List.map_map]
    refine List.map_congr_left fun c _ => ?_
    have hk : 0 + (c : Int) * 1 = (c : Int) := by omega
    simp only [Function.comp_def, hk]
  rw [hlong] at w1
  have hLz := longP_zero 40
  have hLl := longP_letters 40
  have hLn : (longP 40).length = 40 := by unfold longP; rw [List.length_map, List.length_range]
  clear hlong
  generalize longP 40 = LP at w1 hLz hLl hLn ⊢
  rw [go_seq (go_asg (ev_call (ev_cons w1 ev_nil) (e_tuple_ob push_new)))]
  obtain ⟨S6, hS6⟩ : ∃ S6, S5 ++ [Cell.lst (LP.map pcD)] = S6 := ⟨_, rfl⟩
  have hat7 : S6[n3]? = some (.lst ((rowP ns).map pcD)) := by rw [← hS6]; exact push_old hat6
  have hbat7 : S6[S4.length]? = some (.lst (bad.map pcD)) := by rw [← hS6]; exact push_old hbat
  rw [hS6]
  obtain ⟨r, hr⟩ : ∃ r : DSt, [some (.rol (ns.map D.int)), some (msgD m), some (.int (k : Int)), some (.ob n3), some (.tup ((letters (rowP ns)).map D.int)), x5, some (.int (at_ : Int)), some (.ob S4.length), some (.tup (LP.map pcD))] = r := ⟨_, rfl⟩
  show ∃ S', fin [] (sSeq _ _ [some (.rol (ns.map D.int)), some (msgD m), some (.int (k : Int)), some (.ob n3), some (.tup ((letters (rowP ns)).map D.int)), x5, some (.int (at_ : Int)), some (.ob S4.length), some (.tup (LP.map pcD))] S6) = _
  rw [hr]
  have r3 : dVar 3 r S6 = .ok (.ob n3) S6 := by rw [← hr]; rfl
  have r7 : dVar 7 r S6 = .ok (.ob S4.length) S6 := by rw [← hr]; rfl
  have r8 : ∀ S, dVar 8 r S = .ok (.tup (LP.map pcD)) S := fun S => by rw [← hr]; rfl
  have hgb : goodB bad = false := by
    unfold goodB
    rw [← hbad]
    unfold rowP at hp ⊢
    rw [ends_flip (rowPre_zero ns) hp]
    rfl
  have hbl : bad.length = (rowP ns).length := by rw [← hbad]; simp
  have hbs : (letters bad).length ≤ 1000 := by
    have : ∀ q ∈ bad, q.2.length ≤ 5 := fun q hq => by
      rw [← hbad] at hq
      rcases List.mem_or_eq_of_mem_set hq with hq | rfl
      · exact row_short ns q hq
      · exact row_short ns p (List.mem_of_getElem? hp)
    have := letters_short this
    omega
  have u1 : dTru (dCall (F__law_refused G) (dCons (dCall tupleD (dCons (dVar 7) dNil)) dNil)) r S6 = .ok true S6 := by
    rw [e_dTru, e_bind, ev_call (ev_cons (ev_call (ev_cons r7 ev_nil) (e_tuple_ob hbat7)) ev_nil) (refused_eq (by omega) hbs S6), hgb]
    rfl
  have u2 : dTru (dCall (F__law_refused G) (dCons (dTup dNil) dNil)) r S6 = .ok true S6 := by
    rw [e_dTru, e_bind, ev_call (ev_cons (ev_tup ev_nil (by decide)) ev_nil) (refused_eq (ps := []) (by decide) (by decide) S6)]
    rfl
  obtain ⟨S7, hS7⟩ : ∃ S7, S6 ++ [Cell.lst ((rowPre ns).map pcD)] = S7 := ⟨_, rfl⟩
  have u3 : dTru (dCall (F__law_refused G) (dCons (dCall tupleD (dCons (dSl slD (dVar 3) dNoPart (dPart (dUn negD (dC (.int 1))))) dNil)) dNil)) r S6 = .ok true S7 := by
    have v1 : dSl slD (dVar 3) dNoPart (dPart (dUn negD (dC (.int 1)))) r S6 = .ok (.ob S6.length) S7 := by
      rw [e_dSl, e_bind, r3]
      show slD (.ob n3) none (some (-1)) S6 = _
      simp only [slD, lstAt_of hat7]
      rw [cutD_but1 (by simp; omega), ← hS7]
      have : ((rowP ns).map pcD).take (((rowP ns).map pcD).length - 1) = (rowPre ns).map pcD := by
        unfold rowP
        rw [List.map_append, List.length_append, List.length_map]
        simp
      rw [this]
    have hz : (letters (rowPre ns)).length ≤ 1000 := by
      have : letters (rowP ns) = letters (rowPre ns) ++ msgOf (cv ns 8) 5 := by unfold rowP; rw [letters_append, letters_one]
      rw [this, List.length_append] at hrlet
      omega
    have hg : goodB (rowPre ns) = false := by unfold goodB; rw [ends_not (rowPre_zero ns)]; rfl
    rw [e_dTru, e_bind, ev_call (ev_cons (ev_call (ev_cons v1 ev_nil) (e_tuple_ob (by rw [← hS7]; exact push_new))) ev_nil) (refused_eq (by omega) hz S7), hg]
    rfl
  have u4 : dOr (dNot (dTru (dCall (F__law_refused G) (dCons (dCall tupleD (dCons (dVar 7) dNil)) dNil)))) (dOr (dNot (dTru (dCall (F__law_refused G) (dCons (dTup dNil) dNil)))) (dNot (dTru (dCall (F__law_refused G) (dCons (dCall tupleD (dCons (dSl slD (dVar 3) dNoPart (dPart (dUn negD (dC (.int 1))))) dNil)) dNil))))) r S6 = .ok false S7 := by
    rw [e_dOr, e_bind, e_dNot, e_bind, u1]
    show dOr _ _ r S6 = _
    rw [e_dOr, e_bind, e_dNot, e_bind, u2]
    show dNot _ r S6 = _
    rw [e_dNot, e_bind, u3]
    rfl
  rw [go_seq (by rw [go_ifF u4]; rfl)]
  refine ⟨S7 ++ [.lst (intsD 40)], ?_⟩
  have x3 := end_eq (G := G) hLz hLl hLn r8 S7
  rw [go_ret x3]
  rfl
end
end Lw
namespace Lw
open PySem L2 DL
theorem all_mk {l : PySem.W.OpenLaw} {w : World} {K : PySem.W.Frag} {h : Heap} {mg : Str → Option Value} {fa : Addr} {gNoMessage : Addr} {gRoadError : Addr} {f0 : Addr} {od0 an0 : Option Addr} {sl0 : Array (Option Value)} {oc0 kV0 dc0 pm0 cd0 ct0 : Value} {f1 : Addr} {od1 an1 : Option Addr} {sl1 : Array (Option Value)} {oc1 kV1 dc1 pm1 cd1 ct1 : Value} {f2 : Addr} {od2 an2 : Option Addr} {sl2 : Array (Option Value)} {oc2 kV2 dc2 pm2 cd2 ct2 : Value} {f3 : Addr} {od3 an3 : Option Addr} {sl3 : Array (Option Value)} {oc3 kV3 dc3 pm3 cd3 ct3 : Value} {f4 : Addr} {od4 an4 : Option Addr} {sl4 : Array (Option Value)} {oc4 kV4 dc4 pm4 cd4 ct4 : Value} {f5 : Addr} {od5 an5 : Option Addr} {sl5 : Array (Option Value)} {oc5 kV5 dc5 pm5 cd5 ct5 : Value} {f6 : Addr} {od6 an6 : Option Addr} {sl6 : Array (Option Value)} {oc6 kV6 dc6 pm6 cd6 ct6 : Value} {f7 : Addr} {od7 an7 : Option Addr} {sl7 : Array (Option Value)} {oc7 kV7 dc7 pm7 cd7 ct7 : Value} {f8 : Addr} {od8 an8 : Option Addr} {sl8 : Array (Option Value)} {oc8 kV8 dc8 pm8 cd8 ct8 : Value} {f9 : Addr} {od9 an9 : Option Addr} {sl9 : Array (Option Value)} {oc9 kV9 dc9 pm9 cd9 ct9 : Value} {t_MOST_MESSAGE_LETTERS : Tok} (X : K.In h) (G : h.Ns mainGlobals mg) (hfa : mg "law" = some (.ref fa))
    (aCNoMessage : PySem.W.nsIn K mainGlobals "NoMessage" = some (some (.ref gNoMessage)))
    (aCRoadError : PySem.W.nsIn K mainGlobals "RoadError" = some (some (.ref gRoadError)))
    (a0 : PySem.W.nsIn K mainGlobals "_law_mix" = some (some (.ref f0)))
    (l0 : K.lookup f0 = some ⟨oc0, od0, .func (PySem.W.fnOf "_law_mix" "_law_mix" (defArgs s__law_mix) (defBody s__law_mix) (defScope s__law_mix) .none kV0 dc0 pm0 an0 cd0 ct0), sl0⟩)
    (c0 : PySem.W.codeIn K cd0 "_law_mix" = true)
    (k0 : PySem.W.keepIn K (.ref f0) = true)
    (a1 : PySem.W.nsIn K mainGlobals "_law_message" = some (some (.ref f1)))
    (l1 : K.lookup f1 = some ⟨oc1, od1, .func (PySem.W.fnOf "_law_message" "_law_message" (defArgs s__law_message) (defBody s__law_message) (defScope s__law_message) .none kV1 dc1 pm1 an1 cd1 ct1), sl1⟩)
    (c1 : PySem.W.codeIn K cd1 "_law_message" = true)
    (k1 : PySem.W.keepIn K (.ref f1) = true)
    (a2 : PySem.W.nsIn K mainGlobals "_law_cell" = some (some (.ref f2)))
    (l2 : K.lookup f2 = some ⟨oc2, od2, .func (PySem.W.fnOf "_law_cell" "_law_cell" (defArgs s__law_cell) (defBody s__law_cell) (defScope s__law_cell) .none kV2 dc2 pm2 an2 cd2 ct2), sl2⟩)
    (c2 : PySem.W.codeIn K cd2 "_law_cell" = true)
    (k2 : PySem.W.keepIn K (.ref f2) = true)
    (a3 : PySem.W.nsIn K mainGlobals "letters_of" = some (some (.ref f3)))
    (l3 : K.lookup f3 = some ⟨oc3, od3, .func (PySem.W.fnOf "letters_of" "letters_of" (defArgs s_letters_of) (defBody s_letters_of) (defScope s_letters_of) .none kV3 dc3 pm3 an3 cd3 ct3), sl3⟩)
    (c3 : PySem.W.codeIn K cd3 "letters_of" = true)
    (k3 : PySem.W.keepIn K (.ref f3) = true)
    (a4 : PySem.W.nsIn K mainGlobals "ends_once" = some (some (.ref f4)))
    (l4 : K.lookup f4 = some ⟨oc4, od4, .func (PySem.W.fnOf "ends_once" "ends_once" (defArgs s_ends_once) (defBody s_ends_once) (defScope s_ends_once) .none kV4 dc4 pm4 an4 cd4 ct4), sl4⟩)
    (c4 : PySem.W.codeIn K cd4 "ends_once" = true)
    (k4 : PySem.W.keepIn K (.ref f4) = true)
    (a5 : PySem.W.nsIn K mainGlobals "joined" = some (some (.ref f5)))
    (l5 : K.lookup f5 = some ⟨oc5, od5, .func (PySem.W.fnOf "joined" "joined" (defArgs s_joined) (defBody s_joined) (defScope s_joined) .none kV5 dc5 pm5 an5 cd5 ct5), sl5⟩)
    (c5 : PySem.W.codeIn K cd5 "joined" = true)
    (k5 : PySem.W.keepIn K (.ref f5) = true)
    (a6 : PySem.W.nsIn K mainGlobals "_law_refused" = some (some (.ref f6)))
    (l6 : K.lookup f6 = some ⟨oc6, od6, .func (PySem.W.fnOf "_law_refused" "_law_refused" (defArgs s__law_refused) (defBody s__law_refused) (defScope s__law_refused) .none kV6 dc6 pm6 an6 cd6 ct6), sl6⟩)
    (c6 : PySem.W.codeIn K cd6 "_law_refused" = true)
    (k6 : PySem.W.keepIn K (.ref f6) = true)
    (a7 : PySem.W.nsIn K mainGlobals "pieces_of" = some (some (.ref f7)))
    (l7 : K.lookup f7 = some ⟨oc7, od7, .func (PySem.W.fnOf "pieces_of" "pieces_of" (defArgs s_pieces_of) (defBody s_pieces_of) (defScope s_pieces_of) .none kV7 dc7 pm7 an7 cd7 ct7), sl7⟩)
    (c7 : PySem.W.codeIn K cd7 "pieces_of" = true)
    (k7 : PySem.W.keepIn K (.ref f7) = true)
    (a8 : PySem.W.nsIn K mainGlobals "_law_pieces" = some (some (.ref f8)))
    (l8 : K.lookup f8 = some ⟨oc8, od8, .func (PySem.W.fnOf "_law_pieces" "_law_pieces" (defArgs s__law_pieces) (defBody s__law_pieces) (defScope s__law_pieces) .none kV8 dc8 pm8 an8 cd8 ct8), sl8⟩)
    (c8 : PySem.W.codeIn K cd8 "_law_pieces" = true)
    (k8 : PySem.W.keepIn K (.ref f8) = true)
    (a9 : PySem.W.nsIn K mainGlobals "law" = some (some (.ref f9)))
    (l9 : K.lookup f9 = some ⟨oc9, od9, .func (PySem.W.fnOf "law" "law" (defArgs s_law) (defBody s_law) (defScope s_law) .none kV9 dc9 pm9 an9 cd9 ct9), sl9⟩)
    (c9 : PySem.W.codeIn K cd9 "law" = true)
    (k9 : PySem.W.keepIn K (.ref f9) = true)
    (ex_NoMessage : PySem.W.excIn K gNoMessage [.type "ValueError", .type "Exception", .type "BaseException", .type "object"] "ValueError.__new__" = true)
    (ex_RoadError : PySem.W.excIn K gRoadError [.type "ValueError", .type "Exception", .type "BaseException", .type "object"] "ValueError.__new__" = true)
    (su_NoMessage_RoadError : PySem.W.subIn K (.ref gNoMessage) (.ref gRoadError) = some true)
    (ai_NoMessage_NoMessage : PySem.W.isIn K (.ref gNoMessage) gNoMessage = true)
    (at_NoMessage_ValueError : PySem.W.subIn K (.ref gNoMessage) (.type "ValueError") = some true)
    (z_ValueError : PySem.W.nsIn K mainGlobals "ValueError" = some none)
    (z_int : PySem.W.nsIn K mainGlobals "int" = some none)
    (z_isinstance : PySem.W.nsIn K mainGlobals "isinstance" = some none)
    (z_len : PySem.W.nsIn K mainGlobals "len" = some none)
    (z_list : PySem.W.nsIn K mainGlobals "list" = some none)
    (z_max : PySem.W.nsIn K mainGlobals "max" = some none)
    (z_range : PySem.W.nsIn K mainGlobals "range" = some none)
    (z_tuple : PySem.W.nsIn K mainGlobals "tuple" = some none)
    (q_MOST_MESSAGE_LETTERS : PySem.W.nsIn K mainGlobals "MOST_MESSAGE_LETTERS" = some (some (.int 40 t_MOST_MESSAGE_LETTERS)))
    : ∃ fd : FuncData, (∀ (s : Shared) (v : Value), BindsTo s fd ⟨[v], []⟩ [("_law_script", v)]) ∧ ∀ base : Heap, K.In base → base.Ns mainGlobals mg → FnOk l.prog w K mg base (CXE l.prog w) 4 fa fd ["_law_script"] (spLaw K) := by
  have e := hfa.symm.trans (PySem.W.mg_of X G a9)
  cases e
  have T : Txt K mg (⟨gNoMessage, gRoadError⟩ : Cs) := ⟨PySem.W.mg_none_of X G z_ValueError, PySem.W.mg_none_of X G z_int, PySem.W.mg_none_of X G z_isinstance, PySem.W.mg_none_of X G z_len, PySem.W.mg_none_of X G z_list, PySem.W.mg_none_of X G z_max, PySem.W.mg_none_of X G z_range, PySem.W.mg_none_of X G z_tuple, ⟨PySem.W.mg_of X G aCNoMessage, ex_NoMessage⟩, ⟨PySem.W.mg_of X G aCRoadError, ex_RoadError⟩, su_NoMessage_RoadError, ai_NoMessage_NoMessage, at_NoMessage_ValueError, ⟨_, PySem.W.mg_of X G q_MOST_MESSAGE_LETTERS, krep_int⟩⟩
  have F0 := fun_mk (st := s__law_mix) l0 c0 k0
  have b0 := F0.binds (ps := ["_law_cell_here", "_law_prime", "_law_many"]) fun _ _ _ _ _ _ us hl => match us, hl with | [_, _, _], _ => rfl
  have F1 := fun_mk (st := s__law_message) l1 c1 k1
  have b1 := F1.binds (ps := ["_law_cell_here", "_law_longest"]) fun _ _ _ _ _ _ us hl => match us, hl with | [_, _], _ => rfl
  have F2 := fun_mk (st := s__law_cell) l2 c2 k2
  have b2 := F2.binds (ps := ["_law_script", "_law_k"]) fun _ _ _ _ _ _ us hl => match us, hl with | [_, _], _ => rfl
  have F3 := fun_mk (st := s_letters_of) l3 c3 k3
  have b3 := F3.binds (ps := ["pieces"]) fun _ _ _ _ _ _ us hl => match us, hl with | [_], _ => rfl
  have F4 := fun_mk (st := s_ends_once) l4 c4 k4
  have b4 := F4.binds (ps := ["pieces"]) fun _ _ _ _ _ _ us hl => match us, hl with | [_], _ => rfl
  have F5 := fun_mk (st := s_joined) l5 c5 k5
  have b5 := F5.binds (ps := ["pieces"]) fun _ _ _ _ _ _ us hl => match us, hl with | [_], _ => rfl
  have F6 := fun_mk (st := s__law_refused) l6 c6 k6
  have b6 := F6.binds (ps := ["_law_pieces_here"]) fun _ _ _ _ _ _ us hl => match us, hl with | [_], _ => rfl
  have F7 := fun_mk (st := s_pieces_of) l7 c7 k7
  have b7 := F7.binds (ps := ["message", "most"]) fun _ _ _ _ _ _ us hl => match us, hl with | [_, _], _ => rfl
  have F8 := fun_mk (st := s__law_pieces) l8 c8 k8
  have b8 := F8.binds (ps := ["_law_message_here", "_law_most"]) fun _ _ _ _ _ _ us hl => match us, hl with | [_, _], _ => rfl
  have F9 := fun_mk (st := s_law) l9 c9 k9
  refine ⟨PySem.W.fnOf "law" "law" (defArgs s_law) (defBody s_law) (defScope s_law) .none kV9 dc9 pm9 an9 cd9 ct9, fun s v => .of_eq rfl, fun base _ _ => ?_⟩
  have C__law_mix : Cal l.prog w K mg base (CXE l.prog w) "_law_mix" 1 ["_law_cell_here", "_law_prime", "_law_many"] F__law_mix := ⟨⟨f0, _, PySem.W.mg_of X G a0, k0, b0, ok__law_mix T  F0⟩⟩
  have C__law_message : Cal l.prog w K mg base (CXE l.prog w) "_law_message" 2 ["_law_cell_here", "_law_longest"] F__law_message := ⟨⟨f1, _, PySem.W.mg_of X G a1, k1, b1, ok__law_message T C__law_mix F1⟩⟩
  have C__law_cell : Cal l.prog w K mg base (CXE l.prog w) "_law_cell" 1 ["_law_script", "_law_k"] F__law_cell := ⟨⟨f2, _, PySem.W.mg_of X G a2, k2, b2, ok__law_cell T  F2⟩⟩
  have C_letters_of : Cal l.prog w K mg base (CXE l.prog w) "letters_of" 1 ["pieces"] F_letters_of := ⟨⟨f3, _, PySem.W.mg_of X G a3, k3, b3, ok_letters_of T  F3⟩⟩
  have C_ends_once : Cal l.prog w K mg base (CXE l.prog w) "ends_once" 1 ["pieces"] F_ends_once := ⟨⟨f4, _, PySem.W.mg_of X G a4, k4, b4, ok_ends_once T  F4⟩⟩
  have C_joined : Cal l.prog w K mg base (CXE l.prog w) "joined" 2 ["pieces"] (F_joined (⟨gNoMessage, gRoadError⟩ : Cs)) := ⟨⟨f5, _, PySem.W.mg_of X G a5, k5, b5, ok_joined T C_ends_once C_letters_of F5⟩⟩
  have C__law_refused : Cal l.prog w K mg base (CXE l.prog w) "_law_refused" 3 ["_law_pieces_here"] (F__law_refused (⟨gNoMessage, gRoadError⟩ : Cs)) := ⟨⟨f6, _, PySem.W.mg_of X G a6, k6, b6, ok__law_refused T C_joined F6⟩⟩
  have C_pieces_of : Cal l.prog w K mg base (CXE l.prog w) "pieces_of" 1 ["message", "most"] F_pieces_of := ⟨⟨f7, _, PySem.W.mg_of X G a7, k7, b7, ok_pieces_of T  F7⟩⟩
  have C__law_pieces : Cal l.prog w K mg base (CXE l.prog w) "_law_pieces" 1 ["_law_message_here", "_law_most"] F__law_pieces := ⟨⟨f8, _, PySem.W.mg_of X G a8, k8, b8, ok__law_pieces T  F8⟩⟩
  exact FnOk.imp (ok_law T C__law_cell C__law_message C_pieces_of C_joined C__law_pieces C__law_refused F9) (spLaw_of (law_true _))
theorem walk {l : PySem.W.OpenLaw} {q : Program} {loose : List Str} {XP : (Str → Option Value) → Heap → Prop} {YP : World → Heap → Prop} {d : DefRec} {K : Params → PySem.W.Frag} (hn : l.most = some 63) (hdf : d.params.defaults = [])
    (hY : ∀ (w : World) (h : Heap), YP w h → (K w.params).In h)
    (F : ∀ (w : World) (mg : Str → Option Value) (fa : Addr) (h : Heap), (K w.params).In h → h.Ns mainGlobals mg → mg d.name = some (.ref fa) →
      ∃ fd : FuncData, (∀ (s : Shared) (u : Value), BindsTo s fd ⟨[u], []⟩ [("_law_script", u)]) ∧ ∀ base : Heap, (K w.params).In base → base.Ns mainGlobals mg → FnOk l.prog w (K w.params) mg base (CXE l.prog w) 4 fa fd ["_law_script"] (spLaw (K w.params))) :
    PySem.W.WalkO q loose XP YP l.row.toRowW d [] (fun f vs => PySem.call f vs) :=
  L2.walk_of (n := 63) (k := 4) (x := "_law_script") (CX := fun w => CXE l.prog w) (sp := fun w => spLaw (K w.params)) hn (by decide) hdf ⟨rfl, by decide, by decide⟩ hY F (fun _ _ a ns hl ho hS => ⟨a, ns, rfl, hS, hl, ho, fun _ => rfl⟩) fun _ _ _ _ _ z => cxe_none z
end Lw
open PySem PySem.W PyProof.Rows
set_option maxRecDepth 100000 in
set_option maxHeartbeats 0 in
theorem PySem.Challenge.cw_sureroad_k02_joined_again_holds : PySem.Challenge.rw_sureroad_k02_joined_again.Holds := by
  w_on; o_law; k_head; (case hw => w_witness2)
  k_fill
  refine Lw.walk (l := PySem.Challenge.rw_sureroad_k02_joined_again) rfl rfl (fun w h Y => PySem.W.kIn_of Y) ?F
  case F =>
    intro w mg fa h KX G hmg
    refine' Lw.all_mk KX G hmg ?aCNoMessage ?aCRoadError ?a0 ?l0 ?c0 ?k0 ?a1 ?l1 ?c1 ?k1 ?a2 ?l2 ?c2 ?k2 ?a3 ?l3 ?c3 ?k3 ?a4 ?l4 ?c4 ?k4 ?a5 ?l5 ?c5 ?k5 ?a6 ?l6 ?c6 ?k6 ?a7 ?l7 ?c7 ?k7 ?a8 ?l8 ?c8 ?k8 ?a9 ?l9 ?c9 ?k9 ?ex_NoMessage ?ex_RoadError ?su_NoMessage_RoadError ?ai_NoMessage_NoMessage ?at_NoMessage_ValueError ?z_ValueError ?z_int ?z_isinstance ?z_len ?z_list ?z_max ?z_range ?z_tuple ?q_MOST_MESSAGE_LETTERS
    (case aCNoMessage => k_is)
    (case aCRoadError => k_is)
    (case a0 => k_is)
    (case l0 => k_is)
    (case c0 => k_is)
    (case k0 => k_is)
    (case a1 => k_is)
    (case l1 => k_is)
    (case c1 => k_is)
    (case k1 => k_is)
    (case a2 => k_is)
    (case l2 => k_is)
    (case c2 => k_is)
    (case k2 => k_is)
    (case a3 => k_is)
    (case l3 => k_is)
    (case c3 => k_is)
    (case k3 => k_is)
    (case a4 => k_is)
    (case l4 => k_is)
    (case c4 => k_is)
    (case k4 => k_is)
    (case a5 => k_is)
    (case l5 => k_is)
    (case c5 => k_is)
    (case k5 => k_is)
    (case a6 => k_is)
    (case l6 => k_is)
    (case c6 => k_is)
    (case k6 => k_is)
    (case a7 => k_is)
    (case l7 => k_is)
    (case c7 => k_is)
    (case k7 => k_is)
    (case a8 => k_is)
    (case l8 => k_is)
    (case c8 => k_is)
    (case k8 => k_is)
    (case a9 => k_is)
    (case l9 => k_is)
    (case c9 => k_is)
    (case k9 => k_is)
    (case ex_NoMessage => k_exc)
    (case ex_RoadError => k_exc)
    (case su_NoMessage_RoadError => k_is)
    (case ai_NoMessage_NoMessage => k_is)
    (case at_NoMessage_ValueError => k_is)
    (case z_ValueError => k_is)
    (case z_int => k_is)
    (case z_isinstance => k_is)
    (case z_len => k_is)
    (case z_list => k_is)
    (case z_max => k_is)
    (case z_range => k_is)
    (case z_tuple => k_is)
    (case q_MOST_MESSAGE_LETTERS => k_is)
