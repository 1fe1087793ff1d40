import PyProof.Rows.All
import Wide.All
import OpenK.AllK
import Wide.FinOn
import Lean
import PyProof.EqAt
import PyProof.EqKinds
import PyProof.TupleCall
import PyProof.P3Eq
import PyProof.NeKinds
import PySem.Challenge.RW_sureroad_k09_opened_anew
set_option Elab.async false
set_option linter.all false
set_option maxRecDepth 100000
set_option maxHeartbeats 4000000
namespace L2
open PySem PySem.Spec PyProof.Rows
abbrev Key := Sum Int Str
def keyIs : Key → Value → Bool
  | .inl k, v => Value.isInt k v
  | .inr x, v => Value.isStrOf x v
def keyH (w : World) : Key → Int
  | .inl k => hashInt k
  | .inr x => hashStr w x
theorem keyIs_shape : ∀ {k : Key} {v : Value}, keyIs k v = true → (∃ i t, k = Sum.inl i ∧ v = Value.int i t) ∨ (∃ x t, k = Sum.inr x ∧ v = Value.str x t)
  | .inl i, v, h => by
    obtain ⟨t, e⟩ := Value.isInt_shape (k := i) (v := v) h
    exact .inl ⟨i, t, rfl, e⟩
  | .inr x, v, h => by
    obtain ⟨t, e⟩ := Value.isStrOf_shape (x := x) (v := v) h
    exact .inr ⟨x, t, rfl, e⟩
theorem keyIs_int (i : Int) (t : Tok) : keyIs (.inl i) (.int i t) = true := by simp [keyIs, Value.isInt]
theorem keyIs_str (x : Str) (t : Tok) : keyIs (.inr x) (.str x t) = true := by simp [keyIs, Value.isStrOf]
theorem key_ll (a b : Int) : decide ((Sum.inl a : Key) = Sum.inl b) = (a == b) := by
  by_cases e : a = b
  · subst e; simp
  · have h : ¬ (Sum.inl a : Key) = Sum.inl b := fun q => e (Sum.inl.inj q)
    rw [decide_eq_false h]
    exact (beq_eq_false_iff_ne.mpr e).symm
theorem key_rr (a b : Str) : decide ((Sum.inr a : Key) = Sum.inr b) = decide (a = b) := by
  by_cases e : a = b
  · subst e; simp
  · have h : ¬ (Sum.inr a : Key) = Sum.inr b := fun q => e (Sum.inr.inj q)
    rw [decide_eq_false h, decide_eq_false e]
theorem key_lr (a : Int) (b : Str) : decide ((Sum.inl a : Key) = Sum.inr b) = false := decide_eq_false (fun q => nomatch q)
theorem key_rl (a : Str) (b : Int) : decide ((Sum.inr a : Key) = Sum.inl b) = false := decide_eq_false (fun q => nomatch q)
def mixKind (prog : Program) (w : World) : PySem.KeyKind prog w Key where
  is := keyIs
  hash := keyH w
  inj := fun v a b ha hb => by
    rcases keyIs_shape ha with ⟨i, t, rfl, rfl⟩ | ⟨x, t, rfl, rfl⟩
    · rcases keyIs_shape hb with ⟨j, u, rfl, e⟩ | ⟨y, u, rfl, e⟩
      · injection e with e1 _; rw [e1]
      · exact nomatch e
    · rcases keyIs_shape hb with ⟨j, u, rfl, e⟩ | ⟨y, u, rfl, e⟩
      · exact nomatch e
      · injection e with e1 _; rw [e1]
  byValue := fun k v h => by
    rcases keyIs_shape h with ⟨i, t, rfl, rfl⟩ | ⟨x, t, rfl, rfl⟩ <;> rfl
  pyHash := fun hv h => by
    rcases keyIs_shape hv with ⟨i, t, rfl, rfl⟩ | ⟨x, t, rfl, rfl⟩
    · exact wpAny_pyHash_int h
    · exact wpAny_pyHash_str h
  eqBool := fun hu hv h => by
    rcases keyIs_shape hu with ⟨i, t, rfl, rfl⟩ | ⟨x, t, rfl, rfl⟩
    · rcases keyIs_shape hv with ⟨j, u, rfl, rfl⟩ | ⟨y, u, rfl, rfl⟩
      · rw [key_ll] at h; exact wpAny_eqBool_int h
      · rw [key_lr] at h; exact SeqAt.EqAt.int_str i t y u _ _ _ _ h
    · rcases keyIs_shape hv with ⟨j, u, rfl, rfl⟩ | ⟨y, u, rfl, rfl⟩
      · rw [key_rl] at h; exact SeqAt.EqAt.str_int x t j u _ _ _ _ h
      · rw [key_rr] at h; exact wpAny_eqBool_str h
  «strs» := fun k x t v h => by
    rcases keyIs_shape h with ⟨i, u, rfl, e⟩ | ⟨y, u, rfl, e⟩
    · exact nomatch e
    · injection e with e1 _
      subst e1
      cases v <;> rfl
theorem mixKind_int (prog : Program) (w : World) (i : Int) (t : Tok) : (mixKind prog w).is (.inl i) (.int i t) = true := keyIs_int i t
theorem mixKind_str (prog : Program) (w : World) (x : Str) (t : Tok) : (mixKind prog w).is (.inr x) (.str x t) = true := keyIs_str x t
end L2
namespace L2
open PySem PySem.Spec PyProof.Rows
inductive V where
  | non | bl (b : Bool) | int (i : Int) | str (x : Str) | byt (b : Array UInt8) | flt (b : UInt64) | ref (a : Addr) | ty (n : String)
  deriving DecidableEq
def RelV : V → Value → Prop
  | .non, u => u = Value.none
  | .bl b, u => u = Value.bool b
  | .int i, u => ∃ t, u = Value.int i t
  | .str x, u => ∃ t, u = Value.str x t
  | .byt b, u => ∃ t, u = Value.bytes b t
  | .flt b, u => ∃ t, u = Value.float b t
  | .ref a, u => u = Value.ref a
  | .ty n, u => u = Value.type n
abbrev Vals : List V → List Value → Prop := Paired RelV
theorem Vals.length {xs : List V} {us : List Value} (r : Vals xs us) : xs.length = us.length := Paired.length r
theorem Vals.get : ∀ {xs : List V} {us : List Value} {i : Nat} {x : V}, Vals xs us → xs[i]? = some x → ∃ u, us[i]? = some u ∧ RelV x u
  | _, _, _, _, .nil, e => by simp at e
  | _, _, 0, _, .cons r _, e => by simp at e; subst e; exact ⟨_, rfl, r⟩
  | _, _, i + 1, x, .cons _ t, e => by
    obtain ⟨u, h1, h2⟩ := Vals.get (i := i) (x := x) t (by simpa using e)
    exact ⟨u, by simpa using h1, h2⟩
theorem Vals.set {x : V} {u : Value} (r : RelV x u) : ∀ {xs : List V} {us : List Value} (i : Nat), Vals xs us → Vals (xs.set i x) (us.set i u)
  | _, _, _, .nil => .nil
  | _, _, 0, .cons _ t => .cons r t
  | _, _, i + 1, .cons q t => .cons q (Vals.set r i t)
theorem Vals.append : ∀ {xs ys : List V} {us ws : List Value}, Vals xs us → Vals ys ws → Vals (xs ++ ys) (us ++ ws)
  | _, _, _, _, .nil, s => s
  | _, _, _, _, .cons r t, s => .cons r (Vals.append t s)
theorem Vals.take : ∀ {xs : List V} {us : List Value} (n : Nat), Vals xs us → Vals (xs.take n) (us.take n)
  | _, _, 0, _ => .nil
  | _, _, _ + 1, .nil => .nil
  | _, _, n + 1, .cons r t => .cons r (Vals.take n t)
theorem Vals.drop : ∀ {xs : List V} {us : List Value} (n : Nat), Vals xs us → Vals (xs.drop n) (us.drop n)
  | _, _, 0, r => r
  | _, _, _ + 1, .nil => .nil
  | _, _, n + 1, .cons _ t => Vals.drop n t
theorem Vals.none_of : ∀ {xs : List V} {us : List Value} {i : Nat}, Vals xs us → xs[i]? = none → us[i]? = none := fun {xs us i} r e => by
  have h1 := r.length
  have h2 : xs.length ≤ i := List.getElem?_eq_none_iff.mp e
  exact List.getElem?_eq_none_iff.mpr (by omega)
def RelO : Option V → Option Value → Prop
  | some v, some u => RelV v u
  | none, none => True
  | _, _ => False
def KV {κ : Type} : List (κ × V) → List (κ × Value) → Prop := Paired fun (p : κ × V) (q : κ × Value) => p.1 = q.1 ∧ RelV p.2 q.2
def kV : Key → V
  | .inl i => .int i
  | .inr x => .str x
inductive HO where
  | lst (xs : List V)
  | tup (xs : List V)
  | dK (kvs : List (Key × V)) | dT (kvs : List (List Key × V))
  | set (S : Int → Bool) (n : Nat)
  | ins (C dx : Addr) (fs : List (Str × V))
  | own (x : Addr)
  | xd (fs : List (Str × V))
  | met (f x : Addr)
  | rng (lo hi : Int)
  | frz (o : Obj) (u : HO)
  | tbl (ps : Array Value)
  | ext (φ : Heap → Prop)
abbrev Hp := Addr → Option HO
def upd (H : Hp) (a : Addr) (o : HO) : Hp := fun b => if b = a then some o else H b
theorem upd_same {H : Hp} {a : Addr} {o : HO} : upd H a o a = some o := by unfold upd; rw [if_pos rfl]
theorem upd_ne {H : Hp} {a b : Addr} {o : HO} (h : b ≠ a) : upd H a o b = H b := by unfold upd; rw [if_neg h]
theorem ne_of {H : Hp} {a b : Addr} {o u : HO} (h : H a = some o) (h' : H b = some u) (d : o ≠ u) : a ≠ b := by
  intro e; subst e; rw [h] at h'; exact d (Option.some.inj h')
theorem ne_of_none {H : Hp} {a b : Addr} {o : HO} (h : H a = some o) (h' : H b = none) : a ≠ b := by
  intro e; subst e; rw [h] at h'; cases h'
section
variable (P : Program) (w : World)
def ObjOk (H : Hp) (h : Heap) (a : Addr) : HO → Prop
  | .lst xs => xs.length ≤ sizeLine ∧ ∃ (its : List Value) (n : Nat), Vals xs its ∧ h.get? a = some { cls := .type "list", data := .seq its.toArray n }
  | .tup xs => xs.length ≤ sizeLine ∧ ∃ its : List Value, Vals xs its ∧ IsTup h a its.toArray
  | .dK kvs => kvs.length ≤ sizeLine ∧ (a == sysModules) = false ∧ ∃ vs, KV kvs vs ∧ h.DictOf (mixKind P w) a vs
  | .dT kvs => kvs.length ≤ sizeLine ∧ (a == sysModules) = false ∧ ∃ xs : List (List Key × Addr × Value),
      Paired (fun (p : List Key × V) (q : List Key × Addr × Value) => p.1 = q.1 ∧ H q.2.1 = some (.tup (p.1.map kV)) ∧ RelV p.2 q.2.2) kvs xs ∧
      ∃ o es ep, h.get? a = some o ∧ o.ExactDict ∧ o.data = .dict es ep ∧ es.toList = xs.map (entryOfKey (tupleKind (mixKind P w))) ∧ (xs.map (·.1)).Nodup
  | .set S n => h.SetOf (intKind P w) a S n
  | .ins C dx fs => H dx = some (.own a) ∧ fs.length ≤ 1000 ∧ dx ≠ a ∧ h.get? a = some (PySem.W.instObj C dx) ∧
      ∃ mA, h.Ns1 dx mA ∧ (∀ f, RelO (fs.lookup f) (mA f)) ∧ PySem.Within mA (fs.map (·.1))
  | .own _ => ∃ o, h.get? a = some o
  | .xd fs => ∃ mA, h.Ns1 a mA ∧ ∀ f, RelO (fs.lookup f) (mA f)
  | .rng lo hi => ∃ t u v, h.get? a = some { cls := .type "range", data := .fields #[.int lo t, .int hi u, .int 1 v] }
  | .frz o u => h.get? a = some o ∧ ObjOk H h a u
  | .tbl ps => h.get? a = some { cls := .none, data := .fields ps }
  | .met f x => h.get? a = some (PySem.W.methodObj (.ref f) (.ref x))
  | .ext φ => φ h ∧ (∃ o, h.get? a = some o) ∧ ∀ h1 h2 : Heap, φ h1 → (∀ o, h1.get? a = some o → h2.get? a = some o) → φ h2
def HOk (H : Hp) (h : Heap) : Prop := ∀ a o, H a = some o → ObjOk P w H h a o
end
section
variable {P : Program} {w : World} {H H' : Hp} {h h' : Heap} {a : Addr} {o : HO}
theorem ObjOk.lt (x : ObjOk P w H h a o) : a < h.objs.size := by
  cases o with
  | lst xs => obtain ⟨_, _, _, _, e⟩ := x; exact Heap.lt_size e
  | tup xs => obtain ⟨_, _, _, p⟩ := x; exact p.lt
  | dK kvs => obtain ⟨_, _, _, _, o, _, _, e, _⟩ := x; exact Heap.lt_size e
  | dT kvs => obtain ⟨_, _, _, _, o, _, _, e, _⟩ := x; exact Heap.lt_size e
  | set S n => obtain ⟨o, _, _, _, e, _⟩ := x; exact Heap.lt_size e
  | ins C dx fs => obtain ⟨_, _, _, e, _⟩ := x; exact Heap.lt_size e
  | own y => obtain ⟨_, e⟩ := x; exact Heap.lt_size e
  | xd fs => obtain ⟨_, ⟨_, _, _, e, _⟩, _⟩ := x; exact Heap.lt_size e
  | rng lo hi => obtain ⟨_, _, _, e⟩ := x; exact Heap.lt_size e
  | frz ob u => obtain ⟨e, _⟩ := x; exact Heap.lt_size e
  | tbl ps => exact Heap.lt_size (show h.get? a = some _ from x)
  | met f y => exact Heap.lt_size (show h.get? a = some _ from x)
  | ext φ => obtain ⟨_, ⟨_, e⟩, _⟩ := x; exact Heap.lt_size e
theorem Paired.mapP {α β : Type} {F G : α → β → Prop} : ∀ {l₁ : List α} {l₂ : List β}, Paired F l₁ l₂ → (∀ a b, F a b → G a b) → Paired G l₁ l₂
  | _, _, .nil, _ => .nil
  | _, _, .cons r t, f => .cons (f _ _ r) (Paired.mapP t f)
theorem ObjOk.stay (x : ObjOk P w H h a o) (k : ∀ b u, (b = a ∨ H b = some (.own a)) → h.get? b = some u → h'.get? b = some u)
    (ho : ∀ b, H b = some (.own a) → H' b = some (.own a)) (ht : ∀ b xs, H b = some (.tup xs) → H' b = some (.tup xs)) : ObjOk P w H' h' a o := by
  induction o with
  | lst xs => obtain ⟨z, its, n, r, e⟩ := x; exact ⟨z, its, n, r, k _ _ (.inl rfl) e⟩
  | tup xs => obtain ⟨z, its, r, ob, e, c⟩ := x; exact ⟨z, its, r, ob, k _ _ (.inl rfl) e, c⟩
  | dK kvs => obtain ⟨z, y, vs, r, ob, es, ep, e, c⟩ := x; exact ⟨z, y, vs, r, ob, es, ep, k _ _ (.inl rfl) e, c⟩
  | dT kvs =>
    obtain ⟨z, y, xs, r, ob, es, ep, e, c⟩ := x
    exact ⟨z, y, xs, Paired.mapP r fun p q z => ⟨z.1, ht _ _ z.2.1, z.2.2⟩, ob, es, ep, k _ _ (.inl rfl) e, c⟩
  | set S n => obtain ⟨ob, es, ep, t, e, c⟩ := x; exact ⟨ob, es, ep, t, k _ _ (.inl rfl) e, c⟩
  | ins C dx fs =>
    obtain ⟨d, z, ne, e, mA, ⟨od, es, ep, e2, c⟩, r⟩ := x
    exact ⟨ho _ d, z, ne, k _ _ (.inl rfl) e, mA, ⟨od, es, ep, k _ _ (.inr d) e2, c⟩, r⟩
  | own y => obtain ⟨ob, e⟩ := x; exact ⟨ob, k _ _ (.inl rfl) e⟩
  | xd fs => obtain ⟨mA, ⟨od, es, ep, e, c⟩, r⟩ := x; exact ⟨mA, ⟨od, es, ep, k _ _ (.inl rfl) e, c⟩, r⟩
  | rng lo hi => obtain ⟨t, u, v, e⟩ := x; exact ⟨t, u, v, k _ _ (.inl rfl) e⟩
  | frz ob u ih => obtain ⟨e, q⟩ := x; exact ⟨k _ _ (.inl rfl) e, ih q⟩
  | tbl ps =>
    have e : h.get? a = some { cls := .none, data := .fields ps } := x
    show h'.get? a = some { cls := .none, data := .fields ps }
    exact k a _ (.inl rfl) e
  | met f y =>
    have e : h.get? a = some (PySem.W.methodObj (.ref f) (.ref y)) := x
    show h'.get? a = some (PySem.W.methodObj (.ref f) (.ref y))
    exact k a _ (.inl rfl) e
  | ext φ => obtain ⟨p, ⟨o, e⟩, st⟩ := x; exact ⟨st _ _ p fun o q => k _ _ (.inl rfl) q, ⟨o, k _ _ (.inl rfl) e⟩, st⟩
theorem HOk.lt (x : HOk P w H h) (e : H a = some o) : a < h.objs.size := (x a o e).lt
theorem HOk.fresh (x : HOk P w H h) (e : h.objs.size ≤ a) : H a = none := by
  cases q : H a with
  | none => rfl
  | some u => exact absurd (Nat.lt_of_lt_of_le (x.lt q) e) (Nat.lt_irrefl _)
theorem HOk.kept (x : HOk P w H h) (k : ∀ b u, h.get? b = some u → h'.get? b = some u) : HOk P w H h' := fun a o e =>
  (x a o e).stay (fun b u _ q => k b u q) (fun _ q => q) fun _ _ q => q
theorem HOk.laid (x : HOk P w H h) (k : ∀ b u, h.get? b = some u → h'.get? b = some u) (hp : h.objs.size ≤ a) (new : ObjOk P w (upd H a o) h' a o) : HOk P w (upd H a o) h' := fun b u e => by
  have hn := x.fresh hp
  by_cases hb : b = a
  · subst hb; rw [upd_same] at e; cases e; exact new
  · rw [upd_ne hb] at e
    exact (x b u e).stay (fun c v _ q => k c v q) (fun c q => by rw [upd_ne (ne_of_none q hn)]; exact q) fun c xs q => by rw [upd_ne (ne_of_none q hn)]; exact q
end
def Rd (H : Hp) (a : Addr) (u : HO) : Prop := H a = some u ∨ ∃ o, H a = some (.frz o u)
theorem Rd.of {H : Hp} {a : Addr} {u : HO} (h : H a = some u) : Rd H a u := .inl h
theorem Rd.ok {P : Program} {w : World} {H : Hp} {h : Heap} {a : Addr} {u : HO} (r : Rd H a u) (x : HOk P w H h) : ObjOk P w H h a u := by
  rcases r with r | ⟨o, r⟩
  · exact x a u r
  · obtain ⟨_, q⟩ := x a _ r
    exact q
def Mut : Option HO → Prop
  | some (.lst _) => True
  | some (.dK _) => True
  | some (.dT _) => True
  | some (.set _ _) => True
  | some (.ins _ _ _) => True
  | some (.ext _) => True
  | _ => False
section
variable {P : Program} {w : World} {H : Hp} {h h' : Heap} {x e : Addr} {o' : HO}
theorem HOk.write (ok : HOk P w H h) (mu : Mut (H x)) (he : e = x ∨ H e = some (.own x)) (k : ∀ b u, b ≠ e → h.get? b = some u → h'.get? b = some u) (heo : ∃ u, h'.get? e = some u)
    (new : ObjOk P w (upd H x o') h' x o') : HOk P w (upd H x o') h' := fun b u q => by
  have nown : ∀ c y, H c = some (.own y) → c ≠ x := fun c y r z => by subst z; rw [r] at mu; exact mu
  have ntup : ∀ c xs, H c = some (.tup xs) → c ≠ x := fun c xs r z => by subst z; rw [r] at mu; exact mu
  by_cases hb : b = x
  · subst hb; rw [upd_same] at q; cases q; exact new
  · rw [upd_ne hb] at q
    by_cases hbe : b = e
    · have q' : H b = some (.own x) := by
        rcases he with z | z
        · exact absurd (hbe.trans z) hb
        · rw [hbe]; exact z
      rw [q] at q'; cases q'
      obtain ⟨v, hv⟩ := heo
      exact ⟨v, by rw [hbe]; exact hv⟩
    · refine (ok b u q).stay (fun c v hc r => k c v ?_ r) (fun c r => by rw [upd_ne (nown c b r)]; exact r) fun c xs r => by rw [upd_ne (ntup c xs r)]; exact r
      rcases hc with rfl | hc
      · exact hbe
      · rintro rfl
        rcases he with z | z
        · exact nown c b hc z
        · rw [hc] at z; cases z; exact hb rfl
end
structure Un (fs ex : List Addr) (H H' : Hp) (h h' : Heap) : Prop where
  keep : ∀ b o, h.get? b = some o → H b = none → b ∉ fs → b ∉ ex → h'.get? b = some o
  slot : ∀ b o, h.get? b = some o → H b = none → b ∈ fs → b ∉ ex → ∃ sl, h'.get? b = some { o with slots := sl }
  free : ∀ b o, h.get? b = some o → H b = none → b ∉ ex → H' b = none
  there : ∀ b o, h.get? b = some o → b ∉ ex → ∃ o', h'.get? b = some o'
  tups : ∀ b xs, H b = some (.tup xs) → H' b = some (.tup xs)
  frzs : ∀ b o u, H b = some (.frz o u) → H' b = some (.frz o u)
  tbls : ∀ b ps, H b = some (.tbl ps) → ∃ more, H' b = some (.tbl (ps ++ more))
section
variable {fs fs' ex ex' : List Addr} {H H1 H2 : Hp} {h h1 h2 h' : Heap} {a x e : Addr} {o : HO}
theorem Un.any (u : Un fs ex H H1 h h1) {b : Addr} {ob : Obj} (q : h.get? b = some ob) (n : H b = none) (hx : b ∉ ex) : ∃ sl, h1.get? b = some { ob with slots := sl } := by
  by_cases hb : b ∈ fs
  · exact u.slot b ob q n hb hx
  · exact ⟨ob.slots, u.keep b ob q n hb hx⟩
theorem Un.trans (a : Un fs ex H H1 h h1) (b : Un fs ex H1 H2 h1 h2) : Un fs ex H H2 h h2 where
  keep := fun c ob q n hc hx => b.keep c ob (a.keep c ob q n hc hx) (a.free c ob q n hx) hc hx
  slot := fun c ob q n hc hx => by
    obtain ⟨sl, e1⟩ := a.slot c ob q n hc hx
    obtain ⟨sl', e2⟩ := b.slot c _ e1 (a.free c ob q n hx) hc hx
    exact ⟨sl', e2⟩
  free := fun c ob q n hx => by
    obtain ⟨o', e1⟩ := a.there c ob q hx
    exact b.free c o' e1 (a.free c ob q n hx) hx
  there := fun c ob q hx => by
    obtain ⟨o', e1⟩ := a.there c ob q hx
    exact b.there c o' e1 hx
  tups := fun c xs q => b.tups c xs (a.tups c xs q)
  frzs := fun c ob xs q => b.frzs c ob xs (a.frzs c ob xs q)
  tbls := fun c ps q => by
    obtain ⟨m1, e1⟩ := a.tbls c ps q
    obtain ⟨m2, e2⟩ := b.tbls c _ e1
    exact ⟨m1 ++ m2, by rw [e2, Array.append_assoc]⟩
theorem Un.kept (k : ∀ b u, h.get? b = some u → h'.get? b = some u) : Un fs ex H H h h' :=
  ⟨fun b ob q _ _ _ => k b ob q, fun b ob q _ _ _ => ⟨ob.slots, k b ob q⟩, fun _ _ _ n _ => n, fun b ob q _ => ⟨ob, k b ob q⟩, fun _ _ q => q, fun _ _ _ q => q, fun _ ps q => ⟨#[], by rw [q]; simp⟩⟩
theorem Un.refl : Un fs ex H H h h := Un.kept fun _ _ q => q
theorem Un.laid (k : ∀ b u, h.get? b = some u → h'.get? b = some u) (hp : h.objs.size ≤ a) (hn : H a = none) : Un fs ex H (upd H a o) h h' where
  keep := fun b u q _ _ _ => k b u q
  slot := fun b u q _ _ _ => ⟨u.slots, k b u q⟩
  free := fun b u q n _ => by rw [upd_ne (Nat.ne_of_lt (Nat.lt_of_lt_of_le (Heap.lt_size q) hp))]; exact n
  there := fun b u q _ => ⟨u, k b u q⟩
  tups := fun b xs q => by rw [upd_ne (ne_of_none q hn)]; exact q
  frzs := fun b u xs q => by rw [upd_ne (ne_of_none q hn)]; exact q
  tbls := fun b ps q => ⟨#[], by rw [upd_ne (ne_of_none q hn), q]; simp⟩
theorem Un.write (mu : Mut (H x)) (he : e = x ∨ H e = some (.own x)) (k : ∀ b u, b ≠ e → h.get? b = some u → h'.get? b = some u) (heo : ∃ u, h'.get? e = some u) : Un fs ex H (upd H x o) h h' := by
  have hx : ∀ b, H b = none → b ≠ x := fun b n z => by subst z; rw [n] at mu; exact mu
  have hb : ∀ b, H b = none → b ≠ e := fun b n z => by
    subst z
    rcases he with r | r
    · exact hx b n r
    · rw [n] at r; cases r
  have hm : ∀ b u, H b = some u → ¬ Mut (some u) → b ≠ x := fun b u q nm z => by subst z; rw [q] at mu; exact nm mu
  refine ⟨fun b u q n _ _ => k b u (hb b n) q, fun b u q n _ _ => ⟨u.slots, k b u (hb b n) q⟩, fun b u q n _ => by rw [upd_ne (hx b n)]; exact n, fun b u q _ => ?_,
    fun b xs q => by rw [upd_ne (hm b _ q fun z => z)]; exact q, fun b u xs q => by rw [upd_ne (hm b _ q fun z => z)]; exact q, fun b ps q => ⟨#[], by rw [upd_ne (hm b _ q fun z => z), q]; simp⟩⟩
  by_cases hbe : b = e
  · subst hbe; exact heo
  · exact ⟨u, k b u hbe q⟩
theorem Un.mono (u : Un fs ex H H1 h h1) (hs : ∀ b ∈ fs, b ∈ fs') (hx : ∀ b ∈ ex, b ∈ ex') : Un fs' ex' H H1 h h1 :=
  ⟨fun b ob q n hb he => u.keep b ob q n (fun z => hb (hs b z)) fun z => he (hx b z), fun _ _ q n _ he => u.any q n fun z => he (hx _ z), fun b ob q n he => u.free b ob q n fun z => he (hx b z), fun b ob q he => u.there b ob q fun z => he (hx b z), u.tups, u.frzs, u.tbls⟩
end
def trk (h : Heap) (H : Hp) : List Addr := (List.range h.objs.size).filter fun a => (H a).isSome
def hidT (h : Heap) (H : Hp) : Heap := PySem.W.hideAll h (trk h H)
theorem hidT_size (h : Heap) (H : Hp) : (hidT h H).objs.size = h.objs.size := PySem.W.hideAll_size _ _
theorem hidT_get {h : Heap} {H : Hp} {b : Addr} {o : Obj} (e : h.get? b = some o) (n : H b = none) : (hidT h H).get? b = some o :=
  PySem.W.hideAll_get _ e fun hm => by
    have q : (H b).isSome = true := (List.mem_filter.mp hm).2
    rw [n] at q; simp at q
theorem of_hidT {h : Heap} {H : Hp} {b : Addr} {o : Obj} (e : (hidT h H).get? b = some o) : h.get? b = some o ∧ H b = none := by
  have e' : h.get? b = some o := PySem.W.of_hideAll (trk h H) e
  refine ⟨e', ?_⟩
  cases q : H b with
  | none => rfl
  | some x =>
    have hm : b ∈ trk h H := List.mem_filter.mpr ⟨List.mem_range.mpr (Heap.lt_size e'), by simp [q]⟩
    have z : (hidT h H).get? b = none := PySem.W.hideAll_none (trk h H) hm
    rw [z] at e; cases e
def allNews (g h : Heap) (L : Addr) : List (Addr × Obj) := (List.range h.objs.size).filterMap fun a => if a = L ∨ (g.get? a).isSome = true then none else (h.get? a).map fun o => (a, o)
def rest (g h : Heap) (L d : Addr) : List (Addr × Obj) := (allNews g h L).filter fun p => decide (p.1 ≠ d)
end L2
namespace L2
open PySem PySem.Spec PyProof.Rows
structure Mod (K : PySem.W.Frag) (mg : Str → Option Value) (base : Heap) : Prop where
  kin : K.In base
  glob : base.Ns mainGlobals mg
  blt : ∃ mb, base.Ns builtinsNs mb ∧ ∀ x : Str, x ≠ "__name__" → mb x = bootBuiltins x
  nolimit : base.NoLimit
structure Cx where
  prog : Program
  w : World
  K : PySem.W.Frag
  mg : Str → Option Value
  base : Heap
  A : Around
  N : List Str
  s₀ : Shared
  H₀ : Hp
  env : Env
  outer : List Env
  stack : List Env
  ex : List Addr
  fn : Str → Bool
  calm : Bool
  pn : List (Addr × Obj)
  xe : Value → Shared → Prop
def frs (l : List Env) : List Addr := l.filterMap (·.frame)
abbrev Cx.fs (X : Cx) : List Addr := frs X.outer
def Vis (sc : Scope) (x : Str) : Prop := sc.names.lookup x = some .local ∨ sc.names.lookup x = some .cell ∨ sc.names.lookup x = some .free
def Loc (sc : Scope) (x : Str) : Prop := sc.names.lookup x = some .local ∨ sc.names.lookup x = some .cell
def Look (env : Env) (h : Heap) (m : Str → Option Value) (x : Str) (u : Value) : Prop :=
  (env.kindOf x = some .local ∧ m x = some u) ∨ ((env.kindOf x = some .cell ∨ env.kindOf x = some .free) ∧ ∃ c, env.cells.lookup x = some c ∧ h.IsCell c (some u))
structure Cx.Ok (X : Cx) : Prop where
  mod : Mod X.K X.mg X.base
  kind : X.env.scope.kind = .function
  glob : X.env.globals = mainGlobals
  blt : X.env.builtins = builtinsNs
  above : X.s₀.heap.objs.size ≤ X.env.locals
  inj : ∀ x y c, X.env.cells.lookup x = some c → X.env.cells.lookup y = some c → x = y
  has : ∀ x, (X.env.kindOf x = some .cell ∨ X.env.kindOf x = some .free) → ∃ c, X.env.cells.lookup x = some c
  cab : ∀ x c, X.fn x = true → X.env.cells.lookup x = some c → X.s₀.heap.objs.size ≤ c
  hd : X.calm = true → X.A.handled = none
  frames : X.A.frames = some X.stack
  stk : X.stack = X.outer ∨ (X.stack = X.env :: X.outer ∧ X.env.frame = some X.env.locals)
  exf : ∀ b ∈ X.ex, b ≠ X.env.locals ∧ ∀ x c, X.env.cells.lookup x = some c → c ≠ b
  bs : ∀ b o, X.base.get? b = some o → X.s₀.heap.get? b = some o ∧ X.H₀ b = none
  bsz : X.base.objs.size ≤ X.s₀.heap.objs.size
  noex : ∀ b o, X.base.get? b = some o → b ∉ X.ex
  exfs : ∀ b ∈ X.ex, b ∉ X.fs
  funs : X.s₀.heap.FunFrames X.base X.outer
  frf : ∀ b ∈ X.fs, X.H₀ b = none
structure Inv (X : Cx) (pins : List (Addr × Obj)) (σ : List (Option V)) (H : Hp) (s : Shared) : Prop where
  ok : X.Ok
  os : s.os = X.s₀.os
  bare : AllBare s.gens
  base : Un X.fs X.ex X.H₀ H X.s₀.heap s.heap
  loc : ∃ m, s.heap.Ns X.env.locals m ∧ ∀ (i : Nat) (x : Str) (v : V), X.N[i]? = some x → σ[i]? = some (some v) → Vis X.env.scope x → ∃ u, RelV v u ∧ Look X.env s.heap m x u
  cell : ∀ x c, X.env.cells.lookup x = some c → ∃ v, s.heap.IsCell c v
  free : H X.env.locals = none
  freeC : ∀ x c, X.env.cells.lookup x = some c → H c = none
  pin : ∀ p ∈ X.pn ++ pins, s.heap.get? p.1 = some p.2 ∧ H p.1 = none ∧ p.1 ≠ X.env.locals ∧ p.1 ∉ X.fs ∧ ∀ v, p.2.data ≠ .cell v
  hok : HOk X.prog X.w H s.heap
  len : σ.length = X.N.length
section
variable {X : Cx} {pins : List (Addr × Obj)} {σ : List (Option V)} {H H' : Hp} {s : Shared} {h' : Heap}
theorem Cx.Ok.nofr (ok : X.Ok) {b : Addr} {o : Obj} (e : X.base.get? b = some o) : b ∉ X.fs := fun hb => by
  have := (ok.funs.mem hb).1
  rw [e] at this; cases this
theorem Inv.bs (I : Inv X pins σ H s) : ∀ b o, X.base.get? b = some o → s.heap.get? b = some o ∧ H b = none := fun b o e =>
  ⟨I.base.keep b o (I.ok.bs b o e).1 (I.ok.bs b o e).2 (I.ok.nofr e) (I.ok.noex b o e), I.base.free b o (I.ok.bs b o e).1 (I.ok.bs b o e).2 (I.ok.noex b o e)⟩
theorem Inv.bk (I : Inv X pins σ H s) : ∀ b o, X.base.get? b = some o → s.heap.get? b = some o := fun b o e => (I.bs b o e).1
theorem Inv.mod (I : Inv X pins σ H s) : Mod X.K X.mg X.base := I.ok.mod
theorem Inv.kIn (I : Inv X pins σ H s) : X.K.In s.heap := I.ok.mod.kin.keeps I.bk
theorem Inv.nolimit (I : Inv X pins σ H s) : s.heap.NoLimit := I.ok.mod.nolimit.keeps I.bk
theorem Inv.fr (I : Inv X pins σ H s) : ∃ m, Fr X.base X.env.locals s.heap m :=
  let ⟨m, hn, _⟩ := I.loc
  ⟨m, hn, I.bk, Nat.le_trans I.ok.bsz I.ok.above⟩
theorem Inv.lt (I : Inv X pins σ H s) : X.env.locals < s.heap.objs.size := let ⟨_, hn, _⟩ := I.loc; hn.lt
theorem Inv.sz (I : Inv X pins σ H s) : X.s₀.heap.objs.size ≤ s.heap.objs.size := Nat.le_trans I.ok.above (Nat.le_of_lt I.lt)
theorem Inv.nofs (I : Inv X pins σ H s) {a : Addr} (h : s.heap.objs.size ≤ a) : a ∉ X.fs := fun hb => by
  obtain ⟨_, o, ho, _⟩ := I.ok.funs.mem hb
  exact absurd (Nat.lt_of_lt_of_le (Heap.lt_size ho) (Nat.le_trans I.sz h)) (Nat.lt_irrefl _)
theorem Inv.cne (I : Inv X pins σ H s) : ∀ x c, X.env.cells.lookup x = some c → c ≠ X.env.locals := fun x c e z => by
  obtain ⟨v, o, ho, hd⟩ := I.cell x c e
  obtain ⟨m, ⟨o', es, ep, ho', hd', _⟩, _⟩ := I.loc
  rw [z, ho'] at ho; cases ho; rw [hd'] at hd; cases hd
theorem Inv.funs (I : Inv X pins σ H s) : s.heap.FunFrames X.base X.outer := by
  have all : ∀ (l : List Env), (∀ b ∈ frs l, b ∈ X.fs) → X.s₀.heap.FunFrames X.base l → s.heap.FunFrames X.base l := by
    intro l
    induction l with
    | nil => intro _ _; trivial
    | cons env r ih =>
      intro hs hl
      obtain ⟨hk, ⟨L, o, hf, hn, ho, hd⟩, hr⟩ := hl
      have hL : L ∈ X.fs := hs L (by unfold frs; rw [List.filterMap_cons, hf]; exact List.mem_cons_self)
      obtain ⟨sl, e⟩ := I.base.slot L o ho (I.ok.frf L hL) hL fun z => I.ok.exfs L z hL
      exact ⟨hk, ⟨L, _, hf, hn, e, hd⟩, ih (fun b hb => hs b (by unfold frs; rw [List.filterMap_cons, hf]; exact List.mem_cons_of_mem _ hb)) hr⟩
  exact all X.outer (fun _ hb => hb) I.ok.funs
theorem Inv.stack (I : Inv X pins σ H s) : s.heap.FunFrames X.base X.stack := by
  rcases I.ok.stk with e | ⟨e, hf⟩
  · rw [e]; exact I.funs
  · rw [e]
    obtain ⟨m, hn, _⟩ := I.loc
    refine .cons (by rw [I.ok.kind]; decide) hf hn ?_ I.funs
    exact Heap.get?_none_of_le (Nat.le_trans I.ok.bsz I.ok.above)
theorem Inv.stkSub (I : Inv X pins σ H s) : ∀ b ∈ frs X.stack, b ∈ X.env.locals :: X.fs := fun b hb => by
  rcases I.ok.stk with e | ⟨e, hf⟩
  · rw [e] at hb; exact List.mem_cons_of_mem _ hb
  · rw [e] at hb
    unfold frs at hb
    rw [List.filterMap_cons, hf] at hb
    exact hb
theorem Inv.stkFree (I : Inv X pins σ H s) : ∀ b ∈ frs X.stack, H b = none := fun b hb => by
  rcases List.mem_cons.mp (I.stkSub b hb) with e | hb
  · rw [e]; exact I.free
  · obtain ⟨_, o, ho, _⟩ := I.ok.funs.mem hb
    exact I.base.free b o ho (I.ok.frf b hb) fun z => I.ok.exfs b z hb
theorem Inv.step {g' : Array GenState} {t' : Nat} {d' : Drawn} {ch : List Addr} (I : Inv X pins σ H s)
    (hch : ∀ b ∈ ch, (b ∈ X.ex ∨ X.s₀.heap.objs.size ≤ b) ∧ b ≠ X.env.locals ∧ (∀ x c, X.env.cells.lookup x = some c → c ≠ b) ∧ ∀ p ∈ X.pn ++ pins, p.1 ≠ b)
    (keep : ∀ b o, b ≠ X.env.locals → b ∉ X.fs → b ∉ ch → s.heap.get? b = some o → H b = none → h'.get? b = some o)
    (slot : ∀ b o, b ≠ X.env.locals → b ∈ X.fs → b ∉ ch → s.heap.get? b = some o → H b = none → ∃ sl, h'.get? b = some { o with slots := sl }) (free : ∀ b o, b ∉ ch → s.heap.get? b = some o → H b = none → H' b = none)
    (there : ∀ b o, b ∉ ch → s.heap.get? b = some o → ∃ o', h'.get? b = some o')
    (tups : ∀ b xs, H b = some (.tup xs) → H' b = some (.tup xs)) (frzs : ∀ b o u, H b = some (.frz o u) → H' b = some (.frz o u)) (tbls : ∀ b ps, H b = some (.tbl ps) → ∃ more, H' b = some (.tbl (ps ++ more)))
    (ns : ∀ m, s.heap.Ns X.env.locals m → h'.Ns X.env.locals m) (hok : HOk X.prog X.w H' h') (hg : AllBare g') :
    Inv X pins σ H' { s with heap := h', gens := g', drawn := d', toks := t' } := by
  have neL : ∀ b o, X.s₀.heap.get? b = some o → b ≠ X.env.locals := fun b o e => Nat.ne_of_lt (Nat.lt_of_lt_of_le (Heap.lt_size e) I.ok.above)
  have neC : ∀ b o, X.s₀.heap.get? b = some o → b ∉ X.ex → b ∉ ch := fun b o e hx hb => by
    rcases (hch b hb).1 with z | z
    · exact hx z
    · exact absurd (Nat.lt_of_lt_of_le (Heap.lt_size e) z) (Nat.lt_irrefl _)
  have cellK : ∀ x c, X.env.cells.lookup x = some c → ∀ v, s.heap.IsCell c v → h'.IsCell c v := fun x c e v ⟨o, ho, hd⟩ => by
    have nch : c ∉ ch := fun z => (hch c z).2.2.1 x c e rfl
    by_cases hc : c ∈ X.fs
    · obtain ⟨sl, q⟩ := slot c o (I.cne x c e) hc nch ho (I.freeC x c e)
      exact ⟨_, q, hd⟩
    · exact ⟨o, keep c o (I.cne x c e) hc nch ho (I.freeC x c e), hd⟩
  refine ⟨I.ok, I.os, hg, ⟨fun b o e n hb hx => ?_, fun b o e n hb hx => ?_, fun b o e n hx => ?_, fun b o e hx => ?_, fun b xs e => tups b xs (I.base.tups b xs e), fun b o xs e => frzs b o xs (I.base.frzs b o xs e), fun b ps e => ?_⟩, ?_, fun x c e => ?_, ?_, fun x c e => ?_, fun p hp => ?_, hok, I.len⟩
  · exact keep b o (neL b o e) hb (neC b o e hx) (I.base.keep b o e n hb hx) (I.base.free b o e n hx)
  · obtain ⟨sl, e1⟩ := I.base.slot b o e n hb hx
    obtain ⟨sl', e2⟩ := slot b _ (neL b o e) hb (neC b o e hx) e1 (I.base.free b o e n hx)
    exact ⟨sl', e2⟩
  · obtain ⟨o', e1⟩ := I.base.there b o e hx
    exact free b o' (neC b o e hx) e1 (I.base.free b o e n hx)
  · obtain ⟨o', e1⟩ := I.base.there b o e hx
    exact there b o' (neC b o e hx) e1
  · obtain ⟨m1, e1⟩ := I.base.tbls b ps e
    obtain ⟨m2, e2⟩ := tbls b _ e1
    exact ⟨m1 ++ m2, by rw [e2, Array.append_assoc]⟩
  · obtain ⟨m, hn, hl⟩ := I.loc
    refine ⟨m, ns m hn, fun i x v e1 e2 e3 => ?_⟩
    obtain ⟨u, r, l⟩ := hl i x v e1 e2 e3
    refine ⟨u, r, ?_⟩
    rcases l with l | ⟨k, c, e, z⟩
    · exact .inl l
    · exact .inr ⟨k, c, e, cellK x c e _ z⟩
  · obtain ⟨v, z⟩ := I.cell x c e
    exact ⟨v, cellK x c e v z⟩
  · obtain ⟨m, ⟨o, _, _, ho, _⟩, _⟩ := I.loc
    exact free _ o (fun z => (hch _ z).2.1 rfl) ho I.free
  · obtain ⟨v, o, ho, hd⟩ := I.cell x c e
    exact free c o (fun z => (hch c z).2.2.1 x c e rfl) ho (I.freeC x c e)
  · obtain ⟨e, n, ne, nf, d⟩ := I.pin p hp
    have nch : p.1 ∉ ch := fun z => (hch p.1 z).2.2.2 p hp rfl
    exact ⟨keep p.1 p.2 ne nf nch e n, free p.1 p.2 nch e n, ne, nf, d⟩
theorem Inv.un {t' : Nat} (I : Inv X pins σ H s) (u : Un X.fs [] H H' s.heap h') (hok : HOk X.prog X.w H' h') : Inv X pins σ H' { s with heap := h', toks := t' } := by
  obtain ⟨m, ⟨o, es, ep, ho, r⟩, _⟩ := id I.loc
  obtain ⟨sl, hL⟩ := u.any ho I.free (by simp)
  exact I.step (g' := s.gens) (d' := s.drawn) (ch := []) (fun _ z => nomatch z) (fun b o _ hb _ e n => u.keep b o e n hb (by simp)) (fun b o _ hb _ e n => u.slot b o e n hb (by simp)) (fun b o _ e n => u.free b o e n (by simp)) (fun b o _ e => u.there b o e (by simp)) u.tups u.frzs u.tbls (fun m' hm => by
    obtain ⟨o', es', ep', ho', r'⟩ := hm
    rw [ho] at ho'; cases ho'
    exact ⟨_, es', ep', hL, r'⟩) hok I.bare
theorem Inv.call {g' : Array GenState} {t' : Nat} {d' : Drawn} {ch : List Addr} (I : Inv X pins σ H s) (u : Un (frs X.stack) ch H H' s.heap h') (hok : HOk X.prog X.w H' h') (hg : AllBare g')
    (hch : ∀ b ∈ ch, (b ∈ X.ex ∨ X.s₀.heap.objs.size ≤ b) ∧ b ≠ X.env.locals ∧ (∀ x c, X.env.cells.lookup x = some c → c ≠ b) ∧ ∀ p ∈ X.pn ++ pins, p.1 ≠ b) :
    Inv X pins σ H' { s with heap := h', gens := g', drawn := d', toks := t' } := by
  obtain ⟨m, ⟨o, es, ep, ho, r⟩, _⟩ := id I.loc
  obtain ⟨sl, hL⟩ := u.any ho I.free fun z => (hch _ z).2.1 rfl
  exact I.step (ch := ch) hch (fun b o hL hb hc e n => u.keep b o e n (fun z => (List.mem_cons.mp (I.stkSub b z)).elim hL hb) hc) (fun b o _ _ hc e n => u.any e n hc) (fun b o hc e n => u.free b o e n hc) (fun b o hc e => u.there b o e hc) u.tups u.frzs u.tbls (fun m' hm => by
    obtain ⟨o', es', ep', ho', r'⟩ := hm
    rw [ho] at ho'; cases ho'
    exact ⟨_, es', ep', hL, r'⟩) hok hg
theorem Inv.turned {t' : Nat} {it : Addr} (I : Inv X pins σ H s) (k : ∀ b o, b ≠ it → s.heap.get? b = some o → h'.get? b = some o) (hn : H it = none) (hL : it ≠ X.env.locals)
    (h1 : it ∈ X.ex ∨ X.s₀.heap.objs.size ≤ it) (h2 : ∀ x c, X.env.cells.lookup x = some c → c ≠ it) (h3 : ∀ p ∈ X.pn ++ pins, p.1 ≠ it) : Inv X pins σ H { s with heap := h', toks := t' } := by
  have nit : ∀ b u, H b = some u → b ≠ it := fun b u e z => by rw [z, hn] at e; cases e
  refine I.step (g' := s.gens) (d' := s.drawn) (ch := [it]) (fun b hb => ?_) (fun b o _ _ hc e _ => k b o (fun z => hc (by simp [z])) e) (fun b o _ _ hc e _ => ⟨o.slots, k b o (fun z => hc (by simp [z])) e⟩) (fun _ _ _ _ n => n)
    (fun b o hc e => ⟨o, k b o (fun z => hc (by simp [z])) e⟩) (fun _ _ e => e) (fun _ _ _ e => e) (fun b ps e => ⟨#[], by rw [e]; simp⟩) (fun m hm => ?_) (fun b u e => ?_) I.bare
  · have e : b = it := by simpa using hb
    subst e
    exact ⟨h1, hL, h2, h3⟩
  · obtain ⟨o, es, ep, ho, r⟩ := hm
    exact ⟨o, es, ep, k _ o (Ne.symm hL) ho, r⟩
  · refine (I.hok b u e).stay (fun c v hc q => k c v ?_ q) (fun _ q => q) fun _ _ q => q
    rcases hc with z | z
    · rw [z]; exact nit b u e
    · exact nit c _ z
theorem Inv.tok (I : Inv X pins σ H s) (t : Nat) : Inv X pins σ H { s with toks := t } := I.un (h' := s.heap) (t' := t) Un.refl I.hok
theorem Inv.kept {t' : Nat} (I : Inv X pins σ H s) (k : ∀ b u, s.heap.get? b = some u → h'.get? b = some u) : Inv X pins σ H { s with heap := h', toks := t' } := I.un (Un.kept k) (I.hok.kept k)
theorem Inv.laid {a : Addr} {o : HO} {t' : Nat} (I : Inv X pins σ H s) (k : ∀ b u, s.heap.get? b = some u → h'.get? b = some u) (hp : s.heap.objs.size ≤ a) (new : ObjOk X.prog X.w (upd H a o) h' a o) :
    Inv X pins σ (upd H a o) { s with heap := h', toks := t' } := I.un (Un.laid k hp (I.hok.fresh hp)) (I.hok.laid k hp new)
theorem Inv.write {x e : Addr} {o : HO} {t' : Nat} (I : Inv X pins σ H s) (mu : Mut (H x)) (he : e = x ∨ H e = some (.own x)) (k : ∀ b u, b ≠ e → s.heap.get? b = some u → h'.get? b = some u) (heo : ∃ u, h'.get? e = some u)
    (new : ObjOk X.prog X.w (upd H x o) h' x o) : Inv X pins σ (upd H x o) { s with heap := h', toks := t' } := I.un (Un.write mu he k heo) (I.hok.write mu he k heo new)
theorem Inv.pins_of {pins' : List (Addr × Obj)} (I : Inv X pins σ H s) (h : ∀ p ∈ pins', s.heap.get? p.1 = some p.2 ∧ H p.1 = none ∧ p.1 ≠ X.env.locals ∧ p.1 ∉ X.fs ∧ ∀ v, p.2.data ≠ .cell v) : Inv X pins' σ H s :=
  ⟨I.ok, I.os, I.bare, I.base, I.loc, I.cell, I.free, I.freeC, fun p hp => (List.mem_append.mp hp).elim (fun z => I.pin p (List.mem_append_left _ z)) (h p), I.hok, I.len⟩
theorem nodup_ix {N : List Str} (hN : N.Nodup) {i j : Nat} {x : Str} (a : N[i]? = some x) (b : N[j]? = some x) : i = j := by
  obtain ⟨h1, e1⟩ := List.getElem?_eq_some_iff.mp a
  obtain ⟨h2, e2⟩ := List.getElem?_eq_some_iff.mp b
  exact (List.getElem_inj hN).mp (e1.trans e2.symm)
theorem store_ok2 {M : Model} {A : Around} {E : Value → Shared → Prop} {i : Nat} {x : Str} {v : V} {u : Value} {Q : Unit → Shared → Prop} (I : Inv X pins σ H s) (hN : X.N.Nodup) (hi : X.N[i]? = some x) (hx : Loc X.env.scope x) (r : RelV v u)
    (h : ∀ s', Inv X pins (σ.set i (some v)) H s' → (∃ a, Heap.SameBut a s.heap s'.heap ∧ (a = X.env.locals ∨ X.env.cells.lookup x = some a)) → Q () s') (hf : X.fn x = true ∨ X.env.scope.names.lookup x = some .local := by first | exact .inl rfl | exact .inr rfl | assumption) : wpAny M A (storeName X.env x u) Q E s := by
  obtain ⟨m, hn, hl⟩ := id I.loc
  have hcls : (X.env.scope.kind == .class || (X.env.scope.kind == .module && X.env.locals != X.env.globals)) = false := by rw [I.ok.kind]; rfl
  have hiσ : i < σ.length := by rw [I.len]; exact (List.getElem?_eq_some_iff.mp hi).1
  have cne := I.cne
  have tracked : ∀ {a : Addr} {h' : Heap}, (∃ o, s.heap.get? a = some o ∧ H a = none) → Heap.SameBut a s.heap h' → HOk X.prog X.w H h' := fun {a h'} ha hs b ob e => by
    obtain ⟨_, _, hfree⟩ := ha
    refine (I.hok b ob e).stay (fun c w' hc q => (hs.2 c ?_).trans q) (fun _ q => q) fun _ _ q => q
    rintro rfl
    rcases hc with rfl | hc
    · rw [hfree] at e; cases e
    · rw [hfree] at hc; cases hc
  rcases hx with hk | hk
  · refine wpAny_storeName_local hk hn (fun h' hn' hs => ?_) hcls
    obtain ⟨oL, _, _, hoL, _⟩ := id hn
    refine h _ ⟨I.ok, I.os, I.bare, ⟨fun b o e n hb hx => ?_, fun b o e n hb hx => ?_, I.base.free, fun b o e hx => ?_, I.base.tups, I.base.frzs, I.base.tbls⟩, ⟨_, hn', fun j y v' e1 e2 e3 => ?_⟩, fun y c e => ?_, I.free, I.freeC, fun p hp => ?_, tracked ⟨oL, hoL, I.free⟩ hs, by simpa using I.len⟩ ⟨_, hs, .inl rfl⟩
    · exact (hs.2 b (Nat.ne_of_lt (Nat.lt_of_lt_of_le (Heap.lt_size e) I.ok.above))).trans (I.base.keep b o e n hb hx)
    · obtain ⟨sl, e1⟩ := I.base.slot b o e n hb hx
      exact ⟨sl, (hs.2 b (Nat.ne_of_lt (Nat.lt_of_lt_of_le (Heap.lt_size e) I.ok.above))).trans e1⟩
    · obtain ⟨o', e1⟩ := I.base.there b o e hx
      exact ⟨o', (hs.2 b (Nat.ne_of_lt (Nat.lt_of_lt_of_le (Heap.lt_size e) I.ok.above))).trans e1⟩
    · by_cases hj : j = i
      · subst hj
        rw [hi] at e1; cases e1
        rw [List.getElem?_set_self hiσ] at e2
        cases e2
        exact ⟨u, r, .inl ⟨hk, by simp⟩⟩
      · rw [List.getElem?_set_ne (Ne.symm hj)] at e2
        obtain ⟨u', r', q⟩ := hl j y v' e1 e2 e3
        refine ⟨u', r', ?_⟩
        rcases q with ⟨k, e⟩ | ⟨k, c, e, z⟩
        · refine .inl ⟨k, ?_⟩
          have : y ≠ x := fun e => hj (nodup_ix hN e1 (e ▸ hi))
          simp [this, e]
        · exact .inr ⟨k, c, e, z.sameBut hs (cne y c e)⟩
    · obtain ⟨w', z⟩ := I.cell y c e
      exact ⟨w', z.sameBut hs (cne y c e)⟩
    · obtain ⟨e, n, ne, nf, d⟩ := I.pin p hp
      exact ⟨(hs.2 p.1 ne).trans e, n, ne, nf, d⟩
  · have hfn : X.fn x = true := by
      rcases hf with z | z
      · exact z
      · rw [z] at hk; cases hk
    obtain ⟨c, hc⟩ := I.ok.has x (.inl hk)
    obtain ⟨w', z⟩ := I.cell x c hc
    refine wpAny_storeName_cell I.ok.kind hk hc z (fun h' hc' hs => ?_)
    obtain ⟨oc, hoc, hocd⟩ := id z
    refine h { s with heap := h' } ⟨I.ok, I.os, I.bare, ⟨fun b o e n hb hx => ?_, fun b o e n hb hx => ?_, I.base.free, fun b o e hx => ?_, I.base.tups, I.base.frzs, I.base.tbls⟩, ⟨m, hn.sameBut hs (Ne.symm (cne x c hc)), fun j y v' e1 e2 e3 => ?_⟩, fun y c' e => ?_, I.free, I.freeC, fun p hp => ?_, tracked ⟨oc, hoc, I.freeC x c hc⟩ hs, by simpa using I.len⟩ ⟨c, hs, .inr hc⟩
    · exact (hs.2 b (Nat.ne_of_lt (Nat.lt_of_lt_of_le (Heap.lt_size e) (I.ok.cab x c hfn hc)))).trans (I.base.keep b o e n hb hx)
    · obtain ⟨sl, e1⟩ := I.base.slot b o e n hb hx
      exact ⟨sl, (hs.2 b (Nat.ne_of_lt (Nat.lt_of_lt_of_le (Heap.lt_size e) (I.ok.cab x c hfn hc)))).trans e1⟩
    · obtain ⟨o', e1⟩ := I.base.there b o e hx
      exact ⟨o', (hs.2 b (Nat.ne_of_lt (Nat.lt_of_lt_of_le (Heap.lt_size e) (I.ok.cab x c hfn hc)))).trans e1⟩
    · by_cases hj : j = i
      · subst hj
        rw [hi] at e1; cases e1
        rw [List.getElem?_set_self hiσ] at e2
        cases e2
        exact ⟨u, r, .inr ⟨.inl hk, c, hc, hc'⟩⟩
      · rw [List.getElem?_set_ne (Ne.symm hj)] at e2
        obtain ⟨u', r', q⟩ := hl j y v' e1 e2 e3
        refine ⟨u', r', ?_⟩
        rcases q with q | ⟨k, c', e, z'⟩
        · exact .inl q
        · refine .inr ⟨k, c', e, z'.sameBut hs ?_⟩
          rintro rfl
          exact hj (nodup_ix hN e1 (I.ok.inj _ _ _ e hc ▸ hi))
    · by_cases hcc : c' = c
      · subst hcc; exact ⟨_, hc'⟩
      · obtain ⟨w2, z2⟩ := I.cell y c' e
        exact ⟨w2, z2.sameBut hs hcc⟩
    · obtain ⟨e, n, ne, nf, d⟩ := I.pin p hp
      refine ⟨(hs.2 p.1 ?_).trans e, n, ne, nf, d⟩
      intro q
      rw [q, hoc] at e
      have q' : oc = p.2 := Option.some.inj e
      exact d w' (by rw [← q']; exact hocd)
theorem store_ok {M : Model} {A : Around} {E : Value → Shared → Prop} {i : Nat} {x : Str} {v : V} {u : Value} {Q : Unit → Shared → Prop} (I : Inv X pins σ H s) (hN : X.N.Nodup) (hi : X.N[i]? = some x) (hx : Loc X.env.scope x) (r : RelV v u)
    (h : ∀ s', Inv X pins (σ.set i (some v)) H s' → Q () s') (hf : X.fn x = true ∨ X.env.scope.names.lookup x = some .local := by first | exact .inl rfl | exact .inr rfl | assumption) : wpAny M A (storeName X.env x u) Q E s :=
  store_ok2 I hN hi hx r (fun s' I' _ => h s' I') hf
theorem Inv.call' {s' : Shared} {ch : List Addr} (I : Inv X pins σ H s) (ho : s'.os = s.os) (u : Un (frs X.stack) ch H H' s.heap s'.heap) (hok : HOk X.prog X.w H' s'.heap) (hg : AllBare s'.gens)
    (hch : ∀ b ∈ ch, (b ∈ X.ex ∨ X.s₀.heap.objs.size ≤ b) ∧ b ≠ X.env.locals ∧ (∀ x c, X.env.cells.lookup x = some c → c ≠ b) ∧ ∀ p ∈ X.pn ++ pins, p.1 ≠ b) : Inv X pins σ H' s' := by
  obtain ⟨h', g', d', t', o'⟩ := s'
  have e : o' = s.os := ho
  subst e
  exact I.call (g' := g') (t' := t') (d' := d') u hok hg hch
end
abbrev XK := Value → Option Addr → Hp → Prop
abbrev St := List (Option V)
abbrev VK := V → Hp → Prop
abbrev TE := St → Hp → VK → Prop
abbrev TT := St → Hp → (Bool → Hp → Prop) → Prop
structure Ends where
  nx : St → Hp → Prop
  rt : VK
  bk : St → Hp → Prop := fun _ _ => False
  ct : St → Hp → Prop := fun _ _ => False
abbrev TS := Ends → St → Hp → Prop
def EP (X : Cx) (pins : List (Addr × Obj)) (σ : St) (Q : VK) (u : Value) (s' : Shared) : Prop := ∃ v H', Inv X pins σ H' s' ∧ RelV v u ∧ Q v H'
def TP (X : Cx) (pins : List (Addr × Obj)) (σ : St) (Q : Bool → Hp → Prop) (b : Bool) (s' : Shared) : Prop := ∃ H', Inv X pins σ H' s' ∧ Q b H'
def AP (X : Cx) (pins : List (Addr × Obj)) (σ : St) (Q : List V → Hp → Prop) (us : List Value) (s' : Shared) : Prop := ∃ vs H', Inv X pins σ H' s' ∧ Vals vs us ∧ Q vs H'
def SP (X : Cx) (pins : List (Addr × Obj)) (D : Ends) (f : Flow) (s' : Shared) : Prop :=
  match f with
  | .next => ∃ σ' H', Inv X pins σ' H' s' ∧ D.nx σ' H'
  | .brk => ∃ σ' H', Inv X pins σ' H' s' ∧ D.bk σ' H'
  | .cont => ∃ σ' H', Inv X pins σ' H' s' ∧ D.ct σ' H'
  | .ret u => ∃ v σ' H', Inv X pins σ' H' s' ∧ RelV v u ∧ D.rt v H'
def PE (X : Cx) (e : Expr) (t : TE) : Prop :=
  ∀ (pins : List (Addr × Obj)) (s : Shared) (σ : St) (H : Hp) (Q : VK), Inv X pins σ H s → t σ H Q → wpAny (model X.prog X.w) X.A (eval e X.env) (EP X pins σ Q) X.xe s
def PT (X : Cx) (e : Expr) (t : TT) : Prop :=
  ∀ (pins : List (Addr × Obj)) (s : Shared) (σ : St) (H : Hp) (Q : Bool → Hp → Prop), Inv X pins σ H s → t σ H Q → wpAny (model X.prog X.w) X.A (isTrue e X.env (eval e X.env)) (TP X pins σ Q) X.xe s
def PW (X : Cx) (e : Expr) (t : TT) : Prop :=
  ∀ (whole : Sem Value) (pins : List (Addr × Obj)) (s : Shared) (σ : St) (H : Hp) (Q : Bool → Hp → Prop), Inv X pins σ H s → t σ H Q → wpAny (model X.prog X.w) X.A (isTrue e X.env whole) (TP X pins σ Q) X.xe s
theorem PW.pt {X : Cx} {e : Expr} {t : TT} (h : PW X e t) : PT X e t := h _
def PSs (X : Cx) (st : List Stmt) (t : TS) : Prop :=
  ∀ (pins : List (Addr × Obj)) (s : Shared) (σ : St) (H : Hp) (D : Ends), Inv X pins σ H s → t D σ H → wpAny (model X.prog X.w) X.A (execs st X.env) (SP X pins D) X.xe s
theorem thn {α : Type} {t : Sem α} {Q Q' : α → Shared → Prop} {M : Model} {A : Around} {E : Value → Shared → Prop} {s : Shared} (h : wpAny M A t Q E s) (hQ : ∀ a s, Q a s → Q' a s) : wpAny M A t Q' E s := wpAny_mono h hQ fun _ _ x => x
end L2
namespace L2
open PySem PySem.Spec PyProof.Rows
section
variable {X : Cx}
def tVar (i : Nat) : TE := fun σ H Q => ∃ v, σ[i]? = some (some v) ∧ Q v H
theorem pe_var {i : Nat} {x : Str} {pos : Pos} (hN : X.N[i]? = some x) (hv : Vis X.env.scope x) (hd : (x == ("__debug__" : Str)) = false := by decide) (hcd : (x == ("__classdict__" : Str)) = false := by decide) : PE X (.Name x pos) (tVar i) := by
  intro pins s σ H Q I h
  obtain ⟨v, e, h⟩ := h
  obtain ⟨m, hn, hl⟩ := I.loc
  obtain ⟨u, r, l⟩ := hl i x v hN e hv
  have fin : EP X pins σ Q u s := ⟨v, H, I, r, h⟩
  rcases l with ⟨hk, hm⟩ | ⟨hk, c, hc, hcell⟩
  · exact wpAny_Name (wpAny_loadName_local I.ok.kind hk hn hm fin) hd
  · rcases hk with hk | hk
    · exact wpAny_Name (wpAny_loadName_cell I.ok.kind hk hc hcell fin) hd
    · exact wpAny_Name (wpAny_loadName_free I.ok.kind hk hc hcell fin hcd) hd
def Gl (X : Cx) (x : Str) : Prop := X.env.kindOf x = some .globalImplicit
theorem ld_glob {E : Value → Shared → Prop} {pins : List (Addr × Obj)} {s : Shared} {σ : St} {H : Hp} {x : Str} {u : Value} {pos : Pos} {Q : Value → Shared → Prop} (I : Inv X pins σ H s) (hg : Gl X x) (hm : X.mg x = some u) (h : Q u s)
    (hd : (x == ("__debug__" : Str)) = false := by decide) : wpAny (model X.prog X.w) X.A (eval (.Name x pos) X.env) Q E s :=
  Calls.Name_function_global I.ok.kind hg (Calls.loadGlobal_global (by rw [I.ok.glob]; exact I.mod.glob.keeps I.bk) hm h) hd
theorem ld_blt {E : Value → Shared → Prop} {pins : List (Addr × Obj)} {s : Shared} {σ : St} {H : Hp} {x : Str} {u : Value} {pos : Pos} {Q : Value → Shared → Prop} (I : Inv X pins σ H s) (hg : Gl X x) (hm : X.mg x = none) (hv : bootBuiltins x = some u) (h : Q u s)
    (hn : x ≠ "__name__" := by decide) (hd : (x == ("__debug__" : Str)) = false := by decide) : wpAny (model X.prog X.w) X.A (eval (.Name x pos) X.env) Q E s := by
  obtain ⟨mb, h1, h2⟩ := I.mod.blt
  exact Calls.Name_function_global I.ok.kind hg (Calls.loadGlobal_builtin (by rw [I.ok.glob]; exact I.mod.glob.keeps I.bk) hm (by rw [I.ok.blt]; exact h1.keeps I.bk) ((h2 x hn).trans hv) h) hd
variable {a b : Expr} {ta tb : TE} {pos : Pos}
variable {tA tB' : TT} {rest : List Expr}
end
end L2
namespace L2
open PySem PySem.Spec PyProof.Rows
def SqL (K : PySem.W.Frag) (H : Hp) (a : Addr) (xs : List V) : Prop :=
  Rd H a (.lst xs) ∨
    ∃ (o : Obj) (its : Array Value) (n : Nat), K.lookup a = some o ∧ o.cls = .type "list" ∧ o.dict = none ∧ o.data = .seq its n ∧ its.size ≤ sizeLine ∧ Vals xs its.toList
def SqT (K : PySem.W.Frag) (H : Hp) (a : Addr) (xs : List V) : Prop :=
  Rd H a (.tup xs) ∨
    ∃ (o : Obj) (its : Array Value) (n : Nat), K.lookup a = some o ∧ o.cls = .type "tuple" ∧ o.data = .seq its n ∧ its.size ≤ sizeLine ∧ Vals xs its.toList
def absV : Value → Option V
  | .none => some .non
  | .bool b => some (.bl b)
  | .int i _ => some (.int i)
  | .str x _ => some (.str x)
  | .bytes b _ => some (.byt b)
  | .float b _ => some (.flt b)
  | .ref a => some (.ref a)
  | .type n => some (.ty n)
  | _ => none
theorem RelV.abs {x : V} {u : Value} (r : RelV x u) : absV u = some x := by
  cases x with
  | non => cases r; rfl
  | bl _ => cases r; rfl
  | int _ => obtain ⟨t, rfl⟩ := r; rfl
  | str _ => obtain ⟨t, rfl⟩ := r; rfl
  | byt _ => obtain ⟨t, rfl⟩ := r; rfl
  | flt _ => obtain ⟨t, rfl⟩ := r; rfl
  | ref _ => cases r; rfl
  | ty _ => cases r; rfl
theorem RelV.inj {x y : V} {u : Value} (r : RelV x u) (q : RelV y u) : x = y := Option.some.inj (r.abs.symm.trans q.abs)
theorem Vals.inj : ∀ {xs ys : List V} {us : List Value}, Vals xs us → Vals ys us → xs = ys
  | _, _, _, .nil, .nil => rfl
  | _, _, _, .cons r t, .cons r' t' => by rw [r.inj r', Vals.inj t t']
section
variable {X : Cx} {pins : List (Addr × Obj)} {σ : St} {H : Hp} {s : Shared} {a : Addr} {xs ys : List V}
theorem SqL.of {K : PySem.W.Frag} (h : H a = some (.lst xs)) : SqL K H a xs := .inl (.inl h)
theorem SqT.of {K : PySem.W.Frag} (h : H a = some (.tup xs)) : SqT K H a xs := .inl (.inl h)
theorem Inv.list (I : Inv X pins σ H s) (h : SqL X.K H a xs) : ∃ its : List Value, Vals xs its ∧ PlainL s.heap a its.toArray ∧ xs.length ≤ sizeLine := by
  rcases h with h | ⟨o, its, n, hk, hc, hd, hs, hz, r⟩
  · obtain ⟨z, its, n, r, e⟩ := h.ok I.hok
    exact ⟨its, r, ⟨_, n, e, rfl, rfl, rfl⟩, z⟩
  · refine ⟨its.toList, r, ⟨o, n, I.kIn a o hk, hc, hd, by simpa using hs⟩, ?_⟩
    have e := r.length
    simp only [Array.length_toList] at e
    omega
theorem Inv.tuple (I : Inv X pins σ H s) (h : SqT X.K H a xs) : ∃ its : List Value, Vals xs its ∧ IsTup s.heap a its.toArray ∧ xs.length ≤ sizeLine := by
  rcases h with h | ⟨o, its, n, hk, hc, hs, hz, r⟩
  · obtain ⟨z, its, r, p⟩ := h.ok I.hok
    exact ⟨its, r, p, z⟩
  · refine ⟨its.toList, r, ⟨o, I.kIn a o hk, hc, n, by simpa using hs⟩, ?_⟩
    have e := r.length
    simp only [Array.length_toList] at e
    omega
theorem Inv.list_inj (I : Inv X pins σ H s) (h : SqL X.K H a xs) (h' : SqL X.K H a ys) : xs = ys := by
  obtain ⟨its, r, ⟨o, n, e, _, _, d⟩, _⟩ := I.list h
  obtain ⟨its', r', ⟨o', n', e', _, _, d'⟩, _⟩ := I.list h'
  rw [e] at e'; cases e'
  rw [d] at d'
  injection d' with d1 _
  have : its = its' := by simpa using congrArg Array.toList d1
  subst this
  exact r.inj r'
theorem Inv.tuple_inj (I : Inv X pins σ H s) (h : SqT X.K H a xs) (h' : SqT X.K H a ys) : xs = ys := by
  obtain ⟨its, r, ⟨o, e, _, n, d⟩, _⟩ := I.tuple h
  obtain ⟨its', r', ⟨o', e', _, n', d'⟩, _⟩ := I.tuple h'
  rw [e] at e'; cases e'
  rw [d] at d'
  injection d' with d1 _
  have : its = its' := by simpa using congrArg Array.toList d1
  subst this
  exact r.inj r'
end
abbrev Cx.wish (X : Cx) (E : Value → Shared → Prop) : Cx := { X with xe := E }
abbrev Cx.nox (X : Cx) : Cx := X.wish fun _ _ => False
theorem Cx.Ok.wish {X : Cx} (ok : X.Ok) (E : Value → Shared → Prop) : (X.wish E).Ok :=
  ⟨ok.mod, ok.kind, ok.glob, ok.blt, ok.above, ok.inj, ok.has, ok.cab, ok.hd, ok.frames, ok.stk, ok.exf, ok.bs, ok.bsz, ok.noex, ok.exfs, ok.funs, ok.frf⟩
theorem Cx.Ok.unwish {X : Cx} {E : Value → Shared → Prop} (ok : (X.wish E).Ok) : X.Ok :=
  ⟨ok.mod, ok.kind, ok.glob, ok.blt, ok.above, ok.inj, ok.has, ok.cab, ok.hd, ok.frames, ok.stk, ok.exf, ok.bs, ok.bsz, ok.noex, ok.exfs, ok.funs, ok.frf⟩
section
variable {X : Cx} {pins : List (Addr × Obj)} {σ : St} {H : Hp} {s : Shared} {E : Value → Shared → Prop}
theorem Inv.wish (I : Inv X pins σ H s) (E : Value → Shared → Prop) : Inv (X.wish E) pins σ H s := ⟨I.ok.wish E, I.os, I.bare, I.base, I.loc, I.cell, I.free, I.freeC, I.pin, I.hok, I.len⟩
theorem Inv.unwish (I : Inv (X.wish E) pins σ H s) : Inv X pins σ H s := ⟨I.ok.unwish, I.os, I.bare, I.base, I.loc, I.cell, I.free, I.freeC, I.pin, I.hok, I.len⟩
theorem SP.unwish {D : Ends} {f : Flow} {s' : Shared} (h : SP (X.wish E) pins D f s') : SP X pins D f s' := by
  cases f with
  | next => obtain ⟨σ', H', I, q⟩ := h; exact ⟨σ', H', I.unwish, q⟩
  | brk => obtain ⟨σ', H', I, q⟩ := h; exact ⟨σ', H', I.unwish, q⟩
  | cont => obtain ⟨σ', H', I, q⟩ := h; exact ⟨σ', H', I.unwish, q⟩
  | ret u => obtain ⟨v, σ', H', I, r, q⟩ := h; exact ⟨v, σ', H', I.unwish, r, q⟩
theorem PE.nox {e : Expr} {t : TE} (h : PE X.nox e t) : PE X e t := fun pins s σ H Q I hw =>
  wpAny_mono (h pins s σ H Q (I.wish _) hw) (fun _ _ ⟨v, H', I', r, q⟩ => ⟨v, H', I'.unwish, r, q⟩) fun _ _ z => False.elim z
theorem PT.nox {e : Expr} {t : TT} (h : PT X.nox e t) : PT X e t := fun pins s σ H Q I hw =>
  wpAny_mono (h pins s σ H Q (I.wish _) hw) (fun _ _ ⟨H', I', q⟩ => ⟨H', I'.unwish, q⟩) fun _ _ z => False.elim z
theorem PSs.nox {st : List Stmt} {t : TS} (h : PSs X.nox st t) : PSs X st t := fun pins s σ H D I hw =>
  wpAny_mono (h pins s σ H D (I.wish _) hw) (fun _ _ q => q.unwish) fun _ _ z => False.elim z
end
section
variable {X : Cx} {st : Stmt} {rest : List Stmt} {t u : TS} {e : Expr} {te : TE} {pos : Pos}
theorem Inv.quiet {pins : List (Addr × Obj)} {σ : St} {H : Hp} {s : Shared} (I : Inv X pins σ H s) : interactive X.env = false := by simp [interactive, I.ok.kind]
end
abbrev TG := V → St → Hp → (St → Hp → Prop) → Prop
def PG (X : Cx) (target : Expr) (t : TG) : Prop :=
  ∀ (pins : List (Addr × Obj)) (s : Shared) (σ : St) (H : Hp) (v : V) (u : Value) (Q : St → Hp → Prop), Inv X pins σ H s → RelV v u → t v σ H Q →
    wpAny (model X.prog X.w) X.A (assign target X.env u) (fun _ s' => ∃ σ' H', Inv X pins σ' H' s' ∧ Q σ' H') X.xe s
section
variable {X : Cx} {pos : Pos}
def gName (i : Nat) : TG := fun v σ H Q => Q (σ.set i (some v)) H
theorem pg_name {i : Nat} {x : Str} (hN : X.N.Nodup) (hi : X.N[i]? = some x) (hx : Loc X.env.scope x) (hf : X.fn x = true ∨ X.env.scope.names.lookup x = some .local := by first | exact .inl rfl | exact .inr rfl | assumption) : PG X (.Name x pos) (gName i) := by
  intro pins s σ H v u Q I r h
  exact wpAny_assign_Name (store_ok I hN hi hx r (fun s' I' => ⟨_, H, I', h⟩) hf)
end
section
variable {X : Cx} {pos : Pos}
end
structure It where
  go : Nat → Hp → Prop
  yld : Nat → Hp → V → Hp → Prop
  stop : Nat → Hp → Prop
def FpOk (X : Cx) (pins : List (Addr × Obj)) (H : Hp) (b : Addr) : Prop :=
  H b = none ∧ b ≠ X.env.locals ∧ b ∉ X.fs ∧ (b ∈ X.ex ∨ X.s₀.heap.objs.size ≤ b) ∧ (∀ x c, X.env.cells.lookup x = some c → c ≠ b) ∧ ∀ p ∈ X.pn ++ pins, p.1 ≠ b
theorem Inv.fpOk {X : Cx} {pins : List (Addr × Obj)} {σ : St} {H H' : Hp} {s : Shared} {b : Addr} (I : Inv X pins σ H s) (hb : s.heap.objs.size ≤ b) (hn : H' b = none) : FpOk X pins H' b := by
  refine ⟨hn, Nat.ne_of_gt (Nat.lt_of_lt_of_le I.lt hb), I.nofs hb, .inr (Nat.le_trans I.sz hb), fun x c e z => ?_, fun p hp z => ?_⟩
  · obtain ⟨v, q⟩ := I.cell x c e
    exact absurd (Nat.lt_of_lt_of_le q.lt (by rw [z]; exact hb)) (Nat.lt_irrefl _)
  · exact absurd (Nat.lt_of_lt_of_le (Heap.lt_size (I.pin p hp).1) (by rw [z]; exact hb)) (Nat.lt_irrefl _)
structure Turn (P : Program) (w : World) (K : PySem.W.Frag) (tg : Expr) (J : It) (fp : List Addr) (it : Addr) (tn : Nat → Heap → Prop) : Prop where
  mem : it ∈ fp
  obj : ∀ i h, tn i h → ∀ b ∈ fp, ∃ o, h.get? b = some o ∧ ∀ v, o.data ≠ .cell v
  keep : ∀ i h h', tn i h → (∀ b ∈ fp, ∀ o, h.get? b = some o → h'.get? b = some o) → tn i h'
  item : ∀ (X : Cx), X.prog = P → X.w = w → X.K = K → X.calm = true → ∀ (i : Nat) (pins : List (Addr × Obj)) (s : Shared) (σ : St) (H : Hp) (E : Value → Shared → Prop), Inv X pins σ H s → (∀ b ∈ fp, FpOk X pins H b) → tn i s.heap → J.go i H →
    wpAny (model P w) X.A (pyNext (.ref it)) (fun r s1 => ∃ u, r = some u ∧
      wpAny (model P w) X.A (letOwnedTupleGo tg (.ref it) u) (fun _ s2 => ∃ x H', Inv X pins σ H' s2 ∧ RelV x u ∧ J.yld i H x H' ∧ tn (i + 1) s2.heap ∧ ∀ b ∈ fp, H' b = none) E s1) E s
  done : ∀ (X : Cx), X.prog = P → X.w = w → X.K = K → X.calm = true → ∀ (i : Nat) (pins : List (Addr × Obj)) (s : Shared) (σ : St) (H : Hp) (E : Value → Shared → Prop), Inv X pins σ H s → (∀ b ∈ fp, FpOk X pins H b) → tn i s.heap → J.stop i H →
    wpAny (model P w) X.A (pyNext (.ref it)) (fun r s1 => r = none ∧ Inv X pins σ H s1) E s
  self : ∀ (A : Around) (i : Nat) (s : Shared) (Q : Value → Shared → Prop) (E : Value → Shared → Prop), tn i s.heap → Q (.ref it) s → wpAny (model P w) A (pyIter (.ref it)) Q E s
def PIE (X : Cx) (pins : List (Addr × Obj)) (σ : St) (tg : Expr) (R : It → Hp → Prop) (itv : Value) (s2 : Shared) : Prop :=
  ∃ (it : Addr) (fp : List Addr) (tn : Nat → Heap → Prop) (J : It) (H' : Hp), itv = .ref it ∧ Inv X pins σ H' s2 ∧ Turn X.prog X.w X.K tg J fp it tn ∧ tn 0 s2.heap ∧ (∀ b ∈ fp, FpOk X pins H' b) ∧ R J H'
theorem go_of {M : Model} {A : Around} {E : Value → Shared → Prop} {s : Shared} {tg : Expr} {it : Addr} {u : Value} {o : Obj} {n : String} {vs : Array Value} {Q : Unit → Shared → Prop} (ho : s.heap.get? it = some o) (hc : o.cls = .type n) (hd : o.data = .fields vs)
    (hn : ["enumerate", "zip", "dict_itemiterator", "dict_reverseitemiterator", "odict_iterator", "itertools.zip_longest", "itertools.pairwise"].contains n = false) (hQ : Q () s) : wpAny M A (letOwnedTupleGo tg (.ref it) u) Q E s := by
  unfold letOwnedTupleGo
  cases tg <;> first
    | exact wpAny_pure hQ
    | (cases u <;> first
        | exact wpAny_pure hQ
        | (refine wpAny_bind (wpAny_load ho ?_)
           rw [hc, hd]
           show wpAny M A (if (["enumerate", "zip", "dict_itemiterator", "dict_reverseitemiterator", "odict_iterator", "itertools.zip_longest", "itertools.pairwise"].contains n && vs[0]? == some (rawInt _)) = true then _ else _) Q E s
           rw [if_neg (by intro h; rw [hn, Bool.false_and] at h; cases h)]
           exact wpAny_pure hQ))
def Itl (K : PySem.W.Frag) (a : Addr) : It :=
  ⟨fun i H => ∃ xs x, SqL K H a xs ∧ xs[i]? = some x, fun i H x H' => H' = H ∧ ∀ xs, SqL K H a xs → xs[i]? = some x, fun i H => ∃ xs, SqL K H a xs ∧ xs.length ≤ i⟩
def Itt (K : PySem.W.Frag) (a : Addr) : It :=
  ⟨fun i H => ∃ xs x, SqT K H a xs ∧ xs[i]? = some x, fun i H x H' => H' = H ∧ ∀ xs, SqT K H a xs → xs[i]? = some x, fun i H => ∃ xs, SqT K H a xs ∧ xs.length ≤ i⟩
theorem turn_list {P : Program} {w : World} {K : PySem.W.Frag} {tg : Expr} (a it : Addr) : Turn P w K tg (Itl K a) [it] it (fun i h => h.IsListIter it a i) where
  mem := by simp
  obj := fun i h st b hb => by
    have e : b = it := by simpa using hb
    subst e
    obtain ⟨o, e, c, d⟩ := st
    exact ⟨o, e, fun v z => by rw [d] at z; cases z⟩
  keep := fun i h h' st k => st.at fun o e => k it (by simp) o e
  item := by
    intro X hP hw hK hc i pins s σ H E I hf st hg
    subst hP hw hK
    obtain ⟨xs, x, hq, hx⟩ := hg
    obtain ⟨its, rv, p, hz⟩ := I.list hq
    obtain ⟨u, hu, ru⟩ := rv.get hx
    obtain ⟨f0, f1, f2, f3, f4, f5⟩ := hf it (by simp)
    refine wpAny_pyNext_list_item st p.isList (x := u) (by simpa using hu) fun h' st' sb => ?_
    have I1 : Inv X pins σ H { s with heap := h' } := I.turned (t' := s.toks) (fun b o hb e => (sb.2 b hb).trans e) f0 f1 f3 f4 f5
    obtain ⟨o, e, c, d⟩ := id st'
    exact ⟨u, rfl, go_of (s := { s with heap := h' }) e c d (by decide) ⟨x, H, I1, ru, ⟨rfl, fun ys hy => by rw [I.list_inj hy hq]; exact hx⟩, st', fun b hb => (hf b hb).1⟩⟩
  done := by
    intro X hP hw hK hc i pins s σ H E I hf st hg
    subst hP hw hK
    obtain ⟨xs, hq, hx⟩ := hg
    obtain ⟨its, rv, p, hz⟩ := I.list hq
    obtain ⟨f0, f1, f2, f3, f4, f5⟩ := hf it (by simp)
    have hl := rv.length
    exact wpAny_pyNext_list_end (I.ok.hd hc) st p.isList (by simp; omega) fun h' eb => ⟨rfl, I.turned (t' := s.toks) (fun b o hb e => eb b o hb e) f0 f1 f3 f4 f5⟩
  self := fun _ _ _ _ _ st h => wpAny_pyIter_listiter st h
theorem turn_tuple {P : Program} {w : World} {K : PySem.W.Frag} {tg : Expr} (a it : Addr) : Turn P w K tg (Itt K a) [it] it (fun i h => h.IsTupleIter it a i) where
  mem := by simp
  obj := fun i h st b hb => by
    have e : b = it := by simpa using hb
    subst e
    obtain ⟨o, e, c, d⟩ := st
    exact ⟨o, e, fun v z => by rw [d] at z; cases z⟩
  keep := fun i h h' st k => st.at fun o e => k it (by simp) o e
  item := by
    intro X hP hw hK hc i pins s σ H E I hf st hg
    subst hP hw hK
    obtain ⟨xs, x, hq, hx⟩ := hg
    obtain ⟨its, rv, p, hz⟩ := I.tuple hq
    obtain ⟨u, hu, ru⟩ := rv.get hx
    obtain ⟨f0, f1, f2, f3, f4, f5⟩ := hf it (by simp)
    refine wpAny_pyNext_tuple_item st (show s.heap.IsTuple a its.toArray from p) (x := u) (by simpa using hu) fun h' st' sb => ?_
    have I1 : Inv X pins σ H { s with heap := h' } := I.turned (t' := s.toks) (fun b o hb e => (sb.2 b hb).trans e) f0 f1 f3 f4 f5
    obtain ⟨o, e, c, d⟩ := id st'
    exact ⟨u, rfl, go_of (s := { s with heap := h' }) e c d (by decide) ⟨x, H, I1, ru, ⟨rfl, fun ys hy => by rw [I.tuple_inj hy hq]; exact hx⟩, st', fun b hb => (hf b hb).1⟩⟩
  done := by
    intro X hP hw hK hc i pins s σ H E I hf st hg
    subst hP hw hK
    obtain ⟨xs, hq, hx⟩ := hg
    obtain ⟨its, rv, p, hz⟩ := I.tuple hq
    obtain ⟨f0, f1, f2, f3, f4, f5⟩ := hf it (by simp)
    have hl := rv.length
    exact wpAny_pyNext_tuple_end (I.ok.hd hc) st (show s.heap.IsTuple a its.toArray from p) (by simp; omega) fun h' eb => ⟨rfl, I.turned (t' := s.toks) (fun b o hb e => eb b o hb e) f0 f1 f3 f4 f5⟩
  self := fun _ _ _ _ _ st h => wpAny_pyIter_tupleiter st h
end L2
namespace L2
open PySem PySem.Spec PyProof.Rows
section
variable {X : Cx} {tg : Expr}
def pinsAt (fp : List Addr) (h : Heap) : List (Addr × Obj) := fp.filterMap fun b => (h.get? b).map fun o => (b, o)
theorem mem_pinsAt {fp : List Addr} {h : Heap} {b : Addr} {o : Obj} (hb : b ∈ fp) (e : h.get? b = some o) : (b, o) ∈ pinsAt fp h := List.mem_filterMap.mpr ⟨b, hb, by rw [e]; rfl⟩
theorem of_pinsAt {fp : List Addr} {h : Heap} {p : Addr × Obj} (hp : p ∈ pinsAt fp h) : p.1 ∈ fp ∧ h.get? p.1 = some p.2 := by
  obtain ⟨b, hb, e⟩ := List.mem_filterMap.mp hp
  cases q : h.get? b with
  | none => rw [q] at e; cases e
  | some o =>
    rw [q] at e
    have e' : (b, o) = p := Option.some.inj e
    subst e'
    exact ⟨hb, q⟩
theorem Inv.pinned {pins : List (Addr × Obj)} {σ : St} {H : Hp} {s : Shared} {fp : List Addr} (I : Inv X pins σ H s) (hf : ∀ b ∈ fp, FpOk X pins H b) (ho : ∀ b ∈ fp, ∃ o, s.heap.get? b = some o ∧ ∀ v, o.data ≠ .cell v) : Inv X (pins ++ pinsAt fp s.heap) σ H s :=
  I.pins_of fun p hp => (List.mem_append.mp hp).elim (fun z => I.pin p (List.mem_append_right _ z)) fun z => by
    obtain ⟨hb, e⟩ := of_pinsAt z
    obtain ⟨f0, f1, f2, _⟩ := hf p.1 hb
    obtain ⟨o, e', d⟩ := ho p.1 hb
    rw [e] at e'; cases e'
    exact ⟨e, f0, f1, f2, d⟩
theorem Inv.unpinned {pins pl : List (Addr × Obj)} {σ : St} {H : Hp} {s : Shared} (I : Inv X (pins ++ pl) σ H s) : Inv X pins σ H s := I.pins_of fun p hp => I.pin p (List.mem_append_right _ (List.mem_append_left _ hp))
end
end L2
namespace L2
open PySem PySem.Spec PyProof.Rows
abbrev R2 := V → V → Hp → VK → Prop
def OpR (X : Cx) (f : Value → Value → Sem Value) (r : R2) : Prop :=
  ∀ (pins : List (Addr × Obj)) (s : Shared) (σ : St) (H : Hp) (x y : V) (v u : Value) (Q : VK), Inv X pins σ H s → RelV x v → RelV y u → r x y H Q →
    wpAny (model X.prog X.w) X.A (f v u) (EP X pins σ Q) X.xe s
def UnR (X : Cx) (f : Value → Sem Value) (r : V → Hp → VK → Prop) : Prop :=
  ∀ (pins : List (Addr × Obj)) (s : Shared) (σ : St) (H : Hp) (x : V) (v : Value) (Q : VK), Inv X pins σ H s → RelV x v → r x H Q →
    wpAny (model X.prog X.w) X.A (f v) (EP X pins σ Q) X.xe s
def CallR (X : Cx) (f : Value) (r : List V → Hp → VK → Prop) : Prop :=
  ∀ (pins : List (Addr × Obj)) (s : Shared) (σ : St) (H : Hp) (xs : List V) (us : List Value) (Q : VK), Inv X pins σ H s → Vals xs us → r xs H Q →
    wpAny (model X.prog X.w) X.A (call f us) (EP X pins σ Q) X.xe s
def TruR (X : Cx) (r : V → Hp → (Bool → Hp → Prop) → Prop) : Prop :=
  ∀ (pins : List (Addr × Obj)) (s : Shared) (σ : St) (H : Hp) (x : V) (v : Value) (Q : Bool → Hp → Prop), Inv X pins σ H s → RelV x v → r x H Q →
    wpAny (model X.prog X.w) X.A (truthy v) (TP X pins σ Q) X.xe s
def rI (C : Int → Int → Prop) (g : Int → Int → V) : R2 := fun x y H Q => ∃ i j, x = .int i ∧ y = .int j ∧ C i j ∧ Q (g i j) H
def rI0 (g : Int → Int → V) : R2 := fun x y H Q => ∃ i j, x = .int i ∧ y = .int j ∧ Q (g i j) H
section
variable {X : Cx} {a b c : Expr} {ta tb tc : TE} {pos : Pos}
theorem opI {f : Value → Value → Sem Value} {C : Int → Int → Prop} {g : Int → Int → Int}
    (rule : ∀ (i j : Int) (t u : Tok) (s : Shared) (Q : Value → Shared → Prop) (E : Value → Shared → Prop), C i j → Q (.int (g i j) s.toks) { s with toks := s.toks + 1 } → wpAny (model X.prog X.w) X.A (f (.int i t) (.int j u)) Q E s) :
    OpR X f (rI C fun i j => .int (g i j)) := by
  intro pins s σ H x y v u Q I rx ry h
  obtain ⟨i, j, rfl, rfl, hc, q⟩ := h
  obtain ⟨t, rfl⟩ := rx
  obtain ⟨t', rfl⟩ := ry
  exact rule i j t t' s _ _ hc ⟨.int (g i j), H, I.tok _, ⟨_, rfl⟩, q⟩
theorem opB0 {f : Value → Value → Sem Value} {g : Int → Int → Bool}
    (rule : ∀ (i j : Int) (t u : Tok) (s : Shared) (Q : Value → Shared → Prop) (E : Value → Shared → Prop), Q (.bool (g i j)) s → wpAny (model X.prog X.w) X.A (f (.int i t) (.int j u)) Q E s) :
    OpR X f (rI0 fun i j => .bl (g i j)) := by
  intro pins s σ H x y v u Q I rx ry h
  obtain ⟨i, j, rfl, rfl, q⟩ := h
  obtain ⟨t, rfl⟩ := rx
  obtain ⟨t', rfl⟩ := ry
  exact rule i j t t' s _ _ ⟨.bl (g i j), H, I, rfl, q⟩
def CDiv (i j : Int) : Prop := 0 < j ∧ j < 1073741824
def CMul (i j : Int) : Prop := (-(2 ^ 64) < i ∧ i < 2 ^ 64) ∨ (-(2 ^ 64) < j ∧ j < 2 ^ 64)
theorem CMul.ok {i j : Int} (h : CMul i j) : IntMulOk i j := by
  rcases h with ⟨h1, h2⟩ | ⟨h1, h2⟩
  · exact .of_left (intBits_le_64 h1 h2)
  · exact .of_right (intBits_le_64 h1 h2)
theorem op_mul : OpR X (binaryOp .Mult) (rI CMul fun i j => .int (i * j)) := opI fun _ _ _ _ _ _ _ hc q => mul_int q hc.ok
theorem op_fdiv : OpR X (binaryOp .FloorDiv) (rI CDiv fun i j => .int (i / j)) := opI fun i j _ _ _ _ _ hc q => by
  have h1 : (0 : Int) < j := hc.1
  have h2 : j < 1073741824 := hc.2
  exact floordiv_int (by omega) (by rw [Int.fdiv_eq_ediv_of_nonneg i (by omega)]; exact q) (.inl (PyProof.noPylong_small (by omega)))
theorem op_mod : OpR X (binaryOp .Mod) (rI (fun _ j => 0 < j) fun i j => .int (i % j)) := opI fun i j _ _ _ _ _ hc q => by
  have h1 : (0 : Int) < j := hc
  exact mod_int' (by omega) (by rw [Int.fmod_eq_emod_of_nonneg i (by omega)]; exact q)
end
section
variable {X : Cx} {a b c : Expr} {ta tb tc : TE} {pos : Pos}
theorem op_lt : OpR X (compareOp .Lt) (rI0 fun i j => .bl (decide (i < j))) := opB0 fun _ _ _ _ _ _ _ q => lt_int q
theorem op_le : OpR X (compareOp .LtE) (rI0 fun i j => .bl (decide (i ≤ j))) := opB0 fun _ _ _ _ _ _ _ q => le_int q
theorem op_gt : OpR X (compareOp .Gt) (rI0 fun i j => .bl (decide (j < i))) := opB0 fun _ _ _ _ _ _ _ q => gt_int q
theorem op_ge : OpR X (compareOp .GtE) (rI0 fun i j => .bl (decide (j ≤ i))) := opB0 fun _ _ _ _ _ _ _ q => ge_int q
theorem OpR.or {f : Value → Value → Sem Value} {r r' : R2} (h : OpR X f r) (h' : OpR X f r') : OpR X f (fun x y H Q => r x y H Q ∨ r' x y H Q) := by
  intro pins s σ H x y v u Q I rx ry q
  rcases q with q | q
  · exact h pins s σ H x y v u Q I rx ry q
  · exact h' pins s σ H x y v u Q I rx ry q
theorem nomark (b : Expr) {op : CmpOp} (h : op ≠ .In := by decide) (h2 : op ≠ .NotIn := by decide) : behindInMarks op b = false := by
  have e1 : (op == CmpOp.In) = false := by cases op <;> first | rfl | exact absurd rfl h
  have e2 : (op == CmpOp.NotIn) = false := by cases op <;> first | rfl | exact absurd rfl h2
  cases b <;> simp [behindInMarks, e1, e2]
def TruV (K : PySem.W.Frag) (x : V) (H : Hp) (k : Bool) : Prop :=
  match x with
  | .non => k = false
  | .bl b => k = b
  | .int i => k = (i != 0)
  | .str y => y.length ≤ sizeLine ∧ k = ((y.length : Int) != 0)
  | .byt y => y.size ≤ sizeLine ∧ k = ((y.size : Int) != 0)
  | .ref p => (∃ xs, SqL K H p xs ∧ k = !xs.isEmpty) ∨ (∃ xs, SqT K H p xs ∧ k = !xs.isEmpty) ∨ ∃ kvs, H p = some (.dK kvs) ∧ k = !kvs.isEmpty
  | _ => False
theorem isEmpty_kv {κ : Type} {kvs : List (κ × V)} {vs : List (κ × Value)} (r : KV kvs vs) : (!vs.isEmpty) = !kvs.isEmpty := by
  cases r <;> rfl
theorem isEmpty_of {xs : List V} {its : List Value} (r : Vals xs its) : (!its.toArray.isEmpty) = !xs.isEmpty := by
  cases r <;> simp
theorem line63 : (sizeLine : Nat) < 2 ^ 63 := by rw [sizeLine_eq]; decide
theorem tru_ok : TruR X (fun x H Q => ∃ k, TruV X.K x H k ∧ Q k H) := by
  intro pins s σ H x v Q I rx h
  obtain ⟨k, e, q⟩ := h
  have hl := line63
  have hs : sizeLine = 16777216 := sizeLine_eq
  cases x with
  | non =>
    cases rx
    have e' : k = false := e
    subst e'
    exact truthy_none ⟨H, I, q⟩
  | bl b =>
    cases rx
    have e' : k = b := e
    subst e'
    exact wpAny_truthy_bool ⟨H, I, q⟩
  | int i =>
    obtain ⟨t, rfl⟩ := rx
    have e' : k = (i != 0) := e
    subst e'
    exact PySem.P.truthy_int ⟨H, I, q⟩
  | str y =>
    obtain ⟨t, rfl⟩ := rx
    obtain ⟨hy, e'⟩ : y.length ≤ sizeLine ∧ k = ((y.length : Int) != 0) := e
    subst e'
    exact PySem.P.truthy_str (by omega) ⟨H, I.tok _, q⟩
  | byt y =>
    obtain ⟨t, rfl⟩ := rx
    obtain ⟨hy, e'⟩ : y.size ≤ sizeLine ∧ k = ((y.size : Int) != 0) := e
    subst e'
    exact PySem.W.truthy_bytes (by omega) ⟨H, I.tok _, q⟩
  | ref p =>
    cases rx
    have e' : (∃ xs, SqL X.K H p xs ∧ k = !xs.isEmpty) ∨ (∃ xs, SqT X.K H p xs ∧ k = !xs.isEmpty) ∨ ∃ kvs, H p = some (.dK kvs) ∧ k = !kvs.isEmpty := e
    rcases e' with ⟨xs, hx, e'⟩ | ⟨xs, hx, e'⟩ | ⟨kvs, hx, e'⟩
    · subst e'
      obtain ⟨its, r, pl, hz⟩ := I.list hx
      have hlen := r.length
      exact wpAny_truthy_list pl.isList (by simp only [List.size_toArray]; omega) ⟨H, I.tok _, by rw [isEmpty_of r]; exact q⟩
    · subst e'
      obtain ⟨its, r, pl, hz⟩ := I.tuple hx
      have hlen := r.length
      exact truthy_tuple pl (by simp only [List.size_toArray]; omega) ⟨H, I.tok _, by rw [isEmpty_of r]; exact q⟩
    · subst e'
      obtain ⟨hz, hS, vs, r, m⟩ : kvs.length ≤ sizeLine ∧ (p == sysModules) = false ∧ ∃ vs, KV kvs vs ∧ s.heap.DictOf (mixKind X.prog X.w) p vs := I.hok p _ hx
      have hlen : kvs.length = vs.length := Paired.length r
      exact wpAny_truthy_dict hS m (by omega) ⟨H, I.tok _, by rw [isEmpty_kv r]; exact q⟩
  | _ => exact (show False from e).elim
theorem vals1 {x : V} {us : List Value} (r : Vals [x] us) : ∃ u, us = [u] ∧ RelV x u := by
  cases r with
  | cons r1 r2 => cases r2; exact ⟨_, rfl, r1⟩
theorem vals2 {x y : V} {us : List Value} (r : Vals [x, y] us) : ∃ u w', us = [u, w'] ∧ RelV x u ∧ RelV y w' := by
  cases r with
  | cons r1 r2 =>
    cases r2 with
    | cons r3 r4 => cases r4; exact ⟨_, _, rfl, r1, r3⟩
theorem call_max2 (hc : X.calm = true) : CallR X (.builtin "max") (fun xs H Q => ∃ i j, xs = [.int i, .int j] ∧ Q (.int (if j > i then j else i)) H) := by
  intro pins s σ H xs us Q I r h
  obtain ⟨i, j, rfl, q⟩ := h
  obtain ⟨u, w', rfl, ⟨t, rfl⟩, ⟨t', rfl⟩⟩ := vals2 r
  refine max_two_ints (I.ok.hd hc) fun h' tk k => ⟨_, H, I.kept k, ?_, q⟩
  by_cases hj : j > i
  · rw [if_pos hj, if_pos hj]; exact ⟨_, rfl⟩
  · rw [if_neg hj, if_neg hj]; exact ⟨_, rfl⟩
theorem call_min2 (hc : X.calm = true) : CallR X (.builtin "min") (fun xs H Q => ∃ i j, xs = [.int i, .int j] ∧ Q (.int (if j < i then j else i)) H) := by
  intro pins s σ H xs us Q I r h
  obtain ⟨i, j, rfl, q⟩ := h
  obtain ⟨u, w', rfl, ⟨t, rfl⟩, ⟨t', rfl⟩⟩ := vals2 r
  refine min_two_ints (I.ok.hd hc) fun h' tk k => ⟨_, H, I.kept k, ?_, q⟩
  by_cases hj : j < i
  · rw [if_pos hj, if_pos hj]; exact ⟨_, rfl⟩
  · rw [if_neg hj, if_neg hj]; exact ⟨_, rfl⟩
theorem call_int1 : CallR X (.type "int") (fun xs H Q => (∃ i, xs = [.int i] ∧ Q (.int i) H) ∨ ∃ k, xs = [.bl k] ∧ Q (.int (if k then 1 else 0)) H) := by
  intro pins s σ H xs us Q I r h
  rcases h with ⟨i, rfl, q⟩ | ⟨k, rfl, q⟩
  · obtain ⟨u, rfl, t, rfl⟩ := vals1 r
    exact call_int_int ⟨.int i, H, I, ⟨_, rfl⟩, q⟩
  · obtain ⟨u, rfl, r1⟩ := vals1 r
    cases r1
    exact call_int_bool ⟨.int (if k then 1 else 0), H, I.tok _, ⟨_, rfl⟩, q⟩
end
end L2
namespace L2
open PySem PySem.Spec PyProof.Rows
structure ObjM (h : Heap) (x dx C : Addr) (mA : Str → Option Value) : Prop where
  obj : h.get? x = some (PySem.W.instObj C dx)
  ns : h.Ns1 dx mA
  ne : dx ≠ x
theorem lookIn_ns {h : Heap} {dx : Addr} {mA : Str → Option Value} (n : h.Ns1 dx mA) : ∃ od, h.get? dx = some od ∧ ∀ name, PySem.W.lookIn name od = some (mA name) := by
  obtain ⟨o, es, ep, ho, hd, hk, _, hm⟩ := n
  refine ⟨o, ho, fun name => ?_⟩
  have e := hm name
  unfold nsFind findBy at e
  rw [← Array.find?_toList] at e
  unfold PySem.W.lookIn
  rw [hd]
  dsimp only
  split
  · rename_i y q
    rw [q] at e
    exact congrArg some e
  · rename_i q
    rw [q] at e
    have a : es.toList.any (·.refKey) = false := by
      rw [List.any_eq_false]
      intro y hy
      obtain ⟨z, t, hkey⟩ := hk y (Array.mem_toList_iff.mp hy)
      simp [DictEntry.refKey, hkey]
    have a' : ¬ es.toList.any (·.refKey) = true := by rw [a]; exact Bool.false_ne_true
    rw [if_neg a']
    exact congrArg some e
theorem ObjM.look {h : Heap} {x dx C : Addr} {mA : Str → Option Value} (I : ObjM h x dx C mA) : ∃ od, PySem.W.InstAt h x (PySem.W.instObj C dx) C (some od) ∧ ∀ name, PySem.W.lookIn name od = some (mA name) :=
  let ⟨od, ho, hl⟩ := lookIn_ns I.ns
  ⟨od, ⟨I.obj, rfl, rfl, ho⟩, hl⟩
section
variable {prog : Program} {w : World} {A : Around} {E : Value → Shared → Prop} {s : Shared} {K : PySem.W.Frag} {x dx C f : Addr} {mA : Str → Option Value} {name : Str} {v : Value}
theorem get_map {expr : Bool} {Q : Value → Shared → Prop} (X : K.In s.heap) (I : ObjM s.heap x dx C mA) (hg : PySem.W.plainGet K C name = true) (hh : PySem.W.hasDictIn K C = true)
    (ha : PySem.W.findIn K (.ref C) name = some none) (hv : mA name = some v) (hv' : PySem.W.handedIn v = true) (h : Q v { s with toks := s.toks + 1 }) :
    wpAny (model prog w) A (getAttr (.ref x) name expr) Q E s := by
  obtain ⟨od, J, hl⟩ := I.look
  exact PySem.W.get_value X J (PySem.W.plainGet_of hg).1 (PySem.W.findObj_own hh ha rfl (by rw [hl, hv])) hv' h
theorem get_meth {pl : Sem Bool} {Q : Value × List Value → Shared → Prop} (X : K.In s.heap) (I : ObjM s.heap x dx C mA) (hg : PySem.W.plainGet K C name = true)
    (hf : PySem.W.findIn K (.ref C) name = some (some (.ref f))) (ht : PySem.W.isFn K (.ref f) = true) (hv : mA name = none) (h : Q (.ref f, [.ref x]) s) :
    wpAny (model prog w) A (getMethod (.ref x) name pl) Q E s := by
  obtain ⟨od, J, hl⟩ := I.look
  exact PySem.W.method_fn X J (PySem.W.plainGet_of hg).1 (PySem.W.plainGet_of hg).2 hf (beq_iff_eq.mp ht) (by show (PySem.W.lookIn name od).map (·.isSome) = some false; rw [hl, hv]; rfl) h
theorem set_map {ns : List Str} {Q : Unit → Shared → Prop} (X : K.In s.heap) (I : ObjM s.heap x dx C mA)
    (hs : PySem.W.findIn K (.ref C) "__setattr__" = some (some (.builtin "object.__setattr__"))) (hp : PySem.W.plainOver K C = true) (ht : PySem.W.takerIn K C name = some none) (hh : PySem.W.hasDictIn K C = true)
    (hw : PySem.Within mA ns) (hsz : ns.length ≤ sizeLine)
    (h : ∀ h', ObjM h' x dx C (fun y => if y = name then some v else mA y) → Heap.SameBut dx s.heap h' → Q () { s with heap := h', toks := s.toks + 2 }) :
    wpAny (model prog w) A (setAttr (.ref x) name v) Q E s := by
  obtain ⟨od, J, hl⟩ := I.look
  refine PySem.W.set_plain X J hs (PySem.W.osa_open (s := { s with toks := s.toks + 1 }) (r := none) X J hp ht fun b => ?_)
  obtain ⟨cd, hc, hd'⟩ := PySem.W.any_some hh
  have hx : s.heap.get? x = some ⟨.ref C, some dx, .plain, #[]⟩ := I.obj
  refine wpAny_bind (wpAny_pure (wpAny_bind (wpAny_bind (wpAny_loadPart hx (wpAny_bind (PySem.W.Looks.here (s := { s with toks := s.toks + 1 }) (PySem.W.looks_clsIn X hc) ?_))))))
  rw [hd']
  refine wpAny_pure (a := some dx) (wpAny_bind (wpAny_pure (wpAny_bind ?_)))
  refine wpAny_nsSet1 (s := { s with toks := s.toks + 1 }) I.ns fun h' hn2 hs2 => ?_
  obtain ⟨oD, esD, epD, hoD, hdD, hcD⟩ := hn2.count (PySem.Within.cons name v hw)
  refine wpAny_bind (wpAny_lookBehind hoD (by rw [hdD]; exact pastItsLine_dict (Nat.le_trans hcD (by rw [List.length_cons]; omega))) ?_)
  exact wpAny_pure (h _ ⟨(hs2.2 _ (Ne.symm I.ne)).trans I.obj, hn2, I.ne⟩ hs2)
theorem make_map {R : Result → Shared → Prop} {vs : List Value} {kw : List (Str × Value)} (X : K.In s.heap) (hm : PySem.W.makesIn K C = true)
    (hi : PySem.W.findIn K (.ref C) "__init__" = some (some (.ref f))) (hf : PySem.W.typeIn K (.ref f) = some (.type "function"))
    (h : codeAny (model prog w) (A.under (.builtin "type.__call__" ⟨.ref C :: vs, kw⟩)) (.call (.ref f) ⟨.ref (s.heap.objs.size + 1) :: vs, kw⟩) (PySem.W.InitBack (s.heap.objs.size + 1) R)
      { s with heap := (s.heap.push PySem.W.emptyDict).push (PySem.W.instObj C s.heap.objs.size) }) :
    codeAny (model prog w) A (.call (.ref C) ⟨vs, kw⟩) R s := by
  obtain ⟨hh, g, d, t, os⟩ := s
  exact PySem.W.make_core (PySem.W.makes_of X hm) (PySem.W.looks_findIn X hi) (fun self => PySem.W.bind_fn X self hf) (.inl rfl) h
end
def putF (f : Str) (v : V) : List (Str × V) → List (Str × V)
  | [] => [(f, v)]
  | (g, x) :: r => if g = f then (g, v) :: r else (g, x) :: putF f v r
theorem lookup_putF (f g : Str) (v : V) : ∀ fs : List (Str × V), (putF f v fs).lookup g = if g = f then some v else fs.lookup g
  | [] => by
    show List.lookup g [(f, v)] = _
    by_cases h : g = f
    · have hb : (g == f) = true := beq_iff_eq.mpr h
      simp only [List.lookup, hb, if_pos h]
    · have hb : (g == f) = false := beq_eq_false_iff_ne.mpr h
      simp only [List.lookup, hb, if_neg h]
  | (k, x) :: r => by
    have ih := lookup_putF f g v r
    rw [show putF f v ((k, x) :: r) = (if k = f then (k, v) :: r else (k, x) :: putF f v r) from rfl]
    by_cases hk : k = f
    · rw [if_pos hk]
      by_cases h : g = k
      · have hb : (g == k) = true := beq_iff_eq.mpr h
        simp only [List.lookup, hb, if_pos (h.trans hk)]
      · have hb : (g == k) = false := beq_eq_false_iff_ne.mpr h
        simp only [List.lookup, hb, if_neg (fun e : g = f => h (e.trans hk.symm))]
    · rw [if_neg hk]
      by_cases h : g = k
      · have hb : (g == k) = true := beq_iff_eq.mpr h
        simp only [List.lookup, hb, if_neg (fun e : g = f => hk (h.symm.trans e))]
      · have hb : (g == k) = false := beq_eq_false_iff_ne.mpr h
        simp only [List.lookup, hb]
        exact ih
theorem keys_putF (f : Str) (v : V) : ∀ fs : List (Str × V), f ∈ (putF f v fs).map (·.1) ∧ ∀ g, g ∈ fs.map (·.1) → g ∈ (putF f v fs).map (·.1)
  | [] => ⟨by simp [putF], fun g h => by simp at h⟩
  | (k, x) :: r => by
    obtain ⟨i1, i2⟩ := keys_putF f v r
    rw [show putF f v ((k, x) :: r) = (if k = f then (k, v) :: r else (k, x) :: putF f v r) from rfl]
    by_cases hk : k = f
    · rw [if_pos hk]
      subst hk
      exact ⟨by simp, fun g h => by simpa using h⟩
    · rw [if_neg hk]
      refine ⟨?_, fun g h => ?_⟩
      · rw [List.map_cons]
        exact List.mem_cons_of_mem _ i1
      · rw [List.map_cons] at h ⊢
        rcases List.mem_cons.mp h with e | e
        · exact List.mem_cons.mpr (.inl e)
        · exact List.mem_cons_of_mem _ (i2 g e)
theorem length_putF (f : Str) (v : V) : ∀ fs : List (Str × V), (putF f v fs).length ≤ fs.length + 1
  | [] => by simp [putF]
  | (k, x) :: r => by
    have ih := length_putF f v r
    rw [show putF f v ((k, x) :: r) = (if k = f then (k, v) :: r else (k, x) :: putF f v r) from rfl]
    by_cases hk : k = f
    · rw [if_pos hk, List.length_cons, List.length_cons]; omega
    · rw [if_neg hk, List.length_cons, List.length_cons]; omega
theorem RelO.some_of {v : V} {o : Option Value} (r : RelO (some v) o) : ∃ u, o = some u ∧ RelV v u := by
  cases o with
  | none => exact (show False from r).elim
  | some u => exact ⟨u, rfl, r⟩
theorem RelO.none_of {o : Option Value} (r : RelO none o) : o = none := by
  cases o with
  | none => rfl
  | some u => exact (show False from r).elim
theorem handed_of {v : V} {u : Value} (r : RelV v u) : PySem.W.handedIn u = true := by
  cases v with
  | non => cases (show u = Value.none from r); rfl
  | bl b => cases (show u = Value.bool b from r); rfl
  | int i => obtain ⟨t, e⟩ := (show ∃ t, u = Value.int i t from r); cases e; rfl
  | str x => obtain ⟨t, e⟩ := (show ∃ t, u = Value.str x t from r); cases e; rfl
  | byt b => obtain ⟨t, e⟩ := (show ∃ t, u = Value.bytes b t from r); cases e; rfl
  | flt b => obtain ⟨t, e⟩ := (show ∃ t, u = Value.float b t from r); cases e; rfl
  | ref a => cases (show u = Value.ref a from r); rfl
  | ty n => cases (show u = Value.type n from r); rfl
section
variable {P : Program} {w : World} {H H' : Hp} {h h' : Heap} {a C dx : Addr} {fs fs' : List (Str × V)}
theorem ins_get (hok : HOk P w H h) (e : H a = some (.ins C dx fs)) : ∃ mA, ObjM h a dx C mA ∧ (∀ f, RelO (fs.lookup f) (mA f)) ∧ PySem.Within mA (fs.map (·.1)) ∧ fs.length ≤ 1000 ∧ H dx = some (.own a) := by
  obtain ⟨d, z, ne, ob, mA, n, r, q⟩ := (show ObjOk P w H h a (.ins C dx fs) from hok a _ e)
  exact ⟨mA, ⟨ob, n, ne⟩, r, q, z, d⟩
end
structure Cls (K : PySem.W.Frag) (C : Addr) : Prop where
  pg : PySem.W.plainGet K C Str.empty = true
  hd : PySem.W.hasDictIn K C = true
  po : PySem.W.plainOver K C = true
  sa : PySem.W.findIn K (.ref C) "__setattr__" = some (some (.builtin "object.__setattr__"))
theorem Cls.get {K : PySem.W.Frag} {C : Addr} (c : Cls K C) (f : Str) : PySem.W.plainGet K C f = true := c.pg
def NoAttr (K : PySem.W.Frag) (C : Addr) (f : Str) : Prop := PySem.W.findIn K (.ref C) f = some none
theorem NoAttr.taker {K : PySem.W.Frag} {C : Addr} {f : Str} (n : NoAttr K C f) : PySem.W.takerIn K C f = some none := by
  unfold PySem.W.takerIn
  rw [show PySem.W.findIn K (.ref C) f = some none from n]
  rfl
structure Con (K : PySem.W.Frag) (C : Addr) (f : Str) (v : V) (u : Value) : Prop where
  at_ : PySem.W.findIn K (.ref C) f = some (some u)
  rel : RelV v u
  get : PySem.W.specialIn K u "__get__" = some none
  cp : PySem.W.copiedNames.contains f = false
structure Meth (K : PySem.W.Frag) (C : Addr) (m : Str) (f : Addr) : Prop where
  at_ : PySem.W.findIn K (.ref C) m = some (some (.ref f))
  fn : PySem.W.isFn K (.ref f) = true
  kp : PySem.W.keepIn K (.ref f) = true
section
variable {X : Cx} {pins : List (Addr × Obj)} {σ : St} {H : Hp} {s : Shared} {a C dx : Addr} {fs : List (Str × V)} {f : Str} {v : V} {A : Around} {E : Value → Shared → Prop}
theorem getattr_ok {b : Bool} {Q : Value → Shared → Prop} (I : Inv X pins σ H s) (e : H a = some (.ins C dx fs)) (c : Cls X.K C) (n : NoAttr X.K C f) (l : fs.lookup f = some v)
    (h : ∀ u s', Inv X pins σ H s' → RelV v u → Q u s') : wpAny (model X.prog X.w) A (getAttr (.ref a) f b) Q E s := by
  obtain ⟨mA, O, r, _, _, _⟩ := ins_get I.hok e
  obtain ⟨u, hu, ru⟩ := RelO.some_of (v := v) (o := mA f) (by rw [← l]; exact r f)
  exact get_map I.kIn O (c.get f) c.hd n hu (handed_of ru) (h u _ (I.tok _) ru)
theorem getmeth_ok {m : Str} {g : Addr} {pl : Sem Bool} {Q : Value × List Value → Shared → Prop} (I : Inv X pins σ H s) (e : H a = some (.ins C dx fs)) (c : Cls X.K C) (k : Meth X.K C m g) (l : fs.lookup m = none)
    (h : Q (.ref g, [.ref a]) s) : wpAny (model X.prog X.w) A (getMethod (.ref a) m pl) Q E s := by
  obtain ⟨mA, O, r, _, _, _⟩ := ins_get I.hok e
  have hn : mA m = none := RelO.none_of (by rw [← l]; exact r m)
  exact get_meth I.kIn O (c.get m) k.at_ k.fn hn h
theorem setattr_ok {y : V} {u : Value} {Q : Unit → Shared → Prop} (I : Inv X pins σ H s) (e : H a = some (.ins C dx fs)) (c : Cls X.K C) (n : NoAttr X.K C f) (hl : fs.length < 1000) (ry : RelV y u)
    (h : ∀ s', Inv X pins σ (upd H a (.ins C dx (putF f y fs))) s' → Q () s') : wpAny (model X.prog X.w) A (setAttr (.ref a) f u) Q E s := by
  obtain ⟨mA, O, r, wi, _, ho⟩ := ins_get I.hok e
  have hz : (fs.map (·.1)).length ≤ sizeLine := by rw [List.length_map, sizeLine_eq]; omega
  refine set_map I.kIn O c.sa c.po n.taker c.hd wi hz fun h' O' sb => h _ ?_
  have hd : ∃ o, h'.get? dx = some o := let ⟨o, _, _, e', _⟩ := O'.ns; ⟨o, e'⟩
  refine I.write (x := a) (e := dx) (by rw [e]; exact True.intro) (.inr ho) (fun b q hb z => (sb.2 b hb).trans z) hd ?_
  refine ⟨by rw [upd_ne O.ne]; exact ho, ?_, O.ne, O'.obj, _, O'.ns, fun g => ?_, fun g hg => ?_⟩
  · have := length_putF f y fs; omega
  · show RelO ((putF f y fs).lookup g) (if g = f then some u else mA g)
    rw [lookup_putF]
    by_cases q : g = f
    · rw [if_pos q, if_pos q]; exact ry
    · rw [if_neg q, if_neg q]; exact r g
  · by_cases q : g = f
    · rw [q]; exact (keys_putF f y fs).1
    · refine (keys_putF f y fs).2 g (wi g fun z => hg ?_)
      show (if g = f then some u else mA g) = none
      rw [if_neg q]; exact z
theorem Inv.made (I : Inv X pins σ H s) : Inv X pins σ (upd (upd H s.heap.objs.size (.own (s.heap.objs.size + 1))) (s.heap.objs.size + 1) (.ins C s.heap.objs.size []))
    { s with heap := (s.heap.push PySem.W.emptyDict).push (PySem.W.instObj C s.heap.objs.size) } := by
  have e1 : (s.heap.push PySem.W.emptyDict).get? s.heap.objs.size = some PySem.W.emptyDict := Heap.get?_push_size s.heap rfl
  have e2 : ((s.heap.push PySem.W.emptyDict).push (PySem.W.instObj C s.heap.objs.size)).get? (s.heap.objs.size + 1) = some (PySem.W.instObj C s.heap.objs.size) := by
    have := Heap.get?_push_size (s.heap.push PySem.W.emptyDict) (o := PySem.W.instObj C s.heap.objs.size) rfl
    rwa [Heap.size_push] at this
  have e3 : (s.heap.push PySem.W.emptyDict).Ns s.heap.objs.size (fun _ => none) := ⟨PySem.W.emptyDict, #[], _, e1, rfl, (fun e he => absurd he (by simp)), fun _ => rfl⟩
  have I1 := I.laid (a := s.heap.objs.size) (o := .own (s.heap.objs.size + 1)) (h' := s.heap.push PySem.W.emptyDict) (t' := s.toks) (fun b u q => Heap.get?_push_of_some _ q) (Nat.le_refl _) ⟨_, e1⟩
  refine I1.laid (a := s.heap.objs.size + 1) (o := .ins C s.heap.objs.size []) (t' := s.toks) (fun b u q => Heap.get?_push_of_some _ q) (Nat.le_of_eq (Heap.size_push _ _)) ?_
  have ne : s.heap.objs.size ≠ s.heap.objs.size + 1 := Nat.ne_of_lt (Nat.lt_succ_self _)
  refine ⟨by rw [upd_ne ne, upd_same], Nat.zero_le _, ne, e2, fun _ => none, (Heap.Ns1.of_empty e3).at fun o q => Heap.get?_push_of_some _ q, fun _ => True.intro, fun y hy => absurd rfl hy⟩
theorem attr_of {prog : Program} {w : World} {env : Env} {e : Expr} {f : Str} {pos : Pos} {s : Shared} {Q : Value → Shared → Prop} (hb : attributeBase e f env (eval e env) = eval e env)
    (h : wpAny (model prog w) A (eval e env) (fun o s₁ => wpAny (model prog w) A (getAttr o f true) Q E s₁) E s) : wpAny (model prog w) A (eval (.Attribute e f pos) env) Q E s :=
  Attribute_any_ h (by rw [arm_eval_Attribute, hb])
end
def sFld (K : PySem.W.Frag) (ta tv : TE) (f : Str) : TS := fun D σ H => tv σ H fun y H1 => ta σ H1 fun x H2 => ∃ a C dx fs, x = .ref a ∧ H2 a = some (.ins C dx fs) ∧ Cls K C ∧ NoAttr K C f ∧ fs.length < 1000 ∧
  D.nx σ (upd H2 a (.ins C dx (putF f y fs)))
section
variable {X : Cx} {o e value : Expr} {f : Str} {pos pos' tpos : Pos} {ta tv : TE}
end
section
variable {X : Cx} {pins : List (Addr × Obj)} {σ : St} {H : Hp} {s : Shared} {A : Around} {E : Value → Shared → Prop} {Q : Value → Shared → Prop} {c : Value} {b : Bool}
inductive TyOf (K : PySem.W.Frag) (H : Hp) : V → Value → Prop where
  | non : TyOf K H .non (.type "NoneType")
  | bl (x : Bool) : TyOf K H (.bl x) (.type "bool")
  | int (i : Int) : TyOf K H (.int i) (.type "int")
  | str (x : Str) : TyOf K H (.str x) (.type "str")
  | flt (x : UInt64) : TyOf K H (.flt x) (.type "float")
  | lst {a : Addr} {xs : List V} (e : H a = some (.lst xs)) : TyOf K H (.ref a) (.type "list")
  | frz {a : Addr} {o : Obj} {xs : List V} (e : H a = some (.frz o (.lst xs))) : TyOf K H (.ref a) (.type "list")
  | tup {a : Addr} {xs : List V} (e : H a = some (.tup xs)) : TyOf K H (.ref a) (.type "tuple")
  | dK {a : Addr} {kvs : List (Key × V)} (e : H a = some (.dK kvs)) : TyOf K H (.ref a) (.type "dict")
  | dT {a : Addr} {kvs : List (List Key × V)} (e : H a = some (.dT kvs)) : TyOf K H (.ref a) (.type "dict")
  | ins {a C dx : Addr} {fs : List (Str × V)} (e : H a = some (.ins C dx fs)) (cl : Cls K C) (ha : PySem.W.findIn K (.ref C) "__class__" = some (some (.builtin "object.__class__")))
      (hn : PySem.W.specialIn K (.builtin "object.__class__") "__get__" = some (some (.builtin "getset_descriptor.__get__"))) (htk : PySem.W.takesIn K (.builtin "object.__class__") = some true)
      (hm : PySem.W.mroIn K C (.type "object") = some true) : TyOf K H (.ref a) (.ref C)
end
end L2
namespace L2
open PySem PySem.Spec PyProof.Rows
structure Room (k : Nat) (A : Around) : Prop where
  hd : A.handled = none
  dp : A.depth + 3 * k + 5 < recursionLimit
  un : A.units + 16 * k + 200 < cLine
theorem Room.mono {j k : Nat} {A : Around} (r : Room k A) (h : j ≤ k) : Room j A := ⟨r.hd, by have := r.dp; omega, by have := r.un; omega⟩
theorem Room.deeper {k : Nat} {A : Around} (r : Room (k + 1) A) (env : Env) : Room k (A.deeper env) :=
  ⟨r.hd, by have := r.dp; show A.depth + 1 + 3 * k + 5 < _; omega, by have := r.un; show A.units + 3 + 16 * k + 200 < _; omega⟩
theorem Room.in1 {k : Nat} {A : Around} (r : Room (k + 1) A) : Room k A.in1 :=
  ⟨r.hd, by have := r.dp; show A.depth + 3 * k + 5 < _; omega, by have := r.un; show A.units + 1 + 16 * k + 200 < _; omega⟩
theorem make_depth {A : Around} {C : Addr} {us : List Value} {kw : List (Str × Value)} : (A.under (.builtin "type.__call__" ⟨.ref C :: us, kw⟩)).depth = A.depth + 1 := by
  first | rfl | simp [Around.under, Code.weight, Code.isCreation, Code.isGuard, Code.isCaller, Code.frames, Code.isFrame, guardIds]
theorem make_units {A : Around} {C : Addr} {us : List Value} {kw : List (Str × Value)} : (A.under (.builtin "type.__call__" ⟨.ref C :: us, kw⟩)).units = A.units + 1 := by
  first | rfl | simp [Around.under, Code.cUnits, Code.frames, Code.isFrame]
theorem Room.make {k : Nat} {A : Around} (r : Room (k + 1) A) (C : Addr) (us : List Value) (kw : List (Str × Value)) : Room k (A.under (.builtin "type.__call__" ⟨.ref C :: us, kw⟩)) :=
  ⟨r.hd, by have := r.dp; rw [make_depth]; omega, by have := r.un; rw [make_units]; omega⟩
theorem Room.depth {k : Nat} {A : Around} (r : Room k A) : A.depth < recursionLimit := by have := r.dp; omega
theorem Room.units {k : Nat} {A : Around} (r : Room k A) : A.units + 64 < cLine := by have := r.un; omega
section
variable {X : Cx} {e : Expr} {es : List Expr} {te : TE} {t : TA} {pos : Pos}
end
abbrev Sp := List V → Hp → VK → XK → Prop
abbrev CXT := List Env → Hp → Shared → XK → Value → Shared → Prop
structure Env0 (P : Program) (w : World) (K : PySem.W.Frag) (mg : Str → Option Value) (base : Heap) (A : Around) (outer : List Env) (s : Shared) (H : Hp) : Prop where
  frames : A.frames = some outer
  mod : Mod K mg base
  bs : ∀ b o, base.get? b = some o → s.heap.get? b = some o ∧ H b = none
  bsz : base.objs.size ≤ s.heap.objs.size
  funs : s.heap.FunFrames base outer
  frf : ∀ b ∈ frs outer, H b = none
  hok : HOk P w H s.heap
  bare : AllBare s.gens
def CE (outer : List Env) (P : Program) (w : World) (H : Hp) (s : Shared) (Q : VK) (u : Value) (s' : Shared) : Prop :=
  ∃ v H', s'.os = s.os ∧ AllBare s'.gens ∧ Un (frs outer) [] H H' s.heap s'.heap ∧ HOk P w H' s'.heap ∧ RelV v u ∧ Q v H'
def CR (CX : CXT) (outer : List Env) (P : Program) (w : World) (H : Hp) (s : Shared) (Q : VK) (E : XK) (r : Result) (s' : Shared) : Prop :=
  match r with
  | .ok (.ret u) => CE outer P w H s Q u s'
  | .ok _ => False
  | .error e => CX outer H s E e s'
structure FnOk (P : Program) (w : World) (K : PySem.W.Frag) (mg : Str → Option Value) (base : Heap) (CX : CXT) (k : Nat) (f : Addr) (fd : FuncData) (ps : List Str) (sp : Sp) : Prop where
  len : ∀ vs H Q E, sp vs H Q E → vs.length = ps.length
  run : ∀ (A : Around) (outer : List Env) (s : Shared) (H : Hp) (args : Args) (us : List Value) (vs : List V) (Q : VK) (E : XK), Room k A → Env0 P w K mg base A outer s H → BindsTo s fd args (ps.zip us) → Vals vs us → sp vs H Q E →
    codeAny (model P w) A (.call (.ref f) args) (CR CX outer P w H s Q E) s
theorem FnOk.mono {P : Program} {w : World} {K : PySem.W.Frag} {mg : Str → Option Value} {base : Heap} {CX : CXT} {j k : Nat} {f : Addr} {fd : FuncData} {ps : List Str} {sp : Sp} (F : FnOk P w K mg base CX j f fd ps sp) (h : j ≤ k) :
    FnOk P w K mg base CX k f fd ps sp := ⟨F.len, fun A outer s H args us vs Q E hr => F.run A outer s H args us vs Q E (hr.mono h)⟩
theorem FnOk.imp {P : Program} {w : World} {K : PySem.W.Frag} {mg : Str → Option Value} {base : Heap} {CX : CXT} {k : Nat} {f : Addr} {fd : FuncData} {ps : List Str} {sp sp' : Sp} (F : FnOk P w K mg base CX k f fd ps sp)
    (h : ∀ vs H Q E, sp' vs H Q E → sp vs H Q E) : FnOk P w K mg base CX k f fd ps sp' :=
  ⟨fun vs H Q E q => F.len vs H Q E (h _ _ _ _ q), fun A outer s H args us vs Q E hr he hb hv hs => F.run A outer s H args us vs Q E hr he hb hv (h _ _ _ _ hs)⟩
theorem Env0.make {P : Program} {w : World} {K : PySem.W.Frag} {mg : Str → Option Value} {base : Heap} {A : Around} {outer : List Env} {s : Shared} {H : Hp} (e : Env0 P w K mg base A outer s H) (C : Addr) (us : List Value) (kw : List (Str × Value)) :
    Env0 P w K mg base (A.under (.builtin "type.__call__" ⟨.ref C :: us, kw⟩)) outer s H := ⟨by first | exact e.frames | (simpa [Around.under, Code.envs, Code.isFrame, pushEnvs] using e.frames), e.mod, e.bs, e.bsz, e.funs, e.frf, e.hok, e.bare⟩
theorem Env0.in1 {P : Program} {w : World} {K : PySem.W.Frag} {mg : Str → Option Value} {base : Heap} {A : Around} {outer : List Env} {s : Shared} {H : Hp} (e : Env0 P w K mg base A outer s H) :
    Env0 P w K mg base A.in1 outer s H := ⟨e.frames, e.mod, e.bs, e.bsz, e.funs, e.frf, e.hok, e.bare⟩
section
variable {X : Cx} {pins : List (Addr × Obj)} {σ : St} {H : Hp} {s s' : Shared}
theorem Inv.env0 (I : Inv X pins σ H s) : Env0 X.prog X.w X.K X.mg X.base X.A X.stack s H :=
  ⟨I.ok.frames, I.ok.mod, I.bs, Nat.le_trans I.ok.bsz I.sz, I.stack, I.stkFree, I.hok, I.bare⟩
theorem Inv.after {Q : VK} {u : Value} (I : Inv X pins σ H s) (h : CE X.stack X.prog X.w H s Q u s') : EP X pins σ Q u s' := by
  obtain ⟨v, H', os, bare, un, hok, r, q⟩ := h
  obtain ⟨hh, g, d, t, os'⟩ := s'
  obtain rfl : os' = s.os := os
  exact ⟨v, H', I.call (h' := hh) (g' := g) (d' := d) (t' := t) (ch := []) un hok bare (fun b z => absurd z (by simp)), r, q⟩
end
def Binds (K : PySem.W.Frag) (fd : FuncData) (ps : List Str) (ds : List Value) : Prop :=
  ∀ (s : Shared) (us : List Value), K.In s.heap → (us ++ ds).length = ps.length → BindsTo s fd ⟨us, []⟩ (ps.zip (us ++ ds))
theorem Binds.all {K : PySem.W.Frag} {fd : FuncData} {ps : List Str} (h : ∀ us : List Value, us.length = ps.length → bindArgs fd ⟨us, []⟩ = pure (ps.zip us)) : Binds K fd ps [] := fun s us _ hl => by
  rw [List.append_nil] at hl ⊢
  exact .of_eq (h us hl)
section
variable {X : Cx} {CX : CXT} {k : Nat} {f C : Addr} {fd : FuncData} {ps : List Str} {sp : Sp} {dvs : List V} {ds : List Value} {E : XK} {x m : Str} {p pos apos : Pos} {e o : Expr} {es : List Expr} {ta : TE} {t : TA}
structure Mk (K : PySem.W.Frag) (C f : Addr) : Prop where
  makes : PySem.W.makesIn K C = true
  init : PySem.W.findIn K (.ref C) "__init__" = some (some (.ref f))
  fn : PySem.W.isFn K (.ref f) = true
  kp : PySem.W.keepIn K (.ref C) = true
end
section
variable {X : Cx} {CX : CXT} {k : Nat} {f C : Addr} {fd : FuncData} {ps ks : List Str} {sp : Sp} {E : XK} {x m : Str} {p pos apos kpos : Pos} {e o : Expr} {es : List Expr} {kws : List Keyword} {te ta : TE} {t tk : TA} {nm : Option Str}
structure KBinds (K : PySem.W.Frag) (fd : FuncData) (ps ks : List Str) (g : List Value → List Value → List Value) (gV : List V → List V → List V) : Prop where
  to : ∀ (s : Shared) (us ws : List Value), K.In s.heap → (g us ws).length = ps.length → BindsTo s fd ⟨us, ks.zip ws⟩ (ps.zip (g us ws))
  rel : ∀ {vs : List V} {us : List Value} {zs : List V} {ws : List Value}, Vals vs us → Vals zs ws → Vals (gV vs zs) (g us ws)
variable {g : List Value → List Value → List Value} {gV : List V → List V → List V}
end
structure FnScope (N P : List Str) (sc : Scope) : Prop where
  kind : sc.kind = .function
  co : sc.isCoroutine = false
  gen : sc.isGenerator = false
  nd : N.Nodup
  pre : N.take P.length = P
  par : ∀ x ∈ P, sc.names.lookup x = some .local ∨ sc.names.lookup x = some .cell
  nofree : ∀ y ∈ sc.names, y.2 ≠ .free
theorem bindL_out {kindOf : Str → Option NameKind} {x : Str} : ∀ {binds : List (Str × Value)} {m : Str → Option Value}, (∀ v, (x, v) ∉ binds) → bindL kindOf binds m x = m x
  | [], _, _ => rfl
  | (n, v) :: r, m, h => by
    unfold bindL
    rw [bindL_out fun w hw => h w (List.mem_cons_of_mem _ hw)]
    split
    · have : x ≠ n := by rintro rfl; exact h v List.mem_cons_self
      simp [this]
    · rfl
theorem bindC_out {kindOf : Str → Option NameKind} {x : Str} : ∀ {binds : List (Str × Value)} {m : Str → Option Value}, (∀ v, (x, v) ∉ binds) → bindC kindOf binds m x = m x
  | [], _, _ => rfl
  | (n, v) :: r, m, h => by
    unfold bindC
    rw [bindC_out fun w hw => h w (List.mem_cons_of_mem _ hw)]
    split
    · rfl
    · have : x ≠ n := by rintro rfl; exact h v List.mem_cons_self
      simp [this]
theorem bindL_get {kindOf : Str → Option NameKind} {x : Str} {v : Value} : ∀ {P : List Str} {vs : List Value} {i : Nat} {m : Str → Option Value}, P.Nodup → P[i]? = some x → vs[i]? = some v → kindOf x = some .local →
    bindL kindOf (P.zip vs) m x = some v
  | [], _, _, _, _, h, _, _ => by simp at h
  | _ :: _, [], _, _, _, _, h, _ => by simp at h
  | p :: P, w :: vs, 0, m, nd, h1, h2, hk => by
    simp at h1 h2; subst h1; subst h2
    show bindL kindOf ((p, w) :: P.zip vs) m p = _
    unfold bindL
    rw [bindL_out fun v hv => (List.nodup_cons.mp nd).1 (List.of_mem_zip hv).1, if_pos hk]
    simp
  | p :: P, w :: vs, i + 1, m, nd, h1, h2, hk => by
    show bindL kindOf ((p, w) :: P.zip vs) m x = _
    unfold bindL
    exact bindL_get (i := i) (List.nodup_cons.mp nd).2 (by simpa using h1) (by simpa using h2) hk
theorem bindC_get {kindOf : Str → Option NameKind} {x : Str} {v : Value} : ∀ {P : List Str} {vs : List Value} {i : Nat} {m : Str → Option Value}, P.Nodup → P[i]? = some x → vs[i]? = some v → kindOf x ≠ some .local →
    bindC kindOf (P.zip vs) m x = some v
  | [], _, _, _, _, h, _, _ => by simp at h
  | _ :: _, [], _, _, _, _, h, _ => by simp at h
  | p :: P, w :: vs, 0, m, nd, h1, h2, hk => by
    simp at h1 h2; subst h1; subst h2
    show bindC kindOf ((p, w) :: P.zip vs) m p = _
    unfold bindC
    rw [bindC_out fun v hv => (List.nodup_cons.mp nd).1 (List.of_mem_zip hv).1, if_neg hk]
    simp
  | p :: P, w :: vs, i + 1, m, nd, h1, h2, hk => by
    show bindC kindOf ((p, w) :: P.zip vs) m x = _
    unfold bindC
    exact bindC_get (i := i) (List.nodup_cons.mp nd).2 (by simpa using h1) (by simpa using h2) hk
def start (N : List Str) (vs : List V) : St := vs.map some ++ List.replicate (N.length - vs.length) none
def cxOf (CX : CXT) (P : Program) (w : World) (K : PySem.W.Frag) (mg : Str → Option Value) (base : Heap) (N : List Str) (qual : Str) (scope : Scope) (f : Addr) (cd : Value) (A : Around) (outer : List Env) (s : Shared) (H : Hp) (E : XK) : Cx where
  prog := P
  w := w
  K := K
  mg := mg
  base := base
  A := A.deeper (envOfC qual scope s.heap.objs.size f cd)
  N := N
  s₀ := s
  H₀ := H
  env := envOfC qual scope s.heap.objs.size f cd
  outer := outer
  stack := envOfC qual scope s.heap.objs.size f cd :: outer
  ex := []
  calm := true
  fn := fun _ => true
  pn := []
  xe := fun e s' => wpAny (model P w) (A.deeper (envOfC qual scope s.heap.objs.size f cd)) (leaving (envOfC qual scope s.heap.objs.size f cd) e) (fun _ s'' => CX outer H s E e s'') (fun e' s'' => CX outer H s E e' s'') s'
theorem cell_has {sc : Scope} {n : Nat} {x : Str} (h : sc.names.lookup x = some .cell) : ∃ c, (cellsFrom n sc.names []).lookup x = some c := by
  have q := PySem.W.cellsFrom_some sc.names n [] (.inl h)
  exact Option.isSome_iff_exists.mp q
theorem inv_start {CX : CXT} {P : Program} {w : World} {K : PySem.W.Frag} {mg : Str → Option Value} {base : Heap} {N ps : List Str} {qual : Str} {scope : Scope} {f : Addr} {cd : Value} {A : Around} {outer : List Env} {s s1 : Shared} {H : Hp} {E : XK} {us : List Value} {vs : List V}
    (S : FnScope N ps scope) (hd : A.handled = none) (e0 : Env0 P w K mg base A outer s H) (hl : vs.length = ps.length) (r : Vals vs us)
    (x : InCallC s s.heap.objs.size (bindL (envOfC qual scope s.heap.objs.size f cd).kindOf (ps.zip us) fun _ => none) (cellsFrom (s.heap.objs.size + 1) scope.names []) (bindC (envOfC qual scope s.heap.objs.size f cd).kindOf (ps.zip us) fun _ => none) s1) :
    Inv (cxOf CX P w K mg base N qual scope f cd A outer s H E) [] (start N vs) H s1 := by
  have hpl : ps.length ≤ N.length := by have := congrArg List.length S.pre; rw [List.length_take] at this; omega
  obtain ⟨h1, tk, rfl, hk⟩ := x.done
  have noA : ∀ b : Addr, b ∉ (cxOf CX P w K mg base N qual scope f cd A outer s H E).ex := fun b z => absurd (show b ∈ ([] : List Addr) from z) (by simp)
  refine ⟨⟨e0.mod, S.kind, rfl, rfl, Nat.le_refl _, fun y z c h1 h2 => ?_, fun y hy => ?_, fun y c _ h => ?_, fun _ => hd, Around.frames_deeper e0.frames, .inr ⟨rfl, rfl⟩, fun b z => absurd z (noA b), e0.bs, e0.bsz, fun b _ _ => noA b, fun b z => absurd z (noA b), e0.funs, e0.frf⟩,
    rfl, e0.bare, Un.kept hk, ⟨_, x.toInCall.ns, fun i y v h1 h2 h3 => ?_⟩, fun y c h => ⟨_, x.cell y c h⟩, e0.hok.fresh (Nat.le_refl _), fun y c h => ?_, fun p hp => absurd (show p ∈ ([] : List (Addr × Obj)) from hp) (by simp), e0.hok.kept hk, ?_⟩
  · exact name_of_addr x.apart (PySem.mem_of_lookup h1) (PySem.mem_of_lookup h2)
  · have hy : scope.names.lookup y = some .cell ∨ scope.names.lookup y = some .free := hy
    rcases hy with hy | hy
    · exact cell_has hy
    · exact absurd rfl (S.nofree _ (PySem.mem_of_lookup hy))
  · exact Nat.le_of_lt (x.above y c (PySem.mem_of_lookup h))
  · have hi : i < vs.length := by
      unfold start at h2
      by_cases hi : i < vs.length
      · exact hi
      · rw [List.getElem?_append_right (by simpa using hi)] at h2
        rw [List.getElem?_replicate] at h2
        split at h2 <;> cases h2
    have ha : vs[i]? = some v := by
      unfold start at h2
      rw [List.getElem?_append_left (by simpa using hi), List.getElem?_map] at h2
      cases e : vs[i]? with
      | none => rw [e] at h2; cases h2
      | some a => rw [e] at h2; cases h2; rfl
    obtain ⟨u, hu, rv⟩ := r.get ha
    have hp : ps[i]? = some y := by
      rw [← S.pre, List.getElem?_take_of_lt (by omega)]; exact h1
    have ndP : ps.Nodup := by rw [← S.pre]; exact S.nd.sublist (List.take_sublist _ _)
    refine ⟨u, rv, ?_⟩
    rcases S.par y (List.mem_of_getElem? hp) with k | k
    · exact .inl ⟨k, bindL_get ndP hp hu k⟩
    · obtain ⟨c, e⟩ := cell_has (n := s.heap.objs.size + 1) k
      refine .inr ⟨.inl k, c, e, ?_⟩
      have q := x.cell y c e
      rw [bindC_get ndP hp hu (by show scope.names.lookup y ≠ _; rw [k]; decide)] at q
      exact q
  · exact e0.hok.fresh (Nat.le_of_lt (x.above y c (PySem.mem_of_lookup h)))
  · unfold start
    show _ = N.length
    rw [List.length_append, List.length_map, List.length_replicate]
    omega
theorem fn_of {CX : CXT} {P : Program} {w : World} {K : PySem.W.Frag} {mg : Str → Option Value} {base : Heap} {k : Nat} {f : Addr} {name qual : Str} {params : Arguments} {body : List Stmt} {scope : Scope} {dV kV doc pm cdv ct oc : Value} {an od : Option Addr}
    {osl : Array (Option Value)} {N ps : List Str} {sp : Sp} (lk : K.lookup f = some ⟨oc, od, .func (PySem.W.fnOf name qual params body scope dV kV doc pm an cdv ct), osl⟩) (hcd : PySem.W.codeIn K cdv qual = true) (S : FnScope N ps scope)
    (len : ∀ vs H Q E, sp vs H Q E → vs.length = ps.length)
    (hbody : ∀ (A : Around) (outer : List Env) (s : Shared) (H : Hp) (vs : List V) (Q : VK) (E : XK), Room k (A.deeper (envOfC qual scope s.heap.objs.size f cdv)) → sp vs H Q E →
      ∃ t, PSs (cxOf CX P w K mg base N qual scope f cdv A outer s H E) body t ∧ t { nx := fun _ H' => Q .non H', rt := Q } (start N vs) H) :
    FnOk P w K mg base CX (k + 1) f (PySem.W.fnOf name qual params body scope dV kV doc pm an cdv ct) ps sp := by
  refine ⟨len, fun A outer s H args us vs Q E hr e0 hb r hsp => ?_⟩
  have hl := len _ _ _ _ hsp
  have KX : K.In s.heap := e0.mod.kin.keeps fun b o e => (e0.bs b o e).1
  have lim : s.heap.NoLimit := e0.mod.nolimit.keeps fun b o e => (e0.bs b o e).1
  have hkind : ∀ y ∈ ps.zip us, scope.names.lookup y.1 = some .local ∨ (scope.names.lookup y.1 = some .cell ∧ ((cellsFrom (s.heap.objs.size + 1) scope.names []).lookup y.1).isSome = true) := fun ⟨n, v⟩ hy => by
    rcases S.par n (List.of_mem_zip hy).1 with q | q
    · exact .inl q
    · exact .inr ⟨q, PySem.W.cellsFrom_some _ _ _ (.inl q)⟩
  refine codeAny_call_function hr.depth (KX _ _ lk) rfl S.co S.gen rfl (PySem.W.codeRec_of KX hcd) (hb _ _ _ _ ?_)
  refine wpAny_newFunctionEnv_cells S.kind hkind fun env he s1 x => ?_
  subst he
  refine ⟨lim.keeps x.toInCall.keep, codeAny_func ?_⟩
  obtain ⟨t, ht, hq⟩ := hbody A outer s H vs Q E (hr.deeper _) hsp
  have I : Inv (cxOf CX P w K mg base N qual scope f cdv A outer s H E) [] (start N vs) H s1 := inv_start S hr.hd e0 hl r x
  refine wpAny_mono (ht [] s1 (start N vs) H _ I hq) (fun fl s' hs => ?_) fun e s' hs => hs
  have fin : ∀ {σ' : St} {H' : Hp} {v : V} {u : Value}, Inv (cxOf CX P w K mg base N qual scope f cdv A outer s H E) [] σ' H' s' → RelV v u → Q v H' → CE outer P w H s Q u s' :=
    fun {σ' H' v u} J rv q => ⟨v, H', J.os, J.bare, J.base, J.hok, rv, q⟩
  cases fl with
  | ret u =>
    obtain ⟨v, σ', H', J, rv, q⟩ := hs
    exact fin J rv q
  | next =>
    obtain ⟨σ', H', J, q⟩ := hs
    exact fin (v := V.non) (u := Value.none) J rfl q
  | brk =>
    obtain ⟨_, _, _, q⟩ := hs
    exact False.elim q
  | cont =>
    obtain ⟨_, _, _, q⟩ := hs
    exact False.elim q
end L2
namespace L2
open PySem PySem.Spec PyProof.Rows
section
variable {X : Cx} {x : Str} {p pos : Pos} {e : Expr} {es : List Expr} {t : TA} {id T : String} {r : List V → Hp → VK → Prop}
end
end L2
namespace HT
open PySem PyProof.Rows
section
open PySem.SeqAt
open PySem.AutoSeq1 (wpAny_loadPart')
open PySem.MeetsSeq PySem.MeetsSeq2 PySem.MeetsSeq3
end
section
variable {prog : Program} {w : World} {A : Around} {E : Value → Shared → Prop} {s : Shared}
theorem cat_tup {t b : Addr} {vs ws : List Value} {Q : Value → Shared → Prop} (ht : IsTup s.heap t vs.toArray) (hb : IsTup s.heap b ws.toArray) (hv : vs ≠ [])
    (h1 : ws = [] → Q (.ref t) s) (h2 : ws ≠ [] → Q (.ref s.heap.objs.size) { s with heap := s.heap.push { cls := .type "tuple", data := .seq (vs ++ ws).toArray } })
    (hsz : vs.length + ws.length ≤ sizeLine) : wpAny (model prog w) A (binaryOp .Add (.ref t) (.ref b)) Q E s := by
  obtain ⟨⟨cls, dd, data, sl⟩, ho, hc, n, hd⟩ := id ht
  obtain ⟨⟨cls2, dd2, data2, sl2⟩, ho2, hc2, n2, hd2⟩ := id hb
  simp only at hc hd hc2 hd2
  subst hc hd hc2 hd2
  have e : vs.toArray ++ ws.toArray = (vs ++ ws).toArray := by simp
  by_cases hw : ws = []
  · exact concat_meets ⟨_, ho, rfl⟩ ⟨_, ho2, rfl⟩ noFill_tuple_add seq_tuple_add PySem.F.slot_tuple_add PySem.F.entry_tuple_add (PySem.F.args_tuple_add_2 _ _)
      (tuple_addW1 t b vs.toArray ws.toArray n n2 dd dd2 sl sl2 (by simpa using hv) (by simp [hw])) ⟨ho, ho2, h1 hw⟩
  · refine concat_meets ⟨_, ho, rfl⟩ ⟨_, ho2, rfl⟩ noFill_tuple_add seq_tuple_add PySem.F.slot_tuple_add PySem.F.entry_tuple_add (PySem.F.args_tuple_add_2 _ _)
      (tuple_addW2 t b vs.toArray ws.toArray n n2 dd dd2 sl sl2 (by simpa using hv) (by simpa using hw) (by rw [List.size_toArray, List.size_toArray]; exact hsz)) ⟨ho, ho2, ?_⟩
    rw [e]
    exact h2 hw
def sIx (n d : Nat) : Option Int → Nat
  | none => d
  | some v => if v < 0 then (v + (n : Int)).toNat else min v.toNat n
theorem sIx_none (n d : Nat) : sIx n d none = d := rfl
theorem sIx_nat (n d k : Nat) : sIx n d (some (k : Int)) = min k n := by
  show (if (k : Int) < 0 then ((k : Int) + (n : Int)).toNat else min (k : Int).toNat n) = min k n
  rw [if_neg (by omega), Int.toNat_natCast]
theorem sIx_le (n d : Nat) (hd : d ≤ n) (o : Option Int) : sIx n d o ≤ n := by
  cases o with
  | none => exact hd
  | some v =>
    show (if v < 0 then (v + (n : Int)).toNat else min v.toNat n) ≤ n
    by_cases hv : v < 0
    · rw [if_pos hv]; omega
    · rw [if_neg hv]; exact Nat.min_le_right _ _
theorem clip_eq (v : Int) (n d : Nat) : (if v < 0 then max (v + (n : Int)) 0 else min v (n : Int)) = ((sIx n d (some v) : Nat) : Int) := by
  show (if v < 0 then max (v + (n : Int)) 0 else min v (n : Int)) = (((if v < 0 then (v + (n : Int)).toNat else min v.toNat n) : Nat) : Int)
  by_cases hv : v < 0
  · simp only [if_pos hv]; omega
  · simp only [if_neg hv]; omega
theorem adjust_gen (lo hi : Option Int) (n : Nat) : Builtin.Slice.sliceAdjust lo hi 1 (n : Int) = (((sIx n 0 lo : Nat) : Int), ((sIx n n hi : Nat) : Int)) := by
  have h1 : ¬ ((1 : Int) < 0) := by omega
  unfold Builtin.Slice.sliceAdjust
  simp only [h1, if_false]
  refine Prod.ext ?_ ?_
  · cases lo with
    | none => rfl
    | some v => exact clip_eq v n 0
  · cases hi with
    | none => rfl
    | some v => exact clip_eq v n n
theorem places_gen (i j : Nat) : Builtin.Slice.slicePlaces (i : Int) (j : Int) 1 = j - i := by
  unfold Builtin.Slice.slicePlaces
  have h1 : (1 : Int) > 0 := by omega
  simp only [h1, if_true, Int.ediv_one]
  split <;> omega
theorem slicePart_ {v : Value} {o : Option Int} {Q : Option Int → Shared → Prop} (p : IsPart v o) (h : Q o s) : wpAny (model prog w) A (Builtin.Slice.slicePartIndex v) Q E s := by
  cases p with
  | none => exact slicePart_none h
  | int i t => exact slicePart_int h
theorem sliceApplied_gen {sl : Addr} {vl vu : Value} {lo hi : Option Int} {n : Nat} {Q : Int × Int × Nat → Shared → Prop} (hs : s.heap.IsSliceOf sl vl vu .none) (pl : IsPart vl lo) (pu : IsPart vu hi)
    (h : Q (((sIx n 0 lo : Nat) : Int), 1, sIx n n hi - sIx n 0 lo) s) : wpAny (model prog w) A (Builtin.Slice.sliceApplied (.ref sl) (pure (n : Int))) Q E s := by
  obtain ⟨os, hos, hcs, hds⟩ := id hs
  unfold Builtin.Slice.sliceApplied Builtin.Slice.sliceFields
  refine wpAny_bind (wpAny_bind (wpAny_field hos hds (x := vl) rfl (wpAny_bind (wpAny_field hos hds (x := vu) rfl (wpAny_bind (wpAny_field hos hds (x := .none) rfl (wpAny_pure ?_)))))))
  refine wpAny_bind (slicePart_none ?_)
  show wpAny _ _ (if ((1 : Int) == 0) = true then _ else _) _ _ s
  rw [if_neg (by decide)]
  refine wpAny_bind (slicePart_ pl (wpAny_bind (slicePart_ pu (wpAny_bind (wpAny_pure ?_)))))
  show wpAny _ _ (match Builtin.Slice.sliceAdjust lo hi 1 (n : Int) with | (lo, hi) => pure (lo, (1 : Int), Builtin.Slice.slicePlaces lo hi 1)) _ _ s
  rw [adjust_gen lo hi n]
  show wpAny _ _ (pure (((sIx n 0 lo : Nat) : Int), (1 : Int), Builtin.Slice.slicePlaces ((sIx n 0 lo : Nat) : Int) ((sIx n n hi : Nat) : Int) 1)) _ _ s
  rw [places_gen]
  exact wpAny_pure h
theorem pick_gen (xs : Array Value) (i k : Nat) : ((List.range k).filterMap fun (m : Nat) => xs[((i : Int) + (m : Int) * 1).toNat]?).toArray = ((xs.toList.drop i).take k).toArray := by
  have e : (fun (m : Nat) => xs[((i : Int) + (m : Int) * 1).toNat]?) = fun m => xs[i + m]? := by
    funext m
    have : ((i : Int) + (m : Int) * 1).toNat = i + m := by omega
    rw [this]
  rw [e]
  have := pick_run xs i k
  rw [List.filterMap_map] at this
  have e2 : ((fun x => xs[x]?) ∘ fun x => i + x) = fun m => xs[i + m]? := rfl
  rw [e2] at this
  rw [this]
theorem getItem_tuple_cut {t sl : Addr} {items : Array Value} {vl vu : Value} {lo hi : Option Int} {Q : Value → Shared → Prop} (ht : IsTup s.heap t items) (hs : s.heap.IsSliceOf sl vl vu .none) (pl : IsPart vl lo) (pu : IsPart vu hi)
    (hw : ¬ (sIx items.size 0 lo = 0 ∧ sIx items.size items.size hi = items.size))
    (h : Q (.ref s.heap.objs.size) { s with heap := s.heap.push { cls := .type "tuple", data := .seq ((items.toList.drop (sIx items.size 0 lo)).take (sIx items.size items.size hi - sIx items.size 0 lo)).toArray } })
    (hsz : items.size ≤ sizeLine) : wpAny (model prog w) A (getItem (.ref t) (.ref sl)) Q E s := by
  have htake : sizeOk (.seq ((items.toList.drop (sIx items.size 0 lo)).take (sIx items.size items.size hi - sIx items.size 0 lo)).toArray) := by
    show ((items.toList.drop (sIx items.size 0 lo)).take (sIx items.size items.size hi - sIx items.size 0 lo)).toArray.size ≤ sizeLine
    rw [List.size_toArray, List.length_take, List.length_drop, Array.length_toList]
    omega
  have hj : sIx items.size items.size hi ≤ items.size := sIx_le _ _ (Nat.le_refl _) hi
  obtain ⟨os, hos, hcs, hds⟩ := id hs
  have hTs : s.TypeIs (.ref sl) "slice" := ⟨os, hos, hcs⟩
  unfold getItem
  try with_reducible refine wpAny_holding ?_
  first | refine wpAny_bind (wpAny_pure ?_) | skip
  refine wpAny_bind (wpAny_sequenceKey ht.typeIs (by decide) ?_)
  refine wpAny_bind (wpAny_callSpecial?_slot (name := Str.ofString "__getitem__") ht.typeIs PyProof.Rows.slot_tuple_getitem
    (wpAny_call_entry PyProof.Rows.slot_tuple_getitem ht.typeIs entry_tuple_getitem ?_ (args_tuple_getitem _ _)))
  show wpAny _ _ (Builtin.Tuple.tupleItemsOf (.ref t) >>= _) _ _ s
  refine wpAny_bind (tupleItemsOf_ ht ?_)
  refine wpAny_bind (wpAny_typeOf hTs ?_)
  rw [if_pos (by decide)]
  refine wpAny_bind (sliceApplied_gen hs pl pu ?_)
  have hno : ¬ ((((sIx items.size 0 lo : Nat) : Int) == 0 && (1 : Int) == 1 && (sIx items.size items.size hi - sIx items.size 0 lo) == items.size) = true) := by
    intro q
    rw [Bool.and_eq_true, Bool.and_eq_true] at q
    have q1 : ((sIx items.size 0 lo : Nat) : Int) = 0 := eq_of_beq q.1.1
    have q2 : sIx items.size items.size hi - sIx items.size 0 lo = items.size := eq_of_beq q.2
    exact hw ⟨by omega, by omega⟩
  show wpAny _ _ (if (((sIx items.size 0 lo : Nat) : Int) == 0 && (1 : Int) == 1 && (sIx items.size items.size hi - sIx items.size 0 lo) == items.size) = true then _ else _) _ _ s
  rw [if_neg hno, pick_gen]
  first
    | exact wpAny_bind (m := Builtin.Tuple.tupleExact _) (wpAny_newObj_type (wpAny_pure ⟨_, rfl, wpAny_pure h⟩) htake)
    | exact wpAny_bind (m := Builtin.Tuple.tupleExact _) (wpAny_newObj_type (wpAny_bind (wpAny_pure (wpAny_pure ⟨_, rfl, wpAny_pure h⟩))) htake)
    | exact wpAny_bind (wpAny_bind (m := Builtin.Tuple.tupleExact _) (wpAny_newObj_type (wpAny_pure (wpAny_pure ⟨_, rfl, wpAny_pure h⟩)) htake))
    | exact wpAny_bind (wpAny_bind (m := Builtin.Tuple.tupleExact _) (wpAny_newObj_type (wpAny_pure ⟨_, rfl, wpAny_pure h⟩) htake))
end
end HT
namespace L2
open PySem PySem.Spec PyProof.Rows
theorem intsAre_of {ns : List Int} : ∀ {us : List Value}, Vals (ns.map V.int) us → IntsAre us ns := by
  induction ns with
  | nil => intro us r; rw [List.map_nil] at r; cases r; exact .nil
  | cons n ns ih =>
    intro us r
    rw [List.map_cons] at r
    cases r with
    | cons r1 r2 =>
      obtain ⟨t, e⟩ := r1
      subst e
      exact .cons n t (ih r2)
section
variable {X : Cx} {e : Expr} {te : TE} {lo hi : Option Expr} {tl th : TO} {pos p2 : Pos}
def SlR (X : Cx) (r : V → Option Int → Option Int → Hp → VK → Prop) : Prop :=
  ∀ (pins : List (Addr × Obj)) (s : Shared) (σ : St) (H : Hp) (x : V) (v vl vu : Value) (lo hi : Option Int) (sl : Addr) (Q : VK), Inv X pins σ H s → RelV x v → s.heap.IsSliceOf sl vl vu .none → IsPart vl lo → IsPart vu hi → r x lo hi H Q →
    ∃ T id, typeLookup (.type T) "__getitem__" = pure (some (.builtin id)) ∧ s.TypeIs v T ∧ wpAny (model X.prog X.w) X.A (getItem v (.ref sl)) (EP X pins σ Q) X.xe s
theorem SlR.or {r r' : V → Option Int → Option Int → Hp → VK → Prop} (h : SlR X r) (h' : SlR X r') : SlR X (fun x lo hi H Q => r x lo hi H Q ∨ r' x lo hi H Q) := by
  intro pins s σ H x v vl vu lo hi sl Q I rx hs pl pu q
  rcases q with q | q
  · exact h pins s σ H x v vl vu lo hi sl Q I rx hs pl pu q
  · exact h' pins s σ H x v vl vu lo hi sl Q I rx hs pl pu q
def cutV (xs : List V) (lo hi : Option Int) : List V := (xs.drop (HT.sIx xs.length 0 lo)).take (HT.sIx xs.length xs.length hi - HT.sIx xs.length 0 lo)
theorem cutV_length (xs : List V) (lo hi : Option Int) : (cutV xs lo hi).length ≤ xs.length := by
  unfold cutV
  rw [List.length_take, List.length_drop]
  omega
theorem Vals.nil_iff {xs : List V} {us : List Value} (r : Vals xs us) : us = [] ↔ xs = [] := by
  cases r with
  | nil => simp
  | cons _ _ => simp
end
end L2
namespace L2
open PySem PySem.Spec PyProof.Rows
def ixN (n : Nat) (i : Int) : Option Nat := if 0 ≤ i then (if i < n then some i.toNat else none) else if -(n : Int) ≤ i then some (i + n).toNat else none
def atI {α : Type} (xs : List α) (i : Int) : Option α := (ixN xs.length i).bind fun j => xs[j]?
theorem ixN_seq {n : Nat} {i : Int} {j : Nat} (h : ixN n i = some j) : seqIndex? i n = some j ∧ j < n ∧ -(n : Int) ≤ i ∧ i < n := by
  unfold ixN at h
  by_cases h0 : 0 ≤ i
  · rw [if_pos h0] at h
    by_cases h1 : i < n
    · rw [if_pos h1] at h
      have e : i.toNat = j := Option.some.inj h
      exact ⟨by rw [seqIndex_of h0 h1, e], by omega, by omega, h1⟩
    · rw [if_neg h1] at h; cases h
  · rw [if_neg h0] at h
    by_cases h1 : -(n : Int) ≤ i
    · rw [if_pos h1] at h
      have e : (i + n).toNat = j := Option.some.inj h
      exact ⟨by rw [seqIndex_neg (by omega) h1, e], by omega, h1, by omega⟩
    · rw [if_neg h1] at h; cases h
theorem atI_get {α : Type} {xs : List α} {i : Int} {v : α} (h : atI xs i = some v) : ∃ j, seqIndex? i xs.length = some j ∧ xs[j]? = some v ∧ j < xs.length ∧ -(xs.length : Int) ≤ i ∧ i < xs.length := by
  unfold atI at h
  cases e : ixN xs.length i with
  | none => rw [e] at h; cases h
  | some j =>
    rw [e] at h
    obtain ⟨h1, h2, h3, h4⟩ := ixN_seq e
    exact ⟨j, h1, h, h2, h3, h4⟩
theorem atI_nat {α : Type} {xs : List α} {j : Nat} {v : α} (h : xs[j]? = some v) : atI xs (j : Int) = some v := by
  have hj : j < xs.length := (List.getElem?_eq_some_iff.mp h).1
  have e : ixN xs.length (j : Int) = some j := by
    unfold ixN
    rw [if_pos (by omega), if_pos (by omega)]; simp
  unfold atI; rw [e]; exact h
def PlainIx (b : Expr) : Prop := ∀ o i, subscripted b false o i = operate [o, i] (getItem o i)
def IxR (X : Cx) (r : R2) : Prop :=
  ∀ (value slice : Expr) (pins : List (Addr × Obj)) (s : Shared) (σ : St) (H : Hp) (x y : V) (v u : Value) (Q : VK), Inv X pins σ H s → RelV x v → RelV y u → r x y H Q →
    subscripted slice false v u = operate [v, u] (getItem v u) → wpAny (model X.prog X.w) X.A (subscriptTail value slice v u) (EP X pins σ Q) X.xe s
def MtR (X : Cx) (id : String) (r : V → List V → Hp → VK → Prop) : Prop :=
  ∀ (pins : List (Addr × Obj)) (s : Shared) (σ : St) (H : Hp) (x : V) (xs : List V) (v : Value) (us : List Value) (Q : VK), Inv X pins σ H s → RelV x v → Vals xs us → r x xs H Q →
    wpAny (model X.prog X.w) X.A (call (.builtin id) (v :: us)) (EP X pins σ Q) X.xe s
section
variable {X : Cx} {a b : Expr} {ta tb : TE} {pos : Pos}
theorem IxR.or {r r' : R2} (h : IxR X r) (h' : IxR X r') : IxR X (fun x y H Q => r x y H Q ∨ r' x y H Q) := by
  intro value slice pins s σ H x y v u Q I rx ry q hs
  rcases q with q | q
  · exact h value slice pins s σ H x y v u Q I rx ry q hs
  · exact h' value slice pins s σ H x y v u Q I rx ry q hs
theorem MtR.or {id : String} {r r' : V → List V → Hp → VK → Prop} (h : MtR X id r) (h' : MtR X id r') : MtR X id (fun x xs H Q => r x xs H Q ∨ r' x xs H Q) := by
  intro pins s σ H x xs v us Q I rx rs q
  rcases q with q | q
  · exact h pins s σ H x xs v us Q I rx rs q
  · exact h' pins s σ H x xs v us Q I rx rs q
def rIxL (K : PySem.W.Frag) : R2 := fun x y H Q => ∃ p xs i v, x = .ref p ∧ y = .int i ∧ SqL K H p xs ∧ atI xs i = some v ∧ Q v H
def rIxT (K : PySem.W.Frag) : R2 := fun x y H Q => ∃ p xs i v, x = .ref p ∧ y = .int i ∧ SqT K H p xs ∧ atI xs i = some v ∧ Q v H
theorem ix_list : IxR X (rIxL X.K) := by
  intro value slice pins s σ H x y v u Q I rx ry h hs
  obtain ⟨p, xs, i, z, rfl, rfl, hq, he, q⟩ := h
  cases rx
  obtain ⟨t, rfl⟩ := ry
  obtain ⟨its, r, pl, hz⟩ := I.list hq
  obtain ⟨j, h1, h2, h3, h4, h5⟩ := atI_get he
  obtain ⟨w, ew, rw'⟩ := r.get h2
  have hl := r.length
  have hn := line63
  have fin : EP X pins σ Q w s := ⟨z, H, I, rw', q⟩
  by_cases h0 : 0 ≤ i
  · have hj : i.toNat = j := by
      rw [seqIndex_of h0 h5] at h1
      exact Option.some.inj h1
    exact item_listR pl.isList h0 (by omega) (by rw [hj]; simpa using ew) fin hs
  · have hj : (i + (its.toArray.size : Int)).toNat = j := by
      rw [seqIndex_neg (by omega) h4] at h1
      rw [List.size_toArray, ← hl]
      exact Option.some.inj h1
    exact subscriptTail_builtinR (x := w) pl.isList.typeIs slot_list_getitem.lookup
      (wpAny_getItem_list_neg (Q := fun r s' => r = w ∧ EP X pins σ Q r s') pl.isList (by omega) (by rw [List.size_toArray] <;> omega) (by omega) (by rw [hj]; simpa using ew) ⟨rfl, fin⟩) hs
theorem ix_tup : IxR X (rIxT X.K) := by
  intro value slice pins s σ H x y v u Q I rx ry h hs
  obtain ⟨p, xs, i, z, rfl, rfl, hq, he, q⟩ := h
  cases rx
  obtain ⟨t, rfl⟩ := ry
  obtain ⟨its, r, pl, hz⟩ := I.tuple hq
  obtain ⟨j, h1, h2, h3, h4, h5⟩ := atI_get he
  obtain ⟨w, ew, rw'⟩ := r.get h2
  have hl := r.length
  have hn := line63
  have fin : EP X pins σ Q w s := ⟨z, H, I, rw', q⟩
  exact subscriptTail_builtinR (x := w) pl.typeIs slot_tuple_getitem.lookup
    (getItem_tuple (j := j) (Q := fun r s' => r = w ∧ EP X pins σ Q r s') pl (by omega) (by omega) (by rw [List.size_toArray, ← hl]; exact h1) (by simpa using ew) ⟨rfl, fin⟩) hs
theorem Inv.lst {pins : List (Addr × Obj)} {σ : St} {H : Hp} {s : Shared} {p : Addr} {xs : List V} (I : Inv X pins σ H s) (h : H p = some (.lst xs)) :
    ∃ (its : List Value) (n : Nat), Vals xs its ∧ s.heap.get? p = some { cls := .type "list", data := .seq its.toArray n } ∧ xs.length ≤ sizeLine := by
  obtain ⟨z, its, n, r, e⟩ := I.hok p _ h
  exact ⟨its, n, r, e, z⟩
theorem slice_bounds (lo hi : Option Int) (n : Nat) : (sliceBounds lo hi none n).1 = ((HT.sIx n 0 lo : Nat) : Int) ∧ (sliceBounds lo hi none n).2.1 = ((HT.sIx n n hi : Nat) : Int) ∧ (sliceBounds lo hi none n).2.2 = 1 := by
  refine ⟨?_, ?_, rfl⟩
  · cases lo with
    | none => simp [sliceBounds, HT.sIx]
    | some i =>
      simp only [sliceBounds, HT.sIx, Option.getD_none, show (1 : Int) > 0 by decide, if_true]
      by_cases h : i < 0
      · simp only [h, if_true] <;> omega
      · simp only [h, if_false] <;> omega
  · cases hi with
    | none => simp [sliceBounds, HT.sIx]
    | some i =>
      simp only [sliceBounds, HT.sIx, Option.getD_none, show (1 : Int) > 0 by decide, if_true]
      by_cases h : i < 0
      · simp only [h, if_true] <;> omega
      · simp only [h, if_false] <;> omega
theorem slicePick_cut (its : List Value) (lo hi : Option Int) : slicePick its.toArray lo hi none = ((its.drop (HT.sIx its.length 0 lo)).take (HT.sIx its.length its.length hi - HT.sIx its.length 0 lo)).toArray := by
  obtain ⟨h1, h2, h3⟩ := slice_bounds lo hi its.toArray.size
  unfold slicePick
  rw [h1, h2, h3]
  simp only [sliceRange_one, pick_run, List.size_toArray] <;> rfl
def rSlL (K : PySem.W.Frag) : V → Option Int → Option Int → Hp → VK → Prop := fun x lo hi H Q => ∃ a xs, x = .ref a ∧ SqL K H a xs ∧ ∀ p, H p = none → Q (.ref p) (upd H p (.lst (cutV xs lo hi)))
theorem sl_list : SlR X (rSlL X.K) := by
  intro pins s σ H x v vl vu lo hi sl Q I rx hs pl pu h
  obtain ⟨a, xs, rfl, hx, q⟩ := h
  cases rx
  obtain ⟨its, r, ht, hz⟩ := I.list hx
  have hlen := r.length
  refine ⟨"list", _, slot_list_getitem.lookup, ht.isList.typeIs, ?_⟩
  refine wpAny_getItem_list_slice ht.isList hs pl pu .none (by simp) ?_ (by rw [List.size_toArray] <;> omega)
  rw [slicePick_cut, ← hlen]
  refine ⟨.ref s.heap.objs.size, _, I.laid (t' := s.toks) (o := .lst (cutV xs lo hi)) (fun b ob q => Heap.get?_push_of_some _ q) (Nat.le_refl _) ?_, rfl, q _ (I.hok.fresh (Nat.le_refl _))⟩
  exact ⟨Nat.le_trans (cutV_length xs lo hi) hz, _, 0, (r.drop (HT.sIx xs.length 0 lo)).take (HT.sIx xs.length xs.length hi - HT.sIx xs.length 0 lo), Heap.get?_push_size _ rfl⟩
theorem call_len_seq : CallR X (.builtin "len") (fun xs H Q => ∃ p ys, xs = [.ref p] ∧ (SqL X.K H p ys ∨ SqT X.K H p ys) ∧ Q (.int ys.length) H) := by
  intro pins s σ H xs us Q I r h
  obtain ⟨p, ys, rfl, hq, q⟩ := h
  obtain ⟨u, rfl, rx⟩ := vals1 r
  cases rx
  have hn := line63
  rcases hq with hq | hq
  · obtain ⟨its, r', pl, hz⟩ := I.list hq
    have hlen := r'.length
    exact Calls.call_len_list pl.isList (by simp only [List.size_toArray] <;> omega) ⟨.int ys.length, H, I.tok _, ⟨s.toks + 1, by rw [List.size_toArray, hlen]⟩, q⟩
  · obtain ⟨its, r', pl, hz⟩ := I.tuple hq
    have hlen := r'.length
    exact len_tuple pl (by simp only [List.size_toArray] <;> omega) ⟨.int ys.length, H, I.tok _, ⟨s.toks + 1, by rw [List.size_toArray, hlen]⟩, q⟩
theorem CallR.or {f : Value} {r r' : List V → Hp → VK → Prop} (h : CallR X f r) (h' : CallR X f r') : CallR X f (fun xs H Q => r xs H Q ∨ r' xs H Q) := by
  intro pins s σ H xs us Q I rs q
  rcases q with q | q
  · exact h pins s σ H xs us Q I rs q
  · exact h' pins s σ H xs us Q I rs q
theorem call_tuple_of : CallR X (.type "tuple") (fun xs H Q => ∃ p ys, xs = [.ref p] ∧ ((SqL X.K H p ys ∧ ∀ l, H l = none → Q (.ref l) (upd H l (.tup ys))) ∨ (SqT X.K H p ys ∧ Q (.ref p) H))) := by
  intro pins s σ H xs us Q I r h
  obtain ⟨p, ys, rfl, h⟩ := h
  obtain ⟨u, rfl, rx⟩ := vals1 r
  cases rx
  rcases h with ⟨hq, q⟩ | ⟨hq, q⟩
  · obtain ⟨its, r', pl, hz⟩ := I.list hq
    have hlen := r'.length
    refine call_tuple_list pl.isList (fun h' kp => ?_) (by simp only [List.size_toArray] <;> omega)
    have I1 : Inv X pins σ H { s with heap := h' } := I.kept (t' := s.toks) kp
    have I2 : Inv X pins σ (upd H h'.objs.size (.tup ys)) { s with heap := h'.push { cls := .type "tuple", data := .seq its.toArray } } :=
      I1.laid (t' := s.toks) (fun b o e => Heap.get?_push_of_some _ e) (Nat.le_refl _) (show ObjOk X.prog X.w _ _ _ (.tup ys) from ⟨hz, its, r', IsTup.new _ _⟩)
    exact ⟨.ref h'.objs.size, _, I2, rfl, q _ (I1.hok.fresh (Nat.le_refl _))⟩
  · obtain ⟨its, r', pl, hz⟩ := I.tuple hq
    exact call_tuple_same pl ⟨.ref p, H, I, rfl, q⟩
def tyV (K : PySem.W.Frag) (T : String) (x : V) (H : Hp) : Prop := match x with
  | .str _ => T = "str"
  | .int _ => T = "int"
  | .ref p => (T = "list" ∧ ∃ xs, SqL K H p xs) ∨ (T = "tuple" ∧ ∃ o, K.lookup p = some o ∧ o.cls = .type "tuple" ∧ o.dict = none) ∨
      (T = "dict" ∧ ((∃ kvs, H p = some (.dK kvs)) ∨ ∃ kvs, H p = some (.dT kvs))) ∨ (T = "set" ∧ ∃ S n, H p = some (.set S n))
  | _ => False
theorem tyV_is {pins : List (Addr × Obj)} {σ : St} {H : Hp} {s : Shared} {T : String} {x : V} {v : Value} (I : Inv X pins σ H s) (r : RelV x v) (ty : tyV X.K T x H) :
    s.TypeIs v T ∧ ∀ a, v = .ref a → ∃ ob, s.heap.get? a = some ob ∧ ob.dict = none := by
  cases x with
  | str z =>
    obtain ⟨t, rfl⟩ := r
    cases (show T = "str" from ty)
    exact ⟨typeIs_str s z t, fun _ e => nomatch e⟩
  | int i =>
    obtain ⟨t, rfl⟩ := r
    cases (show T = "int" from ty)
    exact ⟨typeIs_int s i t, fun _ e => nomatch e⟩
  | ref p =>
    cases r
    rcases ty with ⟨rfl, xs, hq⟩ | ⟨rfl, o, hk, hc, hd⟩ | ⟨rfl, hk⟩ | ⟨rfl, S, n, hk⟩
    · obtain ⟨its, _, pl, _⟩ := I.list hq
      refine ⟨pl.isList.typeIs, fun a e => ?_⟩
      cases e
      obtain ⟨o, n, e, c, hd, _⟩ := pl
      exact ⟨o, e, hd⟩
    · refine ⟨⟨o, I.kIn p o hk, hc⟩, fun a e => ?_⟩
      cases e
      exact ⟨o, I.kIn _ o hk, hd⟩
    · have z : ∃ o, s.heap.get? p = some o ∧ o.ExactDict := by
        rcases hk with ⟨kvs, hk⟩ | ⟨kvs, hk⟩
        · obtain ⟨_, _, _, _, o, _, _, e, ex, _⟩ := I.hok p _ hk
          exact ⟨o, e, ex⟩
        · obtain ⟨_, _, _, _, o, _, _, e, ex, _⟩ := I.hok p _ hk
          exact ⟨o, e, ex⟩
      obtain ⟨o, e, ex⟩ := z
      refine ⟨⟨o, e, ex.1⟩, fun a e2 => ?_⟩
      cases e2
      exact ⟨o, e, ex.2.1⟩
    · obtain ⟨o, _, _, _, e, ex, _⟩ := I.hok p _ hk
      refine ⟨⟨o, e, ex.1⟩, fun a e2 => ?_⟩
      cases e2
      exact ⟨o, e, ex.2.1⟩
  | _ => exact False.elim ty
variable {o e : Expr} {es : List Expr} {to : TE} {t : TA} {name : Str} {apos cpos : Pos} {T id : String} {r : V → List V → Hp → VK → Prop}
end
end L2
namespace L2
open PySem PySem.Spec PyProof.Rows
def MtM (X : Cx) (id : String) (r : V → List V → Hp → VK → Prop) : Prop :=
  ∀ (pins : List (Addr × Obj)) (s : Shared) (σ : St) (H : Hp) (x : V) (xs : List V) (v : Value) (us : List Value) (Q : VK), Inv X pins σ H s → RelV x v → Vals xs us → r x xs H Q →
    wpAny (model X.prog X.w) X.A (call (.builtin id) (v :: us)) (EP X pins σ Q) X.xe s
theorem Vals.one : ∀ {x : V} {us : List Value}, Vals [x] us → ∃ u, us = [u] ∧ RelV x u
  | _, _, .cons r .nil => ⟨_, rfl, r⟩
theorem Vals.two : ∀ {x y : V} {us : List Value}, Vals [x, y] us → ∃ u v, us = [u, v] ∧ RelV x u ∧ RelV y v
  | _, _, _, .cons r (.cons q .nil) => ⟨_, _, rfl, r, q⟩
theorem Vals.zero : ∀ {us : List Value}, Vals [] us → us = []
  | _, .nil => rfl
theorem Vals.rep {xs : List V} {us : List Value} (h : Vals xs us) : ∀ k : Nat, Vals (List.replicate k xs).flatten (List.replicate k us).flatten
  | 0 => .nil
  | k + 1 => by
    rw [List.replicate_succ, List.replicate_succ, List.flatten_cons, List.flatten_cons]
    exact Vals.append h (Vals.rep h k)
theorem foldl_rep (its : List Value) : ∀ (k : Nat) (acc : List Value),
    List.foldl (fun x1 x2 => x1 ++ x2) acc.toArray (List.replicate k its.toArray) = (acc ++ (List.replicate k its).flatten).toArray
  | 0, acc => by simp
  | k + 1, acc => by
    have e : acc.toArray ++ its.toArray = (acc ++ its).toArray := by simp
    have e2 : (acc ++ its) ++ (List.replicate k its).flatten = acc ++ (List.replicate (k + 1) its).flatten := by
      rw [List.replicate_succ, List.flatten_cons, List.append_assoc]
    rw [← e2, ← foldl_rep its k (acc ++ its), ← e, List.replicate_succ, List.foldl_cons]
section
variable {X : Cx} {pins : List (Addr × Obj)} {σ : St} {H : Hp} {s : Shared} {l b : Addr} {xs ys zs : List V}
theorem Inv.lset {its its' : List Value} {n : Nat} {f : Array Value → Array Value} {t' : Nat} (I : Inv X pins σ H s) (hH : H l = some (.lst xs))
    (e : s.heap.get? l = some { cls := .type "list", data := .seq its.toArray n }) (hf : f its.toArray = its'.toArray) (hv : Vals ys its') (hz : ys.length ≤ sizeLine) :
    Inv X pins σ (upd H l (.lst ys)) { s with heap := s.heap.update l (Obj.mapSeq f), toks := t' } := by
  have q := PySem.IsL.update e f
  rw [hf] at q
  refine I.write (x := l) (e := l) (by rw [hH]; exact trivial) (.inl rfl) (fun b' u hb hu => (Heap.get?_update_other s.heap (Obj.mapSeq f) (Ne.symm hb)).trans hu) ⟨_, q⟩ ?_
  exact ⟨hz, its', _, hv, q⟩
theorem Inv.lnew {its : List Value} {t' : Nat} (I : Inv X pins σ H s) (hv : Vals ys its) (hz : ys.length ≤ sizeLine) :
    Inv X pins σ (upd H s.heap.objs.size (.lst ys)) { s with heap := s.heap.push { cls := .type "list", data := .seq its.toArray }, toks := t' } :=
  I.laid (fun _ _ q => Heap.get?_push_of_some _ q) (Nat.le_refl _) ⟨hz, its, 0, hv, Heap.get?_push_size _ rfl⟩
theorem Inv.fresh (I : Inv X pins σ H s) : H s.heap.objs.size = none := I.hok.fresh (Nat.le_refl _)
theorem Inv.lstM (I : Inv X pins σ H s) (hH : H l = some (.lst xs)) : xs.length ≤ sizeLine ∧ ∃ (its : List Value) (n : Nat), Vals xs its ∧ xs.length = its.length ∧ s.heap.get? l = some { cls := .type "list", data := .seq its.toArray n } := by
  obtain ⟨z, its, n, r, e⟩ := I.hok l _ hH
  exact ⟨z, its, n, r, r.length, e⟩
theorem notLongL {n : Nat} (h : n ≤ sizeLine) : Builtin.List.listTooLong n = false := by
  unfold Builtin.List.listTooLong
  exact decide_eq_false (by omega)
end
section
variable {X : Cx}
def rAppend : V → List V → Hp → VK → Prop := fun x vs H Q => ∃ l xs y, x = .ref l ∧ vs = [y] ∧ H l = some (.lst xs) ∧ xs.length < sizeLine ∧ Q .non (upd H l (.lst (xs ++ [y])))
theorem mt_append : MtM X "list.append" rAppend := by
  intro pins s σ H x vs v us Q I rx rv h
  obtain ⟨l, xs, y, rfl, rfl, hH, hz, q⟩ := h
  cases rx
  obtain ⟨u, rfl, ru⟩ := rv.one
  obtain ⟨z, its, n, r, hl, e⟩ := I.lstM hH
  refine call_meets F.slot_list_append ⟨_, e, rfl⟩ F.entry_list_append (F.args_list_append_2 _ _) (PySem.list_append l its.toArray n u (by rw [List.size_toArray]; omega)) ⟨e, ?_⟩
  refine ⟨.non, _, I.lset (its' := its ++ [u]) hH e (by simp) (r.append (.cons ru .nil)) ?_, rfl, q⟩
  rw [List.length_append, List.length_singleton]
  omega
def rCat : R2 := fun x y H Q => ∃ l b xs zs, x = .ref l ∧ y = .ref b ∧ H l = some (.lst xs) ∧ H b = some (.lst zs) ∧ xs.length + zs.length ≤ sizeLine ∧ ∀ p, H p = none → Q (.ref p) (upd H p (.lst (xs ++ zs)))
theorem op_cat : OpR X (binaryOp .Add) rCat := by
  intro pins s σ H x y v u Q I rx ry h
  obtain ⟨l, b, xs, zs, rfl, rfl, hH, hB, hz, q⟩ := h
  cases rx
  cases ry
  obtain ⟨z, its, n, r, hl, e⟩ := I.lstM hH
  obtain ⟨z2, its2, n2, r2, hl2, e2⟩ := I.lstM hB
  refine PySem.P.add_list e e2 ?_ (by rw [List.size_toArray, List.size_toArray]; omega)
  have ea : its.toArray ++ its2.toArray = (its ++ its2).toArray := by simp
  rw [ea]
  exact ⟨.ref _, _, I.lnew (t' := s.toks) (r.append r2) (by rw [List.length_append]; omega), rfl, q _ I.fresh⟩
def rRep : R2 := fun x y H Q => ∃ l k xs, x = .ref l ∧ y = .int k ∧ H l = some (.lst xs) ∧ -(2 ^ 63) ≤ k ∧ k < 2 ^ 63 ∧ xs.length * k.toNat ≤ sizeLine ∧
  ∀ p, H p = none → Q (.ref p) (upd H p (.lst (List.replicate k.toNat xs).flatten))
theorem len_rep {α : Type} (xs : List α) (k : Nat) : (List.replicate k xs).flatten.length = k * xs.length := by
  induction k with
  | zero => simp
  | succ k ih => rw [List.replicate_succ, List.flatten_cons, List.length_append, ih, Nat.succ_mul, Nat.add_comm]
theorem op_rep : OpR X (binaryOp .Mult) rRep := by
  intro pins s σ H x y v u Q I rx ry h
  obtain ⟨l, k, xs, rfl, rfl, hH, h1, h2, hz, q⟩ := h
  cases rx
  obtain ⟨t, rfl⟩ := ry
  obtain ⟨z, its, n, r, hl, e⟩ := I.lstM hH
  have hlen : its.toArray.size * k.toNat ≤ sizeLine := by rw [List.size_toArray, ← hl]; exact hz
  have hcap : ¬ its.toArray.size * k.toNat > (2 ^ 63 - 1) / 8 := by
    have : (sizeLine : Nat) ≤ (2 ^ 63 - 1) / 8 := by decide
    omega
  have hfit : ¬ (!Builtin.List.listFitsIndex k) = true := by
    rw [fitsIndex_both h1 h2]
    exact Bool.false_ne_true
  have hlong : ¬ Builtin.List.listTooLong (its.toArray.size * k.toNat) = true := by
    rw [notLongL hlen]
    exact Bool.false_ne_true
  have hnew : List.foldl (fun x1 x2 => x1 ++ x2) #[] (List.replicate (if its.toArray.isEmpty = true then 0 else k.toNat) its.toArray) = (List.replicate k.toNat its).flatten.toArray := by
    have f0 : ∀ m : Nat, List.foldl (fun x1 x2 => x1 ++ x2) #[] (List.replicate m its.toArray) = (List.replicate m its).flatten.toArray := fun m => by
      have := foldl_rep its m []
      rw [List.nil_append] at this
      exact this
    rw [f0]
    cases its with
    | nil => simp
    | cons a r' => rw [if_neg (by simp)]
  refine wpAny_binaryOp_repeat_ref (T := "list") (U := "int") (by decide) ⟨_, e, rfl⟩ (fun s' => typeIs_int s' k t) noFill_list_mul F.fills_int_mul F.slot_int_rmul repeat_list F.slot_int_index.lookup
    (call_meets F.slot_int_rmul (typeIs_int s k t) F.entry_int_rmul (F.args_int_rmul_2 _ _) (int___rmul___int_list k t l its.toArray n)
      ⟨e, rfl, ⟨_, e, rfl⟩, call_meets F.slot_list_mul ⟨_, e, rfl⟩ F.entry_list_mul (F.args_list_mul_2 _ _) (AutoListH.list___mul___list_int_3 l its.toArray n k t hfit hcap hlong) ⟨e, ?_⟩⟩)
  rw [hnew]
  exact ⟨.ref _, _, I.lnew (t' := s.toks) (r.rep k.toNat) (by rw [len_rep, Nat.mul_comm]; exact hz), rfl, q _ I.fresh⟩
end
section
variable {prog : Program} {w : World} {A : Around} {E : Value → Shared → Prop} {s : Shared}
end
section
variable {X : Cx}
end
end L2
namespace Att
open PySem PySem.W PySem.Calls PyProof.Rows
theorem ints_of_wellAll {P : Params} {h : Heap} : ∀ (ns : List Int) (vs : List Value), WellAll P h vs (ns.map WData.int) → IntsAre vs ns := by
  intro ns
  induction ns with
  | nil =>
    intro vs w
    rw [List.map_nil] at w
    cases w
    exact .nil
  | cons n ns ih =>
    intro vs w
    rw [List.map_cons] at w
    cases w with
    | cons a b =>
      cases a
      exact .cons _ _ (ih _ b)
theorem script_of {l : OpenLaw} {n : Nat} (hn : l.most = some n) {P : Params} {h : Heap} {args : List WData} {vals : List Value}
    (hpre : l.row.toRowW.claim.pre args = true) (hwl : WellAll P h vals args) :
    ∃ a vs ns, vals = [Value.ref a] ∧ args = [WData.list (ns.map WData.int)] ∧ h.get? a = some { cls := .type "list", data := .seq vs.toArray } ∧ IntsAre vs ns ∧ ns.length ≤ n := by
  have hsh : WShape.hasAll [] args [.list .int] = true := (pre_splitW hpre).1
  have hc : l.pre.holds [] { args := args } = true := (pre_splitW hpre).2
  obtain ⟨d, r, rfl, h1, h2⟩ := hasAllW_cons hsh
  obtain rfl := hasAllW_nil h2
  obtain ⟨xs, rfl, h3⟩ := hasW_list h1
  obtain ⟨ns, rfl⟩ := items_int h3
  have hlen : ns.length ≤ n := by
    unfold OpenLaw.pre at hc
    have h4 : (WTm.not (.lt (.lit (.int (n : Int))) (.len (.arg 0)))).holds [] { args := [.list (ns.map .int)] } = true := by
      have h4 := (holds_andW hc).1
      rw [hn] at h4
      exact h4
    have h5 := condW_of h4 (w_not (w_lt w_lit (w_len_list (w_arg rfl))))
    rw [List.length_map] at h5
    refine Nat.le_of_not_lt fun q => ?_
    have q' : (n : Int) < ((ns.length : Nat) : Int) := by omega
    first
      | (rw [decide_eq_true q'] at h5; exact absurd h5 (by decide))
      | (simp at h5; omega)
  cases hwl with
  | cons w1 w2 =>
    cases w2
    cases w1 with
    | list ho hall => exact ⟨_, _, ns, rfl, rfl, ho, ints_of_wellAll ns _ hall, hlen⟩
theorem post_true (l : OpenLaw) (args : List WData) : l.row.toRowW.claim.post args (.bool true) args = true :=
  postW_of (r := l.row.toRowW) (X := (true == true))
    (show WShape.has [] (.bool true) .bool = true by first | rfl | decide | simp [WShape.has, WShape.arms, WShape.armsAll])
    (show (WTm.eq .res (.lit (.bool true))).value [] { args := args, res := some (.bool true), after := args } = some (.bool (true == true)) from w_eq_bool (w_res rfl) w_lit) rfl
theorem attach_call {l : OpenLaw} {n : Nat} {q : Program} {loose : List Str} {XP : (Str → Option Value) → Heap → Prop} {YP : World → Heap → Prop} {d : DefRec}
    (hn : l.most = some n) (hdf : d.params.defaults = [])
    (call : ∀ (w : World) (s₀ s₁ : Shared) (mg mb : Str → Option Value) (fa : Addr) (o : Obj) (pm cd doc : Value) (a : Addr) (vs : List Value) (ns : List Int),
      Ground q loose [] XP w s₀ mg mb s₁.heap → YP w s₁.heap →
      s₁.heap.get? fa = some o → o.data = .func (docDef d.name d.params d.body d.scope pm cd doc) → s₁.heap.CodeRec cd d.name → mg d.name = some (.ref fa) →
      s₁.heap.get? a = some { cls := .type "list", data := .seq vs.toArray } → IntsAre vs ns → ns.length ≤ n → s₁.gens = #[] →
      codeAny (model l.prog w) callerA (.call (.ref fa) ⟨[.ref a], []⟩) (fun r s' => r = .ok (.ret (.bool true)) ∧ OldK s₁.heap s'.heap ∧ s'.os = s₁.os ∧ AllBare s'.gens) s₁) :
    WalkO q loose XP YP l.row.toRowW d [] (fun f vs => PySem.call f vs) := by
  intro w s₀ s₁ mg mb G Y fa o pm cd doc dV kV ho hd hcd hD hmg hg args vals as hpre hlay hrd hwl hlo
  obtain rfl : dV = .none := Dflts.none hD hdf
  obtain rfl : kV = .none := Dflts.noKw hD
  obtain ⟨a, vs, ns, rfl, rfl, hobj, hints, hlen⟩ := script_of hn hpre hwl
  refine enter_call (codeAny_mono (call w s₀ s₁ mg mb fa o pm cd doc a vs ns G Y ho (fd_plain hd) hcd hmg hobj hints hlen hg) fun r s' hq => ?_)
  obtain ⟨rfl, h2, h3, h4⟩ := hq
  exact ⟨.inl ⟨.bool true, .bool true, [], rfl, fun _ => rfl, .bool true, post_true l _, fun _ => ⟨List.Pairwise.nil, fun _ hm => (nomatch hm)⟩⟩, h2, h3, h4⟩
section
variable {prog : Program} {w : World} {A : Around} {E : Value → Shared → Prop} {s : Shared} {K : Frag}
end
end Att
namespace L2
open PySem PySem.Spec PyProof.Rows
theorem vals_ints : ∀ {vs : List Value} {ns : List Int}, IntsAre vs ns → Vals (ns.map V.int) vs
  | _, _, .nil => .nil
  | _, _, .cons n t h => .cons ⟨t, rfl⟩ (vals_ints h)
def Only (H : Hp) : Prop := ∀ b, H b = none ∨ ∃ o xs, H b = some (.frz o (.lst xs))
theorem law_call {P : Program} {w : World} {K : PySem.W.Frag} {mg mb : Str → Option Value} {CX : CXT} {k : Nat} {fa a : Addr} {fd : FuncData} {x : Str} {sp : Sp} {s₁ : Shared} {vs : List Value} {ns : List Int}
    (KX : K.In s₁.heap) (hns : s₁.heap.Ns mainGlobals mg) (hb : s₁.heap.Ns builtinsNs mb) (hbb : ∀ x : Str, x ≠ "__name__" → mb x = bootBuiltins x) (hlim : s₁.heap.NoLimit) (hg : s₁.gens = #[])
    (ha : s₁.heap.get? a = some { cls := .type "list", data := .seq vs.toArray }) (hi : IntsAre vs ns) (hl : ns.length ≤ sizeLine) (hr : Room k callerA)
    (F : ∀ base : Heap, K.In base → base.Ns mainGlobals mg → FnOk P w K mg base CX k fa fd [x] sp) (hbind : ∀ (s : Shared) (u : Value), BindsTo s fd ⟨[u], []⟩ [(x, u)])
    (hsp : ∀ H : Hp, Only H → SqL K H a (ns.map V.int) → sp [.ref a] H (fun v _ => v = .bl true) fun _ _ _ => False)
    (hCX : ∀ H e s', CX [] H s₁ (fun _ _ _ => False) e s' → False) :
    codeAny (model P w) callerA (.call (.ref fa) ⟨[.ref a], []⟩) (fun r s' => r = .ok (.ret (.bool true)) ∧ OldK s₁.heap s'.heap ∧ s'.os = s₁.os ∧ AllBare s'.gens) s₁ := by
  have rv := vals_ints hi
  have lenV := hi.length
  have core : ∀ H : Hp, Only H → SqL K H a (ns.map V.int) → HOk P w H s₁.heap → (∀ b, H b ≠ none → b = a) → (H a ≠ none → K.lookup a = none) →
      codeAny (model P w) callerA (.call (.ref fa) ⟨[.ref a], []⟩) (fun r s' => r = .ok (.ret (.bool true)) ∧ OldK s₁.heap s'.heap ∧ s'.os = s₁.os ∧ AllBare s'.gens) s₁ := by
    intro H hO hS hok hA hK
    have base_of : ∀ {b : Addr} {o : Obj}, s₁.heap.get? b = some o → H b = none → (hidT s₁.heap H).get? b = some o := fun e n => hidT_get e n
    have noA : ∀ {b : Addr} {o : Obj} {es : Array DictEntry} {ep : Nat}, s₁.heap.get? b = some o → o.data = .dict es ep → H b = none := fun {b o es ep} e d => by
      cases q : H b with
      | none => rfl
      | some u =>
        have e' : b = a := hA b (by rw [q]; simp)
        subst e'
        rw [ha] at e; cases e
        have d' : Data.seq vs.toArray _ = Data.dict es ep := d
        cases d'
    have nsK : ∀ {b : Addr} {m : Str → Option Value}, s₁.heap.Ns b m → (hidT s₁.heap H).Ns b m := fun {b m} ⟨o, es, ep, e, d, r⟩ => ⟨o, es, ep, base_of e (noA e d), d, r⟩
    have hKb : K.In (hidT s₁.heap H) := fun b o e => base_of (KX b o e) (by
      cases q : H b with
      | none => rfl
      | some u =>
        have e' : b = a := hA b (by rw [q]; simp)
        subst e'
        rw [hK (by rw [q]; simp)] at e; cases e)
    have hM : Mod K mg (hidT s₁.heap H) := ⟨hKb, nsK hns, ⟨mb, nsK hb, hbb⟩, let ⟨mc, h1, h2⟩ := hlim; ⟨mc, nsK h1, h2⟩⟩
    have e0 : Env0 P w K mg (hidT s₁.heap H) callerA [] s₁ H := ⟨rfl, hM, fun b o e => of_hidT e, Nat.le_of_eq (hidT_size _ _), trivial, fun b hb => absurd (show b ∈ ([] : List Addr) from hb) (by simp), hok, .of_eq hg⟩
    refine codeAny_mono ((F _ hKb (nsK hns)).run callerA [] s₁ H ⟨[.ref a], []⟩ [.ref a] [.ref a] _ _ hr e0 (hbind s₁ (.ref a)) (.cons rfl .nil) (hsp H hO hS)) fun r s' h => ?_
    cases r with
    | error e => exact (hCX H e s' h).elim
    | ok fl =>
      cases fl with
      | next => exact False.elim h
      | brk => exact False.elim h
      | cont => exact False.elim h
      | ret u =>
        obtain ⟨v, H', os, bare, un, hok', r', q⟩ := h
        have q' : v = .bl true := q
        subst q'
        obtain rfl : u = Value.bool true := r'
        refine ⟨rfl, OldK.of_keep fun b o e => ?_, os, bare⟩
        cases q : H b with
        | none => exact un.keep b o e q (by intro z; exact absurd (show b ∈ ([] : List Addr) from z) (by simp)) (by simp)
        | some u =>
          rcases hO b with z | ⟨ob, xs, z⟩
          · rw [q] at z; cases z
          · have z2 := un.frzs b ob _ z
            obtain ⟨e1, _⟩ := hok b _ z
            obtain ⟨e2, _⟩ := hok' b _ z2
            rw [e] at e1; cases e1
            exact e2
  cases hk : K.lookup a with
  | some o =>
    have e := KX a o hk
    rw [ha] at e
    cases e
    refine core (fun _ => none) (fun _ => .inl rfl) (.inr ⟨_, vs.toArray, _, hk, rfl, rfl, rfl, by rw [List.size_toArray, lenV]; exact hl, by simpa using rv⟩) (fun b u z => by have z' : (none : Option HO) = some u := z; cases z') (fun b z => absurd rfl z) fun z => absurd rfl z
  | none =>
    refine core (fun b => if b = a then some (.frz { cls := .type "list", data := .seq vs.toArray } (.lst (ns.map V.int))) else none) (fun b => ?_) (.inl (.inr ⟨{ cls := .type "list", data := .seq vs.toArray }, if_pos rfl⟩)) (fun b u z => ?_) (fun b z => ?_) fun _ => hk
    · by_cases hb : b = a
      · exact .inr ⟨_, _, if_pos hb⟩
      · exact .inl (if_neg hb)
    · by_cases hb : b = a
      · have z' := (if_pos hb).symm.trans z
        cases z'
        subst hb
        exact ⟨ha, by rw [List.length_map]; exact hl, vs, _, rv, ha⟩
      · have z' := (if_neg hb).symm.trans z
        cases z'
    · by_cases hb : b = a
      · exact hb
      · exact absurd (if_neg hb) z
end L2
namespace L2
open PySem PySem.Spec PyProof.Rows
theorem walk_of {l : PySem.W.OpenLaw} {n k : Nat} {q : Program} {loose : List Str} {XP : (Str → Option Value) → Heap → Prop} {YP : World → Heap → Prop} {d : DefRec} {K : Params → PySem.W.Frag} {CX : World → CXT} {sp : World → Sp} {x : Str}
    (hn : l.most = some n) (hn2 : n ≤ sizeLine) (hdf : d.params.defaults = []) (hr : Room k callerA)
    (hY : ∀ (w : World) (h : Heap), YP w h → (K w.params).In h)
    (F : ∀ (w : World) (mg : Str → Option Value) (fa : Addr) (h : Heap), (K w.params).In h → h.Ns mainGlobals mg → mg d.name = some (.ref fa) →
      ∃ fd : FuncData, (∀ (s : Shared) (u : Value), BindsTo s fd ⟨[u], []⟩ [(x, u)]) ∧
        ∀ base : Heap, (K w.params).In base → base.Ns mainGlobals mg → FnOk l.prog w (K w.params) mg base (CX w) k fa fd [x] (sp w))
    (hsp : ∀ (w : World) (H : Hp) (a : Addr) (ns : List Int), ns.length ≤ n → Only H → SqL (K w.params) H a (ns.map V.int) → sp w [.ref a] H (fun v _ => v = .bl true) fun _ _ _ => False)
    (hCX : ∀ (w : World) (H : Hp) (s : Shared) (e : Value) (s' : Shared), CX w [] H s (fun _ _ _ => False) e s' → False) :
    PySem.W.WalkO q loose XP YP l.row.toRowW d [] (fun f vs => PySem.call f vs) := by
  refine Att.attach_call hn hdf fun w s₀ s₁ mg mb fa o pm cd doc a vs ns G Y ho hd hcd hmg hobj hints hlen hg => ?_
  have KX := hY w _ Y
  obtain ⟨fd, hb, hF⟩ := F w mg fa _ KX G.T.g hmg
  exact law_call KX G.T.g G.T.b G.T.builtins G.T.nolimit hg hobj hints (Nat.le_trans hlen hn2) hr hF hb (fun H hO hS => hsp w H a ns hlen hO hS) fun H e s' => hCX w H s₁ e s'
end L2
namespace L2
open PySem PySem.Spec PyProof.Rows
def inClass (s : Stmt) (j : Nat) : Stmt := match s with
  | .ClassDef _ _ _ body _ _ _ _ _ _ _ => body.getD j (.Pass ⟨0, 0, 0, 0⟩)
  | _ => .Pass ⟨0, 0, 0, 0⟩
def defArgs (s : Stmt) : Arguments := match s with
  | .FunctionDef _ a _ _ _ _ _ _ _ _ => a
  | _ => { posonlyargs := [], args := [], vararg := none, kwonlyargs := [], kw_defaults := [], kwarg := none, defaults := [] }
def defBody (s : Stmt) : List Stmt := match s with
  | .FunctionDef _ _ b _ _ _ _ _ _ _ => b
  | _ => []
def defScope (s : Stmt) : Scope := match s with
  | .FunctionDef _ _ _ _ _ _ sc _ _ _ => sc
  | _ => { kind := .function, names := [], isGenerator := false, isCoroutine := false }
abbrev CX0 : CXT := fun _ _ _ _ _ _ => False
abbrev E0 : XK := fun _ _ _ => False
structure Fun (K : PySem.W.Frag) (x qual : Str) (st : Stmt) (f : Addr) (fd : FuncData) : Prop where
  ex : ∃ (oc : Value) (od : Option Addr) (kV doc pm : Value) (an : Option Addr) (cdv ct : Value) (osl : Array (Option Value)),
    fd = PySem.W.fnOf x qual (defArgs st) (defBody st) (defScope st) .none kV doc pm an cdv ct ∧ K.lookup f = some ⟨oc, od, .func fd, osl⟩ ∧ PySem.W.codeIn K cdv qual = true
  kp : PySem.W.keepIn K (.ref f) = true
section
variable {P : Program} {w : World} {K : PySem.W.Frag} {mg : Str → Option Value} {base : Heap}
theorem Fun.ok {x qual : Str} {st : Stmt} {f : Addr} {fd : FuncData} {N ps : List Str} {k : Nat} {sp : Sp} (F : Fun K x qual st f fd) (S : FnScope N ps (defScope st)) (len : ∀ vs H Q E, sp vs H Q E → vs.length = ps.length)
    (hbody : ∀ (cdv : Value) (A : Around) (outer : List Env) (s : Shared) (H : Hp) (vs : List V) (Q : VK) (E : XK), Room k (A.deeper (envOfC qual (defScope st) s.heap.objs.size f cdv)) → sp vs H Q E →
      ∃ t, PSs (cxOf CX0 P w K mg base N qual (defScope st) f cdv A outer s H E).nox (defBody st) t ∧ t { nx := fun _ H' => Q .non H', rt := Q } (start N vs) H) : FnOk P w K mg base CX0 (k + 1) f fd ps sp := by
  obtain ⟨oc, od, kV, doc, pm, an, cdv, ct, osl, rfl, lk, hcd⟩ := F.ex
  refine fn_of lk hcd S len fun A outer s H vs Q E hr hsp => ?_
  obtain ⟨t, h, q⟩ := hbody cdv A outer s H vs Q E hr hsp
  exact ⟨t, h.nox, q⟩
theorem Fun.binds {x qual : Str} {st : Stmt} {f : Addr} {fd : FuncData} {ps : List Str} (F : Fun K x qual st f fd)
    (h : ∀ (kV doc pm : Value) (an : Option Addr) (cdv ct : Value) (us : List Value), us.length = ps.length → bindArgs (PySem.W.fnOf x qual (defArgs st) (defBody st) (defScope st) .none kV doc pm an cdv ct) ⟨us, []⟩ = pure (ps.zip us)) : Binds K fd ps [] := by
  obtain ⟨oc, od, kV, doc, pm, an, cdv, ct, osl, rfl, lk, hcd⟩ := F.ex
  exact .all (h kV doc pm an cdv ct)
theorem fun_mk {x qual : Str} {st : Stmt} {f : Addr} {oc : Value} {od an : Option Addr} {osl : Array (Option Value)} {kV doc pm cdv ct : Value} (l : K.lookup f = some ⟨oc, od, .func (PySem.W.fnOf x qual (defArgs st) (defBody st) (defScope st) .none kV doc pm an cdv ct), osl⟩)
    (c : PySem.W.codeIn K cdv qual = true) (k : PySem.W.keepIn K (.ref f) = true) : Fun K x qual st f (PySem.W.fnOf x qual (defArgs st) (defBody st) (defScope st) .none kV doc pm an cdv ct) := ⟨⟨oc, od, kV, doc, pm, an, cdv, ct, osl, rfl, l, c⟩, k⟩
end
section
variable {X : Cx}
end
def Same (H H' : Hp) : Prop := ∀ b o, H b = some o → H' b = some o
theorem Same.refl (H : Hp) : Same H H := fun _ _ h => h
theorem Same.trans {H H1 H2 : Hp} (a : Same H H1) (b : Same H1 H2) : Same H H2 := fun c o h => b c o (a c o h)
theorem Same.free {H H' : Hp} (e : Same H H') {l : Addr} (h : H' l = Option.none) : H l = Option.none := by
  cases q : H l with
  | none => rfl
  | some o =>
    rw [e l o q] at h
    cases h
theorem Same.seq {K : PySem.W.Frag} {H H' : Hp} {a : Addr} {xs : List V} (e : Same H H') (h : SqL K H a xs) : SqL K H' a xs := by
  rcases h with (h | ⟨o, h⟩) | h
  · exact .inl (.inl (e _ _ h))
  · exact .inl (.inr ⟨o, e _ _ h⟩)
  · exact .inr h
end L2
namespace DL
open PySem PySem.Spec PyProof.Rows L2
inductive D where
  | non | bl (b : Bool) | int (i : Int) | str (x : Str) | tup (xs : List D) | rol (xs : List D) | ob (n : Nat) | xn (c : Addr)
inductive Cell where
  | lst (xs : List D) | dic (kvs : List (Key × D)) | ins (C : Addr) (ns : List Str) (ds : List D)
inductive R (α : Type) where
  | ok (a : α) (S : List Cell) | exc (c : Addr) (S : List Cell) | bad
abbrev M (α : Type) := List Cell → R α
abbrev DSt := List (Option D)
def M.bind {α β : Type} (m : M α) (k : α → M β) : M β := fun S => match m S with
  | .ok a S' => k a S'
  | .exc c S' => .exc c S'
  | .bad => .bad
def M.ret {α : Type} (a : α) : M α := fun S => .ok a S
def M.bad {α : Type} : M α := fun _ => .bad
noncomputable def cif {α : Type} (P : Prop) (a b : α) : α := @ite α P (Classical.propDecidable P) a b
theorem cif_pos {α : Type} {P : Prop} {a b : α} (h : P) : cif P a b = a := by unfold cif; exact if_pos h
theorem cif_neg {α : Type} {P : Prop} {a b : α} (h : ¬ P) : cif P a b = b := by unfold cif; exact if_neg h
def RoL (K : PySem.W.Frag) (H : Hp) (a : Addr) (xs : List V) : Prop :=
  (∃ o, H a = some (.frz o (.lst xs))) ∨
    ∃ (o : Obj) (its : Array Value) (n : Nat), K.lookup a = some o ∧ o.cls = .type "list" ∧ o.dict = none ∧ o.data = .seq its n ∧ its.size ≤ sizeLine ∧ Vals xs its.toList
theorem RoL.sq {K : PySem.W.Frag} {H : Hp} {a : Addr} {xs : List V} (h : RoL K H a xs) : SqL K H a xs := by
  rcases h with ⟨o, h⟩ | h
  · exact .inl (.inr ⟨o, h⟩)
  · exact .inr h
def XO (a c : Addr) : HO := .ext fun h => ∃ o, h.get? a = some o ∧ o.cls = .ref c
mutual
def RepV (K : PySem.W.Frag) (H : Hp) (J : List Addr) : D → V → Prop
  | .non, v => v = .non
  | .bl b, v => v = .bl b
  | .int i, v => v = .int i
  | .str x, v => v = .str x
  | .tup xs, v => ∃ a vs, v = .ref a ∧ SqT K H a vs ∧ RepVs K H J xs vs
  | .rol xs, v => ∃ a vs, v = .ref a ∧ RoL K H a vs ∧ RepVs K H J xs vs
  | .ob n, v => ∃ a, v = .ref a ∧ J[n]? = some a
  | .xn c, v => ∃ a, v = .ref a ∧ H a = some (XO a c)
def RepVs (K : PySem.W.Frag) (H : Hp) (J : List Addr) : List D → List V → Prop
  | [], vs => vs = []
  | x :: xs, vs => ∃ v r, vs = v :: r ∧ RepV K H J x v ∧ RepVs K H J xs r
end
def Stb : HO → Bool
  | .tup _ => true
  | .frz _ _ => true
  | .ext _ => true
  | _ => false
structure Ext (H : Hp) (J : List Addr) (H' : Hp) (J' : List Addr) : Prop where
  st : ∀ b o, H b = some o → Stb o = true → H' b = some o
  pre : ∃ more, J' = J ++ more
theorem Ext.refl (H : Hp) (J : List Addr) : Ext H J H J := ⟨fun _ _ e _ => e, [], by simp⟩
theorem Ext.trans {H H1 H2 : Hp} {J J1 J2 : List Addr} (a : Ext H J H1 J1) (b : Ext H1 J1 H2 J2) : Ext H J H2 J2 := by
  obtain ⟨m1, e1⟩ := a.pre
  obtain ⟨m2, e2⟩ := b.pre
  exact ⟨fun c o e st => b.st c o (a.st c o e st) st, m1 ++ m2, by rw [e2, e1, List.append_assoc]⟩
theorem Ext.new {H : Hp} {J : List Addr} {p : Addr} {o : HO} (h : H p = none) : Ext H J (upd H p o) J :=
  ⟨fun b u e _ => by rw [upd_ne (ne_of_none e h)]; exact e, [], by simp⟩
theorem Ext.snoc {H H' : Hp} {J J' : List Addr} (a : Ext H J H' J') (m : List Addr) : Ext H J H' (J' ++ m) := by
  obtain ⟨m1, e1⟩ := a.pre
  exact ⟨a.st, m1 ++ m, by rw [e1, List.append_assoc]⟩
theorem Ext.write {H : Hp} {J : List Addr} {p : Addr} {o u : HO} (h : H p = some u) (hs : Stb u = false) : Ext H J (upd H p o) J :=
  ⟨fun b w e st => by
    have : b ≠ p := by
      rintro rfl
      rw [h] at e
      cases e
      rw [hs] at st
      cases st
    rw [upd_ne this]; exact e, [], by simp⟩
section
variable {K : PySem.W.Frag} {H H' : Hp} {J J' : List Addr}
theorem SqT.ext {a : Addr} {vs : List V} (e : Ext H J H' J') (h : SqT K H a vs) : SqT K H' a vs := by
  rcases h with (h | ⟨o, h⟩) | h
  · exact .inl (.inl (e.st _ _ h rfl))
  · exact .inl (.inr ⟨o, e.st _ _ h rfl⟩)
  · exact .inr h
theorem RoL.ext {a : Addr} {vs : List V} (e : Ext H J H' J') (h : RoL K H a vs) : RoL K H' a vs := by
  rcases h with ⟨o, h⟩ | h
  · exact .inl ⟨o, e.st _ _ h rfl⟩
  · exact .inr h
mutual
theorem RepV.ext (e : Ext H J H' J') : ∀ {d : D} {v : V}, RepV K H J d v → RepV K H' J' d v
  | .non, _, h => by unfold RepV at h ⊢; exact h
  | .bl _, _, h => by unfold RepV at h ⊢; exact h
  | .int _, _, h => by unfold RepV at h ⊢; exact h
  | .str _, _, h => by unfold RepV at h ⊢; exact h
  | .tup xs, v, h => by
    unfold RepV at h ⊢
    obtain ⟨a, vs, h1, h2, h3⟩ := h
    exact ⟨a, vs, h1, SqT.ext e h2, RepVs.ext e h3⟩
  | .rol xs, v, h => by
    unfold RepV at h ⊢
    obtain ⟨a, vs, h1, h2, h3⟩ := h
    exact ⟨a, vs, h1, RoL.ext e h2, RepVs.ext e h3⟩
  | .ob n, v, h => by
    unfold RepV at h ⊢
    obtain ⟨a, h1, h2⟩ := h
    obtain ⟨m, em⟩ := e.pre
    refine ⟨a, h1, ?_⟩
    rw [em, List.getElem?_append_left (List.getElem?_eq_some_iff.mp h2).1]
    exact h2
  | .xn c, v, h => by
    unfold RepV at h ⊢
    obtain ⟨a, h1, h2⟩ := h
    exact ⟨a, h1, e.st _ _ h2 rfl⟩
theorem RepVs.ext (e : Ext H J H' J') : ∀ {xs : List D} {vs : List V}, RepVs K H J xs vs → RepVs K H' J' xs vs
  | [], _, h => by unfold RepVs at h ⊢; exact h
  | x :: xs, vs, h => by
    unfold RepVs at h ⊢
    obtain ⟨v, r, h1, h2, h3⟩ := h
    exact ⟨v, r, h1, RepV.ext e h2, RepVs.ext e h3⟩
end
theorem RepVs.length : ∀ {xs : List D} {vs : List V}, RepVs K H J xs vs → vs.length = xs.length
  | [], _, h => by unfold RepVs at h; rw [h]; rfl
  | x :: xs, vs, h => by
    unfold RepVs at h
    obtain ⟨v, r, h1, _, h3⟩ := h
    rw [h1, List.length_cons, List.length_cons, RepVs.length h3]
theorem RepVs.get : ∀ {xs : List D} {vs : List V} {i : Nat} {x : D}, RepVs K H J xs vs → xs[i]? = some x → ∃ v, vs[i]? = some v ∧ RepV K H J x v
  | [], _, _, _, _, e => by simp at e
  | y :: xs, vs, 0, x, h, e => by
    unfold RepVs at h
    obtain ⟨v, r, h1, h2, _⟩ := h
    simp at e
    subst e h1
    exact ⟨v, rfl, h2⟩
  | y :: xs, vs, i + 1, x, h, e => by
    unfold RepVs at h
    obtain ⟨v, r, h1, _, h3⟩ := h
    subst h1
    exact RepVs.get (i := i) h3 (by simpa using e)
theorem RepVs.append : ∀ {xs ys : List D} {vs ws : List V}, RepVs K H J xs vs → RepVs K H J ys ws → RepVs K H J (xs ++ ys) (vs ++ ws)
  | [], _, _, _, h, g => by unfold RepVs at h; rw [h]; exact g
  | x :: xs, ys, vs, ws, h, g => by
    unfold RepVs at h
    obtain ⟨v, r, h1, h2, h3⟩ := h
    subst h1
    rw [List.cons_append, List.cons_append]
    unfold RepVs
    exact ⟨v, _, rfl, h2, RepVs.append h3 g⟩
theorem RepVs.nil : RepVs K H J [] [] := by unfold RepVs; rfl
theorem RepVs.cons {x : D} {xs : List D} {v : V} {vs : List V} (h : RepV K H J x v) (t : RepVs K H J xs vs) : RepVs K H J (x :: xs) (v :: vs) := by
  unfold RepVs; exact ⟨v, vs, rfl, h, t⟩
theorem RepVs.one {x : D} {v : V} (h : RepV K H J x v) : RepVs K H J [x] [v] := .cons h .nil
theorem RepVs.take : ∀ {xs : List D} {vs : List V} (n : Nat), RepVs K H J xs vs → RepVs K H J (xs.take n) (vs.take n)
  | _, _, 0, _ => by simp; exact .nil
  | [], _, n + 1, h => by unfold RepVs at h; subst h; simp; exact .nil
  | x :: xs, vs, n + 1, h => by
    unfold RepVs at h
    obtain ⟨v, r, h1, h2, h3⟩ := h
    subst h1
    exact .cons h2 (RepVs.take n h3)
theorem RepVs.drop : ∀ {xs : List D} {vs : List V} (n : Nat), RepVs K H J xs vs → RepVs K H J (xs.drop n) (vs.drop n)
  | _, _, 0, h => by simpa using h
  | [], _, n + 1, h => by unfold RepVs at h; subst h; simp; exact .nil
  | x :: xs, vs, n + 1, h => by
    unfold RepVs at h
    obtain ⟨v, r, h1, h2, h3⟩ := h
    subst h1
    exact RepVs.drop n h3
theorem RepVs.set {d : D} {w : V} (hd : RepV K H J d w) : ∀ {xs : List D} {vs : List V} (n : Nat), RepVs K H J xs vs → RepVs K H J (xs.set n d) (vs.set n w)
  | [], _, n, h => by unfold RepVs at h; subst h; simp; exact .nil
  | x :: xs, vs, 0, h => by
    unfold RepVs at h
    obtain ⟨v, r, h1, h2, h3⟩ := h
    subst h1
    exact .cons hd h3
  | x :: xs, vs, n + 1, h => by
    unfold RepVs at h
    obtain ⟨v, r, h1, h2, h3⟩ := h
    subst h1
    exact .cons h2 (RepVs.set hd n h3)
theorem RepVs.nil_iff {xs : List D} {vs : List V} (h : RepVs K H J xs vs) : vs = [] ↔ xs = [] := by
  have := h.length
  constructor
  · intro e; subst e; exact List.length_eq_zero_iff.mp (by simpa using this.symm)
  · intro e; subst e; exact List.length_eq_zero_iff.mp (by simpa using this)
theorem RepVs.ints (ns : List Int) : RepVs K H J (ns.map D.int) (ns.map V.int) := by
  induction ns with
  | nil => exact .nil
  | cons n r ih => exact .cons (by unfold RepV; rfl) ih
end
def RepPs {κ : Type} (K : PySem.W.Frag) (H : Hp) (J : List Addr) : List (κ × D) → List (κ × V) → Prop
  | [], ws => ws = []
  | (k, d) :: r, ws => ∃ v t, ws = (k, v) :: t ∧ RepV K H J d v ∧ RepPs K H J r t
section
variable {κ : Type} {K : PySem.W.Frag} {H H' : Hp} {J J' : List Addr}
theorem RepPs.ext (e : Ext H J H' J') : ∀ {xs : List (κ × D)} {ws : List (κ × V)}, RepPs K H J xs ws → RepPs K H' J' xs ws
  | [], _, h => h
  | (k, d) :: r, ws, h => by
    obtain ⟨v, t, h1, h2, h3⟩ := h
    exact ⟨v, t, h1, h2.ext e, RepPs.ext e h3⟩
theorem RepPs.length : ∀ {xs : List (κ × D)} {ws : List (κ × V)}, RepPs K H J xs ws → ws.length = xs.length
  | [], _, h => by
    have h' : _ = [] := h
    rw [h']; rfl
  | (k, d) :: r, ws, h => by
    obtain ⟨v, t, h1, h2, h3⟩ := h
    rw [h1, List.length_cons, List.length_cons, RepPs.length h3]
end
def RepC (K : PySem.W.Frag) (H : Hp) (J : List Addr) : Cell → Addr → Prop
  | .lst xs, a => ∃ vs, H a = some (.lst vs) ∧ RepVs K H J xs vs
  | .dic kvs, a => ∃ ws, H a = some (.dK ws) ∧ RepPs K H J kvs ws
  | .ins C ns ds, a => ∃ dx ws, H a = some (.ins C dx ws) ∧ ws.map (·.1) = ns ∧ RepVs K H J ds (ws.map (·.2))
structure RepS (K : PySem.W.Frag) (H : Hp) (J : List Addr) (S : List Cell) : Prop where
  len : J.length = S.length
  nd : J.Nodup
  at_ : ∀ (n : Nat) c a, S[n]? = some c → J[n]? = some a → RepC K H J c a
section
variable {K : PySem.W.Frag} {H H' : Hp} {J J' : List Addr} {S : List Cell} {a p : Addr} {c c' : Cell} {n : Nat} {o o' : HO}
theorem RepC.some_ (h : RepC K H J c a) : ∃ o, H a = some o ∧ Stb o = false := by
  cases c with
  | lst xs => obtain ⟨vs, h, _⟩ := h; exact ⟨_, h, rfl⟩
  | dic xs => obtain ⟨vs, h, _⟩ := h; exact ⟨_, h, rfl⟩
  | ins C ns ds => obtain ⟨dx, vs, h, _⟩ := h; exact ⟨_, h, rfl⟩
theorem RepC.keep (h : RepC K H J c a) (e : Ext H J H' J') (he : H' a = H a) : RepC K H' J' c a := by
  cases c with
  | lst xs => obtain ⟨vs, h, r⟩ := h; exact ⟨vs, he.trans h, r.ext e⟩
  | dic xs => obtain ⟨vs, h, r⟩ := h; exact ⟨vs, he.trans h, r.ext e⟩
  | ins C ns ds => obtain ⟨dx, vs, h, q, r⟩ := h; exact ⟨dx, vs, he.trans h, q, r.ext e⟩
theorem RepS.cell (h : RepS K H J S) (hn : S[n]? = some c) : ∃ a, J[n]? = some a ∧ RepC K H J c a := by
  have hi := (List.getElem?_eq_some_iff.mp hn).1
  have hl := h.len
  exact ⟨J[n]'(by omega), by simp, h.at_ n c _ hn (by simp)⟩
theorem RepS.cellA (h : RepS K H J S) (hn : J[n]? = some a) : ∃ c, S[n]? = some c ∧ RepC K H J c a := by
  have hi := (List.getElem?_eq_some_iff.mp hn).1
  have hl := h.len
  exact ⟨S[n]'(by omega), by simp, h.at_ n _ _ (by simp) hn⟩
theorem RepS.held (h : RepS K H J S) (ha : a ∈ J) : ∃ o, H a = some o ∧ Stb o = false := by
  obtain ⟨n, hn⟩ := List.mem_iff_getElem?.mp ha
  obtain ⟨c, _, hc⟩ := h.cellA hn
  exact hc.some_
theorem RepS.new (h : RepS K H J S) (hp : H p = none) : RepS K (upd H p o) J S where
  len := h.len
  nd := h.nd
  at_ := fun n c a hc ha => by
    have r := h.at_ n c a hc ha
    obtain ⟨u, hu, _⟩ := r.some_
    exact r.keep (Ext.new hp) (upd_ne (ne_of_none hu hp))
theorem RepS.push (h : RepS K H J S) (hp : H p = none) (hc : RepC K (upd H p o) (J ++ [p]) c p) : RepS K (upd H p o) (J ++ [p]) (S ++ [c]) where
  len := by simp [h.len]
  nd := by
    rw [List.nodup_append]
    refine ⟨h.nd, by simp, ?_⟩
    intro a ha b hb
    simp at hb
    subst hb
    obtain ⟨u, hu, _⟩ := h.held ha
    exact ne_of_none hu hp
  at_ := fun n c1 a h1 ha => by
    have hl := h.len
    by_cases hn : n < S.length
    · rw [List.getElem?_append_left hn] at h1
      rw [List.getElem?_append_left (by omega)] at ha
      have r := h.at_ n c1 a h1 ha
      obtain ⟨u, hu, _⟩ := r.some_
      exact r.keep ((Ext.new hp).snoc _) (upd_ne (ne_of_none hu hp))
    · have hn' := (List.getElem?_eq_some_iff.mp h1).1
      have e : n = S.length := by rw [List.length_append] at hn'; simp at hn'; omega
      subst e
      rw [List.getElem?_append_right (Nat.le_refl _)] at h1
      rw [List.getElem?_append_right (by omega)] at ha
      simp at h1
      rw [← hl] at ha
      simp at ha
      subst h1 ha
      exact hc
theorem RepS.write (h : RepS K H J S) (hn : J[n]? = some a) (hc : RepC K (upd H a o) J c' a) : RepS K (upd H a o) J (S.set n c') where
  len := by rw [List.length_set]; exact h.len
  nd := h.nd
  at_ := fun m c1 b h1 hb => by
    obtain ⟨c0, _, r0⟩ := h.cellA hn
    obtain ⟨u0, hu0, hs0⟩ := r0.some_
    by_cases e : m = n
    · subst e
      rw [hn] at hb
      cases hb
      rw [List.getElem?_set] at h1
      simp at h1
      obtain ⟨_, h1⟩ := h1
      subst h1
      exact hc
    · rw [List.getElem?_set_ne (Ne.symm e)] at h1
      have r := h.at_ m c1 b h1 hb
      have hab : b ≠ a := by
        rintro rfl
        exact e ((List.getElem?_inj (List.getElem?_eq_some_iff.mp hb).1 h.nd).mp (hb.trans hn.symm))
      exact r.keep (Ext.write hu0 hs0) (upd_ne hab)
end
structure RepL (K : PySem.W.Frag) (H : Hp) (J : List Addr) (r : DSt) (σ : L2.St) : Prop where
  len : r.length = σ.length
  at_ : ∀ (i : Nat) d, r[i]? = some (some d) → ∃ v, σ[i]? = some (some v) ∧ RepV K H J d v
section
variable {K : PySem.W.Frag} {H H' : Hp} {J J' : List Addr} {r : DSt} {σ : L2.St}
theorem RepL.ext (h : RepL K H J r σ) (e : Ext H J H' J') : RepL K H' J' r σ := ⟨h.len, fun i d q => let ⟨v, a, b⟩ := h.at_ i d q; ⟨v, a, b.ext e⟩⟩
theorem RepL.set (h : RepL K H J r σ) {i : Nat} {d : D} {v : V} (hd : RepV K H J d v) : RepL K H J (r.set i (some d)) (σ.set i (some v)) where
  len := by simp [h.len]
  at_ := fun j d' q => by
    by_cases e : j = i
    · subst e
      rw [List.getElem?_set] at q
      simp at q
      obtain ⟨hj, q⟩ := q
      subst q
      refine ⟨v, ?_, hd⟩
      rw [List.getElem?_set]
      simp [← h.len, hj]
    · rw [List.getElem?_set_ne (Ne.symm e)] at q ⊢
      exact h.at_ j d' q
end
theorem RepL.start {K : PySem.W.Frag} {H : Hp} {J : List Addr} {N : List Str} {xs : List D} {vs : List V} (h : RepVs K H J xs vs) :
    RepL K H J (xs.map some ++ List.replicate (N.length - xs.length) none) (L2.start N vs) where
  len := by unfold L2.start; simp [h.length]
  at_ := fun i d q => by
    have hl := h.length
    unfold L2.start
    by_cases hi : i < xs.length
    · rw [List.getElem?_append_left (by simpa using hi)] at q
      rw [List.getElem?_append_left (by simp; omega)]
      rw [List.getElem?_map] at q ⊢
      cases e : xs[i]? with
      | none => rw [e] at q; simp at q
      | some x =>
        rw [e] at q
        simp at q
        subst q
        obtain ⟨v, h1, h2⟩ := h.get e
        exact ⟨v, by rw [h1]; rfl, h2⟩
    · rw [List.getElem?_append_right (by simpa using hi)] at q
      rw [List.getElem?_replicate] at q
      split at q <;> simp at q
end DL
namespace DL
open PySem PySem.Spec PyProof.Rows L2
abbrev Pins := List (Addr × Obj)
def XF (X : Cx) (H : Hp) (e : Value) (c : Addr) (h : Heap) : Prop := False
structure XInv (X : Cx) (pins : Pins) (σ : L2.St) (H : Hp) (s : Shared) (e : Value) (c : Addr) : Prop where
  inv : Inv X pins σ H s
  fly : XF X H e c s.heap
def Got (K : PySem.W.Frag) (H : Hp) (J : List Addr) (d : D) (S : List Cell) : VK := fun v H' => ∃ J', Ext H J H' J' ∧ RepS K H' J' S ∧ RepV K H' J' d v
def Gots (K : PySem.W.Frag) (H : Hp) (J : List Addr) (ds : List D) (S : List Cell) (vs : List V) (H' : Hp) : Prop := ∃ J', Ext H J H' J' ∧ RepS K H' J' S ∧ RepVs K H' J' ds vs
def Gone (K : PySem.W.Frag) (H : Hp) (J : List Addr) (S : List Cell) (H' : Hp) : Prop := ∃ J', Ext H J H' J' ∧ RepS K H' J' S
def XP (X : Cx) (pins : Pins) (σ : L2.St) (c : Addr) (G : Hp → Prop) (e : Value) (s' : Shared) : Prop := ∃ H', XInv X pins σ H' s' e c ∧ G H'
def Mt (X : Cx) (pins : Pins) (σ : L2.St) (H : Hp) (J : List Addr) (r : R D) (Q : Value → Shared → Prop) (E : Value → Shared → Prop) : Prop := match r with
  | .ok d S' => ∀ u s', EP X pins σ (Got X.K H J d S') u s' → Q u s'
  | .exc c S' => ∀ e s', XP X pins σ c (Gone X.K H J S') e s' → E e s'
  | .bad => False
def MtB (X : Cx) (pins : Pins) (σ : L2.St) (H : Hp) (J : List Addr) (r : R Bool) (Q : Bool → Shared → Prop) (E : Value → Shared → Prop) : Prop := match r with
  | .ok b S' => ∀ s', TP X pins σ (fun _ => Gone X.K H J S') b s' → Q b s'
  | .exc c S' => ∀ e s', XP X pins σ c (Gone X.K H J S') e s' → E e s'
  | .bad => False
def MtA (X : Cx) (pins : Pins) (σ : L2.St) (H : Hp) (J : List Addr) (r : R (List D)) (Q : List Value → Shared → Prop) (E : Value → Shared → Prop) : Prop := match r with
  | .ok ds S' => ∀ us s', AP X pins σ (Gots X.K H J ds S') us s' → Q us s'
  | .exc c S' => ∀ e s', XP X pins σ c (Gone X.K H J S') e s' → E e s'
  | .bad => False
section
variable {X : Cx} {pins : Pins} {σ : L2.St} {H H1 : Hp} {J J1 : List Addr}
theorem Got.ext {K : PySem.W.Frag} {d : D} {S : List Cell} {v : V} {H' : Hp} (e : Ext H J H1 J1) (h : Got K H1 J1 d S v H') : Got K H J d S v H' := let ⟨J', a, b, c⟩ := h; ⟨J', e.trans a, b, c⟩
theorem Gots.ext {K : PySem.W.Frag} {d : List D} {S : List Cell} {v : List V} {H' : Hp} (e : Ext H J H1 J1) (h : Gots K H1 J1 d S v H') : Gots K H J d S v H' := let ⟨J', a, b, c⟩ := h; ⟨J', e.trans a, b, c⟩
theorem Gone.ext {K : PySem.W.Frag} {S : List Cell} {H' : Hp} (e : Ext H J H1 J1) (h : Gone K H1 J1 S H') : Gone K H J S H' := let ⟨J', a, b⟩ := h; ⟨J', e.trans a, b⟩
theorem XP.ext {c : Addr} {S : List Cell} {u : Value} {s' : Shared} (e : Ext H J H1 J1) (h : XP X pins σ c (Gone X.K H1 J1 S) u s') : XP X pins σ c (Gone X.K H J S) u s' := let ⟨H', a, b⟩ := h; ⟨H', a, b.ext e⟩
theorem Mt.ext {r : R D} {Q E : Value → Shared → Prop} (e : Ext H J H1 J1) (h : Mt X pins σ H J r Q E) : Mt X pins σ H1 J1 r Q E := by
  cases r with
  | ok d S => exact fun u s' ⟨v, H', I, rv, g⟩ => h u s' ⟨v, H', I, rv, g.ext e⟩
  | exc c S => exact fun u s' x => h u s' (x.ext e)
  | bad => exact h
theorem MtB.ext {r : R Bool} {Q : Bool → Shared → Prop} {E : Value → Shared → Prop} (e : Ext H J H1 J1) (h : MtB X pins σ H J r Q E) : MtB X pins σ H1 J1 r Q E := by
  cases r with
  | ok d S => exact fun s' ⟨H', I, g⟩ => h s' ⟨H', I, g.ext e⟩
  | exc c S => exact fun u s' x => h u s' (x.ext e)
  | bad => exact h
theorem MtA.ext {r : R (List D)} {Q : List Value → Shared → Prop} {E : Value → Shared → Prop} (e : Ext H J H1 J1) (h : MtA X pins σ H J r Q E) : MtA X pins σ H1 J1 r Q E := by
  cases r with
  | ok d S => exact fun u s' ⟨v, H', I, rv, g⟩ => h u s' ⟨v, H', I, rv, g.ext e⟩
  | exc c S => exact fun u s' x => h u s' (x.ext e)
  | bad => exact h
end
structure At (X : Cx) (pins : Pins) (σ : L2.St) (H : Hp) (J : List Addr) (r : DSt) (S : List Cell) (s : Shared) : Prop where
  inv : Inv X pins σ H s
  loc : RepL X.K H J r σ
  st : RepS X.K H J S
def PEd (X : Cx) (e : Expr) (f : DSt → M D) : Prop := ∀ (pins : Pins) (s : Shared) (σ : L2.St) (H : Hp) (J : List Addr) (r : DSt) (S : List Cell) (Q E : Value → Shared → Prop),
  At X pins σ H J r S s → Mt X pins σ H J (f r S) Q E → wpAny (model X.prog X.w) X.A (eval e X.env) Q E s
def PTd (X : Cx) (e : Expr) (f : DSt → M Bool) : Prop := ∀ (pins : Pins) (s : Shared) (σ : L2.St) (H : Hp) (J : List Addr) (r : DSt) (S : List Cell) (Q : Bool → Shared → Prop) (E : Value → Shared → Prop),
  At X pins σ H J r S s → MtB X pins σ H J (f r S) Q E → wpAny (model X.prog X.w) X.A (isTrue e X.env (eval e X.env)) Q E s
def PWd (X : Cx) (e : Expr) (f : DSt → M Bool) : Prop := ∀ (whole : Sem Value) (pins : Pins) (s : Shared) (σ : L2.St) (H : Hp) (J : List Addr) (r : DSt) (S : List Cell) (Q : Bool → Shared → Prop) (E : Value → Shared → Prop),
  At X pins σ H J r S s → MtB X pins σ H J (f r S) Q E → wpAny (model X.prog X.w) X.A (isTrue e X.env whole) Q E s
theorem PWd.pt {X : Cx} {e : Expr} {f : DSt → M Bool} (h : PWd X e f) : PTd X e f := h _
def PAd (X : Cx) (es : List Expr) (f : DSt → M (List D)) : Prop := ∀ (pos : Pos) (pins : Pins) (s : Shared) (σ : L2.St) (H : Hp) (J : List Addr) (r : DSt) (S : List Cell) (Q : List Value → Shared → Prop) (E : Value → Shared → Prop),
  At X pins σ H J r S s → MtA X pins σ H J (f r S) Q E → wpAny (model X.prog X.w) X.A (spliced (backTo pos (starEach es X.env))) Q E s
def OpD (X : Cx) (f : Value → Value → Sem Value) (g : D → D → M D) : Prop := ∀ (pins : Pins) (s : Shared) (σ : L2.St) (H : Hp) (J : List Addr) (S : List Cell) (x y : D) (vx vy : V) (v u : Value) (Q E : Value → Shared → Prop),
  Inv X pins σ H s → RepS X.K H J S → RepV X.K H J x vx → RepV X.K H J y vy → RelV vx v → RelV vy u → Mt X pins σ H J (g x y S) Q E → wpAny (model X.prog X.w) X.A (f v u) Q E s
def UnD (X : Cx) (f : Value → Sem Value) (g : D → M D) : Prop := ∀ (pins : Pins) (s : Shared) (σ : L2.St) (H : Hp) (J : List Addr) (S : List Cell) (x : D) (vx : V) (v : Value) (Q E : Value → Shared → Prop),
  Inv X pins σ H s → RepS X.K H J S → RepV X.K H J x vx → RelV vx v → Mt X pins σ H J (g x S) Q E → wpAny (model X.prog X.w) X.A (f v) Q E s
def CallD (X : Cx) (f : Value) (g : List D → M D) : Prop := ∀ (pins : Pins) (s : Shared) (σ : L2.St) (H : Hp) (J : List Addr) (S : List Cell) (xs : List D) (vs : List V) (us : List Value) (Q E : Value → Shared → Prop),
  Inv X pins σ H s → RepS X.K H J S → RepVs X.K H J xs vs → Vals vs us → Mt X pins σ H J (g xs S) Q E → wpAny (model X.prog X.w) X.A (call f us) Q E s
section
variable {X : Cx} {a b c : Expr} {fa fb fc : DSt → M D} {pos : Pos}
theorem EP.unwish {pins : Pins} {σ : L2.St} {E : Value → Shared → Prop} {Q : VK} {u : Value} {s' : Shared} (h : EP (X.wish E) pins σ Q u s') : EP X pins σ Q u s' := let ⟨v, H', I, r, q⟩ := h; ⟨v, H', I.unwish, r, q⟩
theorem OpD.of {f : Value → Value → Sem Value} {r : R2} {g : D → D → M D} (h : ∀ E, OpR (X.wish E) f r)
    (hg : ∀ (H : Hp) (J : List Addr) (S : List Cell) (x y : D) (vx vy : V) (d : D) (S' : List Cell), RepS X.K H J S → RepV X.K H J x vx → RepV X.K H J y vy → g x y S = .ok d S' → r vx vy H (Got X.K H J d S'))
    (hn : ∀ x y S c S', g x y S ≠ .exc c S') : OpD X f g := by
  intro pins s σ H J S x y vx vy v u Q E I rs rx ry rv ru m
  cases e : g x y S with
  | ok d S' =>
    rw [e] at m
    exact wpAny_mono (h E pins s σ H vx vy v u _ (I.wish E) rv ru (hg H J S x y vx vy d S' rs rx ry e)) (fun u s' q => m u s' (EP.unwish q)) fun _ _ z => z
  | exc c S' => exact absurd e (hn _ _ _ _ _)
  | bad => rw [e] at m; exact m.elim
theorem UnD.of {f : Value → Sem Value} {r : V → Hp → VK → Prop} {g : D → M D} (h : ∀ E, UnR (X.wish E) f r)
    (hg : ∀ (H : Hp) (J : List Addr) (S : List Cell) (x : D) (vx : V) (d : D) (S' : List Cell), RepS X.K H J S → RepV X.K H J x vx → g x S = .ok d S' → r vx H (Got X.K H J d S'))
    (hn : ∀ x S c S', g x S ≠ .exc c S') : UnD X f g := by
  intro pins s σ H J S x vx v Q E I rs rx rv m
  cases e : g x S with
  | ok d S' =>
    rw [e] at m
    exact wpAny_mono (h E pins s σ H vx v _ (I.wish E) rv (hg H J S x vx d S' rs rx e)) (fun u s' q => m u s' (EP.unwish q)) fun _ _ z => z
  | exc c S' => exact absurd e (hn _ _ _ _)
  | bad => rw [e] at m; exact m.elim
theorem CallD.of {f : Value} {r : List V → Hp → VK → Prop} {g : List D → M D} (h : ∀ E, CallR (X.wish E) f r)
    (hg : ∀ (H : Hp) (J : List Addr) (S : List Cell) (xs : List D) (vs : List V) (d : D) (S' : List Cell), RepS X.K H J S → RepVs X.K H J xs vs → g xs S = .ok d S' → r vs H (Got X.K H J d S'))
    (hn : ∀ xs S c S', g xs S ≠ .exc c S') : CallD X f g := by
  intro pins s σ H J S xs vs us Q E I rs rx rv m
  cases e : g xs S with
  | ok d S' =>
    rw [e] at m
    exact wpAny_mono (h E pins s σ H vs us _ (I.wish E) rv (hg H J S xs vs d S' rs rx e)) (fun u s' q => m u s' (EP.unwish q)) fun _ _ z => z
  | exc c S' => exact absurd e (hn _ _ _ _)
  | bad => rw [e] at m; exact m.elim
theorem go2 (ha : PEd X a fa) (hb : PEd X b fb) {f : Value → Value → Sem Value} {g : D → D → M D} (ho : OpD X f g) {Q E : Value → Shared → Prop} {pins : Pins} {s : Shared} {σ : L2.St} {H : Hp} {J : List Addr} {r : DSt} {S : List Cell}
    (I : At X pins σ H J r S s) (m : Mt X pins σ H J ((fa r).bind (fun x => (fb r).bind fun y => g x y) S) Q E) :
    wpAny (model X.prog X.w) X.A (eval a X.env) (fun v s₁ => wpAny (model X.prog X.w) X.A (eval b X.env) (fun u s₂ => wpAny (model X.prog X.w) X.A (f v u) Q E s₂) E s₁) E s := by
  refine ha pins s σ H J r S _ E I ?_
  unfold M.bind at m
  cases e : fa r S with
  | bad => rw [e] at m; exact m
  | exc c S1 => rw [e] at m; exact m
  | ok x S1 =>
    rw [e] at m
    intro u s' ⟨vx, H1, I1, r1, J1, ex, rs, rv⟩
    refine hb pins s' σ H1 J1 r S1 _ E ⟨I1, I.loc.ext ex, rs⟩ ?_
    dsimp only at m
    cases e2 : fb r S1 with
    | bad => rw [e2] at m; exact m
    | exc c S2 => rw [e2] at m; exact Mt.ext (r := .exc c S2) (Q := fun _ _ => True) ex m
    | ok y S2 =>
      rw [e2] at m
      intro u2 s2 ⟨vy, H2, I2, r2, J2, ex2, rs2, rv2⟩
      exact ho pins s2 σ H2 J2 S2 x y vx vy u u2 Q E I2 rs2 (rv.ext ex2) rv2 r1 r2 (Mt.ext (ex.trans ex2) m)
def dOp (g : D → D → M D) (fa fb : DSt → M D) : DSt → M D := fun r => (fa r).bind fun x => (fb r).bind fun y => g x y
theorem pd_op {op : Operator} {g : D → D → M D} (ho : OpD X (binaryOp op) g) (ha : PEd X a fa) (hb : PEd X b fb) : PEd X (.BinOp a op b pos) (dOp g fa fb) :=
  fun pins s σ H J r S Q E I m => wpAny_BinOp (go2 ha hb ho I m)
theorem pd_cmp {op : CmpOp} {g : D → D → M D} (ho : OpD X (compareOp op) g) (ha : PEd X a fa) (hb : PEd X b fb) (hm : behindInMarks op b = false) : PEd X (.Compare a [op] [b] pos) (dOp g fa fb) :=
  fun pins s σ H J r S Q E I m => wpAny_Compare1 (go2 ha hb ho I m) hm
def dVar (i : Nat) : DSt → M D := fun r S => match r[i]? with
  | some (some d) => .ok d S
  | _ => .bad
def dC (d : D) : DSt → M D := fun _ S => .ok d S
theorem Mt.ok_ {pins : Pins} {s : Shared} {σ : L2.St} {H : Hp} {J : List Addr} {S : List Cell} {d : D} {v : V} {u : Value} {Q E : Value → Shared → Prop} (m : Mt X pins σ H J (.ok d S) Q E) (I : Inv X pins σ H s) (rs : RepS X.K H J S) (rv : RepV X.K H J d v) (r : RelV v u) : Q u s :=
  m u s ⟨v, H, I, r, J, Ext.refl _ _, rs, rv⟩
theorem pd_var (i : Nat) {x : Str} (hN : X.N[i]? = some x := by rfl) (hv : Vis X.env.scope x := by first | exact Or.inl rfl | exact Or.inr (Or.inl rfl) | exact Or.inr (Or.inr rfl)) (hd : (x == ("__debug__" : Str)) = false := by decide)
    (hcd : (x == ("__classdict__" : Str)) = false := by decide) : PEd X (.Name x pos) (dVar i) := by
  intro pins s σ H J r S Q E I m
  unfold dVar at m
  cases e : r[i]? with
  | none => rw [e] at m; exact m.elim
  | some o =>
    cases o with
    | none => rw [e] at m; exact m.elim
    | some d =>
      rw [e] at m
      obtain ⟨v, h1, h2⟩ := I.loc.at_ i d e
      exact wpAny_mono (pe_var (X := X.wish E) hN hv hd hcd pins s σ H (Got X.K H J d S) (I.inv.wish E) ⟨v, h1, J, Ext.refl _ _, I.st, h2⟩) (fun u s' q => m u s' (EP.unwish q)) fun _ _ z => z
theorem pd_int {i j pos} : PEd X (.Constant (.int i) j pos) (dC (.int i)) := fun pins s σ H J r S Q E I m =>
  wpAny_Constant_int (m.ok_ (I.inv.tok _) I.st (v := .int i) (by unfold RepV; rfl) ⟨_, rfl⟩)
theorem pd_bl {i j pos} : PEd X (.Constant (.bool i) j pos) (dC (.bl i)) := fun pins s σ H J r S Q E I m =>
  Constant_bool (m.ok_ I.inv I.st (v := .bl i) (by unfold RepV; rfl) rfl)
theorem pd_str {i j pos} : PEd X (.Constant (.str i) j pos) (dC (.str i)) := fun pins s σ H J r S Q E I m =>
  Calls.Constant_str (m.ok_ (I.inv.tok _) I.st (v := .str i) (by unfold RepV; rfl) ⟨_, rfl⟩)
def KRep (K : PySem.W.Frag) (d : D) (u : Value) : Prop := ∀ H J, ∃ v, RelV v u ∧ RepV K H J d v
def bof : D → M Bool
  | .bl b => fun S => .ok b S
  | _ => fun _ => .bad
def dTest (f : DSt → M D) : DSt → M Bool := fun r => (f r).bind bof
theorem RepV.bl_ {K : PySem.W.Frag} {H : Hp} {J : List Addr} {b : Bool} {v : V} (h : RepV K H J (.bl b) v) : v = .bl b := by unfold RepV at h; exact h
theorem RepV.int_ {K : PySem.W.Frag} {H : Hp} {J : List Addr} {b : Int} {v : V} (h : RepV K H J (.int b) v) : v = .int b := by unfold RepV at h; exact h
theorem RepV.str_ {K : PySem.W.Frag} {H : Hp} {J : List Addr} {b : Str} {v : V} (h : RepV K H J (.str b) v) : v = .str b := by unfold RepV at h; exact h
theorem RepV.non_ {K : PySem.W.Frag} {H : Hp} {J : List Addr} {v : V} (h : RepV K H J .non v) : v = .non := by unfold RepV at h; exact h
theorem RepV.tup_ {K : PySem.W.Frag} {H : Hp} {J : List Addr} {xs : List D} {v : V} (h : RepV K H J (.tup xs) v) : ∃ a vs, v = .ref a ∧ SqT K H a vs ∧ RepVs K H J xs vs := by unfold RepV at h; exact h
theorem RepV.rol_ {K : PySem.W.Frag} {H : Hp} {J : List Addr} {xs : List D} {v : V} (h : RepV K H J (.rol xs) v) : ∃ a vs, v = .ref a ∧ RoL K H a vs ∧ RepVs K H J xs vs := by unfold RepV at h; exact h
theorem RepV.ob_ {K : PySem.W.Frag} {H : Hp} {J : List Addr} {n : Nat} {v : V} (h : RepV K H J (.ob n) v) : ∃ a, v = .ref a ∧ J[n]? = some a := by unfold RepV at h; exact h
theorem RepV.int (K : PySem.W.Frag) (H : Hp) (J : List Addr) (b : Int) : RepV K H J (.int b) (.int b) := by unfold RepV; rfl
theorem RepV.bl (K : PySem.W.Frag) (H : Hp) (J : List Addr) (b : Bool) : RepV K H J (.bl b) (.bl b) := by unfold RepV; rfl
theorem RepV.str (K : PySem.W.Frag) (H : Hp) (J : List Addr) (b : Str) : RepV K H J (.str b) (.str b) := by unfold RepV; rfl
theorem RepV.non (K : PySem.W.Frag) (H : Hp) (J : List Addr) : RepV K H J .non .non := by unfold RepV; rfl
theorem RepV.tup {K : PySem.W.Frag} {H : Hp} {J : List Addr} {xs : List D} {a : Addr} {vs : List V} (h : SqT K H a vs) (g : RepVs K H J xs vs) : RepV K H J (.tup xs) (.ref a) := by unfold RepV; exact ⟨a, vs, rfl, h, g⟩
theorem RepV.ob {K : PySem.W.Frag} {H : Hp} {J : List Addr} {n : Nat} {a : Addr} (h : J[n]? = some a) : RepV K H J (.ob n) (.ref a) := by unfold RepV; exact ⟨a, rfl, h⟩
theorem MtB.of_test {pins : Pins} {σ : L2.St} {H : Hp} {J : List Addr} {rd : R D} {S : List Cell} {f : DSt → M D} {r : DSt} {Q : Bool → Shared → Prop} {E : Value → Shared → Prop} (m : MtB X pins σ H J (dTest f r S) Q E) :
    Mt X pins σ H J (f r S) (fun v s' => wpAny (model X.prog X.w) X.A (truthy v) Q E s') E := by
  unfold dTest M.bind at m
  cases e : f r S with
  | bad => rw [e] at m; exact m
  | exc c S1 => rw [e] at m; exact m
  | ok x S1 =>
    rw [e] at m
    intro u s' ⟨vx, H1, I1, r1, J1, ex, rs, rv⟩
    cases x with
    | bl b =>
      cases rv.bl_
      cases r1
      exact wpAny_truthy_bool (m s' ⟨H1, I1, J1, ex, rs⟩)
    | _ => exact m.elim
theorem pt_cmpD {op : CmpOp} {g : D → D → M D} (ho : OpD X (compareOp op) g) (ha : PEd X a fa) (hb : PEd X b fb) (hm : behindInMarks op b = false) : PTd X (.Compare a [op] [b] pos) (dTest (dOp g fa fb)) := by
  intro pins s σ H J r S Q E I m
  refine wpAny_isTrue_Compare1 ?_ hm
  have m' := MtB.of_test (rd := .bad) m
  have := go2 ha hb ho I m'
  exact this
def dAnd (t u : DSt → M Bool) : DSt → M Bool := fun r => (t r).bind fun c => if c = true then u r else M.ret false
def dOr (t u : DSt → M Bool) : DSt → M Bool := fun r => (t r).bind fun c => if c = true then M.ret true else u r
def dNot (t : DSt → M Bool) : DSt → M Bool := fun r => (t r).bind fun c => M.ret (!c)
variable {tA tB' : DSt → M Bool} {rest : List Expr}
theorem goB {t : Sem Bool} {f : M Bool} {k : Bool → M Bool} {pins : Pins} {s : Shared} {σ : L2.St} {H : Hp} {J : List Addr} {r : DSt} {S : List Cell} {Q : Bool → Shared → Prop} {Q' : Bool → Shared → Prop} {E : Value → Shared → Prop} (I : At X pins σ H J r S s)
    (ha : ∀ Q1, MtB X pins σ H J (f S) Q1 E → wpAny (model X.prog X.w) X.A t Q1 E s) (m : MtB X pins σ H J (f.bind k S) Q E)
    (hk : ∀ c S1 s1 H1 J1, At X pins σ H1 J1 r S1 s1 → MtB X pins σ H1 J1 (k c S1) Q E → Q' c s1) : wpAny (model X.prog X.w) X.A t Q' E s := by
  refine ha _ ?_
  unfold M.bind at m
  cases e : f S with
  | bad => rw [e] at m; exact m
  | exc c S1 => rw [e] at m; exact m
  | ok x S1 =>
    rw [e] at m
    intro s' ⟨H1, I1, J1, ex, rs⟩
    exact hk x S1 s' H1 J1 ⟨I1, I.loc.ext ex, rs⟩ (MtB.ext ex m)
theorem pwd_and1 (ha : PTd X a tA) : PWd X (.BoolOp .And [a] pos) tA := by
  intro wh pins s σ H J r S Q E I m
  refine isTrue_and (ha pins s σ H J r S _ E I ?_)
  cases e : tA r S with
  | bad => rw [e] at m; exact m
  | exc c S1 => rw [e] at m; exact m
  | ok x S1 =>
    rw [e] at m
    intro s' h
    cases x with
    | true => exact isTrue_and_nil (m s' h)
    | false => exact m s' h
theorem pwd_or1 (ha : PTd X a tA) : PWd X (.BoolOp .Or [a] pos) tA := by
  intro wh pins s σ H J r S Q E I m
  refine isTrue_or (ha pins s σ H J r S _ E I ?_)
  cases e : tA r S with
  | bad => rw [e] at m; exact m
  | exc c S1 => rw [e] at m; exact m
  | ok x S1 =>
    rw [e] at m
    intro s' h
    cases x with
    | false => exact isTrue_or_nil (m s' h)
    | true => exact m s' h
theorem MtB.ok_ {pins : Pins} {s : Shared} {σ : L2.St} {H : Hp} {J : List Addr} {r : DSt} {S : List Cell} {b : Bool} {Q : Bool → Shared → Prop} {E : Value → Shared → Prop} (m : MtB X pins σ H J (.ok b S) Q E) (I : At X pins σ H J r S s) : Q b s :=
  m s ⟨H, I.inv, J, Ext.refl _ _, I.st⟩
theorem pwd_and (ha : PTd X a tA) (hb : PWd X (.BoolOp .And (b :: rest) pos) tB') : PWd X (.BoolOp .And (a :: b :: rest) pos) (dAnd tA tB') := by
  intro wh pins s σ H J r S Q E I m
  refine isTrue_and (goB (r := r) I (fun Q1 => ha pins s σ H J r S Q1 E I) m fun c S1 s1 H1 J1 I1 m1 => ?_)
  cases c with
  | true => exact hb wh pins s1 σ H1 J1 r S1 Q E I1 m1
  | false => exact m1.ok_ I1
theorem pwd_or (ha : PTd X a tA) (hb : PWd X (.BoolOp .Or (b :: rest) pos) tB') : PWd X (.BoolOp .Or (a :: b :: rest) pos) (dOr tA tB') := by
  intro wh pins s σ H J r S Q E I m
  refine isTrue_or (goB (r := r) I (fun Q1 => ha pins s σ H J r S Q1 E I) m fun c S1 s1 H1 J1 I1 m1 => ?_)
  cases c with
  | false => exact hb wh pins s1 σ H1 J1 r S1 Q E I1 m1
  | true => exact m1.ok_ I1
def dAndV (fa fb : DSt → M D) : DSt → M D := fun r => (dTest fa r).bind fun c => if c = true then fb r else M.ret (.bl false)
def dOrV (fa fb : DSt → M D) : DSt → M D := fun r => (dTest fa r).bind fun c => if c = true then M.ret (.bl true) else fb r
def dNotV (fa : DSt → M D) : DSt → M D := fun r => (dTest fa r).bind fun c => M.ret (.bl (!c))
def dIf (t : DSt → M Bool) (fa fb : DSt → M D) : DSt → M D := fun r => (t r).bind fun c => if c = true then fa r else fb r
def dChain (g g' : D → D → M D) (fa fb fc : DSt → M D) : DSt → M D := fun r => (fa r).bind fun x => (fb r).bind fun y => ((g x y).bind bof).bind fun k => if k = true then (fc r).bind fun z => g' y z else M.ret (.bl false)
end
end DL
namespace DL
open PySem PySem.Spec PyProof.Rows L2
section
variable {X : Cx} {a b c : Expr} {fa fb fc : DSt → M D} {pos : Pos}
theorem pd_chain {op op' : CmpOp} {g g' : D → D → M D} (ho : OpD X (compareOp op) g) (ho' : OpD X (compareOp op') g') (ha : PEd X a fa) (hb : PEd X b fb) (hc : PEd X c fc)
    (hm : lastMarks [op, op'] [b, c] = false := by with_unfolding_all rfl) : PEd X (.Compare a [op, op'] [b, c] pos) (dChain g g' fa fb fc) := by
  intro pins s σ H J r S Q E I m
  refine Compare_chain (ha pins s σ H J r S _ E I ?_) hm
  unfold dChain M.bind at m
  cases e1 : fa r S with
  | bad => rw [e1] at m; exact m
  | exc c S1 => rw [e1] at m; exact m
  | ok x S1 =>
    rw [e1] at m
    intro v s1 ⟨vx, H1, I1, r1, J1, ex1, rs1, rv1⟩
    refine chain_link (hb pins s1 σ H1 J1 r S1 _ E ⟨I1, I.loc.ext ex1, rs1⟩ ?_)
    have m := Mt.ext ex1 m
    dsimp only at m
    cases e2 : fb r S1 with
    | bad => rw [e2] at m; exact m
    | exc c S2 => rw [e2] at m; exact m
    | ok y S2 =>
      rw [e2] at m
      intro u s2 ⟨vy, H2, I2, r2, J2, ex2, rs2, rv2⟩
      have m := Mt.ext ex2 m
      dsimp only at m
      refine ho pins s2 σ H2 J2 S2 x y vx vy v u _ E I2 rs2 (rv1.ext ex2) rv2 r1 r2 ?_
      cases e3 : g x y S2 with
      | bad => rw [e3] at m; exact m
      | exc c S3 => rw [e3] at m; exact m
      | ok z S3 =>
        rw [e3] at m
        intro w s3 ⟨vz, H3, I3, r3, J3, ex3, rs3, rv3⟩
        have m := Mt.ext ex3 m
        dsimp only at m
        cases z with
        | bl k =>
          cases rv3.bl_
          cases r3
          refine wpAny_truthy_bool ?_
          cases k with
          | false => exact ite_ff (m.ok_ I3 rs3 (RepV.bl _ _ _ false) rfl)
          | true =>
            refine ite_tt (chain_last (hc pins s3 σ H3 J3 r S3 _ E ⟨I3, ((I.loc.ext ex1).ext ex2).ext ex3, rs3⟩ ?_))
            simp only [bof, if_true, M.bind] at m
            cases e4 : fc r S3 with
            | bad => rw [e4] at m; exact m
            | exc c S4 => rw [e4] at m; exact m
            | ok z S4 =>
              rw [e4] at m
              intro w s4 ⟨vz, H4, I4, r4, J4, ex4, rs4, rv4⟩
              exact ho' pins s4 σ H4 J4 S4 y z vy vz u w _ E I4 rs4 ((rv2.ext ex3).ext ex4) rv4 r2 r4 (Mt.ext ex4 m)
        | _ => exact m.elim
def dNil : DSt → M (List D) := fun _ => M.ret []
def dCons (f : DSt → M D) (g : DSt → M (List D)) : DSt → M (List D) := fun r => (f r).bind fun x => (g r).bind fun xs => M.ret (x :: xs)
variable {e : Expr} {es : List Expr} {fe : DSt → M D} {ft : DSt → M (List D)}
theorem pad_nil : PAd X [] dNil := fun _ pins s σ H J r S Q E I m => Calls.spliced_nil (m [] s ⟨[], H, I.inv, .nil, J, Ext.refl _ _, I.st, .nil⟩)
theorem pad_cons (ha : PEd X e fe) (hr : PAd X es ft) (hs : starEach (e :: es) X.env = (false, eval e X.env) :: starEach es X.env := by rfl) : PAd X (e :: es) (dCons fe ft) := by
  intro pos pins s σ H J r S Q E I m
  rw [hs]
  show wpAny _ _ (spliced ((false, eval e X.env) :: backTo pos (starEach es X.env))) _ _ s
  refine Calls.spliced_cons (ha pins s σ H J r S _ E I ?_)
  unfold dCons M.bind at m
  cases e1 : fe r S with
  | bad => rw [e1] at m; exact m
  | exc c S1 => rw [e1] at m; exact m
  | ok x S1 =>
    rw [e1] at m
    intro v s1 ⟨vx, H1, I1, r1, J1, ex1, rs1, rv1⟩
    refine hr pos pins s1 σ H1 J1 r S1 _ E ⟨I1, I.loc.ext ex1, rs1⟩ ?_
    have m := MtA.ext ex1 m
    dsimp only at m
    cases e2 : ft r S1 with
    | bad => rw [e2] at m; exact m
    | exc c S2 => rw [e2] at m; exact m
    | ok xs S2 =>
      rw [e2] at m
      intro us s2 ⟨vs, H2, I2, r2, J2, ex2, rs2, rv2⟩
      exact m (v :: us) s2 ⟨vx :: vs, H2, I2, .cons r1 r2, J2, ex2, rs2, .cons (rv1.ext ex2) rv2⟩
theorem goA (h : PAd X es ft) {k : List D → M D} {pins : Pins} {s : Shared} {σ : L2.St} {H : Hp} {J : List Addr} {r : DSt} {S : List Cell} {Q E : Value → Shared → Prop} {Q' : List Value → Shared → Prop} (I : At X pins σ H J r S s)
    (m : Mt X pins σ H J ((ft r).bind k S) Q E) (hk : ∀ xs S1 s1 H1 J1 vs us, At X pins σ H1 J1 r S1 s1 → RepVs X.K H1 J1 xs vs → Vals vs us → Mt X pins σ H1 J1 (k xs S1) Q E → Q' us s1) (pos : Pos) :
    wpAny (model X.prog X.w) X.A (spliced (backTo pos (starEach es X.env))) Q' E s := by
  refine h pos pins s σ H J r S _ E I ?_
  unfold M.bind at m
  cases e1 : ft r S with
  | bad => rw [e1] at m; exact m
  | exc c S1 => rw [e1] at m; exact m
  | ok x S1 =>
    rw [e1] at m
    intro us s1 ⟨vs, H1, I1, r1, J1, ex1, rs1, rv1⟩
    exact hk x S1 s1 H1 J1 vs us ⟨I1, I.loc.ext ex1, rs1⟩ rv1 r1 (Mt.ext ex1 m)
noncomputable def newTup (xs : List D) : M D := fun S => cif (xs.length ≤ sizeLine) (.ok (.tup xs) S) .bad
noncomputable def newLst (xs : List D) : M D := fun S => cif (xs.length ≤ sizeLine) (.ok (.ob S.length) (S ++ [.lst xs])) .bad
theorem Got.tup {K : PySem.W.Frag} {H : Hp} {J : List Addr} {S : List Cell} {xs : List D} {vs : List V} {p : Addr} (rs : RepS K H J S) (rv : RepVs K H J xs vs) (hp : H p = none) : Got K H J (.tup xs) S (.ref p) (upd H p (.tup vs)) :=
  ⟨J, Ext.new hp, rs.new hp, .tup (SqT.of upd_same) (rv.ext (Ext.new hp))⟩
theorem Got.lst {K : PySem.W.Frag} {H : Hp} {J : List Addr} {S : List Cell} {xs : List D} {vs : List V} {p : Addr} (rs : RepS K H J S) (rv : RepVs K H J xs vs) (hp : H p = none) : Got K H J (.ob S.length) (S ++ [.lst xs]) (.ref p) (upd H p (.lst vs)) :=
  ⟨J ++ [p], (Ext.new hp).snoc _, rs.push hp ⟨vs, upd_same, rv.ext ((Ext.new hp).snoc _)⟩, .ob (by rw [← rs.len]; simp)⟩
theorem Mt.val {pins : Pins} {s : Shared} {σ : L2.St} {H H' : Hp} {J : List Addr} {S : List Cell} {d : D} {v : V} {u : Value} {Q E : Value → Shared → Prop} (m : Mt X pins σ H J (.ok d S) Q E) (I : Inv X pins σ H' s) (r : RelV v u) (g : Got X.K H J d S v H') : Q u s :=
  m u s ⟨v, H', I, r, g⟩
noncomputable def dTup (ft : DSt → M (List D)) : DSt → M D := fun r => (ft r).bind newTup
noncomputable def dLst (ft : DSt → M (List D)) : DSt → M D := fun r => (ft r).bind newLst
theorem pd_tup {x1} (h : PAd X es ft) : PEd X (.Tuple es x1 pos) (dTup ft) := by
  intro pins s σ H J r S Q E I m
  refine wpAny_Tuple_spliced (goA h I m (fun xs S1 s1 H1 J1 vs us I1 rv r1 m1 => ?_) pos)
  unfold newTup cif at m1
  split at m1
  · rename_i z
    have z' : vs.length ≤ sizeLine := by rw [rv.length]; exact z
    refine ⟨by rw [← r1.length]; exact z', ?_⟩
    have hf : H1 s1.heap.objs.size = none := I1.inv.hok.fresh (Nat.le_refl _)
    refine m1.val (H' := upd H1 s1.heap.objs.size (.tup vs)) (v := .ref s1.heap.objs.size) (I1.inv.laid (t' := s1.toks) (fun b u e => Heap.get?_push_of_some _ e) (Nat.le_refl _) ?_) rfl (Got.tup I1.st rv hf)
    exact ⟨z', us, r1, ⟨_, Heap.get?_push_size _ rfl, rfl, _, rfl⟩⟩
  · exact m1.elim
theorem pd_lst (h : PAd X es ft) : PEd X (.List es pos) (dLst ft) := by
  intro pins s σ H J r S Q E I m
  refine wpAny_List_spliced (goA h I m (fun xs S1 s1 H1 J1 vs us I1 rv r1 m1 => ?_) pos)
  unfold newLst cif at m1
  split at m1
  · rename_i z
    have z' : vs.length ≤ sizeLine := by rw [rv.length]; exact z
    refine ⟨by rw [← r1.length]; exact z', ?_⟩
    have hf : H1 s1.heap.objs.size = none := I1.inv.hok.fresh (Nat.le_refl _)
    refine m1.val (H' := upd H1 s1.heap.objs.size (.lst vs)) (v := .ref s1.heap.objs.size) (I1.inv.laid (t' := s1.toks) (fun b u e => Heap.get?_push_of_some _ e) (Nat.le_refl _) ?_) rfl (Got.lst I1.st rv hf)
    exact ⟨z', us, 0, r1, Heap.get?_push_size _ rfl⟩
  · exact m1.elim
def IxD (X : Cx) (g : D → D → M D) : Prop := ∀ (value slice : Expr) (pins : Pins) (s : Shared) (σ : L2.St) (H : Hp) (J : List Addr) (S : List Cell) (x y : D) (vx vy : V) (v u : Value) (Q E : Value → Shared → Prop),
  Inv X pins σ H s → RepS X.K H J S → RepV X.K H J x vx → RepV X.K H J y vy → RelV vx v → RelV vy u → subscripted slice false v u = operate [v, u] (getItem v u) → Mt X pins σ H J (g x y S) Q E → wpAny (model X.prog X.w) X.A (subscriptTail value slice v u) Q E s
theorem IxD.of {r : R2} {g : D → D → M D} (h : ∀ E, IxR (X.wish E) r)
    (hg : ∀ (H : Hp) (J : List Addr) (S : List Cell) (x y : D) (vx vy : V) (d : D) (S' : List Cell), RepS X.K H J S → RepV X.K H J x vx → RepV X.K H J y vy → g x y S = .ok d S' → r vx vy H (Got X.K H J d S'))
    (hn : ∀ x y S c S', g x y S ≠ .exc c S') : IxD X g := by
  intro value slice pins s σ H J S x y vx vy v u Q E I rs rx ry rv ru hs m
  cases e : g x y S with
  | ok d S' =>
    rw [e] at m
    exact wpAny_mono (h E value slice pins s σ H vx vy v u _ (I.wish E) rv ru (hg H J S x y vx vy d S' rs rx ry e) hs) (fun u s' q => m u s' (EP.unwish q)) fun _ _ z => z
  | exc c S' => exact absurd e (hn _ _ _ _ _)
  | bad => rw [e] at m; exact m.elim
theorem pd_ix {g : D → D → M D} (hr : IxD X g) (ha : PEd X a fa) (hb : PEd X b fb) (hs : PlainIx b) : PEd X (.Subscript a b pos) (dOp g fa fb) := by
  intro pins s σ H J r S Q E I m
  refine Subscript_ (ha pins s σ H J r S _ E I ?_)
  unfold dOp M.bind at m
  cases e : fa r S with
  | bad => rw [e] at m; exact m
  | exc c S1 => rw [e] at m; exact m
  | ok x S1 =>
    rw [e] at m
    intro u s' ⟨vx, H1, I1, r1, J1, ex, rs, rv⟩
    refine hb pins s' σ H1 J1 r S1 _ E ⟨I1, I.loc.ext ex, rs⟩ ?_
    dsimp only at m
    have m := Mt.ext ex m
    cases e2 : fb r S1 with
    | bad => rw [e2] at m; exact m
    | exc c S2 => rw [e2] at m; exact m
    | ok y S2 =>
      rw [e2] at m
      intro u2 s2 ⟨vy, H2, I2, r2, J2, ex2, rs2, rv2⟩
      exact hr a b pins s2 σ H2 J2 S2 x y vx vy u u2 Q E I2 rs2 (rv.ext ex2) rv2 r1 r2 (hs _ _) (Mt.ext ex2 m)
def MtO (X : Cx) (pins : Pins) (σ : L2.St) (H : Hp) (J : List Addr) (r : R (Option Int)) (Q : Value → Shared → Prop) (E : Value → Shared → Prop) : Prop := match r with
  | .ok o S' => ∀ u s' H', Inv X pins σ H' s' → Gone X.K H J S' H' → IsPart u o → Q u s'
  | .exc c S' => ∀ e s', XP X pins σ c (Gone X.K H J S') e s' → E e s'
  | .bad => False
def POd (X : Cx) (e : Option Expr) (f : DSt → M (Option Int)) : Prop := ∀ (pins : Pins) (s : Shared) (σ : L2.St) (H : Hp) (J : List Addr) (r : DSt) (S : List Cell) (Q E : Value → Shared → Prop),
  At X pins σ H J r S s → MtO X pins σ H J (f r S) Q E → wpAny (model X.prog X.w) X.A (evalPart e X.env) Q E s
def dNoPart : DSt → M (Option Int) := fun _ => M.ret none
def intOf : D → M (Option Int)
  | .int i => M.ret (some i)
  | _ => M.bad
def dPart (f : DSt → M D) : DSt → M (Option Int) := fun r => (f r).bind intOf
theorem pod_none : POd X none dNoPart := by
  intro pins s σ H J r S Q E I m
  rw [evalPart_none]
  exact wpAny_pure (m .none s H I.inv ⟨J, Ext.refl _ _, I.st⟩ .none)
theorem pod_some (h : PEd X e fe) : POd X (some e) (dPart fe) := by
  intro pins s σ H J r S Q E I m
  rw [evalPart_some]
  refine h pins s σ H J r S _ E I ?_
  unfold dPart M.bind at m
  cases e1 : fe r S with
  | bad => rw [e1] at m; exact m
  | exc c S1 => rw [e1] at m; exact m
  | ok x S1 =>
    rw [e1] at m
    intro u s' ⟨vx, H1, I1, r1, J1, ex, rs, rv⟩
    cases x with
    | int i =>
      cases rv.int_
      obtain ⟨t, rfl⟩ := r1
      exact m _ s' H1 I1 ⟨J1, ex, rs⟩ (.int i t)
    | _ => exact m.elim
def SlD (X : Cx) (g : D → Option Int → Option Int → M D) : Prop := ∀ (pins : Pins) (s : Shared) (σ : L2.St) (H : Hp) (J : List Addr) (S : List Cell) (x : D) (vx : V) (v vl vu : Value) (lo hi : Option Int) (sl : Addr) (Q E : Value → Shared → Prop),
  Inv X pins σ H s → RepS X.K H J S → RepV X.K H J x vx → RelV vx v → s.heap.IsSliceOf sl vl vu .none → IsPart vl lo → IsPart vu hi → Mt X pins σ H J (g x lo hi S) Q E →
    ∃ T id, typeLookup (.type T) "__getitem__" = pure (some (.builtin id)) ∧ s.TypeIs v T ∧ wpAny (model X.prog X.w) X.A (getItem v (.ref sl)) Q E s
def dSl (g : D → Option Int → Option Int → M D) (fe : DSt → M D) (fl fh : DSt → M (Option Int)) : DSt → M D := fun r => (fe r).bind fun x => (fl r).bind fun l => (fh r).bind fun h => g x l h
theorem pd_slice {g : D → Option Int → Option Int → M D} {lo hi : Option Expr} {fl fh : DSt → M (Option Int)} {p2 : Pos} (hr : SlD X g) (he : PEd X e fe) (hl : POd X lo fl) (hu : POd X hi fh) : PEd X (.Subscript e (.Slice lo hi none p2) pos) (dSl g fe fl fh) := by
  intro pins s σ H J r S Q E I m
  refine Subscript_ (he pins s σ H J r S _ E I ?_)
  unfold dSl M.bind at m
  cases e1 : fe r S with
  | bad => rw [e1] at m; exact m
  | exc c S1 => rw [e1] at m; exact m
  | ok x S1 =>
    rw [e1] at m
    intro v s1 ⟨vx, H1, I1, r1, J1, ex1, rs1, rv1⟩
    refine wpAny_Slice (hl pins s1 σ H1 J1 r S1 _ E ⟨I1, I.loc.ext ex1, rs1⟩ ?_)
    have m := Mt.ext ex1 m
    dsimp only at m
    cases e2 : fl r S1 with
    | bad => rw [e2] at m; exact m
    | exc c S2 => rw [e2] at m; exact m
    | ok l S2 =>
      rw [e2] at m
      intro vl s2 H2 I2 ⟨J2, ex2, rs2⟩ pl
      have m := Mt.ext ex2 m
      dsimp only at m
      refine hu pins s2 σ H2 J2 r S2 _ E ⟨I2, (I.loc.ext ex1).ext ex2, rs2⟩ ?_
      cases e3 : fh r S2 with
      | bad => rw [e3] at m; exact m
      | exc c S3 => rw [e3] at m; exact m
      | ok u S3 =>
        rw [e3] at m
        intro vu s3 H3 I3 ⟨J3, ex3, rs3⟩ pu
        have m := Mt.ext ex3 m
        rw [evalPart_none]
        refine wpAny_pure ?_
        have I4 : Inv X pins σ H3 { s3 with heap := s3.heap.push { cls := .type "slice", data := .fields #[vl, vu, .none] } } := I3.kept (t' := s3.toks) fun b ob q => Heap.get?_push_of_some _ q
        obtain ⟨T, id, hT, ht, hg⟩ := hr pins { s3 with heap := s3.heap.push { cls := .type "slice", data := .fields #[vl, vu, .none] } } σ H3 J3 S3 x vx v vl vu l u s3.heap.objs.size Q E I4 rs3 ((rv1.ext ex2).ext ex3) r1 (Heap.IsSliceOf.new ..) pl pu m
        show wpAny (model X.prog X.w) X.A (subscriptTail e (.Slice lo hi none p2) v (.ref s3.heap.objs.size)) Q E { s3 with heap := s3.heap.push { cls := .type "slice", data := .fields #[vl, vu, .none] } }
        exact tail_any (ops := [.ref s3.heap.objs.size, v]) ht hT hg (by with_unfolding_all rfl)
def dCall (g : List D → M D) (ft : DSt → M (List D)) : DSt → M D := fun r => (ft r).bind g
theorem pd_callB {x : Str} {p : Pos} {id : String} {g : List D → M D} (hc : CallD X (.builtin id) g) (hg : Gl X x) (hm : X.mg x = none) (hv : bootBuiltins x = some (.builtin id)) (ha : PAd X (e :: es) ft) (hn : x ≠ "__name__" := by decide) (hdb : (x == ("__debug__" : Str)) = false := by decide)
    (he : starEach (e :: es) X.env = (false, eval e X.env) :: starEach es X.env := by rfl) (hpl : (backTo pos (starEach es X.env)).any (·.1) = false := by rfl) : PEd X (.Call (.Name x p) (e :: es) [] pos) (dCall g ft) := by
  intro pins s σ H J r S Q E I m
  refine wpAny_Call_Name_kw (ld_blt I.inv hg hm hv ?_ hn hdb)
  exact PyProof.Rows.callWith_builtin1 (goA ha I m (fun xs S1 s1 H1 J1 vs us I1 rv r1 m1 => hc pins s1 σ H1 J1 S1 xs vs us Q E I1.inv I1.st rv r1 m1) pos) he hpl
theorem pd_callTy {x : Str} {p : Pos} {T : String} {g : List D → M D} (hc : CallD X (.type T) g) (hg : Gl X x) (hm : X.mg x = none) (hv : bootBuiltins x = some (.type T)) (ha : PAd X (e :: es) ft) (hn : x ≠ "__name__" := by decide) (hdb : (x == ("__debug__" : Str)) = false := by decide)
    (he : starEach (e :: es) X.env = (false, eval e X.env) :: starEach es X.env := by rfl) (hpl : (backTo pos (starEach es X.env)).any (·.1) = false := by rfl) : PEd X (.Call (.Name x p) (e :: es) [] pos) (dCall g ft) := by
  intro pins s σ H J r S Q E I m
  refine wpAny_Call_Name_kw (ld_blt I.inv hg hm hv ?_ hn hdb)
  exact PyProof.Rows.callWith_type1 (goA ha I m (fun xs S1 s1 H1 J1 vs us I1 rv r1 m1 => hc pins s1 σ H1 J1 S1 xs vs us Q E I1.inv I1.st rv r1 m1) pos) he hpl
def spD (K : PySem.W.Frag) (n : Nat) (F : List D → M D) : Sp := fun vs H Q E => vs.length = n ∧ ∃ J xs S, RepVs K H J xs vs ∧ RepS K H J S ∧ match F xs S with
  | .ok d S' => ∀ v H', Got K H J d S' v H' → Q v H'
  | .exc c S' => ∀ H', Gone K H J S' H' → E (.ref c) none H'
  | .bad => False
def PassD (CX : CXT) (X : Cx) : Prop := ∀ (E0 : XK) (pins : Pins) (σ : L2.St) (H : Hp) (s : Shared) (e : Value) (s' : Shared), Inv X pins σ H s → CX X.stack H s E0 e s' → ∃ c H', XInv X pins σ H' s' e c ∧ E0 (.ref c) none H'
theorem passD0 : PassD CX0 X := fun _ _ _ _ _ _ _ _ h => h.elim
abbrev FnD (P : Program) (w : World) (K : PySem.W.Frag) (mg : Str → Option Value) (base : Heap) (CX : CXT) (k : Nat) (f : Addr) (fd : FuncData) (ps : List Str) (F : List D → M D) : Prop := FnOk P w K mg base CX k f fd ps (spD K ps.length F)
theorem run_fnD {CX : CXT} {k : Nat} {f : Addr} {fd : FuncData} {ps : List Str} {F : List D → M D} {pins : Pins} {σ : L2.St} {H : Hp} {J : List Addr} {S : List Cell} {s : Shared} {Q E : Value → Shared → Prop} {xs : List D} {vs : List V} {us : List Value}
    (hF : FnD X.prog X.w X.K X.mg X.base CX k f fd ps F) (hr : Room k X.A) (hb : Binds X.K fd ps []) (hx : PassD CX X) (I : Inv X pins σ H s) (rs : RepS X.K H J S) (rx : RepVs X.K H J xs vs) (rv : Vals vs us) (hl : xs.length = ps.length)
    (m : Mt X pins σ H J (F xs S) Q E) : wpAny (model X.prog X.w) X.A (call (.ref f) us) Q E s := by
  have hlen : (us ++ []).length = ps.length := by rw [List.append_nil, ← rv.length, rx.length]; exact hl
  have hbs := hb s us I.kIn hlen
  rw [List.append_nil] at hbs
  refine wpAny_call (codeAny_mono (hF.run X.A X.stack s H ⟨us, []⟩ us vs (fun v H' => ∃ d S', F xs S = .ok d S' ∧ Got X.K H J d S' v H') (fun cl _ H' => ∃ c S', F xs S = .exc c S' ∧ cl = .ref c ∧ Gone X.K H J S' H') hr I.env0 hbs rv ?_) fun rr s' hq => ?_)
  · refine ⟨by rw [rx.length]; exact hl, J, xs, S, rx, rs, ?_⟩
    cases e : F xs S with
    | ok d S' => exact fun v H' g => ⟨d, S', rfl, g⟩
    | exc c S' => exact fun H' g => ⟨c, S', rfl, rfl, g⟩
    | bad => rw [e] at m; exact m
  · cases rr with
    | error e =>
      obtain ⟨c, H', XI, c', S', e1, e2, g⟩ := hx _ pins σ H s e s' I hq
      cases e2
      rw [e1] at m
      exact m e s' ⟨H', XI, g⟩
    | ok fl =>
      cases fl with
      | ret u =>
        obtain ⟨v, H', I', r', d, S', e1, g⟩ := I.after hq
        rw [e1] at m
        exact m u s' ⟨v, H', I', r', g⟩
      | next => exact False.elim hq
      | brk => exact False.elim hq
      | cont => exact False.elim hq
theorem pd_call {CX : CXT} {k : Nat} {f : Addr} {fd : FuncData} {ps : List Str} {F : List D → M D} {x : Str} {p : Pos} (hF : FnD X.prog X.w X.K X.mg X.base CX k f fd ps F) (hr : Room k X.A) (hg : Gl X x) (hm : X.mg x = some (.ref f)) (hk : PySem.W.keepIn X.K (.ref f) = true)
    (hb : Binds X.K fd ps []) (hx : PassD CX X) (ha : PAd X (e :: es) ft) (hl : ∀ r S xs S', ft r S = .ok xs S' → xs.length = ps.length)
    (hdb : (x == ("__debug__" : Str)) = false := by decide) (he : starEach (e :: es) X.env = (false, eval e X.env) :: starEach es X.env := by rfl) (hpl : (backTo pos (starEach es X.env)).any (·.1) = false := by rfl) :
    PEd X (.Call (.Name x p) (e :: es) [] pos) (dCall F ft) := by
  intro pins s σ H J r S Q E I m
  refine wpAny_Call_Name_kw (ld_glob I.inv hg hm ?_ hdb)
  refine PySem.W.callWith_K (h₀ := X.base) I.inv.ok.mod.kin hk ?_ he hpl
  refine ha pos pins s σ H J r S _ E I ?_
  unfold dCall M.bind at m
  cases e1 : ft r S with
  | bad => rw [e1] at m; exact m
  | exc c S1 => rw [e1] at m; exact m
  | ok xs S1 =>
    rw [e1] at m
    intro us s1 ⟨vs, H1, I1, r1, J1, ex1, rs1, rv1⟩
    exact ⟨I1.kIn, run_fnD hF hr hb hx I1 rs1 rv1 r1 (hl r S xs S1 e1) (Mt.ext ex1 m)⟩
end
end DL
namespace DL
open PySem PySem.Spec PyProof.Rows L2
inductive Fl where
  | nx (r : DSt) | rt (d : D) | bk (r : DSt) | ct (r : DSt) | xc (c : Addr) (r : DSt)
abbrev RSt := Option (Fl × List Cell)
abbrev TSt := DSt → List Cell → RSt
def MtS (X : Cx) (pins : Pins) (H : Hp) (J : List Addr) (x : RSt) (Q : Flow → Shared → Prop) (E : Value → Shared → Prop) : Prop := match x with
  | none => False
  | some (.nx r', S') => ∀ s' σ' H' J', At X pins σ' H' J' r' S' s' → Ext H J H' J' → Q .next s'
  | some (.bk r', S') => ∀ s' σ' H' J', At X pins σ' H' J' r' S' s' → Ext H J H' J' → Q .brk s'
  | some (.ct r', S') => ∀ s' σ' H' J', At X pins σ' H' J' r' S' s' → Ext H J H' J' → Q .cont s'
  | some (.rt d, S') => ∀ u s' σ', EP X pins σ' (Got X.K H J d S') u s' → Q (.ret u) s'
  | some (.xc c r', S') => ∀ e s' σ' H' J', XInv X pins σ' H' s' e c → RepL X.K H' J' r' σ' → RepS X.K H' J' S' → Ext H J H' J' → E e s'
theorem MtS.ext {X : Cx} {pins : Pins} {H H1 : Hp} {J J1 : List Addr} {x : RSt} {Q : Flow → Shared → Prop} {E : Value → Shared → Prop} (e : Ext H J H1 J1) (h : MtS X pins H J x Q E) : MtS X pins H1 J1 x Q E := by
  match x, h with
  | none, h => exact h
  | some (.nx r', S'), h => exact fun s' σ' H' J' a x => h s' σ' H' J' a (e.trans x)
  | some (.bk r', S'), h => exact fun s' σ' H' J' a x => h s' σ' H' J' a (e.trans x)
  | some (.ct r', S'), h => exact fun s' σ' H' J' a x => h s' σ' H' J' a (e.trans x)
  | some (.rt d, S'), h => exact fun u s' σ' ⟨v, H', I, rv, g⟩ => h u s' σ' ⟨v, H', I, rv, g.ext e⟩
  | some (.xc c r', S'), h => exact fun u s' σ' H' J' a b c x => h u s' σ' H' J' a b c (e.trans x)
def PSd (X : Cx) (st : Stmt) (t : TSt) : Prop := ∀ (pins : Pins) (s : Shared) (σ : L2.St) (H : Hp) (J : List Addr) (r : DSt) (S : List Cell) (Q : Flow → Shared → Prop) (E : Value → Shared → Prop),
  At X pins σ H J r S s → MtS X pins H J (t r S) Q E → wpAny (model X.prog X.w) X.A (exec st X.env) Q E s
def PSsd (X : Cx) (st : List Stmt) (t : TSt) : Prop := ∀ (pins : Pins) (s : Shared) (σ : L2.St) (H : Hp) (J : List Addr) (r : DSt) (S : List Cell) (Q : Flow → Shared → Prop) (E : Value → Shared → Prop),
  At X pins σ H J r S s → MtS X pins H J (t r S) Q E → wpAny (model X.prog X.w) X.A (execs st X.env) Q E s
def sBind {α : Type} (m : M α) (r : DSt) (k : α → List Cell → RSt) : List Cell → RSt := fun S => match m S with
  | .ok a S' => k a S'
  | .exc c S' => some (.xc c r, S')
  | .bad => none
def sNext : TSt := fun r S => some (.nx r, S)
def sSeq (t u : TSt) : TSt := fun r S => match t r S with
  | some (.nx r', S') => u r' S'
  | o => o
section
variable {X : Cx} {st : Stmt} {rest : List Stmt} {t u : TSt} {e : Expr} {fe : DSt → M D} {pos : Pos}
theorem ssd_nil : PSsd X [] sNext := fun pins s σ H J r S Q E I m => wpAny_execs_nil (m s σ H J I (Ext.refl _ _))
theorem ssd_cons (h1 : PSd X st t) (h2 : PSsd X rest u) : PSsd X (st :: rest) (sSeq t u) := by
  intro pins s σ H J r S Q E I m
  refine wpAny_execs_cons (h1 pins s σ H J r S _ E I ?_)
  unfold sSeq at m
  match e : t r S with
  | none => rw [e] at m; exact m
  | some (.nx r', S') =>
    rw [e] at m
    exact fun s' σ' H' J' a x => h2 pins s' σ' H' J' r' S' Q E a (MtS.ext x m)
  | some (.bk r', S') => rw [e] at m; exact m
  | some (.ct r', S') => rw [e] at m; exact m
  | some (.rt d, S') => rw [e] at m; exact m
  | some (.xc c r', S') => rw [e] at m; exact m
theorem ssd_one (h1 : PSd X st t) : PSsd X [st] t := by
  intro pins s σ H J r S Q E I m
  refine wpAny_execs_cons (h1 pins s σ H J r S _ E I ?_)
  match e : t r S with
  | none => rw [e] at m; exact m
  | some (.nx r', S') => rw [e] at m; exact fun s' σ' H' J' a x => wpAny_execs_nil (m s' σ' H' J' a x)
  | some (.bk r', S') => rw [e] at m; exact m
  | some (.ct r', S') => rw [e] at m; exact m
  | some (.rt d, S') => rw [e] at m; exact m
  | some (.xc c r', S') => rw [e] at m; exact m
theorem goS (he : PEd X e fe) {k : D → List Cell → RSt} {pins : Pins} {s : Shared} {σ : L2.St} {H : Hp} {J : List Addr} {r : DSt} {S : List Cell} {Q : Flow → Shared → Prop} {E : Value → Shared → Prop} {Q' : Value → Shared → Prop} (I : At X pins σ H J r S s)
    (m : MtS X pins H J (sBind (fe r) r k S) Q E) (hk : ∀ x S1 v s1 vx H1 J1, At X pins σ H1 J1 r S1 s1 → RepV X.K H1 J1 x vx → RelV vx v → MtS X pins H1 J1 (k x S1) Q E → Q' v s1) :
    wpAny (model X.prog X.w) X.A (eval e X.env) Q' E s := by
  refine he pins s σ H J r S _ E I ?_
  unfold sBind at m
  cases e1 : fe r S with
  | bad => rw [e1] at m; exact m
  | exc c S1 =>
    rw [e1] at m
    exact fun x s' ⟨H', XI, J', ex, rs⟩ => m x s' σ H' J' XI (I.loc.ext ex) rs ex
  | ok x S1 =>
    rw [e1] at m
    exact fun v s1 ⟨vx, H1, I1, r1, J1, ex, rs, rv⟩ => hk x S1 v s1 vx H1 J1 ⟨I1, I.loc.ext ex, rs⟩ rv r1 (MtS.ext ex m)
theorem goST {te : DSt → M Bool} (he : PTd X e te) {k : Bool → List Cell → RSt} {pins : Pins} {s : Shared} {σ : L2.St} {H : Hp} {J : List Addr} {r : DSt} {S : List Cell} {Q : Flow → Shared → Prop} {E : Value → Shared → Prop} {Q' : Bool → Shared → Prop} (I : At X pins σ H J r S s)
    (m : MtS X pins H J (sBind (te r) r k S) Q E) (hk : ∀ b S1 s1 H1 J1, At X pins σ H1 J1 r S1 s1 → MtS X pins H1 J1 (k b S1) Q E → Q' b s1) :
    wpAny (model X.prog X.w) X.A (isTrue e X.env (eval e X.env)) Q' E s := by
  refine he pins s σ H J r S _ E I ?_
  unfold sBind at m
  cases e1 : te r S with
  | bad => rw [e1] at m; exact m
  | exc c S1 =>
    rw [e1] at m
    exact fun x s' ⟨H', XI, J', ex, rs⟩ => m x s' σ H' J' XI (I.loc.ext ex) rs ex
  | ok x S1 =>
    rw [e1] at m
    exact fun s1 ⟨H1, I1, J1, ex, rs⟩ => hk x S1 s1 H1 J1 ⟨I1, I.loc.ext ex, rs⟩ (MtS.ext ex m)
def sDrop (fe : DSt → M D) : TSt := fun r => sBind (fe r) r fun _ S => some (.nx r, S)
theorem sd_expr (he : PEd X e fe) (hs : swapsWith e none pos.line X.env = pure false := by rfl) : PSd X (.Expr e pos) (sDrop fe) := by
  intro pins s σ H J r S Q E I m
  exact wpAny_Expr_any (goS he I m fun x S1 v s1 vx H1 J1 I1 rv r1 m1 => m1 s1 σ H1 J1 I1 (Ext.refl _ _)) I.inv.quiet hs
def sRet (fe : DSt → M D) : TSt := fun r => sBind (fe r) r fun d S => some (.rt d, S)
theorem sd_ret (he : PEd X e fe) : PSd X (.Return (some e) pos) (sRet fe) := by
  intro pins s σ H J r S Q E I m
  exact wpAny_Return_some (goS he I m fun x S1 v s1 vx H1 J1 I1 rv r1 m1 => m1 v s1 σ ⟨vx, H1, I1.inv, r1, J1, Ext.refl _ _, I1.st, rv⟩)
def sIf (c : DSt → M Bool) (t u : TSt) : TSt := fun r => sBind (c r) r fun b S => if b = true then t r S else u r S
theorem sd_if {c : Expr} {a b : List Stmt} {tc : DSt → M Bool} (hc : PTd X c tc) (ha : PSsd X a t) (hb : PSsd X b u) : PSd X (.If c a b pos) (sIf tc t u) := by
  intro pins s σ H J r S Q E I m
  refine wpAny_If (goST hc I m fun d S1 s1 H1 J1 I1 m1 => ?_)
  cases d with
  | true => exact ha pins s1 σ H1 J1 r S1 Q E I1 m1
  | false => exact hb pins s1 σ H1 J1 r S1 Q E I1 m1
abbrev TGd := D → DSt → Option DSt
def PGd (X : Cx) (tg : Expr) (t : TGd) : Prop := ∀ (pins : Pins) (s : Shared) (σ : L2.St) (H : Hp) (J : List Addr) (r : DSt) (S : List Cell) (d : D) (v : V) (u : Value) (Q : Unit → Shared → Prop) (E : Value → Shared → Prop) (r' : DSt),
  At X pins σ H J r S s → RepV X.K H J d v → RelV v u → t d r = some r' → (∀ s' σ' H' J', At X pins σ' H' J' r' S s' → Ext H J H' J' → Q () s') → wpAny (model X.prog X.w) X.A (assign tg X.env u) Q E s
def gN (i : Nat) : TGd := fun d r => some (r.set i (some d))
theorem gd_name {i : Nat} {x : Str} (hN : X.N.Nodup) (hi : X.N[i]? = some x := by rfl) (hx : Loc X.env.scope x := by first | exact Or.inl rfl | exact Or.inr rfl) (hf : X.fn x = true ∨ X.env.scope.names.lookup x = some .local := by first | exact .inl rfl | exact .inr rfl | assumption) : PGd X (.Name x pos) (gN i) := by
  intro pins s σ H J r S d v u Q E r' I rv ru e k
  cases e
  refine wpAny_mono (pg_name (X := X.wish E) hN hi hx hf pins s σ H v u (fun σ' H' => σ' = σ.set i (some v) ∧ H' = H) (I.inv.wish E) ru ⟨rfl, rfl⟩) (fun _ s' q => ?_) fun _ _ z => z
  obtain ⟨σ', H', I', rfl, rfl⟩ := q
  exact k s' _ _ J ⟨I'.unwish, I.loc.set rv, I.st⟩ (Ext.refl _ _)
def gNs : List Nat → List D → DSt → Option DSt
  | [], [], r => some r
  | i :: is, d :: ds, r => gNs is ds (r.set i (some d))
  | _, _, _ => none
def gT (is : List Nat) : TGd := fun d r => match d with
  | .tup ds => gNs is ds r
  | _ => none
def PGsd (X : Cx) (ts : List Expr) (is : List Nat) : Prop := ∀ (pins : Pins) (s : Shared) (σ : L2.St) (H : Hp) (J : List Addr) (r : DSt) (S : List Cell) (ds : List D) (vs : List V) (us : List Value) (Q : Unit → Shared → Prop) (E : Value → Shared → Prop) (r' : DSt),
  At X pins σ H J r S s → RepVs X.K H J ds vs → Vals vs us → gNs is ds r = some r' → (∀ s' σ' H' J', At X pins σ' H' J' r' S s' → Ext H J H' J' → Q () s') → wpAny (model X.prog X.w) X.A (assignInOrder ((assignEach ts X.env).map (·.2)) us) Q E s
theorem gds_nil : PGsd X [] [] := by
  intro pins s σ H J r S ds vs us Q E r' I rv ru e k
  cases ds with
  | nil =>
    cases e
    unfold RepVs at rv
    subst rv
    cases ru
    rw [show (assignEach [] X.env).map (·.2) = [] from rfl]
    exact assignInOrder_nil (k s σ H J I (Ext.refl _ _))
  | cons d ds => cases e
theorem gds_cons {ex : Expr} {es : List Expr} {i : Nat} {is : List Nat} (h1 : PGd X ex (gN i)) (h2 : PGsd X es is)
    (hs : (assignEach (ex :: es) X.env).map (·.2) = assign ex X.env :: (assignEach es X.env).map (·.2) := by rfl) : PGsd X (ex :: es) (i :: is) := by
  intro pins s σ H J r S ds vs us Q E r' I rv ru e k
  cases ds with
  | nil => cases e
  | cons d ds =>
    unfold RepVs at rv
    obtain ⟨v, vr, rfl, rv1, rv2⟩ := rv
    cases ru with
    | cons q1 q2 =>
      rw [hs]
      refine assignInOrder_cons (h1 pins s σ H J r S d v _ _ E _ I rv1 q1 rfl fun s1 σ1 H1 J1 I1 x1 => ?_)
      exact h2 pins s1 σ1 H1 J1 _ S ds vr _ Q E r' I1 (rv2.ext x1) q2 e fun s' σ' H' J' a x => k s' σ' H' J' a (x1.trans x)
theorem gNs_len : ∀ {is : List Nat} {ds : List D} {r r' : DSt}, gNs is ds r = some r' → ds.length = is.length
  | [], [], _, _, _ => rfl
  | i :: is, d :: ds, r, r', h => by
    rw [List.length_cons, List.length_cons, gNs_len (show gNs is ds (r.set i (some d)) = some r' from h)]
  | [], d :: ds, r, r', h => by cases h
  | i :: is, [], r, r', h => by cases h
end
end DL
namespace DL
open PySem PySem.Spec PyProof.Rows L2
section
variable {X : Cx} {st : Stmt} {rest : List Stmt} {t u : TSt} {e : Expr} {fe : DSt → M D} {pos : Pos}
theorem gd_tup {es : List Expr} {k : Nat} {is : List Nat} (hc : X.calm = true) (h : PGsd X es is) (hn : (assignEach es X.env).length = is.length := by rfl) (hst : (assignEach es X.env).findIdx? (·.1) = none := by rfl) : PGd X (.Tuple es k pos) (gT is) := by
  intro pins s σ H J r S d v u Q E r' I rv ru e k
  cases d with
  | tup ds =>
    obtain ⟨a, vs, rfl, hq, rvs⟩ := rv.tup_
    cases ru
    obtain ⟨its, rel, ht, hz⟩ := I.inv.tuple hq
    have e' : gNs is ds r = some r' := e
    have hl := gNs_len e'
    refine assign_Tuple_tuple (I.inv.ok.hd hc) ht (by simp [hn, ← hl, ← rvs.length, rel.length]) hst fun h' hx => ?_
    have I1 : Inv X pins σ H { s with heap := h' } := I.inv.kept (t' := s.toks) fun b o e => hx b o (Nat.ne_of_lt (Heap.lt_size e)) e
    exact h pins _ σ H J r S ds vs _ Q E r' ⟨I1, I.loc, I.st⟩ rvs (by simpa using rel) e' k
  | _ => cases e
def sAsg (fe : DSt → M D) (g : TGd) : TSt := fun r => sBind (fe r) r fun d S => match g d r with
  | some r' => some (.nx r', S)
  | none => none
theorem sd_set {i : Nat} {x : Str} {pos' : Pos} (hN : X.N.Nodup) (he : PEd X e fe) (hi : X.N[i]? = some x := by rfl) (hx : Loc X.env.scope x := by first | exact Or.inl rfl | exact Or.inr rfl) (hs : swapsWith e (some (.Name x pos')) pos.line X.env = pure false := by rfl)
    (hf : X.fn x = true ∨ X.env.scope.names.lookup x = some .local := by first | exact .inl rfl | exact .inr rfl | assumption) : PSd X (.Assign [.Name x pos'] e pos) (sAsg fe (gN i)) := by
  intro pins s σ H J r S Q E I m
  refine wpAny_Assign_Name (goS he I m fun d S1 v s1 vx H1 J1 I1 rv r1 m1 => ?_) hs
  exact store_ok I1.inv hN hi hx r1 (fun s2 I2 => m1 s2 _ H1 J1 ⟨I2, I1.loc.set rv, I1.st⟩ (Ext.refl _ _)) hf
theorem sd_asg {tg : Expr} {g : TGd} (he : PEd X e fe) (hg : PGd X tg g) (hs : swapsWithSole [tg] e pos.line X.env = pure false := by rfl) (hw : swappedStores [tg] e X.env = pure none := by rfl)
    (h1 : (assignEach [tg] X.env).map (·.2) = [assign tg X.env] := by rfl) : PSd X (.Assign [tg] e pos) (sAsg fe g) := by
  intro pins s σ H J r S Q E I m
  refine wpAny_Assign_stores (goS he I m fun d S1 v s1 vx H1 J1 I1 rv r1 m1 => ?_) hs hw
  rw [h1]
  cases eg : g d r with
  | none => rw [eg] at m1; exact m1.elim
  | some r' =>
    rw [eg] at m1
    exact hg pins s1 σ H1 J1 r S1 d vx v _ E r' I1 rv r1 eg fun s' σ' H' J' a x => m1 s' σ' H' J' a x
def sWhile (c : DSt → M Bool) (b : TSt) : Nat → TSt
  | 0 => fun _ _ => none
  | n + 1 => fun r S => match c r S with
    | .ok true S1 => (match b r S1 with
      | some (.nx r', S') => sWhile c b n r' S'
      | some (.ct r', S') => sWhile c b n r' S'
      | some (.bk r', S') => some (.nx r', S')
      | some (.rt d, S') => some (.rt d, S')
      | _ => none)
    | .ok false S1 => some (.nx r, S1)
    | _ => none
theorem sd_while {c : Expr} {body : List Stmt} {tc : DSt → M Bool} {tb : TSt} (n : Nat) (hc : PTd X c tc) (hb : PSsd X body tb) : PSd X (.While c body [] pos) (sWhile tc tb n) := by
  intro pins s σ H J r S Q E I m
  refine wpAny_While (codeAny_whileLoop (fun k s' => ∃ σ' H' J' r' S', At X pins σ' H' J' r' S' s' ∧ Ext H J H' J' ∧ MtS X pins H J (sWhile tc tb k r' S') Q E) ?_ n ⟨σ, H, J, r, S, I, Ext.refl _ _, m⟩)
  rintro k s1 ⟨σ1, H1, J1, r1, S1, I1, x1, m1⟩
  cases k with
  | zero => exact m1.elim
  | succ k =>
    refine hc pins s1 σ1 H1 J1 r1 S1 _ _ I1 ?_
    unfold sWhile at m1
    cases ec : tc r1 S1 with
    | bad => rw [ec] at m1; exact m1.elim
    | exc c S2 => rw [ec] at m1; exact m1.elim
    | ok k2 S2 =>
      rw [ec] at m1
      rintro s2 ⟨H2, I2, J2, x2, rs2⟩
      cases k2 with
      | false =>
        rw [if_neg Bool.false_ne_true]
        exact wpAny_execs_nil (m1 s2 σ1 H2 J2 ⟨I2, I1.loc.ext x2, rs2⟩ (x1.trans x2))
      | true =>
        rw [if_pos rfl]
        refine hb pins s2 σ1 H2 J2 r1 S2 _ _ ⟨I2, I1.loc.ext x2, rs2⟩ ?_
        dsimp only at m1
        match eb : tb r1 S2 with
        | none => rw [eb] at m1; exact m1.elim
        | some (.nx r', S') =>
          rw [eb] at m1
          exact fun s' σ' H' J' a x => ⟨k, Nat.lt_succ_self _, σ', H', J', r', S', a, (x1.trans x2).trans x, m1⟩
        | some (.ct r', S') =>
          rw [eb] at m1
          exact fun s' σ' H' J' a x => ⟨k, Nat.lt_succ_self _, σ', H', J', r', S', a, (x1.trans x2).trans x, m1⟩
        | some (.bk r', S') =>
          rw [eb] at m1
          exact fun s' σ' H' J' a x => m1 s' σ' H' J' a ((x1.trans x2).trans x)
        | some (.rt d, S') =>
          rw [eb] at m1
          exact fun u s' σ' ⟨v, H', I', rv, g⟩ => m1 u s' σ' ⟨v, H', I', rv, g.ext (x1.trans x2)⟩
        | some (.xc c r', S') => rw [eb] at m1; exact m1.elim
structure Wk where
  items : List D
  guard : Option (Nat × List D) := none
def gok : Option (Nat × List D) → List Cell → Prop
  | none, _ => True
  | some (n, xs), S => S[n]? = some (.lst xs)
def ItOk (K : PySem.W.Frag) (it : It) (w : Wk) (H0 : Hp) (J0 : List Addr) : Prop := ∀ (H : Hp) (J : List Addr) (S : List Cell), Ext H0 J0 H J → RepS K H J S → gok w.guard S →
  (∀ i, i < w.items.length → it.go i H) ∧ it.stop w.items.length H ∧
  ∀ i x H', it.yld i H x H' → ∀ d, w.items[i]? = some d → ∃ J', Ext H J H' J' ∧ RepS K H' J' S ∧ RepV K H' J' d x
def MtW (X : Cx) (pins : Pins) (σ : L2.St) (H : Hp) (J : List Addr) (tg : Expr) (x : R Wk) (Q : Value → Shared → Prop) (E : Value → Shared → Prop) : Prop := match x with
  | .ok w S' => ∀ itv s2, PIE X pins σ tg (fun it H1 => ∃ J1, Ext H J H1 J1 ∧ RepS X.K H1 J1 S' ∧ gok w.guard S' ∧ ItOk X.K it w H1 J1) itv s2 → Q itv s2
  | .exc c S' => ∀ e s', XP X pins σ c (Gone X.K H J S') e s' → E e s'
  | .bad => False
def PId (X : Cx) (tg iter : Expr) (f : DSt → M Wk) : Prop := ∀ (pins : Pins) (s : Shared) (σ : L2.St) (H : Hp) (J : List Addr) (r : DSt) (S : List Cell) (Q E : Value → Shared → Prop),
  At X pins σ H J r S s → MtW X pins σ H J tg (f r S) Q E → wpAny (model X.prog X.w) X.A (eval iter X.env) (fun v s1 => wpAny (model X.prog X.w) X.A (pyIter v) Q E s1) E s
open Classical in
noncomputable def sTurns (g : Option (Nat × List D)) (tg : TGd) (b : TSt) : List D → TSt
  | [], r, S => some (.nx r, S)
  | x :: xs, r, S => match tg x r with
    | none => none
    | some r1 => match b r1 S with
      | some (.nx r', S') => if gok g S' then sTurns g tg b xs r' S' else none
      | some (.ct r', S') => if gok g S' then sTurns g tg b xs r' S' else none
      | some (.bk r', S') => some (.nx r', S')
      | some (.rt d, S') => some (.rt d, S')
      | _ => none
noncomputable def sFor (f : DSt → M Wk) (tg : TGd) (b : TSt) : TSt := fun r => sBind (f r) r fun w S => sTurns w.guard tg b w.items r S
theorem sd_for {tg iter : Expr} {body : List Stmt} {f : DSt → M Wk} {g : TGd} {tb : TSt} (hc : X.calm = true) (hi : PId X tg iter f) (hg : PGd X tg g) (hb : PSsd X body tb)
    (hs : ∀ x, foldedSetIterable iter X.env x = pure x := by intro _; rfl) : PSd X (.For tg iter body [] pos) (sFor f g tb) := by
  intro pins s σ H J r S Q E I m
  refine wpAny_For (hi pins s σ H J r S _ E I ?_) hs
  unfold sFor sBind at m
  cases ef : f r S with
  | bad => rw [ef] at m; exact m
  | exc c S1 =>
    rw [ef] at m
    exact fun x s' ⟨H', XI, J', ex, rs⟩ => m x s' σ H' J' XI (I.loc.ext ex) rs ex
  | ok w S1 =>
    rw [ef] at m
    dsimp only at m
    rintro itv s2 ⟨it, fp, tn, it0, H2, rfl, I2, T, st2, f2, J2, x2, rs2, gk, ok⟩
    have stat : ∀ {H' : Hp}, (∀ b ∈ fp, H' b = none) → ∀ b ∈ fp, FpOk X pins H' b := fun hn b hb => ⟨hn b hb, (f2 b hb).2⟩
    refine codeAny_forLoop_any (fun n s' => ∃ i σ' H' J' r' S', At X pins σ' H' J' r' S' s' ∧ Ext H2 J2 H' J' ∧ tn i s'.heap ∧ (∀ b ∈ fp, H' b = none) ∧ gok w.guard S' ∧ n = w.items.length - i ∧ i ≤ w.items.length ∧
      MtS X pins H J (sTurns w.guard g tb (w.items.drop i) r' S') Q E) ?_ w.items.length ⟨0, σ, H2, J2, r, S1, ⟨I2, I.loc.ext x2, rs2⟩, Ext.refl _ _, st2, fun b hb => (f2 b hb).1, gk, by simp, Nat.zero_le _, by simpa using m⟩
    rintro n s3 ⟨i, σ3, H3, J3, r3, S3, I3, x3, st3, fr3, gk3, rfl, hil, m3⟩
    obtain ⟨hgo, hstop, hyld⟩ := ok H3 J3 S3 x3 I3.st gk3
    by_cases hi' : i < w.items.length
    · obtain ⟨d, hd⟩ : ∃ d, w.items[i]? = some d := ⟨w.items[i], by simp [hi']⟩
      rw [List.drop_eq_getElem_cons hi'] at m3
      have hd' : w.items[i] = d := by
        rw [List.getElem?_eq_getElem hi'] at hd
        exact Option.some.inj hd
      rw [hd'] at m3
      unfold sTurns at m3
      cases eg : g d r3 with
      | none => rw [eg] at m3; exact m3.elim
      | some r4 =>
        rw [eg] at m3
        dsimp only at m3
        refine thn (T.item X rfl rfl rfl hc i pins s3 σ3 H3 _ I3.inv (stat fr3) st3 (hgo i hi')) fun rr s4 ⟨u, hr, h4⟩ => ?_
        subst hr
        refine thn h4 fun _ s5 ⟨x, H5, I5, r5, y5, st5, fr5⟩ => ?_
        obtain ⟨J5, x5, rs5, rv5⟩ := hyld i x H5 y5 d hd
        have I5' := I5.pinned (stat fr5) (T.obj _ _ st5)
        refine hg _ s5 σ3 H5 J5 r3 S3 d x u _ _ r4 ⟨I5', I3.loc.ext x5, rs5⟩ rv5 r5 eg fun s6 σ6 H6 J6 I6 x6 => ?_
        refine hb _ s6 σ6 H6 J6 r4 S3 _ _ I6 ?_
        have again : ∀ {r7 : DSt} {S7 : List Cell} {σ7 : L2.St} {H7 : Hp} {J7 : List Addr} {s7 : Shared}, At X (pins ++ pinsAt fp s5.heap) σ7 H7 J7 r7 S7 s7 → Ext H6 J6 H7 J7 → gok w.guard S7 → MtS X pins H J (sTurns w.guard g tb (w.items.drop (i + 1)) r7 S7) Q E →
            ∃ m, m < w.items.length - i ∧ ∃ i σ' H' J' r' S', At X pins σ' H' J' r' S' s7 ∧ Ext H2 J2 H' J' ∧ tn i s7.heap ∧ (∀ b ∈ fp, H' b = none) ∧ gok w.guard S' ∧ m = w.items.length - i ∧ i ≤ w.items.length ∧ MtS X pins H J (sTurns w.guard g tb (w.items.drop i) r' S') Q E := by
          intro r7 S7 σ7 H7 J7 s7 I7 x7 gk7 m7
          refine ⟨w.items.length - (i + 1), by omega, i + 1, σ7, H7, J7, r7, S7, ⟨I7.inv.unpinned, I7.loc, I7.st⟩, ((x3.trans x5).trans x6).trans x7, T.keep _ _ _ st5 fun b hb o e => (I7.inv.pin (b, o) (List.mem_append_right _ (List.mem_append_right _ (mem_pinsAt hb e)))).1, fun b hb => ?_, gk7, rfl, hi', m7⟩
          obtain ⟨o, e, d⟩ := T.obj _ _ st5 b hb
          exact (I7.inv.pin (b, o) (List.mem_append_right _ (List.mem_append_right _ (mem_pinsAt hb e)))).2.1
        match eb : tb r4 S3 with
        | none => rw [eb] at m3; exact m3.elim
        | some (.nx r', S') =>
          rw [eb] at m3
          dsimp only at m3
          by_cases gk' : gok w.guard S'
          · rw [if_pos gk'] at m3
            exact fun s' σ' H' J' a x => again a x gk' m3
          · rw [if_neg gk'] at m3; exact m3.elim
        | some (.ct r', S') =>
          rw [eb] at m3
          dsimp only at m3
          by_cases gk' : gok w.guard S'
          · rw [if_pos gk'] at m3
            exact fun s' σ' H' J' a x => again a x gk' m3
          · rw [if_neg gk'] at m3; exact m3.elim
        | some (.bk r', S') =>
          rw [eb] at m3
          exact fun s' σ' H' J' a x => m3 s' σ' H' J' ⟨a.inv.unpinned, a.loc, a.st⟩ ((((x2.trans x3).trans x5).trans x6).trans x)
        | some (.rt d', S') =>
          rw [eb] at m3
          exact fun u s' σ' ⟨v, H', I', rv, g'⟩ => m3 u s' σ' ⟨v, H', I'.unpinned, rv, g'.ext (((x2.trans x3).trans x5).trans x6)⟩
        | some (.xc c r', S') => rw [eb] at m3; exact m3.elim
    · have e : i = w.items.length := by omega
      subst e
      rw [List.drop_length] at m3
      refine thn (T.done X rfl rfl rfl hc _ pins s3 σ3 H3 _ I3.inv (stat fr3) st3 hstop) fun rr s4 ⟨hr, I4⟩ => ?_
      subst hr
      exact wpAny_execs_nil (m3 s4 σ3 H3 J3 ⟨I4, I3.loc, I3.st⟩ (x2.trans x3))
end
end DL
namespace DL
open PySem PySem.Spec PyProof.Rows L2
section
variable {X : Cx} {tg : Expr} {e : Expr} {fe : DSt → M D} {pos : Pos}
def wkOf : D → M Wk
  | .tup xs => M.ret ⟨xs, none⟩
  | .rol xs => M.ret ⟨xs, none⟩
  | .ob n => fun S => match S[n]? with
    | some (.lst xs) => .ok ⟨xs, some (n, xs)⟩ S
    | _ => .bad
  | _ => M.bad
def dWk (f : DSt → M D) : DSt → M Wk := fun r => (f r).bind wkOf
theorem ItOk.tup {K : PySem.W.Frag} {H : Hp} {J : List Addr} {a : Addr} {vs : List V} {xs : List D} {X : Cx} {pins : Pins} {σ : L2.St} {s : Shared} (I : Inv X pins σ H s) (hK : X.K = K) (hq : SqT K H a vs) (rv : RepVs K H J xs vs) : ItOk K (Itt K a) ⟨xs, none⟩ H J := by
  intro H1 J1 S x rs _
  have hq1 := SqT.ext x hq
  have rv1 := rv.ext x
  have hl := rv1.length
  refine ⟨fun i hi => ⟨vs, vs[i]'(by rw [hl]; exact hi), hq1, by simp⟩, ⟨vs, hq1, by rw [hl]; exact Nat.le_refl _⟩, ?_⟩
  rintro i y H' ⟨rfl, hy⟩ d hd
  obtain ⟨v, h1, h2⟩ := rv1.get hd
  have := hy vs hq1
  rw [h1] at this
  cases this
  exact ⟨J1, Ext.refl _ _, rs, h2⟩
theorem ItOk.rol {K : PySem.W.Frag} {H : Hp} {J : List Addr} {a : Addr} {vs : List V} {xs : List D} (hq : RoL K H a vs) (rv : RepVs K H J xs vs) : ItOk K (Itl K a) ⟨xs, none⟩ H J := by
  intro H1 J1 S x rs _
  have hq1 := (RoL.ext x hq).sq
  have rv1 := rv.ext x
  have hl := rv1.length
  refine ⟨fun i hi => ⟨vs, vs[i]'(by rw [hl]; exact hi), hq1, by simp⟩, ⟨vs, hq1, by rw [hl]; exact Nat.le_refl _⟩, ?_⟩
  rintro i y H' ⟨rfl, hy⟩ d hd
  obtain ⟨v, h1, h2⟩ := rv1.get hd
  have := hy vs hq1
  rw [h1] at this
  cases this
  exact ⟨J1, Ext.refl _ _, rs, h2⟩
theorem ItOk.lst {K : PySem.W.Frag} {H : Hp} {J : List Addr} {a : Addr} {n : Nat} {xs : List D} (hn : J[n]? = some a) : ItOk K (Itl K a) ⟨xs, some (n, xs)⟩ H J := by
  intro H1 J1 S x rs gk
  have hn1 : J1[n]? = some a := by
    obtain ⟨m, em⟩ := x.pre
    rw [em, List.getElem?_append_left (List.getElem?_eq_some_iff.mp hn).1]
    exact hn
  obtain ⟨vs, h1, rv1⟩ := rs.at_ n _ a gk hn1
  have hq1 : SqL K H1 a vs := SqL.of h1
  have hl := rv1.length
  refine ⟨fun i hi => ⟨vs, vs[i]'(by rw [hl]; exact hi), hq1, by simp⟩, ⟨vs, hq1, by rw [hl]; exact Nat.le_refl _⟩, ?_⟩
  rintro i y H' ⟨rfl, hy⟩ d hd
  obtain ⟨v, h1, h2⟩ := rv1.get hd
  have := hy vs hq1
  rw [h1] at this
  cases this
  exact ⟨J1, Ext.refl _ _, rs, h2⟩
theorem pid_seq (he : PEd X e fe) : PId X tg e (dWk fe) := by
  intro pins s σ H J r S Q E I m
  refine he pins s σ H J r S _ E I ?_
  unfold dWk M.bind at m
  cases e1 : fe r S with
  | bad => rw [e1] at m; exact m
  | exc c S1 => rw [e1] at m; exact m
  | ok x S1 =>
    rw [e1] at m
    dsimp only at m
    rintro v s1 ⟨vx, H1, I1, r1, J1, ex, rs, rv⟩
    cases x with
    | tup xs =>
      obtain ⟨a, vs, rfl, hq, rvs⟩ := rv.tup_
      cases r1
      obtain ⟨its, rl, p, hz⟩ := I1.tuple hq
      refine wpAny_pyIter_tuple (show s1.heap.IsTuple a its.toArray from p) (m _ _ ?_)
      refine ⟨s1.heap.objs.size, [s1.heap.objs.size], _, _, H1, rfl, I1.kept (t' := s1.toks) fun b o e => Heap.get?_push_of_some _ e, turn_tuple a _, ⟨_, Heap.get?_push_size _ rfl, rfl, rfl⟩, fun b hb => ?_, J1, ex, rs, trivial, ItOk.tup I1 rfl hq rvs⟩
      have e : b = s1.heap.objs.size := by simpa using hb
      subst e
      exact I1.fpOk (Nat.le_refl _) (I1.hok.fresh (Nat.le_refl _))
    | rol xs =>
      obtain ⟨a, vs, rfl, hq, rvs⟩ := rv.rol_
      cases r1
      obtain ⟨its, rl, p, hz⟩ := I1.list hq.sq
      refine wpAny_pyIter_list p.isList (m _ _ ?_)
      refine ⟨s1.heap.objs.size, [s1.heap.objs.size], _, _, H1, rfl, I1.kept (t' := s1.toks) fun b o e => Heap.get?_push_of_some _ e, turn_list a _, ⟨_, Heap.get?_push_size _ rfl, rfl, rfl⟩, fun b hb => ?_, J1, ex, rs, trivial, ItOk.rol hq rvs⟩
      have e : b = s1.heap.objs.size := by simpa using hb
      subst e
      exact I1.fpOk (Nat.le_refl _) (I1.hok.fresh (Nat.le_refl _))
    | ob n =>
      obtain ⟨a, rfl, hn⟩ := rv.ob_
      cases r1
      obtain ⟨c, hc, rc⟩ := rs.cellA hn
      simp only [wkOf] at m
      rw [hc] at m
      cases c with
      | lst xs =>
        obtain ⟨vs, h1, rvs⟩ := rc
        obtain ⟨its, rl, p, hz⟩ := I1.list (SqL.of h1)
        refine wpAny_pyIter_list p.isList (m _ _ ?_)
        refine ⟨s1.heap.objs.size, [s1.heap.objs.size], _, _, H1, rfl, I1.kept (t' := s1.toks) fun b o e => Heap.get?_push_of_some _ e, turn_list a _, ⟨_, Heap.get?_push_size _ rfl, rfl, rfl⟩, fun b hb => ?_, J1, ex, rs, hc, ItOk.lst hn⟩
        have e : b = s1.heap.objs.size := by simpa using hb
        subst e
        exact I1.fpOk (Nat.le_refl _) (I1.hok.fresh (Nat.le_refl _))
      | _ => exact m.elim
    | _ => exact m.elim
def rngD (lo c : Int) (n : Nat) : List D := (List.range n).map fun (i : Nat) => D.int (lo + (i : Int) * c)
def ItrS (lo c : Int) (n : Nat) : It := ⟨fun i _ => i < n, fun i H x H' => H' = H ∧ x = .int (lo + (i : Int) * c), fun i _ => n ≤ i⟩
theorem rngD_get {lo c : Int} {n i : Nat} {d : D} (h : (rngD lo c n)[i]? = some d) : d = .int (lo + (i : Int) * c) := by
  unfold rngD at h
  rw [List.getElem?_map] at h
  cases e : (List.range n)[i]? with
  | none => rw [e] at h; cases h
  | some k =>
    rw [e] at h
    obtain ⟨h2, h3⟩ := List.getElem?_eq_some_iff.mp e
    rw [List.getElem_range] at h3
    subst h3
    cases h
    rfl
theorem ItOk.rng {K : PySem.W.Frag} {H : Hp} {J : List Addr} (lo c : Int) (n : Nat) : ItOk K (ItrS lo c n) ⟨rngD lo c n, none⟩ H J := by
  intro H1 J1 S x rs _
  have hl : (rngD lo c n).length = n := by simp [rngD]
  refine ⟨fun i hi => by rw [hl] at hi; exact hi, by show n ≤ _; rw [hl]; exact Nat.le_refl _, ?_⟩
  rintro i y H' ⟨rfl, rfl⟩ d hd
  refine ⟨J1, Ext.refl _ _, rs, ?_⟩
  rw [rngD_get hd]
  exact RepV.int _ _ _ _
theorem turn_rngS {P : Program} {w : World} {K : PySem.W.Frag} {tg : Expr} (it : Addr) (lo c : Int) (n : Nat) : Turn P w K tg (ItrS lo c n) [it] it (fun i h => IsRangeIter h it (lo + (i : Nat) * c) ((n : Int) - (i : Nat)) c) where
  mem := by simp
  obj := fun i h st b hb => by
    have e : b = it := by simpa using hb
    subst e
    exact ⟨_, st, fun v z => by
      have z' : Data.fields _ = Data.cell v := z
      cases z'⟩
  keep := fun i h h' st k => k it (by simp) _ st
  item := by
    intro X hP hw hK hc i pins s σ H E I hf st hg
    subst hP hw hK
    obtain ⟨f0, f1, f2, f3, f4, f5⟩ := hf it (by simp)
    have W := Walks.range (prog := X.prog) (w := X.w) (I.ok.hd hc) it lo c n
    refine W.item i s _ _ hg st fun v h' tk hv st' kk => ?_
    obtain ⟨t, rfl⟩ := hv
    have I1 : Inv X pins σ H { s with heap := h', toks := tk } := I.turned (fun b o hb e => kk b o (by simpa using hb) e) f0 f1 f3 f4 f5
    exact ⟨_, rfl, go_of (s := { s with heap := h', toks := tk }) (n := "range_iterator") st' rfl rfl (by decide) ⟨.int (lo + i * c), H, I1, ⟨t, rfl⟩, ⟨rfl, rfl⟩, st', fun b hb => (hf b hb).1⟩⟩
  done := by
    intro X hP hw hK hc i pins s σ H E I hf st hg
    subst hP hw hK
    obtain ⟨f0, f1, f2, f3, f4, f5⟩ := hf it (by simp)
    exact wpAny_pyNext_range_end (I.ok.hd hc) st (by have : n ≤ i := hg; omega) fun h' eb => ⟨rfl, I.turned (t' := s.toks) (fun b o hb e => eb b o hb e) f0 f1 f3 f4 f5⟩
  self := fun _ _ _ _ _ st h => wpAny_pyIter_rangeiter st h
theorem rng_it {pins : Pins} {σ : L2.St} {H : Hp} {s : Shared} {Rr : It → Hp → Prop} {E : Value → Shared → Prop} {lo hi c : Int} {t u v : Tok} {tk : Nat} (I : Inv X pins σ H s) (hc : 0 < c) (hsm : Builtin.Range.small lo hi c = true)
    (q : Rr (ItrS lo c (Builtin.Range.rangeSize lo hi c).toNat) H) : wpAny (model X.prog X.w) X.A (pyIter (.ref s.heap.objs.size)) (PIE X pins σ tg Rr) E { s with heap := s.heap.push { cls := .type "range", data := .fields #[.int lo t, .int hi u, .int c v] }, toks := tk } := by
  refine wpAny_pyIter_range (IsRange.new ..) hsm ?_
  have I1 : Inv X pins σ H { s with heap := s.heap.push { cls := .type "range", data := .fields #[.int lo t, .int hi u, .int c v] }, toks := tk } := I.kept fun b o e => Heap.get?_push_of_some _ e
  refine ⟨(s.heap.push { cls := .type "range", data := .fields #[.int lo t, .int hi u, .int c v] }).objs.size, [(s.heap.push { cls := .type "range", data := .fields #[.int lo t, .int hi u, .int c v] }).objs.size], _, _, H, rfl,
    I1.kept (t' := tk) fun b o e => Heap.get?_push_of_some _ e, turn_rngS _ lo c (Builtin.Range.rangeSize lo hi c).toNat, ?_, fun b hb => ?_, q⟩
  · have e1 : lo + ((0 : Nat) : Int) * c = lo := by simp
    have e2 : (((Builtin.Range.rangeSize lo hi c).toNat : Nat) : Int) - ((0 : Nat) : Int) = Builtin.Range.rangeSize lo hi c := by
      have : 0 ≤ Builtin.Range.rangeSize lo hi c := by
        unfold Builtin.Range.rangeSize
        rw [if_pos hc]
        split
        · have := Int.ediv_nonneg (a := hi - lo - 1) (b := c) (by omega) (by omega)
          omega
        · omega
      omega
    show IsRangeIter _ _ (lo + ((0 : Nat) : Int) * c) ((((Builtin.Range.rangeSize lo hi c).toNat : Nat) : Int) - ((0 : Nat) : Int)) c
    rw [e1, e2]
    exact Heap.get?_push_size _ rfl
  · have e : b = (s.heap.push { cls := .type "range", data := .fields #[.int lo t, .int hi u, .int c v] }).objs.size := by simpa using hb
    subst e
    exact I1.fpOk (Nat.le_refl _) (I1.hok.fresh (Nat.le_refl _))
noncomputable def wRng (lo hi c : Int) : M Wk := fun S => cif ((0 < c ∧ c < 1073741824) ∧ Builtin.Range.small lo hi c = true) (.ok ⟨rngD lo c (Builtin.Range.rangeSize lo hi c).toNat, none⟩ S) .bad
noncomputable def wRng1 : D → M Wk
  | .int j => wRng 0 j 1
  | _ => M.bad
noncomputable def wRng2 : D → D → M Wk
  | .int i, .int j => wRng i j 1
  | _, _ => M.bad
noncomputable def wRng3 : D → D → D → M Wk
  | .int i, .int j, .int c => wRng i j c
  | _, _, _ => M.bad
noncomputable def dRng1 (fa : DSt → M D) : DSt → M Wk := fun r => (fa r).bind wRng1
noncomputable def dRng2 (fa fb : DSt → M D) : DSt → M Wk := fun r => (fa r).bind fun x => (fb r).bind fun y => wRng2 x y
noncomputable def dRng3 (fa fb fc : DSt → M D) : DSt → M Wk := fun r => (fa r).bind fun x => (fb r).bind fun y => (fc r).bind fun z => wRng3 x y z
theorem MtW.ext {pins : Pins} {σ : L2.St} {H H1 : Hp} {J J1 : List Addr} {x : R Wk} {Q : Value → Shared → Prop} {E : Value → Shared → Prop} (e : Ext H J H1 J1) (h : MtW X pins σ H J tg x Q E) : MtW X pins σ H1 J1 tg x Q E := by
  cases x with
  | ok w S => exact fun itv s2 ⟨it, fp, tn, it0, H2, a, b, c, d, f, J2, x2, g⟩ => h itv s2 ⟨it, fp, tn, it0, H2, a, b, c, d, f, J2, e.trans x2, g⟩
  | exc c S => exact fun u s' x => h u s' (x.ext e)
  | bad => exact h
theorem goR {es : List Expr} {ft : DSt → M (List D)} (ha : PAd X es ft) {k : List D → M Wk} {pins : Pins} {s : Shared} {σ : L2.St} {H : Hp} {J : List Addr} {r : DSt} {S : List Cell} {Q E : Value → Shared → Prop} {Q' : List Value → Shared → Prop} (I : At X pins σ H J r S s)
    (m : MtW X pins σ H J tg ((ft r).bind k S) Q E) (hk : ∀ xs S1 s1 H1 J1 vs us, At X pins σ H1 J1 r S1 s1 → RepVs X.K H1 J1 xs vs → Vals vs us → MtW X pins σ H1 J1 tg (k xs S1) Q E → Q' us s1) (pos : Pos) :
    wpAny (model X.prog X.w) X.A (spliced (backTo pos (starEach es X.env))) Q' E s := by
  refine ha pos pins s σ H J r S _ E I ?_
  unfold M.bind at m
  cases e1 : ft r S with
  | bad => rw [e1] at m; exact m
  | exc c S1 => rw [e1] at m; exact m
  | ok x S1 =>
    rw [e1] at m
    intro us s1 ⟨vs, H1, I1, r1, J1, ex1, rs1, rv1⟩
    exact hk x S1 s1 H1 J1 vs us ⟨I1, I.loc.ext ex1, rs1⟩ rv1 r1 (MtW.ext ex1 m)
def uncons1 {α : Type} (f : D → M α) : List D → M α
  | [x] => f x
  | _ => M.bad
def uncons2 {α : Type} (f : D → D → M α) : List D → M α
  | [x, y] => f x y
  | _ => M.bad
def uncons3 {α : Type} (f : D → D → D → M α) : List D → M α
  | [x, y, z] => f x y z
  | _ => M.bad
theorem RepVs.one_ {K : PySem.W.Frag} {H : Hp} {J : List Addr} {x : D} {vs : List V} (h : RepVs K H J [x] vs) : ∃ v, vs = [v] ∧ RepV K H J x v := by
  unfold RepVs at h
  obtain ⟨v, t, rfl, h1, h2⟩ := h
  unfold RepVs at h2
  subst h2
  exact ⟨v, rfl, h1⟩
theorem RepVs.two_ {K : PySem.W.Frag} {H : Hp} {J : List Addr} {x y : D} {vs : List V} (h : RepVs K H J [x, y] vs) : ∃ v w, vs = [v, w] ∧ RepV K H J x v ∧ RepV K H J y w := by
  unfold RepVs at h
  obtain ⟨v, t, rfl, h1, h2⟩ := h
  obtain ⟨w, rfl, h3⟩ := RepVs.one_ h2
  exact ⟨v, w, rfl, h1, h3⟩
theorem RepVs.three_ {K : PySem.W.Frag} {H : Hp} {J : List Addr} {x y z : D} {vs : List V} (h : RepVs K H J [x, y, z] vs) : ∃ v w u, vs = [v, w, u] ∧ RepV K H J x v ∧ RepV K H J y w ∧ RepV K H J z u := by
  unfold RepVs at h
  obtain ⟨v, t, rfl, h1, h2⟩ := h
  obtain ⟨w, u, rfl, h3, h4⟩ := RepVs.two_ h2
  exact ⟨v, w, u, rfl, h1, h3, h4⟩
theorem wRng_ok {pins : Pins} {σ : L2.St} {H : Hp} {J : List Addr} {S : List Cell} {lo hi c : Int} {Q E : Value → Shared → Prop} (m : MtW X pins σ H J tg (wRng lo hi c S) Q E) (rs : RepS X.K H J S) :
    (0 < c ∧ c < 1073741824) ∧ Builtin.Range.small lo hi c = true ∧ ∀ itv s2, PIE X pins σ tg (fun it H1 => it = ItrS lo c (Builtin.Range.rangeSize lo hi c).toNat ∧ H1 = H) itv s2 → Q itv s2 := by
  unfold wRng cif at m
  split at m
  · rename_i h
    refine ⟨h.1, h.2, fun itv s2 ⟨it, fp, tn, it0, H2, a, b, c, d, f, e1, e2⟩ => ?_⟩
    subst e1 e2
    exact m itv s2 ⟨it, fp, tn, _, _, a, b, c, d, f, J, Ext.refl _ _, rs, trivial, ItOk.rng _ _ _⟩
  · exact m.elim
theorem pid_range1 {a : Expr} {p : Pos} {fa : DSt → M D} (hg : Gl X "range") (hm : X.mg "range" = none) (ha : PEd X a fa) (hs : starEach [a] X.env = [(false, eval a X.env)] := by rfl) : PId X tg (.Call (.Name "range" p) [a] [] pos) (dRng1 fa) := by
  intro pins s σ H J r S Q E I m
  have m' : MtW X pins σ H J tg ((dCons fa dNil r).bind (uncons1 wRng1) S) Q E := by
    unfold dRng1 M.bind at m
    unfold dCons dNil M.bind M.ret
    cases e1 : fa r S <;> (rw [e1] at m; exact m)
  refine Call_ (ld_blt I.inv hg hm boot_range (PyProof.Rows.callWith_type1 (goR (pad_cons ha pad_nil (by rw [hs]; rfl)) I m' (fun xs S1 s1 H1 J1 vs us I1 rv r1 m1 => ?_) pos) hs rfl))
  match xs, m1, rv with
  | [.int j], m1, rv =>
    obtain ⟨v, rfl, h1⟩ := rv.one_
    cases h1.int_
    cases r1 with
    | cons q qq =>
      cases qq
      obtain ⟨t, rfl⟩ := q
      obtain ⟨hc, hsm, k⟩ := wRng_ok m1 I1.st
      exact call_range_1 (thn (rng_it I1.inv hc.1 hsm ⟨rfl, rfl⟩) k)
  | [], m1, rv => exact m1.elim
  | [.non], m1, rv => exact m1.elim
  | [.bl _], m1, rv => exact m1.elim
  | [.str _], m1, rv => exact m1.elim
  | [.tup _], m1, rv => exact m1.elim
  | [.rol _], m1, rv => exact m1.elim
  | [.ob _], m1, rv => exact m1.elim
  | [.xn _], m1, rv => exact m1.elim
  | _ :: _ :: _, m1, rv => exact m1.elim
theorem pid_range2 {a b : Expr} {p : Pos} {fa fb : DSt → M D} (hg : Gl X "range") (hm : X.mg "range" = none) (ha : PEd X a fa) (hb : PEd X b fb) (hs : starEach [a, b] X.env = [(false, eval a X.env), (false, eval b X.env)] := by rfl)
    (hs2 : starEach [b] X.env = [(false, eval b X.env)] := by rfl) : PId X tg (.Call (.Name "range" p) [a, b] [] pos) (dRng2 fa fb) := by
  intro pins s σ H J r S Q E I m
  have m' : MtW X pins σ H J tg ((dCons fa (dCons fb dNil) r).bind (uncons2 wRng2) S) Q E := by
    unfold dRng2 M.bind at m
    unfold dCons dNil M.bind M.ret
    cases e1 : fa r S with
    | ok x S1 =>
      rw [e1] at m
      dsimp only at m ⊢
      cases e2 : fb r S1 <;> (rw [e2] at m; exact m)
    | exc c S1 => rw [e1] at m; exact m
    | bad => rw [e1] at m; exact m
  refine Call_ (ld_blt I.inv hg hm boot_range (PyProof.Rows.callWith_type1 (goR (pad_cons ha (pad_cons hb pad_nil (by rw [hs2]; rfl)) (by rw [hs, hs2])) I m' (fun xs S1 s1 H1 J1 vs us I1 rv r1 m1 => ?_) pos) (by rw [hs, hs2]) (by rw [hs2]; rfl)))
  match xs, m1, rv with
  | [x, y], m1, rv =>
    obtain ⟨v, w, rfl, h1, h2⟩ := rv.two_
    cases x with
    | int i =>
      cases y with
      | int j =>
        cases h1.int_
        cases h2.int_
        obtain ⟨u1, u2, rfl, q1, q2⟩ := Vals.two r1
        obtain ⟨t, rfl⟩ := q1
        obtain ⟨t', rfl⟩ := q2
        obtain ⟨hc, hsm, k⟩ := wRng_ok m1 I1.st
        exact call_range_2 (thn (rng_it I1.inv hc.1 hsm ⟨rfl, rfl⟩) k)
      | _ => exact m1.elim
    | _ => exact m1.elim
  | [], m1, rv => exact m1.elim
  | [_], m1, rv => exact m1.elim
  | _ :: _ :: _ :: _, m1, rv => exact m1.elim
theorem pid_range3 {a b c : Expr} {p : Pos} {fa fb fc : DSt → M D} (hg : Gl X "range") (hm : X.mg "range" = none) (ha : PEd X a fa) (hb : PEd X b fb) (hc : PEd X c fc)
    (hs : starEach [a, b, c] X.env = [(false, eval a X.env), (false, eval b X.env), (false, eval c X.env)] := by rfl)
    (hs2 : starEach [b, c] X.env = [(false, eval b X.env), (false, eval c X.env)] := by rfl) (hs3 : starEach [c] X.env = [(false, eval c X.env)] := by rfl) : PId X tg (.Call (.Name "range" p) [a, b, c] [] pos) (dRng3 fa fb fc) := by
  intro pins s σ H J r S Q E I m
  have m' : MtW X pins σ H J tg ((dCons fa (dCons fb (dCons fc dNil)) r).bind (uncons3 wRng3) S) Q E := by
    unfold dRng3 M.bind at m
    unfold dCons dNil M.bind M.ret
    cases e1 : fa r S with
    | ok x S1 =>
      rw [e1] at m
      dsimp only at m ⊢
      cases e2 : fb r S1 with
      | ok y S2 =>
        rw [e2] at m
        dsimp only at m ⊢
        cases e3 : fc r S2 <;> (rw [e3] at m; exact m)
      | exc c S1 => rw [e2] at m; exact m
      | bad => rw [e2] at m; exact m
    | exc c S1 => rw [e1] at m; exact m
    | bad => rw [e1] at m; exact m
  refine Call_ (ld_blt I.inv hg hm boot_range (PyProof.Rows.callWith_type1 (goR (pad_cons ha (pad_cons hb (pad_cons hc pad_nil (by rw [hs3]; rfl)) (by rw [hs2, hs3])) (by rw [hs, hs2])) I m' (fun xs S1 s1 H1 J1 vs us I1 rv r1 m1 => ?_) pos) (by rw [hs, hs2]) (by rw [hs2]; rfl)))
  match xs, m1, rv with
  | [x, y, z], m1, rv =>
    obtain ⟨v, w, u, rfl, h1, h2, h3⟩ := rv.three_
    cases x with
    | int i =>
      cases y with
      | int j =>
        cases z with
        | int k =>
          cases h1.int_
          cases h2.int_
          cases h3.int_
          cases r1 with
          | cons q1 r1 =>
            obtain ⟨u1, u2, rfl, q2, q3⟩ := Vals.two r1
            obtain ⟨t1, rfl⟩ := q1
            obtain ⟨t2, rfl⟩ := q2
            obtain ⟨t3, rfl⟩ := q3
            obtain ⟨hc, hsm, kk⟩ := wRng_ok m1 I1.st
            exact call_range_3 (by omega) (thn (rng_it I1.inv hc.1 hsm ⟨rfl, rfl⟩) kk) (.inl (PyProof.noPylong_small (by omega)))
        | _ => exact m1.elim
      | _ => exact m1.elim
    | _ => exact m1.elim
  | [], m1, rv => exact m1.elim
  | [_], m1, rv => exact m1.elim
  | [_, _], m1, rv => exact m1.elim
  | _ :: _ :: _ :: _ :: _, m1, rv => exact m1.elim
end
end DL
namespace DL
open PySem PySem.Spec PyProof.Rows L2
def blk (X : Cx) (scope : Scope) (N' : List Str) (cl : List (Str × Addr)) (C : Addr) (s2 : Shared) (H2 : Hp) (fp : List Addr) : Cx where
  prog := X.prog
  w := X.w
  K := X.K
  mg := X.mg
  base := X.base
  A := X.A
  N := N'
  s₀ := s2
  H₀ := H2
  env := compEnvC scope cl C X.env
  outer := X.stack
  stack := X.stack
  ex := fp
  fn := fun _ => false
  calm := X.calm
  pn := []
  xe := fun _ _ => False
def capR {α : Type} (own : Nat) (caps : List Nat) (r : List (Option α)) : List (Option α) := List.replicate own none ++ caps.map fun j => (r[j]?).join
def CapOk (X : Cx) (scope : Scope) (cl : List (Str × Addr)) : List Nat → List Str → Prop
  | [], [] => True
  | j :: js, x :: xs => (X.N[j]? = some x ∧ (X.env.kindOf x = some .cell ∨ X.env.kindOf x = some .free) ∧ ((relabel scope X.env).names.lookup x = some .cell ∨ (relabel scope X.env).names.lookup x = some .free) ∧ cl.lookup x = X.env.cells.lookup x) ∧ CapOk X scope cl js xs
  | _, _ => False
theorem CapOk.get {X : Cx} {scope : Scope} {cl : List (Str × Addr)} : ∀ {js : List Nat} {xs : List Str} {k : Nat} {j : Nat}, CapOk X scope cl js xs → js[k]? = some j → ∃ x, xs[k]? = some x ∧ X.N[j]? = some x ∧
    (X.env.kindOf x = some .cell ∨ X.env.kindOf x = some .free) ∧ ((relabel scope X.env).names.lookup x = some .cell ∨ (relabel scope X.env).names.lookup x = some .free) ∧ cl.lookup x = X.env.cells.lookup x
  | [], _, _, _, _, e => by simp at e
  | _ :: _, [], _, _, h, _ => h.elim
  | j :: js, x :: xs, 0, j', h, e => by
    simp at e
    subst e
    obtain ⟨⟨a, b, c, d⟩, _⟩ := h
    exact ⟨x, rfl, a, b, c, d⟩
  | j :: js, x :: xs, k + 1, j', h, e => by
    obtain ⟨_, h⟩ := h
    obtain ⟨y, a, b⟩ := CapOk.get (k := k) h (by simpa using e)
    exact ⟨y, by simpa using a, b⟩
theorem CapOk.len {X : Cx} {scope : Scope} {cl : List (Str × Addr)} : ∀ {js : List Nat} {xs : List Str}, CapOk X scope cl js xs → xs.length = js.length
  | [], [], _ => rfl
  | [], _ :: _, h => h.elim
  | _ :: _, [], h => h.elim
  | j :: js, x :: xs, h => by rw [List.length_cons, List.length_cons, CapOk.len h.2]
theorem RepL.cap {K : PySem.W.Frag} {H : Hp} {J : List Addr} {r : DSt} {σ : L2.St} (h : RepL K H J r σ) (own : Nat) (caps : List Nat) : RepL K H J (capR own caps r) (capR own caps σ) where
  len := by simp [capR]
  at_ := fun i d q => by
    unfold capR at q ⊢
    by_cases hi : i < own
    · rw [List.getElem?_append_left (by simpa using hi), List.getElem?_replicate] at q
      split at q <;> cases q
    · rw [List.getElem?_append_right (by simpa using hi)] at q ⊢
      simp only [List.length_replicate] at q ⊢
      rw [List.getElem?_map] at q ⊢
      cases e : caps[i - own]? with
      | none => rw [e] at q; cases q
      | some j =>
        rw [e] at q
        simp only [Option.map_some, Option.some.injEq] at q ⊢
        obtain ⟨v, h1, h2⟩ := h.at_ j d (by
          cases e2 : r[j]? with
          | none => rw [e2] at q; cases q
          | some o => rw [e2] at q; simp at q; rw [q])
        exact ⟨v, by rw [h1]; rfl, h2⟩
theorem cl_sub {X : Cx} {cl : List (Str × Addr)} (hcl : ∀ p ∈ cl, X.env.cells.lookup p.1 = some p.2) {x : Str} {c : Addr} (h : cl.lookup x = some c) : X.env.cells.lookup x = some c := by
  induction cl with
  | nil => simp at h
  | cons p r ih =>
    obtain ⟨y, b⟩ := p
    rw [List.lookup_cons] at h
    cases e : x == y with
    | true =>
      rw [e] at h
      simp at h
      subst h
      have := beq_iff_eq.mp e
      subst this
      exact hcl (x, b) (by simp)
    | false =>
      rw [e] at h
      exact ih (fun p hp => hcl p (List.mem_cons_of_mem _ hp)) h
theorem relabel_free {scope : Scope} {env : Env} {x : Str} {k : NameKind} (hk : k = .cell ∨ k = .free) (hcell : ∀ y ∈ scope.names, y.2 ≠ .cell) (h : (relabel scope env).names.lookup x = some k) : ∃ p ∈ scope.names, p.1 = x ∧ p.2 = .free := by
  unfold relabel at h
  dsimp only at h
  generalize scope.names = ns at h hcell
  induction ns with
  | nil => simp at h
  | cons p r ih =>
    obtain ⟨n, kk⟩ := p
    rw [List.map_cons] at h
    by_cases hc : (kk == NameKind.free && env.scope.kind == .function && env.kindOf n == some .cell) = true
    · simp only [hc, if_true, List.lookup_cons] at h
      cases e : x == n with
      | true =>
        have hx := beq_iff_eq.mp e
        simp only [Bool.and_eq_true, beq_iff_eq] at hc
        exact ⟨(n, kk), by simp, hx.symm, hc.1.1⟩
      | false =>
        rw [e] at h
        obtain ⟨p, hp, q⟩ := ih h fun y hy => hcell y (List.mem_cons_of_mem _ hy)
        exact ⟨p, List.mem_cons_of_mem _ hp, q⟩
    · rw [if_neg hc, List.lookup_cons] at h
      cases e : x == n with
      | true =>
        rw [e] at h
        simp at h
        have hx := beq_iff_eq.mp e
        rcases hk with rfl | rfl
        · exact absurd h (hcell (n, kk) (by simp))
        · exact ⟨(n, kk), by simp, hx.symm, h⟩
      | false =>
        rw [e] at h
        obtain ⟨p, hp, q⟩ := ih h fun y hy => hcell y (List.mem_cons_of_mem _ hy)
        exact ⟨p, List.mem_cons_of_mem _ hp, q⟩
section
variable {X : Cx} {pins : Pins} {σ : L2.St} {H2 : Hp} {s2 : Shared} {scope : Scope} {own : List Str} {capN : List Str} {caps : List Nat} {cl : List (Str × Addr)} {fp : List Addr}
structure BlkOk (X : Cx) (scope : Scope) (own capN : List Str) (caps : List Nat) (cl : List (Str × Addr)) : Prop where
  clos : closureFor scope X.env = pure cl
  cells : ∀ p ∈ cl, X.env.cells.lookup p.1 = some p.2
  frees : scope.names.all (fun p => p.2 != .free || (cl.lookup p.1).isSome) = true
  nocell : ∀ y ∈ scope.names, y.2 ≠ .cell
  kind : scope.kind = .function
  names : ∀ x ∈ scope.names, x.2 = .local → scope.names.lookup x.1 = some .local
  cap : CapOk X scope cl caps capN
  nd : (own ++ capN).Nodup
theorem blk_start (B : BlkOk X scope own capN caps cl) (I : Inv X pins σ H2 s2) (hf : ∀ b ∈ fp, FpOk X pins H2 b) (ho : ∀ b ∈ fp, ∃ o, s2.heap.get? b = some o) {h' : Heap} {tk : Nat}
    (hns : h'.Ns (s2.heap.objs.size + 1) fun _ => none) (hlst : h'.get? s2.heap.objs.size = some { cls := .type "list", data := .seq #[] }) (keep : ∀ b o, s2.heap.get? b = some o → h'.get? b = some o) :
    Inv (blk X scope (own ++ capN) cl (s2.heap.objs.size + 1) s2 H2 fp) [] (capR own.length caps σ) (upd H2 s2.heap.objs.size (.lst [])) { s2 with heap := h', toks := tk } := by
  have hacc : H2 s2.heap.objs.size = none := I.hok.fresh (Nat.le_refl _)
  have lt_of : ∀ {b : Addr} {o : Obj}, s2.heap.get? b = some o → b < s2.heap.objs.size := fun e => Heap.lt_size e
  have cexist : ∀ x c, X.env.cells.lookup x = some c → c < s2.heap.objs.size := fun x c e => by
    obtain ⟨v, hv⟩ := I.cell x c e
    obtain ⟨o, ho, _⟩ := hv
    exact lt_of ho
  have hok3 : HOk X.prog X.w (upd H2 s2.heap.objs.size (.lst [])) h' := I.hok.laid keep (Nat.le_refl _) ⟨Nat.zero_le _, [], 0, .nil, hlst⟩
  refine ⟨?_, rfl, I.bare, ?_, ?_, ?_, ?_, ?_, ?_, hok3, ?_⟩
  · refine ⟨I.ok.mod, B.kind, I.ok.glob, I.ok.blt, Nat.le_succ _, ?_, ?_, ?_, I.ok.hd, I.ok.frames, .inl rfl, ?_, I.bs, Nat.le_trans I.ok.bsz I.sz, ?_, ?_, I.stack, I.stkFree⟩
    · exact fun x y c h1 h2 => I.ok.inj x y c (cl_sub B.cells h1) (cl_sub B.cells h2)
    · intro x hx
      have : ∃ p ∈ scope.names, p.1 = x ∧ p.2 = .free := by
        rcases hx with hx | hx
        · exact relabel_free (.inl rfl) B.nocell hx
        · exact relabel_free (.inr rfl) B.nocell hx
      obtain ⟨p, hp, rfl, hfree⟩ := this
      have := (List.all_eq_true.mp B.frees) p hp
      rw [hfree] at this
      simp only [bne_self_eq_false, Bool.false_or] at this
      exact Option.isSome_iff_exists.mp this
    · exact fun x c h => by cases h
    · intro b hb
      obtain ⟨o, hbo⟩ := ho b hb
      refine ⟨Nat.ne_of_lt (Nat.lt_succ_of_lt (lt_of hbo)), fun x c h => (hf b hb).2.2.2.2.1 x c (cl_sub B.cells h)⟩
    · intro b o hb hbf
      obtain ⟨_, _, _, hx, _⟩ := hf b hbf
      rcases hx with hx | hx
      · exact I.ok.noex b o hb hx
      · exact absurd (Nat.lt_of_lt_of_le (Heap.lt_size hb) (Nat.le_trans I.ok.bsz hx)) (Nat.lt_irrefl _)
    · intro b hb hbs
      obtain ⟨_, hl, hfs, _⟩ := hf b hb
      rcases List.mem_cons.mp (I.stkSub b hbs) with e | e
      · exact hl e
      · exact hfs e
  · exact (Un.laid (o := .lst []) keep (Nat.le_refl _) hacc)
  · refine ⟨_, hns, fun i x v hN hs hv => ?_⟩
    unfold capR at hs
    by_cases hi : i < own.length
    · rw [List.getElem?_append_left (by simpa using hi), List.getElem?_replicate] at hs
      split at hs <;> cases hs
    · rw [List.getElem?_append_right (by simpa using hi)] at hs
      have hN' : (own ++ capN)[i]? = some x := hN
      rw [List.getElem?_append_right (by omega)] at hN'
      simp only [List.length_replicate] at hs
      rw [List.getElem?_map] at hs
      cases e : caps[i - own.length]? with
      | none => rw [e] at hs; cases hs
      | some j =>
        rw [e] at hs
        simp only [Option.map_some, Option.some.injEq] at hs
        obtain ⟨y, hy, hNj, hko, hkn, hcl⟩ := B.cap.get e
        rw [hN'] at hy
        cases hy
        have hσ : σ[j]? = some (some v) := by
          cases e2 : σ[j]? with
          | none => rw [e2] at hs; cases hs
          | some o => rw [e2] at hs; simp at hs; rw [hs]
        obtain ⟨m, hm, hl⟩ := I.loc
        obtain ⟨u, ru, look⟩ := hl j x v hNj hσ (.inr hko)
        rcases look with ⟨hk, _⟩ | ⟨_, c, hc, hcell⟩
        · rcases hko with hk' | hk' <;> (rw [hk] at hk'; cases hk')
        · refine ⟨u, ru, .inr ⟨hkn, c, hcl.trans hc, ?_⟩⟩
          obtain ⟨o, ho, hd⟩ := hcell
          exact ⟨o, keep c o ho, hd⟩
  · intro x c h
    obtain ⟨v, o, ho, hd⟩ := I.cell x c (cl_sub B.cells h)
    exact ⟨v, o, keep c o ho, hd⟩
  · show upd H2 s2.heap.objs.size (.lst []) (s2.heap.objs.size + 1) = none
    rw [upd_ne (Nat.succ_ne_self _)]
    exact I.hok.fresh (Nat.le_succ _)
  · intro x c h
    have h1 := cl_sub B.cells h
    rw [upd_ne (Nat.ne_of_lt (cexist x c h1))]
    exact I.freeC x c h1
  · intro p hp
    cases hp
  · unfold capR
    simp only [List.length_append, List.length_replicate, List.length_map]
    show own.length + caps.length = (own ++ capN).length
    rw [List.length_append, B.cap.len]
end
end DL
namespace DL
open PySem PySem.Spec PyProof.Rows L2
def PFd (X : Cx) (ifs : List Expr) (f : DSt → M Bool) : Prop := ∀ (pins : Pins) (s : Shared) (σ : L2.St) (H : Hp) (J : List Addr) (r : DSt) (S : List Cell) (Q : Bool → Shared → Prop) (E : Value → Shared → Prop),
  At X pins σ H J r S s → MtB X pins σ H J (f r S) Q E → wpAny (model X.prog X.w) X.A (forIn ifs true fun c b => if b = true then do let ok ← isTrue c X.env (eval c X.env); pure (ForInStep.yield ok) else pure (ForInStep.yield b)) Q E s
theorem pf_nil {X : Cx} : PFd X [] (fun _ => M.ret true) := fun pins s σ H J r S Q E I m => wpAny_tests_nil (m.ok_ I)
theorem pf_one {X : Cx} {c : Expr} {f : DSt → M Bool} (h : PTd X c f) : PFd X [c] f := fun pins s σ H J r S Q E I m => wpAny_tests_one (h pins s σ H J r S Q E I m)
open Classical in
noncomputable def cTurns (tg : TGd) (ti : DSt → M Bool) (fe : DSt → M D) (n : Nat) (g : Option (Nat × List D)) (r0 : DSt) : List D → List Cell → R Unit
  | [], S => .ok () S
  | x :: xs, S => match tg x r0 with
    | none => .bad
    | some r1 => match ti r1 S with
      | .ok false S1 => if gok g S1 then cTurns tg ti fe n g r0 xs S1 else .bad
      | .ok true S1 => (match fe r1 S1 with
        | .ok d S2 => (match S2[n]? with
          | some (.lst ys) => cif (ys.length < sizeLine ∧ gok g (S2.set n (.lst (ys ++ [d])))) (cTurns tg ti fe n g r0 xs (S2.set n (.lst (ys ++ [d])))) .bad
          | _ => .bad)
        | _ => .bad)
      | _ => .bad
noncomputable def dComp (f : DSt → M Wk) (tg : TGd) (ti : DSt → M Bool) (fe : DSt → M D) (own : Nat) (caps : List Nat) : DSt → M D := fun r => (f r).bind fun w S => match cTurns tg ti fe S.length w.guard (capR own caps r) w.items (S ++ [.lst []]) with
  | .ok _ S' => .ok (.ob S.length) S'
  | _ => .bad
def TgOwn (own : Nat) (tg : TGd) : Prop := ∀ d r r', tg d r = some r' → r'.length = r.length ∧ ∀ i, own ≤ i → r'[i]? = r[i]?
theorem tgOwn_N {own i : Nat} (h : i < own) : TgOwn own (gN i) := fun d r r' e => by
  cases e
  exact ⟨by simp, fun j hj => by rw [List.getElem?_set_ne (by omega)]⟩
theorem RepL.own {K : PySem.W.Frag} {H : Hp} {J : List Addr} {own : Nat} {caps : List Nat} {r r1 : DSt} {σ : L2.St} {tg : TGd} {d : D} (ho : TgOwn own tg) (e : tg d (capR own caps r) = some r1) (h : RepL K H J r1 σ) : RepL K H J (capR own caps r) σ := by
  obtain ⟨a, b⟩ := ho _ _ _ e
  refine ⟨by rw [← a]; exact h.len, fun i d' q => ?_⟩
  by_cases hi : i < own
  · unfold capR at q
    rw [List.getElem?_append_left (by simpa using hi), List.getElem?_replicate] at q
    split at q <;> cases q
  · exact h.at_ i d' (by rw [b i (by omega)]; exact q)
section
variable {X : Cx} {elt target iter : Expr} {ifs : List Expr} {scope : Scope} {pos : Pos} {tg : TGd} {ti : DSt → M Bool} {fe : DSt → M D} {own : Nat} {caps : List Nat}
theorem comp_loop (hc : X.calm = true) (hg : PGd X target tg) (ht : PFd X ifs ti) (he : PEd X elt fe) (hown : TgOwn own tg) {r : DSt} {w : Wk} {it : Addr} {fp : List Addr} {tn : Nat → Heap → Prop} {it0 : It} {H0 : Hp} {J0 : List Addr} {n : Nat} {acc : Addr}
    (T : Turn X.prog X.w X.K target it0 fp it tn) (ok : ItOk X.K it0 w H0 J0) (hacc : J0[n]? = some acc) {RR : Result → Shared → Prop} {σ : L2.St} {S : List Cell} {s : Shared} {S' : List Cell} (I : At X [] σ H0 J0 (capR own caps r) S s)
    (hfp : ∀ b ∈ fp, FpOk X [] H0 b) (st : tn 0 s.heap) (gk : gok w.guard S) (hr : cTurns tg ti fe n w.guard (capR own caps r) w.items S = .ok () S')
    (hR : ∀ s' σ' H' J', Inv X [] σ' H' s' → RepS X.K H' J' S' → Ext H0 J0 H' J' → RR (.ok .next) s') :
    codeAny (model X.prog X.w) X.A (.compLoop (.ListComp elt [⟨target, iter, ifs, 0⟩] scope pos) 0 (.ref it) (.ref acc) X.env) RR s := by
  have stat : ∀ {H' : Hp}, (∀ b ∈ fp, H' b = none) → ∀ b ∈ fp, FpOk X [] H' b := fun hn b hb => ⟨hn b hb, (hfp b hb).2⟩
  refine codeAny_loop rfl (fun k s' => ∃ i σ' H' J' S1, At X [] σ' H' J' (capR own caps r) S1 s' ∧ Ext H0 J0 H' J' ∧ tn i s'.heap ∧ (∀ b ∈ fp, H' b = none) ∧ gok w.guard S1 ∧ k = w.items.length - i ∧ i ≤ w.items.length ∧
    cTurns tg ti fe n w.guard (capR own caps r) (w.items.drop i) S1 = .ok () S') ?_ w.items.length ⟨0, σ, H0, J0, S, I, Ext.refl _ _, st, fun b hb => (hfp b hb).1, gk, by simp, Nat.zero_le _, by simpa using hr⟩
  rintro k s3 ⟨i, σ3, H3, J3, S3, I3, x3, st3, fr3, gk3, rfl, hil, m3⟩
  show wpAny _ X.A ((compTurn (.ListComp elt [⟨target, iter, ifs, 0⟩] scope pos) 0 (.ref it) (.ref acc) X.env).onRaise (fun x => do noteFrame x X.env; theTreesLotGoes x)) _ _ s3
  refine wpAny_noted ?_
  rw [compTurn_list]
  refine wpAny_bind (wpAny_standAt (wpAny_bind ?_))
  obtain ⟨hgo, hstop, hyld⟩ := ok H3 J3 S3 x3 I3.st gk3
  by_cases hi' : i < w.items.length
  · obtain ⟨d, hd⟩ : ∃ d, w.items[i]? = some d := ⟨w.items[i], by simp [hi']⟩
    rw [List.drop_eq_getElem_cons hi'] at m3
    have hd' : w.items[i] = d := by
      rw [List.getElem?_eq_getElem hi'] at hd
      exact Option.some.inj hd
    rw [hd'] at m3
    unfold cTurns at m3
    cases eg : tg d (capR own caps r) with
    | none => rw [eg] at m3; cases m3
    | some r4 =>
      rw [eg] at m3
      dsimp only at m3
      refine thn (T.item X rfl rfl rfl hc i [] s3 σ3 H3 _ I3.inv (stat fr3) st3 (hgo i hi')) fun rr s4 ⟨u, hr, h4⟩ => ?_
      subst hr
      refine wpAny_bind (thn h4 fun _ s5 ⟨x, H5, I5, r5, y5, st5, fr5⟩ => ?_)
      obtain ⟨J5, x5, rs5, rv5⟩ := hyld i x H5 y5 d hd
      have I5' := I5.pinned (stat fr5) (T.obj _ _ st5)
      refine wpAny_bind (hg _ s5 σ3 H5 J5 (capR own caps r) S3 d x u _ _ r4 ⟨I5', I3.loc.ext x5, rs5⟩ rv5 r5 eg fun s6 σ6 H6 J6 I6 x6 => ?_)
      have back : ∀ {σ7 : L2.St} {H7 : Hp} {J7 : List Addr} {S7 : List Cell} {s7 : Shared}, At X ([] ++ pinsAt fp s5.heap) σ7 H7 J7 r4 S7 s7 → Ext H6 J6 H7 J7 → gok w.guard S7 → cTurns tg ti fe n w.guard (capR own caps r) (w.items.drop (i + 1)) S7 = .ok () S' →
          ∃ m, m < w.items.length - i ∧ ∃ i σ' H' J' S1, At X [] σ' H' J' (capR own caps r) S1 s7 ∧ Ext H0 J0 H' J' ∧ tn i s7.heap ∧ (∀ b ∈ fp, H' b = none) ∧ gok w.guard S1 ∧ m = w.items.length - i ∧ i ≤ w.items.length ∧
            cTurns tg ti fe n w.guard (capR own caps r) (w.items.drop i) S1 = .ok () S' := by
        intro σ7 H7 J7 S7 s7 I7 x7 gk7 m7
        refine ⟨w.items.length - (i + 1), by omega, i + 1, σ7, H7, J7, S7, ⟨I7.inv.unpinned, RepL.own hown eg I7.loc, I7.st⟩, ((x3.trans x5).trans x6).trans x7, T.keep _ _ _ st5 fun b hb o e => (I7.inv.pin (b, o) (List.mem_append_right _ (List.mem_append_right _ (mem_pinsAt hb e)))).1, fun b hb => ?_, gk7, rfl, hi', m7⟩
        obtain ⟨o, e, d⟩ := T.obj _ _ st5 b hb
        exact (I7.inv.pin (b, o) (List.mem_append_right _ (List.mem_append_right _ (mem_pinsAt hb e)))).2.1
      refine wpAny_bind (ht _ s6 σ6 H6 J6 r4 S3 _ _ I6 ?_)
      cases et : ti r4 S3 with
      | bad => rw [et] at m3; cases m3
      | exc c S4 => rw [et] at m3; cases m3
      | ok b S4 =>
        rw [et] at m3
        rintro s7 ⟨H7, I7, J7, x7, rs7⟩
        have A7 : At X ([] ++ pinsAt fp s5.heap) σ6 H7 J7 r4 S4 s7 := ⟨I7, I6.loc.ext x7, rs7⟩
        cases b with
        | false =>
          dsimp only at m3
          by_cases g4 : gok w.guard S4
          · rw [if_pos g4] at m3
            exact wpAny_pure ⟨rfl, back A7 x7 g4 m3⟩
          · rw [if_neg g4] at m3; cases m3
        | true =>
          dsimp only at m3
          refine wpAny_bind (wpAny_bind (he _ s7 σ6 H7 J7 r4 S4 _ _ A7 ?_))
          cases ee : fe r4 S4 with
          | bad => rw [ee] at m3; cases m3
          | exc c S5 => rw [ee] at m3; cases m3
          | ok dv S5 =>
            rw [ee] at m3
            rintro v s8 ⟨vx, H8, I8, r8, J8, x8, rs8, rv8⟩
            dsimp only at m3
            have hacc8 : J8[n]? = some acc := by
              obtain ⟨m1, e1⟩ := ((((x3.trans x5).trans x6).trans x7).trans x8).pre
              rw [e1, List.getElem?_append_left (List.getElem?_eq_some_iff.mp hacc).1]
              exact hacc
            obtain ⟨c8, hc8, rc8⟩ := rs8.cellA hacc8
            rw [hc8] at m3
            cases c8 with
            | lst ys =>
              dsimp only at m3
              by_cases g5 : ys.length < sizeLine ∧ gok w.guard (S5.set n (.lst (ys ++ [dv])))
              · rw [cif_pos g5] at m3
                obtain ⟨vs, hvs, rvs⟩ := rc8
                refine wpAny_bind (wpAny_mono (mt_append (X := X.wish (notedBy (model X.prog X.w) X.A X.env fun e s' => RR (.error e) s')) _ s8 σ6 H8 (.ref acc) [vx] (.ref acc) [v] (fun v' H9 => v' = .non ∧ H9 = upd H8 acc (.lst (vs ++ [vx]))) (I8.wish _) rfl (.cons r8 .nil)
                  ⟨acc, vs, vx, rfl, rfl, hvs, by rw [rvs.length]; exact g5.1, rfl, rfl⟩) (fun v' s9 q => ?_) fun _ _ z => z)
                obtain ⟨v9, H9, I9, r9, rfl, rfl⟩ := q
                have x9 : Ext H8 J8 (upd H8 acc (.lst (vs ++ [vx]))) J8 := Ext.write hvs rfl
                have rs9 : RepS X.K (upd H8 acc (.lst (vs ++ [vx]))) J8 (S5.set n (.lst (ys ++ [dv]))) := rs8.write hacc8 ⟨_, upd_same, (rvs.ext x9).append (.one (rv8.ext x9))⟩
                exact wpAny_pure (wpAny_pure ⟨rfl, back ⟨I9.unwish, (A7.loc.ext x8).ext x9, rs9⟩ ((x7.trans x8).trans x9) g5.2 m3⟩)
              · rw [cif_neg g5] at m3; cases m3
            | _ => cases m3
  · have e : i = w.items.length := by omega
    subst e
    rw [List.drop_length] at m3
    cases m3
    refine thn (T.done X rfl rfl rfl hc _ [] s3 σ3 H3 _ I3.inv (stat fr3) st3 hstop) fun rr s4 ⟨hr, I4⟩ => ?_
    subst hr
    exact wpAny_pure (hR s4 σ3 H3 J3 I4 I3.st x3)
end
section
variable {X : Cx} {elt target iter : Expr} {ifs : List Expr} {scope : Scope} {pos : Pos} {f : DSt → M Wk} {tg : TGd} {ti : DSt → M Bool} {fe : DSt → M D} {own capN : List Str} {caps : List Nat} {cl : List (Str × Addr)}
structure CompEnd (X : Cx) (pins : Pins) (σ : L2.St) (H : Hp) (J : List Addr) (n : Nat) (S' : List Cell) (D C : Addr) (s' : Shared) : Prop where
  ex : ∃ H' J', Inv X pins σ H' s' ∧ Ext H J H' J' ∧ RepS X.K H' J' S' ∧ J'[n]? = some D ∧ H' C = none ∧ C ≠ X.env.locals ∧ X.s₀.heap.objs.size ≤ C ∧ (∀ x c, X.env.cells.lookup x = some c → c ≠ C) ∧ ∀ p ∈ X.pn ++ pins, p.1 ≠ C
  ns : ∃ m, s'.heap.Ns C m
theorem comp_core (B : BlkOk X scope own capN caps cl) (hc : X.calm = true) (hown : TgOwn own.length tg)
    (hB : ∀ (C : Addr) (s2 : Shared) (H2 : Hp) (fp : List Addr), PGd (blk X scope (own ++ capN) cl C s2 H2 fp) target tg ∧ PFd (blk X scope (own ++ capN) cl C s2 H2 fp) ifs ti ∧ PEd (blk X scope (own ++ capN) cl C s2 H2 fp) elt fe)
    {pins : Pins} {s2 : Shared} {σ : L2.St} {H2 : Hp} {J2 : List Addr} {r : DSt} {S : List Cell} {w : Wk} {S' : List Cell} {RR : Value → Addr → Result → Shared → Prop} {E : Value → Shared → Prop}
    {it : Addr} {fp : List Addr} {tn : Nat → Heap → Prop} {it0 : It} (I2 : At X pins σ H2 J2 r S s2) (T : Turn X.prog X.w X.K target it0 fp it tn) (ok : ItOk X.K it0 w H2 J2) (hfp : ∀ b ∈ fp, FpOk X pins H2 b) (st : tn 0 s2.heap) (gk : gok w.guard S)
    (hr : cTurns tg ti fe S.length w.guard (capR own.length caps r) w.items (S ++ [.lst []]) = .ok () S')
    (hR : ∀ D C s', CompEnd X pins σ H2 J2 S.length S' D C s' → RR (.ref D) C (.ok .next) s') :
    wpAny (model X.prog X.w) X.A (newList []) (fun acc s₃ => wpAny (model X.prog X.w) X.A (newFunctionEnv scope X.env.globals cl [] X.env.qual none .none (some X.env)) (fun cenv s₄ =>
      codeAny (model X.prog X.w) X.A (.compStart (.ListComp elt [⟨target, iter, ifs, 0⟩] scope pos) 0 (.ref it) acc { cenv with scope := relabel scope X.env }) (RR acc cenv.locals) s₄) E s₃) E s2 := by
  refine wpAny_newObj_type (wpAny_newFunctionEnv B.nocell (by intro y hy; simp at hy) (fun h₁ hns₁ hsb₁ => ?_) B.kind)
  dsimp only at hns₁ hsb₁ ⊢
  have hsz : (s2.heap.push { cls := .type "list", dict := none, data := .seq ([] : List Value).toArray }).objs.size = s2.heap.objs.size + 1 := by rw [Heap.size_push]
  rw [hsz] at hns₁ hsb₁ ⊢
  have keep : ∀ b o, s2.heap.get? b = some o → h₁.get? b = some o := fun b o e =>
    hsb₁.extBut b o (Nat.ne_of_lt (Nat.lt_succ_of_lt (Heap.lt_size e))) (Heap.get?_push_of_some _ (Heap.get?_push_of_some _ e))
  have hl : h₁.get? s2.heap.objs.size = some { cls := .type "list", data := .seq #[] } := hsb₁.extBut _ _ (Nat.ne_of_lt (Nat.lt_succ_self _)) (Heap.get?_push_of_some _ (Heap.get?_push_size _ rfl))
  have fpo : ∀ b ∈ fp, ∃ o, s2.heap.get? b = some o := fun b hb => let ⟨o, e, _⟩ := T.obj _ _ st b hb; ⟨o, e⟩
  have hf0 : H2 s2.heap.objs.size = none := I2.inv.hok.fresh (Nat.le_refl _)
  have IB := blk_start (tk := s2.toks + ([] : List (Str × Value)).length) B I2.inv hfp fpo (by simpa using hns₁) hl keep
  have st1 : tn 0 h₁ := T.keep _ _ _ st fun b hb o e => keep b o e
  obtain ⟨hg, ht, he⟩ := hB (s2.heap.objs.size + 1) s2 H2 fp
  have x0 : Ext H2 J2 (upd H2 s2.heap.objs.size (.lst [])) (J2 ++ [s2.heap.objs.size]) := (Ext.new hf0).snoc _
  have rs0 : RepS X.K (upd H2 s2.heap.objs.size (.lst [])) (J2 ++ [s2.heap.objs.size]) (S ++ [.lst []]) := I2.st.push hf0 ⟨[], upd_same, .nil⟩
  have loop : codeAny (model X.prog X.w) X.A (.compLoop (.ListComp elt [⟨target, iter, ifs, 0⟩] scope pos) 0 (.ref it) (.ref s2.heap.objs.size) (compEnvC scope cl (s2.heap.objs.size + 1) X.env)) (RR (.ref s2.heap.objs.size) (s2.heap.objs.size + 1))
      { s2 with heap := h₁, toks := s2.toks + ([] : List (Str × Value)).length } := by
    refine comp_loop (X := blk X scope (own ++ capN) cl (s2.heap.objs.size + 1) s2 H2 fp) (own := own.length) (caps := caps) (r := r) (w := w) (n := S.length) hc hg ht he hown (H0 := upd H2 s2.heap.objs.size (.lst [])) (J0 := J2 ++ [s2.heap.objs.size]) (it0 := it0) (fp := fp) (tn := tn) T
      ?_ ?_ (S := S ++ [Cell.lst []]) ⟨IB, (I2.loc.ext x0).cap _ _, rs0⟩ ?_ st1 ?_ hr ?_
    · exact fun H J S1 x rs g => ok H J S1 (x0.trans x) rs g
    · rw [← I2.st.len]; simp
    · intro b hb
      obtain ⟨o, hbo⟩ := fpo b hb
      obtain ⟨f0, f1, f2, f3, f4, f5⟩ := hfp b hb
      refine ⟨by rw [upd_ne (Nat.ne_of_lt (Heap.lt_size hbo))]; exact f0, Nat.ne_of_lt (Nat.lt_succ_of_lt (Heap.lt_size hbo)), ?_, .inl hb, fun x c h => f4 x c (cl_sub B.cells h), fun p hp => by cases hp⟩
      intro hbs
      rcases List.mem_cons.mp (I2.inv.stkSub b hbs) with e | e
      · exact f1 e
      · exact f2 e
    · cases eg : w.guard with
      | none => trivial
      | some q =>
        obtain ⟨k, xs⟩ := q
        rw [eg] at gk
        show (S ++ [Cell.lst []])[k]? = _
        rw [List.getElem?_append_left (List.getElem?_eq_some_iff.mp gk).1]
        exact gk
    · intro s' σ' H' J' I' rs' x'
      refine hR _ _ s' ⟨⟨H', J', ?_, x0.trans x', rs', ?_, I'.free, ?_, ?_, ?_, ?_⟩, ?_⟩
      · refine I2.inv.call' (ch := fp) I'.os I'.base I'.hok I'.bare fun b hb => ?_
        obtain ⟨f0, f1, f2, f3, f4, f5⟩ := hfp b hb
        exact ⟨f3, f1, f4, f5⟩
      · obtain ⟨m, em⟩ := x'.pre
        rw [em, List.getElem?_append_left (by rw [List.length_append, I2.st.len]; simp), ← I2.st.len]
        simp
      · exact (Nat.ne_of_lt (Nat.lt_succ_of_lt I2.inv.lt)).symm
      · exact Nat.le_trans I2.inv.sz (Nat.le_succ _)
      · intro x c h
        obtain ⟨v, o, ho, _⟩ := I2.inv.cell x c h
        exact Nat.ne_of_lt (Nat.lt_succ_of_lt (Heap.lt_size ho))
      · intro p hp
        obtain ⟨h1, _⟩ := I2.inv.pin p hp
        exact Nat.ne_of_lt (Nat.lt_succ_of_lt (Heap.lt_size h1))
      · obtain ⟨m, hm, _⟩ := I'.loc
        exact ⟨m, hm⟩
  exact codeAny_compStart_list loop (T.self _ 0 _ _ _ st1 loop)
theorem CompEnd.let_go {pins : Pins} {σ : L2.St} {H : Hp} {J : List Addr} {n : Nat} {S' : List Cell} {D C : Addr} {s' : Shared} (h : CompEnd X pins σ H J n S' D C s') {h' : Heap} (hs : Heap.SameBut C s'.heap h') :
    ∃ H' J', Inv X pins σ H' { s' with heap := h' } ∧ Ext H J H' J' ∧ RepS X.K H' J' S' ∧ J'[n]? = some D := by
  obtain ⟨H', J', I, x, rs, hn, f0, f1, f2, f3, f4⟩ := h.ex
  exact ⟨H', J', I.turned (t' := s'.toks) (fun b o hb e => (hs.2 b hb).trans e) f0 f1 (.inr f2) f3 f4, x, rs, hn⟩
theorem pd_comp (B : BlkOk X scope own capN caps cl) (hc : X.calm = true) (hi : PId X target iter f) (hown : TgOwn own.length tg)
    (hB : ∀ (C : Addr) (s2 : Shared) (H2 : Hp) (fp : List Addr), PGd (blk X scope (own ++ capN) cl C s2 H2 fp) target tg ∧ PFd (blk X scope (own ++ capN) cl C s2 H2 fp) ifs ti ∧ PEd (blk X scope (own ++ capN) cl C s2 H2 fp) elt fe)
    (hs : ∀ x, foldedSetIterable iter X.env x = pure x := by intro _; rfl) :
    PEd X (.ListComp elt [⟨target, iter, ifs, 0⟩] scope pos) (dComp f tg ti fe own.length caps) := by
  intro pins s σ H J r S Q E I m
  rw [eval_ListComp]
  refine wpAny_comprehension_free (use := none) rfl hs B.clos B.kind B.names (hi pins s σ H J r S _ E I ?_)
  unfold dComp M.bind at m
  cases ef : f r S with
  | bad => rw [ef] at m; exact m
  | exc c S1 => rw [ef] at m; exact m
  | ok w S1 =>
    rw [ef] at m
    dsimp only at m
    rintro itv s2 ⟨it, fp, tn, it0, H2, rfl, I2, T, st2, f2, J2, x2, rs2, gk, ok⟩
    cases er : cTurns tg ti fe S1.length w.guard (capR own.length caps r) w.items (S1 ++ [.lst []]) with
    | bad => rw [er] at m; exact m.elim
    | exc c S3 => rw [er] at m; exact m.elim
    | ok uu S' =>
      rw [er] at m
      refine comp_core (RR := fun acc C => compPost (model X.prog X.w) X.A E none Q acc C) B hc hown hB ⟨I2, I.loc.ext x2, rs2⟩ T ok f2 st2 gk er fun D C s' ce => ?_
      obtain ⟨mC, hmC⟩ := ce.ns
      refine ⟨mC, hmC, fun h' hs' => ?_⟩
      obtain ⟨H', J', I', x', rs', hn⟩ := ce.let_go hs'
      exact m _ _ ⟨.ref D, H', I', rfl, J', x2.trans x', rs', .ob hn⟩
theorem sd_setComp {i : Nat} {y : Str} {py spos : Pos} (hN : X.N.Nodup) (B : BlkOk X scope own capN caps cl) (hc : X.calm = true) (hi : PId X target iter f) (hown : TgOwn own.length tg)
    (hB : ∀ (C : Addr) (s2 : Shared) (H2 : Hp) (fp : List Addr), PGd (blk X scope (own ++ capN) cl C s2 H2 fp) target tg ∧ PFd (blk X scope (own ++ capN) cl C s2 H2 fp) ifs ti ∧ PEd (blk X scope (own ++ capN) cl C s2 H2 fp) elt fe)
    (hsw : swapsWith (.ListComp elt [⟨target, iter, ifs, 0⟩] scope pos) (some (.Name y py)) spos.line X.env = pure true := by rfl) (hiN : X.N[i]? = some y := by rfl) (hx : Loc X.env.scope y := by first | exact Or.inl rfl | exact Or.inr rfl)
    (hf : X.fn y = true ∨ X.env.scope.names.lookup y = some .local := by first | exact .inl rfl | exact .inr rfl | assumption)
    (hs : ∀ x, foldedSetIterable iter X.env x = pure x := by intro _; rfl) :
    PSd X (.Assign [.Name y py] (.ListComp elt [⟨target, iter, ifs, 0⟩] scope pos) spos) (sAsg (dComp f tg ti fe own.length caps) (gN i)) := by
  intro pins s σ H J r S Q E I m
  rw [exec_Assign_Name_used _ _ _ _ hsw]
  refine wpAny_bind (wpAny_standAt (wpAny_bind ?_))
  show wpAny _ X.A (do let _ ← comprehension (.ListComp elt [⟨target, iter, ifs, 0⟩] scope pos) scope X.env _ (newList []) false (eval iter X.env) (some (assign (.Name y py) X.env))) _ _ s
  refine wpAny_bind (wpAny_mono (wpAny_comprehension_free (use := some (assign (.Name y py) X.env)) (Q := fun _ s' => Q .next s') rfl hs B.clos B.kind B.names (hi pins s σ H J r S _ E I ?_)) (fun _ s' hq => wpAny_pure (wpAny_pure hq)) fun _ _ z => z)
  unfold sAsg sBind dComp M.bind at m
  cases ef : f r S with
  | bad => rw [ef] at m; exact m
  | exc c S1 => rw [ef] at m; exact fun x s' ⟨H', XI, J', ex, rs⟩ => m x s' σ H' J' XI (I.loc.ext ex) rs ex
  | ok w S1 =>
    rw [ef] at m
    dsimp only at m
    rintro itv s2 ⟨it, fp, tn, it0, H2, rfl, I2, T, st2, f2, J2, x2, rs2, gk, ok⟩
    cases er : cTurns tg ti fe S1.length w.guard (capR own.length caps r) w.items (S1 ++ [.lst []]) with
    | bad => rw [er] at m; exact m.elim
    | exc c S3 => rw [er] at m; exact m.elim
    | ok uu S' =>
      rw [er] at m
      refine comp_core (RR := fun acc C => compPost (model X.prog X.w) X.A E (some (assign (.Name y py) X.env)) (fun _ s' => Q .next s') acc C) B hc hown hB ⟨I2, I.loc.ext x2, rs2⟩ T ok f2 st2 gk er fun D C s' ce => ?_
      obtain ⟨H', J', I', x', rs', hn, f0, f1, f2', f3, f4⟩ := ce.ex
      obtain ⟨mC, hmC⟩ := ce.ns
      show wpAny _ X.A (assign (.Name y py) X.env (.ref D)) _ _ _
      refine wpAny_assign_Name (store_ok2 I' hN hiN hx (v := .ref D) rfl (fun s3 I3 ch => ?_) hf)
      obtain ⟨ca, hsb, hca⟩ := ch
      have hCa : C ≠ ca := by
        rcases hca with e | e
        · rw [e]; exact f1
        · exact (f3 _ _ e).symm
      refine ⟨mC, hmC.sameBut hsb hCa, fun h' hs' => ?_⟩
      exact m _ _ H' J' ⟨I3.turned (h' := h') (t' := s3.toks) (fun b o hb e => (hs'.2 b hb).trans e) f0 f1 (.inr f2') f3 f4, ((I.loc.ext x2).ext x').set (.ob hn), rs'⟩ (x2.trans x')
end
end DL
namespace DL
open PySem PySem.Spec PyProof.Rows L2
mutual
def wfD (n : Nat) : D → Prop
  | .tup xs => wfDs n xs
  | .rol xs => wfDs n xs
  | .ob k => k < n
  | _ => True
def wfDs (n : Nat) : List D → Prop
  | [] => True
  | x :: xs => wfD n x ∧ wfDs n xs
end
section
variable {K : PySem.W.Frag} {H : Hp} {J m : List Addr}
mutual
theorem RepV.wf : ∀ {d : D} {v : V}, RepV K H J d v → wfD J.length d
  | .non, _, _ => by unfold wfD; trivial
  | .bl _, _, _ => by unfold wfD; trivial
  | .int _, _, _ => by unfold wfD; trivial
  | .str _, _, _ => by unfold wfD; trivial
  | .xn _, _, _ => by unfold wfD; trivial
  | .tup xs, _, h => by
    obtain ⟨a, vs, _, _, h⟩ := h.tup_
    unfold wfD
    exact RepVs.wf h
  | .rol xs, _, h => by
    obtain ⟨a, vs, _, _, h⟩ := h.rol_
    unfold wfD
    exact RepVs.wf h
  | .ob k, _, h => by
    obtain ⟨a, _, h⟩ := h.ob_
    unfold wfD
    exact (List.getElem?_eq_some_iff.mp h).1
theorem RepVs.wf : ∀ {xs : List D} {vs : List V}, RepVs K H J xs vs → wfDs J.length xs
  | [], _, _ => by unfold wfDs; trivial
  | x :: xs, _, h => by
    unfold RepVs at h
    obtain ⟨v, r, _, h1, h2⟩ := h
    unfold wfDs
    exact ⟨RepV.wf h1, RepVs.wf h2⟩
end
mutual
theorem RepV.shrink : ∀ {d : D} {v : V}, wfD J.length d → RepV K H (J ++ m) d v → RepV K H J d v
  | .non, _, _, h => by unfold RepV at h ⊢; exact h
  | .bl _, _, _, h => by unfold RepV at h ⊢; exact h
  | .int _, _, _, h => by unfold RepV at h ⊢; exact h
  | .str _, _, _, h => by unfold RepV at h ⊢; exact h
  | .xn _, _, _, h => by unfold RepV at h ⊢; exact h
  | .tup xs, _, w, h => by
    unfold wfD at w
    unfold RepV at h ⊢
    obtain ⟨a, vs, h1, h2, h3⟩ := h
    exact ⟨a, vs, h1, h2, RepVs.shrink w h3⟩
  | .rol xs, _, w, h => by
    unfold wfD at w
    unfold RepV at h ⊢
    obtain ⟨a, vs, h1, h2, h3⟩ := h
    exact ⟨a, vs, h1, h2, RepVs.shrink w h3⟩
  | .ob k, _, w, h => by
    unfold wfD at w
    unfold RepV at h ⊢
    obtain ⟨a, h1, h2⟩ := h
    rw [List.getElem?_append_left w] at h2
    exact ⟨a, h1, h2⟩
theorem RepVs.shrink : ∀ {xs : List D} {vs : List V}, wfDs J.length xs → RepVs K H (J ++ m) xs vs → RepVs K H J xs vs
  | [], _, _, h => by unfold RepVs at h ⊢; exact h
  | x :: xs, _, w, h => by
    unfold wfDs at w
    unfold RepVs at h ⊢
    obtain ⟨v, r, h1, h2, h3⟩ := h
    exact ⟨v, r, h1, RepV.shrink w.1 h2, RepVs.shrink w.2 h3⟩
end
def wfPs {κ : Type} (n : Nat) (xs : List (κ × D)) : Prop := ∀ p ∈ xs, wfD n p.2
theorem RepPs.wf {κ : Type} : ∀ {xs : List (κ × D)} {ws : List (κ × V)}, RepPs K H J xs ws → wfPs J.length xs
  | [], _, _ => fun p hp => by cases hp
  | (k, d) :: r, ws, h => by
    obtain ⟨v, t, _, h1, h2⟩ := h
    intro p hp
    rcases List.mem_cons.mp hp with rfl | hp
    · exact h1.wf
    · exact RepPs.wf h2 p hp
theorem RepPs.shrink {κ : Type} : ∀ {xs : List (κ × D)} {ws : List (κ × V)}, wfPs J.length xs → RepPs K H (J ++ m) xs ws → RepPs K H J xs ws
  | [], _, _, h => h
  | (k, d) :: r, ws, w, h => by
    obtain ⟨v, t, h0, h1, h2⟩ := h
    exact ⟨v, t, h0, h1.shrink (w (k, d) (by simp)), RepPs.shrink (fun p hp => w p (List.mem_cons_of_mem _ hp)) h2⟩
def wfC (n : Nat) : Cell → Prop
  | .lst xs => wfDs n xs
  | .dic kvs => wfPs n kvs
  | .ins _ _ ds => wfDs n ds
theorem RepC.wf {c : Cell} {a : Addr} (h : RepC K H J c a) : wfC J.length c := by
  cases c with
  | lst xs => obtain ⟨vs, _, r⟩ := h; exact r.wf
  | dic xs => obtain ⟨vs, _, r⟩ := h; exact r.wf
  | ins C ns ds => obtain ⟨dx, vs, _, _, r⟩ := h; exact r.wf
theorem RepC.shrink {c : Cell} {a : Addr} (w : wfC J.length c) (h : RepC K H (J ++ m) c a) : RepC K H J c a := by
  cases c with
  | lst xs => obtain ⟨vs, e, r⟩ := h; exact ⟨vs, e, r.shrink w⟩
  | dic xs => obtain ⟨vs, e, r⟩ := h; exact ⟨vs, e, r.shrink w⟩
  | ins C ns ds => obtain ⟨dx, vs, e, q, r⟩ := h; exact ⟨dx, vs, e, q, r.shrink w⟩
theorem RepS.wf {S : List Cell} (h : RepS K H J S) {n : Nat} {c : Cell} (hn : S[n]? = some c) : wfC S.length c := by
  obtain ⟨a, _, r⟩ := h.cell hn
  rw [← h.len]
  exact r.wf
theorem RepS.shrink {S G : List Cell} {J' : List Addr} (h : RepS K H J' (S ++ G)) (hw : ∀ (n : Nat) c, S[n]? = some c → wfC S.length c) : RepS K H (J'.take S.length) S := by
  have hl := h.len
  rw [List.length_append] at hl
  have hj : (J'.take S.length).length = S.length := by rw [List.length_take]; omega
  refine ⟨hj, h.nd.sublist (List.take_sublist _ _), fun n c a hc ha => ?_⟩
  have hn := (List.getElem?_eq_some_iff.mp hc).1
  have ha' : J'[n]? = some a := by
    rw [List.getElem?_take] at ha
    rw [if_pos hn] at ha
    exact ha
  have r := h.at_ n c a (by rw [List.getElem?_append_left hn]; exact hc) ha'
  have w := hw n c hc
  rw [← hj] at w
  rw [← List.take_append_drop S.length J'] at r
  exact r.shrink w
theorem Got.drop {H' : Hp} {S0 S G : List Cell} {d : D} {v : V} (h : Got K H J d (S ++ G) v H') (r0 : RepS K H J S0) (hl : S0.length ≤ S.length) (hd : wfD S.length d) (hw : ∀ (n : Nat) c, S[n]? = some c → wfC S.length c) : Got K H J d S v H' := by
  obtain ⟨J', x, rs, rv⟩ := h
  have hlen := rs.len
  rw [List.length_append] at hlen
  have hj : (J'.take S.length).length = S.length := by rw [List.length_take]; omega
  refine ⟨J'.take S.length, ⟨x.st, ?_⟩, rs.shrink hw, ?_⟩
  · obtain ⟨more, e⟩ := x.pre
    refine ⟨more.take (S.length - J.length), ?_⟩
    rw [e, List.take_append, List.take_of_length_le (by rw [r0.len]; exact hl)]
  · rw [← hj] at hd
    rw [← List.take_append_drop S.length J'] at rv
    exact rv.shrink hd
end
def FEnd (S0 : List Cell) (x : RSt) (y : R D) : Prop := match y with
  | .ok d S' => ∃ G, (G = [] ∨ (S0.length ≤ S'.length ∧ wfD S'.length d ∧ (S' = S0 ∨ ∀ (n : Nat) c, S'[n]? = some c → wfC S'.length c))) ∧ (x = some (.rt d, S' ++ G) ∨ (d = .non ∧ ∃ r', x = some (.nx r', S' ++ G)))
  | .exc c S' => ∃ r', x = some (.xc c r', S')
  | .bad => True
def Leaves (CX : CXT) (X : Cx) (E : XK) : Prop := ∀ (σ : L2.St) (H' : Hp) (s' : Shared) (e : Value) (c : Addr), XInv X [] σ H' s' e c → E (.ref c) none H' → X.xe e s'
theorem leaves0 {X : Cx} {E : XK} : Leaves CX0 X E := fun _ _ _ _ _ h _ => h.fly.elim
section
variable {P : Program} {w : World} {K : PySem.W.Frag} {mg : Str → Option Value} {base : Heap} {CX : CXT}
theorem fnD_of {x qual : Str} {st : Stmt} {f : Addr} {fd : FuncData} {N ps : List Str} {k : Nat} {F : List D → M D} (hF : Fun K x qual st f fd) (S : FnScope N ps (defScope st))
    (hleave : ∀ (cdv : Value) (A : Around) (outer : List Env) (s : Shared) (H : Hp) (E : XK), Leaves CX (cxOf CX P w K mg base N qual (defScope st) f cdv A outer s H E) E)
    (hbody : ∀ (cdv : Value) (A : Around) (outer : List Env) (s : Shared) (H : Hp) (E : XK), Room k (A.deeper (envOfC qual (defScope st) s.heap.objs.size f cdv)) →
      ∃ t, PSsd (cxOf CX P w K mg base N qual (defScope st) f cdv A outer s H E) (defBody st) t ∧ ∀ xs S0, xs.length = ps.length → FEnd S0 (t (xs.map some ++ List.replicate (N.length - xs.length) none) S0) (F xs S0)) :
    FnD P w K mg base CX (k + 1) f fd ps F := by
  obtain ⟨oc, od, kV, doc, pm, an, cdv, ct, osl, rfl, lk, hcd⟩ := hF.ex
  refine fn_of lk hcd S (fun vs H Q E h => h.1) (fun A outer s H vs Q E hr h => ?_)
  obtain ⟨hlen, J, xs, S0, rx, rs, h⟩ := h
  obtain ⟨t, ht, hend⟩ := hbody cdv A outer s H E hr
  have hl : xs.length = ps.length := by rw [← rx.length]; exact hlen
  have he := hend xs S0 hl
  refine ⟨fun D σ H' => D = { nx := fun _ H' => Q .non H', rt := Q } ∧ σ = L2.start N vs ∧ H' = H, ?_, rfl, rfl, rfl⟩
  rintro pins s1 σ1 H1 D1 I1 ⟨rfl, rfl, rfl⟩
  refine ht pins s1 _ _ J _ S0 _ _ ⟨I1, RepL.start rx, rs⟩ ?_
  have wf0 : ∀ (n : Nat) c, S0[n]? = some c → wfC S0.length c := fun n c h => rs.wf h
  cases ef : F xs S0 with
  | bad => rw [ef] at h; exact h.elim
  | ok d S' =>
    rw [ef] at he h
    dsimp only at h
    obtain ⟨G, hG, hx⟩ := he
    have fin : ∀ {v : V} {H' : Hp}, Got K H1 J d (S' ++ G) v H' → Q v H' := fun {v H'} g => by
      rcases hG with rfl | ⟨h1, h2, h3⟩
      · rw [List.append_nil] at g
        exact h v H' g
      · refine h v H' (g.drop rs h1 h2 ?_)
        rcases h3 with rfl | h3
        · exact wf0
        · exact h3
    rcases hx with hx | ⟨rfl, r', hx⟩
    · rw [hx]
      exact fun u s' σ' ⟨v, H', I', rv, g⟩ => ⟨v, σ', H', I', rv, fin g⟩
    · rw [hx]
      exact fun s' σ' H' J' a x => ⟨σ', H', a.inv, fin ⟨J', x, a.st, RepV.non _ _ _⟩⟩
  | exc c S' =>
    rw [ef] at he h
    dsimp only at h
    obtain ⟨r', hx⟩ := he
    rw [hx]
    exact fun e s' σ' H' J' XI rl rs' x => hleave cdv A outer s H1 E σ' H' s' e c ⟨XI.inv.pins_of (fun p hp => (nomatch hp)), XI.fly⟩ (h H' ⟨J', x, rs'⟩)
end
end DL
namespace DL
open PySem PySem.Spec PyProof.Rows L2
mutual
def pD (S : List Cell) : Nat → D → Option PyData
  | 0, _ => none
  | n + 1, .non => some .none
  | n + 1, .bl b => some (.bool b)
  | n + 1, .int i => some (.int i)
  | n + 1, .str x => if PyData.canLay0 (.str x) = true then some (.str x) else none
  | n + 1, .tup xs => (pDs S n xs).map .tuple
  | n + 1, .rol xs => (pDs S n xs).map .list
  | n + 1, .ob k => match S[k]? with
    | some (.lst xs) => (pDs S n xs).map .list
    | _ => none
  | n + 1, .xn _ => none
def pDs (S : List Cell) (n : Nat) : List D → Option (List PyData)
  | [] => some []
  | x :: xs => match pD S n x, pDs S n xs with
    | some p, some ps => some (p :: ps)
    | _, _ => none
end
section
variable {X : Cx} {pins : Pins} {σ : L2.St} {H : Hp} {J : List Addr} {S : List Cell} {s : Shared}
mutual
theorem reads_of (I : Inv X pins σ H s) (rs : RepS X.K H J S) : ∀ {n : Nat} {d : D} {v : V} {u : Value} {p : PyData}, RepV X.K H J d v → RelV v u → pD S n d = some p → (∃ as, Reads s.heap u p as) ∧ p.canLay0 = true ∧ p.depth ≤ n
  | 0, _, _, _, _, _, _, e => by unfold pD at e; cases e
  | n + 1, .non, _, _, _, rv, r, e => by
    cases rv.non_; cases r; unfold pD at e; cases e
    exact ⟨⟨_, .none⟩, rfl, Nat.zero_le _⟩
  | n + 1, .bl b, _, _, _, rv, r, e => by
    cases rv.bl_; cases r; unfold pD at e; cases e
    exact ⟨⟨_, .bool b⟩, rfl, Nat.zero_le _⟩
  | n + 1, .int i, _, _, _, rv, r, e => by
    cases rv.int_; obtain ⟨t, rfl⟩ := r; unfold pD at e; cases e
    exact ⟨⟨_, .int i t⟩, rfl, Nat.zero_le _⟩
  | n + 1, .str x, _, _, _, rv, r, e => by
    cases rv.str_
    obtain ⟨t, rfl⟩ := r
    unfold pD at e
    split at e
    · rename_i h
      cases e
      exact ⟨⟨_, .str x t⟩, h, Nat.zero_le _⟩
    · cases e
  | n + 1, .tup xs, _, _, _, rv, r, e => by
    obtain ⟨a, vs, rfl, hq, rvs⟩ := rv.tup_
    cases r
    obtain ⟨its, rl, ⟨o, ho, hc, k, hd⟩, hz⟩ := I.tuple hq
    unfold pD at e
    cases ep : pDs S n xs with
    | none => rw [ep] at e; cases e
    | some ps =>
      rw [ep] at e
      cases e
      obtain ⟨⟨as, h1⟩, h2, h3⟩ := readsAll_of I rs rvs rl ep
      exact ⟨⟨_, .tuple ho hc hd (by simpa using h1)⟩, h2, Nat.succ_le_succ h3⟩
  | n + 1, .rol xs, _, _, _, rv, r, e => by
    obtain ⟨a, vs, rfl, hq, rvs⟩ := rv.rol_
    cases r
    obtain ⟨its, rl, pl, hz⟩ := I.list hq.sq
    obtain ⟨o, ho, hc, k, hd⟩ := pl.isList
    unfold pD at e
    cases ep : pDs S n xs with
    | none => rw [ep] at e; cases e
    | some ps =>
      rw [ep] at e
      cases e
      obtain ⟨⟨as, h1⟩, h2, h3⟩ := readsAll_of I rs rvs rl ep
      exact ⟨⟨_, .list ho hc hd (by simpa using h1)⟩, h2, Nat.succ_le_succ h3⟩
  | n + 1, .ob k, _, _, _, rv, r, e => by
    obtain ⟨a, rfl, hn⟩ := rv.ob_
    cases r
    obtain ⟨c, hc, rc⟩ := rs.cellA hn
    unfold pD at e
    rw [hc] at e
    cases c with
    | lst xs =>
      obtain ⟨vs, hv, rvs⟩ := rc
      obtain ⟨its, rl, pl, hz⟩ := I.list (SqL.of hv)
      obtain ⟨o, ho, hc, k, hd⟩ := pl.isList
      dsimp only at e
      cases ep : pDs S n xs with
      | none => rw [ep] at e; cases e
      | some ps =>
        rw [ep] at e
        cases e
        obtain ⟨⟨as, h1⟩, h2, h3⟩ := readsAll_of I rs rvs rl ep
        exact ⟨⟨_, .list ho hc hd (by simpa using h1)⟩, h2, Nat.succ_le_succ h3⟩
    | _ => cases e
  | n + 1, .xn c, _, _, _, _, _, e => by unfold pD at e; cases e
theorem readsAll_of (I : Inv X pins σ H s) (rs : RepS X.K H J S) : ∀ {n : Nat} {xs : List D} {vs : List V} {us : List Value} {ps : List PyData}, RepVs X.K H J xs vs → Vals vs us → pDs S n xs = some ps → (∃ as, ReadsAll s.heap us ps as) ∧ PyData.canLayAll0 ps = true ∧ PyData.depthAll ps ≤ n
  | n, [], _, _, _, rv, r, e => by
    unfold RepVs at rv
    subst rv
    cases r
    unfold pDs at e
    cases e
    exact ⟨⟨_, .nil⟩, rfl, Nat.zero_le _⟩
  | n, x :: xs, _, _, _, rv, r, e => by
    unfold RepVs at rv
    obtain ⟨v, t, rfl, h1, h2⟩ := rv
    cases r with
    | cons q qs =>
      unfold pDs at e
      cases e1 : pD S n x with
      | none => rw [e1] at e; cases e
      | some p =>
        cases e2 : pDs S n xs with
        | none => rw [e1, e2] at e; cases e
        | some ps =>
          rw [e1, e2] at e
          cases e
          obtain ⟨⟨as, a1⟩, a2, a3⟩ := reads_of I rs h1 q e1
          obtain ⟨⟨bs, b1⟩, b2, b3⟩ := readsAll_of I rs h2 qs e2
          refine ⟨⟨_, .cons a1 b1⟩, ?_, ?_⟩
          · simp [PyData.canLayAll0, a2, b2]
          · simp only [PyData.depthAll]
            exact Nat.max_le.mpr ⟨a3, b3⟩
end
end
def eqD (x y : D) : M D := fun S => match pD S 30 x, pD S 30 y with
  | some p, some q => .ok (.bl (PyData.eqv p q)) S
  | _, _ => .bad
def neD (x y : D) : M D := fun S => match pD S 30 x, pD S 30 y with
  | some p, some q => .ok (.bl (!PyData.eqv p q)) S
  | _, _ => .bad
section
variable {X : Cx}
theorem od_eq (hu : X.A.units + 64 < cLine) : OpD X (compareOp .Eq) eqD := by
  intro pins s σ H J S x y vx vy v u Q E I rs rx ry rv ru m
  unfold eqD at m
  cases e1 : pD S 30 x with
  | none => rw [e1] at m; exact m.elim
  | some p =>
    cases e2 : pD S 30 y with
    | none => rw [e1, e2] at m; exact m.elim
    | some q =>
      rw [e1, e2] at m
      obtain ⟨⟨as, a1⟩, a2, a3⟩ := reads_of I rs rx rv e1
      obtain ⟨⟨bs, b1⟩, b2, b3⟩ := reads_of I rs ry ru e2
      exact SeqAt.compareEq_reads a1 b1 a2 b2 (by have := Nat.min_le_left p.depth q.depth; omega) (m.ok_ I rs (RepV.bl _ _ _ _) rfl)
theorem od_ne (hu : X.A.units + 64 < cLine) : OpD X (compareOp .NotEq) neD := by
  intro pins s σ H J S x y vx vy v u Q E I rs rx ry rv ru m
  unfold neD at m
  cases e1 : pD S 30 x with
  | none => rw [e1] at m; exact m.elim
  | some p =>
    cases e2 : pD S 30 y with
    | none => rw [e1, e2] at m; exact m.elim
    | some q =>
      rw [e1, e2] at m
      obtain ⟨⟨as, a1⟩, a2, a3⟩ := reads_of I rs rx rv e1
      obtain ⟨⟨bs, b1⟩, b2, b3⟩ := reads_of I rs ry ru e2
      exact SeqAt.compareNe_reads a1 b1 a2 b2 (by have := Nat.min_le_left p.depth q.depth; omega) (m.ok_ I rs (RepV.bl _ _ _ _) rfl)
noncomputable def iOp (C : Int → Int → Prop) (g : Int → Int → D) : D → D → M D
  | .int i, .int j => fun S => cif (C i j) (.ok (g i j) S) .bad
  | _, _ => M.bad
theorem od_int {f : Value → Value → Sem Value} {C : Int → Int → Prop} {g : Int → Int → Int} (h : ∀ E, OpR (X.wish E) f (rI C fun i j => .int (g i j))) : OpD X f (iOp C fun i j => .int (g i j)) := by
  refine OpD.of h (fun H J S x y vx vy d S' rs rx ry e => ?_) (fun x y S c S' e => ?_)
  · cases x with
    | int i =>
      cases y with
      | int j =>
        cases rx.int_
        cases ry.int_
        simp only [iOp, cif] at e
        split at e
        · rename_i hc
          cases e
          exact ⟨i, j, rfl, rfl, hc, J, Ext.refl _ _, rs, RepV.int _ _ _ _⟩
        · cases e
      | _ => cases e
    | _ => cases e
  · cases x with
    | int i =>
      cases y with
      | int j =>
        simp only [iOp, cif] at e
        split at e <;> cases e
      | _ => cases e
    | _ => cases e
def iCmp (p : Int → Int → Bool) : D → D → M D
  | .int i, .int j => fun S => .ok (.bl (p i j)) S
  | _, _ => M.bad
theorem od_cmp {f : Value → Value → Sem Value} {p : Int → Int → Bool} (h : ∀ E, OpR (X.wish E) f (rI0 fun i j => .bl (p i j))) : OpD X f (iCmp p) := by
  refine OpD.of h (fun H J S x y vx vy d S' rs rx ry e => ?_) (fun x y S c S' e => ?_)
  · cases x with
    | int i =>
      cases y with
      | int j =>
        cases rx.int_
        cases ry.int_
        cases e
        exact ⟨i, j, rfl, rfl, J, Ext.refl _ _, rs, RepV.bl _ _ _ _⟩
      | _ => cases e
    | _ => cases e
  · cases x with
    | int i =>
      cases y with
      | int j => cases e
      | _ => cases e
    | _ => cases e
noncomputable def subD : D → D → M D := iOp (fun _ _ => True) fun i j => .int (i - j)
noncomputable def fdivD : D → D → M D := iOp CDiv fun i j => .int (i / j)
noncomputable def modD : D → D → M D := iOp (fun _ j => 0 < j) fun i j => .int (i % j)
theorem od_sub : OpD X (binaryOp .Sub) subD := od_int (C := fun _ _ => True) (g := fun i j => i - j) fun E => opI fun _ _ _ _ _ _ _ _ q => sub_int q
theorem od_fdiv : OpD X (binaryOp .FloorDiv) fdivD := od_int fun E => op_fdiv
theorem od_mod : OpD X (binaryOp .Mod) modD := od_int fun E => op_mod
theorem od_lt : OpD X (compareOp .Lt) (iCmp fun i j => decide (i < j)) := od_cmp fun E => op_lt
theorem od_le : OpD X (compareOp .LtE) (iCmp fun i j => decide (i ≤ j)) := od_cmp fun E => op_le
theorem od_gt : OpD X (compareOp .Gt) (iCmp fun i j => decide (j < i)) := od_cmp fun E => op_gt
theorem od_ge : OpD X (compareOp .GtE) (iCmp fun i j => decide (j ≤ i)) := od_cmp fun E => op_ge
theorem cat_tup0 {t b : Addr} {vs ws : List Value} {A : Around} {s : Shared} {prog : Program} {w : World} {Q E : Value → Shared → Prop} (ht : IsTup s.heap t vs.toArray) (hb : IsTup s.heap b ws.toArray) (hv : vs = []) (h1 : Q (.ref b) s) :
    wpAny (model prog w) A (binaryOp .Add (.ref t) (.ref b)) Q E s := by
  obtain ⟨⟨cls, dd, data, sl⟩, ho, hc, n, hd⟩ := id ht
  obtain ⟨⟨cls2, dd2, data2, sl2⟩, ho2, hc2, n2, hd2⟩ := id hb
  simp only at hc hd hc2 hd2
  subst hc hd hc2 hd2
  exact concat_meets ⟨_, ho, rfl⟩ ⟨_, ho2, rfl⟩ noFill_tuple_add seq_tuple_add PySem.F.slot_tuple_add PySem.F.entry_tuple_add (PySem.F.args_tuple_add_2 _ _)
    (tuple_addW0 t b vs.toArray ws.toArray n n2 dd dd2 sl sl2 (by simp [hv])) ⟨ho, ho2, h1⟩
def lstAt (S : List Cell) (n : Nat) : Option (List D) := match S[n]? with
  | some (.lst xs) => some xs
  | _ => none
noncomputable def addD : D → D → M D
  | .int i, .int j => fun S => .ok (.int (i + j)) S
  | .tup xs, .tup ys => newTup (xs ++ ys)
  | .ob n, .ob m => fun S => match lstAt S n, lstAt S m with
    | some xs, some ys => newLst (xs ++ ys) S
    | _, _ => .bad
  | _, _ => M.bad
theorem lstAt_cell {S : List Cell} {n : Nat} {xs : List D} (h : lstAt S n = some xs) : S[n]? = some (.lst xs) := by
  unfold lstAt at h
  split at h
  · rename_i e; rw [e]; cases h; rfl
  · cases h
theorem RepS.lst {K : PySem.W.Frag} {H : Hp} {J : List Addr} {S : List Cell} {n : Nat} {xs : List D} {a : Addr} (rs : RepS K H J S) (h : lstAt S n = some xs) (hn : J[n]? = some a) : ∃ vs, H a = some (.lst vs) ∧ RepVs K H J xs vs := rs.at_ n _ a (lstAt_cell h) hn
theorem od_add : OpD X (binaryOp .Add) addD := by
  intro pins s σ H J S x y vx vy v u Q E I rs rx ry rv ru m
  cases x with
  | int i =>
    cases y with
    | int j =>
      cases rx.int_
      cases ry.int_
      obtain ⟨t, rfl⟩ := rv
      obtain ⟨t', rfl⟩ := ru
      exact add_int (m.ok_ (I.tok _) rs (RepV.int _ _ _ _) ⟨_, rfl⟩)
    | _ => exact m.elim
  | tup xs =>
    cases y with
    | tup ys =>
      obtain ⟨a, vs, rfl, ha, rvs⟩ := rx.tup_
      obtain ⟨b, ws, rfl, hb, rws⟩ := ry.tup_
      cases rv
      cases ru
      obtain ⟨its, r1, p1, _⟩ := I.tuple ha
      obtain ⟨its2, r2, p2, _⟩ := I.tuple hb
      simp only [addD, newTup, cif] at m
      split at m
      · rename_i hz
        rw [List.length_append] at hz
        by_cases h0 : its = []
        · have e0 : xs = [] := rvs.nil_iff.mp (r1.nil_iff.mp h0)
          subst e0
          exact cat_tup0 p1 p2 h0 (m.ok_ (v := .ref b) I rs (by rw [List.nil_append]; exact .tup hb rws) rfl)
        · refine HT.cat_tup p1 p2 h0 (fun z => ?_) (fun z => ?_) (by rw [← r1.length, ← r2.length, rvs.length, rws.length]; exact hz)
          · have e0 : ys = [] := rws.nil_iff.mp (r2.nil_iff.mp z)
            subst e0
            exact m.ok_ (v := .ref a) I rs (by rw [List.append_nil]; exact .tup ha rvs) rfl
          · have hf : H s.heap.objs.size = none := I.hok.fresh (Nat.le_refl _)
            refine m.val (H' := upd H s.heap.objs.size (.tup (vs ++ ws))) (v := .ref s.heap.objs.size) (I.laid (t' := s.toks) (fun b u e => Heap.get?_push_of_some _ e) (Nat.le_refl _) ?_) rfl (Got.tup rs (rvs.append rws) hf)
            exact ⟨by rw [List.length_append, rvs.length, rws.length]; exact hz, _, r1.append r2, IsTup.new _ _⟩
      · exact m.elim
    | _ => exact m.elim
  | ob n =>
    cases y with
    | ob k =>
      obtain ⟨a, rfl, hn⟩ := rx.ob_
      obtain ⟨b, rfl, hk⟩ := ry.ob_
      simp only [addD] at m
      cases e1 : lstAt S n with
      | none => rw [e1] at m; exact m.elim
      | some xs =>
        cases e2 : lstAt S k with
        | none => rw [e1, e2] at m; exact m.elim
        | some ys =>
          rw [e1, e2] at m
          obtain ⟨vs, hv, rvs⟩ := rs.lst e1 hn
          obtain ⟨ws, hw, rws⟩ := rs.lst e2 hk
          simp only [newLst, cif] at m
          split at m
          · rename_i hz
            rw [List.length_append] at hz
            refine wpAny_mono (op_cat (X := X.wish E) pins s σ H (.ref a) (.ref b) v u (Got X.K H J (.ob S.length) (S ++ [.lst (xs ++ ys)])) (I.wish E) rv ru ⟨a, b, vs, ws, rfl, rfl, hv, hw, by rw [rvs.length, rws.length]; exact hz, fun p hp => ?_⟩) (fun u s' q => m u s' (EP.unwish q)) fun _ _ z => z
            exact Got.lst rs (rvs.append rws) hp
          · exact m.elim
    | _ => exact m.elim
  | _ => exact m.elim
end
end DL
namespace DL
open PySem PySem.Spec PyProof.Rows L2
section
variable {X : Cx}
noncomputable def mulD : D → D → M D
  | .int i, .int j => fun S => cif (CMul i j) (.ok (.int (i * j)) S) .bad
  | .ob n, .int k => fun S => match lstAt S n with
    | some xs => cif ((-(2 ^ 63) ≤ k ∧ k < 2 ^ 63) ∧ xs.length * k.toNat ≤ sizeLine) (.ok (.ob S.length) (S ++ [.lst (List.replicate k.toNat xs).flatten])) .bad
    | none => .bad
  | _, _ => M.bad
theorem RepVs.rep {K : PySem.W.Frag} {H : Hp} {J : List Addr} {xs : List D} {vs : List V} (h : RepVs K H J xs vs) : ∀ k : Nat, RepVs K H J (List.replicate k xs).flatten (List.replicate k vs).flatten
  | 0 => .nil
  | k + 1 => by
    rw [List.replicate_succ, List.replicate_succ, List.flatten_cons, List.flatten_cons]
    exact h.append (RepVs.rep h k)
theorem od_mul : OpD X (binaryOp .Mult) mulD := by
  refine OpD.of (fun E => op_mul.or op_rep) (fun H J S x y vx vy d S' rs rx ry e => ?_) (fun x y S c S' e => ?_)
  · cases x with
    | int i =>
      cases y with
      | int j =>
        cases rx.int_
        cases ry.int_
        simp only [mulD, cif] at e
        split at e
        · rename_i hc
          cases e
          exact .inl ⟨i, j, rfl, rfl, hc, J, Ext.refl _ _, rs, RepV.int _ _ _ _⟩
        · cases e
      | _ => cases e
    | ob n =>
      cases y with
      | int k =>
        obtain ⟨a, rfl, hn⟩ := rx.ob_
        cases ry.int_
        simp only [mulD, cif] at e
        cases e1 : lstAt S n with
        | none => rw [e1] at e; cases e
        | some xs =>
          rw [e1] at e
          dsimp only at e
          split at e
          · rename_i hz
            cases e
            obtain ⟨vs, hv, rvs⟩ := rs.lst e1 hn
            exact .inr ⟨a, k, vs, rfl, rfl, hv, hz.1.1, hz.1.2, by rw [rvs.length]; exact hz.2, fun p hp => Got.lst rs (rvs.rep _) hp⟩
          · cases e
      | _ => cases e
    | _ => cases e
  · cases x with
    | int i =>
      cases y with
      | int j =>
        simp only [mulD, cif] at e
        split at e <;> cases e
      | _ => cases e
    | ob n =>
      cases y with
      | int k =>
        simp only [mulD, cif] at e
        split at e
        · split at e <;> cases e
        · cases e
      | _ => cases e
    | _ => cases e
def seqD (S : List Cell) : D → Option (List D)
  | .tup xs => some xs
  | .rol xs => some xs
  | .ob n => lstAt S n
  | _ => none
def ixD : D → D → M D
  | x, .int i => fun S => match seqD S x with
    | some xs => (match atI xs i with
      | some d => .ok d S
      | none => .bad)
    | none => .bad
  | _, _ => M.bad
theorem RepVs.atI {K : PySem.W.Frag} {H : Hp} {J : List Addr} {xs : List D} {vs : List V} {i : Int} {d : D} (h : RepVs K H J xs vs) (e : L2.atI xs i = some d) : ∃ v, L2.atI vs i = some v ∧ RepV K H J d v := by
  unfold L2.atI at e ⊢
  rw [h.length]
  cases e1 : ixN xs.length i with
  | none => rw [e1] at e; cases e
  | some j =>
    rw [e1] at e
    exact h.get (show xs[j]? = some d from e)
theorem ixd : IxD X ixD := by
  refine IxD.of (r := fun x y H Q => rIxL X.K x y H Q ∨ rIxT X.K x y H Q) (fun E => (ix_list (X := X.wish E)).or (ix_tup (X := X.wish E))) (fun H J S x y vx vy d S' rs rx ry e => ?_) (fun x y S c S' e => ?_)
  · cases y with
    | int i =>
      cases ry.int_
      simp only [ixD] at e
      cases x with
      | tup xs =>
        obtain ⟨a, vs, rfl, hq, rvs⟩ := rx.tup_
        simp only [seqD] at e
        cases e1 : atI xs i with
        | none => rw [e1] at e; cases e
        | some d =>
          rw [e1] at e
          cases e
          obtain ⟨v, h1, h2⟩ := rvs.atI e1
          exact .inr ⟨a, vs, i, v, rfl, rfl, hq, h1, J, Ext.refl _ _, rs, h2⟩
      | rol xs =>
        obtain ⟨a, vs, rfl, hq, rvs⟩ := rx.rol_
        simp only [seqD] at e
        cases e1 : atI xs i with
        | none => rw [e1] at e; cases e
        | some d =>
          rw [e1] at e
          cases e
          obtain ⟨v, h1, h2⟩ := rvs.atI e1
          exact .inl ⟨a, vs, i, v, rfl, rfl, hq.sq, h1, J, Ext.refl _ _, rs, h2⟩
      | ob n =>
        obtain ⟨a, rfl, hn⟩ := rx.ob_
        simp only [seqD] at e
        cases e0 : lstAt S n with
        | none => rw [e0] at e; cases e
        | some xs =>
          rw [e0] at e
          dsimp only at e
          obtain ⟨vs, hv, rvs⟩ := rs.lst e0 hn
          cases e1 : atI xs i with
          | none => rw [e1] at e; cases e
          | some d =>
            rw [e1] at e
            cases e
            obtain ⟨v, h1, h2⟩ := rvs.atI e1
            exact .inl ⟨a, vs, i, v, rfl, rfl, SqL.of hv, h1, J, Ext.refl _ _, rs, h2⟩
      | _ => cases e
    | _ => cases e
  · cases y with
    | int i =>
      simp only [ixD] at e
      split at e
      · split at e <;> cases e
      · cases e
    | _ => cases e
def cutD (xs : List D) (lo hi : Option Int) : List D := (xs.drop (HT.sIx xs.length 0 lo)).take (HT.sIx xs.length xs.length hi - HT.sIx xs.length 0 lo)
theorem RepVs.cut {K : PySem.W.Frag} {H : Hp} {J : List Addr} {xs : List D} {vs : List V} (h : RepVs K H J xs vs) (lo hi : Option Int) : RepVs K H J (cutD xs lo hi) (cutV vs lo hi) := by
  unfold cutD cutV
  rw [h.length]
  exact (h.drop _).take _
def slD : D → Option Int → Option Int → M D
  | .tup xs, lo, hi => M.ret (.tup (cutD xs lo hi))
  | .rol xs, lo, hi => fun S => .ok (.ob S.length) (S ++ [.lst (cutD xs lo hi)])
  | .ob n, lo, hi => fun S => match lstAt S n with
    | some xs => .ok (.ob S.length) (S ++ [.lst (cutD xs lo hi)])
    | none => .bad
  | _, _, _ => M.bad
theorem getItem_tuple_all {prog : Program} {w : World} {A : Around} {E : Value → Shared → Prop} {s : Shared} {t sl : Addr} {items : Array Value} {vl vu : Value} {lo hi : Option Int} {Q : Value → Shared → Prop} (ht : IsTup s.heap t items) (hs : s.heap.IsSliceOf sl vl vu .none)
    (pl : IsPart vl lo) (pu : IsPart vu hi) (hw : HT.sIx items.size 0 lo = 0 ∧ HT.sIx items.size items.size hi = items.size) (h : Q (.ref t) s) : wpAny (model prog w) A (getItem (.ref t) (.ref sl)) Q E s := by
  obtain ⟨os, hos, hcs, hds⟩ := id hs
  have hTs : s.TypeIs (.ref sl) "slice" := ⟨os, hos, hcs⟩
  unfold getItem
  try with_reducible refine wpAny_holding ?_
  first | refine wpAny_bind (wpAny_pure ?_) | skip
  refine wpAny_bind (wpAny_sequenceKey ht.typeIs (by decide) ?_)
  refine wpAny_bind (wpAny_callSpecial?_slot (name := Str.ofString "__getitem__") ht.typeIs PyProof.Rows.slot_tuple_getitem
    (wpAny_call_entry PyProof.Rows.slot_tuple_getitem ht.typeIs entry_tuple_getitem ?_ (args_tuple_getitem _ _)))
  show wpAny _ _ (Builtin.Tuple.tupleItemsOf (.ref t) >>= _) _ _ s
  refine wpAny_bind (tupleItemsOf_ ht ?_)
  refine wpAny_bind (wpAny_typeOf hTs ?_)
  rw [if_pos (by decide)]
  refine wpAny_bind (HT.sliceApplied_gen hs pl pu ?_)
  have hyes : ((((HT.sIx items.size 0 lo : Nat) : Int) == 0 && (1 : Int) == 1 && (HT.sIx items.size items.size hi - HT.sIx items.size 0 lo) == items.size) = true) := by
    rw [hw.1, hw.2]
    simp
  show wpAny _ _ (if (((HT.sIx items.size 0 lo : Nat) : Int) == 0 && (1 : Int) == 1 && (HT.sIx items.size items.size hi - HT.sIx items.size 0 lo) == items.size) = true then _ else _) _ _ s
  rw [if_pos hyes]
  refine wpAny_bind (m := Builtin.Tuple.tupleIsExact _) (wpAny_bind (wpAny_typeOf ht.typeIs (wpAny_pure ?_)))
  rw [if_pos (by decide)]
  first
    | exact wpAny_bind (wpAny_rule (wpAny_pure ⟨_, rfl, wpAny_pure h⟩))
    | exact wpAny_bind (wpAny_rule (wpAny_bind (wpAny_pure (wpAny_pure ⟨_, rfl, wpAny_pure h⟩))))
theorem sld : SlD X slD := by
  intro pins s σ H J S x vx v vl vu lo hi sl Q E I rs rx rv hs pl pu m
  cases x with
  | tup xs =>
    obtain ⟨a, vs, rfl, hq, rvs⟩ := rx.tup_
    cases rv
    obtain ⟨its, r, ht, hz⟩ := I.tuple hq
    have hlen : its.toArray.size = xs.length := by rw [List.size_toArray, ← r.length, rvs.length]
    refine ⟨"tuple", _, PyProof.Rows.slot_tuple_getitem.lookup, ht.typeIs, ?_⟩
    by_cases hw : HT.sIx xs.length 0 lo = 0 ∧ HT.sIx xs.length xs.length hi = xs.length
    · refine getItem_tuple_all ht hs pl pu (by rw [hlen]; exact hw) (m.ok_ (v := .ref a) I rs ?_ rfl)
      have e : cutD xs lo hi = xs := by
        unfold cutD
        rw [hw.1, hw.2]
        simp
      rw [e]
      exact .tup hq rvs
    · refine HT.getItem_tuple_cut ht hs pl pu (by rw [hlen]; exact hw) ?_ (by rw [List.size_toArray, ← r.length]; exact hz)
      have hf : H s.heap.objs.size = none := I.hok.fresh (Nat.le_refl _)
      refine m.val (H' := upd H s.heap.objs.size (.tup (cutV vs lo hi))) (v := .ref s.heap.objs.size) (I.laid (t' := s.toks) (fun b ob q => Heap.get?_push_of_some _ q) (Nat.le_refl _) ?_) rfl (Got.tup rs (rvs.cut lo hi) hf)
      have hl2 : its.toArray.size = vs.length := by rw [List.size_toArray]; exact r.length.symm
      rw [hl2]
      exact ⟨Nat.le_trans (cutV_length vs lo hi) hz, _, (r.drop (HT.sIx vs.length 0 lo)).take (HT.sIx vs.length vs.length hi - HT.sIx vs.length 0 lo), IsTup.new _ _⟩
  | rol xs =>
    obtain ⟨a, vs, rfl, hq, rvs⟩ := rx.rol_
    obtain ⟨T, id, h1, h2, h3⟩ := sl_list (X := X.wish E) pins s σ H (.ref a) v vl vu lo hi sl (Got X.K H J (.ob S.length) (S ++ [.lst (cutD xs lo hi)])) (I.wish E) rv hs pl pu ⟨a, vs, rfl, hq.sq, fun p hp => Got.lst rs (rvs.cut lo hi) hp⟩
    exact ⟨T, id, h1, h2, wpAny_mono h3 (fun u s' q => m u s' (EP.unwish q)) fun _ _ z => z⟩
  | ob n =>
    obtain ⟨a, rfl, hn⟩ := rx.ob_
    simp only [slD] at m
    cases e0 : lstAt S n with
    | none => rw [e0] at m; exact m.elim
    | some xs =>
      rw [e0] at m
      obtain ⟨vs, hv, rvs⟩ := rs.lst e0 hn
      obtain ⟨T, id, h1, h2, h3⟩ := sl_list (X := X.wish E) pins s σ H (.ref a) v vl vu lo hi sl (Got X.K H J (.ob S.length) (S ++ [.lst (cutD xs lo hi)])) (I.wish E) rv hs pl pu ⟨a, vs, rfl, SqL.of hv, fun p hp => Got.lst rs (rvs.cut lo hi) hp⟩
      exact ⟨T, id, h1, h2, wpAny_mono h3 (fun u s' q => m u s' (EP.unwish q)) fun _ _ z => z⟩
  | _ => exact m.elim
def lenD : List D → M D
  | [x] => fun S => match seqD S x with
    | some xs => .ok (.int xs.length) S
    | none => .bad
  | _ => M.bad
theorem seq_rep {K : PySem.W.Frag} {H : Hp} {J : List Addr} {S : List Cell} {x : D} {v : V} {xs : List D} (rs : RepS K H J S) (rx : RepV K H J x v) (e : seqD S x = some xs) : ∃ a vs, v = .ref a ∧ (SqL K H a vs ∨ SqT K H a vs) ∧ RepVs K H J xs vs := by
  cases x with
  | tup xs =>
    obtain ⟨a, vs, rfl, hq, rvs⟩ := rx.tup_
    cases e
    exact ⟨a, vs, rfl, .inr hq, rvs⟩
  | rol xs =>
    obtain ⟨a, vs, rfl, hq, rvs⟩ := rx.rol_
    cases e
    exact ⟨a, vs, rfl, .inl hq.sq, rvs⟩
  | ob n =>
    obtain ⟨a, rfl, hn⟩ := rx.ob_
    obtain ⟨vs, hv, rvs⟩ := rs.lst e hn
    exact ⟨a, vs, rfl, .inl (SqL.of hv), rvs⟩
  | _ => cases e
theorem cd_len : CallD X (.builtin "len") lenD := by
  refine CallD.of (r := fun xs H Q => ∃ p ys, xs = [.ref p] ∧ (SqL X.K H p ys ∨ SqT X.K H p ys) ∧ Q (.int ys.length) H) (fun E => call_len_seq (X := X.wish E)) (fun H J S xs vs d S' rs rx e => ?_) (fun xs S c S' e => ?_)
  · match xs, rx, e with
    | [x], rx, e =>
      obtain ⟨v, rfl, h1⟩ := rx.one_
      simp only [lenD] at e
      cases e1 : seqD S x with
      | none => rw [e1] at e; cases e
      | some ys =>
        rw [e1] at e
        cases e
        obtain ⟨a, ws, rfl, hq, rvs⟩ := seq_rep rs h1 e1
        exact ⟨a, ws, rfl, hq, J, Ext.refl _ _, rs, by rw [rvs.length]; exact RepV.int _ _ _ _⟩
    | [], rx, e => cases e
    | _ :: _ :: _, rx, e => cases e
  · match xs, e with
    | [x], e =>
      simp only [lenD] at e
      split at e <;> cases e
    | [], e => cases e
    | _ :: _ :: _, e => cases e
def int2 (g : Int → Int → Int) : List D → M D
  | [.int i, .int j] => M.ret (.int (g i j))
  | _ => M.bad
theorem int2_ok {g : Int → Int → Int} {xs : List D} {S S' : List Cell} {d : D} (e : int2 g xs S = .ok d S') : ∃ i j, xs = [.int i, .int j] ∧ d = .int (g i j) ∧ S' = S := by
  unfold int2 at e
  split at e
  · rename_i i j
    cases e
    exact ⟨i, j, rfl, rfl, rfl⟩
  · cases e
theorem int2_ne {g : Int → Int → Int} {xs : List D} {S S' : List Cell} {c : Addr} : int2 g xs S ≠ .exc c S' := by
  intro e
  unfold int2 at e
  split at e <;> cases e
theorem cd_max (hc : X.calm = true) : CallD X (.builtin "max") (int2 fun i j => if j > i then j else i) := by
  refine CallD.of (fun E => call_max2 (X := X.wish E) hc) (fun H J S xs vs d S' rs rx e => ?_) (fun xs S c S' => int2_ne)
  obtain ⟨i, j, rfl, rfl, rfl⟩ := int2_ok e
  obtain ⟨v, w, rfl, h1, h2⟩ := rx.two_
  cases h1.int_
  cases h2.int_
  exact ⟨i, j, rfl, J, Ext.refl _ _, rs, RepV.int _ _ _ _⟩
theorem cd_min (hc : X.calm = true) : CallD X (.builtin "min") (int2 fun i j => if j < i then j else i) := by
  refine CallD.of (fun E => call_min2 (X := X.wish E) hc) (fun H J S xs vs d S' rs rx e => ?_) (fun xs S c S' => int2_ne)
  obtain ⟨i, j, rfl, rfl, rfl⟩ := int2_ok e
  obtain ⟨v, w, rfl, h1, h2⟩ := rx.two_
  cases h1.int_
  cases h2.int_
  exact ⟨i, j, rfl, J, Ext.refl _ _, rs, RepV.int _ _ _ _⟩
def intD : List D → M D
  | [.int i] => M.ret (.int i)
  | [.bl b] => M.ret (.int (if b then 1 else 0))
  | _ => M.bad
theorem cd_int : CallD X (.type "int") intD := by
  refine CallD.of (fun E => call_int1) (fun H J S xs vs d S' rs rx e => ?_) (fun xs S c S' e => ?_)
  · unfold intD at e
    split at e
    · cases e
      obtain ⟨v, rfl, h1⟩ := rx.one_
      cases h1.int_
      exact .inl ⟨_, rfl, J, Ext.refl _ _, rs, RepV.int _ _ _ _⟩
    · cases e
      obtain ⟨v, rfl, h1⟩ := rx.one_
      cases h1.bl_
      exact .inr ⟨_, rfl, J, Ext.refl _ _, rs, RepV.int _ _ _ _⟩
    · cases e
  · unfold intD at e
    split at e <;> cases e
def tupleD : List D → M D
  | [x] => fun S => match seqD S x with
    | some xs => .ok (.tup xs) S
    | none => .bad
  | _ => M.bad
theorem cd_tuple : CallD X (.type "tuple") tupleD := by
  refine CallD.of (r := fun xs H Q => ∃ p ys, xs = [.ref p] ∧ ((SqL X.K H p ys ∧ ∀ l, H l = none → Q (.ref l) (upd H l (.tup ys))) ∨ (SqT X.K H p ys ∧ Q (.ref p) H))) (fun E => call_tuple_of (X := X.wish E)) (fun H J S xs vs d S' rs rx e => ?_) (fun xs S c S' e => ?_)
  · unfold tupleD at e
    split at e
    · obtain ⟨v, rfl, h1⟩ := rx.one_
      split at e
      · rename_i e1
        cases e
        obtain ⟨a, ws, rfl, hq, rvs⟩ := seq_rep rs h1 e1
        refine ⟨a, ws, rfl, ?_⟩
        rcases hq with hq | hq
        · exact .inl ⟨hq, fun l hl => Got.tup rs rvs hl⟩
        · exact .inr ⟨hq, J, Ext.refl _ _, rs, .tup hq rvs⟩
      · cases e
    · cases e
  · unfold tupleD at e
    split at e
    · split at e <;> cases e
    · cases e
def tyN (S : List Cell) : D → Option String
  | .non => some "NoneType"
  | .bl _ => some "bool"
  | .int _ => some "int"
  | .str _ => some "str"
  | .tup _ => some "tuple"
  | .rol _ => some "list"
  | .ob n => match S[n]? with
    | some (.lst _) => some "list"
    | some (.dic _) => some "dict"
    | _ => none
  | .xn _ => none
def subTy (t T : String) : Bool := t == T || (t == "bool" && T == "int")
def isD (T : String) (x : D) : M D := fun S => match tyN S x with
  | some t => .ok (.bl (subTy t T)) S
  | none => .bad
def dIs (T : String) (fe : DSt → M D) : DSt → M D := fun r => (fe r).bind (isD T)
variable {e : Expr} {fe : DSt → M D} {pos : Pos}
end
end DL
namespace DL
open PySem PySem.Spec PyProof.Rows L2
open AutoSeq1 (wpAny_loadPart')
section
variable {prog : Program} {w : World} {A : Around} {E : Value → Shared → Prop} {s : Shared}
theorem nextOf_tup {it t : Addr} {i : Nat} {items : Array Value} {x : Value} {Q : Value → Shared → Prop} (hi : s.heap.IsTupleIter it t i) (ht : s.heap.IsTuple t items) (hx : items[i]? = some x)
    (hQ : ∀ h', h'.IsTupleIter it t (i + 1) → Heap.SameBut it s.heap h' → Q x { s with heap := h' }) : wpAny (model prog w) A (Builtin.SmallTypes.nextOf (.ref it)) Q E s := by
  obtain ⟨oi, hoi, hci, hdi⟩ := id hi
  obtain ⟨ot, hot, _, nt, hdt⟩ := ht
  unfold Builtin.SmallTypes.nextOf
  refine wpAny_bind (wpAny_callSpecial?_slot (name := Str.ofString "__next__") hi.typeIs slot_tupleiter_next
    (wpAny_call_entry slot_tupleiter_next hi.typeIs entry_tupleiter_next ?_ (args_tupleiter_next _)))
  show wpAny _ _ (field (.ref it) 0 >>= _) _ _ s
  refine wpAny_bind (wpAny_field hoi hdi (x := .ref t) rfl ?_)
  show wpAny _ _ (if (Value.ref t == Value.none) = true then _ else _) _ _ s
  rw [if_neg (show ¬ ((Value.ref t == Value.none) = true) from Bool.false_ne_true)]
  show wpAny _ _ (field (.ref it) 1 >>= _) _ _ s
  refine wpAny_bind (wpAny_field hoi hdi (x := .int i 0) rfl ?_)
  show wpAny _ _ (seqItems? (.ref t) >>= _) _ _ s
  refine wpAny_bind (wpAny_seqItems hot hdt ?_)
  simp only [Int.toNat_natCast, hx]
  refine wpAny_bind (wpAny_setField hoi hdi (by simp) (wpAny_pure ⟨x, rfl, wpAny_pure (hQ _ ?_ (Heap.SameBut.update ..))⟩))
  exact ⟨_, Heap.get?_update_self _ hoi (Obj.isFreed_of_fields (Obj.data_mapFields hdi _)), (Obj.cls_mapFields ..).trans hci, by
    rw [Obj.data_mapFields hdi]; simp [rawInt]⟩
theorem nextOf_tup_end {it t : Addr} {i : Nat} {items : Array Value} {Q : Value → Shared → Prop} (hh : A.handled = none) (hi : s.heap.IsTupleIter it t i) (ht : s.heap.IsTuple t items) (hx : items[i]? = none)
    (hE : ∀ h' e, Heap.ExtBut it s.heap h' → (∃ o, h'.get? e = some o ∧ o.cls = .type "StopIteration") → E (.ref e) { s with heap := h' }) : wpAny (model prog w) A (Builtin.SmallTypes.nextOf (.ref it)) Q E s := by
  obtain ⟨oi, hoi, hci, hdi⟩ := id hi
  obtain ⟨ot, hot, _, nt, hdt⟩ := ht
  unfold Builtin.SmallTypes.nextOf
  refine wpAny_bind (wpAny_callSpecial?_slot (name := Str.ofString "__next__") hi.typeIs slot_tupleiter_next
    (wpAny_call_entry slot_tupleiter_next hi.typeIs entry_tupleiter_next ?_ (args_tupleiter_next _)))
  show wpAny _ _ (field (.ref it) 0 >>= _) _ _ s
  refine wpAny_bind (wpAny_field hoi hdi (x := .ref t) rfl ?_)
  show wpAny _ _ (if (Value.ref t == Value.none) = true then _ else _) _ _ s
  rw [if_neg (show ¬ ((Value.ref t == Value.none) = true) from Bool.false_ne_true)]
  show wpAny _ _ (field (.ref it) 1 >>= _) _ _ s
  refine wpAny_bind (wpAny_field hoi hdi (x := .int i 0) rfl ?_)
  show wpAny _ _ (seqItems? (.ref t) >>= _) _ _ s
  refine wpAny_bind (wpAny_seqItems hot hdt ?_)
  simp only [Int.toNat_natCast, hx]
  refine wpAny_bind (wpAny_rule (wpAny_bind (wpAny_setField hoi hdi (by simp) ?_)))
  show wpAny _ _ (newExc (.type "StopIteration") [] >>= _) _ _ _
  refine wpAny_bind ?_
  simp only [newExc, newTuple]
  refine wpAny_bind (wpAny_newObj_type ?_ (by size_fits))
  refine wpAny_bind (m := firstArgMember _ _) (wpAny_of_eq (a := Value.none) (by first | rfl | (simp only [firstArgMember]; rfl)) ?_)
  refine wpAny_newObj_type ?_ (by size_fits)
  simp only [raiseNew]
  refine wpAny_bind (wpAny_handled ?_)
  first | rw [show A.in1.handled = none from hh] | rw [hh]
  refine wpAny_bind (wpAny_pure (wpAny_throw ?_))
  exact hE _ _ (((Heap.SameBut.update ..).extBut.push _).push _) ⟨_, Heap.get?_push_size _ rfl, rfl⟩
end
theorem draws_tup {prog : Program} {w : World} {A : Around} (hh : A.handled = none) (it t : Addr) (hne : t ≠ it) (items : Array Value) :
    Draws prog w A it [it, t] items.size (fun i v => items[i]? = some v) (fun i h => h.IsTupleIter it t i ∧ h.IsTuple t items) where
  live := fun _ _ st => let ⟨o, ho, _⟩ := st.1; ⟨o, ho⟩
  frame := fun _ _ _ st hk => ⟨st.1.at fun o e => hk it (by simp) o e, let ⟨o, ho, q⟩ := st.2; ⟨o, hk t (by simp) o ho, q⟩⟩
  item := fun i s Q E hi st hQ => by
    refine nextOf_tup st.1 st.2 (x := items[i]) (by simp [hi]) fun h' hit' hs' => ?_
    obtain ⟨o, ho, q⟩ := st.2
    exact hQ _ h' s.toks (by simp [hi]) ⟨hit', ⟨o, hs'.extBut t o hne ho, q⟩⟩ hs'
  done := fun s Q E st hE => nextOf_tup_end hh st.1 st.2 (by simp) hE
theorem draws_from {prog : Program} {w : World} {A : Around} {it : Addr} {fp : List Addr} {n : Nat} {P : Nat → Value → Prop} {St : Nat → Heap → Prop} (D : Draws prog w A it fp n P St) (c : Nat) :
    Draws prog w A it fp (n + c) (fun i v => c ≤ i ∧ P (i - c) v) (fun i h => c ≤ i ∧ St (i - c) h) where
  live := fun i h st => D.live _ h st.2
  frame := fun i h h' st hk => ⟨st.1, D.frame _ h h' st.2 hk⟩
  item := fun i s Q E hi st hQ => D.item (i - c) s Q E (by have := st.1; omega) st.2 fun x h' tk hp hs hb => hQ x h' tk ⟨st.1, hp⟩ ⟨by have := st.1; omega, by rw [show i + 1 - c = i - c + 1 by have := st.1; omega]; exact hs⟩ hb
  done := fun s Q E st hE => D.done s Q E (by have := st.2; rw [show n + c - c = n by omega] at this; exact this) hE
theorem meets_enum_tup (l : Addr) (items : Array Value) (n : Nat) (dct : Option Addr) (sl : Array (Option Value)) :
    Meets (Builtin.«enumerate.__new__» ⟨[.type "enumerate", .ref l], []⟩) (fun _ R s => s.heap.get? l = some { cls := .type "tuple", dict := dct, data := .seq items n, slots := sl } ∧
      R (.ok (.ret (.ref (s.heap.push { cls := .type "tuple_iterator", data := .fields #[.ref l, .int 0 0] }).objs.size)))
        { s with heap := (s.heap.push { cls := .type "tuple_iterator", data := .fields #[.ref l, .int 0 0] }).push { cls := .type "enumerate", data := .fields #[.none, .bool false, .ref s.heap.objs.size, rawInt 0, .none, .none] } }) :=
  .of_wp fun prog w A R s h => by
    obtain ⟨hp, g, d, tk, os⟩ := s; obtain ⟨hl, h⟩ := h
    have hsub := sub_enumerate
    have hT : Heap.IsTuple (Shared.heap ⟨hp, g, d, tk, os⟩) l items := ⟨_, hl, rfl, n, rfl⟩
    wp_walk using wpAny_loadPart' hl
    refine wpAny_stack_any fun st => wpAny_pure ?_
    split
    · rename_i c _ _ _ _ _
      cases (c == Value.type "enumerate")
      · wp_walk using wpAny_loadPart' hl, wpAny_pyIter_tuple hT
        exact ⟨_, rfl, h⟩
      · wp_walk using wpAny_loadPart' hl, wpAny_pyIter_tuple hT
        exact ⟨_, rfl, h⟩
    · wp_walk using wpAny_loadPart' hl, wpAny_pyIter_tuple hT
      exact ⟨_, rfl, h⟩
end DL
namespace DL
open PySem PySem.Spec PyProof.Rows L2
theorem HOk.other {P : Program} {w : World} {H : Hp} {h h' : Heap} {ch : List Addr} (x : HOk P w H h) (hn : ∀ b ∈ ch, H b = none) (k : ∀ b u, b ∉ ch → h.get? b = some u → h'.get? b = some u) : HOk P w H h' := fun a o e =>
  (x a o e).stay (fun b u hb q => k b u (fun hm => by
    rcases hb with rfl | hb
    · rw [hn b hm] at e; cases e
    · rw [hn b hm] at hb; cases hb) q) (fun _ q => q) fun _ _ q => q
theorem HOk.add {P : Program} {w : World} {H : Hp} {h : Heap} {p : Addr} {o : HO} (x : HOk P w H h) (hp : H p = none) (new : ObjOk P w (upd H p o) h p o) : HOk P w (upd H p o) h := fun a u e => by
  by_cases ha : a = p
  · subst ha
    rw [upd_same] at e
    cases e
    exact new
  · rw [upd_ne ha] at e
    exact (x a u e).stay (fun _ _ _ q => q) (fun b q => by rw [upd_ne (ne_of_none q hp)]; exact q) fun b xs q => by rw [upd_ne (ne_of_none q hp)]; exact q
theorem Inv.turnNew {X : Cx} {pins : Pins} {σ : L2.St} {H : Hp} {s : Shared} {ch : List Addr} {h' : Heap} {tk : Nat} {p : Addr} {o : HO} (I : Inv X pins σ H s) (hf : ∀ b ∈ ch, FpOk X pins H b) (k : ∀ b u, b ∉ ch → s.heap.get? b = some u → h'.get? b = some u)
    (hp : s.heap.objs.size ≤ p) (new : ObjOk X.prog X.w (upd H p o) h' p o) : Inv X pins σ (upd H p o) { s with heap := h', toks := tk } := by
  have hpn : H p = none := I.hok.fresh hp
  have hlt : ∀ {b : Addr} {u : Obj}, s.heap.get? b = some u → b ≠ p := fun e => Nat.ne_of_lt (Nat.lt_of_lt_of_le (Heap.lt_size e) hp)
  refine I.call' (ch := ch) rfl ⟨?_, ?_, ?_, ?_, ?_, ?_, ?_⟩ (HOk.add (HOk.other I.hok (fun b hb => (hf b hb).1) k) hpn new) I.bare fun b hb => ?_
  · exact fun b u q _ _ hx => k b u hx q
  · exact fun b u q _ _ hx => ⟨u.slots, by rw [k b u hx q]⟩
  · exact fun b u q n hx => by rw [upd_ne (hlt q)]; exact n
  · exact fun b u q hx => ⟨u, k b u hx q⟩
  · exact fun b xs q => by rw [upd_ne (ne_of_none q hpn)]; exact q
  · exact fun b ob u q => by rw [upd_ne (ne_of_none q hpn)]; exact q
  · exact fun b ps q => ⟨#[], by rw [upd_ne (ne_of_none q hpn)]; simpa using q⟩
  · obtain ⟨_, f1, _, f3, f4, f5⟩ := hf b hb
    exact ⟨f3, f1, f4, f5⟩
theorem wpAny_pyNext_enum_stopT {prog : Program} {w : World} {A : Around} {E : Value → Shared → Prop} {s : Shared} {e it a : Addr} {i : Nat} {c : Int} {old : Value} {items : Array Value} {Q : Option Value → Shared → Prop} (hh : A.handled = none) (he : IsEnum s.heap e it c old) (hit : s.heap.IsTupleIter it a i)
    (ot : s.heap.IsTuple a items) (ha : a ≠ it) (hx : items.size ≤ i) (hQ : ∀ h', Heap.ExtBut it s.heap h' → Q none { s with heap := h' }) : wpAny (model prog w) A (pyNext (.ref e)) Q E s := by
  have hT : s.TypeIs (.ref e) "enumerate" := ⟨_, he, rfl⟩
  unfold pyNext
  refine wpAny_bind (wpAny_attempt (wpAny_callSpecial?_slot (name := Str.ofString "__next__") hT F.slot_enumerate_next
    (wpAny_call_entry F.slot_enumerate_next hT F.entry_enumerate_next ?_ (F.args_enumerate_next_1 _))))
  show wpAny _ _ (field (.ref e) 2 >>= _) _ _ _
  refine wpAny_bind (wpAny_field he rfl (x := .ref it) rfl ?_)
  refine wpAny_bind (nextOf_tup_end hh hit ot (by simpa using hx) fun h' x he' hx' => ?_)
  obtain ⟨o, ho, hc⟩ := hx'
  refine wpAny_bind (wpAny_isInstance (T := "StopIteration") (b := true) ⟨o, ho, hc⟩ isSubtype_stop ?_)
  exact wpAny_pure (hQ _ he')
def ItET (K : PySem.W.Frag) (a : Addr) (c : Nat) : It :=
  ⟨fun i H => ∃ vs x, SqT K H a vs ∧ vs[i]? = some x, fun i H x H' => ∃ p v, H p = none ∧ H' = upd H p (.tup [.int ((c + i : Nat) : Int), v]) ∧ x = .ref p ∧ ∀ vs, SqT K H a vs → vs[i]? = some v, fun i H => ∃ vs, SqT K H a vs ∧ vs.length ≤ i⟩
theorem turn_enumT {P : Program} {w : World} {K : PySem.W.Frag} {elts : List Expr} {k1 : Nat} {pos : Pos} (a it e : Addr) (c : Nat) (hei : e ≠ it) :
    Turn P w K (.Tuple elts k1 pos) (ItET K a c) [e, it] e (fun i h => (∃ old, IsEnum h e it ((c + i : Nat) : Int) old) ∧ h.IsTupleIter it a i) where
  mem := by simp
  obj := fun i h st b hb => by
    obtain ⟨⟨old, he⟩, hit⟩ := st
    simp at hb
    rcases hb with rfl | rfl
    · exact ⟨_, he, fun v z => by
        have z' : Data.fields _ = Data.cell v := z
        cases z'⟩
    · obtain ⟨o, ho, hc, hd⟩ := hit
      exact ⟨o, ho, fun v z => by rw [hd] at z; cases z⟩
  keep := fun i h h' st k => by
    obtain ⟨⟨old, he⟩, hit⟩ := st
    exact ⟨⟨old, k e (by simp) _ he⟩, hit.at fun o ho => k it (by simp) o ho⟩
  item := by
    intro X hP hw hK hc i pins s σ H E I hf st hg
    subst hP hw hK
    obtain ⟨⟨old, he⟩, hit⟩ := st
    obtain ⟨vs, x, hq, hx⟩ := hg
    obtain ⟨its, rv, pl, hz⟩ := I.tuple hq
    have ot : s.heap.IsTuple a its.toArray := pl
    have ha1 : a ≠ it := by
      rintro rfl
      obtain ⟨o1, h1, h2, _⟩ := ot
      obtain ⟨o2, h3, h4, _⟩ := hit
      rw [h1] at h3
      cases h3
      rw [h2] at h4
      exact absurd h4 (by simp)
    have ha2 : e ≠ a := by
      rintro rfl
      obtain ⟨o1, h1, h2, _⟩ := ot
      rw [he] at h1
      cases h1
      exact absurd h2 (by simp)
    have hlen := rv.length
    have hil : i < its.length := by
      have := (List.getElem?_eq_some_iff.mp hx).1
      omega
    have Dw := draws_from (draws_tup (prog := X.prog) (w := X.w) (A := X.A.in1) (I.ok.hd hc) it a ha1 its.toArray) c
    refine wpAny_pyNext_enum_itemD Dw (i := c + i) he ⟨Nat.le_add_right _ _, by rw [show c + i - c = i by omega]; exact ⟨hit, ot⟩⟩ (by simp; omega) hei (by simp; exact ⟨hei, ha2⟩) fun y h1 tk hP hout hst hT hsz hk => ?_
    obtain ⟨_, hP⟩ := hP
    rw [show c + i - c = i by omega] at hP
    have hy : its[i]? = some y := by simpa using hP
    obtain ⟨_, hst⟩ := hst
    rw [show c + i + 1 - c = i + 1 by omega] at hst
    refine ⟨_, rfl, ?_⟩
    refine wpAny_letOwnedTupleGo_enum hout fun h2 he2 hs2 => ?_
    obtain ⟨u, hu, ru⟩ := rv.get hx
    rw [hy] at hu
    cases hu
    have hfr : H s.heap.objs.size = none := I.hok.fresh (Nat.le_refl _)
    have hes : e ≠ s.heap.objs.size := Nat.ne_of_lt (Heap.lt_size he)
    have keep2 : ∀ b u, b ∉ [e, it] → s.heap.get? b = some u → h2.get? b = some u := fun b u hb q => by
      simp at hb
      exact hs2.extBut b u hb.1 (hk b u hb.1 hb.2 q)
    have hT2 : h2.get? s.heap.objs.size = some { cls := .type "tuple", data := .seq #[.int ((c + i : Nat) : Int) tk, y] } := hs2.extBut _ _ (Ne.symm hes) hT
    refine ⟨.ref s.heap.objs.size, upd H s.heap.objs.size (.tup [.int ((c + i : Nat) : Int), x]), Inv.turnNew (s := s) (h' := h2) (tk := tk + 1) I hf keep2 (Nat.le_refl _) ⟨by show 2 ≤ sizeLine; decide, [.int ((c + i : Nat) : Int) tk, y], .cons ⟨_, rfl⟩ (.cons ru .nil), _, hT2, rfl, _, rfl⟩, rfl,
      ⟨s.heap.objs.size, x, hfr, rfl, rfl, fun ws hw => by rw [I.tuple_inj hw hq]; exact hx⟩, ⟨⟨y, ?_⟩, ?_⟩, ?_⟩
    · rw [show ((c + (i + 1) : Nat) : Int) = ((c + i : Nat) : Int) + 1 by push_cast; omega]
      exact he2
    · exact hst.1.extBut hs2.extBut (Ne.symm hei)
    · intro b hb
      obtain ⟨f0, _⟩ := hf b hb
      have : ∃ o, s.heap.get? b = some o := by
        simp at hb
        rcases hb with rfl | rfl
        · exact ⟨_, he⟩
        · obtain ⟨o, ho, _⟩ := hit
          exact ⟨o, ho⟩
      obtain ⟨o, ho⟩ := this
      rw [upd_ne (Nat.ne_of_lt (Heap.lt_size ho))]
      exact f0
  done := by
    intro X hP hw hK hc i pins s σ H E I hf st hg
    subst hP hw hK
    obtain ⟨⟨old, he⟩, hit⟩ := st
    obtain ⟨vs, hq, hx⟩ := hg
    obtain ⟨its, rv, pl, hz⟩ := I.tuple hq
    have ot : s.heap.IsTuple a its.toArray := pl
    have ha1 : a ≠ it := by
      rintro rfl
      obtain ⟨o1, h1, h2, _⟩ := ot
      obtain ⟨o2, h3, h4, _⟩ := hit
      rw [h1] at h3
      cases h3
      rw [h2] at h4
      exact absurd h4 (by simp)
    have hlen := rv.length
    obtain ⟨f0, f1, f2, f3, f4, f5⟩ := hf it (by simp)
    refine wpAny_pyNext_enum_stopT (I.ok.hd hc) he hit ot ha1 (by simp; omega) fun h' eb => ⟨rfl, I.turned (t' := s.toks) (fun b o hb e => eb b o hb e) f0 f1 f3 f4 f5⟩
  self := fun A i s Q E st h => by
    obtain ⟨⟨old, he⟩, hit⟩ := st
    exact wpAny_pyIter_enum he h
theorem ItOk.enumT {K : PySem.W.Frag} {H : Hp} {J : List Addr} {a : Addr} {c : Nat} {xs : List D} {g : Option (Nat × List D)} (hok : ∀ (H1 : Hp) (J1 : List Addr) (S : List Cell), Ext H J H1 J1 → RepS K H1 J1 S → gok g S → ∃ vs, SqT K H1 a vs ∧ RepVs K H1 J1 xs vs) :
    ItOk K (ItET K a c) ⟨xs.zipIdx.map fun p => .tup [.int ((c + p.2 : Nat) : Int), p.1], g⟩ H J := by
  intro H1 J1 S x rs gk
  obtain ⟨vs, hq, rvs⟩ := hok H1 J1 S x rs gk
  have hl := rvs.length
  have hlen : (xs.zipIdx.map fun (p : D × Nat) => D.tup [.int ((c + p.2 : Nat) : Int), p.1]).length = xs.length := by simp
  refine ⟨fun i hi => ⟨vs, vs[i]'(by rw [hl]; simpa using hi), hq, by simp⟩, ⟨vs, hq, by rw [hl]; simp⟩, ?_⟩
  rintro i y H' ⟨p, v, hp, rfl, rfl, hv⟩ d hd
  have hd' : (xs.zipIdx.map fun (p : D × Nat) => D.tup [.int ((c + p.2 : Nat) : Int), p.1])[i]? = some d := hd
  rw [List.getElem?_map, List.getElem?_zipIdx] at hd'
  cases e : xs[i]? with
  | none => rw [e] at hd'; cases hd'
  | some z =>
    rw [e] at hd'
    simp only [Option.map_some, Option.some.injEq, Nat.zero_add] at hd'
    subst hd'
    obtain ⟨v', h1, h2⟩ := rvs.get e
    have := hv vs hq
    rw [h1] at this
    cases this
    obtain ⟨J', x', rs', rv'⟩ := Got.tup (p := p) rs (RepVs.cons (RepV.int K H1 J1 ((c + i : Nat) : Int)) (.one h2)) hp
    exact ⟨J', x', rs', rv'⟩
theorem wpAny_pyNext_enum_stopL {prog : Program} {w : World} {A : Around} {E : Value → Shared → Prop} {s : Shared} {e it a : Addr} {i : Nat} {c : Int} {old : Value} {items : Array Value} {Q : Option Value → Shared → Prop} (hh : A.handled = none) (he : IsEnum s.heap e it c old) (hit : s.heap.IsListIter it a i)
    (ot : s.heap.IsList a items) (ha : a ≠ it) (hx : items.size ≤ i) (hQ : ∀ h', Heap.ExtBut it s.heap h' → Q none { s with heap := h' }) : wpAny (model prog w) A (pyNext (.ref e)) Q E s := by
  have hT : s.TypeIs (.ref e) "enumerate" := ⟨_, he, rfl⟩
  unfold pyNext
  refine wpAny_bind (wpAny_attempt (wpAny_callSpecial?_slot (name := Str.ofString "__next__") hT F.slot_enumerate_next
    (wpAny_call_entry F.slot_enumerate_next hT F.entry_enumerate_next ?_ (F.args_enumerate_next_1 _))))
  show wpAny _ _ (field (.ref e) 2 >>= _) _ _ _
  refine wpAny_bind (wpAny_field he rfl (x := .ref it) rfl ?_)
  refine wpAny_bind (wpAny_nextOf_list_end hh hit ot (by simpa using hx) fun h' x he' hx' => ?_)
  obtain ⟨o, ho, hc⟩ := hx'
  refine wpAny_bind (wpAny_isInstance (T := "StopIteration") (b := true) ⟨o, ho, hc⟩ isSubtype_stop ?_)
  exact wpAny_pure (hQ _ he')
def ItEL (K : PySem.W.Frag) (a : Addr) (c : Nat) : It :=
  ⟨fun i H => ∃ vs x, SqL K H a vs ∧ vs[i]? = some x, fun i H x H' => ∃ p v, H p = none ∧ H' = upd H p (.tup [.int ((c + i : Nat) : Int), v]) ∧ x = .ref p ∧ ∀ vs, SqL K H a vs → vs[i]? = some v, fun i H => ∃ vs, SqL K H a vs ∧ vs.length ≤ i⟩
theorem turn_enumL {P : Program} {w : World} {K : PySem.W.Frag} {elts : List Expr} {k1 : Nat} {pos : Pos} (a it e : Addr) (c : Nat) (hei : e ≠ it) :
    Turn P w K (.Tuple elts k1 pos) (ItEL K a c) [e, it] e (fun i h => (∃ old, IsEnum h e it ((c + i : Nat) : Int) old) ∧ h.IsListIter it a i) where
  mem := by simp
  obj := fun i h st b hb => by
    obtain ⟨⟨old, he⟩, hit⟩ := st
    simp at hb
    rcases hb with rfl | rfl
    · exact ⟨_, he, fun v z => by
        have z' : Data.fields _ = Data.cell v := z
        cases z'⟩
    · obtain ⟨o, ho, hc, hd⟩ := hit
      exact ⟨o, ho, fun v z => by rw [hd] at z; cases z⟩
  keep := fun i h h' st k => by
    obtain ⟨⟨old, he⟩, hit⟩ := st
    exact ⟨⟨old, k e (by simp) _ he⟩, hit.at fun o ho => k it (by simp) o ho⟩
  item := by
    intro X hP hw hK hc i pins s σ H E I hf st hg
    subst hP hw hK
    obtain ⟨⟨old, he⟩, hit⟩ := st
    obtain ⟨vs, x, hq, hx⟩ := hg
    obtain ⟨its, rv, pl, hz⟩ := I.list hq
    have ot : s.heap.IsList a its.toArray := pl.isList
    have ha1 : a ≠ it := by
      rintro rfl
      obtain ⟨o1, h1, h2, _⟩ := ot
      obtain ⟨o2, h3, h4, _⟩ := hit
      rw [h1] at h3
      cases h3
      rw [h2] at h4
      exact absurd h4 (by simp)
    have ha2 : e ≠ a := by
      rintro rfl
      obtain ⟨o1, h1, h2, _⟩ := ot
      rw [he] at h1
      cases h1
      exact absurd h2 (by simp)
    have hlen := rv.length
    have hil : i < its.length := by
      have := (List.getElem?_eq_some_iff.mp hx).1
      omega
    have Dw := draws_from (Draws.list (prog := X.prog) (w := X.w) (A := X.A.in1) (I.ok.hd hc) it a ha1 its.toArray) c
    refine wpAny_pyNext_enum_itemD Dw (i := c + i) he ⟨Nat.le_add_right _ _, by rw [show c + i - c = i by omega]; exact ⟨hit, ot⟩⟩ (by simp; omega) hei (by simp; exact ⟨hei, ha2⟩) fun y h1 tk hP hout hst hT hsz hk => ?_
    obtain ⟨_, hP⟩ := hP
    rw [show c + i - c = i by omega] at hP
    have hy : its[i]? = some y := by simpa using hP
    obtain ⟨_, hst⟩ := hst
    rw [show c + i + 1 - c = i + 1 by omega] at hst
    refine ⟨_, rfl, ?_⟩
    refine wpAny_letOwnedTupleGo_enum hout fun h2 he2 hs2 => ?_
    obtain ⟨u, hu, ru⟩ := rv.get hx
    rw [hy] at hu
    cases hu
    have hfr : H s.heap.objs.size = none := I.hok.fresh (Nat.le_refl _)
    have hes : e ≠ s.heap.objs.size := Nat.ne_of_lt (Heap.lt_size he)
    have keep2 : ∀ b u, b ∉ [e, it] → s.heap.get? b = some u → h2.get? b = some u := fun b u hb q => by
      simp at hb
      exact hs2.extBut b u hb.1 (hk b u hb.1 hb.2 q)
    have hT2 : h2.get? s.heap.objs.size = some { cls := .type "tuple", data := .seq #[.int ((c + i : Nat) : Int) tk, y] } := hs2.extBut _ _ (Ne.symm hes) hT
    refine ⟨.ref s.heap.objs.size, upd H s.heap.objs.size (.tup [.int ((c + i : Nat) : Int), x]), Inv.turnNew (s := s) (h' := h2) (tk := tk + 1) I hf keep2 (Nat.le_refl _) ⟨by show 2 ≤ sizeLine; decide, [.int ((c + i : Nat) : Int) tk, y], .cons ⟨_, rfl⟩ (.cons ru .nil), _, hT2, rfl, _, rfl⟩, rfl,
      ⟨s.heap.objs.size, x, hfr, rfl, rfl, fun ws hw => by rw [I.list_inj hw hq]; exact hx⟩, ⟨⟨y, ?_⟩, ?_⟩, ?_⟩
    · rw [show ((c + (i + 1) : Nat) : Int) = ((c + i : Nat) : Int) + 1 by push_cast; omega]
      exact he2
    · exact hst.1.extBut hs2.extBut (Ne.symm hei)
    · intro b hb
      obtain ⟨f0, _⟩ := hf b hb
      have : ∃ o, s.heap.get? b = some o := by
        simp at hb
        rcases hb with rfl | rfl
        · exact ⟨_, he⟩
        · obtain ⟨o, ho, _⟩ := hit
          exact ⟨o, ho⟩
      obtain ⟨o, ho⟩ := this
      rw [upd_ne (Nat.ne_of_lt (Heap.lt_size ho))]
      exact f0
  done := by
    intro X hP hw hK hc i pins s σ H E I hf st hg
    subst hP hw hK
    obtain ⟨⟨old, he⟩, hit⟩ := st
    obtain ⟨vs, hq, hx⟩ := hg
    obtain ⟨its, rv, pl, hz⟩ := I.list hq
    have ot : s.heap.IsList a its.toArray := pl.isList
    have ha1 : a ≠ it := by
      rintro rfl
      obtain ⟨o1, h1, h2, _⟩ := ot
      obtain ⟨o2, h3, h4, _⟩ := hit
      rw [h1] at h3
      cases h3
      rw [h2] at h4
      exact absurd h4 (by simp)
    have hlen := rv.length
    obtain ⟨f0, f1, f2, f3, f4, f5⟩ := hf it (by simp)
    refine wpAny_pyNext_enum_stopL (I.ok.hd hc) he hit ot ha1 (by simp; omega) fun h' eb => ⟨rfl, I.turned (t' := s.toks) (fun b o hb e => eb b o hb e) f0 f1 f3 f4 f5⟩
  self := fun A i s Q E st h => by
    obtain ⟨⟨old, he⟩, hit⟩ := st
    exact wpAny_pyIter_enum he h
theorem ItOk.enumL {K : PySem.W.Frag} {H : Hp} {J : List Addr} {a : Addr} {c : Nat} {xs : List D} {g : Option (Nat × List D)} (hok : ∀ (H1 : Hp) (J1 : List Addr) (S : List Cell), Ext H J H1 J1 → RepS K H1 J1 S → gok g S → ∃ vs, SqL K H1 a vs ∧ RepVs K H1 J1 xs vs) :
    ItOk K (ItEL K a c) ⟨xs.zipIdx.map fun p => .tup [.int ((c + p.2 : Nat) : Int), p.1], g⟩ H J := by
  intro H1 J1 S x rs gk
  obtain ⟨vs, hq, rvs⟩ := hok H1 J1 S x rs gk
  have hl := rvs.length
  have hlen : (xs.zipIdx.map fun (p : D × Nat) => D.tup [.int ((c + p.2 : Nat) : Int), p.1]).length = xs.length := by simp
  refine ⟨fun i hi => ⟨vs, vs[i]'(by rw [hl]; simpa using hi), hq, by simp⟩, ⟨vs, hq, by rw [hl]; simp⟩, ?_⟩
  rintro i y H' ⟨p, v, hp, rfl, rfl, hv⟩ d hd
  have hd' : (xs.zipIdx.map fun (p : D × Nat) => D.tup [.int ((c + p.2 : Nat) : Int), p.1])[i]? = some d := hd
  rw [List.getElem?_map, List.getElem?_zipIdx] at hd'
  cases e : xs[i]? with
  | none => rw [e] at hd'; cases hd'
  | some z =>
    rw [e] at hd'
    simp only [Option.map_some, Option.some.injEq, Nat.zero_add] at hd'
    subst hd'
    obtain ⟨v', h1, h2⟩ := rvs.get e
    have := hv vs hq
    rw [h1] at this
    cases this
    obtain ⟨J', x', rs', rv'⟩ := Got.tup (p := p) rs (RepVs.cons (RepV.int K H1 J1 ((c + i : Nat) : Int)) (.one h2)) hp
    exact ⟨J', x', rs', rv'⟩
end DL
namespace DL
open PySem PySem.Spec PyProof.Rows L2
section
variable {prog : Program} {w : World} {A : Around} {E : Value → Shared → Prop} {s : Shared}
theorem call_enum_tup {l : Addr} {items : Array Value} {Q : Value → Shared → Prop} (hL : s.heap.IsTuple l items)
    (h : ∀ h', IsEnum h' (s.heap.objs.size + 1) s.heap.objs.size 0 .none → h'.IsTupleIter s.heap.objs.size l 0 → (∀ b o, s.heap.get? b = some o → h'.get? b = some o) → Q (.ref (s.heap.objs.size + 1)) { s with heap := h' }) :
    wpAny (model prog w) A (call (.type "enumerate") [.ref l]) Q E s := by
  obtain ⟨⟨c, dct, dt, sl⟩, hl, hc, n, hd⟩ := hL
  simp only at hc hd
  subst hc hd
  refine callType_new F.called_enumerate (by decide) (F.typeCall_enumerate_1 _) (F.newCall_enumerate_1 _) (fun obj => F.args_object_init_2 obj _) F.entry_enumerate_new (meets_enum_tup l items n dct sl) ⟨hl, ?_⟩
  have hz : (s.heap.push { cls := .type "tuple_iterator", data := .fields #[.ref l, .int 0 0] }).objs.size = s.heap.objs.size + 1 := Heap.size_push ..
  show _ ∧ _
  rw [hz]
  have he : IsEnum ((s.heap.push { cls := .type "tuple_iterator", data := .fields #[.ref l, .int 0 0] }).push { cls := .type "enumerate", data := .fields #[.none, .bool false, .ref s.heap.objs.size, rawInt 0, .none, .none] }) (s.heap.objs.size + 1) s.heap.objs.size 0 .none := by
    have q := Heap.get?_push_size (s.heap.push { cls := .type "tuple_iterator", data := .fields #[.ref l, .int 0 0] }) (o := { cls := .type "enumerate", data := .fields #[.none, .bool false, .ref s.heap.objs.size, rawInt 0, .none, .none] }) rfl
    rw [hz] at q
    exact q
  exact ⟨⟨_, he, rfl⟩, h _ he ⟨_, Heap.get?_push_of_some _ (Heap.get?_push_size _ rfl), rfl, rfl⟩ fun b o x => Heap.get?_push_of_some _ (Heap.get?_push_of_some _ x)⟩
end
def enumD (c : Nat) (xs : List D) : List D := xs.zipIdx.map fun p => .tup [.int ((c + p.2 : Nat) : Int), p.1]
def wEnum (c : Nat) : D → M Wk
  | .tup xs => M.ret ⟨enumD c xs, none⟩
  | .ob n => fun S => match lstAt S n with
    | some xs => .ok ⟨enumD c xs, some (n, xs)⟩ S
    | none => .bad
  | _ => M.bad
def dEnum (c : Nat) (fe : DSt → M D) : DSt → M Wk := fun r => (fe r).bind (wEnum c)
section
variable {X : Cx} {e : Expr} {fe : DSt → M D} {pos : Pos} {elts : List Expr} {k1 : Nat} {tpos : Pos}
theorem enum_fp {pins : Pins} {σ : L2.St} {H : Hp} {s : Shared} (I : Inv X pins σ H s) : ∀ b ∈ [s.heap.objs.size + 1, s.heap.objs.size], FpOk X pins H b := fun b hb => by
  simp at hb
  rcases hb with rfl | rfl
  · exact I.fpOk (Nat.le_succ _) (I.hok.fresh (Nat.le_succ _))
  · exact I.fpOk (Nat.le_refl _) (I.hok.fresh (Nat.le_refl _))
theorem pid_enum {p : Pos} (hg : Gl X "enumerate") (hm : X.mg "enumerate" = none) (he : PEd X e fe) (hs : starEach [e] X.env = [(false, eval e X.env)] := by rfl) : PId X (.Tuple elts k1 tpos) (.Call (.Name "enumerate" p) [e] [] pos) (dEnum 0 fe) := by
  intro pins s σ H J r S Q E I m
  have m' : MtW X pins σ H J (.Tuple elts k1 tpos) ((dCons fe dNil r).bind (uncons1 (wEnum 0)) S) Q E := by
    unfold dEnum M.bind at m
    unfold dCons dNil M.bind M.ret
    cases e1 : fe r S <;> (rw [e1] at m; exact m)
  refine Call_ (ld_blt I.inv hg hm boot_enumerate (PyProof.Rows.callWith_type1 (goR (pad_cons he pad_nil (by rw [hs]; rfl)) I m' (fun xs S1 s1 H1 J1 vs us I1 rv r1 m1 => ?_) pos) hs rfl))
  match xs, m1, rv with
  | [], m1, rv => exact m1.elim
  | _ :: _ :: _, m1, rv => exact m1.elim
  | [x], m1, rv =>
    obtain ⟨v, rfl, h1⟩ := rv.one_
    obtain ⟨u, rfl, ru⟩ := Vals.one r1
    change MtW X pins σ H1 J1 (.Tuple elts k1 tpos) (wEnum 0 x S1) Q E at m1
    cases x with
    | tup ys =>
      obtain ⟨a, ws, rfl, hq, rvs⟩ := h1.tup_
      cases ru
      obtain ⟨its, rl, pl, hz⟩ := I1.inv.tuple hq
      refine call_enum_tup pl fun h' he' hi' hk' => wpAny_pyIter_enum he' ?_
      refine m1 _ _ ⟨s1.heap.objs.size + 1, [s1.heap.objs.size + 1, s1.heap.objs.size], _, _, H1, rfl, I1.inv.kept (t' := s1.toks) hk', turn_enumT a s1.heap.objs.size (s1.heap.objs.size + 1) 0 (Nat.succ_ne_self _), ⟨⟨_, he'⟩, hi'⟩, enum_fp I1.inv, J1, Ext.refl _ _, I1.st, trivial, ?_⟩
      exact ItOk.enumT fun H2 J2 S2 x2 rs2 _ => ⟨ws, SqT.ext x2 hq, rvs.ext x2⟩
    | ob n =>
      obtain ⟨a, rfl, hn⟩ := h1.ob_
      cases ru
      simp only [wEnum] at m1
      cases e1 : lstAt S1 n with
      | none => rw [e1] at m1; exact m1.elim
      | some ys =>
        rw [e1] at m1
        obtain ⟨ws, hv, rvs⟩ := I1.st.lst e1 hn
        obtain ⟨its, rl, pl, hz⟩ := I1.inv.list (SqL.of hv)
        refine call_enumerate_list pl.isList fun h' he' hi' hz' hk' => wpAny_pyIter_enum he' ?_
        refine m1 _ _ ⟨s1.heap.objs.size + 1, [s1.heap.objs.size + 1, s1.heap.objs.size], _, _, H1, rfl, I1.inv.kept (t' := s1.toks) hk', turn_enumL a s1.heap.objs.size (s1.heap.objs.size + 1) 0 (Nat.succ_ne_self _), ⟨⟨_, he'⟩, hi'⟩, enum_fp I1.inv, J1, Ext.refl _ _, I1.st, lstAt_cell e1, ?_⟩
        refine ItOk.enumL fun H2 J2 S2 x2 rs2 gk => ?_
        have hn2 : J2[n]? = some a := by
          obtain ⟨m, em⟩ := x2.pre
          rw [em, List.getElem?_append_left (List.getElem?_eq_some_iff.mp hn).1]
          exact hn
        obtain ⟨vs2, h2, rv2⟩ := rs2.at_ n _ a gk hn2
        exact ⟨vs2, SqL.of h2, rv2⟩
    | _ => exact m1.elim
def MtD (X : Cx) (id : String) (g : D → List D → M D) : Prop := ∀ (pins : Pins) (s : Shared) (σ : L2.St) (H : Hp) (J : List Addr) (S : List Cell) (x : D) (xs : List D) (vx : V) (vs : List V) (v : Value) (us : List Value) (Q E : Value → Shared → Prop),
  Inv X pins σ H s → RepS X.K H J S → RepV X.K H J x vx → RepVs X.K H J xs vs → RelV vx v → Vals vs us → Mt X pins σ H J (g x xs S) Q E → wpAny (model X.prog X.w) X.A (call (.builtin id) (v :: us)) Q E s
theorem goA' {es : List Expr} {ft : DSt → M (List D)} (h : PAd X es ft) {k : List D → M D} {pins : Pins} {s : Shared} {σ : L2.St} {H : Hp} {J : List Addr} {r : DSt} {S : List Cell} {Q E : Value → Shared → Prop} {Q' : List Value → Shared → Prop} (I : At X pins σ H J r S s)
    (m : Mt X pins σ H J ((ft r).bind k S) Q E) (hk : ∀ xs S1 s1 H1 J1 vs us, At X pins σ H1 J1 r S1 s1 → Ext H J H1 J1 → RepVs X.K H1 J1 xs vs → Vals vs us → Mt X pins σ H1 J1 (k xs S1) Q E → Q' us s1) (pos : Pos) :
    wpAny (model X.prog X.w) X.A (spliced (backTo pos (starEach es X.env))) Q' E s := by
  refine h pos pins s σ H J r S _ E I ?_
  unfold M.bind at m
  cases e1 : ft r S with
  | bad => rw [e1] at m; exact m
  | exc c S1 => rw [e1] at m; exact m
  | ok x S1 =>
    rw [e1] at m
    intro us s1 ⟨vs, H1, I1, r1, J1, ex1, rs1, rv1⟩
    exact hk x S1 s1 H1 J1 vs us ⟨I1, I.loc.ext ex1, rs1⟩ ex1 rv1 r1 (Mt.ext ex1 m)
def chkL (x : D) : M Unit := fun S => match x with
  | .ob n => (match lstAt S n with
    | some _ => .ok () S
    | none => .bad)
  | _ => .bad
def dBM (g : D → List D → M D) (fo : DSt → M D) (ft : DSt → M (List D)) : DSt → M D := fun r => (fo r).bind fun x => (chkL x).bind fun _ => (ft r).bind fun xs => g x xs
theorem pd_bmL {o : Expr} {es : List Expr} {fo : DSt → M D} {ft : DSt → M (List D)} {name : Str} {apos cpos : Pos} {id : String} {g : D → List D → M D} (slot : Slot "list" name id) (hty : typeOf (.builtin id) = pure (.type "method_descriptor")) (hm : MtD X id g)
    (ho : PEd X o fo) (ha : PAd X (e :: es) ft)
    (hbase : attributeBase o name X.env (eval o X.env) = eval o X.env := by rfl)
    (hfew : ((backTo cpos (starEach (e :: es) X.env)).all (fun x => !x.1) && (backToKw cpos (keywordEach [] X.env)).all (fun x => x.1.isSome)
      && decide ((e :: es).length + ([] : List Keyword).length + (if ([] : List Keyword).isEmpty then 0 else 1) < 30)) = true := by rfl)
    (hline : (apos.endLine == cpos.line) = true := by rfl) (hs : starEach (e :: es) X.env = (false, eval e X.env) :: starEach es X.env := by rfl) (hplain : (backTo cpos (starEach es X.env)).any (·.1) = false := by rfl) :
    PEd X (.Call (.Attribute o name apos) (e :: es) [] cpos) (dBM g fo ft) := by
  intro pins s σ H J r S Q E I m
  refine wpAny_Call_method_late hbase hfew hline rfl (ho pins s σ H J r S _ E I ?_)
  unfold dBM M.bind at m
  cases e1 : fo r S with
  | bad => rw [e1] at m; exact m
  | exc c S1 => rw [e1] at m; exact m
  | ok x S1 =>
    rw [e1] at m
    dsimp only at m
    rintro v s1 ⟨vx, H1, I1, r1, J1, ex1, rs1, rv1⟩
    cases x with
    | ob n =>
      obtain ⟨a, rfl, hn⟩ := rv1.ob_
      simp only [chkL] at m
      cases e2 : lstAt S1 n with
      | none => rw [e2] at m; exact m.elim
      | some xs =>
        rw [e2] at m
        obtain ⟨ws, hv, rvs⟩ := rs1.lst e2 hn
        obtain ⟨h1, h2⟩ := tyV_is I1 r1 (T := "list") (.inl ⟨rfl, ws, SqL.of hv⟩)
        refine ⟨"list", id, PySem.F.plainAttrs_list, slot, hty, h1, h2, ?_⟩
        have m := Mt.ext ex1 m
        have hA := goA' (k := fun xs => g (.ob n) xs) (Q' := fun us s2 => wpAny (model X.prog X.w) X.A (call (.builtin id) (v :: us)) Q E s2) ha ⟨I1, I.loc.ext ex1, rs1⟩ m (fun xs S2 s2 H2 J2 vs us I2 x2 rv r2 m2 => ?_) cpos
        · rw [hs] at hA ⊢
          exact Calls.callWith_builtin (by show (false || (backTo cpos (starEach es X.env)).any (·.1)) = false; rw [hplain] <;> rfl) (Calls.evalArgs_plain hA)
        · exact hm pins s2 σ H2 J2 S2 (.ob n) xs (.ref a) vs v us Q E I2.inv I2.st (rv1.ext x2) rv r1 r2 m2
    | _ => exact m.elim
noncomputable def appD : D → List D → M D
  | .ob n, [y] => fun S => match lstAt S n with
    | some xs => cif (xs.length < sizeLine) (.ok .non (S.set n (.lst (xs ++ [y])))) .bad
    | none => .bad
  | _, _ => M.bad
theorem md_append : MtD X "list.append" appD := by
  intro pins s σ H J S x xs vx vs v us Q E I rs rx rxs rv rvs m
  match x, xs, m, rx, rxs with
  | .ob n, [y], m, rx, rxs =>
    obtain ⟨a, rfl, hn⟩ := rx.ob_
    obtain ⟨w, rfl, rw'⟩ := rxs.one_
    simp only [appD, cif] at m
    cases e1 : lstAt S n with
    | none => rw [e1] at m; exact m.elim
    | some xs =>
      rw [e1] at m
      dsimp only at m
      obtain ⟨ws, hv, rws⟩ := rs.lst e1 hn
      split at m
      · rename_i hz
        refine wpAny_mono (mt_append (X := X.wish E) pins s σ H (.ref a) [w] v us (Got X.K H J .non (S.set n (.lst (xs ++ [y])))) (I.wish E) rv rvs ⟨a, ws, w, rfl, rfl, hv, by rw [rws.length]; exact hz, ?_⟩) (fun u s' q => m u s' (EP.unwish q)) fun _ _ z => z
        have x9 : Ext H J (upd H a (.lst (ws ++ [w]))) J := Ext.write hv rfl
        exact ⟨J, x9, rs.write hn ⟨_, upd_same, (rws.ext x9).append (.one (rw'.ext x9))⟩, RepV.non _ _ _⟩
      · exact m.elim
  | .ob n, [], m, _, _ => exact m.elim
  | .ob n, _ :: _ :: _, m, _, _ => exact m.elim
  | .non, xs, m, _, _ => cases xs <;> exact m.elim
  | .bl _, xs, m, _, _ => cases xs <;> exact m.elim
  | .int _, xs, m, _, _ => cases xs <;> exact m.elim
  | .str _, xs, m, _, _ => cases xs <;> exact m.elim
  | .tup _, xs, m, _, _ => cases xs <;> exact m.elim
  | .rol _, xs, m, _, _ => cases xs <;> exact m.elim
  | .xn _, xs, m, _, _ => cases xs <;> exact m.elim
end
end DL
namespace DL
open PySem PySem.Spec PyProof.Rows L2
structure Cal (P : Program) (w : World) (K : PySem.W.Frag) (mg : Str → Option Value) (base : Heap) (CX : CXT) (x : Str) (k : Nat) (ps : List Str) (F : List D → M D) : Prop where
  ex : ∃ f fd, mg x = some (.ref f) ∧ PySem.W.keepIn K (.ref f) = true ∧ Binds K fd ps [] ∧ FnD P w K mg base CX k f fd ps F
theorem pd_calC {X : Cx} {CX : CXT} {k : Nat} {ps : List Str} {F : List D → M D} {x : Str} {p pos : Pos} {e : Expr} {es : List Expr} {ft : DSt → M (List D)} (h : Cal X.prog X.w X.K X.mg X.base CX x k ps F) (hr : Room k X.A) (hg : Gl X x) (hx : PassD CX X) (ha : PAd X (e :: es) ft)
    (hl : ∀ r S xs S', ft r S = .ok xs S' → xs.length = ps.length)
    (hdb : (x == ("__debug__" : Str)) = false := by decide) (he : starEach (e :: es) X.env = (false, eval e X.env) :: starEach es X.env := by rfl) (hpl : (backTo pos (starEach es X.env)).any (·.1) = false := by rfl) :
    PEd X (.Call (.Name x p) (e :: es) [] pos) (dCall F ft) := by
  obtain ⟨f, fd, hm, hk, hb, hF⟩ := h.ex
  exact pd_call hF hr hg hm hk hb hx ha hl hdb he hpl
theorem dl_nil : ∀ (r : DSt) (S : List Cell) (xs : List D) (S' : List Cell), dNil r S = .ok xs S' → xs.length = 0 := by
  intro r S xs S' e
  cases e
  rfl
theorem dl_cons {n : Nat} {f : DSt → M D} {g : DSt → M (List D)} (h : ∀ (r : DSt) (S : List Cell) (xs : List D) (S' : List Cell), g r S = .ok xs S' → xs.length = n) : ∀ (r : DSt) (S : List Cell) (xs : List D) (S' : List Cell), dCons f g r S = .ok xs S' → xs.length = n + 1 := by
  intro r S xs S' e
  unfold dCons M.bind at e
  cases e1 : f r S with
  | bad => rw [e1] at e; cases e
  | exc c S1 => rw [e1] at e; cases e
  | ok x S1 =>
    rw [e1] at e
    dsimp only at e
    cases e2 : g r S1 with
    | bad => rw [e2] at e; cases e
    | exc c S1 => rw [e2] at e; cases e
    | ok ys S2 =>
      rw [e2] at e
      have e' : R.ok (x :: ys) S2 = R.ok xs S' := e
      injection e' with e3 e4
      rw [← e3, List.length_cons, h r S1 ys S2 e2]
def fin (S0 : List Cell) : RSt → R D
  | some (.rt d, S') => .ok d S'
  | some (.nx _, S') => .ok .non S'
  | some (.xc c _, S') => .exc c S'
  | _ => .bad
theorem fend_fin {S0 : List Cell} {x : RSt} : FEnd S0 x (fin S0 x) := by
  match x with
  | none => trivial
  | some (.rt d, S') => exact ⟨[], .inl rfl, .inl (by rw [List.append_nil])⟩
  | some (.nx r, S') => exact ⟨[], .inl rfl, .inr ⟨rfl, r, by rw [List.append_nil]⟩⟩
  | some (.xc c r, S') => exact ⟨r, rfl⟩
  | some (.bk r, S') => trivial
  | some (.ct r, S') => trivial
open Classical in
noncomputable def finP (S0 : List Cell) : RSt → R D
  | some (.rt d, S') => if (∃ G, S' = S0 ++ G) ∧ wfD S0.length d then .ok d S0 else .bad
  | some (.nx _, S') => if ∃ G, S' = S0 ++ G then .ok .non S0 else .bad
  | some (.xc c _, S') => .exc c S'
  | _ => .bad
theorem fend_finP {S0 : List Cell} {x : RSt} : FEnd S0 x (finP S0 x) := by
  match x with
  | none => trivial
  | some (.rt d, S') =>
    simp only [finP]
    by_cases h : (∃ G, S' = S0 ++ G) ∧ wfD S0.length d
    · rw [if_pos h]
      obtain ⟨⟨G, rfl⟩, hd⟩ := h
      exact ⟨G, .inr ⟨Nat.le_refl _, hd, .inl rfl⟩, .inl rfl⟩
    · rw [if_neg h]; trivial
  | some (.nx r, S') =>
    simp only [finP]
    by_cases h : ∃ G, S' = S0 ++ G
    · rw [if_pos h]
      obtain ⟨G, rfl⟩ := h
      exact ⟨G, .inr ⟨Nat.le_refl _, by unfold wfD; trivial, .inl rfl⟩, .inr ⟨rfl, r, rfl⟩⟩
    · rw [if_neg h]; trivial
  | some (.xc c r, S') => exact ⟨r, rfl⟩
  | some (.bk r, S') => trivial
  | some (.ct r, S') => trivial
def dYes : DSt → M Bool := fun _ => M.ret true
def ltD : D → D → M D := iCmp fun i j => decide (i < j)
def leD : D → D → M D := iCmp fun i j => decide (i ≤ j)
def gtD : D → D → M D := iCmp fun i j => decide (j < i)
def geD : D → D → M D := iCmp fun i j => decide (j ≤ i)
def maxD : List D → M D := int2 fun i j => if j > i then j else i
def minD : List D → M D := int2 fun i j => if j < i then j else i
def dUn (g : D → M D) (fa : DSt → M D) : DSt → M D := fun r => (fa r).bind g
def truD (x : D) : M Bool := fun S => match x with
  | .non => .ok false S
  | .bl b => .ok b S
  | .int i => .ok (i != 0) S
  | .tup xs => .ok (!xs.isEmpty) S
  | .rol xs => .ok (!xs.isEmpty) S
  | .ob n => (match S[n]? with
    | some (.lst xs) => .ok (!xs.isEmpty) S
    | some (.dic kvs) => .ok (!kvs.isEmpty) S
    | _ => .bad)
  | _ => .bad
def dTru (f : DSt → M D) : DSt → M Bool := fun r => (f r).bind truD
theorem RepVs.isEmpty {K : PySem.W.Frag} {H : Hp} {J : List Addr} {xs : List D} {vs : List V} (h : RepVs K H J xs vs) : vs.isEmpty = xs.isEmpty := by
  have := h.length
  cases xs with
  | nil => cases vs with
    | nil => rfl
    | cons _ _ => cases this
  | cons _ _ => cases vs with
    | nil => cases this
    | cons _ _ => rfl
theorem RepPs.isEmpty {κ : Type} {K : PySem.W.Frag} {H : Hp} {J : List Addr} {xs : List (κ × D)} {vs : List (κ × V)} (h : RepPs K H J xs vs) : vs.isEmpty = xs.isEmpty := by
  have := h.length
  cases xs with
  | nil => cases vs with
    | nil => rfl
    | cons _ _ => cases this
  | cons _ _ => cases vs with
    | nil => cases this
    | cons _ _ => rfl
theorem pt_truD {X : Cx} {a : Expr} {fa : DSt → M D} (ha : PEd X a fa) (he : ∀ whole, isTrue a X.env whole = (do let v ← whole; standAt a.pos; holding [v] (truthy v)) := by intro _; rfl) : PTd X a (dTru fa) := by
  intro pins s σ H J r S Q E I m
  refine isTrue_plain (ha pins s σ H J r S _ E I ?_) (he _)
  unfold dTru M.bind at m
  cases e1 : fa r S with
  | bad => rw [e1] at m; exact m
  | exc c S1 => rw [e1] at m; exact m
  | ok x S1 =>
    rw [e1] at m
    rintro v s1 ⟨vx, H1, I1, r1, J1, ex, rs, rv⟩
    have fin : ∀ k, TruV X.K vx H1 k → truD x S1 = .ok k S1 → wpAny (model X.prog X.w) X.A (truthy v) Q E s1 := fun k ht hk => by
      dsimp only at m
      rw [hk] at m
      exact wpAny_mono (tru_ok (X := X.wish E) pins s1 σ H1 vx v (fun b H' => b = k ∧ H' = H1) (I1.wish E) r1 ⟨k, ht, rfl, rfl⟩) (fun b s2 ⟨H2, I2, hb, hH⟩ => by subst hb hH; exact m s2 ⟨_, I2.unwish, J1, ex, rs⟩) fun _ _ z => z
    cases x with
    | non => cases rv.non_; exact fin false rfl rfl
    | bl b => cases rv.bl_; exact fin b rfl rfl
    | int i => cases rv.int_; exact fin _ rfl rfl
    | tup xs =>
      obtain ⟨a, vs, rfl, hq, rvs⟩ := rv.tup_
      exact fin _ (.inr (.inl ⟨vs, hq, by rw [rvs.isEmpty]⟩)) rfl
    | rol xs =>
      obtain ⟨a, vs, rfl, hq, rvs⟩ := rv.rol_
      exact fin _ (.inl ⟨vs, hq.sq, by rw [rvs.isEmpty]⟩) rfl
    | ob n =>
      obtain ⟨a, rfl, hn⟩ := rv.ob_
      obtain ⟨c, hc, rc⟩ := rs.cellA hn
      cases c with
      | lst xs =>
        obtain ⟨vs, hv, rvs⟩ := rc
        exact fin (!xs.isEmpty) (.inl ⟨vs, SqL.of hv, by rw [rvs.isEmpty]⟩) (by simp only [truD, hc])
      | dic xs =>
        obtain ⟨vs, hv, rvs⟩ := rc
        exact fin (!xs.isEmpty) (.inr (.inr ⟨vs, hv, by rw [rvs.isEmpty]⟩)) (by simp only [truD, hc])
      | ins C ns ds =>
        dsimp only [truD] at m
        rw [hc] at m
        exact m.elim
    | _ => exact m.elim
def ClOk (X : Cx) : List (Str × Addr) → Prop
  | [] => True
  | p :: r => X.env.cells.lookup p.1 = some p.2 ∧ ClOk X r
theorem ClOk.all {X : Cx} : ∀ {cl : List (Str × Addr)}, ClOk X cl → ∀ p ∈ cl, X.env.cells.lookup p.1 = some p.2
  | [], _, p, hp => by cases hp
  | q :: r, h, p, hp => by
    rcases List.mem_cons.mp hp with rfl | hp
    · exact h.1
    · exact ClOk.all h.2 p hp
def spLaw (K : PySem.W.Frag) : Sp := fun vs H Q _ => ∃ (a : Addr) (ns : List Int), vs = [.ref a] ∧ SqL K H a (ns.map V.int) ∧ ns.length ≤ 63 ∧ Only H ∧ ∀ H', Q (.bl true) H'
theorem spLaw_of {K : PySem.W.Frag} {F : List D → M D} (hF : ∀ ns : List Int, ns.length ≤ 63 → ∃ S', F [.rol (ns.map D.int)] [] = .ok (.bl true) S') : ∀ vs H Q E, spLaw K vs H Q E → spD K 1 F vs H Q E := by
  rintro vs H Q E ⟨a, ns, rfl, hS, hl, ho, k⟩
  refine ⟨rfl, [], [.rol (ns.map D.int)], [], ?_, ⟨rfl, List.nodup_nil, fun n c a h => by simp at h⟩, ?_⟩
  · refine .one ?_
    unfold RepV
    refine ⟨a, ns.map V.int, rfl, ?_, RepVs.ints ns⟩
    rcases hS with (h | ⟨o, h⟩) | h
    · rcases ho a with e | ⟨o, xs, e⟩
      · rw [h] at e; cases e
      · rw [h] at e; cases e
    · exact .inl ⟨o, h⟩
    · exact .inr h
  · obtain ⟨S', e⟩ := hF ns hl
    rw [e]
    rintro v H' ⟨J', _, _, rv⟩
    rw [rv.bl_]
    exact k H'
end DL
namespace DL
open PySem PySem.Spec PyProof.Rows L2
@[simp] theorem cif_true {α : Type} {a b : α} : cif True a b = a := cif_pos trivial
@[simp] theorem cif_false {α : Type} {a b : α} : cif False a b = b := cif_neg (fun h => h)
theorem sTurns_inv {g : Option (Nat × List D)} {tg : TGd} {b : TSt} (Iv : Nat → DSt → List Cell → Prop) : ∀ (items : List D) (k : Nat) (r : DSt) (S : List Cell),
    (∀ i x r S, items[i]? = some x → Iv (k + i) r S → ∃ r1 r2 S2, tg x r = some r1 ∧ b r1 S = some (.nx r2, S2) ∧ gok g S2 ∧ Iv (k + i + 1) r2 S2) → Iv k r S →
    ∃ r' S', sTurns g tg b items r S = some (.nx r', S') ∧ Iv (k + items.length) r' S'
  | [], k, r, S, _, h => ⟨r, S, rfl, by simpa using h⟩
  | x :: xs, k, r, S, hs, h => by
    obtain ⟨r1, r2, S2, h1, h2, h3, h4⟩ := hs 0 x r S rfl h
    obtain ⟨r', S', e1, e2⟩ := sTurns_inv Iv xs (k + 1) r2 S2 (fun i y r S hy hi => by
      have := hs (i + 1) y r S (by simpa using hy) (by rw [show k + (i + 1) = k + 1 + i by omega]; exact hi)
      rw [show k + (i + 1) + 1 = k + 1 + i + 1 by omega] at this
      exact this) h4
    refine ⟨r', S', ?_, by rw [List.length_cons, show k + (xs.length + 1) = k + 1 + xs.length by omega]; exact e2⟩
    unfold sTurns
    rw [h1]
    dsimp only
    rw [h2]
    dsimp only
    rw [if_pos h3]
    exact e1
theorem pDs_ints (S : List Cell) (n : Nat) : ∀ is : List Int, pDs S (n + 1) (is.map D.int) = some (is.map PyData.int)
  | [] => by simp [pDs]
  | i :: is => by simp [pDs, pD, pDs_ints S n is]
theorem pD_tupInts (S : List Cell) (n : Nat) (is : List Int) : pD S (n + 2) (.tup (is.map D.int)) = some (.tuple (is.map PyData.int)) := by
  simp [pD, pDs_ints]
theorem eqD_int (S : List Cell) (i j : Int) : eqD (.int i) (.int j) S = .ok (.bl (decide (i = j))) S := by
  have e : (i == j) = decide (i = j) := by
    by_cases h : i = j <;> simp [h]
  simp only [eqD, pD, PyData.eqv, e]
theorem neD_int (S : List Cell) (i j : Int) : neD (.int i) (.int j) S = .ok (.bl (!decide (i = j))) S := by
  have e : (i == j) = decide (i = j) := by
    by_cases h : i = j <;> simp [h]
  simp only [neD, pD, PyData.eqv, e]
theorem wRng_small {S : List Cell} {n : Nat} (h : n ≤ 1000000) : wRng 0 (n : Int) 1 S = .ok ⟨rngD 0 1 n, none⟩ S := by
  have hs : Builtin.Range.small 0 (n : Int) 1 = true := small_one (by omega) (by omega) (by omega) (by omega)
  unfold wRng
  have e : (if (0 : Int) < (n : Int) then (n : Int) - 0 else 0).toNat = n := by split <;> omega
  rw [cif_pos ⟨⟨by omega, by omega⟩, hs⟩, rangeSize_one, e]
theorem cutD_take {xs : List D} {k : Nat} (h : k ≤ xs.length) : cutD xs none (some (k : Int)) = xs.take k := by
  unfold cutD
  rw [HT.sIx_none, HT.sIx_nat, Nat.min_eq_left h]
  simp
theorem cutD_drop {xs : List D} {k : Nat} (h : k ≤ xs.length) : cutD xs (some (k : Int)) none = xs.drop k := by
  unfold cutD
  rw [HT.sIx_none, HT.sIx_nat, Nat.min_eq_left h]
  rw [List.take_of_length_le]
  simp
end DL
namespace DL
open PySem PySem.Spec PyProof.Rows L2
open AutoSeq1 (wpAny_loadPart')
open SeqAt
section
variable {X : Cx}
def intsOf : List D → Option (List Int)
  | [] => some []
  | .int i :: xs => (intsOf xs).map (i :: ·)
  | _ :: _ => none
theorem intsOf_map : ∀ {xs : List D} {is : List Int}, intsOf xs = some is → xs = is.map D.int
  | [], is, h => by cases h; rfl
  | x :: xs, is, h => by
    cases x with
    | int i =>
      simp only [intsOf] at h
      cases e : intsOf xs with
      | none => rw [e] at h; cases h
      | some js =>
        rw [e] at h
        cases h
        rw [intsOf_map e]
        rfl
    | _ => cases h
theorem intsOf_ints : ∀ is : List Int, intsOf (is.map D.int) = some is
  | [] => rfl
  | i :: is => by simp [intsOf, intsOf_ints is]
def sumD : List D → M D
  | [x] => fun S => match seqD S x with
    | some xs => (match intsOf xs with
      | some is => .ok (.int is.sum) S
      | none => .bad)
    | none => .bad
  | _ => M.bad
theorem preSum_ints (is : List Int) : ∀ n, n ≤ is.length → preSum (fun i => is.getD i 0) n = (is.take n).sum
  | 0, _ => by simp [preSum]
  | n + 1, h => by
    rw [preSum, preSum_ints is n (by omega), List.take_add_one, List.sum_append]
    have hg : is[n]? = some (is.getD n 0) := by simp [List.getD, List.getElem?_eq_getElem (show n < is.length by omega)]
    rw [hg]
    simp
theorem vals_map {α : Type} {f : α → D} {g : α → V} {K : PySem.W.Frag} {H : Hp} {J : List Addr} (hfg : ∀ a v, RepV K H J (f a) v → v = g a) : ∀ {as : List α} {vs : List V}, RepVs K H J (as.map f) vs → vs = as.map g
  | [], vs, h => by unfold RepVs at h; simpa using h
  | a :: as, vs, h => by
    rw [List.map_cons] at h
    unfold RepVs at h
    obtain ⟨v, r, rfl, h1, h2⟩ := h
    rw [hfg a v h1, vals_map hfg h2]
    rfl
theorem walk_seq {pins : Pins} {σ : L2.St} {H : Hp} {s : Shared} {a : Addr} {vs : List V} (hc : X.calm = true) (I : Inv X pins σ H s) (hq : SqL X.K H a vs ∨ SqT X.K H a vs) {Q E : Value → Shared → Prop}
    (h : ∀ (it : Addr) (fp : List Addr) (St : Nat → Heap → Prop) (its : List Value) (s2 : Shared), Vals vs its → Walks X.prog X.w X.A.in1 it fp [it] its.length (fun i v => its[i]? = some v) St → St 0 s2.heap → (∀ b ∈ fp, b < s2.heap.objs.size) → s2.toks = s.toks →
      (∀ h' tk, (∀ b o, b ∉ [it] → s2.heap.get? b = some o → h'.get? b = some o) → Inv X pins σ H { s2 with heap := h', toks := tk }) → Q (.ref it) s2) : wpAny (model X.prog X.w) X.A.in1 (pyIter (.ref a)) Q E s := by
  rcases hq with hq | hq
  · obtain ⟨its, rl, pl, hz⟩ := I.list hq
    have hlt : a < s.heap.objs.size := by
      obtain ⟨o, ho, _⟩ := pl.isList
      exact Heap.lt_size ho
    refine wpAny_pyIter_list pl.isList (h s.heap.objs.size [s.heap.objs.size, a] (fun i h => h.IsListIter s.heap.objs.size a i ∧ h.IsList a its.toArray) its _ rl (by simpa using Walks.list (prog := X.prog) (w := X.w) (A := X.A.in1) (I.ok.hd hc) s.heap.objs.size a (Nat.ne_of_lt hlt) its.toArray) ⟨⟨_, Heap.get?_push_size _ rfl, rfl, rfl⟩, pl.isList.at fun o e => Heap.get?_push_of_some _ e⟩ (fun b hb => ?_) rfl fun h' tk hk => ?_)
    · simp at hb
      rw [Heap.size_push]
      rcases hb with rfl | rfl
      · exact Nat.lt_succ_self _
      · exact Nat.lt_succ_of_lt hlt
    · exact I.kept fun b o e => hk b o (by simp; exact Nat.ne_of_lt (Heap.lt_size e)) (Heap.get?_push_of_some _ e)
  · obtain ⟨its, rl, pl, hz⟩ := I.tuple hq
    have hT : s.heap.IsTuple a its.toArray := pl
    have hlt : a < s.heap.objs.size := by
      obtain ⟨o, ho, _⟩ := hT
      exact Heap.lt_size ho
    refine wpAny_pyIter_tuple hT (h s.heap.objs.size [s.heap.objs.size, a] (fun i h => h.IsTupleIter s.heap.objs.size a i ∧ h.IsTuple a its.toArray) its _ rl (by simpa using Walks.tuple (prog := X.prog) (w := X.w) (A := X.A.in1) (I.ok.hd hc) s.heap.objs.size a (Nat.ne_of_lt hlt) its.toArray) ⟨⟨_, Heap.get?_push_size _ rfl, rfl, rfl⟩, hT.at fun o e => Heap.get?_push_of_some _ e⟩ (fun b hb => ?_) rfl fun h' tk hk => ?_)
    · simp at hb
      rw [Heap.size_push]
      rcases hb with rfl | rfl
      · exact Nat.lt_succ_self _
      · exact Nat.lt_succ_of_lt hlt
    · exact I.kept fun b o e => hk b o (by simp; exact Nat.ne_of_lt (Heap.lt_size e)) (Heap.get?_push_of_some _ e)
theorem cd_sum (hc : X.calm = true) : CallD X (.builtin "sum") sumD := by
  intro pins s σ H J S xs vs us Q E I rs rx rv m
  match xs, m, rx with
  | [], m, rx => exact m.elim
  | _ :: _ :: _, m, rx => exact m.elim
  | [x], m, rx =>
    obtain ⟨v, rfl, h1⟩ := rx.one_
    obtain ⟨u, rfl, ru⟩ := Vals.one rv
    simp only [sumD] at m
    cases e1 : seqD S x with
    | none => rw [e1] at m; exact m.elim
    | some ys =>
      rw [e1] at m
      dsimp only at m
      cases e2 : intsOf ys with
      | none => rw [e2] at m; exact m.elim
      | some is =>
        rw [e2] at m
        cases intsOf_map e2
        obtain ⟨a, ws, rfl, hq, rvs⟩ := seq_rep rs h1 e1
        cases ru
        have ew := vals_map (g := V.int) (fun i v h => h.int_) rvs
        subst ew
        refine call_sum_walkG (walk_seq hc I hq fun it fp St its s2 rl W st hf htk hI => ?_)
        have hi := intsAre_of rl
        have hlen : its.length = is.length := by have := rl.length; simpa using this.symm
        refine ⟨it, fp, [it], its.length, _, St, (fun i => is.getD i 0), rfl, W, st, hf, ?_, ?_⟩
        · intro i v hv
          obtain ⟨x, hx, rx⟩ : ∃ x, (is.map V.int)[i]? = some x ∧ RelV x v := by
            have hlt := (List.getElem?_eq_some_iff.mp hv).1
            obtain ⟨u, hu, ru⟩ := Vals.get (x := .int (is.getD i 0)) rl (i := i) (by simp [List.getD, List.getElem?_eq_getElem (show i < is.length by omega)])
            rw [hv] at hu
            cases hu
            exact ⟨_, by simp [List.getD, List.getElem?_eq_getElem (show i < is.length by omega)], ru⟩
          rw [List.getElem?_map] at hx
          cases e : is[i]? with
          | none => rw [e] at hx; cases hx
          | some k =>
            rw [e] at hx
            cases hx
            obtain ⟨t, rfl⟩ := rx
            exact ⟨t, by simp [List.getD, e]⟩
        · intro h' tk t' hk
          rw [hlen, preSum_ints is _ (Nat.le_refl _), List.take_length]
          exact m.ok_ (hI h' tk hk) rs (RepV.int _ _ _ _) ⟨_, rfl⟩
structure KTup (K : PySem.W.Frag) (u : Value) (vs : List V) : Prop where
  ex : ∃ (a : Addr) (o : Obj) (its : Array Value) (n : Nat), u = .ref a ∧ K.lookup a = some o ∧ o.cls = .type "tuple" ∧ o.dict = none ∧ o.data = .seq its n ∧ its.size ≤ sizeLine ∧ Vals vs its.toList
theorem KTup.rep {K : PySem.W.Frag} {u : Value} {vs : List V} {ds : List D} (h : KTup K u vs) (hd : ∀ H J, RepVs K H J ds vs) : KRep K (.tup ds) u := by
  obtain ⟨a, o, its, n, rfl, h1, h2, h3, h4, h5, h6⟩ := h.ex
  exact fun H J => ⟨.ref a, rfl, .tup (.inr ⟨o, its, n, h1, h2, h4, h5, h6⟩) (hd H J)⟩
end
end DL
namespace DL
open PySem PySem.Spec PyProof.Rows L2
theorem lookup_at {f : Str} {v : V} : ∀ {ws : List (Str × V)} {i : Nat}, (ws.map (·.1)).Nodup → (ws.map (·.1))[i]? = some f → (ws.map (·.2))[i]? = some v → ws.lookup f = some v
  | [], _, _, h, _ => by simp at h
  | (g, x) :: r, 0, nd, h, h2 => by
    simp at h h2
    subst h h2
    simp [List.lookup_cons]
  | (g, x) :: r, i + 1, nd, h, h2 => by
    simp only [List.map_cons, List.nodup_cons] at nd
    simp only [List.map_cons, List.getElem?_cons_succ] at h h2
    have hm : f ∈ r.map (·.1) := List.mem_of_getElem? h
    have hb : (f == g) = false := beq_eq_false_iff_ne.mpr fun e => nd.1 (e ▸ hm)
    rw [List.lookup_cons, hb]
    exact lookup_at nd.2 h h2
theorem lookup_no {f : Str} : ∀ {ws : List (Str × V)}, f ∉ ws.map (·.1) → ws.lookup f = none
  | [], _ => rfl
  | (g, x) :: r, h => by
    simp only [List.map_cons, List.mem_cons, not_or] at h
    have hb : (f == g) = false := beq_eq_false_iff_ne.mpr h.1
    rw [List.lookup_cons, hb]
    exact lookup_no h.2
theorem putF_cons (f g : Str) (y x : V) (r : List (Str × V)) : putF f y ((g, x) :: r) = if g = f then (g, y) :: r else (g, x) :: putF f y r := rfl
theorem putF_at {f : Str} {y : V} : ∀ {ws : List (Str × V)} {i : Nat}, (ws.map (·.1)).Nodup → (ws.map (·.1))[i]? = some f → (putF f y ws).map (·.1) = ws.map (·.1) ∧ (putF f y ws).map (·.2) = (ws.map (·.2)).set i y
  | [], _, _, h => by simp at h
  | (g, x) :: r, 0, nd, h => by
    simp at h
    subst h
    rw [putF_cons, if_pos rfl]
    exact ⟨rfl, rfl⟩
  | (g, x) :: r, i + 1, nd, h => by
    simp only [List.map_cons, List.nodup_cons] at nd
    simp only [List.map_cons, List.getElem?_cons_succ] at h
    have hm : f ∈ r.map (·.1) := List.mem_of_getElem? h
    have hb : ¬ g = f := fun e => nd.1 (e ▸ hm)
    rw [putF_cons, if_neg hb]
    obtain ⟨h1, h2⟩ := putF_at (y := y) nd.2 h
    exact ⟨by rw [List.map_cons, List.map_cons, h1], by rw [List.map_cons, List.map_cons, List.set_cons_succ, h2]⟩
theorem putF_new {f : Str} {y : V} : ∀ {ws : List (Str × V)}, f ∉ ws.map (·.1) → putF f y ws = ws ++ [(f, y)]
  | [], _ => rfl
  | (g, x) :: r, h => by
    simp only [List.map_cons, List.mem_cons, not_or] at h
    rw [putF_cons, if_neg (fun e => h.1 e.symm), putF_new h.2]
    rfl
noncomputable def insD (C : Addr) (ns : List Str) (x : D) : M (Nat × List D) := fun S => match x with
  | .ob n => (match S[n]? with
    | some (.ins C' ns' ds) => cif (C' = C ∧ ns' = ns) (.ok (n, ds) S) .bad
    | _ => .bad)
  | _ => .bad
theorem insD_eq {C : Addr} {ns : List Str} {n : Nat} {ds : List D} {S : List Cell} (h : S[n]? = some (.ins C ns ds)) : insD C ns (.ob n) S = .ok (n, ds) S := by
  simp only [insD, h]
  first
    | exact cif_pos ⟨rfl, rfl⟩
    | exact cif_pos ⟨trivial, trivial⟩
theorem insD_ok {C : Addr} {ns : List Str} {x : D} {S S' : List Cell} {p : Nat × List D} (h : insD C ns x S = .ok p S') : S' = S ∧ x = .ob p.1 ∧ S[p.1]? = some (.ins C ns p.2) := by
  unfold insD at h
  cases x with
  | ob n =>
    dsimp only at h
    cases e : S[n]? with
    | none => rw [e] at h; cases h
    | some c =>
      rw [e] at h
      cases c with
      | ins C' ns' ds =>
        dsimp only at h
        unfold cif at h
        split at h
        · rename_i q
          obtain ⟨rfl, rfl⟩ := q
          injection h with h1 h2
          subst h1 h2
          exact ⟨rfl, rfl, e⟩
        · cases h
      | _ => cases h
  | _ => cases h
theorem insD_ne {C : Addr} {ns : List Str} {x : D} {S S' : List Cell} {c : Addr} : insD C ns x S ≠ .exc c S' := by
  intro h
  unfold insD at h
  cases x with
  | ob n =>
    dsimp only at h
    cases e : S[n]? with
    | none => rw [e] at h; cases h
    | some c =>
      rw [e] at h
      cases c with
      | ins C' ns' ds =>
        dsimp only at h
        unfold cif at h
        split at h <;> cases h
      | _ => cases h
  | _ => cases h
def optM (o : Option D) : M D := fun S => match o with
  | some d => .ok d S
  | none => .bad
section
variable {X : Cx} {o e : Expr} {es : List Expr} {fo fe : DSt → M D} {ft : DSt → M (List D)} {pos tpos apos : Pos} {C : Addr} {ns : List Str} {i : Nat} {f : Str}
noncomputable def dFld (C : Addr) (ns : List Str) (i : Nat) (fo : DSt → M D) : DSt → M D := fun r => (fo r).bind fun x => (insD C ns x).bind fun p => optM p.2[i]?
theorem pd_fld (c : Cls X.K C) (na : NoAttr X.K C f) (nd : ns.Nodup) (ho : PEd X o fo) (hi : ns[i]? = some f := by rfl) (hb : attributeBase o f X.env (eval o X.env) = eval o X.env := by rfl) : PEd X (.Attribute o f pos) (dFld C ns i fo) := by
  intro pins s σ H J r S Q E I m
  refine attr_of hb (ho pins s σ H J r S _ E I ?_)
  unfold dFld M.bind at m
  cases e1 : fo r S with
  | bad => rw [e1] at m; exact m
  | exc c S1 => rw [e1] at m; exact m
  | ok x S1 =>
    rw [e1] at m
    dsimp only at m
    rintro v s1 ⟨vx, H1, I1, r1, J1, ex1, rs1, rv1⟩
    replace m := Mt.ext ex1 m
    cases e2 : insD C ns x S1 with
    | bad => rw [e2] at m; exact m.elim
    | exc c S2 => exact absurd e2 insD_ne
    | ok p S2 =>
      rw [e2] at m
      obtain ⟨n, ds⟩ := p
      obtain ⟨rfl, rfl, hc⟩ := insD_ok e2
      obtain ⟨a, rfl, hn⟩ := rv1.ob_
      obtain ⟨dx, ws, hv, hns, rds⟩ := rs1.at_ n _ a hc hn
      dsimp only [optM] at m
      cases e3 : ds[i]? with
      | none => rw [e3] at m; exact m.elim
      | some d =>
        rw [e3] at m
        obtain ⟨w, hw, rw'⟩ := rds.get e3
        cases r1
        exact getattr_ok I1 hv c na (lookup_at (hns ▸ nd) (hns ▸ hi) hw) fun u s2 I2 ru => m.ok_ I2 rs1 rw' ru
theorem Ext.ins {K : PySem.W.Frag} {H : Hp} {J : List Addr} {a dx : Addr} {ws ws' : List (Str × V)} (h : H a = some (.ins C dx ws)) : Ext H J (upd H a (.ins C dx ws')) J := Ext.write h rfl
noncomputable def sFld (C : Addr) (ns : List Str) (i : Nat) (fo fe : DSt → M D) : TSt := fun r => sBind (fe r) r fun d => sBind (fo r) r fun x S1 => match insD C ns x S1 with
  | .ok p S2 => some (.nx r, S2.set p.1 (.ins C ns (p.2.set i d)))
  | _ => none
theorem goS' (he : PEd X e fe) {k : D → List Cell → RSt} {pins : Pins} {s : Shared} {σ : L2.St} {H : Hp} {J : List Addr} {r : DSt} {S : List Cell} {Q : Flow → Shared → Prop} {E : Value → Shared → Prop} {Q' : Value → Shared → Prop} (I : At X pins σ H J r S s)
    (m : MtS X pins H J (sBind (fe r) r k S) Q E) (hk : ∀ x S1 v s1 vx H1 J1, At X pins σ H1 J1 r S1 s1 → Ext H J H1 J1 → RepV X.K H1 J1 x vx → RelV vx v → MtS X pins H1 J1 (k x S1) Q E → Q' v s1) :
    wpAny (model X.prog X.w) X.A (eval e X.env) Q' E s := by
  refine he pins s σ H J r S _ E I ?_
  unfold sBind at m
  cases e1 : fe r S with
  | bad => rw [e1] at m; exact m
  | exc c S1 =>
    rw [e1] at m
    exact fun x s' ⟨H', XI, J', ex, rs⟩ => m x s' σ H' J' XI (I.loc.ext ex) rs ex
  | ok x S1 =>
    rw [e1] at m
    exact fun v s1 ⟨vx, H1, I1, r1, J1, ex, rs, rv⟩ => hk x S1 v s1 vx H1 J1 ⟨I1, I.loc.ext ex, rs⟩ ex rv r1 (MtS.ext ex m)
theorem set_cell {pins : Pins} {s : Shared} {σ : L2.St} {H : Hp} {J : List Addr} {r : DSt} {S : List Cell} {n : Nat} {ds : List D} {d : D} {vd : V} {u : Value} {a : Addr} {Q : Flow → Shared → Prop} {E : Value → Shared → Prop}
    (c : Cls X.K C) (na : NoAttr X.K C f) (nd : ns.Nodup) (hz : ns.length < 1000) (hi : ns[i]? = some f) (I : At X pins σ H J r S s) (hc : S[n]? = some (.ins C ns ds)) (hn : J[n]? = some a) (rd : RepV X.K H J d vd) (ru : RelV vd u)
    (m : MtS X pins H J (some (.nx r, S.set n (.ins C ns (ds.set i d)))) Q E) : wpAny (model X.prog X.w) X.A (setAttr (.ref a) f u) (fun _ s' => Q .next s') E s := by
  obtain ⟨dx, ws, hv, hns, rds⟩ := I.st.at_ n _ a hc hn
  refine setattr_ok I.inv hv c na (by rw [← List.length_map (f := (·.1)), hns]; exact hz) ru fun s3 I3 => ?_
  have x3 : Ext H J (upd H a (.ins C dx (putF f vd ws))) J := Ext.write hv rfl
  obtain ⟨p1, p2⟩ := putF_at (y := vd) (hns ▸ nd) (hns ▸ hi)
  refine m s3 σ _ J ⟨I3, I.loc.ext x3, I.st.write hn ⟨dx, _, upd_same, p1.trans hns, ?_⟩⟩ x3
  rw [p2]
  exact RepVs.set (rd.ext x3) i (rds.ext x3)
theorem sd_fld {pos' : Pos} (c : Cls X.K C) (na : NoAttr X.K C f) (nd : ns.Nodup) (hz : ns.length < 1000) (ho : PEd X o fo) (he : PEd X e fe) (hi : ns[i]? = some f := by rfl)
    (hs : swapsWith e (some (.Attribute o f pos')) pos.line X.env = pure false := by rfl) : PSd X (.Assign [.Attribute o f pos'] e pos) (sFld C ns i fo fe) := by
  intro pins s σ H J r S Q E I m
  refine plainObj_wpAny_Assign_Attribute (goS' he I m fun d S1 u s1 vd H1 J1 I1 x1 rd ru m1 => goS' ho I1 m1 fun x S2 v s2 vx H2 J2 I2 x2 rx rv m2 => ?_) hs
  cases e2 : insD C ns x S2 with
  | bad => rw [e2] at m2; exact m2.elim
  | exc c S2 => exact absurd e2 insD_ne
  | ok p S3 =>
    rw [e2] at m2
    obtain ⟨n, ds⟩ := p
    obtain ⟨rfl, rfl, hc⟩ := insD_ok e2
    obtain ⟨a, rfl, hn⟩ := rx.ob_
    cases rv
    exact set_cell c na nd hz hi I2 hc hn (rd.ext x2) ru m2
noncomputable def sFldN (C : Addr) (ns : List Str) (f : Str) (fo fe : DSt → M D) : TSt := fun r => sBind (fe r) r fun d => sBind (fo r) r fun x S1 => match insD C ns x S1 with
  | .ok p S2 => some (.nx r, S2.set p.1 (.ins C (ns ++ [f]) (p.2 ++ [d])))
  | _ => none
theorem sd_fldN {pos' : Pos} (c : Cls X.K C) (na : NoAttr X.K C f) (hz : ns.length < 1000) (hf : f ∉ ns) (ho : PEd X o fo) (he : PEd X e fe)
    (hs : swapsWith e (some (.Attribute o f pos')) pos.line X.env = pure false := by rfl) : PSd X (.Assign [.Attribute o f pos'] e pos) (sFldN C ns f fo fe) := by
  intro pins s σ H J r S Q E I m
  refine plainObj_wpAny_Assign_Attribute (goS' he I m fun d S1 u s1 vd H1 J1 I1 x1 rd ru m1 => goS' ho I1 m1 fun x S2 v s2 vx H2 J2 I2 x2 rx rv m2 => ?_) hs
  cases e2 : insD C ns x S2 with
  | bad => rw [e2] at m2; exact m2.elim
  | exc c S2 => exact absurd e2 insD_ne
  | ok p S3 =>
    rw [e2] at m2
    obtain ⟨n, ds⟩ := p
    obtain ⟨rfl, rfl, hc⟩ := insD_ok e2
    obtain ⟨a, rfl, hn⟩ := rx.ob_
    cases rv
    obtain ⟨dx, ws, hv, hns, rds⟩ := I2.st.at_ n _ a hc hn
    refine setattr_ok I2.inv hv c na (by rw [← List.length_map (f := (·.1)), hns]; exact hz) ru fun s3 I3 => ?_
    have x3 : Ext H2 J2 (upd H2 a (.ins C dx (putF f vd ws))) J2 := Ext.write hv rfl
    have pn : putF f vd ws = ws ++ [(f, vd)] := putF_new (hns ▸ hf)
    have pn2 : (putF f vd ws).map (·.2) = ws.map (·.2) ++ [vd] := by rw [pn, List.map_append]; rfl
    refine m2 s3 σ _ J2 ⟨I3, I2.loc.ext x3, I2.st.write hn ⟨dx, _, upd_same, by rw [pn, List.map_append, hns]; rfl, ?_⟩⟩ x3
    rw [pn2]
    exact (rds.ext x3).append (.one ((rd.ext x2).ext x3))
noncomputable def sFldA (C : Addr) (ns : List Str) (i : Nat) (fo fe : DSt → M D) : TSt := fun r => sBind (fo r) r fun x S1 => match insD C ns x S1 with
  | .ok p S2 => (match p.2[i]? with
    | some (.int a) => sBind (fe r) r (fun y S3 => match y with
      | .int b => (match insD C ns x S3 with
        | .ok q S4 => some (.nx r, S4.set q.1 (.ins C ns (q.2.set i (.int (a + b)))))
        | _ => none)
      | _ => none) S2
    | _ => none)
  | _ => none
theorem sd_fldA (c : Cls X.K C) (na : NoAttr X.K C f) (nd : ns.Nodup) (hz : ns.length < 1000) (ho : PEd X o fo) (he : PEd X e fe) (hi : ns[i]? = some f := by rfl) :
    PSd X (.AugAssign (.Attribute o f tpos) .Add e pos) (sFldA C ns i fo fe) := by
  intro pins s σ H J r S Q E I m
  refine wpAny_AugAssign_AttributeAny (goS' ho I m fun x S1 v s1 vx H1 J1 I1 x1 rx rv m1 => ?_)
  cases e2 : insD C ns x S1 with
  | bad => rw [e2] at m1; exact m1.elim
  | exc c S2 => exact absurd e2 insD_ne
  | ok p S2 =>
    rw [e2] at m1
    obtain ⟨n, ds⟩ := p
    obtain ⟨rfl, rfl, hc⟩ := insD_ok e2
    obtain ⟨a, rfl, hn⟩ := rx.ob_
    cases rv
    dsimp only at m1
    cases e3 : ds[i]? with
    | none => rw [e3] at m1; exact m1.elim
    | some d =>
      rw [e3] at m1
      cases d with
      | int j =>
        obtain ⟨dx, ws, hv, hns, rds⟩ := I1.st.at_ n _ a hc hn
        obtain ⟨w, hw, rw'⟩ := rds.get e3
        cases rw'.int_
        refine getattr_ok I1.inv hv c na (lookup_at (hns ▸ nd) (hns ▸ hi) hw) fun u s2 I2 ru => ?_
        refine goS' he ⟨I2, I1.loc, I1.st⟩ m1 fun y S3 v3 s3 vy H3 J3 I3 x3 ry rv3 m3 => ?_
        cases y with
        | int k =>
          dsimp only at m3
          cases e4 : insD C ns (.ob n) S3 with
          | bad => rw [e4] at m3; exact m3.elim
          | exc c S2 => exact absurd e4 insD_ne
          | ok q S4 =>
            rw [e4] at m3
            obtain ⟨n', ds'⟩ := q
            obtain ⟨rfl, hnn, hc'⟩ := insD_ok e4
            injection hnn with hnn
            subst hnn
            cases ry.int_
            obtain ⟨t1, rfl⟩ := ru
            obtain ⟨t2, rfl⟩ := rv3
            have hn3 : J3[n]? = some a := by
              obtain ⟨mm, em⟩ := x3.pre
              rw [em, List.getElem?_append_left (List.getElem?_eq_some_iff.mp hn).1]
              exact hn
            exact PyProof.Rows.iadd_int (set_cell c na nd hz hi ⟨I3.inv.tok _, I3.loc, I3.st⟩ hc' hn3 (RepV.int _ _ _ (j + k)) ⟨_, rfl⟩ m3)
        | _ => exact m3.elim
      | _ => exact m1.elim
structure CalM (P : Program) (w : World) (K : PySem.W.Frag) (mg : Str → Option Value) (base : Heap) (CX : CXT) (C : Addr) (m : Str) (k : Nat) (ps : List Str) (F : List D → M D) : Prop where
  ex : ∃ f fd, Meth K C m f ∧ Binds K fd ps [] ∧ FnD P w K mg base CX k f fd ps F
noncomputable def dMeth (C : Addr) (ns : List Str) (F : List D → M D) (fo : DSt → M D) (ft : DSt → M (List D)) : DSt → M D := fun r => (fo r).bind fun x => (insD C ns x).bind fun _ => (ft r).bind fun xs => F (x :: xs)
theorem pd_meth {CX : CXT} {k : Nat} {ps : List Str} {F : List D → M D} {m : Str} {pl : Sem Bool} (h : CalM X.prog X.w X.K X.mg X.base CX C m k ps F) (hr : Room k X.A) (c : Cls X.K C) (hm : m ∉ ns) (hx : PassD CX X) (ho : PEd X o fo) (ha : PAd X (e :: es) ft)
    (hl : ∀ r S xs S', ft r S = .ok xs S' → xs.length + 1 = ps.length)
    (hst : starEach (e :: es) X.env = (false, eval e X.env) :: starEach es X.env := by rfl) (hpl : (backTo pos (starEach es X.env)).any (·.1) = false := by rfl)
    (ht : eval (.Call (.Attribute o m apos) (e :: es) [] pos) X.env = (do
      let ov ← eval o X.env
      standAt apos.atName
      let (f, first) ← holding [ov] (getMethod ov m pl)
      callWith pos f first (backTo pos (starEach (e :: es) X.env)) (backToKw pos (keywordEach [] X.env))) := by rfl) :
    PEd X (.Call (.Attribute o m apos) (e :: es) [] pos) (dMeth C ns F fo ft) := by
  obtain ⟨f, fd, hM, hb, hF⟩ := h.ex
  intro pins s σ H J r S Q E I mm
  refine PySem.W.methodCall_KW (pl := pl) (ho pins s σ H J r S _ E I ?_) ht
  unfold dMeth M.bind at mm
  cases e1 : fo r S with
  | bad => rw [e1] at mm; exact mm
  | exc c S1 => rw [e1] at mm; exact mm
  | ok x S1 =>
    rw [e1] at mm
    dsimp only at mm
    rintro v s1 ⟨vx, H1, I1, r1, J1, ex1, rs1, rv1⟩
    replace mm := Mt.ext ex1 mm
    cases e2 : insD C ns x S1 with
    | bad => rw [e2] at mm; exact mm.elim
    | exc c S2 => exact absurd e2 insD_ne
    | ok p S2 =>
      rw [e2] at mm
      obtain ⟨n, ds⟩ := p
      obtain ⟨rfl, rfl, hc⟩ := insD_ok e2
      obtain ⟨a, rfl, hn⟩ := rv1.ob_
      cases r1
      obtain ⟨dx, ws, hv, hns, rds⟩ := rs1.at_ n _ a hc hn
      refine getmeth_ok I1 hv c hM (lookup_no (hns ▸ hm)) ?_
      refine PySem.W.callWith_K (first := [.ref a]) (h₀ := X.base) I1.ok.mod.kin hM.kp ?_ hst hpl
      refine ha pos pins s1 σ H1 J1 r _ _ E ⟨I1, I.loc.ext ex1, rs1⟩ ?_
      dsimp only at mm
      cases e3 : ft r S2 with
      | bad => rw [e3] at mm; exact mm
      | exc c S3 => rw [e3] at mm; exact mm
      | ok xs S3 =>
        rw [e3] at mm
        intro us s2 ⟨vs, H2, I2, r2, J2, ex2, rs2, rv2⟩
        exact ⟨I2.kIn, run_fnD (us := .ref a :: us) (vs := .ref a :: vs) (xs := .ob n :: xs) hF hr hb hx I2 rs2 (.cons (rv1.ext ex2) rv2) (.cons rfl r2) (by rw [List.length_cons]; exact hl r _ xs S3 e3) (Mt.ext ex2 mm)⟩
theorem pd_meth0 {CX : CXT} {k : Nat} {ps : List Str} {F : List D → M D} {m : Str} {pl : Sem Bool} (h : CalM X.prog X.w X.K X.mg X.base CX C m k ps F) (hr : Room k X.A) (c : Cls X.K C) (hm : m ∉ ns) (hx : PassD CX X) (ho : PEd X o fo)
    (hl : 1 = ps.length := by rfl)
    (ht : eval (.Call (.Attribute o m apos) [] [] pos) X.env = (do
      let ov ← eval o X.env
      standAt apos.atName
      let (f, first) ← holding [ov] (getMethod ov m pl)
      callWith pos f first (backTo pos (starEach [] X.env)) (backToKw pos (keywordEach [] X.env))) := by rfl) :
    PEd X (.Call (.Attribute o m apos) [] [] pos) (dMeth C ns F fo dNil) := by
  obtain ⟨f, fd, hM, hb, hF⟩ := h.ex
  intro pins s σ H J r S Q E I mm
  refine PySem.W.methodCall_KW (pl := pl) (ho pins s σ H J r S _ E I ?_) ht
  unfold dMeth M.bind at mm
  cases e1 : fo r S with
  | bad => rw [e1] at mm; exact mm
  | exc c S1 => rw [e1] at mm; exact mm
  | ok x S1 =>
    rw [e1] at mm
    dsimp only at mm
    rintro v s1 ⟨vx, H1, I1, r1, J1, ex1, rs1, rv1⟩
    replace mm := Mt.ext ex1 mm
    cases e2 : insD C ns x S1 with
    | bad => rw [e2] at mm; exact mm.elim
    | exc c S2 => exact absurd e2 insD_ne
    | ok p S2 =>
      rw [e2] at mm
      obtain ⟨n, ds⟩ := p
      obtain ⟨rfl, rfl, hc⟩ := insD_ok e2
      obtain ⟨a, rfl, hn⟩ := rv1.ob_
      cases r1
      obtain ⟨dx, ws, hv, hns, rds⟩ := rs1.at_ n _ a hc hn
      refine getmeth_ok I1 hv c hM (lookup_no (hns ▸ hm)) ?_
      exact PySem.W.callWith_K0 (first := [.ref a]) I1.kIn hM.kp (run_fnD (us := [.ref a]) (vs := [.ref a]) (xs := [.ob n]) hF hr hb hx I1 rs1 (.one rv1) (.cons rfl .nil) hl mm)
structure CalI (P : Program) (w : World) (K : PySem.W.Frag) (mg : Str → Option Value) (base : Heap) (CX : CXT) (x : Str) (C : Addr) (k : Nat) (ps : List Str) (F : List D → M D) : Prop where
  ex : ∃ f fd, mg x = some (.ref C) ∧ Mk K C f ∧ Binds K fd ps [] ∧ FnD P w K mg base CX k f fd ps F
def makeD (C : Addr) (F : List D → M D) (xs : List D) : M D := fun S => match F (.ob S.length :: xs) (S ++ [.ins C [] []]) with
  | .ok .non S' => .ok (.ob S.length) S'
  | _ => .bad
theorem run_makeD {CX : CXT} {k : Nat} {fI : Addr} {fd : FuncData} {ps : List Str} {F : List D → M D} {pins : Pins} {σ : L2.St} {H : Hp} {J : List Addr} {S : List Cell} {s : Shared} {Q E : Value → Shared → Prop} {xs : List D} {vs : List V} {us : List Value}
    (hM : Mk X.K C fI) (hF : FnD X.prog X.w X.K X.mg X.base CX k fI fd ps F) (hr : Room (k + 1) X.A) (hb : Binds X.K fd ps []) (hx : PassD CX X) (I : Inv X pins σ H s) (rs : RepS X.K H J S) (rx : RepVs X.K H J xs vs) (rv : Vals vs us) (hl : xs.length + 1 = ps.length)
    (m : Mt X pins σ H J (makeD C F xs S) Q E) : wpAny (model X.prog X.w) X.A (call (.ref C) us) Q E s := by
  have hf0 : H s.heap.objs.size = none := I.hok.fresh (Nat.le_refl _)
  have hf1 : H (s.heap.objs.size + 1) = none := I.hok.fresh (Nat.le_succ _)
  have ne : s.heap.objs.size + 1 ≠ s.heap.objs.size := Nat.succ_ne_self _
  have I2 := Inv.made (C := C) I
  have hf1' : upd H s.heap.objs.size (.own (s.heap.objs.size + 1)) (s.heap.objs.size + 1) = none := by rw [upd_ne ne]; exact hf1
  have x1 : Ext H J (upd H s.heap.objs.size (.own (s.heap.objs.size + 1))) J := Ext.new hf0
  have x2 : Ext (upd H s.heap.objs.size (.own (s.heap.objs.size + 1))) J (upd (upd H s.heap.objs.size (.own (s.heap.objs.size + 1))) (s.heap.objs.size + 1) (.ins C s.heap.objs.size [])) (J ++ [s.heap.objs.size + 1]) := (Ext.new hf1').snoc _
  have x12 := x1.trans x2
  have rs2 : RepS X.K (upd (upd H s.heap.objs.size (.own (s.heap.objs.size + 1))) (s.heap.objs.size + 1) (.ins C s.heap.objs.size [])) (J ++ [s.heap.objs.size + 1]) (S ++ [.ins C [] []]) :=
    (rs.new hf0).push hf1' ⟨s.heap.objs.size, [], upd_same, rfl, .nil⟩
  have ro : RepV X.K (upd (upd H s.heap.objs.size (.own (s.heap.objs.size + 1))) (s.heap.objs.size + 1) (.ins C s.heap.objs.size [])) (J ++ [s.heap.objs.size + 1]) (.ob S.length) (.ref (s.heap.objs.size + 1)) := .ob (by rw [← rs.len]; simp)
  have rx2 : RepVs X.K (upd (upd H s.heap.objs.size (.own (s.heap.objs.size + 1))) (s.heap.objs.size + 1) (.ins C s.heap.objs.size [])) (J ++ [s.heap.objs.size + 1]) (.ob S.length :: xs) (.ref (s.heap.objs.size + 1) :: vs) := .cons ro (rx.ext x12)
  have rv2 : Vals (V.ref (s.heap.objs.size + 1) :: vs) (Value.ref (s.heap.objs.size + 1) :: us) := .cons rfl rv
  have hlen : (Value.ref (s.heap.objs.size + 1) :: us ++ []).length = ps.length := by
    rw [List.append_nil, ← rv2.length, rx2.length]
    exact hl
  have hbs := hb _ (Value.ref (s.heap.objs.size + 1) :: us) I2.kIn hlen
  rw [List.append_nil] at hbs
  unfold makeD at m
  cases e : F (.ob S.length :: xs) (S ++ [.ins C [] []]) with
  | bad => rw [e] at m; exact m.elim
  | exc c S' => rw [e] at m; exact m.elim
  | ok d S' =>
    rw [e] at m
    cases d with
    | non =>
      dsimp only at m
      refine wpAny_call (make_map (f := fI) I.kIn hM.makes hM.init (beq_iff_eq.mp hM.fn) (codeAny_mono (hF.run _ X.stack _ _ ⟨Value.ref (s.heap.objs.size + 1) :: us, []⟩ (Value.ref (s.heap.objs.size + 1) :: us) _
        (fun v H' => Got X.K (upd (upd H s.heap.objs.size (.own (s.heap.objs.size + 1))) (s.heap.objs.size + 1) (.ins C s.heap.objs.size [])) (J ++ [s.heap.objs.size + 1]) .non S' v H') (fun _ _ _ => False) (hr.make C us []) (I2.env0.make C us []) hbs rv2 ?_) fun rr s' hq => ?_))
      · refine ⟨by rw [rx2.length]; exact hl, J ++ [s.heap.objs.size + 1], _, _, rx2, rs2, ?_⟩
        rw [e]
        exact fun v H' g => g
      · cases rr with
        | error er =>
          obtain ⟨c, H', XI, z⟩ := hx _ pins σ _ _ er s' I2 hq
          exact z.elim
        | ok fl =>
          cases fl with
          | ret u =>
            obtain ⟨v, H', I3, rv3, J3, x3, rs3, rv4⟩ := I2.after hq
            cases rv4.non_
            exact ⟨rv3, m _ s' ⟨V.ref (s.heap.objs.size + 1), H', I3, rfl, J3, x12.trans x3, rs3, ro.ext x3⟩⟩
          | next => exact False.elim hq
          | brk => exact False.elim hq
          | cont => exact False.elim hq
    | _ => exact m.elim
theorem pd_make {CX : CXT} {k : Nat} {ps : List Str} {F : List D → M D} {x : Str} {p : Pos} (h : CalI X.prog X.w X.K X.mg X.base CX x C k ps F) (hr : Room (k + 1) X.A) (hg : Gl X x) (hx : PassD CX X) (ha : PAd X (e :: es) ft)
    (hl : ∀ r S xs S', ft r S = .ok xs S' → xs.length + 1 = ps.length)
    (hdb : (x == ("__debug__" : Str)) = false := by decide) (he : starEach (e :: es) X.env = (false, eval e X.env) :: starEach es X.env := by rfl) (hpl : (backTo pos (starEach es X.env)).any (·.1) = false := by rfl) :
    PEd X (.Call (.Name x p) (e :: es) [] pos) (dCall (makeD C F) ft) := by
  obtain ⟨f, fd, hm, hM, hb, hF⟩ := h.ex
  intro pins s σ H J r S Q E I m
  refine wpAny_Call_Name_kw (ld_glob I.inv hg hm ?_ hdb)
  refine PySem.W.callWith_K (h₀ := X.base) I.inv.ok.mod.kin hM.kp ?_ he hpl
  refine ha pos pins s σ H J r S _ E I ?_
  unfold dCall M.bind at m
  cases e1 : ft r S with
  | bad => rw [e1] at m; exact m
  | exc c S1 => rw [e1] at m; exact m
  | ok xs S1 =>
    rw [e1] at m
    intro us s1 ⟨vs, H1, I1, r1, J1, ex1, rs1, rv1⟩
    exact ⟨I1.kIn, run_makeD hM hF hr hb hx I1 rs1 rv1 r1 (hl r S xs S1 e1) (Mt.ext ex1 m)⟩
end
end DL
namespace L2
open PySem PySem.Spec PyProof.Rows
section
variable {κ : Type} [DecidableEq κ]
def valV (kvs : List (κ × V)) (k : κ) : Option V := (kvs.find? fun kv => decide (kv.1 = k)).map (·.2)
def putK (kvs : List (κ × V)) (k : κ) (v : V) : List (κ × V) :=
  if (kvs.any fun kv => decide (kv.1 = k)) = true then kvs.map (fun kv => if kv.1 = k then (kv.1, v) else kv) else kvs ++ [(k, v)]
def dropK (kvs : List (κ × V)) (k : κ) : List (κ × V) := kvs.filter fun kv => decide (kv.1 ≠ k)
theorem valV_pos {p : κ × V} {r : List (κ × V)} {k : κ} (e : p.1 = k) : valV (p :: r) k = some p.2 := by simp [valV, List.find?_cons, e]
theorem valV_neg {p : κ × V} {r : List (κ × V)} {k : κ} (e : ¬ p.1 = k) : valV (p :: r) k = valV r k := by simp [valV, List.find?_cons, e]
theorem valV_any (k : κ) : ∀ kvs : List (κ × V), (kvs.any fun kv => decide (kv.1 = k)) = (valV kvs k).isSome
  | [] => rfl
  | p :: r => by
    rw [List.any_cons]
    by_cases e : p.1 = k
    · simp only [valV_pos e, decide_eq_true e, Bool.true_or, Option.isSome_some]
    · rw [valV_neg e, decide_eq_false e, Bool.false_or]; exact valV_any k r
theorem length_putK (kvs : List (κ × V)) (k : κ) (v : V) : (putK kvs k v).length ≤ kvs.length + 1 := by
  unfold putK
  split
  · rw [List.length_map]; omega
  · rw [List.length_append, List.length_cons, List.length_nil]; omega
theorem RelO.isSome_eq {o : Option V} {u : Option Value} (r : RelO o u) : o.isSome = u.isSome := by
  cases o with
  | none => cases u with
    | none => rfl
    | some _ => exact (show False from r).elim
  | some _ => cases u with
    | none => exact (show False from r).elim
    | some _ => rfl
theorem RelO.getD {o : Option V} {u : Option Value} {d : V} {d' : Value} (r : RelO o u) (rd : RelV d d') : RelV (o.getD d) (u.getD d') := by
  cases o with
  | none => cases u with
    | none => exact rd
    | some _ => exact (show False from r).elim
  | some _ => cases u with
    | none => exact (show False from r).elim
    | some _ => exact r
theorem KV.val {kvs : List (κ × V)} {vs : List (κ × Value)} (r : KV kvs vs) (k : κ) : RelO (valV kvs k) (valueAt vs k) := by
  unfold KV at r
  induction r with
  | nil => exact True.intro
  | @cons p q ps qs h t ih =>
    obtain ⟨h1, h2⟩ := h
    by_cases e : p.1 = k
    · have e' : q.1 = k := h1.symm.trans e
      have b : valueAt (q :: qs) k = some q.2 := by simp [valueAt, List.find?_cons, e']
      rw [valV_pos e, b]; exact h2
    · have e' : ¬ q.1 = k := fun z => e (h1.trans z)
      have b : valueAt (q :: qs) k = valueAt qs k := by simp [valueAt, List.find?_cons, e']
      rw [valV_neg e, b]; exact ih
theorem KV.any {kvs : List (κ × V)} {vs : List (κ × Value)} (r : KV kvs vs) (k : κ) : (kvs.any fun kv => decide (kv.1 = k)) = vs.any fun kv => decide (kv.1 = k) := by
  unfold KV at r
  induction r with
  | nil => rfl
  | cons h t ih => rw [List.any_cons, List.any_cons, ih, h.1]
theorem KV.repl {kvs : List (κ × V)} {vs : List (κ × Value)} (r : KV kvs vs) (k : κ) {y : V} {u : Value} (ry : RelV y u) :
    KV (kvs.map fun kv => if kv.1 = k then (kv.1, y) else kv) (vs.map fun kv => if kv.1 = k then (kv.1, u) else kv) := by
  unfold KV at r ⊢
  induction r with
  | nil => exact .nil
  | @cons p q ps qs h t ih =>
    rw [List.map_cons, List.map_cons]
    refine .cons ?_ ih
    obtain ⟨h1, h2⟩ := h
    by_cases e : p.1 = k
    · rw [if_pos e, if_pos (h1.symm.trans e)]; exact ⟨h1, ry⟩
    · rw [if_neg e, if_neg (fun z => e (h1.trans z))]; exact ⟨h1, h2⟩
theorem KV.put {kvs : List (κ × V)} {vs : List (κ × Value)} (r : KV kvs vs) (k : κ) {y : V} {u : Value} (ry : RelV y u) : KV (putK kvs k y) (stored vs k u) := by
  unfold putK stored
  rw [r.any k]
  by_cases e : (vs.any fun kv => decide (kv.1 = k)) = true
  · rw [if_pos e, if_pos e]; exact r.repl k ry
  · rw [if_neg e, if_neg e]; exact Paired.snoc r ⟨rfl, ry⟩
theorem KV.drop {kvs : List (κ × V)} {vs : List (κ × Value)} (r : KV kvs vs) (k : κ) : KV (dropK kvs k) (without vs k) := by
  unfold KV at r ⊢
  unfold dropK without
  induction r with
  | nil => exact .nil
  | @cons p q ps qs h t ih =>
    obtain ⟨h1, h2⟩ := h
    rw [List.filter_cons, List.filter_cons]
    by_cases e : p.1 = k
    · have a : ¬ decide (p.1 ≠ k) = true := by simp [e]
      have b : ¬ decide (q.1 ≠ k) = true := by simp [h1.symm.trans e]
      rw [if_neg a, if_neg b]; exact ih
    · have e' : ¬ q.1 = k := fun z => e (h1.trans z)
      have a : decide (p.1 ≠ k) = true := by simp [e]
      have b : decide (q.1 ≠ k) = true := by simp [e']
      rw [if_pos a, if_pos b]; exact .cons ⟨h1, h2⟩ ih
theorem KV.length {kvs : List (κ × V)} {vs : List (κ × Value)} (r : KV kvs vs) : kvs.length = vs.length := Paired.length r
end
theorem kV_is {P : Program} {w : World} {k : Key} {u : Value} (r : RelV (kV k) u) : (mixKind P w).is k u = true := by
  cases k with
  | inl i => obtain ⟨t, e⟩ := (show ∃ t, u = Value.int i t from r); subst e; exact mixKind_int P w i t
  | inr x => obtain ⟨t, e⟩ := (show ∃ t, u = Value.str x t from r); subst e; exact mixKind_str P w x t
theorem items_are {P : Program} {w : World} : ∀ {ks : List Key} {us : List Value}, Vals (ks.map kV) us → ItemsAre (mixKind P w) ks us
  | [], _, r => by rw [List.map_nil] at r; cases r; exact .nil
  | k :: ks, _, r => by
    rw [List.map_cons] at r
    cases r with
    | cons h t => exact .cons (kV_is h) (items_are t)
abbrev KT (H : Hp) : List (List Key × V) → List (List Key × Addr × Value) → Prop := Paired fun p q => p.1 = q.1 ∧ H q.2.1 = some (.tup (p.1.map kV)) ∧ RelV p.2 q.2.2
theorem KT.val {H : Hp} {kvs : List (List Key × V)} {xs : List (List Key × Addr × Value)} (r : KT H kvs xs) (k : List Key) : RelO (valV kvs k) ((atKey xs k).map (·.2)) := by
  induction r with
  | nil => exact True.intro
  | @cons p q ps qs h t ih =>
    obtain ⟨h1, _, h2⟩ := h
    by_cases e : p.1 = k
    · have e' : q.1 = k := h1.symm.trans e
      have b : atKey (q :: qs) k = some q.2 := by simp [atKey, List.find?_cons, e']
      rw [valV_pos e, b]; exact h2
    · have e' : ¬ q.1 = k := fun z => e (h1.trans z)
      have b : atKey (q :: qs) k = atKey qs k := by simp [atKey, List.find?_cons, e']
      rw [valV_neg e, b]; exact ih
theorem KT.repl {H : Hp} {kvs : List (List Key × V)} {xs : List (List Key × Addr × Value)} (r : KT H kvs xs) (k : List Key) {y : V} {u : Value} (ry : RelV y u) :
    KT H (kvs.map fun kv => if kv.1 = k then (kv.1, y) else kv) (xs.map (putAt k u)) := by
  induction r with
  | nil => exact .nil
  | @cons p q ps qs h t ih =>
    rw [List.map_cons, List.map_cons]
    refine .cons ?_ ih
    obtain ⟨h1, h2, h3⟩ := h
    unfold putAt
    by_cases e : p.1 = k
    · rw [if_pos e, if_pos (h1.symm.trans e)]; exact ⟨h1, h2, ry⟩
    · rw [if_neg e, if_neg (fun z => e (h1.trans z))]; exact ⟨h1, h2, h3⟩
theorem KT.put {H : Hp} {kvs : List (List Key × V)} {xs : List (List Key × Addr × Value)} (r : KT H kvs xs) (k : List Key) {b : Addr} {y : V} {u : Value} (hb : H b = some (.tup (k.map kV))) (ry : RelV y u) :
    KT H (putK kvs k y) (storedH xs k b u) := by
  have e : (kvs.any fun kv => decide (kv.1 = k)) = (atKey xs k).isSome := by
    rw [valV_any, (r.val k).isSome_eq, Option.isSome_map]
  unfold putK storedH
  rw [e]
  by_cases q : (atKey xs k).isSome = true
  · rw [if_pos q, if_pos q]; exact r.repl k ry
  · rw [if_neg q, if_neg q]; exact Paired.snoc r ⟨rfl, hb, ry⟩
theorem KT.keeps {H H' : Hp} {kvs : List (List Key × V)} {xs : List (List Key × Addr × Value)} (r : KT H kvs xs) (ht : ∀ b ys, H b = some (.tup ys) → H' b = some (.tup ys)) : KT H' kvs xs :=
  Paired.mapP r fun _ _ z => ⟨z.1, ht _ _ z.2.1, z.2.2⟩
section
variable {P : Program} {w : World} {H : Hp} {h : Heap} {a : Addr}
theorem rd_of {u : HO} (ok : HOk P w H h) (e : Rd H a u) : ObjOk P w H h a u := e.ok ok
theorem dk_rd {kvs : List (Key × V)} (ok : HOk P w H h) (e : Rd H a (.dK kvs)) : kvs.length ≤ sizeLine ∧ (a == sysModules) = false ∧ ∃ vs, KV kvs vs ∧ h.DictOf (mixKind P w) a vs :=
  show ObjOk P w H h a (.dK kvs) from rd_of ok e
theorem dk_of {kvs : List (Key × V)} (ok : HOk P w H h) (e : H a = some (.dK kvs)) : kvs.length ≤ sizeLine ∧ (a == sysModules) = false ∧ ∃ vs, KV kvs vs ∧ h.DictOf (mixKind P w) a vs := dk_rd ok (.inl e)
theorem key_of {ks : List Key} (ok : HOk P w H h) (e : H a = some (.tup (ks.map kV))) : (tupleKind (mixKind P w)).is h ks a := by
  obtain ⟨_, its, r, o, h1, h2, n, h3⟩ := (show ObjOk P w H h a (.tup (ks.map kV)) from ok a _ e)
  exact ⟨o, its.toArray, n, h1, h2, h3, by simpa using items_are r⟩
theorem dt_rd {kvs : List (List Key × V)} (ok : HOk P w H h) (e : Rd H a (.dT kvs)) : kvs.length ≤ sizeLine ∧ (a == sysModules) = false ∧
    ∃ xs, KT H kvs xs ∧ h.DictOfH (tupleKind (mixKind P w)) a xs := by
  obtain ⟨z, y, xs, r, o, es, ep, h1, h2, h3, h4, h5⟩ := (show ObjOk P w H h a (.dT kvs) from rd_of ok e)
  refine ⟨z, y, xs, r, o, es, ep, h1, h2, h3, h4, fun x hx => ?_, h5⟩
  have all : ∀ {l : List (List Key × V)} {m : List (List Key × Addr × Value)}, KT H l m → ∀ x ∈ m, (tupleKind (mixKind P w)).is h x.1 x.2.1 := by
    intro l m q
    induction q with
    | nil => intro x hx; exact nomatch hx
    | @cons p q ps qs hq t ih =>
      intro x hx
      rcases List.mem_cons.mp hx with e | hx
      · subst e
        exact key_of ok (by rw [← hq.1]; exact hq.2.1)
      · exact ih x hx
  exact all r x hx
theorem dt_of {kvs : List (List Key × V)} (ok : HOk P w H h) (e : H a = some (.dT kvs)) : kvs.length ≤ sizeLine ∧ (a == sysModules) = false ∧
    ∃ xs, KT H kvs xs ∧ h.DictOfH (tupleKind (mixKind P w)) a xs := dt_rd ok (.inl e)
end
def DGet (H : Hp) (a : Addr) (y : V) (r : Option V) : Prop :=
  (∃ kvs k, Rd H a (.dK kvs) ∧ y = kV k ∧ r = valV kvs k) ∨ ∃ kvs k b, Rd H a (.dT kvs) ∧ y = .ref b ∧ H b = some (.tup (k.map kV)) ∧ r = valV kvs k
def DPut (H : Hp) (a : Addr) (y v : V) (H' : Hp) : Prop :=
  (∃ kvs k, H a = some (.dK kvs) ∧ y = kV k ∧ kvs.length < sizeLine ∧ H' = upd H a (.dK (putK kvs k v))) ∨
  ∃ kvs k b, H a = some (.dT kvs) ∧ y = .ref b ∧ H b = some (.tup (k.map kV)) ∧ kvs.length < sizeLine ∧ H' = upd H a (.dT (putK kvs k v))
theorem DGet.k {H : Hp} {a : Addr} {kvs : List (Key × V)} {k : Key} (e : H a = some (.dK kvs)) : DGet H a (kV k) (valV kvs k) := .inl ⟨kvs, k, .inl e, rfl, rfl⟩
theorem DGet.t {H : Hp} {a b : Addr} {kvs : List (List Key × V)} {k : List Key} (e : H a = some (.dT kvs)) (eb : H b = some (.tup (k.map kV))) : DGet H a (.ref b) (valV kvs k) := .inr ⟨kvs, k, b, .inl e, rfl, eb, rfl⟩
theorem DPut.k {H : Hp} {a : Addr} {kvs : List (Key × V)} {k : Key} {v : V} (e : H a = some (.dK kvs)) (hl : kvs.length < sizeLine) : DPut H a (kV k) v (upd H a (.dK (putK kvs k v))) := .inl ⟨kvs, k, e, rfl, hl, rfl⟩
theorem DPut.t {H : Hp} {a b : Addr} {kvs : List (List Key × V)} {k : List Key} {v : V} (e : H a = some (.dT kvs)) (eb : H b = some (.tup (k.map kV))) (hl : kvs.length < sizeLine) :
    DPut H a (.ref b) v (upd H a (.dT (putK kvs k v))) := .inr ⟨kvs, k, b, e, rfl, eb, hl, rfl⟩
section
variable {X : Cx} {pins : List (Addr × Obj)} {σ : St} {H : Hp} {s : Shared} {a : Addr} {y v : V} {u r : Value} {o : Option V} {A : Around} {E : Value → Shared → Prop}
theorem Inv.big (I : Inv X pins σ H s) : sysModules < s.heap.objs.size := by
  have h : mainGlobals < s.heap.objs.size := (I.mod.glob.keeps I.bk).lt
  exact Nat.lt_trans (by decide) h
theorem d_notIn {Q : Value → Shared → Prop} (hu : A.units + 1 < cLine) (I : Inv X pins σ H s) (g : DGet H a y o) (ry : RelV y u) (h : ∀ s', Inv X pins σ H s' → Q (.bool (!o.isSome)) s') :
    wpAny (model X.prog X.w) A (compareOp .NotIn u (.ref a)) Q E s := by
  rcases g with ⟨kvs, k, e, ey, l⟩ | ⟨kvs, k, b, e, ey, eb, l⟩
  · subst ey
    obtain ⟨z, hd, vs, rel, dd⟩ := dk_rd I.hok e
    refine wpAny_notIn_of (kV_is ry) hd dd.mapOf ?_
    rw [← (rel.val k).isSome_eq, ← l]
    exact h _ (I.tok _)
  · subst ey
    cases (show u = Value.ref b from ry)
    obtain ⟨z, hd, xs, rel, dd⟩ := dt_rd I.hok e
    refine wpAny_notIn_heap (tupleKind_room_in1 hu) (key_of I.hok eb) hd dd ?_
    have q := (rel.val k).isSome_eq
    rw [Option.isSome_map] at q
    rw [← q, ← l]
    exact h _ (I.tok _)
theorem d_write {h' : Heap} {t' : Nat} {ob : HO} (I : Inv X pins σ H s) (mu : Mut (H a)) (hs : Heap.SameBut a s.heap h') (he : ∃ q, h'.get? a = some q) (new : ObjOk X.prog X.w (upd H a ob) h' a ob) :
    Inv X pins σ (upd H a ob) { s with heap := h', toks := t' } :=
  I.write (x := a) (e := a) mu (.inl rfl) (fun b q hb z => (hs.2 b hb).trans z) he new
theorem dk_new {P : Program} {w : World} {H' : Hp} {h' : Heap} {kvs : List (Key × V)} {vs : List (Key × Value)} (z : kvs.length ≤ sizeLine) (hd : (a == sysModules) = false) (rel : KV kvs vs) (dd : h'.DictOf (mixKind P w) a vs) :
    ObjOk P w H' h' a (.dK kvs) := ⟨z, hd, vs, rel, dd⟩
theorem d_setItem {H' : Hp} {Q : Unit → Shared → Prop} (hu : A.units + 1 < cLine) (I : Inv X pins σ H s) (g : DPut H a y v H') (ry : RelV y u) (rv : RelV v r) (h : ∀ s', Inv X pins σ H' s' → Q () s') :
    wpAny (model X.prog X.w) A (setItem (.ref a) u r) Q E s := by
  rcases g with ⟨kvs, k, e, ey, l, eH⟩ | ⟨kvs, k, b, e, ey, eb, l, eH⟩
  · subst ey eH
    obtain ⟨z, hd, vs, rel, dd⟩ := dk_of I.hok e
    have hz : vs.length ≤ sizeLine := by rw [← rel.length]; exact z
    have hl : (putK kvs k v).length ≤ sizeLine := by have := length_putK kvs k v; omega
    refine wpAny_setItem_pairs (hsz := hz) (kV_is ry) dd fun h' dd' hs => h _ ?_
    have he : ∃ q, h'.get? a = some q := let ⟨q, _, _, hq, _⟩ := dd'; ⟨q, hq⟩
    exact d_write I (by rw [e]; exact True.intro) hs he (dk_new hl hd (rel.put k rv) dd')
  · subst ey eH
    cases (show u = Value.ref b from ry)
    obtain ⟨z, hd, xs, rel, dd⟩ := dt_of I.hok e
    have hz : xs.length ≤ sizeLine := by rw [← Paired.length rel]; exact z
    have hl : (putK kvs k v).length ≤ sizeLine := by have := length_putK kvs k v; omega
    refine wpAny_setItem_heap (hsz := hz) (tupleKind_room_in1 hu) (key_of I.hok eb) dd fun h' dd' hs => h _ ?_
    obtain ⟨q, es, ep, hq, h2, h3, h4, _, h5⟩ := dd'
    refine d_write I (by rw [e]; exact True.intro) hs ⟨q, hq⟩ ⟨hl, hd, _, (rel.put k eb rv).keeps fun c ys ec => ?_, q, es, ep, hq, h2, h3, h4, h5⟩
    rw [upd_ne (ne_of ec e (fun z => nomatch z))]
    exact ec
end
section
variable {X : Cx} {pins : List (Addr × Obj)} {σ : St} {H : Hp} {s : Shared} {a : Addr} {kvs : List (Key × V)} {k : Key} {u : Value} {A : Around} {E : Value → Shared → Prop}
end
section
variable {X : Cx} {o i e value : Expr} {pos pos' tpos : Pos} {td ty tv : TE}
end
theorem dk_empty {P : Program} {w : World} {H : Hp} (h : Heap) (hb : sysModules < h.objs.size) : ObjOk P w H (h.push { cls := .type "dict", data := .dict #[] }) h.objs.size (.dK []) :=
  ⟨Nat.zero_le _, beq_eq_false_iff_ne.mpr (Ne.symm (Nat.ne_of_lt hb)), [], .nil, Heap.DictOf.new h⟩
def tDNewK : TE := fun _ H Q => ∀ p, H p = none → Q (.ref p) (upd H p (.dK []))
section
variable {X : Cx} {pos : Pos}
theorem pe_dnewK : PE X (.Dict [] [] pos) tDNewK := fun pins s σ H Q I h =>
  wpAny_Dict_empty ⟨.ref s.heap.objs.size, _, I.laid (a := s.heap.objs.size) (o := .dK []) (t' := s.toks) (fun _ _ q => Heap.get?_push_of_some _ q) (Nat.le_refl _) (dk_empty s.heap I.big), rfl, h _ (I.hok.fresh (Nat.le_refl _))⟩
end
abbrev VV : List (V × V) → List (Value × Value) → Prop := Paired fun p q => RelV p.1 q.1 ∧ RelV p.2 q.2
structure M1 (X : Cx) (o : Expr) (m : Str) (apos : Pos) (e : Expr) (cpos : Pos) : Prop where
  base : attributeBase o m X.env (eval o X.env) = eval o X.env
  few : ((backTo cpos (starEach [e] X.env)).all (fun x => !x.1) && (backToKw cpos (keywordEach [] X.env)).all (fun x => x.1.isSome)
    && decide (([e] : List Expr).length + ([] : List Keyword).length + (if ([] : List Keyword).isEmpty then 0 else 1) < 30)) = true
  line : (apos.endLine == cpos.line) = true
  trees : backTo cpos (starEach [e] X.env) = [(false, eval e X.env)]
structure M2 (X : Cx) (o : Expr) (m : Str) (apos : Pos) (e f : Expr) (cpos : Pos) : Prop where
  base : attributeBase o m X.env (eval o X.env) = eval o X.env
  few : ((backTo cpos (starEach [e, f] X.env)).all (fun x => !x.1) && (backToKw cpos (keywordEach [] X.env)).all (fun x => x.1.isSome)
    && decide (([e, f] : List Expr).length + ([] : List Keyword).length + (if ([] : List Keyword).isEmpty then 0 else 1) < 30)) = true
  line : (apos.endLine == cpos.line) = true
  trees : backTo cpos (starEach [e, f] X.env) = [(false, eval e X.env), (false, eval f X.env)]
section
variable {X : Cx} {pins : List (Addr × Obj)} {σ : St} {H : Hp} {s : Shared} {a : Addr} {y d : V} {u r : Value} {o : Option V} {A : Around} {E : Value → Shared → Prop}
end
section
variable {X : Cx} {o e f : Expr} {apos cpos : Pos} {td ty tx : TE}
end
end L2
namespace DL
open PySem PySem.Spec PyProof.Rows L2
def valD (kvs : List (Key × D)) (k : Key) : Option D := (kvs.find? fun kv => decide (kv.1 = k)).map (·.2)
def putD (kvs : List (Key × D)) (k : Key) (d : D) : List (Key × D) :=
  if (kvs.any fun kv => decide (kv.1 = k)) = true then kvs.map (fun kv => if kv.1 = k then (kv.1, d) else kv) else kvs ++ [(k, d)]
section
variable {K : PySem.W.Frag} {H : Hp} {J : List Addr}
theorem RepPs.val : ∀ {kvs : List (Key × D)} {ws : List (Key × V)} (k : Key), RepPs K H J kvs ws → (∀ d, valD kvs k = some d → ∃ v, valV ws k = some v ∧ RepV K H J d v) ∧ (valD kvs k = none → valV ws k = none)
  | [], _, k, h => by
    have h' : _ = [] := h
    subst h'
    exact ⟨fun d e => (by cases e), fun _ => rfl⟩
  | (k0, d0) :: r, ws, k, h => by
    obtain ⟨v, t, rfl, h2, h3⟩ := h
    by_cases e : k0 = k
    · have e1 : valD ((k0, d0) :: r) k = some d0 := by simp [valD, List.find?_cons, e]
      have e2 : valV ((k0, v) :: t) k = some v := valV_pos e
      rw [e1, e2]
      exact ⟨fun d q => ⟨v, rfl, by cases q; exact h2⟩, fun q => (by cases q)⟩
    · have e1 : valD ((k0, d0) :: r) k = valD r k := by simp [valD, List.find?_cons, e]
      have e2 : valV ((k0, v) :: t) k = valV t k := valV_neg e
      rw [e1, e2]
      exact RepPs.val k h3
theorem RepPs.anyk : ∀ {kvs : List (Key × D)} {ws : List (Key × V)} (k : Key), RepPs K H J kvs ws → (kvs.any fun kv => decide (kv.1 = k)) = ws.any fun kv => decide (kv.1 = k)
  | [], _, k, h => by
    have h' : _ = [] := h
    subst h'
    rfl
  | (k0, d0) :: r, ws, k, h => by
    obtain ⟨v, t, rfl, h2, h3⟩ := h
    rw [List.any_cons, List.any_cons, RepPs.anyk k h3]
theorem RepPs.mapk {d : D} {v : V} (hd : RepV K H J d v) : ∀ {kvs : List (Key × D)} {ws : List (Key × V)} (k : Key), RepPs K H J kvs ws →
    RepPs K H J (kvs.map fun kv => if kv.1 = k then (kv.1, d) else kv) (ws.map fun kv => if kv.1 = k then (kv.1, v) else kv)
  | [], _, k, h => by
    have h' : _ = [] := h
    subst h'
    exact h
  | (k0, d0) :: r, ws, k, h => by
    obtain ⟨v0, t, rfl, h2, h3⟩ := h
    rw [List.map_cons, List.map_cons]
    by_cases e : k0 = k
    · rw [if_pos e, if_pos e]
      exact ⟨v, _, rfl, hd, RepPs.mapk hd k h3⟩
    · rw [if_neg e, if_neg e]
      exact ⟨v0, _, rfl, h2, RepPs.mapk hd k h3⟩
theorem RepPs.snoc {d : D} {v : V} (hd : RepV K H J d v) : ∀ {kvs : List (Key × D)} {ws : List (Key × V)} (k : Key), RepPs K H J kvs ws → RepPs K H J (kvs ++ [(k, d)]) (ws ++ [(k, v)])
  | [], _, k, h => by
    have h' : _ = [] := h
    subst h'
    exact ⟨v, [], rfl, hd, rfl⟩
  | (k0, d0) :: r, ws, k, h => by
    obtain ⟨v0, t, rfl, h2, h3⟩ := h
    exact ⟨v0, _, rfl, h2, RepPs.snoc hd k h3⟩
theorem RepPs.put {d : D} {v : V} (hd : RepV K H J d v) {kvs : List (Key × D)} {ws : List (Key × V)} (k : Key) (h : RepPs K H J kvs ws) : RepPs K H J (putD kvs k d) (putK ws k v) := by
  unfold putD putK
  rw [h.anyk k]
  by_cases e : (ws.any fun kv => decide (kv.1 = k)) = true
  · rw [if_pos e, if_pos e]; exact h.mapk hd k
  · rw [if_neg e, if_neg e]; exact h.snoc hd k
end
def keyD : D → Option Key
  | .int i => some (.inl i)
  | .str x => some (.inr x)
  | _ => none
theorem keyD_rep {K : PySem.W.Frag} {H : Hp} {J : List Addr} {x : D} {k : Key} {v : V} (h : keyD x = some k) (r : RepV K H J x v) : v = kV k := by
  cases x with
  | int i => cases h; cases r.int_; rfl
  | str i => cases h; cases r.str_; rfl
  | _ => cases h
def dicAt (S : List Cell) (n : Nat) : Option (List (Key × D)) := match S[n]? with
  | some (.dic kvs) => some kvs
  | _ => none
theorem dicAt_cell {S : List Cell} {n : Nat} {kvs : List (Key × D)} (h : dicAt S n = some kvs) : S[n]? = some (.dic kvs) := by
  unfold dicAt at h
  split at h
  · rename_i e
    cases h
    exact e
  · cases h
theorem dicAt_of {S : List Cell} {n : Nat} {kvs : List (Key × D)} (h : S[n]? = some (.dic kvs)) : dicAt S n = some kvs := by unfold dicAt; rw [h]
theorem RepS.dic {K : PySem.W.Frag} {H : Hp} {J : List Addr} {S : List Cell} {n : Nat} {kvs : List (Key × D)} {a : Addr} (rs : RepS K H J S) (h : dicAt S n = some kvs) (hn : J[n]? = some a) : ∃ ws, H a = some (.dK ws) ∧ RepPs K H J kvs ws := rs.at_ n _ a (dicAt_cell h) hn
section
variable {X : Cx} {a b o e : Expr} {es : List Expr} {fa fb fo fi fe : DSt → M D} {ft : DSt → M (List D)} {pos : Pos}
def dnotinD (x y : D) : M D := fun S => match keyD x, y with
  | some k, .ob n => (match dicAt S n with
    | some kvs => .ok (.bl (!(valD kvs k).isSome)) S
    | none => .bad)
  | _, _ => .bad
theorem dGet_of {K : PySem.W.Frag} {H : Hp} {J : List Addr} {S : List Cell} {n : Nat} {kvs : List (Key × D)} {ad : Addr} (rs : RepS K H J S) (h : dicAt S n = some kvs) (hn : J[n]? = some ad) (k : Key) :
    (∀ d, valD kvs k = some d → ∃ v, DGet H ad (kV k) (some v) ∧ RepV K H J d v) ∧ ∃ ov, DGet H ad (kV k) ov ∧ ov.isSome = (valD kvs k).isSome := by
  obtain ⟨ws, hv, rp⟩ := rs.dic h hn
  obtain ⟨h1, h2⟩ := rp.val k
  refine ⟨fun d e => ?_, valV ws k, DGet.k hv, ?_⟩
  · obtain ⟨v, e1, e2⟩ := h1 d e
    exact ⟨v, by rw [← e1]; exact DGet.k hv, e2⟩
  · cases e : valD kvs k with
    | none => rw [h2 e]; rfl
    | some d => obtain ⟨v, e1, _⟩ := h1 d e; rw [e1]; rfl
theorem od_dnotin (hu : X.A.units + 64 < cLine) : OpD X (compareOp .NotIn) dnotinD := by
  intro pins s σ H J S x y vx vy v u Q E I rs rx ry rv ru m
  unfold dnotinD at m
  cases ek : keyD x with
  | none => rw [ek] at m; exact m.elim
  | some k =>
    rw [ek] at m
    cases y with
    | ob n =>
      dsimp only at m
      obtain ⟨ad, rfl, hn⟩ := ry.ob_
      cases ru
      cases ed : dicAt S n with
      | none => rw [ed] at m; exact m.elim
      | some kvs =>
        rw [ed] at m
        have := keyD_rep ek rx
        subst this
        obtain ⟨_, ov, g, e⟩ := dGet_of rs ed hn k
        refine d_notIn (by omega) I g rv fun s' I' => ?_
        rw [e]
        exact m.ok_ I' rs (RepV.bl _ _ _ _) rfl
    | _ => exact m.elim
def dDic0 : DSt → M D := fun _ S => .ok (.ob S.length) (S ++ [.dic []])
theorem pd_dic0 : PEd X (.Dict [] [] pos) dDic0 := by
  intro pins s σ H J r S Q E I m
  refine wpAny_mono (pe_dnewK (X := X.wish E) pins s σ H (Got X.K H J (.ob S.length) (S ++ [.dic []])) (I.inv.wish E) ?_) (fun u s' q => m u s' (EP.unwish q)) fun _ _ z => z
  intro p hp
  exact ⟨J ++ [p], (Ext.new hp).snoc _, I.st.push hp ⟨[], upd_same, rfl⟩, .ob (by rw [← I.st.len]; simp)⟩
def StD (X : Cx) (g : D → D → D → List Cell → Option (List Cell)) : Prop := ∀ (pins : Pins) (s : Shared) (σ : L2.St) (H : Hp) (J : List Addr) (S : List Cell) (x y d : D) (vx vy vd : V) (ux uy ud : Value) (S' : List Cell) (Q : Unit → Shared → Prop) (E : Value → Shared → Prop),
  Inv X pins σ H s → RepS X.K H J S → RepV X.K H J x vx → RepV X.K H J y vy → RepV X.K H J d vd → RelV vx ux → RelV vy uy → RelV vd ud → g x y d S = some S' → (∀ s' H', Inv X pins σ H' s' → Ext H J H' J → RepS X.K H' J S' → Q () s') → wpAny (model X.prog X.w) X.A (setItem ux uy ud) Q E s
def sPut (g : D → D → D → List Cell → Option (List Cell)) (fo fi fe : DSt → M D) : TSt := fun r => sBind (fe r) r fun d => sBind (fo r) r fun x => sBind (fi r) r fun y S => match g x y d S with
  | some S' => some (.nx r, S')
  | none => none
theorem sd_put {i : Expr} {pos' : Pos} {g : D → D → D → List Cell → Option (List Cell)} (hg : StD X g) (ho : PEd X o fo) (hi : PEd X i fi) (he : PEd X e fe) (hs : swapsWith e (some (.Subscript o i pos')) pos.line X.env = pure false := by rfl) :
    PSd X (.Assign [.Subscript o i pos'] e pos) (sPut g fo fi fe) := by
  intro pins s σ H J r S Q E I m
  refine wpAny_Assign_Subscript (goS' he I m fun d S1 ud s1 vd H1 J1 I1 x1 rd ru m1 => goS' ho I1 m1 fun x S2 ux s2 vx H2 J2 I2 x2 rx rvx m2 => goS' hi I2 m2 fun y S3 uy s3 vy H3 J3 I3 x3 ry rvy m3 => ?_) hs
  cases eg : g x y d S3 with
  | none => rw [eg] at m3; exact m3.elim
  | some S' =>
    rw [eg] at m3
    exact hg pins s3 σ H3 J3 S3 x y d vx vy vd ux uy ud S' _ E I3.inv I3.st (rx.ext x3) ry ((rd.ext x2).ext x3) rvx rvy ru eg fun s' H' I' x' rs' => m3 s' σ H' J3 ⟨I', I3.loc.ext x', rs'⟩ x'
noncomputable def putDD (x y d : D) (S : List Cell) : Option (List Cell) := match x, keyD y with
  | .ob n, some k => (match dicAt S n with
    | some kvs => cif (kvs.length < sizeLine) (some (S.set n (.dic (putD kvs k d)))) none
    | none => none)
  | _, _ => none
theorem std_dic (hu : X.A.units + 64 < cLine) : StD X putDD := by
  intro pins s σ H J S x y d vx vy vd ux uy ud S' Q E I rs rx ry rd rux ruy rud eg k
  unfold putDD at eg
  cases ek : keyD y with
  | none => rw [ek] at eg; cases x <;> cases eg
  | some ky =>
    rw [ek] at eg
    cases x with
    | ob n =>
      dsimp only at eg
      obtain ⟨ad, rfl, hn⟩ := rx.ob_
      cases rux
      cases ed : dicAt S n with
      | none => rw [ed] at eg; cases eg
      | some kvs =>
        rw [ed] at eg
        dsimp only at eg
        unfold cif at eg
        split at eg
        · rename_i hz
          cases eg
          have := keyD_rep ek ry
          subst this
          obtain ⟨ws, hv, rp⟩ := rs.dic ed hn
          refine d_setItem (by omega) I (DPut.k hv (by rw [rp.length]; exact hz)) ruy rud fun s' I' => ?_
          have x' : Ext H J (upd H ad (.dK (putK ws ky vd))) J := Ext.write hv rfl
          exact k s' _ I' x' (rs.write hn ⟨_, upd_same, (rp.ext x').put (rd.ext x') ky⟩)
        · cases eg
    | _ => cases eg
def chkD (x : D) : M Unit := fun S => match x with
  | .ob n => (match dicAt S n with
    | some _ => .ok () S
    | none => .bad)
  | _ => .bad
def dBMd (g : D → List D → M D) (fo : DSt → M D) (ft : DSt → M (List D)) : DSt → M D := fun r => (fo r).bind fun x => (chkD x).bind fun _ => (ft r).bind fun xs => g x xs
end
end DL
namespace DL
open PySem PySem.Spec PyProof.Rows L2
theorem list_extend_tup (l : Addr) (items : Array Value) (n : Nat) (b : Addr) (items2 : Array Value) (n2 : Nat) (dd : Option Addr) (sl : Array (Option Value)) (hs0 : ¬(!items.isEmpty && Builtin.List.listTooLong (items.size + items2.size)) = true) (hs1 : items.size ≤ sizeLine) (hs2 : items.size + items2.size ≤ sizeLine + 1) :
    Meets (Builtin.«list.extend» ⟨[.ref l, .ref b], []⟩) (fun _ R s => s.heap.get? l = some { cls := .type "list", dict := none, data := .seq items n, slots := #[] } ∧ s.heap.get? b = some { cls := .type "tuple", dict := dd, data := .seq items2 n2, slots := sl } ∧ R (.ok (.ret Value.none)) { s with heap := s.heap.update l (Obj.mapSeq fun x => x ++ items2), toks := s.toks }) :=
  .of_wp fun prog w A R s h => by
    obtain ⟨hp, g, d, tk, os⟩ := s
    obtain ⟨hl, hb, h⟩ := h
    have f1 := PySem.AutoSeq1.idx_int
    have f2 := PySem.AutoSeq1.sub_tuple_tuple
    have f3 := PySem.AutoSeq1.sub_list_list
    have f4 := PySem.AutoSeq1.sub_tuple_list
    have f5 := PySem.AutoSeq1.sub_list_tuple
    have hz' : (items ++ items2).size ≤ sizeLine + 1 := by rw [Array.size_append]; exact hs2
    wp_walk using (wpAny_updateSeq hl rfl (hz := hs1) (_hz' := hz')), wpAny_loadPart' hl, wpAny_loadPart' hb
    exact ⟨_, rfl, h⟩
section
variable {X : Cx}
noncomputable def extD : D → List D → M D
  | .ob n, [.tup ys] => fun S => match lstAt S n with
    | some xs => cif (xs.length + ys.length ≤ sizeLine) (.ok .non (S.set n (.lst (xs ++ ys)))) .bad
    | none => .bad
  | _, _ => M.bad
theorem md_extend : MtD X "list.extend" extD := by
  intro pins s σ H J S x xs vx vs v us Q E I rs rx rxs rv rvs m
  cases x with
  | ob n =>
    match xs, m, rxs with
    | [.tup ys], m, rxs =>
      obtain ⟨ad, rfl, hn⟩ := rx.ob_
      obtain ⟨w, rfl, rw'⟩ := rxs.one_
      obtain ⟨u, rfl, ru⟩ := rvs.one
      cases rv
      obtain ⟨b, zs, rfl, hq, rz⟩ := rw'.tup_
      cases ru
      simp only [extD, cif] at m
      cases ed : lstAt S n with
      | none => rw [ed] at m; exact m.elim
      | some xs0 =>
        rw [ed] at m
        dsimp only at m
        split at m
        · rename_i hz
          obtain ⟨ws, hv, rws⟩ := rs.lst ed hn
          obtain ⟨z, its, n1, r, hl, e⟩ := I.lstM hv
          obtain ⟨its2, r2, ht, hz2⟩ := I.tuple hq
          obtain ⟨⟨cls2, dd2, data2, sl2⟩, ho2, hc2, n2, hd2⟩ := id ht
          simp only at hc2 hd2
          subst hc2 hd2
          have hl2 := r2.length
          have l1 := rws.length
          have l2 := rz.length
          have hsz : its.toArray.size + its2.toArray.size ≤ sizeLine := by rw [List.size_toArray, List.size_toArray]; omega
          have hlong : ¬ (!its.toArray.isEmpty && Builtin.List.listTooLong (its.toArray.size + its2.toArray.size)) = true := by
            rw [notLongL hsz, Bool.and_false]
            exact Bool.false_ne_true
          refine call_meets F.slot_list_extend ⟨_, e, rfl⟩ F.entry_list_extend (F.args_list_extend_2 _ _) (list_extend_tup ad its.toArray n1 b its2.toArray n2 dd2 sl2 hlong (by rw [List.size_toArray]; omega) (by omega)) ⟨e, ho2, ?_⟩
          have x' : Ext H J (upd H ad (.lst (ws ++ zs))) J := Ext.write hv rfl
          refine m _ _ ⟨.non, _, I.lset (its' := its ++ its2) hv e (by simp) (r.append r2) (by rw [List.length_append]; omega), rfl, J, x', rs.write hn ⟨_, upd_same, (rws.ext x').append (rz.ext x')⟩, RepV.non _ _ _⟩
        · exact m.elim
    | [], m, _ => exact m.elim
    | [.non], m, _ => exact m.elim
    | [.bl _], m, _ => exact m.elim
    | [.int _], m, _ => exact m.elim
    | [.str _], m, _ => exact m.elim
    | [.rol _], m, _ => exact m.elim
    | [.ob _], m, _ => exact m.elim
    | [.xn _], m, _ => exact m.elim
    | y :: _ :: _, m, _ => cases y <;> exact m.elim
  | _ => exact m.elim
end
end DL
namespace DL
open PySem PySem.Spec PyProof.Rows L2
section
variable {X : Cx}
theorem dl_s {n : Nat} {g : DSt → M (List D)} (h : ∀ (r : DSt) (S : List Cell) (xs : List D) (S' : List Cell), g r S = .ok xs S' → xs.length = n) : ∀ (r : DSt) (S : List Cell) (xs : List D) (S' : List Cell), g r S = .ok xs S' → xs.length + 1 = n + 1 :=
  fun r S xs S' e => by rw [h r S xs S' e]
def MtP (X : Cx) (pins : Pins) (σ : L2.St) (H : Hp) (J : List Addr) (r : R (List (D × D))) (Q : List (Value × Value) → Shared → Prop) (E : Value → Shared → Prop) : Prop := match r with
  | .ok ps S' => ∀ us s', (∃ vs H' J', Inv X pins σ H' s' ∧ VV vs us ∧ Ext H J H' J' ∧ RepS X.K H' J' S' ∧ RepVs X.K H' J' (ps.map (·.1)) (vs.map (·.1)) ∧ RepVs X.K H' J' (ps.map (·.2)) (vs.map (·.2))) → Q us s'
  | .exc c S' => ∀ e s', XP X pins σ c (Gone X.K H J S') e s' → E e s'
  | .bad => False
theorem MtP.ext {pins : Pins} {σ : L2.St} {H H1 : Hp} {J J1 : List Addr} {r : R (List (D × D))} {Q : List (Value × Value) → Shared → Prop} {E : Value → Shared → Prop} (e : Ext H J H1 J1) (h : MtP X pins σ H J r Q E) : MtP X pins σ H1 J1 r Q E := by
  cases r with
  | ok d S => exact fun u s' ⟨v, H', J', I, rv, x, g⟩ => h u s' ⟨v, H', J', I, rv, e.trans x, g⟩
  | exc c S => exact fun u s' x => h u s' (x.ext e)
  | bad => exact h
end
end DL
namespace DL
open PySem PySem.Spec PyProof.Rows L2
theorem szM {n : Nat} (h : n ≤ 1000000) : n < sizeLine := Nat.lt_of_le_of_lt h (by rw [sizeLine_eq]; decide)
section
variable {α β : Type} {S : List Cell} {r : DSt}
@[simp] theorem e_bind (m : M α) (k : α → M β) : (m.bind k) S = match m S with
  | .ok a S' => k a S'
  | .exc c S' => .exc c S'
  | .bad => .bad := rfl
@[simp] theorem e_ret (a : α) : (M.ret a) S = .ok a S := rfl
@[simp] theorem e_dVar (i : Nat) : dVar i r S = match r[i]? with
  | some (some d) => .ok d S
  | _ => .bad := rfl
@[simp] theorem e_dC (d : D) : dC d r S = .ok d S := rfl
@[simp] theorem e_dOp (g : D → D → M D) (fa fb : DSt → M D) : dOp g fa fb r = (fa r).bind fun x => (fb r).bind fun y => g x y := rfl
@[simp] theorem e_dUn (g : D → M D) (fa : DSt → M D) : dUn g fa r = (fa r).bind g := rfl
@[simp] theorem e_dCall (g : List D → M D) (ft : DSt → M (List D)) : dCall g ft r = (ft r).bind g := rfl
@[simp] theorem e_dNil : dNil r = M.ret [] := rfl
@[simp] theorem e_dCons (f : DSt → M D) (g : DSt → M (List D)) : dCons f g r = (f r).bind fun x => (g r).bind fun xs => M.ret (x :: xs) := rfl
@[simp] theorem e_dTest (f : DSt → M D) : dTest f r = (f r).bind bof := rfl
@[simp] theorem e_bof (b : Bool) : bof (.bl b) S = .ok b S := rfl
@[simp] theorem e_dTru (f : DSt → M D) : dTru f r = (f r).bind truD := rfl
@[simp] theorem e_truD_bl (b : Bool) : truD (.bl b) S = .ok b S := rfl
@[simp] theorem e_dAnd (t u : DSt → M Bool) : dAnd t u r = (t r).bind fun c => if c = true then u r else M.ret false := rfl
@[simp] theorem e_dOr (t u : DSt → M Bool) : dOr t u r = (t r).bind fun c => if c = true then M.ret true else u r := rfl
@[simp] theorem e_dNot (t : DSt → M Bool) : dNot t r = (t r).bind fun c => M.ret (!c) := rfl
@[simp] theorem e_dAndV (fa fb : DSt → M D) : dAndV fa fb r = (dTest fa r).bind fun c => if c = true then fb r else M.ret (.bl false) := rfl
@[simp] theorem e_dOrV (fa fb : DSt → M D) : dOrV fa fb r = (dTest fa r).bind fun c => if c = true then M.ret (.bl true) else fb r := rfl
@[simp] theorem e_dNotV (fa : DSt → M D) : dNotV fa r = (dTest fa r).bind fun c => M.ret (.bl (!c)) := rfl
@[simp] theorem e_dIf (t : DSt → M Bool) (fa fb : DSt → M D) : dIf t fa fb r = (t r).bind fun c => if c = true then fa r else fb r := rfl
@[simp] theorem e_dChain (g g' : D → D → M D) (fa fb fc : DSt → M D) : dChain g g' fa fb fc r = (fa r).bind fun x => (fb r).bind fun y => ((g x y).bind bof).bind fun k => if k = true then (fc r).bind fun z => g' y z else M.ret (.bl false) := rfl
@[simp] theorem e_dTup (ft : DSt → M (List D)) : dTup ft r = (ft r).bind newTup := rfl
@[simp] theorem e_dLst (ft : DSt → M (List D)) : dLst ft r = (ft r).bind newLst := rfl
@[simp] theorem e_dSl (g : D → Option Int → Option Int → M D) (fe : DSt → M D) (fl fh : DSt → M (Option Int)) : dSl g fe fl fh r = (fe r).bind fun x => (fl r).bind fun l => (fh r).bind fun h => g x l h := rfl
@[simp] theorem e_dNoPart : dNoPart r = M.ret none := rfl
@[simp] theorem e_dPart (f : DSt → M D) : dPart f r = (f r).bind intOf := rfl
@[simp] theorem e_intOf (i : Int) : intOf (.int i) = M.ret (some i) := rfl
@[simp] theorem e_dIs (T : String) (f : DSt → M D) : dIs T f r = (f r).bind (isD T) := rfl
@[simp] theorem e_dWk (f : DSt → M D) : dWk f r = (f r).bind wkOf := rfl
@[simp] theorem e_dYes : dYes r = M.ret true := rfl
@[simp] theorem e_dFld (C : Addr) (ns : List Str) (i : Nat) (fo : DSt → M D) : dFld C ns i fo r = (fo r).bind fun x => (insD C ns x).bind fun p => optM p.2[i]? := rfl
@[simp] theorem e_optM (d : D) : optM (some d) S = .ok d S := rfl
@[simp] theorem e_dMeth (C : Addr) (ns : List Str) (F : List D → M D) (fo : DSt → M D) (ft : DSt → M (List D)) : dMeth C ns F fo ft r = (fo r).bind fun x => (insD C ns x).bind fun _ => (ft r).bind fun xs => F (x :: xs) := rfl
@[simp] theorem e_dBM (g : D → List D → M D) (fo : DSt → M D) (ft : DSt → M (List D)) : dBM g fo ft r = (fo r).bind fun x => (chkL x).bind fun _ => (ft r).bind fun xs => g x xs := rfl
@[simp] theorem e_dBMd (g : D → List D → M D) (fo : DSt → M D) (ft : DSt → M (List D)) : dBMd g fo ft r = (fo r).bind fun x => (chkD x).bind fun _ => (ft r).bind fun xs => g x xs := rfl
@[simp] theorem e_dDic0 : dDic0 r S = .ok (.ob S.length) (S ++ [.dic []]) := rfl
@[simp] theorem e_gN (i : Nat) (d : D) : gN i d r = some (r.set i (some d)) := rfl
theorem lstAt_of {n : Nat} {xs : List D} (h : S[n]? = some (.lst xs)) : lstAt S n = some xs := by unfold lstAt; rw [h]
@[simp] theorem e_chkL {n : Nat} : chkL (.ob n) S = match lstAt S n with
  | some _ => .ok () S
  | none => .bad := rfl
@[simp] theorem e_chkD {n : Nat} : chkD (.ob n) S = match dicAt S n with
  | some _ => .ok () S
  | none => .bad := rfl
@[simp] theorem e_add_int (i j : Int) : addD (.int i) (.int j) S = .ok (.int (i + j)) S := rfl
@[simp] theorem e_sub_int (i j : Int) : subD (.int i) (.int j) S = .ok (.int (i - j)) S := cif_pos trivial
theorem e_mul_int {i j : Int} (h : CMul i j) : mulD (.int i) (.int j) S = .ok (.int (i * j)) S := cif_pos h
@[simp] theorem e_mul2 (j : Int) : mulD (.int 2) (.int j) S = .ok (.int (2 * j)) S := e_mul_int (.inl ⟨by decide, by decide⟩)
theorem e_mod_int {i j : Int} (h : 0 < j) : modD (.int i) (.int j) S = .ok (.int (i % j)) S := cif_pos h
theorem e_fdiv_int {i j : Int} (h : CDiv i j) : fdivD (.int i) (.int j) S = .ok (.int (i / j)) S := cif_pos h
@[simp] theorem e_lt (i j : Int) : ltD (.int i) (.int j) S = .ok (.bl (decide (i < j))) S := rfl
@[simp] theorem e_le (i j : Int) : leD (.int i) (.int j) S = .ok (.bl (decide (i ≤ j))) S := rfl
@[simp] theorem e_gt (i j : Int) : gtD (.int i) (.int j) S = .ok (.bl (decide (j < i))) S := rfl
@[simp] theorem e_ge (i j : Int) : geD (.int i) (.int j) S = .ok (.bl (decide (j ≤ i))) S := rfl
@[simp] theorem e_eq_int (i j : Int) : eqD (.int i) (.int j) S = .ok (.bl (decide (i = j))) S := eqD_int S i j
@[simp] theorem e_ne_int (i j : Int) : neD (.int i) (.int j) S = .ok (.bl (!decide (i = j))) S := neD_int S i j
@[simp] theorem e_min (i j : Int) : minD [.int i, .int j] S = .ok (.int (min i j)) S := by
  show R.ok (D.int (if j < i then j else i)) S = _
  congr 2
  omega
@[simp] theorem e_max (i j : Int) : maxD [.int i, .int j] S = .ok (.int (max i j)) S := by
  show R.ok (D.int (if j > i then j else i)) S = _
  congr 2
  omega
theorem e_ix_ob {xs : List D} {n i : Nat} {d : D} (hn : S[n]? = some (.lst xs)) (h : xs[i]? = some d) : ixD (.ob n) (.int (i : Int)) S = .ok d S := by
  simp only [ixD, seqD, lstAt_of hn, atI_nat h]
theorem e_len_ob {xs : List D} {n : Nat} (hn : S[n]? = some (.lst xs)) : lenD [.ob n] S = .ok (.int xs.length) S := by
  simp only [lenD, seqD, lstAt_of hn]
@[simp] theorem e_len_tup (xs : List D) : lenD [.tup xs] S = .ok (.int xs.length) S := rfl
@[simp] theorem e_tuple_tup (xs : List D) : tupleD [.tup xs] S = .ok (.tup xs) S := rfl
theorem e_tuple_ob {xs : List D} {n : Nat} (hn : S[n]? = some (.lst xs)) : tupleD [.ob n] S = .ok (.tup xs) S := by
  simp only [tupleD, seqD, lstAt_of hn]
theorem e_newTup {xs : List D} (h : xs.length ≤ 1000000) : newTup xs S = .ok (.tup xs) S := cif_pos (Nat.le_of_lt (szM h))
theorem e_newLst {xs : List D} (h : xs.length ≤ 1000000) : newLst xs S = .ok (.ob S.length) (S ++ [.lst xs]) := cif_pos (Nat.le_of_lt (szM h))
theorem e_app {xs : List D} {n : Nat} {d : D} (hn : S[n]? = some (.lst xs)) (h : xs.length < 1000000) : appD (.ob n) [d] S = .ok .non (S.set n (.lst (xs ++ [d]))) := by
  simp only [appD, lstAt_of hn]
  exact cif_pos (szM (by omega))
theorem e_ext {xs ys : List D} {n : Nat} (hn : S[n]? = some (.lst xs)) (h : xs.length + ys.length ≤ 1000000) : extD (.ob n) [.tup ys] S = .ok .non (S.set n (.lst (xs ++ ys))) := by
  simp only [extD, lstAt_of hn]
  exact cif_pos (Nat.le_of_lt (szM h))
@[simp] theorem e_sNext : sNext r S = some (.nx r, S) := rfl
@[simp] theorem e_sBind (m : M α) (k : α → List Cell → RSt) : sBind m r k S = match m S with
  | .ok a S' => k a S'
  | .exc c S' => some (.xc c r, S')
  | .bad => none := rfl
@[simp] theorem e_sSeq (t u : TSt) : sSeq t u r S = match t r S with
  | some (.nx r', S') => u r' S'
  | o => o := rfl
@[simp] theorem e_sRet (f : DSt → M D) : sRet f r = sBind (f r) r fun d S => some (.rt d, S) := rfl
@[simp] theorem e_sDrop (f : DSt → M D) : sDrop f r = sBind (f r) r fun _ S => some (.nx r, S) := rfl
@[simp] theorem e_sIf (c : DSt → M Bool) (t u : TSt) : sIf c t u r = sBind (c r) r fun b S => if b = true then t r S else u r S := rfl
@[simp] theorem e_sAsg (f : DSt → M D) (g : TGd) : sAsg f g r = sBind (f r) r fun d S => match g d r with
  | some r' => some (.nx r', S)
  | none => none := rfl
@[simp] theorem e_sFld (C : Addr) (ns : List Str) (i : Nat) (fo fe : DSt → M D) : sFld C ns i fo fe r = sBind (fe r) r fun d => sBind (fo r) r fun x S1 => match insD C ns x S1 with
  | .ok p S2 => some (.nx r, S2.set p.1 (.ins C ns (p.2.set i d)))
  | _ => none := rfl
@[simp] theorem e_sFldN (C : Addr) (ns : List Str) (f : Str) (fo fe : DSt → M D) : sFldN C ns f fo fe r = sBind (fe r) r fun d => sBind (fo r) r fun x S1 => match insD C ns x S1 with
  | .ok p S2 => some (.nx r, S2.set p.1 (.ins C (ns ++ [f]) (p.2 ++ [d])))
  | _ => none := rfl
@[simp] theorem e_sPut (g : D → D → D → List Cell → Option (List Cell)) (fo fi fe : DSt → M D) : sPut g fo fi fe r = sBind (fe r) r fun d => sBind (fo r) r fun x => sBind (fi r) r fun y S => match g x y d S with
  | some S' => some (.nx r, S')
  | none => none := rfl
@[simp] theorem e_fin_rt (S0 : List Cell) (d : D) : fin S0 (some (.rt d, S)) = .ok d S := rfl
@[simp] theorem e_fin_nx (S0 : List Cell) : fin S0 (some (.nx r, S)) = .ok .non S := rfl
@[simp] theorem e_fin_xc (S0 : List Cell) (c : Addr) : fin S0 (some (.xc c r, S)) = .exc c S := rfl
theorem finP_rt {S0 G : List Cell} {d : D} (h : wfD S0.length d) : finP S0 (some (.rt d, S0 ++ G)) = .ok d S0 := if_pos ⟨⟨G, rfl⟩, h⟩
end
def Fr (fp : List Nat) (S S' : List Cell) : Prop := S.length ≤ S'.length ∧ ∀ i, i < S.length → i ∉ fp → S'[i]? = S[i]?
theorem Fr.refl (fp : List Nat) (S : List Cell) : Fr fp S S := ⟨Nat.le_refl _, fun _ _ _ => rfl⟩
theorem Fr.trans {fp fq : List Nat} {S S1 S2 : List Cell} (a : Fr fp S S1) (b : Fr fq S1 S2) (h : ∀ i ∈ fq, i < S.length → i ∈ fp) : Fr fp S S2 :=
  ⟨Nat.le_trans a.1 b.1, fun i hi hn => (b.2 i (Nat.lt_of_lt_of_le hi a.1) fun hq => hn (h i hq hi)).trans (a.2 i hi hn)⟩
theorem Fr.tr {fp : List Nat} {S S1 S2 : List Cell} (a : Fr fp S S1) (b : Fr fp S1 S2) : Fr fp S S2 := a.trans b fun _ h _ => h
theorem Fr.set {fp : List Nat} {S : List Cell} {n : Nat} {c : Cell} (h : n ∈ fp) : Fr fp S (S.set n c) :=
  ⟨by rw [List.length_set]; exact Nat.le_refl _, fun i _ hn => List.getElem?_set_ne fun e : n = i => hn (e ▸ h)⟩
theorem Fr.push {fp : List Nat} {S : List Cell} {c : List Cell} : Fr fp S (S ++ c) :=
  ⟨by rw [List.length_append]; omega, fun i hi _ => List.getElem?_append_left hi⟩
theorem Fr.get {fp : List Nat} {S S' : List Cell} {i : Nat} {c : Cell} (a : Fr fp S S') (h : S[i]? = some c) (hn : i ∉ fp) : S'[i]? = some c :=
  (a.2 i (List.getElem?_eq_some_iff.mp h).1 hn).trans h
theorem Fr.mono {fp fq : List Nat} {S S' : List Cell} (a : Fr fp S S') (h : ∀ i ∈ fp, i < S.length → i ∈ fq) : Fr fq S S' := ⟨a.1, fun i hi hn => a.2 i hi fun z => hn (h i z hi)⟩
theorem cell_lt {S : List Cell} {i : Nat} {c : Cell} (h : S[i]? = some c) : i < S.length := (List.getElem?_eq_some_iff.mp h).1
theorem set_same {S : List Cell} {i : Nat} {c d : Cell} (h : S[i]? = some c) : (S.set i d)[i]? = some d := by
  rw [List.getElem?_set]
  simp [cell_lt h]
theorem set_other {S : List Cell} {i j : Nat} {c d : Cell} (h : S[j]? = some c) (hn : i ≠ j) : (S.set i d)[j]? = some c := by rw [List.getElem?_set_ne hn]; exact h
theorem push_old {S G : List Cell} {j : Nat} {c : Cell} (h : S[j]? = some c) : (S ++ G)[j]? = some c := by rw [List.getElem?_append_left (cell_lt h)]; exact h
theorem push_new {S : List Cell} {c : Cell} : (S ++ [c])[S.length]? = some c := by simp
section
variable {S S1 S2 : List Cell} {r r1 : DSt} {d x y : D} {n : Nat} {C : Addr} {ns : List Str} {ds : List D}
theorem go_seq {t u : TSt} (h : t r S = some (.nx r1, S1)) : sSeq t u r S = u r1 S1 := by rw [e_sSeq, h]
theorem rt_seq {t u : TSt} (h : t r S = some (.rt d, S1)) : sSeq t u r S = some (.rt d, S1) := by rw [e_sSeq, h]
theorem go_asg {fe : DSt → M D} {i : Nat} (h : fe r S = .ok d S1) : sAsg fe (gN i) r S = some (.nx (r.set i (some d)), S1) := by simp [h]
theorem go_drop {fe : DSt → M D} (h : fe r S = .ok d S1) : sDrop fe r S = some (.nx r, S1) := by simp [h]
theorem go_ret {fe : DSt → M D} (h : fe r S = .ok d S1) : sRet fe r S = some (.rt d, S1) := by simp [h]
theorem go_if {c : DSt → M Bool} {t u : TSt} {b : Bool} (h : c r S = .ok b S1) : sIf c t u r S = if b = true then t r S1 else u r S1 := by simp [h]
theorem go_ifT {c : DSt → M Bool} {t u : TSt} (h : c r S = .ok true S1) : sIf c t u r S = t r S1 := by rw [go_if h, if_pos rfl]
theorem go_ifF {c : DSt → M Bool} {t u : TSt} (h : c r S = .ok false S1) : sIf c t u r S = u r S1 := by rw [go_if h, if_neg (by decide)]
theorem go_fld {i : Nat} {fo fe : DSt → M D} (h1 : fe r S = .ok d S1) (h2 : fo r S1 = .ok (.ob n) S2) (h3 : S2[n]? = some (.ins C ns ds)) : sFld C ns i fo fe r S = some (.nx r, S2.set n (.ins C ns (ds.set i d))) := by
  simp [h1, h2, insD_eq h3]
theorem go_fldN {f : Str} {fo fe : DSt → M D} (h1 : fe r S = .ok d S1) (h2 : fo r S1 = .ok (.ob n) S2) (h3 : S2[n]? = some (.ins C ns ds)) : sFldN C ns f fo fe r S = some (.nx r, S2.set n (.ins C (ns ++ [f]) (ds ++ [d]))) := by
  simp [h1, h2, insD_eq h3]
theorem go_fldA {i : Nat} {fo fe : DSt → M D} {a b : Int} {ds' : List D} {S3 : List Cell} (h2 : fo r S = .ok (.ob n) S1) (h3 : S1[n]? = some (.ins C ns ds)) (h4 : ds[i]? = some (.int a)) (h1 : fe r S1 = .ok (.int b) S3) (h5 : S3[n]? = some (.ins C ns ds')) :
    sFldA C ns i fo fe r S = some (.nx r, S3.set n (.ins C ns (ds'.set i (.int (a + b))))) := by
  unfold sFldA
  simp [h2, insD_eq h3, h4, h1, insD_eq h5]
theorem go_put {g : D → D → D → List Cell → Option (List Cell)} {fo fi fe : DSt → M D} {S3 S4 : List Cell} (h1 : fe r S = .ok d S1) (h2 : fo r S1 = .ok x S2) (h3 : fi r S2 = .ok y S3) (h4 : g x y d S3 = some S4) : sPut g fo fi fe r S = some (.nx r, S4) := by
  simp [h1, h2, h3, h4]
theorem ev_fld {i : Nat} {fo : DSt → M D} (h : fo r S = .ok (.ob n) S1) (h3 : S1[n]? = some (.ins C ns ds)) (hd : ds[i]? = some d) : dFld C ns i fo r S = .ok d S1 := by
  simp [h, insD_eq h3, hd]
theorem ev_meth {F : List D → M D} {fo : DSt → M D} {ft : DSt → M (List D)} {xs : List D} {a : R D} (h : fo r S = .ok (.ob n) S1) (h3 : S1[n]? = some (.ins C ns ds)) (h4 : ft r S1 = .ok xs S2) (h5 : F (.ob n :: xs) S2 = a) : dMeth C ns F fo ft r S = a := by
  simp [h, insD_eq h3, h4, h5]
theorem ev_call {F : List D → M D} {ft : DSt → M (List D)} {xs : List D} {a : R D} (h4 : ft r S = .ok xs S1) (h5 : F xs S1 = a) : dCall F ft r S = a := by simp [h4, h5]
theorem ev_op {g : D → D → M D} {fa fb : DSt → M D} {a : R D} (h1 : fa r S = .ok x S1) (h2 : fb r S1 = .ok y S2) (h3 : g x y S2 = a) : dOp g fa fb r S = a := by simp [h1, h2, h3]
theorem ev_cons {f : DSt → M D} {g : DSt → M (List D)} {xs : List D} (h1 : f r S = .ok x S1) (h2 : g r S1 = .ok xs S2) : dCons f g r S = .ok (x :: xs) S2 := by simp [h1, h2]
theorem ev_nil : dNil r S = .ok [] S := rfl
theorem ev_test {f : DSt → M D} {b : Bool} (h : f r S = .ok (.bl b) S1) : dTest f r S = .ok b S1 := by simp [h]
theorem ev_bm {g : D → List D → M D} {fo : DSt → M D} {ft : DSt → M (List D)} {xs ys : List D} {a : R D} (h : fo r S = .ok (.ob n) S1) (h3 : S1[n]? = some (.lst ys)) (h4 : ft r S1 = .ok xs S2) (h5 : g (.ob n) xs S2 = a) : dBM g fo ft r S = a := by
  simp [h, lstAt_of h3, h4, h5]
theorem ev_tup {ft : DSt → M (List D)} {xs : List D} (h : ft r S = .ok xs S1) (hl : xs.length ≤ 1000000) : dTup ft r S = .ok (.tup xs) S1 := by simp [h, e_newTup hl]
theorem ev_lst {ft : DSt → M (List D)} {xs : List D} (h : ft r S = .ok xs S1) (hl : xs.length ≤ 1000000) : dLst ft r S = .ok (.ob S1.length) (S1 ++ [.lst xs]) := by simp [h, e_newLst hl]
theorem e_eq_str {a b : Str} {c : Bool} (h1 : (PyData.str a).canLay0 = true := by decide +kernel) (h2 : (PyData.str b).canLay0 = true := by decide +kernel) (h3 : decide (a = b) = c := by decide +kernel) : eqD (.str a) (.str b) S = .ok (.bl c) S := by
  subst h3
  have h : (PyData.str a).eqv (.str b) = decide (a = b) := by
    by_cases e : a = b
    · subst e
      simp [PyData.eqv]
    · simp [PyData.eqv, e]
  simp only [eqD, pD, h1, h2, if_true, h]
theorem e_ne_str {a b : Str} {c : Bool} (h1 : (PyData.str a).canLay0 = true := by decide +kernel) (h2 : (PyData.str b).canLay0 = true := by decide +kernel) (h3 : (!decide (a = b)) = c := by decide +kernel) : neD (.str a) (.str b) S = .ok (.bl c) S := by
  subst h3
  have h : (PyData.str a).eqv (.str b) = decide (a = b) := by
    by_cases e : a = b
    · subst e
      simp [PyData.eqv]
    · simp [PyData.eqv, e]
  simp only [neD, pD, h1, h2, if_true, h]
end
end DL
namespace DL
open PySem PySem.Spec PyProof.Rows L2
section
variable {S S1 S2 : List Cell} {r r1 : DSt} {d x y : D} {n i : Nat} {C : Addr} {ns : List Str} {ds ds' : List D} {fo fe : DSt → M D}
theorem push_at {S : List Cell} {i : Nat} {c : Cell} (h : i = S.length) : (S ++ [c])[i]? = some c := by subst h; exact push_new
structure Ch (n : Nat) (c : Cell) (S S' : List Cell) : Prop where
  at_ : S'[n]? = some c
  fr : Fr [n] S S'
  len : S'.length = S.length
theorem Ch.old {m : Nat} {c c' : Cell} (h : Ch n c S S1) (hm : S[m]? = some c') (hn : n ≠ m) : S1[m]? = some c' := h.fr.get hm (by simpa using Ne.symm hn)
theorem Ch.set {c c' : Cell} (h : S[n]? = some c') : Ch n c S (S.set n c) := ⟨set_same h, Fr.set (by simp), by simp⟩
theorem st_fld (h1 : fe r S = .ok d S1) (h2 : fo r S1 = .ok (.ob n) S1) (h3 : S1[n]? = some (.ins C ns ds)) (h4 : ds.set i d = ds') : ∃ S2, sFld C ns i fo fe r S = some (.nx r, S2) ∧ Ch n (.ins C ns ds') S1 S2 := by
  subst h4
  exact ⟨_, go_fld h1 h2 h3, Ch.set h3⟩
theorem st_fldA {a b : Int} (h2 : fo r S = .ok (.ob n) S) (h3 : S[n]? = some (.ins C ns ds)) (h5 : ds[i]? = some (.int a)) (h1 : fe r S = .ok (.int b) S) (h4 : ds.set i (.int (a + b)) = ds') : ∃ S2, sFldA C ns i fo fe r S = some (.nx r, S2) ∧ Ch n (.ins C ns ds') S S2 := by
  subst h4
  exact ⟨_, go_fldA h2 h3 h5 h1 h3, Ch.set h3⟩
theorem st_app {xs : List D} {ft : DSt → M (List D)} (h1 : fo r S = .ok (.ob n) S) (h2 : S[n]? = some (.lst xs)) (h3 : ft r S = .ok [d] S) (hz : xs.length < 1000000) : ∃ S2, dBM appD fo ft r S = .ok .non S2 ∧ Ch n (.lst (xs ++ [d])) S S2 :=
  ⟨_, ev_bm h1 h2 h3 (e_app h2 hz), Ch.set h2⟩
theorem st_ext {xs ys : List D} {ft : DSt → M (List D)} (h1 : fo r S = .ok (.ob n) S) (h2 : S[n]? = some (.lst xs)) (h3 : ft r S = .ok [.tup ys] S) (hz : xs.length + ys.length ≤ 1000000) : ∃ S2, dBM extD fo ft r S = .ok .non S2 ∧ Ch n (.lst (xs ++ ys)) S S2 :=
  ⟨_, ev_bm h1 h2 h3 (e_ext h2 hz), Ch.set h2⟩
theorem Ch.fp {fp : List Nat} {c : Cell} (h : Ch n c S S1) (hn : n ∈ fp) : Fr fp S S1 := h.fr.mono fun i hi _ => by
  have : i = n := by simpa using hi
  rw [this]; exact hn
end
theorem cTurns_map {tg : TGd} {ti : DSt → M Bool} {fe : DSt → M D} {r0 : DSt} (kp : D → Bool) (h : D → D) (g : Option (Nat × List D)) (S : List Cell) (hg : gok g S) : ∀ (items ys : List D),
    (∀ x, x ∈ items → ∃ r1, tg x r0 = some r1 ∧ (∀ zs, ti r1 (S ++ [.lst zs]) = .ok (kp x) (S ++ [.lst zs])) ∧ (kp x = true → ∀ zs, fe r1 (S ++ [.lst zs]) = .ok (h x) (S ++ [.lst zs]))) → ys.length + items.length ≤ 1000000 →
    cTurns tg ti fe S.length g r0 items (S ++ [.lst ys]) = .ok () (S ++ [.lst (ys ++ (items.filter kp).map h)])
  | [], ys, _, _ => by simp [cTurns]
  | x :: xs, ys, hx, hl => by
    obtain ⟨r1, h1, h2, h3⟩ := hx x (by simp)
    have hgk : ∀ zs, gok g (S ++ [Cell.lst zs]) := fun zs => by
      cases g with
      | none => trivial
      | some p => exact push_old hg
    unfold cTurns
    rw [h1]
    dsimp only
    rw [h2]
    cases hk : kp x with
    | false =>
      dsimp only
      rw [if_pos (hgk _), cTurns_map kp h g S hg xs ys (fun y hy => hx y (List.mem_cons_of_mem _ hy)) (by simp at hl; omega)]
      rw [List.filter_cons_of_neg (by simp [hk])]
    | true =>
      have hset : (S ++ [Cell.lst ys]).set S.length (.lst (ys ++ [h x])) = S ++ [.lst (ys ++ [h x])] := by
        rw [List.set_append_right _ _ (Nat.le_refl _)]
        simp
      dsimp only
      rw [h3 hk]
      dsimp only
      rw [List.getElem?_append_right (Nat.le_refl _)]
      simp only [Nat.sub_self, List.getElem?_cons_zero]
      rw [hset, cif_pos ⟨szM (by simp at hl; omega), hgk _⟩, cTurns_map kp h g S hg xs (ys ++ [h x]) (fun y hy => hx y (List.mem_cons_of_mem _ hy)) (by simp at hl ⊢; omega)]
      rw [List.filter_cons_of_pos hk, List.map_cons, List.append_assoc]
      rfl
theorem ev_comp {f : DSt → M Wk} {tg : TGd} {ti : DSt → M Bool} {fe : DSt → M D} {own : Nat} {caps : List Nat} {r : DSt} {S S1 : List Cell} {w : Wk} (kp : D → Bool) (h : D → D) (h1 : f r S = .ok w S1) (hg : gok w.guard S1) (hz : w.items.length ≤ 1000000)
    (hx : ∀ x, x ∈ w.items → ∃ r1, tg x (capR own caps r) = some r1 ∧ (∀ zs, ti r1 (S1 ++ [.lst zs]) = .ok (kp x) (S1 ++ [.lst zs])) ∧ (kp x = true → ∀ zs, fe r1 (S1 ++ [.lst zs]) = .ok (h x) (S1 ++ [.lst zs]))) :
    dComp f tg ti fe own caps r S = .ok (.ob S1.length) (S1 ++ [.lst ((w.items.filter kp).map h)]) := by
  unfold dComp
  rw [e_bind, h1]
  dsimp only
  rw [cTurns_map kp h w.guard S1 hg w.items [] hx (by simpa using hz)]
  rfl
theorem wh_F {c : DSt → M Bool} {b : TSt} {k : Nat} {r : DSt} {S S1 : List Cell} (h : c r S = .ok false S1) : sWhile c b (k + 1) r S = some (.nx r, S1) := by
  unfold sWhile
  rw [h]
theorem wh_T {c : DSt → M Bool} {b : TSt} {k : Nat} {r r2 : DSt} {S S1 S2 : List Cell} (h : c r S = .ok true S1) (hb : b r S1 = some (.nx r2, S2)) : sWhile c b (k + 1) r S = sWhile c b k r2 S2 := by
  rw [sWhile]
  dsimp only
  rw [h]
  dsimp only
  rw [hb]
theorem go_for {f : DSt → M Wk} {tg : TGd} {b : TSt} {r : DSt} {S S1 : List Cell} {w : Wk} (h : f r S = .ok w S1) : sFor f tg b r S = sTurns w.guard tg b w.items r S1 := by
  unfold sFor
  rw [e_sBind, h]
theorem wRng_eq {S : List Cell} {n : Nat} (h : n ≤ 1000000) : wRng1 (.int (n : Int)) S = .ok ⟨rngD 0 1 n, none⟩ S := wRng_small h
end DL
namespace DL
open PySem PySem.Spec PyProof.Rows L2
mutual
theorem pD_lay {S : List Cell} : ∀ {n : Nat} {d : D} {p : PyData}, pD S n d = some p → p.canLay0 = true
  | 0, d, p, h => by unfold pD at h; cases h
  | n + 1, .non, p, h => by simp only [pD] at h; cases h; rfl
  | n + 1, .bl b, p, h => by simp only [pD] at h; cases h; rfl
  | n + 1, .int i, p, h => by simp only [pD] at h; cases h; rfl
  | n + 1, .str x, p, h => by
    simp only [pD] at h
    split at h
    · rename_i q
      cases h
      exact q
    · cases h
  | n + 1, .tup xs, p, h => by
    simp only [pD] at h
    cases e : pDs S n xs with
    | none => rw [e] at h; cases h
    | some ps => rw [e] at h; cases h; exact pDs_lay e
  | n + 1, .rol xs, p, h => by
    simp only [pD] at h
    cases e : pDs S n xs with
    | none => rw [e] at h; cases h
    | some ps => rw [e] at h; cases h; exact pDs_lay e
  | n + 1, .ob k, p, h => by
    simp only [pD] at h
    split at h
    · rename_i xs _
      cases e : pDs S n xs with
      | none => rw [e] at h; cases h
      | some ps => rw [e] at h; cases h; exact pDs_lay e
    · cases h
  | n + 1, .xn c, p, h => by simp only [pD] at h; cases h
theorem pDs_lay {S : List Cell} : ∀ {n : Nat} {xs : List D} {ps : List PyData}, pDs S n xs = some ps → PyData.canLayAll0 ps = true
  | n, [], ps, h => by simp only [pDs] at h; cases h; rfl
  | n, x :: xs, ps, h => by
    simp only [pDs] at h
    cases e1 : pD S n x with
    | none => rw [e1] at h; cases h
    | some p =>
      rw [e1] at h
      cases e2 : pDs S n xs with
      | none => rw [e2] at h; cases h
      | some qs =>
        rw [e2] at h
        cases h
        show (PyData.canLay0 p && PyData.canLayAll0 qs) = true
        rw [pD_lay e1, pDs_lay e2]
        rfl
end
section
variable {S : List Cell} {x y : D} {p : PyData}
theorem ne_same (h1 : pD S 30 x = some p) (h2 : pD S 30 y = some p) : neD x y S = .ok (.bl false) S := by
  simp only [neD, h1, h2, PySem.SeqAt.eqv_refl p (pD_lay h1)]
  rfl
theorem pD_ob {n l : Nat} {xs : List D} (h : S[l]? = some (.lst xs)) : pD S (n + 1) (.ob l) = (pDs S n xs).map .list := by simp only [pD, h]
theorem pD_tup {n : Nat} {xs : List D} : pD S (n + 1) (.tup xs) = (pDs S n xs).map .tuple := by simp only [pD]
theorem pDs_map {α : Type} {f : α → D} {n : Nat} : ∀ {l : List α}, (∀ a, a ∈ l → ∃ p, pD S n (f a) = some p) → ∃ ps, pDs S n (l.map f) = some ps
  | [], _ => ⟨[], by simp [pDs]⟩
  | a :: l, h => by
    obtain ⟨p, hp⟩ := h a (by simp)
    obtain ⟨ps, hps⟩ := pDs_map (l := l) fun b hb => h b (List.mem_cons_of_mem _ hb)
    exact ⟨p :: ps, by rw [List.map_cons]; simp only [pDs, hp, hps]⟩
theorem ne_lists {l l' : Nat} {xs : List D} (h1 : S[l]? = some (.lst xs)) (h2 : S[l']? = some (.lst xs)) (h : ∃ ps, pDs S 29 xs = some ps) : neD (.ob l) (.ob l') S = .ok (.bl false) S := by
  obtain ⟨ps, hp⟩ := h
  exact ne_same (p := .list ps) (by rw [pD_ob h1, hp]; rfl) (by rw [pD_ob h2, hp]; rfl)
end
end DL
namespace DL
open PySem PySem.Spec PyProof.Rows L2
theorem noFill_tuple_mul : fillsNumberSlot (.type "tuple") "mul" = pure false :=
  PySem.fillsNumberSlot_seq (id := "tuple.__mul__") (r := some (.builtin "tuple.__rmul__")) PySem.F.slot_tuple_mul.lookup (by decide +kernel) PySem.F.slot_tuple_rmul.lookup (by decide +kernel)
theorem repeat_tuple : seqRepeat? (.type "tuple") = pure (some (.builtin "tuple.__mul__")) := by
  unfold seqRepeat?
  rw [PySem.seqSlot_of (T := "tuple") (name := "__mul__") (id := "tuple.__mul__") PySem.F.slot_tuple_mul.lookup (by decide +kernel), PySem.seqSlot_of (T := "tuple") (name := "__rmul__") (id := "tuple.__rmul__") PySem.F.slot_tuple_rmul.lookup (by decide +kernel)]
  rfl
theorem int_rmul_tuple (a : Int) (t : Tok) (l : Addr) (items : Array Value) (n : Nat) (dd : Option Addr) (sl : Array (Option Value)) :
    Meets (Builtin.«int.__rmul__» ⟨[.int a t, .ref l], []⟩) (fun _ R s => s.heap.get? l = some { cls := .type "tuple", dict := dd, data := .seq items n, slots := sl } ∧ R (.ok (.ret Value.notImplemented)) s) :=
  .of_wp fun prog w A R s h => by obtain ⟨hp, g, d, tk, os⟩ := s; obtain ⟨hl, h⟩ := h; wp_walk; exact ⟨_, rfl, h⟩
theorem tuple_mul1 (l : Addr) (items : Array Value) (n : Nat) (dd : Option Addr) (sl : Array (Option Value)) (x : Int) (u : Tok) (hx : x = 1) :
    Meets (Builtin.«tuple.__mul__» ⟨[.ref l, .int x u], []⟩) (fun _ R s => s.heap.get? l = some { cls := .type "tuple", dict := dd, data := .seq items n, slots := sl } ∧ R (.ok (.ret (Value.ref l))) s) :=
  .of_wp fun prog w A R s h => by
    subst hx
    obtain ⟨hp, g, d, tk, os⟩ := s; obtain ⟨hl, h⟩ := h; have f1 := AutoSeq1.idx_int; have f2 := AutoSeq1.sub_tuple_tuple
    wp_walk using AutoSeq1.wpAny_loadPart' hl
    exact ⟨_, rfl, h⟩
theorem tuple_mul2 (l : Addr) (items : Array Value) (n : Nat) (dd : Option Addr) (sl : Array (Option Value)) (x : Int) (u : Tok) (hc0 : ¬ (decide (x < -(2 ^ 63)) || decide (x ≥ 2 ^ 63)) = true) (hc1 : ¬ (items.isEmpty || x == 1) = true) (hc2 : ¬ (decide (x ≤ 0) || items.isEmpty) = true) (hc3 : ¬ items.size * x > (2 ^ 63 - 1) / 8) (hc4 : ¬ Builtin.Tuple.tupleTooMany (items.size * x) = true) (hc5 : (List.foldl (fun x1 x2 => x1 ++ x2) #[] (List.replicate x.toNat items)).size ≤ sizeLine) :
    Meets (Builtin.«tuple.__mul__» ⟨[.ref l, .int x u], []⟩) (fun _ R s => s.heap.get? l = some { cls := .type "tuple", dict := dd, data := .seq items n, slots := sl } ∧ R (.ok (.ret (Value.ref s.heap.objs.size))) { s with heap := s.heap.push { cls := Value.type "tuple", data := Data.seq (List.foldl (fun x1 x2 => x1 ++ x2) #[] (List.replicate x.toNat items)) } }) :=
  .of_wp fun prog w A R s h => by
    obtain ⟨hp, g, d, tk, os⟩ := s; obtain ⟨hl, h⟩ := h; have f1 := AutoSeq1.idx_int; have f2 := AutoSeq1.sub_tuple_tuple
    wp_walk using AutoSeq1.wpAny_loadPart' hl
    refine wpAny_ite_false (decide_eq_false hc0) ?_
    wp_walk using AutoSeq1.wpAny_loadPart' hl
    refine wpAny_ite_false (decide_eq_false hc3) ?_
    wp_walk using AutoSeq1.wpAny_loadPart' hl
    exact ⟨_, rfl, h⟩
noncomputable def mulTD : D → D → M D
  | .tup xs, .int k => fun S => cif ((xs ≠ [] ∧ 1 ≤ k ∧ k < 1000000) ∧ xs.length * k.toNat ≤ sizeLine) (.ok (.tup (List.replicate k.toNat xs).flatten) S) .bad
  | x, y => mulD x y
section
variable {X : Cx}
theorem od_mulT : OpD X (binaryOp .Mult) mulTD := by
  intro pins s σ H J S x y vx vy v u Q E I rs rx ry rv ru m
  by_cases hxy : ∃ xs k, x = .tup xs ∧ y = .int k
  · obtain ⟨xs, k, rfl, rfl⟩ := hxy
    obtain ⟨a, vs, rfl, ha, rvs⟩ := rx.tup_
    cases ry.int_
    cases rv
    obtain ⟨t, rfl⟩ := ru
    obtain ⟨its, r1, p1, _⟩ := I.tuple ha
    simp only [mulTD, cif] at m
    split at m
    · rename_i hz
      obtain ⟨⟨hne, hk1, hk2⟩, hz⟩ := hz
      obtain ⟨⟨cls, dd, data, sl⟩, ho, hc, n, hd⟩ := id p1
      simp only at hc hd
      subst hc hd
      have hil : its.length = xs.length := by rw [← r1.length, rvs.length]
      have hine : its ≠ [] := fun z => hne (rvs.nil_iff.mp (r1.nil_iff.mp z))
      have hnew : ∀ m : Nat, List.foldl (fun x1 x2 => x1 ++ x2) #[] (List.replicate m its.toArray) = (List.replicate m its).flatten.toArray := fun m => by
        have := foldl_rep its m []
        rw [List.nil_append] at this
        exact this
      refine wpAny_binaryOp_repeat_ref (T := "tuple") (U := "int") (by decide) ⟨_, ho, rfl⟩ (fun s' => typeIs_int s' k t) noFill_tuple_mul PySem.F.fills_int_mul PySem.F.slot_int_rmul repeat_tuple PySem.F.slot_int_index.lookup
        (call_meets PySem.F.slot_int_rmul (typeIs_int s k t) PySem.F.entry_int_rmul (PySem.F.args_int_rmul_2 _ _) (int_rmul_tuple k t a its.toArray n dd sl) ⟨ho, rfl, ⟨_, ho, rfl⟩, ?_⟩)
      by_cases h1 : k = 1
      · refine call_meets PySem.F.slot_tuple_mul ⟨_, ho, rfl⟩ PySem.F.entry_tuple_mul (PySem.F.args_tuple_mul_2 _ _) (tuple_mul1 a its.toArray n dd sl k t h1) ⟨ho, ?_⟩
        subst h1
        exact m.ok_ (v := .ref a) I rs (by simp; exact .tup ha rvs) rfl
      · have hsz : (List.replicate k.toNat its).flatten.length ≤ sizeLine := by rw [len_rep, hil, Nat.mul_comm]; exact hz
        have hcap : (sizeLine : Int) ≤ (2 ^ 63 - 1) / 8 := by decide
        have hmul : (its.toArray.size : Int) * k ≤ (sizeLine : Int) := by
          have e1 : ((its.toArray.size * k.toNat : Nat) : Int) = (its.toArray.size : Int) * k := by rw [Int.natCast_mul, Int.toNat_of_nonneg (by omega)]
          rw [← e1, List.size_toArray, hil]
          omega
        refine call_meets PySem.F.slot_tuple_mul ⟨_, ho, rfl⟩ PySem.F.entry_tuple_mul (PySem.F.args_tuple_mul_2 _ _) (tuple_mul2 a its.toArray n dd sl k t ?_ ?_ ?_ ?_ ?_ ?_) ⟨ho, ?_⟩
        · simp only [Bool.or_eq_true, decide_eq_true_eq, not_or]
          omega
        · simp [hine, h1]
        · simp [hine]
          omega
        · omega
        · unfold Builtin.Tuple.tupleTooMany
          simp only [decide_eq_true_eq]
          omega
        · rw [hnew, List.size_toArray]
          exact hsz
        · rw [hnew]
          have hf : H s.heap.objs.size = none := I.hok.fresh (Nat.le_refl _)
          refine m.val (H' := upd H s.heap.objs.size (.tup (List.replicate k.toNat vs).flatten)) (v := .ref s.heap.objs.size) (I.laid (t' := s.toks) (fun b u e => Heap.get?_push_of_some _ e) (Nat.le_refl _) ?_) rfl (Got.tup rs (rvs.rep _) hf)
          exact ⟨by rw [len_rep, r1.length, Nat.mul_comm, hil]; exact hz, _, r1.rep _, IsTup.new _ _⟩
    · exact m.elim
  · have e : mulTD x y = mulD x y := by
      unfold mulTD
      split
      · exact absurd ⟨_, _, rfl, rfl⟩ hxy
      · rfl
    rw [e] at m
    exact od_mul _ _ _ _ _ _ _ _ _ _ _ _ _ _ I rs rx ry rv ru m
theorem e_mulT {S : List Cell} {xs : List D} {k : Nat} (h0 : xs ≠ []) (h1 : 1 ≤ k) (h2 : k ≤ 1000) (h3 : xs.length ≤ 1000) : mulTD (.tup xs) (.int (k : Int)) S = .ok (.tup (List.replicate k xs).flatten) S := by
  have hm : xs.length * k ≤ 1000000 := Nat.le_trans (Nat.mul_le_mul h3 h2) (by decide)
  show cif ((xs ≠ [] ∧ 1 ≤ (k : Int) ∧ (k : Int) < 1000000) ∧ xs.length * (k : Int).toNat ≤ sizeLine) _ _ = _
  have hz : xs.length * (k : Int).toNat ≤ sizeLine := by rw [Int.toNat_natCast]; exact Nat.le_of_lt (szM hm)
  rw [cif_pos ⟨⟨h0, by omega, by omega⟩, hz⟩, Int.toNat_natCast]
end
end DL
namespace Lw
open PySem L2 DL
open PyProof.Rows (boot_max boot_min boot_sum boot_all boot_int boot_tuple boot_list boot_isinstance boot_range boot_enumerate boot_bool)
def top (i : Nat) : Stmt := PySem.Challenge.pw_sureroad_k09_opened_anew.main.body.getD i (.Pass ⟨0, 0, 0, 0⟩)
abbrev s__law_mix : Stmt := top 10
abbrev s__law_cell : Stmt := top 9
abbrev s__law_setting : Stmt := top 13
abbrev s_Sender___init__ : Stmt := inClass (top 7) 0
abbrev s_pieces_of : Stmt := top 5
abbrev s_Sender_open_anew : Stmt := inClass (top 7) 4
abbrev s_Sender_start : Stmt := inClass (top 7) 2
abbrev s_goes_round : Stmt := top 1
abbrev s_index_near : Stmt := top 3
abbrev s_Sender_move_base : Stmt := inClass (top 7) 11
abbrev s_Sender_note_pieces : Stmt := inClass (top 7) 12
abbrev s_Sender_hears_note : Stmt := inClass (top 7) 10
abbrev s_Sender_hears_own : Stmt := inClass (top 7) 9
abbrev s_Sender_hears : Stmt := inClass (top 7) 8
abbrev s__law_message : Stmt := top 11
abbrev s_Sender_hand : Stmt := inClass (top 7) 1
abbrev s__law_pieces : Stmt := top 12
abbrev s__law_opened : Stmt := top 17
abbrev s__law_noted : Stmt := top 18
abbrev s_Sender_fall : Stmt := inClass (top 7) 3
abbrev s_number_of : Stmt := top 2
abbrev s_Sender_data_of : Stmt := inClass (top 7) 7
abbrev s_Sender_wanted : Stmt := inClass (top 7) 6
abbrev s_Sender_tick : Stmt := inClass (top 7) 5
abbrev s_law : Stmt := top 19
structure Cs where
  Sender : Addr
abbrev ns_Sender : List Str := ["window", "most", "messages", "sure", "opening", "state", "pieces", "base", "noted"]
theorem nd_Sender : ns_Sender.Nodup := by decide +kernel
structure Txt (K : PySem.W.Frag) (mg : Str → Option Value) (G : Cs) : Prop where
  b_enumerate : mg "enumerate" = none
  b_int : mg "int" = none
  b_len : mg "len" = none
  b_max : mg "max" = none
  b_min : mg "min" = none
  b_range : mg "range" = none
  b_sum : mg "sum" = none
  b_tuple : mg "tuple" = none
  cl_Sender : Cls K G.Sender
  na_Sender_window : NoAttr K G.Sender "window"
  na_Sender_most : NoAttr K G.Sender "most"
  na_Sender_messages : NoAttr K G.Sender "messages"
  na_Sender_sure : NoAttr K G.Sender "sure"
  na_Sender_opening : NoAttr K G.Sender "opening"
  na_Sender_state : NoAttr K G.Sender "state"
  na_Sender_pieces : NoAttr K G.Sender "pieces"
  na_Sender_base : NoAttr K G.Sender "base"
  na_Sender_noted : NoAttr K G.Sender "noted"
section
variable {P : Program} {w : World} {K : PySem.W.Frag} {mg : Str → Option Value} {base : Heap}
theorem sc__law_mix : FnScope ["_law_cell_here", "_law_prime", "_law_many"] ["_law_cell_here", "_law_prime", "_law_many"] (defScope s__law_mix) := ⟨rfl, rfl, rfl, by decide +kernel, rfl, by decide +kernel, by decide +kernel⟩
noncomputable def cd__law_mix : TSt := (sRet (dOp modD (dOp modD (dOp mulD (dVar 0) (dC (.int 48271))) (dVar 1)) (dVar 2)))
noncomputable def F__law_mix : List D → M D := fun xs S => fin S (cd__law_mix (xs.map some ++ List.replicate (3 - xs.length) none) S)
theorem ok__law_mix {G : Cs} (T : Txt K mg G) {f : Addr} {fd : FuncData} (F : Fun K "_law_mix" "_law_mix" s__law_mix f fd) : FnD P w K mg base CX0 1 f fd ["_law_cell_here", "_law_prime", "_law_many"] F__law_mix := by
  refine fnD_of F sc__law_mix (fun _ _ _ _ _ _ => leaves0) (fun cdv A outer s H E hr => ⟨cd__law_mix, ?_, fun xs S0 hl => fend_fin⟩)
  have hu := hr.units
  exact (ssd_one (sd_ret (pd_op od_mod (pd_op od_mod (pd_op od_mul (pd_var 0) pd_int) (pd_var 1)) (pd_var 2))))
theorem sc__law_cell : FnScope ["_law_script", "_law_k"] ["_law_script", "_law_k"] (defScope s__law_cell) := ⟨rfl, rfl, rfl, by decide +kernel, rfl, by decide +kernel, by decide +kernel⟩
noncomputable def cd__law_cell : TSt := (sSeq (sIf (dTest (dOp ltD (dVar 1) (dCall lenD (dCons (dVar 0) dNil)))) (sRet (dOp ixD (dVar 0) (dVar 1))) sNext)
  (sRet (dC (.int 0))))
noncomputable def F__law_cell : List D → M D := fun xs S => fin S (cd__law_cell (xs.map some ++ List.replicate (2 - xs.length) none) S)
theorem ok__law_cell {G : Cs} (T : Txt K mg G) {f : Addr} {fd : FuncData} (F : Fun K "_law_cell" "_law_cell" s__law_cell f fd) : FnD P w K mg base CX0 1 f fd ["_law_script", "_law_k"] F__law_cell := by
  refine fnD_of F sc__law_cell (fun _ _ _ _ _ _ => leaves0) (fun cdv A outer s H E hr => ⟨cd__law_cell, ?_, fun xs S0 hl => fend_fin⟩)
  have hu := hr.units
  exact (ssd_cons (sd_if (pt_cmpD od_lt (pd_var 1) (pd_callB cd_len rfl T.b_len PySem.boot_len (pad_cons (pd_var 0) pad_nil)) (nomark _)) (ssd_one (sd_ret (pd_ix ixd (pd_var 0) (pd_var 1) (fun _ _ => rfl)))) ssd_nil)
      (ssd_one (sd_ret pd_int)))
theorem sc__law_setting : FnScope ["_law_script", "_law_window", "_law_most"] ["_law_script"] (defScope s__law_setting) := ⟨rfl, rfl, rfl, by decide +kernel, rfl, by decide +kernel, by decide +kernel⟩
noncomputable def cd__law_setting : TSt := (sSeq (sAsg (dOp addD (dC (.int 1)) (dCall F__law_mix (dCons (dCall F__law_cell (dCons (dVar 0) (dCons (dC (.int 0)) dNil))) (dCons (dC (.int 9883)) (dCons (dC (.int 7)) dNil))))) (gN 1))
  (sSeq (sAsg (dOp addD (dC (.int 1)) (dCall F__law_mix (dCons (dCall F__law_cell (dCons (dVar 0) (dCons (dC (.int 1)) dNil))) (dCons (dC (.int 9871)) (dCons (dC (.int 8)) dNil))))) (gN 2))
  (sRet (dTup (dCons (dVar 1) (dCons (dVar 2) dNil))))))
noncomputable def F__law_setting : List D → M D := fun xs S => fin S (cd__law_setting (xs.map some ++ List.replicate (3 - xs.length) none) S)
theorem ok__law_setting {G : Cs} (T : Txt K mg G) (h__law_cell : Cal P w K mg base CX0 "_law_cell" 1 ["_law_script", "_law_k"] F__law_cell) (h__law_mix : Cal P w K mg base CX0 "_law_mix" 1 ["_law_cell_here", "_law_prime", "_law_many"] F__law_mix) {f : Addr} {fd : FuncData} (F : Fun K "_law_setting" "_law_setting" s__law_setting f fd) : FnD P w K mg base CX0 2 f fd ["_law_script"] F__law_setting := by
  refine fnD_of F sc__law_setting (fun _ _ _ _ _ _ => leaves0) (fun cdv A outer s H E hr => ⟨cd__law_setting, ?_, fun xs S0 hl => fend_fin⟩)
  have hu := hr.units
  exact (ssd_cons (sd_set (i := 1) sc__law_setting.nd (pd_op od_add pd_int (pd_calC h__law_mix (hr.mono (by decide)) rfl passD0 (pad_cons (pd_calC h__law_cell (hr.mono (by decide)) rfl passD0 (pad_cons (pd_var 0) (pad_cons pd_int pad_nil)) (dl_cons (dl_cons dl_nil))) (pad_cons pd_int (pad_cons pd_int pad_nil))) (dl_cons (dl_cons (dl_cons dl_nil))))))
      (ssd_cons (sd_set (i := 2) sc__law_setting.nd (pd_op od_add pd_int (pd_calC h__law_mix (hr.mono (by decide)) rfl passD0 (pad_cons (pd_calC h__law_cell (hr.mono (by decide)) rfl passD0 (pad_cons (pd_var 0) (pad_cons pd_int pad_nil)) (dl_cons (dl_cons dl_nil))) (pad_cons pd_int (pad_cons pd_int pad_nil))) (dl_cons (dl_cons (dl_cons dl_nil))))))
      (ssd_one (sd_ret (pd_tup (pad_cons (pd_var 1) (pad_cons (pd_var 2) pad_nil)))))))
theorem sc_Sender___init__ : FnScope ["self", "window", "most"] ["self", "window", "most"] (defScope s_Sender___init__) := ⟨rfl, rfl, rfl, by decide +kernel, rfl, by decide +kernel, by decide +kernel⟩
noncomputable def cd_Sender___init__ (G : Cs) : TSt := (sSeq (sFldN G.Sender [] "window" (dVar 0) (dVar 1))
  (sSeq (sFldN G.Sender ["window"] "most" (dVar 0) (dVar 2))
  (sSeq (sFldN G.Sender ["window", "most"] "messages" (dVar 0) (dLst dNil))
  (sSeq (sFldN G.Sender ["window", "most", "messages"] "sure" (dVar 0) (dC (.int 0)))
  (sSeq (sFldN G.Sender ["window", "most", "messages", "sure"] "opening" (dVar 0) (dC (.int 0)))
  (sSeq (sFldN G.Sender ["window", "most", "messages", "sure", "opening"] "state" (dVar 0) (dC (.str "shut")))
  (sSeq (sFldN G.Sender ["window", "most", "messages", "sure", "opening", "state"] "pieces" (dVar 0) (dLst dNil))
  (sSeq (sFldN G.Sender ["window", "most", "messages", "sure", "opening", "state", "pieces"] "base" (dVar 0) (dC (.int 0)))
  (sFldN G.Sender ["window", "most", "messages", "sure", "opening", "state", "pieces", "base"] "noted" (dVar 0) dDic0)))))))))
noncomputable def F_Sender___init__ (G : Cs) : List D → M D := fun xs S => fin S (cd_Sender___init__ G (xs.map some ++ List.replicate (3 - xs.length) none) S)
theorem ok_Sender___init__ {G : Cs} (T : Txt K mg G) {f : Addr} {fd : FuncData} (F : Fun K "__init__" "Sender.__init__" s_Sender___init__ f fd) : FnD P w K mg base CX0 1 f fd ["self", "window", "most"] (F_Sender___init__ G) := by
  refine fnD_of F sc_Sender___init__ (fun _ _ _ _ _ _ => leaves0) (fun cdv A outer s H E hr => ⟨cd_Sender___init__ G, ?_, fun xs S0 hl => fend_fin⟩)
  have hu := hr.units
  exact (ssd_cons (sd_fldN T.cl_Sender T.na_Sender_window (by decide) (by decide +kernel) (pd_var 0) (pd_var 1))
      (ssd_cons (sd_fldN T.cl_Sender T.na_Sender_most (by decide) (by decide +kernel) (pd_var 0) (pd_var 2))
      (ssd_cons (sd_fldN T.cl_Sender T.na_Sender_messages (by decide) (by decide +kernel) (pd_var 0) (pd_lst pad_nil))
      (ssd_cons (sd_fldN T.cl_Sender T.na_Sender_sure (by decide) (by decide +kernel) (pd_var 0) pd_int)
      (ssd_cons (sd_fldN T.cl_Sender T.na_Sender_opening (by decide) (by decide +kernel) (pd_var 0) pd_int)
      (ssd_cons (sd_fldN T.cl_Sender T.na_Sender_state (by decide) (by decide +kernel) (pd_var 0) pd_str)
      (ssd_cons (sd_fldN T.cl_Sender T.na_Sender_pieces (by decide) (by decide +kernel) (pd_var 0) (pd_lst pad_nil))
      (ssd_cons (sd_fldN T.cl_Sender T.na_Sender_base (by decide) (by decide +kernel) (pd_var 0) pd_int)
      (ssd_one (sd_fldN T.cl_Sender T.na_Sender_noted (by decide) (by decide +kernel) (pd_var 0) pd_dic0))))))))))
theorem sc_pieces_of : FnScope ["message", "most", "size", "pieces", "rest"] ["message", "most"] (defScope s_pieces_of) := ⟨rfl, rfl, rfl, by decide +kernel, rfl, by decide +kernel, by decide +kernel⟩
noncomputable def cd_pieces_of (fuel : Nat) : TSt := (sSeq (sAsg (dCall maxD (dCons (dVar 1) (dCons (dC (.int 1)) dNil))) (gN 2))
  (sSeq (sAsg (dLst dNil) (gN 3))
  (sSeq (sAsg (dVar 0) (gN 4))
  (sSeq (sWhile (dTest (dOp gtD (dCall lenD (dCons (dVar 4) dNil)) (dVar 2))) (sSeq (sDrop (dBM appD (dVar 3) (dCons (dTup (dCons (dC (.int 0)) (dCons (dSl slD (dVar 4) dNoPart (dPart (dVar 2))) dNil))) dNil)))
  (sAsg (dSl slD (dVar 4) (dPart (dVar 2)) dNoPart) (gN 4))) fuel)
  (sSeq (sDrop (dBM appD (dVar 3) (dCons (dTup (dCons (dC (.int 1)) (dCons (dVar 4) dNil))) dNil)))
  (sRet (dCall tupleD (dCons (dVar 3) dNil))))))))
noncomputable def F_pieces_of : List D → M D := fun xs S => finP S (cd_pieces_of 100 (xs.map some ++ List.replicate (5 - xs.length) none) S)
theorem ok_pieces_of {G : Cs} (T : Txt K mg G) {f : Addr} {fd : FuncData} (F : Fun K "pieces_of" "pieces_of" s_pieces_of f fd) : FnD P w K mg base CX0 1 f fd ["message", "most"] F_pieces_of := by
  refine fnD_of F sc_pieces_of (fun _ _ _ _ _ _ => leaves0) (fun cdv A outer s H E hr => ⟨cd_pieces_of 100, ?_, fun xs S0 hl => fend_finP⟩)
  have hu := hr.units
  have hfu : (100 : Nat) = 100 := rfl
  generalize hfe : (100 : Nat) = fuel at hfu
  exact (ssd_cons (sd_set (i := 2) sc_pieces_of.nd (pd_callB (cd_max rfl) rfl T.b_max boot_max (pad_cons (pd_var 1) (pad_cons pd_int pad_nil))))
      (ssd_cons (sd_set (i := 3) sc_pieces_of.nd (pd_lst pad_nil))
      (ssd_cons (sd_set (i := 4) sc_pieces_of.nd (pd_var 0))
      (ssd_cons (sd_while fuel (pt_cmpD od_gt (pd_callB cd_len rfl T.b_len PySem.boot_len (pad_cons (pd_var 4) pad_nil)) (pd_var 2) (nomark _)) (ssd_cons (sd_expr (pd_bmL PySem.F.slot_list_append PySem.F.type_list_append md_append (pd_var 3) (pad_cons (pd_tup (pad_cons pd_int (pad_cons (pd_slice sld (pd_var 4) pod_none (pod_some (pd_var 2))) pad_nil))) pad_nil)))
      (ssd_one (sd_set (i := 4) sc_pieces_of.nd (pd_slice sld (pd_var 4) (pod_some (pd_var 2)) pod_none)))))
      (ssd_cons (sd_expr (pd_bmL PySem.F.slot_list_append PySem.F.type_list_append md_append (pd_var 3) (pad_cons (pd_tup (pad_cons pd_int (pad_cons (pd_var 4) pad_nil))) pad_nil)))
      (ssd_one (sd_ret (pd_callTy cd_tuple rfl T.b_tuple boot_tuple (pad_cons (pd_var 3) pad_nil)))))))))
theorem sc_Sender_open_anew : FnScope ["self", "message"] ["self"] (defScope s_Sender_open_anew) := ⟨rfl, rfl, rfl, by decide +kernel, rfl, by decide +kernel, by decide +kernel⟩
noncomputable def bd_Sender_open_anew_1 (G : Cs) : TSt := (sDrop (dBM extD (dFld G.Sender ns_Sender 6 (dVar 0)) (dCons (dCall F_pieces_of (dCons (dVar 1) (dCons (dFld G.Sender ns_Sender 1 (dVar 0)) dNil))) dNil)))
noncomputable def cd_Sender_open_anew (G : Cs) : TSt := (sSeq (sFldA G.Sender ns_Sender 4 (dVar 0) (dC (.int 1)))
  (sSeq (sFld G.Sender ns_Sender 5 (dVar 0) (dC (.str "opening")))
  (sSeq (sFld G.Sender ns_Sender 6 (dVar 0) (dLst dNil))
  (sSeq (sFor (dWk (dSl slD (dFld G.Sender ns_Sender 2 (dVar 0)) (dPart (dFld G.Sender ns_Sender 3 (dVar 0))) dNoPart)) (gN 1) (bd_Sender_open_anew_1 G))
  (sSeq (sFld G.Sender ns_Sender 7 (dVar 0) (dC (.int 0)))
  (sFld G.Sender ns_Sender 8 (dVar 0) dDic0))))))
noncomputable def F_Sender_open_anew (G : Cs) : List D → M D := fun xs S => fin S (cd_Sender_open_anew G (xs.map some ++ List.replicate (2 - xs.length) none) S)
theorem ok_Sender_open_anew {G : Cs} (T : Txt K mg G) (h_pieces_of : Cal P w K mg base CX0 "pieces_of" 1 ["message", "most"] F_pieces_of) {f : Addr} {fd : FuncData} (F : Fun K "open_anew" "Sender.open_anew" s_Sender_open_anew f fd) : FnD P w K mg base CX0 2 f fd ["self"] (F_Sender_open_anew G) := by
  refine fnD_of F sc_Sender_open_anew (fun _ _ _ _ _ _ => leaves0) (fun cdv A outer s H E hr => ⟨cd_Sender_open_anew G, ?_, fun xs S0 hl => fend_fin⟩)
  have hu := hr.units
  exact (ssd_cons (sd_fldA T.cl_Sender T.na_Sender_opening nd_Sender (by decide) (pd_var 0) pd_int)
      (ssd_cons (sd_fld T.cl_Sender T.na_Sender_state nd_Sender (by decide) (pd_var 0) pd_str)
      (ssd_cons (sd_fld T.cl_Sender T.na_Sender_pieces nd_Sender (by decide) (pd_var 0) (pd_lst pad_nil))
      (ssd_cons (sd_for rfl (pid_seq (pd_slice sld (pd_fld T.cl_Sender T.na_Sender_messages nd_Sender (pd_var 0)) (pod_some (pd_fld T.cl_Sender T.na_Sender_sure nd_Sender (pd_var 0))) pod_none)) (gd_name (i := 1) sc_Sender_open_anew.nd) (ssd_one (sd_expr (pd_bmL PySem.F.slot_list_extend PySem.F.type_list_extend md_extend (pd_fld T.cl_Sender T.na_Sender_pieces nd_Sender (pd_var 0)) (pad_cons (pd_calC h_pieces_of (hr.mono (by decide)) rfl passD0 (pad_cons (pd_var 1) (pad_cons (pd_fld T.cl_Sender T.na_Sender_most nd_Sender (pd_var 0)) pad_nil)) (dl_cons (dl_cons dl_nil))) pad_nil)))))
      (ssd_cons (sd_fld T.cl_Sender T.na_Sender_base nd_Sender (by decide) (pd_var 0) pd_int)
      (ssd_one (sd_fld T.cl_Sender T.na_Sender_noted nd_Sender (by decide) (pd_var 0) pd_dic0)))))))
theorem sc_Sender_start : FnScope ["self"] ["self"] (defScope s_Sender_start) := ⟨rfl, rfl, rfl, by decide +kernel, rfl, by decide +kernel, by decide +kernel⟩
noncomputable def cd_Sender_start (G : Cs) : TSt := (sIf (dTest (dOp eqD (dFld G.Sender ns_Sender 5 (dVar 0)) (dC (.str "shut")))) (sDrop (dMeth G.Sender ns_Sender (F_Sender_open_anew G) (dVar 0) dNil)) sNext)
noncomputable def F_Sender_start (G : Cs) : List D → M D := fun xs S => fin S (cd_Sender_start G (xs.map some ++ List.replicate (1 - xs.length) none) S)
theorem ok_Sender_start {G : Cs} (T : Txt K mg G) (h_Sender_open_anew : CalM P w K mg base CX0 G.Sender "open_anew" 2 ["self"] (F_Sender_open_anew G)) {f : Addr} {fd : FuncData} (F : Fun K "start" "Sender.start" s_Sender_start f fd) : FnD P w K mg base CX0 3 f fd ["self"] (F_Sender_start G) := by
  refine fnD_of F sc_Sender_start (fun _ _ _ _ _ _ => leaves0) (fun cdv A outer s H E hr => ⟨cd_Sender_start G, ?_, fun xs S0 hl => fend_fin⟩)
  have hu := hr.units
  exact (ssd_one (sd_if (pt_cmpD (od_eq hu) (pd_fld T.cl_Sender T.na_Sender_state nd_Sender (pd_var 0)) pd_str (nomark _)) (ssd_one (sd_expr (pd_meth0 h_Sender_open_anew (hr.mono (by decide)) T.cl_Sender (by decide +kernel) passD0 (pd_var 0)))) ssd_nil))
theorem sc_goes_round : FnScope ["number", "window"] ["number", "window"] (defScope s_goes_round) := ⟨rfl, rfl, rfl, by decide +kernel, rfl, by decide +kernel, by decide +kernel⟩
noncomputable def cd_goes_round : TSt := (sRet (dChain leD ltD (dC (.int 0)) (dVar 0) (dOp mulD (dC (.int 2)) (dVar 1))))
noncomputable def F_goes_round : List D → M D := fun xs S => fin S (cd_goes_round (xs.map some ++ List.replicate (2 - xs.length) none) S)
theorem ok_goes_round {G : Cs} (T : Txt K mg G) {f : Addr} {fd : FuncData} (F : Fun K "goes_round" "goes_round" s_goes_round f fd) : FnD P w K mg base CX0 1 f fd ["number", "window"] F_goes_round := by
  refine fnD_of F sc_goes_round (fun _ _ _ _ _ _ => leaves0) (fun cdv A outer s H E hr => ⟨cd_goes_round, ?_, fun xs S0 hl => fend_fin⟩)
  have hu := hr.units
  exact (ssd_one (sd_ret (pd_chain od_le od_lt pd_int (pd_var 0) (pd_op od_mul pd_int (pd_var 1)))))
theorem sc_index_near : FnScope ["number", "low", "window"] ["number", "low", "window"] (defScope s_index_near) := ⟨rfl, rfl, rfl, by decide +kernel, rfl, by decide +kernel, by decide +kernel⟩
noncomputable def cd_index_near : TSt := (sRet (dOp addD (dVar 1) (dOp modD (dOp subD (dVar 0) (dVar 1)) (dOp mulD (dC (.int 2)) (dVar 2)))))
noncomputable def F_index_near : List D → M D := fun xs S => fin S (cd_index_near (xs.map some ++ List.replicate (3 - xs.length) none) S)
theorem ok_index_near {G : Cs} (T : Txt K mg G) {f : Addr} {fd : FuncData} (F : Fun K "index_near" "index_near" s_index_near f fd) : FnD P w K mg base CX0 1 f fd ["number", "low", "window"] F_index_near := by
  refine fnD_of F sc_index_near (fun _ _ _ _ _ _ => leaves0) (fun cdv A outer s H E hr => ⟨cd_index_near, ?_, fun xs S0 hl => fend_fin⟩)
  have hu := hr.units
  exact (ssd_one (sd_ret (pd_op od_add (pd_var 1) (pd_op od_mod (pd_op od_sub (pd_var 0) (pd_var 1)) (pd_op od_mul pd_int (pd_var 2))))))
theorem sc_Sender_move_base : FnScope ["self", "index"] ["self", "index"] (defScope s_Sender_move_base) := ⟨rfl, rfl, rfl, by decide +kernel, rfl, by decide +kernel, by decide +kernel⟩
noncomputable def cd_Sender_move_base (G : Cs) : TSt := (sSeq (sFldA G.Sender ns_Sender 3 (dVar 0) (dCall sumD (dCons (dComp (dWk (dSl slD (dFld G.Sender ns_Sender 6 (dVar 0)) (dPart (dFld G.Sender ns_Sender 7 (dVar 0))) (dPart (dVar 1)))) (gN 0) dYes (dOp ixD (dVar 0) (dC (.int 0))) 1 []) dNil)))
  (sFld G.Sender ns_Sender 7 (dVar 0) (dVar 1)))
noncomputable def F_Sender_move_base (G : Cs) : List D → M D := fun xs S => fin S (cd_Sender_move_base G (xs.map some ++ List.replicate (2 - xs.length) none) S)
theorem ok_Sender_move_base {G : Cs} (T : Txt K mg G) {f : Addr} {fd : FuncData} (F : Fun K "move_base" "Sender.move_base" s_Sender_move_base f fd) : FnD P w K mg base CX0 1 f fd ["self", "index"] (F_Sender_move_base G) := by
  refine fnD_of F sc_Sender_move_base (fun _ _ _ _ _ _ => leaves0) (fun cdv A outer s H E hr => ⟨cd_Sender_move_base G, ?_, fun xs S0 hl => fend_fin⟩)
  have hu := hr.units
  exact (ssd_cons (sd_fldA T.cl_Sender T.na_Sender_sure nd_Sender (by decide) (pd_var 0) (pd_callB (cd_sum rfl) rfl T.b_sum boot_sum (pad_cons (pd_comp (own := ["piece"]) (capN := []) (caps := []) ⟨rfl, ClOk.all trivial, rfl, by decide +kernel, rfl, by decide +kernel, trivial, by decide +kernel⟩ rfl (pid_seq (pd_slice sld (pd_fld T.cl_Sender T.na_Sender_pieces nd_Sender (pd_var 0)) (pod_some (pd_fld T.cl_Sender T.na_Sender_base nd_Sender (pd_var 0))) (pod_some (pd_var 1)))) (tgOwn_N (by decide)) (fun C s2 H2 fp => ⟨(gd_name (i := 0) (show (["piece"] : List Str).Nodup from by decide +kernel)), pf_nil, (pd_ix ixd (pd_var 0) pd_int (fun _ _ => rfl))⟩)) pad_nil)))
      (ssd_one (sd_fld T.cl_Sender T.na_Sender_base nd_Sender (by decide) (pd_var 0) (pd_var 1))))
theorem sc_Sender_note_pieces : FnScope ["self", "bits", "k", "bit"] ["self", "bits"] (defScope s_Sender_note_pieces) := ⟨rfl, rfl, rfl, by decide +kernel, rfl, by decide +kernel, by decide +kernel⟩
noncomputable def bd_Sender_note_pieces_1 (G : Cs) : TSt := (sIf (dAnd (dTest (dOp eqD (dVar 3) (dC (.int 1)))) (dTest (dOp ltD (dOp addD (dFld G.Sender ns_Sender 7 (dVar 0)) (dVar 2)) (dCall lenD (dCons (dFld G.Sender ns_Sender 6 (dVar 0)) dNil))))) (sPut putDD (dFld G.Sender ns_Sender 8 (dVar 0)) (dOp addD (dFld G.Sender ns_Sender 7 (dVar 0)) (dVar 2)) (dC (.bl true))) sNext)
noncomputable def cd_Sender_note_pieces (G : Cs) : TSt := (sFor (dEnum 0 (dVar 1)) (gT [2, 3]) (bd_Sender_note_pieces_1 G))
noncomputable def F_Sender_note_pieces (G : Cs) : List D → M D := fun xs S => fin S (cd_Sender_note_pieces G (xs.map some ++ List.replicate (4 - xs.length) none) S)
theorem ok_Sender_note_pieces {G : Cs} (T : Txt K mg G) {f : Addr} {fd : FuncData} (F : Fun K "note_pieces" "Sender.note_pieces" s_Sender_note_pieces f fd) : FnD P w K mg base CX0 1 f fd ["self", "bits"] (F_Sender_note_pieces G) := by
  refine fnD_of F sc_Sender_note_pieces (fun _ _ _ _ _ _ => leaves0) (fun cdv A outer s H E hr => ⟨cd_Sender_note_pieces G, ?_, fun xs S0 hl => fend_fin⟩)
  have hu := hr.units
  exact (ssd_one (sd_for rfl (pid_enum rfl T.b_enumerate (pd_var 1)) (gd_tup rfl (gds_cons (gd_name (i := 2) sc_Sender_note_pieces.nd) (gds_cons (gd_name (i := 3) sc_Sender_note_pieces.nd) gds_nil))) (ssd_one (sd_if (PWd.pt (pwd_and (pt_cmpD (od_eq hu) (pd_var 3) pd_int (nomark _)) (pwd_and1 (pt_cmpD od_lt (pd_op od_add (pd_fld T.cl_Sender T.na_Sender_base nd_Sender (pd_var 0)) (pd_var 2)) (pd_callB cd_len rfl T.b_len PySem.boot_len (pad_cons (pd_fld T.cl_Sender T.na_Sender_pieces nd_Sender (pd_var 0)) pad_nil)) (nomark _))))) (ssd_one (sd_put (std_dic hu) (pd_fld T.cl_Sender T.na_Sender_noted nd_Sender (pd_var 0)) (pd_op od_add (pd_fld T.cl_Sender T.na_Sender_base nd_Sender (pd_var 0)) (pd_var 2)) pd_bl)) ssd_nil))))
theorem sc_Sender_hears_note : FnScope ["self", "number", "bits", "index"] ["self", "number", "bits"] (defScope s_Sender_hears_note) := ⟨rfl, rfl, rfl, by decide +kernel, rfl, by decide +kernel, by decide +kernel⟩
noncomputable def cd_Sender_hears_note (G : Cs) : TSt := (sIf (dTru (dCall F_goes_round (dCons (dVar 1) (dCons (dFld G.Sender ns_Sender 0 (dVar 0)) dNil)))) (sSeq (sAsg (dCall F_index_near (dCons (dVar 1) (dCons (dFld G.Sender ns_Sender 7 (dVar 0)) (dCons (dFld G.Sender ns_Sender 0 (dVar 0)) dNil)))) (gN 3))
  (sIf (dTest (dOp leD (dVar 3) (dCall minD (dCons (dOp addD (dFld G.Sender ns_Sender 7 (dVar 0)) (dFld G.Sender ns_Sender 0 (dVar 0))) (dCons (dCall lenD (dCons (dFld G.Sender ns_Sender 6 (dVar 0)) dNil)) dNil))))) (sSeq (sDrop (dMeth G.Sender ns_Sender (F_Sender_move_base G) (dVar 0) (dCons (dVar 3) dNil)))
  (sDrop (dMeth G.Sender ns_Sender (F_Sender_note_pieces G) (dVar 0) (dCons (dVar 2) dNil)))) sNext)) sNext)
noncomputable def F_Sender_hears_note (G : Cs) : List D → M D := fun xs S => fin S (cd_Sender_hears_note G (xs.map some ++ List.replicate (4 - xs.length) none) S)
theorem ok_Sender_hears_note {G : Cs} (T : Txt K mg G) (h_goes_round : Cal P w K mg base CX0 "goes_round" 1 ["number", "window"] F_goes_round) (h_index_near : Cal P w K mg base CX0 "index_near" 1 ["number", "low", "window"] F_index_near) (h_Sender_move_base : CalM P w K mg base CX0 G.Sender "move_base" 1 ["self", "index"] (F_Sender_move_base G)) (h_Sender_note_pieces : CalM P w K mg base CX0 G.Sender "note_pieces" 1 ["self", "bits"] (F_Sender_note_pieces G)) {f : Addr} {fd : FuncData} (F : Fun K "hears_note" "Sender.hears_note" s_Sender_hears_note f fd) : FnD P w K mg base CX0 2 f fd ["self", "number", "bits"] (F_Sender_hears_note G) := by
  refine fnD_of F sc_Sender_hears_note (fun _ _ _ _ _ _ => leaves0) (fun cdv A outer s H E hr => ⟨cd_Sender_hears_note G, ?_, fun xs S0 hl => fend_fin⟩)
  have hu := hr.units
  exact (ssd_one (sd_if (pt_truD (pd_calC h_goes_round (hr.mono (by decide)) rfl passD0 (pad_cons (pd_var 1) (pad_cons (pd_fld T.cl_Sender T.na_Sender_window nd_Sender (pd_var 0)) pad_nil)) (dl_cons (dl_cons dl_nil)))) (ssd_cons (sd_set (i := 3) sc_Sender_hears_note.nd (pd_calC h_index_near (hr.mono (by decide)) rfl passD0 (pad_cons (pd_var 1) (pad_cons (pd_fld T.cl_Sender T.na_Sender_base nd_Sender (pd_var 0)) (pad_cons (pd_fld T.cl_Sender T.na_Sender_window nd_Sender (pd_var 0)) pad_nil))) (dl_cons (dl_cons (dl_cons dl_nil)))))
      (ssd_one (sd_if (pt_cmpD od_le (pd_var 3) (pd_callB (cd_min rfl) rfl T.b_min boot_min (pad_cons (pd_op od_add (pd_fld T.cl_Sender T.na_Sender_base nd_Sender (pd_var 0)) (pd_fld T.cl_Sender T.na_Sender_window nd_Sender (pd_var 0))) (pad_cons (pd_callB cd_len rfl T.b_len PySem.boot_len (pad_cons (pd_fld T.cl_Sender T.na_Sender_pieces nd_Sender (pd_var 0)) pad_nil)) pad_nil))) (nomark _)) (ssd_cons (sd_expr (pd_meth h_Sender_move_base (hr.mono (by decide)) T.cl_Sender (by decide +kernel) passD0 (pd_var 0) (pad_cons (pd_var 3) pad_nil) (dl_s (dl_cons dl_nil))))
      (ssd_one (sd_expr (pd_meth h_Sender_note_pieces (hr.mono (by decide)) T.cl_Sender (by decide +kernel) passD0 (pd_var 0) (pad_cons (pd_var 2) pad_nil) (dl_s (dl_cons dl_nil)))))) ssd_nil))) ssd_nil))
theorem sc_Sender_hears_own : FnScope ["self", "card"] ["self", "card"] (defScope s_Sender_hears_own) := ⟨rfl, rfl, rfl, by decide +kernel, rfl, by decide +kernel, by decide +kernel⟩
noncomputable def cd_Sender_hears_own (G : Cs) : TSt := (sIf (dAnd (dTest (dOp eqD (dOp ixD (dVar 1) (dC (.int 0))) (dC (.str "welcome")))) (dTest (dOp eqD (dFld G.Sender ns_Sender 5 (dVar 0)) (dC (.str "opening"))))) (sFld G.Sender ns_Sender 5 (dVar 0) (dC (.str "open"))) (sIf (dAnd (dTest (dOp eqD (dOp ixD (dVar 1) (dC (.int 0))) (dC (.str "who")))) (dTest (dOp eqD (dFld G.Sender ns_Sender 5 (dVar 0)) (dC (.str "open"))))) (sDrop (dMeth G.Sender ns_Sender (F_Sender_open_anew G) (dVar 0) dNil)) (sIf (dAnd (dTest (dOp eqD (dOp ixD (dVar 1) (dC (.int 0))) (dC (.str "note")))) (dTest (dOp eqD (dFld G.Sender ns_Sender 5 (dVar 0)) (dC (.str "open"))))) (sDrop (dMeth G.Sender ns_Sender (F_Sender_hears_note G) (dVar 0) (dCons (dOp ixD (dVar 1) (dC (.int 2))) (dCons (dOp ixD (dVar 1) (dC (.int 3))) dNil)))) sNext)))
noncomputable def F_Sender_hears_own (G : Cs) : List D → M D := fun xs S => fin S (cd_Sender_hears_own G (xs.map some ++ List.replicate (2 - xs.length) none) S)
theorem ok_Sender_hears_own {G : Cs} (T : Txt K mg G) (h_Sender_open_anew : CalM P w K mg base CX0 G.Sender "open_anew" 2 ["self"] (F_Sender_open_anew G)) (h_Sender_hears_note : CalM P w K mg base CX0 G.Sender "hears_note" 2 ["self", "number", "bits"] (F_Sender_hears_note G)) {f : Addr} {fd : FuncData} (F : Fun K "hears_own" "Sender.hears_own" s_Sender_hears_own f fd) : FnD P w K mg base CX0 3 f fd ["self", "card"] (F_Sender_hears_own G) := by
  refine fnD_of F sc_Sender_hears_own (fun _ _ _ _ _ _ => leaves0) (fun cdv A outer s H E hr => ⟨cd_Sender_hears_own G, ?_, fun xs S0 hl => fend_fin⟩)
  have hu := hr.units
  exact (ssd_one (sd_if (PWd.pt (pwd_and (pt_cmpD (od_eq hu) (pd_ix ixd (pd_var 1) pd_int (fun _ _ => rfl)) pd_str (nomark _)) (pwd_and1 (pt_cmpD (od_eq hu) (pd_fld T.cl_Sender T.na_Sender_state nd_Sender (pd_var 0)) pd_str (nomark _))))) (ssd_one (sd_fld T.cl_Sender T.na_Sender_state nd_Sender (by decide) (pd_var 0) pd_str)) (ssd_one (sd_if (PWd.pt (pwd_and (pt_cmpD (od_eq hu) (pd_ix ixd (pd_var 1) pd_int (fun _ _ => rfl)) pd_str (nomark _)) (pwd_and1 (pt_cmpD (od_eq hu) (pd_fld T.cl_Sender T.na_Sender_state nd_Sender (pd_var 0)) pd_str (nomark _))))) (ssd_one (sd_expr (pd_meth0 h_Sender_open_anew (hr.mono (by decide)) T.cl_Sender (by decide +kernel) passD0 (pd_var 0)))) (ssd_one (sd_if (PWd.pt (pwd_and (pt_cmpD (od_eq hu) (pd_ix ixd (pd_var 1) pd_int (fun _ _ => rfl)) pd_str (nomark _)) (pwd_and1 (pt_cmpD (od_eq hu) (pd_fld T.cl_Sender T.na_Sender_state nd_Sender (pd_var 0)) pd_str (nomark _))))) (ssd_one (sd_expr (pd_meth h_Sender_hears_note (hr.mono (by decide)) T.cl_Sender (by decide +kernel) passD0 (pd_var 0) (pad_cons (pd_ix ixd (pd_var 1) pd_int (fun _ _ => rfl)) (pad_cons (pd_ix ixd (pd_var 1) pd_int (fun _ _ => rfl)) pad_nil)) (dl_s (dl_cons (dl_cons dl_nil)))))) ssd_nil))))))
theorem sc_Sender_hears : FnScope ["self", "card"] ["self", "card"] (defScope s_Sender_hears) := ⟨rfl, rfl, rfl, by decide +kernel, rfl, by decide +kernel, by decide +kernel⟩
noncomputable def cd_Sender_hears (G : Cs) : TSt := (sSeq (sIf (dTest (dOp eqD (dOp ixD (dVar 1) (dC (.int 1))) (dFld G.Sender ns_Sender 4 (dVar 0)))) (sDrop (dMeth G.Sender ns_Sender (F_Sender_hears_own G) (dVar 0) (dCons (dVar 1) dNil))) sNext)
  (sRet (dLst dNil)))
noncomputable def F_Sender_hears (G : Cs) : List D → M D := fun xs S => fin S (cd_Sender_hears G (xs.map some ++ List.replicate (2 - xs.length) none) S)
theorem ok_Sender_hears {G : Cs} (T : Txt K mg G) (h_Sender_hears_own : CalM P w K mg base CX0 G.Sender "hears_own" 3 ["self", "card"] (F_Sender_hears_own G)) {f : Addr} {fd : FuncData} (F : Fun K "hears" "Sender.hears" s_Sender_hears f fd) : FnD P w K mg base CX0 4 f fd ["self", "card"] (F_Sender_hears G) := by
  refine fnD_of F sc_Sender_hears (fun _ _ _ _ _ _ => leaves0) (fun cdv A outer s H E hr => ⟨cd_Sender_hears G, ?_, fun xs S0 hl => fend_fin⟩)
  have hu := hr.units
  exact (ssd_cons (sd_if (pt_cmpD (od_eq hu) (pd_ix ixd (pd_var 1) pd_int (fun _ _ => rfl)) (pd_fld T.cl_Sender T.na_Sender_opening nd_Sender (pd_var 0)) (nomark _)) (ssd_one (sd_expr (pd_meth h_Sender_hears_own (hr.mono (by decide)) T.cl_Sender (by decide +kernel) passD0 (pd_var 0) (pad_cons (pd_var 1) pad_nil) (dl_s (dl_cons dl_nil))))) ssd_nil)
      (ssd_one (sd_ret (pd_lst pad_nil))))
theorem sc__law_message : FnScope ["_law_cell_here", "_law_longest", "_law_many"] ["_law_cell_here", "_law_longest"] (defScope s__law_message) := ⟨rfl, rfl, rfl, by decide +kernel, rfl, by decide +kernel, by decide +kernel⟩
noncomputable def cd__law_message : TSt := (sSeq (sAsg (dCall F__law_mix (dCons (dVar 0) (dCons (dC (.int 9973)) (dCons (dOp addD (dVar 1) (dC (.int 1))) dNil)))) (gN 2))
  (sRet (dCall tupleD (dCons (dComp (dRng1 (dVar 2)) (gN 0) dYes (dCall F__law_mix (dCons (dOp addD (dVar 1) (dOp mulD (dC (.int 31)) (dVar 0))) (dCons (dC (.int 9967)) (dCons (dC (.int 256)) dNil)))) 1 [0]) dNil))))
noncomputable def F__law_message : List D → M D := fun xs S => finP S (cd__law_message (xs.map some ++ List.replicate (3 - xs.length) none) S)
theorem ok__law_message {G : Cs} (T : Txt K mg G) (h__law_mix : Cal P w K mg base CX0 "_law_mix" 1 ["_law_cell_here", "_law_prime", "_law_many"] F__law_mix) {f : Addr} {fd : FuncData} (F : Fun K "_law_message" "_law_message" s__law_message f fd) : FnD P w K mg base CX0 2 f fd ["_law_cell_here", "_law_longest"] F__law_message := by
  refine fnD_of F sc__law_message (fun _ _ _ _ _ _ => leaves0) (fun cdv A outer s H E hr => ⟨cd__law_message, ?_, fun xs S0 hl => fend_finP⟩)
  have hu := hr.units
  exact (ssd_cons (sd_set (i := 2) sc__law_message.nd (pd_calC h__law_mix (hr.mono (by decide)) rfl passD0 (pad_cons (pd_var 0) (pad_cons pd_int (pad_cons (pd_op od_add (pd_var 1) pd_int) pad_nil))) (dl_cons (dl_cons (dl_cons dl_nil)))))
      (ssd_one (sd_ret (pd_callTy cd_tuple rfl T.b_tuple boot_tuple (pad_cons (pd_comp (own := ["_law_k"]) (capN := ["_law_cell_here"]) (caps := [0]) ⟨rfl, ClOk.all ⟨rfl, trivial⟩, rfl, by decide +kernel, rfl, by decide +kernel, ⟨⟨rfl, Or.inl rfl, Or.inl rfl, rfl⟩, trivial⟩, by decide +kernel⟩ rfl (pid_range1 rfl T.b_range (pd_var 2)) (tgOwn_N (by decide)) (fun C s2 H2 fp => ⟨(gd_name (i := 0) (show (["_law_k", "_law_cell_here"] : List Str).Nodup from by decide +kernel)), pf_nil, (pd_calC h__law_mix (hr.mono (by decide)) rfl passD0 (pad_cons (pd_op od_add (pd_var 1) (pd_op od_mul pd_int (pd_var 0))) (pad_cons pd_int (pad_cons pd_int pad_nil))) (dl_cons (dl_cons (dl_cons dl_nil))))⟩)) pad_nil)))))
theorem sc_Sender_hand : FnScope ["self", "message"] ["self", "message"] (defScope s_Sender_hand) := ⟨rfl, rfl, rfl, by decide +kernel, rfl, by decide +kernel, by decide +kernel⟩
noncomputable def cd_Sender_hand (G : Cs) : TSt := (sSeq (sDrop (dBM appD (dFld G.Sender ns_Sender 2 (dVar 0)) (dCons (dVar 1) dNil)))
  (sIf (dTest (dOp neD (dFld G.Sender ns_Sender 5 (dVar 0)) (dC (.str "shut")))) (sDrop (dBM extD (dFld G.Sender ns_Sender 6 (dVar 0)) (dCons (dCall F_pieces_of (dCons (dVar 1) (dCons (dFld G.Sender ns_Sender 1 (dVar 0)) dNil))) dNil))) sNext))
noncomputable def F_Sender_hand (G : Cs) : List D → M D := fun xs S => fin S (cd_Sender_hand G (xs.map some ++ List.replicate (2 - xs.length) none) S)
theorem ok_Sender_hand {G : Cs} (T : Txt K mg G) (h_pieces_of : Cal P w K mg base CX0 "pieces_of" 1 ["message", "most"] F_pieces_of) {f : Addr} {fd : FuncData} (F : Fun K "hand" "Sender.hand" s_Sender_hand f fd) : FnD P w K mg base CX0 2 f fd ["self", "message"] (F_Sender_hand G) := by
  refine fnD_of F sc_Sender_hand (fun _ _ _ _ _ _ => leaves0) (fun cdv A outer s H E hr => ⟨cd_Sender_hand G, ?_, fun xs S0 hl => fend_fin⟩)
  have hu := hr.units
  exact (ssd_cons (sd_expr (pd_bmL PySem.F.slot_list_append PySem.F.type_list_append md_append (pd_fld T.cl_Sender T.na_Sender_messages nd_Sender (pd_var 0)) (pad_cons (pd_var 1) pad_nil)))
      (ssd_one (sd_if (pt_cmpD (od_ne hu) (pd_fld T.cl_Sender T.na_Sender_state nd_Sender (pd_var 0)) pd_str (nomark _)) (ssd_one (sd_expr (pd_bmL PySem.F.slot_list_extend PySem.F.type_list_extend md_extend (pd_fld T.cl_Sender T.na_Sender_pieces nd_Sender (pd_var 0)) (pad_cons (pd_calC h_pieces_of (hr.mono (by decide)) rfl passD0 (pad_cons (pd_var 1) (pad_cons (pd_fld T.cl_Sender T.na_Sender_most nd_Sender (pd_var 0)) pad_nil)) (dl_cons (dl_cons dl_nil))) pad_nil)))) ssd_nil)))
theorem sc__law_pieces : FnScope ["_law_message_here", "_law_most", "_law_found", "_law_at"] ["_law_message_here", "_law_most"] (defScope s__law_pieces) := ⟨rfl, rfl, rfl, by decide +kernel, rfl, by decide +kernel, by decide +kernel⟩
noncomputable def bd__law_pieces_1 : TSt := (sDrop (dBM appD (dVar 2) (dCons (dTup (dCons (dCall intD (dCons (dOp geD (dOp addD (dVar 3) (dVar 1)) (dCall lenD (dCons (dVar 0) dNil))) dNil)) (dCons (dSl slD (dVar 0) (dPart (dVar 3)) (dPart (dOp addD (dVar 3) (dVar 1)))) dNil))) dNil)))
noncomputable def cd__law_pieces : TSt := (sSeq (sAsg (dLst dNil) (gN 2))
  (sSeq (sFor (dRng3 (dC (.int 0)) (dCall maxD (dCons (dC (.int 1)) (dCons (dCall lenD (dCons (dVar 0) dNil)) dNil))) (dVar 1)) (gN 3) bd__law_pieces_1)
  (sRet (dVar 2))))
noncomputable def F__law_pieces : List D → M D := fun xs S => fin S (cd__law_pieces (xs.map some ++ List.replicate (4 - xs.length) none) S)
theorem ok__law_pieces {G : Cs} (T : Txt K mg G) {f : Addr} {fd : FuncData} (F : Fun K "_law_pieces" "_law_pieces" s__law_pieces f fd) : FnD P w K mg base CX0 1 f fd ["_law_message_here", "_law_most"] F__law_pieces := by
  refine fnD_of F sc__law_pieces (fun _ _ _ _ _ _ => leaves0) (fun cdv A outer s H E hr => ⟨cd__law_pieces, ?_, fun xs S0 hl => fend_fin⟩)
  have hu := hr.units
  exact (ssd_cons (sd_set (i := 2) sc__law_pieces.nd (pd_lst pad_nil))
      (ssd_cons (sd_for rfl (pid_range3 rfl T.b_range pd_int (pd_callB (cd_max rfl) rfl T.b_max boot_max (pad_cons pd_int (pad_cons (pd_callB cd_len rfl T.b_len PySem.boot_len (pad_cons (pd_var 0) pad_nil)) pad_nil))) (pd_var 1)) (gd_name (i := 3) sc__law_pieces.nd) (ssd_one (sd_expr (pd_bmL PySem.F.slot_list_append PySem.F.type_list_append md_append (pd_var 2) (pad_cons (pd_tup (pad_cons (pd_callTy cd_int rfl T.b_int boot_int (pad_cons (pd_cmp od_ge (pd_op od_add (pd_var 3) (pd_var 1)) (pd_callB cd_len rfl T.b_len PySem.boot_len (pad_cons (pd_var 0) pad_nil)) (nomark _)) pad_nil)) (pad_cons (pd_slice sld (pd_var 0) (pod_some (pd_var 3)) (pod_some (pd_op od_add (pd_var 3) (pd_var 1)))) pad_nil))) pad_nil)))))
      (ssd_one (sd_ret (pd_var 2)))))
theorem sc__law_opened : FnScope ["_law_script", "_law_many", "_law_window", "_law_most", "_law_sender", "_law_row", "_law_messages", "_law_message_here"] ["_law_script", "_law_many"] (defScope s__law_opened) := ⟨rfl, rfl, rfl, by decide +kernel, rfl, by decide +kernel, by decide +kernel⟩
noncomputable def bd__law_opened_1 (G : Cs) : TSt := (sDrop (dMeth G.Sender ns_Sender (F_Sender_hand G) (dVar 4) (dCons (dVar 7) dNil)))
noncomputable def bd__law_opened_2 (G : Cs) : TSt := (sDrop (dMeth G.Sender ns_Sender (F_Sender_hand G) (dVar 4) (dCons (dVar 7) dNil)))
noncomputable def bd__law_opened_3 (G : Cs) : TSt := (sAsg (dOp addD (dVar 5) (dCall F__law_pieces (dCons (dVar 7) (dCons (dVar 3) dNil)))) (gN 5))
noncomputable def cd__law_opened (G : Cs) : TSt := (sSeq (sAsg (dCall F__law_setting (dCons (dVar 0) dNil)) (gT [2, 3]))
  (sSeq (sAsg (dCall (makeD G.Sender (F_Sender___init__ G)) (dCons (dVar 2) (dCons (dVar 3) dNil))) (gN 4))
  (sSeq (sAsg (dLst dNil) (gN 5))
  (sSeq (sAsg (dComp (dRng1 (dVar 1)) (gN 0) dYes (dCall F__law_message (dCons (dCall F__law_cell (dCons (dVar 1) (dCons (dOp addD (dC (.int 2)) (dVar 0)) dNil))) (dCons (dC (.int 12)) dNil))) 1 [0]) (gN 6))
  (sSeq (sFor (dWk (dSl slD (dVar 6) dNoPart (dPart (dOp fdivD (dVar 1) (dC (.int 2)))))) (gN 7) (bd__law_opened_1 G))
  (sSeq (sDrop (dMeth G.Sender ns_Sender (F_Sender_start G) (dVar 4) dNil))
  (sSeq (sDrop (dMeth G.Sender ns_Sender (F_Sender_hears G) (dVar 4) (dCons (dTup (dCons (dC (.str "welcome")) (dCons (dC (.int 1)) dNil))) dNil)))
  (sSeq (sFor (dWk (dSl slD (dVar 6) (dPart (dOp fdivD (dVar 1) (dC (.int 2)))) dNoPart)) (gN 7) (bd__law_opened_2 G))
  (sSeq (sFor (dWk (dVar 6)) (gN 7) (bd__law_opened_3 G))
  (sRet (dTup (dCons (dVar 4) (dCons (dVar 2) (dCons (dVar 6) (dCons (dVar 5) dNil)))))))))))))))
noncomputable def F__law_opened (G : Cs) : List D → M D := fun xs S => fin S (cd__law_opened G (xs.map some ++ List.replicate (8 - xs.length) none) S)
theorem ok__law_opened {G : Cs} (T : Txt K mg G) (h__law_setting : Cal P w K mg base CX0 "_law_setting" 2 ["_law_script"] F__law_setting) (h_Sender : CalI P w K mg base CX0 "Sender" G.Sender 1 ["self", "window", "most"] (F_Sender___init__ G)) (h__law_cell : Cal P w K mg base CX0 "_law_cell" 1 ["_law_script", "_law_k"] F__law_cell) (h__law_message : Cal P w K mg base CX0 "_law_message" 2 ["_law_cell_here", "_law_longest"] F__law_message) (h_Sender_hand : CalM P w K mg base CX0 G.Sender "hand" 2 ["self", "message"] (F_Sender_hand G)) (h_Sender_start : CalM P w K mg base CX0 G.Sender "start" 3 ["self"] (F_Sender_start G)) (h_Sender_hears : CalM P w K mg base CX0 G.Sender "hears" 4 ["self", "card"] (F_Sender_hears G)) (h__law_pieces : Cal P w K mg base CX0 "_law_pieces" 1 ["_law_message_here", "_law_most"] F__law_pieces) {f : Addr} {fd : FuncData} (F : Fun K "_law_opened" "_law_opened" s__law_opened f fd) : FnD P w K mg base CX0 5 f fd ["_law_script", "_law_many"] (F__law_opened G) := by
  refine fnD_of F sc__law_opened (fun _ _ _ _ _ _ => leaves0) (fun cdv A outer s H E hr => ⟨cd__law_opened G, ?_, fun xs S0 hl => fend_fin⟩)
  have hu := hr.units
  exact (ssd_cons (sd_asg (pd_calC h__law_setting (hr.mono (by decide)) rfl passD0 (pad_cons (pd_var 0) pad_nil) (dl_cons dl_nil)) (gd_tup rfl (gds_cons (gd_name (i := 2) sc__law_opened.nd) (gds_cons (gd_name (i := 3) sc__law_opened.nd) gds_nil))))
      (ssd_cons (sd_set (i := 4) sc__law_opened.nd (pd_make h_Sender (hr.mono (by decide)) rfl passD0 (pad_cons (pd_var 2) (pad_cons (pd_var 3) pad_nil)) (dl_s (dl_cons (dl_cons dl_nil)))))
      (ssd_cons (sd_set (i := 5) sc__law_opened.nd (pd_lst pad_nil))
      (ssd_cons (sd_setComp (i := 6) sc__law_opened.nd (own := ["_law_k"]) (capN := ["_law_script"]) (caps := [0]) ⟨rfl, ClOk.all ⟨rfl, trivial⟩, rfl, by decide +kernel, rfl, by decide +kernel, ⟨⟨rfl, Or.inl rfl, Or.inl rfl, rfl⟩, trivial⟩, by decide +kernel⟩ rfl (pid_range1 rfl T.b_range (pd_var 1)) (tgOwn_N (by decide)) (fun C s2 H2 fp => ⟨(gd_name (i := 0) (show (["_law_k", "_law_script"] : List Str).Nodup from by decide +kernel)), pf_nil, (pd_calC h__law_message (hr.mono (by decide)) rfl passD0 (pad_cons (pd_calC h__law_cell (hr.mono (by decide)) rfl passD0 (pad_cons (pd_var 1) (pad_cons (pd_op od_add pd_int (pd_var 0)) pad_nil)) (dl_cons (dl_cons dl_nil))) (pad_cons pd_int pad_nil)) (dl_cons (dl_cons dl_nil)))⟩))
      (ssd_cons (sd_for rfl (pid_seq (pd_slice sld (pd_var 6) pod_none (pod_some (pd_op od_fdiv (pd_var 1) pd_int)))) (gd_name (i := 7) sc__law_opened.nd) (ssd_one (sd_expr (pd_meth h_Sender_hand (hr.mono (by decide)) T.cl_Sender (by decide +kernel) passD0 (pd_var 4) (pad_cons (pd_var 7) pad_nil) (dl_s (dl_cons dl_nil))))))
      (ssd_cons (sd_expr (pd_meth0 h_Sender_start (hr.mono (by decide)) T.cl_Sender (by decide +kernel) passD0 (pd_var 4)))
      (ssd_cons (sd_expr (pd_meth h_Sender_hears (hr.mono (by decide)) T.cl_Sender (by decide +kernel) passD0 (pd_var 4) (pad_cons (pd_tup (pad_cons pd_str (pad_cons pd_int pad_nil))) pad_nil) (dl_s (dl_cons dl_nil))))
      (ssd_cons (sd_for rfl (pid_seq (pd_slice sld (pd_var 6) (pod_some (pd_op od_fdiv (pd_var 1) pd_int)) pod_none)) (gd_name (i := 7) sc__law_opened.nd) (ssd_one (sd_expr (pd_meth h_Sender_hand (hr.mono (by decide)) T.cl_Sender (by decide +kernel) passD0 (pd_var 4) (pad_cons (pd_var 7) pad_nil) (dl_s (dl_cons dl_nil))))))
      (ssd_cons (sd_for rfl (pid_seq (pd_var 6)) (gd_name (i := 7) sc__law_opened.nd) (ssd_one (sd_set (i := 5) sc__law_opened.nd (pd_op od_add (pd_var 5) (pd_calC h__law_pieces (hr.mono (by decide)) rfl passD0 (pad_cons (pd_var 7) (pad_cons (pd_var 3) pad_nil)) (dl_cons (dl_cons dl_nil)))))))
      (ssd_one (sd_ret (pd_tup (pad_cons (pd_var 4) (pad_cons (pd_var 2) (pad_cons (pd_var 6) (pad_cons (pd_var 5) pad_nil))))))))))))))))
theorem sc__law_noted : FnScope ["_law_sender", "_law_window", "_law_count", "_law_opening", "_law_zeros", "_law_index"] ["_law_sender", "_law_window", "_law_count", "_law_opening"] (defScope s__law_noted) := ⟨rfl, rfl, rfl, by decide +kernel, rfl, by decide +kernel, by decide +kernel⟩
noncomputable def bd__law_noted_1 (G : Cs) : TSt := (sDrop (dMeth G.Sender ns_Sender (F_Sender_hears G) (dVar 0) (dCons (dTup (dCons (dC (.str "note")) (dCons (dVar 3) (dCons (dOp modD (dVar 5) (dOp mulD (dC (.int 2)) (dVar 1))) (dCons (dVar 4) dNil))))) dNil)))
noncomputable def cd__law_noted (G : Cs) : TSt := (sSeq (sAsg (dOp mulTD (dTup (dCons (dC (.int 0)) dNil)) (dVar 1)) (gN 4))
  (sFor (dRng2 (dC (.int 1)) (dOp addD (dVar 2) (dC (.int 1)))) (gN 5) (bd__law_noted_1 G)))
noncomputable def F__law_noted (G : Cs) : List D → M D := fun xs S => fin S (cd__law_noted G (xs.map some ++ List.replicate (6 - xs.length) none) S)
theorem ok__law_noted {G : Cs} (T : Txt K mg G) (h_Sender_hears : CalM P w K mg base CX0 G.Sender "hears" 4 ["self", "card"] (F_Sender_hears G)) {f : Addr} {fd : FuncData} (F : Fun K "_law_noted" "_law_noted" s__law_noted f fd) : FnD P w K mg base CX0 5 f fd ["_law_sender", "_law_window", "_law_count", "_law_opening"] (F__law_noted G) := by
  refine fnD_of F sc__law_noted (fun _ _ _ _ _ _ => leaves0) (fun cdv A outer s H E hr => ⟨cd__law_noted G, ?_, fun xs S0 hl => fend_fin⟩)
  have hu := hr.units
  exact (ssd_cons (sd_set (i := 4) sc__law_noted.nd (pd_op od_mulT (pd_tup (pad_cons pd_int pad_nil)) (pd_var 1)))
      (ssd_one (sd_for rfl (pid_range2 rfl T.b_range pd_int (pd_op od_add (pd_var 2) pd_int)) (gd_name (i := 5) sc__law_noted.nd) (ssd_one (sd_expr (pd_meth h_Sender_hears (hr.mono (by decide)) T.cl_Sender (by decide +kernel) passD0 (pd_var 0) (pad_cons (pd_tup (pad_cons pd_str (pad_cons (pd_var 3) (pad_cons (pd_op od_mod (pd_var 5) (pd_op od_mul pd_int (pd_var 1))) (pad_cons (pd_var 4) pad_nil))))) pad_nil) (dl_s (dl_cons dl_nil))))))))
theorem sc_Sender_fall : FnScope ["self"] ["self"] (defScope s_Sender_fall) := ⟨rfl, rfl, rfl, by decide +kernel, rfl, by decide +kernel, by decide +kernel⟩
noncomputable def cd_Sender_fall (G : Cs) : TSt := (sFld G.Sender ns_Sender 5 (dVar 0) (dC (.str "shut")))
noncomputable def F_Sender_fall (G : Cs) : List D → M D := fun xs S => fin S (cd_Sender_fall G (xs.map some ++ List.replicate (1 - xs.length) none) S)
theorem ok_Sender_fall {G : Cs} (T : Txt K mg G) {f : Addr} {fd : FuncData} (F : Fun K "fall" "Sender.fall" s_Sender_fall f fd) : FnD P w K mg base CX0 1 f fd ["self"] (F_Sender_fall G) := by
  refine fnD_of F sc_Sender_fall (fun _ _ _ _ _ _ => leaves0) (fun cdv A outer s H E hr => ⟨cd_Sender_fall G, ?_, fun xs S0 hl => fend_fin⟩)
  have hu := hr.units
  exact (ssd_one (sd_fld T.cl_Sender T.na_Sender_state nd_Sender (by decide) (pd_var 0) pd_str))
theorem sc_number_of : FnScope ["index", "window"] ["index", "window"] (defScope s_number_of) := ⟨rfl, rfl, rfl, by decide +kernel, rfl, by decide +kernel, by decide +kernel⟩
noncomputable def cd_number_of : TSt := (sRet (dOp modD (dVar 0) (dOp mulD (dC (.int 2)) (dVar 1))))
noncomputable def F_number_of : List D → M D := fun xs S => fin S (cd_number_of (xs.map some ++ List.replicate (2 - xs.length) none) S)
theorem ok_number_of {G : Cs} (T : Txt K mg G) {f : Addr} {fd : FuncData} (F : Fun K "number_of" "number_of" s_number_of f fd) : FnD P w K mg base CX0 1 f fd ["index", "window"] F_number_of := by
  refine fnD_of F sc_number_of (fun _ _ _ _ _ _ => leaves0) (fun cdv A outer s H E hr => ⟨cd_number_of, ?_, fun xs S0 hl => fend_fin⟩)
  have hu := hr.units
  exact (ssd_one (sd_ret (pd_op od_mod (pd_var 0) (pd_op od_mul pd_int (pd_var 1)))))
theorem sc_Sender_data_of : FnScope ["self", "index"] ["self", "index"] (defScope s_Sender_data_of) := ⟨rfl, rfl, rfl, by decide +kernel, rfl, by decide +kernel, by decide +kernel⟩
noncomputable def cd_Sender_data_of (G : Cs) : TSt := (sRet (dTup (dCons (dC (.str "data")) (dCons (dFld G.Sender ns_Sender 4 (dVar 0)) (dCons (dCall F_number_of (dCons (dVar 1) (dCons (dFld G.Sender ns_Sender 0 (dVar 0)) dNil))) (dCons (dOp ixD (dFld G.Sender ns_Sender 6 (dVar 0)) (dVar 1)) dNil))))))
noncomputable def F_Sender_data_of (G : Cs) : List D → M D := fun xs S => fin S (cd_Sender_data_of G (xs.map some ++ List.replicate (2 - xs.length) none) S)
theorem ok_Sender_data_of {G : Cs} (T : Txt K mg G) (h_number_of : Cal P w K mg base CX0 "number_of" 1 ["index", "window"] F_number_of) {f : Addr} {fd : FuncData} (F : Fun K "data_of" "Sender.data_of" s_Sender_data_of f fd) : FnD P w K mg base CX0 2 f fd ["self", "index"] (F_Sender_data_of G) := by
  refine fnD_of F sc_Sender_data_of (fun _ _ _ _ _ _ => leaves0) (fun cdv A outer s H E hr => ⟨cd_Sender_data_of G, ?_, fun xs S0 hl => fend_fin⟩)
  have hu := hr.units
  exact (ssd_one (sd_ret (pd_tup (pad_cons pd_str (pad_cons (pd_fld T.cl_Sender T.na_Sender_opening nd_Sender (pd_var 0)) (pad_cons (pd_calC h_number_of (hr.mono (by decide)) rfl passD0 (pad_cons (pd_var 1) (pad_cons (pd_fld T.cl_Sender T.na_Sender_window nd_Sender (pd_var 0)) pad_nil)) (dl_cons (dl_cons dl_nil))) (pad_cons (pd_ix ixd (pd_fld T.cl_Sender T.na_Sender_pieces nd_Sender (pd_var 0)) (pd_var 1) (fun _ _ => rfl)) pad_nil)))))))
theorem sc_Sender_wanted : FnScope ["self", "end"] ["self"] (defScope s_Sender_wanted) := ⟨rfl, rfl, rfl, by decide +kernel, rfl, by decide +kernel, by decide +kernel⟩
noncomputable def cd_Sender_wanted (G : Cs) : TSt := (sSeq (sAsg (dCall minD (dCons (dOp addD (dFld G.Sender ns_Sender 7 (dVar 0)) (dFld G.Sender ns_Sender 0 (dVar 0))) (dCons (dCall lenD (dCons (dFld G.Sender ns_Sender 6 (dVar 0)) dNil)) dNil))) (gN 1))
  (sRet (dComp (dRng2 (dFld G.Sender ns_Sender 7 (dVar 0)) (dVar 1)) (gN 0) (dTest (dOp dnotinD (dVar 0) (dFld G.Sender ns_Sender 8 (dVar 1)))) (dVar 0) 1 [0])))
noncomputable def F_Sender_wanted (G : Cs) : List D → M D := fun xs S => fin S (cd_Sender_wanted G (xs.map some ++ List.replicate (2 - xs.length) none) S)
theorem ok_Sender_wanted {G : Cs} (T : Txt K mg G) {f : Addr} {fd : FuncData} (F : Fun K "wanted" "Sender.wanted" s_Sender_wanted f fd) : FnD P w K mg base CX0 1 f fd ["self"] (F_Sender_wanted G) := by
  refine fnD_of F sc_Sender_wanted (fun _ _ _ _ _ _ => leaves0) (fun cdv A outer s H E hr => ⟨cd_Sender_wanted G, ?_, fun xs S0 hl => fend_fin⟩)
  have hu := hr.units
  exact (ssd_cons (sd_set (i := 1) sc_Sender_wanted.nd (pd_callB (cd_min rfl) rfl T.b_min boot_min (pad_cons (pd_op od_add (pd_fld T.cl_Sender T.na_Sender_base nd_Sender (pd_var 0)) (pd_fld T.cl_Sender T.na_Sender_window nd_Sender (pd_var 0))) (pad_cons (pd_callB cd_len rfl T.b_len PySem.boot_len (pad_cons (pd_fld T.cl_Sender T.na_Sender_pieces nd_Sender (pd_var 0)) pad_nil)) pad_nil))))
      (ssd_one (sd_ret (pd_comp (own := ["index"]) (capN := ["self"]) (caps := [0]) ⟨rfl, ClOk.all ⟨rfl, trivial⟩, rfl, by decide +kernel, rfl, by decide +kernel, ⟨⟨rfl, Or.inl rfl, Or.inl rfl, rfl⟩, trivial⟩, by decide +kernel⟩ rfl (pid_range2 rfl T.b_range (pd_fld T.cl_Sender T.na_Sender_base nd_Sender (pd_var 0)) (pd_var 1)) (tgOwn_N (by decide)) (fun C s2 H2 fp => ⟨(gd_name (i := 0) (show (["index", "self"] : List Str).Nodup from by decide +kernel)), (pf_one (pt_cmpD (od_dnotin hu) (pd_var 0) (pd_fld T.cl_Sender T.na_Sender_noted nd_Sender (pd_var 1)) (by with_unfolding_all rfl))), (pd_var 0)⟩)))))
theorem sc_Sender_tick : FnScope ["self"] ["self"] (defScope s_Sender_tick) := ⟨rfl, rfl, rfl, by decide +kernel, rfl, by decide +kernel, by decide +kernel⟩
noncomputable def cd_Sender_tick (G : Cs) : TSt := (sSeq (sIf (dTest (dOp eqD (dFld G.Sender ns_Sender 5 (dVar 0)) (dC (.str "opening")))) (sRet (dLst (dCons (dTup (dCons (dC (.str "hello")) (dCons (dFld G.Sender ns_Sender 4 (dVar 0)) dNil))) dNil))) sNext)
  (sSeq (sIf (dTest (dOp eqD (dFld G.Sender ns_Sender 5 (dVar 0)) (dC (.str "open")))) (sRet (dComp (dWk (dMeth G.Sender ns_Sender (F_Sender_wanted G) (dVar 0) dNil)) (gN 0) dYes (dMeth G.Sender ns_Sender (F_Sender_data_of G) (dVar 1) (dCons (dVar 0) dNil)) 1 [0])) sNext)
  (sRet (dLst dNil))))
noncomputable def F_Sender_tick (G : Cs) : List D → M D := fun xs S => fin S (cd_Sender_tick G (xs.map some ++ List.replicate (1 - xs.length) none) S)
theorem ok_Sender_tick {G : Cs} (T : Txt K mg G) (h_Sender_wanted : CalM P w K mg base CX0 G.Sender "wanted" 1 ["self"] (F_Sender_wanted G)) (h_Sender_data_of : CalM P w K mg base CX0 G.Sender "data_of" 2 ["self", "index"] (F_Sender_data_of G)) {f : Addr} {fd : FuncData} (F : Fun K "tick" "Sender.tick" s_Sender_tick f fd) : FnD P w K mg base CX0 3 f fd ["self"] (F_Sender_tick G) := by
  refine fnD_of F sc_Sender_tick (fun _ _ _ _ _ _ => leaves0) (fun cdv A outer s H E hr => ⟨cd_Sender_tick G, ?_, fun xs S0 hl => fend_fin⟩)
  have hu := hr.units
  exact (ssd_cons (sd_if (pt_cmpD (od_eq hu) (pd_fld T.cl_Sender T.na_Sender_state nd_Sender (pd_var 0)) pd_str (nomark _)) (ssd_one (sd_ret (pd_lst (pad_cons (pd_tup (pad_cons pd_str (pad_cons (pd_fld T.cl_Sender T.na_Sender_opening nd_Sender (pd_var 0)) pad_nil))) pad_nil)))) ssd_nil)
      (ssd_cons (sd_if (pt_cmpD (od_eq hu) (pd_fld T.cl_Sender T.na_Sender_state nd_Sender (pd_var 0)) pd_str (nomark _)) (ssd_one (sd_ret (pd_comp (own := ["index"]) (capN := ["self"]) (caps := [0]) ⟨rfl, ClOk.all ⟨rfl, trivial⟩, rfl, by decide +kernel, rfl, by decide +kernel, ⟨⟨rfl, Or.inl rfl, Or.inl rfl, rfl⟩, trivial⟩, by decide +kernel⟩ rfl (pid_seq (pd_meth0 h_Sender_wanted (hr.mono (by decide)) T.cl_Sender (by decide +kernel) passD0 (pd_var 0))) (tgOwn_N (by decide)) (fun C s2 H2 fp => ⟨(gd_name (i := 0) (show (["index", "self"] : List Str).Nodup from by decide +kernel)), pf_nil, (pd_meth h_Sender_data_of (hr.mono (by decide)) T.cl_Sender (by decide +kernel) passD0 (pd_var 1) (pad_cons (pd_var 0) pad_nil) (dl_s (dl_cons dl_nil)))⟩)))) ssd_nil)
      (ssd_one (sd_ret (pd_lst pad_nil)))))
theorem sc_law : FnScope ["_law_script", "_law_sender", "_law_window", "_law_messages", "_law_row", "_law_count", "_law_sure", "_law_left", "_law_message_here", "_law_index", "_law_due", "_law_k"] ["_law_script"] (defScope s_law) := ⟨rfl, rfl, rfl, by decide +kernel, rfl, by decide +kernel, by decide +kernel⟩
noncomputable def bd_law_1 (G : Cs) : TSt := (sAsg (dOp addD (dVar 7) (dCall F__law_pieces (dCons (dVar 8) (dCons (dOp ixD (dCall F__law_setting (dCons (dVar 0) dNil)) (dC (.int 1))) dNil)))) (gN 7))
noncomputable def bd_law_2 (G : Cs) : TSt := (sDrop (dBM appD (dVar 10) (dCons (dTup (dCons (dC (.str "data")) (dCons (dC (.int 2)) (dCons (dOp modD (dVar 11) (dOp mulD (dC (.int 2)) (dVar 2))) (dCons (dOp ixD (dVar 7) (dVar 11)) dNil))))) dNil)))
noncomputable def bd_law_3 (G : Cs) : TSt := (sSeq (sAsg (dLst dNil) (gN 10))
  (sSeq (sFor (dRng2 (dVar 9) (dCall minD (dCons (dCall lenD (dCons (dVar 7) dNil)) (dCons (dOp addD (dVar 9) (dVar 2)) dNil)))) (gN 11) (bd_law_2 G))
  (sSeq (sIf (dTest (dOp neD (dMeth G.Sender ns_Sender (F_Sender_tick G) (dVar 1) dNil) (dVar 10))) (sRet (dC (.bl false))) sNext)
  (sIf (dTest (dOp ltD (dVar 9) (dCall lenD (dCons (dVar 7) dNil)))) (sDrop (dMeth G.Sender ns_Sender (F_Sender_hears G) (dVar 1) (dCons (dTup (dCons (dC (.str "note")) (dCons (dC (.int 2)) (dCons (dOp modD (dOp addD (dVar 9) (dC (.int 1))) (dOp mulD (dC (.int 2)) (dVar 2))) (dCons (dOp mulTD (dTup (dCons (dC (.int 0)) dNil)) (dVar 2)) dNil))))) dNil))) sNext))))
noncomputable def cd_law (G : Cs) : TSt := (sSeq (sAsg (dCall (F__law_opened G) (dCons (dVar 0) (dCons (dOp addD (dC (.int 1)) (dOp modD (dCall F__law_cell (dCons (dVar 0) (dCons (dC (.int 20)) dNil))) (dC (.int 6)))) dNil))) (gT [1, 2, 3, 4]))
  (sSeq (sAsg (dOp modD (dCall F__law_cell (dCons (dVar 0) (dCons (dC (.int 21)) dNil))) (dOp addD (dCall lenD (dCons (dVar 4) dNil)) (dC (.int 1)))) (gN 5))
  (sSeq (sDrop (dCall (F__law_noted G) (dCons (dVar 1) (dCons (dVar 2) (dCons (dVar 5) (dCons (dC (.int 1)) dNil))))))
  (sSeq (sAsg (dCall lenD (dCons (dComp (dWk (dSl slD (dVar 4) dNoPart (dPart (dVar 5)))) (gN 0) (dTest (dOp eqD (dOp ixD (dVar 0) (dC (.int 0))) (dC (.int 1)))) (dVar 0) 1 []) dNil)) (gN 6))
  (sSeq (sIf (dOr (dTest (dOp neD (dFld G.Sender ns_Sender 3 (dVar 1)) (dVar 6))) (dTest (dOp neD (dFld G.Sender ns_Sender 7 (dVar 1)) (dVar 5)))) (sRet (dC (.bl false))) sNext)
  (sSeq (sIf (dTest (dOp eqD (dOp modD (dCall F__law_cell (dCons (dVar 0) (dCons (dC (.int 22)) dNil))) (dC (.int 2))) (dC (.int 0)))) (sDrop (dMeth G.Sender ns_Sender (F_Sender_hears G) (dVar 1) (dCons (dTup (dCons (dC (.str "who")) (dCons (dC (.int 1)) dNil))) dNil))) (sSeq (sDrop (dMeth G.Sender ns_Sender (F_Sender_fall G) (dVar 1) dNil))
  (sDrop (dMeth G.Sender ns_Sender (F_Sender_start G) (dVar 1) dNil))))
  (sSeq (sIf (dOr (dTest (dOp neD (dFld G.Sender ns_Sender 4 (dVar 1)) (dC (.int 2)))) (dOr (dTest (dOp neD (dFld G.Sender ns_Sender 7 (dVar 1)) (dC (.int 0)))) (dOr (dTest (dOp neD (dFld G.Sender ns_Sender 3 (dVar 1)) (dVar 6))) (dTest (dOp neD (dMeth G.Sender ns_Sender (F_Sender_tick G) (dVar 1) dNil) (dLst (dCons (dTup (dCons (dC (.str "hello")) (dCons (dC (.int 2)) dNil))) dNil))))))) (sRet (dC (.bl false))) sNext)
  (sSeq (sDrop (dMeth G.Sender ns_Sender (F_Sender_hears G) (dVar 1) (dCons (dTup (dCons (dC (.str "welcome")) (dCons (dC (.int 2)) dNil))) dNil)))
  (sSeq (sAsg (dLst dNil) (gN 7))
  (sSeq (sFor (dWk (dSl slD (dVar 3) (dPart (dVar 6)) dNoPart)) (gN 8) (bd_law_1 G))
  (sSeq (sFor (dRng1 (dOp addD (dCall lenD (dCons (dVar 7) dNil)) (dC (.int 1)))) (gN 9) (bd_law_3 G))
  (sRet (dOp eqD (dFld G.Sender ns_Sender 3 (dVar 1)) (dCall lenD (dCons (dVar 3) dNil)))))))))))))))
noncomputable def F_law (G : Cs) : List D → M D := fun xs S => fin S (cd_law G (xs.map some ++ List.replicate (12 - xs.length) none) S)
theorem ok_law {G : Cs} (T : Txt K mg G) (h__law_cell : Cal P w K mg base CX0 "_law_cell" 1 ["_law_script", "_law_k"] F__law_cell) (h__law_opened : Cal P w K mg base CX0 "_law_opened" 5 ["_law_script", "_law_many"] (F__law_opened G)) (h__law_noted : Cal P w K mg base CX0 "_law_noted" 5 ["_law_sender", "_law_window", "_law_count", "_law_opening"] (F__law_noted G)) (h_Sender_hears : CalM P w K mg base CX0 G.Sender "hears" 4 ["self", "card"] (F_Sender_hears G)) (h_Sender_fall : CalM P w K mg base CX0 G.Sender "fall" 1 ["self"] (F_Sender_fall G)) (h_Sender_start : CalM P w K mg base CX0 G.Sender "start" 3 ["self"] (F_Sender_start G)) (h_Sender_tick : CalM P w K mg base CX0 G.Sender "tick" 3 ["self"] (F_Sender_tick G)) (h__law_setting : Cal P w K mg base CX0 "_law_setting" 2 ["_law_script"] F__law_setting) (h__law_pieces : Cal P w K mg base CX0 "_law_pieces" 1 ["_law_message_here", "_law_most"] F__law_pieces) {f : Addr} {fd : FuncData} (F : Fun K "law" "law" s_law f fd) : FnD P w K mg base CX0 6 f fd ["_law_script"] (F_law G) := by
  refine fnD_of F sc_law (fun _ _ _ _ _ _ => leaves0) (fun cdv A outer s H E hr => ⟨cd_law G, ?_, fun xs S0 hl => fend_fin⟩)
  have hu := hr.units
  exact (ssd_cons (sd_asg (pd_calC h__law_opened (hr.mono (by decide)) rfl passD0 (pad_cons (pd_var 0) (pad_cons (pd_op od_add pd_int (pd_op od_mod (pd_calC h__law_cell (hr.mono (by decide)) rfl passD0 (pad_cons (pd_var 0) (pad_cons pd_int pad_nil)) (dl_cons (dl_cons dl_nil))) pd_int)) pad_nil)) (dl_cons (dl_cons dl_nil))) (gd_tup rfl (gds_cons (gd_name (i := 1) sc_law.nd) (gds_cons (gd_name (i := 2) sc_law.nd) (gds_cons (gd_name (i := 3) sc_law.nd) (gds_cons (gd_name (i := 4) sc_law.nd) gds_nil))))))
      (ssd_cons (sd_set (i := 5) sc_law.nd (pd_op od_mod (pd_calC h__law_cell (hr.mono (by decide)) rfl passD0 (pad_cons (pd_var 0) (pad_cons pd_int pad_nil)) (dl_cons (dl_cons dl_nil))) (pd_op od_add (pd_callB cd_len rfl T.b_len PySem.boot_len (pad_cons (pd_var 4) pad_nil)) pd_int)))
      (ssd_cons (sd_expr (pd_calC h__law_noted (hr.mono (by decide)) rfl passD0 (pad_cons (pd_var 1) (pad_cons (pd_var 2) (pad_cons (pd_var 5) (pad_cons pd_int pad_nil)))) (dl_cons (dl_cons (dl_cons (dl_cons dl_nil))))))
      (ssd_cons (sd_set (i := 6) sc_law.nd (pd_callB cd_len rfl T.b_len PySem.boot_len (pad_cons (pd_comp (own := ["_law_piece"]) (capN := []) (caps := []) ⟨rfl, ClOk.all trivial, rfl, by decide +kernel, rfl, by decide +kernel, trivial, by decide +kernel⟩ rfl (pid_seq (pd_slice sld (pd_var 4) pod_none (pod_some (pd_var 5)))) (tgOwn_N (by decide)) (fun C s2 H2 fp => ⟨(gd_name (i := 0) (show (["_law_piece"] : List Str).Nodup from by decide +kernel)), (pf_one (pt_cmpD (od_eq hu) (pd_ix ixd (pd_var 0) pd_int (fun _ _ => rfl)) pd_int (nomark _))), (pd_var 0)⟩)) pad_nil)))
      (ssd_cons (sd_if (PWd.pt (pwd_or (pt_cmpD (od_ne hu) (pd_fld T.cl_Sender T.na_Sender_sure nd_Sender (pd_var 1)) (pd_var 6) (nomark _)) (pwd_or1 (pt_cmpD (od_ne hu) (pd_fld T.cl_Sender T.na_Sender_base nd_Sender (pd_var 1)) (pd_var 5) (nomark _))))) (ssd_one (sd_ret pd_bl)) ssd_nil)
      (ssd_cons (sd_if (pt_cmpD (od_eq hu) (pd_op od_mod (pd_calC h__law_cell (hr.mono (by decide)) rfl passD0 (pad_cons (pd_var 0) (pad_cons pd_int pad_nil)) (dl_cons (dl_cons dl_nil))) pd_int) pd_int (nomark _)) (ssd_one (sd_expr (pd_meth h_Sender_hears (hr.mono (by decide)) T.cl_Sender (by decide +kernel) passD0 (pd_var 1) (pad_cons (pd_tup (pad_cons pd_str (pad_cons pd_int pad_nil))) pad_nil) (dl_s (dl_cons dl_nil))))) (ssd_cons (sd_expr (pd_meth0 h_Sender_fall (hr.mono (by decide)) T.cl_Sender (by decide +kernel) passD0 (pd_var 1)))
      (ssd_one (sd_expr (pd_meth0 h_Sender_start (hr.mono (by decide)) T.cl_Sender (by decide +kernel) passD0 (pd_var 1))))))
      (ssd_cons (sd_if (PWd.pt (pwd_or (pt_cmpD (od_ne hu) (pd_fld T.cl_Sender T.na_Sender_opening nd_Sender (pd_var 1)) pd_int (nomark _)) (pwd_or (pt_cmpD (od_ne hu) (pd_fld T.cl_Sender T.na_Sender_base nd_Sender (pd_var 1)) pd_int (nomark _)) (pwd_or (pt_cmpD (od_ne hu) (pd_fld T.cl_Sender T.na_Sender_sure nd_Sender (pd_var 1)) (pd_var 6) (nomark _)) (pwd_or1 (pt_cmpD (od_ne hu) (pd_meth0 h_Sender_tick (hr.mono (by decide)) T.cl_Sender (by decide +kernel) passD0 (pd_var 1)) (pd_lst (pad_cons (pd_tup (pad_cons pd_str (pad_cons pd_int pad_nil))) pad_nil)) (nomark _))))))) (ssd_one (sd_ret pd_bl)) ssd_nil)
      (ssd_cons (sd_expr (pd_meth h_Sender_hears (hr.mono (by decide)) T.cl_Sender (by decide +kernel) passD0 (pd_var 1) (pad_cons (pd_tup (pad_cons pd_str (pad_cons pd_int pad_nil))) pad_nil) (dl_s (dl_cons dl_nil))))
      (ssd_cons (sd_set (i := 7) sc_law.nd (pd_lst pad_nil))
      (ssd_cons (sd_for rfl (pid_seq (pd_slice sld (pd_var 3) (pod_some (pd_var 6)) pod_none)) (gd_name (i := 8) sc_law.nd) (ssd_one (sd_set (i := 7) sc_law.nd (pd_op od_add (pd_var 7) (pd_calC h__law_pieces (hr.mono (by decide)) rfl passD0 (pad_cons (pd_var 8) (pad_cons (pd_ix ixd (pd_calC h__law_setting (hr.mono (by decide)) rfl passD0 (pad_cons (pd_var 0) pad_nil) (dl_cons dl_nil)) pd_int (fun _ _ => rfl)) pad_nil)) (dl_cons (dl_cons dl_nil)))))))
      (ssd_cons (sd_for rfl (pid_range1 rfl T.b_range (pd_op od_add (pd_callB cd_len rfl T.b_len PySem.boot_len (pad_cons (pd_var 7) pad_nil)) pd_int)) (gd_name (i := 9) sc_law.nd) (ssd_cons (sd_set (i := 10) sc_law.nd (pd_lst pad_nil))
      (ssd_cons (sd_for rfl (pid_range2 rfl T.b_range (pd_var 9) (pd_callB (cd_min rfl) rfl T.b_min boot_min (pad_cons (pd_callB cd_len rfl T.b_len PySem.boot_len (pad_cons (pd_var 7) pad_nil)) (pad_cons (pd_op od_add (pd_var 9) (pd_var 2)) pad_nil)))) (gd_name (i := 11) sc_law.nd) (ssd_one (sd_expr (pd_bmL PySem.F.slot_list_append PySem.F.type_list_append md_append (pd_var 10) (pad_cons (pd_tup (pad_cons pd_str (pad_cons pd_int (pad_cons (pd_op od_mod (pd_var 11) (pd_op od_mul pd_int (pd_var 2))) (pad_cons (pd_ix ixd (pd_var 7) (pd_var 11) (fun _ _ => rfl)) pad_nil))))) pad_nil)))))
      (ssd_cons (sd_if (pt_cmpD (od_ne hu) (pd_meth0 h_Sender_tick (hr.mono (by decide)) T.cl_Sender (by decide +kernel) passD0 (pd_var 1)) (pd_var 10) (nomark _)) (ssd_one (sd_ret pd_bl)) ssd_nil)
      (ssd_one (sd_if (pt_cmpD od_lt (pd_var 9) (pd_callB cd_len rfl T.b_len PySem.boot_len (pad_cons (pd_var 7) pad_nil)) (nomark _)) (ssd_one (sd_expr (pd_meth h_Sender_hears (hr.mono (by decide)) T.cl_Sender (by decide +kernel) passD0 (pd_var 1) (pad_cons (pd_tup (pad_cons pd_str (pad_cons pd_int (pad_cons (pd_op od_mod (pd_op od_add (pd_var 9) pd_int) (pd_op od_mul pd_int (pd_var 2))) (pad_cons (pd_op od_mulT (pd_tup (pad_cons pd_int pad_nil)) (pd_var 2)) pad_nil))))) pad_nil) (dl_s (dl_cons dl_nil))))) ssd_nil))))))
      (ssd_one (sd_ret (pd_cmp (od_eq hu) (pd_fld T.cl_Sender T.na_Sender_sure nd_Sender (pd_var 1)) (pd_callB cd_len rfl T.b_len PySem.boot_len (pad_cons (pd_var 3) pad_nil)) (nomark _)))))))))))))))
end
end Lw
namespace Lw
abbrev Msg := List Int
abbrev Pc := Int × List Int
inductive Card where
  | hello (o : Nat) | welcome (o : Nat) | who (o : Nat) | data (o n : Nat) (p : Pc) | note (o n : Nat) (bs : List Int)
  deriving DecidableEq
def cutF (k : Nat) : Nat → Msg → List Pc
  | 0, m => [(1, m)]
  | n + 1, m => if k < m.length then (0, m.take k) :: cutF k n (m.drop k) else [(1, m)]
def cutP (k : Nat) (m : Msg) : List Pc := cutF k 100 m
def letters (ps : List Pc) : Msg := ps.flatMap (·.2)
def lasts (ps : List Pc) : Nat := (ps.filter fun p => decide (p.1 = 1)).length
def near (num low : Int) (w : Nat) : Int := low + (num - low) % (2 * (w : Int))
structure Hr where
  w : Nat
  given : List (Nat × Msg)
  op : Nat
  nx : Nat
  early : List (Nat × Pc)
  begun : List Pc
namespace Hr
def new (w : Nat) : Hr := ⟨w, [], 0, 0, [], []⟩
def begin_ (h : Hr) (o : Nat) : Hr := { h with op := o, nx := 0, early := [], begun := [] }
def fall (h : Hr) : Hr := h.begin_ 0
def idx (h : Hr) (num : Nat) : Int := near num ((h.nx : Int) - h.w) h.w
def keep (h : Hr) (num : Nat) (p : Pc) : Hr := if num < 2 * h.w ∧ (h.nx : Int) ≤ h.idx num ∧ h.early.lookup (h.idx num).toNat = none then { h with early := h.early ++ [((h.idx num).toNat, p)] } else h
def take (h : Hr) (p : Pc) : Hr := if p.1 = 1 then { h with given := h.given ++ [(h.op, letters (h.begun ++ [p]))], begun := [] } else { h with begun := h.begun ++ [p] }
def pop (h : Hr) : Hr := { h with early := h.early.filter fun e => decide (e.1 ≠ h.nx), nx := h.nx + 1 }
def takeAll : Nat → Hr → Hr
  | 0, h => h
  | n + 1, h => match h.early.lookup h.nx with
    | none => h
    | some p => takeAll n (h.pop.take p)
def bits (h : Hr) : List Int := (List.range h.w).map fun k => if (h.early.lookup (h.nx + k)).isSome then 1 else 0
def note (h : Hr) : Card := .note h.op (h.nx % (2 * h.w)) h.bits
def data (h : Hr) (num : Nat) (p : Pc) : Hr := takeAll (h.keep num p).early.length (h.keep num p)
def hears (h : Hr) : Card → Hr × List Card
  | .hello o => if o < h.op then (h, []) else if h.op < o then (h.begin_ o, [.welcome o]) else (h, [.welcome o])
  | .data o n p => if o < h.op then (h, []) else if h.op < o then (h, [.who o]) else (h.data n p, [(h.data n p).note])
  | _ => (h, [])
end Hr
inductive St where
  | shut | opening | opened
  deriving DecidableEq
structure Sr where
  w : Nat
  most : Nat
  msgs : List Msg
  sure : Nat
  op : Nat
  st : St
  ps : List Pc
  base : Nat
  noted : List Nat
namespace Sr
def new (w most : Nat) : Sr := ⟨w, most, [], 0, 0, .shut, [], 0, []⟩
def hand (s : Sr) (m : Msg) : Sr := { s with msgs := s.msgs ++ [m], ps := if s.st = .shut then s.ps else s.ps ++ cutP s.most m }
def anew (s : Sr) : Sr := { s with op := s.op + 1, st := .opening, ps := (s.msgs.drop s.sure).flatMap (cutP s.most), base := 0, noted := [] }
def start (s : Sr) : Sr := if s.st = .shut then s.anew else s
def fall (s : Sr) : Sr := { s with st := .shut }
def wanted (s : Sr) : List Nat := (List.range' s.base (min (s.base + s.w) s.ps.length - s.base)).filter fun i => decide (i ∉ s.noted)
def dataOf (s : Sr) (i : Nat) : Card := .data s.op (i % (2 * s.w)) (s.ps.getD i (0, []))
def tick (s : Sr) : List Card := match s.st with
  | .shut => []
  | .opening => [.hello s.op]
  | .opened => s.wanted.map s.dataOf
def noteP (s : Sr) : Nat → List Int → Sr
  | _, [] => s
  | k, b :: bs => noteP (if b = 1 ∧ s.base + k < s.ps.length ∧ s.base + k ∉ s.noted then { s with noted := s.noted ++ [s.base + k] } else s) (k + 1) bs
def moveB (s : Sr) (i : Nat) : Sr := { s with sure := s.sure + lasts ((s.ps.take i).drop s.base), base := i }
def hearsNote (s : Sr) (num : Nat) (bs : List Int) : Sr :=
  if num < 2 * s.w ∧ near num s.base s.w ≤ min (s.base + s.w) s.ps.length then (s.moveB (near num s.base s.w).toNat).noteP 0 bs else s
def hears (s : Sr) : Card → Sr
  | .welcome o => if o = s.op ∧ s.st = .opening then { s with st := .opened } else s
  | .who o => if o = s.op ∧ s.st = .opened then s.anew else s
  | .note o n bs => if o = s.op ∧ s.st = .opened then s.hearsNote n bs else s
  | _ => s
end Sr
end Lw
namespace Lw
theorem lasts_append (a b : List Pc) : lasts (a ++ b) = lasts a + lasts b := by simp [lasts]
theorem lasts_zero {a : List Pc} (h : ∀ p ∈ a, p.1 = 0) : lasts a = 0 := by
  unfold lasts
  rw [List.length_eq_zero_iff, List.filter_eq_nil_iff]
  intro p hp
  rw [h p hp]
  decide
theorem cutF_spec (k : Nat) : ∀ (n : Nat) (m : Msg), ∃ pre l, cutF k n m = pre ++ [(1, l)] ∧ (∀ p ∈ pre, p.1 = 0) ∧ letters pre ++ l = m
  | 0, m => ⟨[], m, rfl, by simp, by simp [letters]⟩
  | n + 1, m => by
    unfold cutF
    split
    · obtain ⟨pre, l, h1, h2, h3⟩ := cutF_spec k n (m.drop k)
      refine ⟨(0, m.take k) :: pre, l, by rw [h1]; rfl, ?_, ?_⟩
      · intro p hp
        rcases List.mem_cons.mp hp with rfl | hp
        · rfl
        · exact h2 p hp
      · rw [show letters ((0, m.take k) :: pre) = m.take k ++ letters pre by simp [letters], List.append_assoc, h3, List.take_append_drop]
    · exact ⟨[], m, rfl, by simp, by simp [letters]⟩
theorem cutP_spec (k : Nat) (m : Msg) : ∃ pre l, cutP k m = pre ++ [(1, l)] ∧ (∀ p ∈ pre, p.1 = 0) ∧ letters pre ++ l = m := cutF_spec k 100 m
theorem cutP_lasts (k : Nat) (m : Msg) : lasts (cutP k m) = 1 := by
  obtain ⟨pre, l, h1, h2, _⟩ := cutP_spec k m
  rw [h1, lasts_append, lasts_zero h2]
  rfl
theorem cutP_flags (k : Nat) (m : Msg) : ∀ p ∈ cutP k m, p.1 = 0 ∨ p.1 = 1 := by
  obtain ⟨pre, l, h1, h2, _⟩ := cutP_spec k m
  intro p hp
  rw [h1] at hp
  rcases List.mem_append.mp hp with hp | hp
  · exact .inl (h2 p hp)
  · rw [List.mem_singleton.mp hp]
    exact .inr rfl
def fl (k : Nat) (ms : List Msg) : List Pc := ms.flatMap (cutP k)
theorem fl_append (k : Nat) (a b : List Msg) : fl k (a ++ b) = fl k a ++ fl k b := by simp [fl]
theorem fl_cons (k : Nat) (m : Msg) (ms : List Msg) : fl k (m :: ms) = cutP k m ++ fl k ms := by simp [fl]
theorem fl_lasts (k : Nat) : ∀ ms : List Msg, lasts (fl k ms) = ms.length
  | [] => rfl
  | m :: ms => by rw [fl_cons, lasts_append, cutP_lasts, fl_lasts k ms, List.length_cons]; omega
theorem fl_flags (k : Nat) (ms : List Msg) : ∀ p ∈ fl k ms, p.1 = 0 ∨ p.1 = 1 := by
  intro p hp
  obtain ⟨m, _, h⟩ := List.mem_flatMap.mp hp
  exact cutP_flags k m p h
theorem lasts_le_fl (k : Nat) (ms : List Msg) (n : Nat) : lasts ((fl k ms).take n) ≤ ms.length := by
  rw [← fl_lasts k ms]
  have := lasts_append ((fl k ms).take n) ((fl k ms).drop n)
  rw [List.take_append_drop] at this
  omega
theorem near_idx {i low : Int} {w : Nat} (hw : 0 < w) (h1 : low ≤ i) (h2 : i < low + 2 * w) : near (i % (2 * (w : Int))) low w = i := by
  unfold near
  have hm : (0 : Int) < 2 * (w : Int) := by omega
  have e : (i % (2 * (w : Int)) - low) % (2 * (w : Int)) = (i - low) % (2 * (w : Int)) := by
    rw [Int.sub_emod, Int.emod_emod_of_dvd _ (Int.dvd_refl _), ← Int.sub_emod]
  rw [e, Int.emod_eq_of_lt (by omega) (by omega)]
  omega
end Lw
namespace Lw
open PySem L2 DL
def pcD (p : Pc) : D := .tup [.int p.1, .tup (p.2.map D.int)]
def msgD (m : Msg) : D := .tup (m.map D.int)
def cardD : Card → D
  | .hello o => .tup [.str "hello", .int (o : Int)]
  | .welcome o => .tup [.str "welcome", .int (o : Int)]
  | .who o => .tup [.str "who", .int (o : Int)]
  | .data o n p => .tup [.str "data", .int (o : Int), .int (n : Int), pcD p]
  | .note o n bs => .tup [.str "note", .int (o : Int), .int (n : Int), .tup (bs.map D.int)]
theorem cells_ne {S : List Cell} {i j : Nat} {c d : Cell} (h1 : S[i]? = some c) (h2 : S[j]? = some d) (h : c ≠ d) : i ≠ j := fun e => h (by subst e; rw [h1] at h2; injection h2)
theorem wfDs_ints (n : Nat) : ∀ is : List Int, wfDs n (is.map D.int)
  | [] => by simp [wfDs]
  | i :: is => by simp [wfDs, wfD, wfDs_ints n is]
theorem wf_msg (n : Nat) (x : Msg) : wfD n (msgD x) := by simp [msgD, wfD, wfDs_ints]
theorem wf_pc (n : Nat) (p : Pc) : wfD n (pcD p) := by simp [pcD, wfD, wfDs, wfDs_ints]
theorem wf_pcs (n : Nat) : ∀ ps : List Pc, wfDs n (ps.map pcD)
  | [] => by simp [wfDs]
  | p :: ps => by rw [List.map_cons]; exact ⟨wf_pc n p, wf_pcs n ps⟩
end Lw
namespace Lw
open PySem L2 DL
theorem cutF_len {k : Nat} (hk : 1 ≤ k) : ∀ (n : Nat) (m : Msg), (cutF k n m).length ≤ m.length + 1
  | 0, m => by simp [cutF]
  | n + 1, m => by
    unfold cutF
    split
    · have := cutF_len hk n (m.drop k)
      rw [List.length_drop] at this
      rw [List.length_cons]
      omega
    · simp
theorem cutP_len {k : Nat} (hk : 1 ≤ k) (m : Msg) : (cutP k m).length ≤ m.length + 1 := cutF_len hk 100 m
theorem loop_pieces {k : Nat} (hk : 1 ≤ k) {x0 x1 : Option D} {S : List Cell} : ∀ (fuel : Nat) (acc : List Pc) (m : Msg), m.length < fuel → acc.length + m.length < 1000000 → ∃ pre l, cutF k fuel m = pre ++ [(1, l)] ∧ pre.length ≤ m.length ∧
    sWhile (dTest (dOp gtD (dCall lenD (dCons (dVar 4) dNil)) (dVar 2))) (sSeq (sDrop (dBM appD (dVar 3) (dCons (dTup (dCons (dC (.int 0)) (dCons (dSl slD (dVar 4) dNoPart (dPart (dVar 2))) dNil))) dNil)))
  (sAsg (dSl slD (dVar 4) (dPart (dVar 2)) dNoPart) (gN 4))) fuel [x0, x1, some (.int (k : Int)), some (.ob S.length), some (msgD m)] (S ++ [.lst (acc.map pcD)]) = some (.nx [x0, x1, some (.int (k : Int)), some (.ob S.length), some (msgD l)], S ++ [.lst ((acc ++ pre).map pcD)])
  | 0, _, _, h, _ => by omega
  | f + 1, acc, m, h, hz => by
    have t1 : dTest (dOp gtD (dCall lenD (dCons (dVar 4) dNil)) (dVar 2)) [x0, x1, some (.int (k : Int)), some (.ob S.length), some (msgD m)] (S ++ [.lst (acc.map pcD)]) = .ok (decide (k < m.length)) (S ++ [.lst (acc.map pcD)]) := by
      refine ev_test (ev_op (x := .int (m.length : Int)) (ev_call (ev_cons rfl ev_nil) (by unfold msgD; rw [e_len_tup, List.length_map])) rfl ?_)
      rw [e_gt]
      congr 2
      rw [decide_eq_decide]
      omega
    by_cases hc : k < m.length
    · rw [decide_eq_true hc] at t1
      obtain ⟨pre, l, p1, p2, p3⟩ := loop_pieces (x0 := x0) (x1 := x1) (S := S) hk f (acc ++ [(0, m.take k)]) (m.drop k) (by rw [List.length_drop]; omega) (by rw [List.length_append, List.length_drop, List.length_singleton]; omega)
      refine ⟨(0, m.take k) :: pre, l, ?_, ?_, ?_⟩
      · rw [cutF, if_pos hc, p1]
        rfl
      · rw [List.length_drop] at p2
        rw [List.length_cons]
        omega
      · have c1 : cutD (m.map D.int) none (some (k : Int)) = (m.take k).map D.int := by rw [cutD_take (by simp; omega), List.map_take]
        have c2 : cutD (m.map D.int) (some (k : Int)) none = (m.drop k).map D.int := by rw [cutD_drop (by simp; omega), List.map_drop]
        have s1 : ∀ T, dSl slD (dVar 4) dNoPart (dPart (dVar 2)) [x0, x1, some (.int (k : Int)), some (.ob S.length), some (msgD m)] T = .ok (msgD (m.take k)) T := fun T => by
          simp only [e_dSl, e_bind, e_dVar, List.getElem?_cons_succ, List.getElem?_cons_zero, e_dNoPart, e_ret, e_dPart, e_intOf, msgD, slD, c1]
        have s2 : ∀ T, dSl slD (dVar 4) (dPart (dVar 2)) dNoPart [x0, x1, some (.int (k : Int)), some (.ob S.length), some (msgD m)] T = .ok (msgD (m.drop k)) T := fun T => by
          simp only [e_dSl, e_bind, e_dVar, List.getElem?_cons_succ, List.getElem?_cons_zero, e_dNoPart, e_ret, e_dPart, e_intOf, msgD, slD, c2]
        have hset : ∀ a c : Cell, (S ++ [a]).set S.length c = S ++ [c] := fun a c => by rw [List.set_append_right _ _ (Nat.le_refl _)]; simp
        have ee := e_app (S := S ++ [.lst (acc.map pcD)]) (n := S.length) (xs := acc.map pcD) (d := pcD (0, m.take k)) (push_at rfl) (by simp; omega)
        rw [hset] at ee
        have e2 : acc.map pcD ++ [pcD (0, m.take k)] = (acc ++ [(0, m.take k)]).map pcD := by simp
        rw [e2] at ee
        rw [wh_T t1 (r2 := [x0, x1, some (.int (k : Int)), some (.ob S.length), some (msgD (m.drop k))]) (S2 := S ++ [.lst ((acc ++ [(0, m.take k)]).map pcD)])]
        · rw [p3]
          simp
        · rw [go_seq (go_drop (ev_bm rfl (push_at rfl) (ev_cons (ev_tup (ev_cons rfl (ev_cons (s1 _) ev_nil)) (by simp)) ev_nil) ee)), go_asg (s2 _)]
          rfl
    · rw [decide_eq_false hc] at t1
      refine ⟨[], m, by rw [cutF, if_neg hc]; rfl, by simp, ?_⟩
      rw [wh_F t1, List.append_nil]
theorem pieces_eq {k : Nat} (hk : 1 ≤ k) {m : Msg} (hm : m.length ≤ 40) (S : List Cell) : F_pieces_of [msgD m, .int (k : Int)] S = .ok (.tup ((cutP k m).map pcD)) S := by
  show finP S (cd_pieces_of 100 [some (msgD m), some (.int (k : Int)), none, none, none] S) = _
  unfold cd_pieces_of
  have hmax : maxD [.int (k : Int), .int 1] S = .ok (.int (k : Int)) S := by
    rw [e_max]
    congr 2
    omega
  rw [go_seq (go_asg (ev_call (ev_cons rfl (ev_cons rfl ev_nil)) hmax))]
  show finP S (sSeq _ _ [some (msgD m), some (.int (k : Int)), some (.int (k : Int)), none, none] S) = _
  rw [go_seq (go_asg (ev_lst ev_nil (by decide)))]
  show finP S (sSeq _ _ [some (msgD m), some (.int (k : Int)), some (.int (k : Int)), some (.ob S.length), none] (S ++ [.lst []])) = _
  rw [go_seq (go_asg (d := msgD m) rfl)]
  show finP S (sSeq _ _ [some (msgD m), some (.int (k : Int)), some (.int (k : Int)), some (.ob S.length), some (msgD m)] (S ++ [.lst []])) = _
  obtain ⟨pre, l, p1, p2, p3⟩ := loop_pieces (x0 := some (msgD m)) (x1 := some (.int (k : Int))) (S := S) hk 100 [] m (by omega) (by simp; omega)
  rw [List.map_nil] at p3
  have hset : ∀ a c : Cell, (S ++ [a]).set S.length c = S ++ [c] := fun a c => by rw [List.set_append_right _ _ (Nat.le_refl _)]; simp
  have ee := e_app (S := S ++ [.lst (pre.map pcD)]) (n := S.length) (xs := pre.map pcD) (d := pcD (1, l)) (push_at rfl) (by simp; omega)
  rw [hset] at ee
  have e2 : pre.map pcD ++ [pcD (1, l)] = (cutP k m).map pcD := by unfold cutP; rw [p1]; simp
  rw [e2] at ee
  rw [go_seq p3, List.nil_append, go_seq (go_drop (ev_bm rfl (push_at rfl) (ev_cons (ev_tup (ev_cons rfl (ev_cons rfl ev_nil)) (by simp)) ev_nil) ee)), go_ret (ev_call (ev_cons (x := .ob S.length) rfl ev_nil) (e_tuple_ob (push_at rfl)))]
  exact finP_rt (by unfold wfD; exact wf_pcs _ _)
end Lw
namespace Lw
open PySem L2 DL
def stS : St → Str
  | .shut => "shut"
  | .opening => "opening"
  | .opened => "open"
def ntD (l : List Nat) : List (Key × D) := l.map fun (k : Nat) => (Sum.inl (k : Int), .bl true)
structure SrAt (G : Cs) (S : List Cell) (n m p q : Nat) (s : Sr) : Prop where
  ob : S[n]? = some (.ins G.Sender ns_Sender [.int (s.w : Int), .int (s.most : Int), .ob m, .int (s.sure : Int), .int (s.op : Int), .str (stS s.st), .ob p, .int (s.base : Int), .ob q])
  ms : S[m]? = some (.lst (s.msgs.map msgD))
  ps : S[p]? = some (.lst (s.ps.map pcD))
  nt : S[q]? = some (.dic (ntD s.noted))
  mp : m ≠ p
section
variable {G : Cs} {S S' S1 S2 : List Cell} {n m p q p1 q1 p2 q2 p' q' : Nat} {s s' s1 s2 : Sr}
theorem SrAt.nm (a : SrAt G S n m p q s) : n ≠ m := cells_ne a.ob a.ms (by intro z; cases z)
theorem SrAt.np (a : SrAt G S n m p q s) : n ≠ p := cells_ne a.ob a.ps (by intro z; cases z)
theorem SrAt.nq (a : SrAt G S n m p q s) : n ≠ q := cells_ne a.ob a.nt (by intro z; cases z)
theorem SrAt.mq (a : SrAt G S n m p q s) : m ≠ q := cells_ne a.ms a.nt (by intro z; cases z)
theorem SrAt.pq (a : SrAt G S n m p q s) : p ≠ q := cells_ne a.ps a.nt (by intro z; cases z)
theorem SrAt.push (a : SrAt G S n m p q s) (c : List Cell) : SrAt G (S ++ c) n m p q s := ⟨push_old a.ob, push_old a.ms, push_old a.ps, push_old a.nt, a.mp⟩
structure SrTo (G : Cs) (n m p q : Nat) (S : List Cell) (p' q' : Nat) (S' : List Cell) (s' : Sr) : Prop where
  at_ : SrAt G S' n m p' q' s'
  fr : Fr [n, m, p, q] S S'
  p_ : p' = p ∨ S.length ≤ p'
  q_ : q' = q ∨ S.length ≤ q'
theorem SrTo.trans (a : SrTo G n m p q S p1 q1 S1 s1) (c : SrTo G n m p1 q1 S1 p2 q2 S2 s2) : SrTo G n m p q S p2 q2 S2 s2 := by
  have hl := a.fr.1
  refine ⟨c.at_, a.fr.trans c.fr fun i hi hs => ?_, ?_, ?_⟩
  · simp only [List.mem_cons, List.not_mem_nil, or_false] at hi ⊢
    have he := a.p_
    have hb := a.q_
    omega
  · have := a.p_; have := c.p_; omega
  · have := a.q_; have := c.q_; omega
theorem SrTo.refl (a : SrAt G S n m p q s) : SrTo G n m p q S p q S s := ⟨a, Fr.refl _ _, .inl rfl, .inl rfl⟩
theorem SrTo.push (a : SrTo G n m p q S p' q' S' s') (c : List Cell) : SrTo G n m p q S p' q' (S' ++ c) s' := ⟨a.at_.push c, a.fr.tr Fr.push, a.p_, a.q_⟩
theorem sr_w (a : SrAt G S n m p q s) (r : DSt) : dFld G.Sender ns_Sender 0 (dVar 0) (some (.ob n) :: r) S = .ok (.int (s.w : Int)) S := ev_fld rfl a.ob rfl
theorem sr_most (a : SrAt G S n m p q s) (r : DSt) : dFld G.Sender ns_Sender 1 (dVar 0) (some (.ob n) :: r) S = .ok (.int (s.most : Int)) S := ev_fld rfl a.ob rfl
theorem sr_ms (a : SrAt G S n m p q s) (r : DSt) : dFld G.Sender ns_Sender 2 (dVar 0) (some (.ob n) :: r) S = .ok (.ob m) S := ev_fld rfl a.ob rfl
theorem sr_sure (a : SrAt G S n m p q s) (r : DSt) : dFld G.Sender ns_Sender 3 (dVar 0) (some (.ob n) :: r) S = .ok (.int (s.sure : Int)) S := ev_fld rfl a.ob rfl
theorem sr_op (a : SrAt G S n m p q s) (r : DSt) : dFld G.Sender ns_Sender 4 (dVar 0) (some (.ob n) :: r) S = .ok (.int (s.op : Int)) S := ev_fld rfl a.ob rfl
theorem sr_st (a : SrAt G S n m p q s) (r : DSt) : dFld G.Sender ns_Sender 5 (dVar 0) (some (.ob n) :: r) S = .ok (.str (stS s.st)) S := ev_fld rfl a.ob rfl
theorem sr_ps (a : SrAt G S n m p q s) (r : DSt) : dFld G.Sender ns_Sender 6 (dVar 0) (some (.ob n) :: r) S = .ok (.ob p) S := ev_fld rfl a.ob rfl
theorem sr_base (a : SrAt G S n m p q s) (r : DSt) : dFld G.Sender ns_Sender 7 (dVar 0) (some (.ob n) :: r) S = .ok (.int (s.base : Int)) S := ev_fld rfl a.ob rfl
theorem sr_nt (a : SrAt G S n m p q s) (r : DSt) : dFld G.Sender ns_Sender 8 (dVar 0) (some (.ob n) :: r) S = .ok (.ob q) S := ev_fld rfl a.ob rfl
theorem st_eq (a b : St) (S : List Cell) : eqD (.str (stS a)) (.str (stS b)) S = .ok (.bl (decide (a = b))) S := by
  cases a <;> cases b <;> exact e_eq_str
theorem st_ne (a b : St) (S : List Cell) : neD (.str (stS a)) (.str (stS b)) S = .ok (.bl (!decide (a = b))) S := by
  cases a <;> cases b <;> exact e_ne_str
structure Sb (N : Nat) (s : Sr) : Prop where
  most : 1 ≤ s.most
  ml : s.msgs.length ≤ N
  m40 : ∀ x, x ∈ s.msgs → x.length ≤ 40
  pl : s.ps.length ≤ 41 * N
  fg : ∀ x, x ∈ s.ps → x.1 = 0 ∨ x.1 = 1
  nl : s.noted.length ≤ 7 * N
theorem fl_len {k : Nat} (hk : 1 ≤ k) : ∀ {ms : List Msg}, (∀ x, x ∈ ms → x.length ≤ 40) → (fl k ms).length ≤ 41 * ms.length
  | [], _ => by simp [fl]
  | x :: ms, h => by
    have h1 := cutP_len hk x
    have h2 := h x (by simp)
    have h3 := fl_len hk (ms := ms) fun y hy => h y (List.mem_cons_of_mem _ hy)
    rw [fl_cons, List.length_append, List.length_cons]
    omega
theorem Sb.mono {N M : Nat} (b : Sb N s) (h : N ≤ M) : Sb M s := ⟨b.most, Nat.le_trans b.ml h, b.m40, by have := b.pl; omega, b.fg, by have := b.nl; omega⟩
theorem Sb.hand {N : Nat} {x : Msg} (b : Sb N s) (hx : x.length ≤ 40) : Sb (N + 1) (s.hand x) := by
  have h1 := b.ml
  have h2 := b.pl
  have h3 := cutP_len b.most x
  refine ⟨b.most, ?_, ?_, ?_, ?_, by have := b.nl; show s.noted.length ≤ _; omega⟩
  · show (s.msgs ++ [x]).length ≤ _
    rw [List.length_append, List.length_singleton]
    omega
  · intro y hy
    rcases List.mem_append.mp hy with hy | hy
    · exact b.m40 y hy
    · rw [List.mem_singleton.mp hy]; exact hx
  · show (if s.st = .shut then s.ps else s.ps ++ cutP s.most x).length ≤ _
    split
    · omega
    · rw [List.length_append]; omega
  · intro y hy
    have hy' : y ∈ (if s.st = .shut then s.ps else s.ps ++ cutP s.most x) := hy
    split at hy'
    · exact b.fg y hy'
    · rcases List.mem_append.mp hy' with hy | hy
      · exact b.fg y hy
      · exact cutP_flags _ _ y hy
theorem Sb.anew {N : Nat} (b : Sb N s) : Sb N s.anew := by
  refine ⟨b.most, b.ml, b.m40, ?_, fl_flags _ _, Nat.zero_le _⟩
  have := fl_len b.most (ms := s.msgs.drop s.sure) fun x hx => b.m40 x (List.mem_of_mem_drop hx)
  rw [List.length_drop] at this
  have h1 := b.ml
  show (fl s.most (s.msgs.drop s.sure)).length ≤ _
  omega
theorem sr_hand {N : Nat} (a : SrAt G S n m p q s) (b : Sb N s) (hN : N < 20000) {x : Msg} (hx : x.length ≤ 40) : ∃ S', F_Sender_hand G [.ob n, msgD x] S = .ok .non S' ∧ SrTo G n m p q S p q S' (s.hand x) := by
  show ∃ S', fin S (cd_Sender_hand G [some (.ob n), some (msgD x)] S) = _ ∧ _
  unfold cd_Sender_hand
  have hml := b.ml
  have hpl := b.pl
  have hcl := cutP_len b.most x
  obtain ⟨S1, q1, c1⟩ := st_app (fo := dFld G.Sender ns_Sender 2 (dVar 0)) (ft := dCons (dVar 1) dNil) (r := [some (.ob n), some (msgD x)]) (sr_ms a _) a.ms (ev_cons rfl ev_nil) (by rw [List.length_map]; omega)
  have a1 : SrAt G S1 n m p q { s with msgs := s.msgs ++ [x] } := ⟨c1.old a.ob a.nm.symm, by simpa using c1.at_, c1.old a.ps a.mp, c1.old a.nt a.mq, a.mp⟩
  have f1 : Fr [n, m, p, q] S S1 := c1.fp (by simp)
  rw [go_seq (go_drop q1)]
  have t1 : dTest (dOp neD (dFld G.Sender ns_Sender 5 (dVar 0)) (dC (.str "shut"))) [some (.ob n), some (msgD x)] S1 = .ok (!decide (s.st = .shut)) S1 := ev_test (ev_op (sr_st a1 _) rfl (st_ne s.st .shut _))
  by_cases hs : s.st = .shut
  · rw [decide_eq_true hs] at t1
    have e1 : s.hand x = { s with msgs := s.msgs ++ [x] } := by unfold Sr.hand; rw [if_pos hs]
    rw [go_ifF t1, e1]
    exact ⟨S1, rfl, a1, f1, .inl rfl, .inl rfl⟩
  · rw [decide_eq_false hs] at t1
    have e1 : s.hand x = { s with msgs := s.msgs ++ [x], ps := s.ps ++ cutP s.most x } := by unfold Sr.hand; rw [if_neg hs]
    obtain ⟨S2, q2, c2⟩ := st_ext (fo := dFld G.Sender ns_Sender 6 (dVar 0)) (ft := dCons (dCall F_pieces_of (dCons (dVar 1) (dCons (dFld G.Sender ns_Sender 1 (dVar 0)) dNil))) dNil) (r := [some (.ob n), some (msgD x)]) (sr_ps a1 _) a1.ps
      (ev_cons (ev_call (ev_cons rfl (ev_cons (sr_most a1 _) ev_nil)) (pieces_eq b.most hx S1)) ev_nil) (by rw [List.length_map, List.length_map]; show s.ps.length + _ ≤ _; omega)
    rw [go_ifT t1, go_drop q2, e1]
    refine ⟨S2, rfl, ⟨c2.old a1.ob a.np.symm, c2.old a1.ms a.mp.symm, by simpa using c2.at_, c2.old a1.nt a.pq, a.mp⟩, f1.tr (c2.fp (by simp)), .inl rfl, .inl rfl⟩
end
end Lw
namespace Lw
open PySem L2 DL
section
variable {G : Cs} {S S' S1 S2 : List Cell} {n m p q p1 q1 p2 q2 p' q' : Nat} {s s' s1 s2 : Sr} {N : Nat}
theorem flt_succ {k : Nat} {ms : List Msg} {i : Nat} {x : Msg} (h : ms[i]? = some x) : fl k (ms.take (i + 1)) = fl k (ms.take i) ++ cutP k x := by
  rw [List.take_add_one, h, Option.toList_some, fl_append]
  simp [fl]
theorem anew_loop {s : Sr} (b : Sb N s) (hN : N ≤ 20000) {ms : List Msg} (h40 : ∀ x, x ∈ ms → x.length ≤ 40) (hl : ms.length ≤ N) {kk : Nat} {x1 : Option D} (a : SrAt G S n m p q s) (hp0 : s.ps = []) (hk : S[kk]? = some (.lst (ms.map msgD))) (hkp : kk ≠ p) :
    ∃ S' x1', sTurns (some (kk, ms.map msgD)) (gN 1) (bd_Sender_open_anew_1 G) (ms.map msgD) [some (.ob n), x1] S = some (.nx [some (.ob n), x1'], S') ∧ SrAt G S' n m p q { s with ps := fl s.most ms } ∧ Fr [p] S S' := by
  obtain ⟨r', S', e, x1', rfl, a', f', _⟩ := sTurns_inv (g := some (kk, ms.map msgD)) (tg := gN 1) (b := bd_Sender_open_anew_1 G)
    (fun i r S' => ∃ x1', r = [some (.ob n), x1'] ∧ SrAt G S' n m p q { s with ps := fl s.most (ms.take i) } ∧ Fr [p] S S' ∧ S'[kk]? = some (.lst (ms.map msgD))) (ms.map msgD) 0 [some (.ob n), x1] S
    (by
      rintro i y r S' hy ⟨x1', rfl, a', f', k'⟩
      rw [List.getElem?_map] at hy
      cases hx : ms[i]? with
      | none => rw [hx] at hy; cases hy
      | some x =>
        rw [hx] at hy
        cases hy
        rw [Nat.zero_add] at a' ⊢
        have hxm := List.mem_of_getElem? hx
        have hil := (List.getElem?_eq_some_iff.mp hx).1
        have l1 := fl_len b.most (ms := ms.take i) fun y hy => h40 y (List.mem_of_mem_take hy)
        have l2 := cutP_len b.most x
        have l3 := h40 x hxm
        rw [List.length_take] at l1
        obtain ⟨S2, q2, c2⟩ := st_ext (fo := dFld G.Sender ns_Sender 6 (dVar 0)) (ft := dCons (dCall F_pieces_of (dCons (dVar 1) (dCons (dFld G.Sender ns_Sender 1 (dVar 0)) dNil))) dNil) (r := [some (.ob n), some (msgD x)]) (sr_ps a' _) a'.ps
          (ev_cons (ev_call (ev_cons rfl (ev_cons (sr_most a' _) ev_nil)) (pieces_eq b.most l3 S')) ev_nil) (by rw [List.length_map, List.length_map]; show (fl s.most (ms.take i)).length + _ ≤ _; omega)
        refine ⟨[some (.ob n), some (msgD x)], [some (.ob n), some (msgD x)], S2, rfl, go_drop q2, c2.old k' hkp.symm, some (msgD x), rfl, ?_, f'.tr (c2.fp (by simp)), c2.old k' hkp.symm⟩
        refine ⟨c2.old a'.ob a.np.symm, c2.old a'.ms a.mp.symm, ?_, c2.old a'.nt a.pq, a.mp⟩
        show S2[p]? = some (.lst ((fl s.most (ms.take (i + 1))).map pcD))
        rw [flt_succ hx, List.map_append]
        exact c2.at_)
    ⟨x1, rfl, ⟨a.ob, a.ms, by show S[p]? = some (.lst ((fl s.most (ms.take 0)).map pcD)); rw [List.take_zero]; have := a.ps; rw [hp0] at this; exact this, a.nt, a.mp⟩, Fr.refl _ _, hk⟩
  refine ⟨S', x1', e, ?_, f'⟩
  rw [show 0 + (ms.map msgD).length = ms.length by simp, List.take_length] at a'
  exact a'
theorem sr_anew (a : SrAt G S n m p q s) (b : Sb N s) (hN : N ≤ 20000) : ∃ S' p' q', F_Sender_open_anew G [.ob n] S = .ok .non S' ∧ SrTo G n m p q S p' q' S' s.anew := by
  show ∃ S' p' q', fin S (cd_Sender_open_anew G [some (.ob n), none] S) = _ ∧ _
  unfold cd_Sender_open_anew
  have ln := cell_lt a.ob
  have lm := cell_lt a.ms
  have lp := cell_lt a.ps
  have lq := cell_lt a.nt
  obtain ⟨S1, e1, c1⟩ := st_fldA (fo := dVar 0) (fe := dC (.int 1)) (r := [some (.ob n), none]) (i := 4) rfl a.ob rfl rfl rfl
  obtain ⟨S2, e2, c2⟩ := st_fld (fo := dVar 0) (fe := dC (.str "opening")) (r := [some (.ob n), none]) (i := 5) rfl rfl c1.at_ rfl
  obtain ⟨S3, e3, c3⟩ := st_fld (fo := dVar 0) (fe := dLst dNil) (r := [some (.ob n), none]) (i := 6) (ev_lst ev_nil (by decide)) rfl (push_old (G := [.lst []]) c2.at_) rfl
  have l1 := c1.len
  have l2 := c2.len
  have l3 := c3.len
  rw [List.length_append, List.length_singleton] at l3
  have ms3 : S3[m]? = some (.lst (s.msgs.map msgD)) := c3.old (push_old (c2.old (c1.old a.ms a.nm) a.nm)) a.nm
  have a3 : SrAt G S3 n m S2.length q { s with op := s.op + 1, st := .opening, ps := [] } :=
    ⟨c3.at_, ms3, c3.old (push_at rfl) (by omega), c3.old (push_old (c2.old (c1.old a.nt a.nq) a.nq)) a.nq, by omega⟩
  have f3 : Fr [n] S S3 := ((c1.fr.tr c2.fr).tr Fr.push).tr c3.fr
  have b3 : Sb N { s with op := s.op + 1, st := .opening, ps := [] } := ⟨b.most, b.ml, b.m40, Nat.zero_le _, by simp, b.nl⟩
  have hcut : cutD (s.msgs.map msgD) (some (s.sure : Int)) none = (s.msgs.drop s.sure).map msgD := by
    unfold cutD
    rw [HT.sIx_nat, HT.sIx_none, List.map_drop]
    by_cases h : s.sure ≤ (s.msgs.map msgD).length
    · rw [Nat.min_eq_left h, List.take_of_length_le (by rw [List.length_drop]; omega)]
    · rw [Nat.min_eq_right (by omega), List.drop_of_length_le (Nat.le_refl _), List.drop_of_length_le (by omega)]
      simp
  have w1 : dWk (dSl slD (dFld G.Sender ns_Sender 2 (dVar 0)) (dPart (dFld G.Sender ns_Sender 3 (dVar 0))) dNoPart) [some (.ob n), none] S3 = .ok ⟨(s.msgs.drop s.sure).map msgD, some (S3.length, (s.msgs.drop s.sure).map msgD)⟩ (S3 ++ [.lst ((s.msgs.drop s.sure).map msgD)]) := by
    have : dSl slD (dFld G.Sender ns_Sender 2 (dVar 0)) (dPart (dFld G.Sender ns_Sender 3 (dVar 0))) dNoPart [some (.ob n), none] S3 = .ok (.ob S3.length) (S3 ++ [.lst ((s.msgs.drop s.sure).map msgD)]) := by
      rw [e_dSl, e_bind, sr_ms a3]
      dsimp only
      rw [e_bind, e_dPart, e_bind, sr_sure a3]
      simp only [e_intOf, e_ret, e_dNoPart, e_bind, slD, lstAt_of a3.ms]
      rw [show ({ s with op := s.op + 1, st := .opening, ps := [] } : Sr).sure = s.sure from rfl, hcut]
    rw [e_dWk, e_bind, this]
    simp only [wkOf, push_new]
  have hdl : (s.msgs.drop s.sure).length ≤ N := by have := b.ml; rw [List.length_drop]; omega
  obtain ⟨S4, x4, e4, a4, f4⟩ := anew_loop (x1 := none) b3 hN (ms := s.msgs.drop s.sure) (fun x hx => b.m40 x (List.mem_of_mem_drop hx)) hdl (kk := S3.length) (a3.push [.lst ((s.msgs.drop s.sure).map msgD)]) rfl (push_at rfl) (by omega)
  have l4 := f4.1
  rw [List.length_append, List.length_singleton] at l4
  obtain ⟨S5, e5, c5⟩ := st_fld (fo := dVar 0) (fe := dC (.int 0)) (r := [some (.ob n), x4]) (i := 7) rfl rfl a4.ob rfl
  obtain ⟨S6, e6, c6⟩ := st_fld (fo := dVar 0) (fe := dDic0) (r := [some (.ob n), x4]) (i := 8) rfl rfl (push_old (G := [.dic []]) c5.at_) rfl
  have l5 := c5.len
  have lp4 := cell_lt a4.ps
  refine ⟨S6, S2.length, S5.length, ?_, ⟨⟨c6.at_, c6.old (push_old (c5.old a4.ms a.nm)) a.nm, c6.old (push_old (c5.old a4.ps (by omega))) (by omega), c6.old (push_at rfl) (by omega), by omega⟩, ?_, .inr (by omega), .inr (by omega)⟩⟩
  · rw [go_seq e1, go_seq e2, go_seq e3, go_seq (by rw [go_for w1]; exact e4), go_seq e5, e6]
    rfl
  · have g1 : Fr [n, m, p, q] S S3 := f3.mono fun i hi _ => by simp at hi; simp [hi]
    have g2 : Fr [n, m, p, q] S S4 := (g1.tr Fr.push).trans f4 fun i hi hs => by
      have : i = S2.length := by simpa using hi
      omega
    exact ((g2.tr (c5.fp (by simp))).tr Fr.push).tr (c6.fp (by simp))
theorem sr_start (a : SrAt G S n m p q s) (b : Sb N s) (hN : N ≤ 20000) : ∃ S' p' q', F_Sender_start G [.ob n] S = .ok .non S' ∧ SrTo G n m p q S p' q' S' s.start := by
  show ∃ S' p' q', fin S (cd_Sender_start G [some (.ob n)] S) = _ ∧ _
  unfold cd_Sender_start
  have t1 : dTest (dOp eqD (dFld G.Sender ns_Sender 5 (dVar 0)) (dC (.str "shut"))) [some (.ob n)] S = .ok (decide (s.st = .shut)) S := ev_test (ev_op (sr_st a _) rfl (st_eq s.st .shut _))
  by_cases hs : s.st = .shut
  · rw [decide_eq_true hs] at t1
    obtain ⟨S', p', q', e1, k1⟩ := sr_anew a b hN
    refine ⟨S', p', q', ?_, ?_⟩
    · rw [go_ifT t1, go_drop (ev_meth rfl a.ob ev_nil e1)]
      rfl
    · unfold Sr.start
      rw [if_pos hs]
      exact k1
  · rw [decide_eq_false hs] at t1
    refine ⟨S, p, q, ?_, ?_⟩
    · rw [go_ifF t1]
      rfl
    · unfold Sr.start
      rw [if_neg hs]
      exact SrTo.refl a
end
end Lw
namespace Lw
open PySem L2 DL
section
variable {G : Cs} {S S' S1 S2 : List Cell} {n m p q p1 q1 p2 q2 p' q' : Nat} {s s' s1 s2 : Sr} {N : Nat}
theorem nt_val (l : List Nat) (k : Nat) : (valD (ntD l) (.inl (k : Int))).isSome = decide (k ∈ l) := by
  induction l with
  | nil => rfl
  | cons a r ih =>
    unfold ntD at ih ⊢
    rw [List.map_cons]
    unfold valD at ih ⊢
    rw [List.find?_cons]
    by_cases h : a = k
    · subst h
      simp
    · have h2 : decide ((Sum.inl (a : Int) : Key) = Sum.inl (k : Int)) = false := decide_eq_false fun z => h (by injection z with z; omega)
      simp only [h2]
      rw [ih]
      simp [Ne.symm h]
theorem numof_eq {m w : Nat} (hw : 0 < w) (S : List Cell) : F_number_of [.int (m : Int), .int (w : Int)] S = .ok (.int ((m % (2 * w) : Nat) : Int)) S := by
  have h1 : (0 : Int) < 2 * (w : Int) := by omega
  simp [F_number_of, cd_number_of, e_mod_int h1]
theorem sr_dataOf (a : SrAt G S n m p q s) (hw : 0 < s.w) {i : Nat} (hi : i < s.ps.length) : F_Sender_data_of G [.ob n, .int (i : Int)] S = .ok (cardD (s.dataOf i)) S := by
  show fin S (cd_Sender_data_of G [some (.ob n), some (.int (i : Int))] S) = _
  unfold cd_Sender_data_of
  have hx : s.ps[i]? = some (s.ps.getD i (0, [])) := by simp [List.getD, hi]
  have e1 : ixD (.ob p) (.int (i : Int)) S = .ok (pcD (s.ps.getD i (0, []))) S := e_ix_ob a.ps (by rw [List.getElem?_map, hx]; rfl)
  rw [go_ret (ev_tup (ev_cons rfl (ev_cons (sr_op a _) (ev_cons (ev_call (ev_cons rfl (ev_cons (sr_w a _) ev_nil)) (numof_eq hw S)) (ev_cons (ev_op (sr_ps a _) rfl e1) ev_nil)))) (by simp))]
  rfl
theorem rng2_eq {lo hi : Nat} (h : hi ≤ 1000000) (S : List Cell) : wRng2 (.int (lo : Int)) (.int (hi : Int)) S = .ok ⟨rngD (lo : Int) 1 (hi - lo), none⟩ S ∨ hi < lo := by
  by_cases hl : hi < lo
  · exact .inr hl
  · refine .inl ?_
    show wRng (lo : Int) (hi : Int) 1 S = _
    have hs : Builtin.Range.small (lo : Int) (hi : Int) 1 = true := small_one (by omega) (by omega) (by omega) (by omega)
    unfold wRng
    have e : (if (lo : Int) < (hi : Int) then (hi : Int) - (lo : Int) else 0).toNat = hi - lo := by split <;> omega
    rw [cif_pos ⟨⟨by omega, by omega⟩, hs⟩, rangeSize_one, e]
theorem sr_wanted (a : SrAt G S n m p q s) (hN : s.ps.length ≤ 1000000) (hb : s.base ≤ s.ps.length) : F_Sender_wanted G [.ob n] S = .ok (.ob S.length) (S ++ [.lst (s.wanted.map fun (i : Nat) => .int (i : Int))]) := by
  show fin S (cd_Sender_wanted G [some (.ob n), none] S) = _
  unfold cd_Sender_wanted
  have e1 : dCall minD (dCons (dOp addD (dFld G.Sender ns_Sender 7 (dVar 0)) (dFld G.Sender ns_Sender 0 (dVar 0))) (dCons (dCall lenD (dCons (dFld G.Sender ns_Sender 6 (dVar 0)) dNil)) dNil)) [some (.ob n), none] S = .ok (.int ((min (s.base + s.w) s.ps.length : Nat) : Int)) S := by
    refine ev_call (ev_cons (ev_op (sr_base a _) (sr_w a _) (e_add_int _ _)) (ev_cons (ev_call (ev_cons (sr_ps a _) ev_nil) (e_len_ob a.ps)) ev_nil)) ?_
    rw [e_min, List.length_map]
    congr 2
    omega
  rw [go_seq (go_asg e1)]
  show fin S (sRet _ [some (.ob n), some (.int ((min (s.base + s.w) s.ps.length : Nat) : Int))] S) = _
  obtain ⟨hi, hhi⟩ : ∃ hi, min (s.base + s.w) s.ps.length = hi := ⟨_, rfl⟩
  have hlo : s.base ≤ hi := by omega
  have q1 := ev_comp (f := dRng2 (dFld G.Sender ns_Sender 7 (dVar 0)) (dVar 1)) (tg := gN 0) (ti := dTest (dOp dnotinD (dVar 0) (dFld G.Sender ns_Sender 8 (dVar 1)))) (fe := dVar 0) (own := 1) (caps := [0])
    (r := [some (.ob n), some (.int (hi : Int))]) (S := S) (S1 := S) (w := ⟨rngD (s.base : Int) 1 (hi - s.base), none⟩) (fun x => match x with
      | .int k => decide (k.toNat ∉ s.noted)
      | _ => false) id (by
      show ((dFld G.Sender ns_Sender 7 (dVar 0) [some (.ob n), some (.int (hi : Int))]).bind fun x => (dVar 1 [some (.ob n), some (.int (hi : Int))]).bind fun y => wRng2 x y) S = _
      rw [e_bind, sr_base a]
      show wRng2 (.int (s.base : Int)) (.int (hi : Int)) S = _
      rcases rng2_eq (lo := s.base) (hi := hi) (by omega) S with h | h
      · exact h
      · omega) trivial (by simp [rngD]; omega) (by
      intro x hx
      simp only [rngD, List.mem_map, List.mem_range] at hx
      obtain ⟨k, _, rfl⟩ := hx
      have hk : (s.base : Int) + (k : Int) * 1 = ((s.base + k : Nat) : Int) := by omega
      rw [hk]
      refine ⟨_, rfl, fun zs => ?_, fun _ zs => rfl⟩
      have ap := a.push [.lst zs]
      have g2 : dFld G.Sender ns_Sender 8 (dVar 1) [some (.int ((s.base + k : Nat) : Int)), some (.ob n)] (S ++ [.lst zs]) = .ok (.ob q) (S ++ [.lst zs]) := ev_fld rfl ap.ob rfl
      show dTest _ [some (.int ((s.base + k : Nat) : Int)), some (.ob n)] (S ++ [.lst zs]) = _
      refine ev_test (ev_op rfl g2 ?_)
      simp only [dnotinD, keyD, dicAt_of ap.nt, nt_val, Int.toNat_natCast]
      simp)
  have hw : ((rngD (s.base : Int) 1 (hi - s.base)).filter (fun x => match x with
      | .int k => decide (k.toNat ∉ s.noted)
      | _ => false)).map id = s.wanted.map fun (i : Nat) => .int (i : Int) := by
    unfold rngD Sr.wanted
    rw [hhi, List.map_id, List.range'_eq_map_range, List.filter_map, List.filter_map, List.map_map]
    have : ((fun x : D => match x with
      | .int k => decide (k.toNat ∉ s.noted)
      | _ => false) ∘ fun (i : Nat) => D.int ((s.base : Int) + (i : Int) * 1)) = ((fun i => decide (i ∉ s.noted)) ∘ fun x => s.base + x) := by
      funext i
      have hk : ((s.base : Int) + (i : Int) * 1).toNat = s.base + i := by omega
      simp only [Function.comp_def, hk]
    rw [this]
    refine List.map_congr_left fun i _ => ?_
    simp only [Function.comp_def]
    congr 1
    omega
  rw [hw] at q1
  rw [hhi, go_ret q1]
  rfl
theorem sr_tick (a : SrAt G S n m p q s) (hw : 0 < s.w) (hN : s.ps.length ≤ 1000000) (hb : s.st = .opened → s.base ≤ s.ps.length) : ∃ S' l, F_Sender_tick G [.ob n] S = .ok (.ob l) S' ∧ SrTo G n m p q S p q S' s ∧ S'[l]? = some (.lst (s.tick.map cardD)) ∧ S.length ≤ l := by
  show ∃ S' l, fin S (cd_Sender_tick G [some (.ob n)] S) = _ ∧ _
  unfold cd_Sender_tick
  have t1 : dTest (dOp eqD (dFld G.Sender ns_Sender 5 (dVar 0)) (dC (.str "opening"))) [some (.ob n)] S = .ok (decide (s.st = .opening)) S := ev_test (ev_op (sr_st a _) rfl (st_eq s.st .opening _))
  have t2 : dTest (dOp eqD (dFld G.Sender ns_Sender 5 (dVar 0)) (dC (.str "open"))) [some (.ob n)] S = .ok (decide (s.st = .opened)) S := ev_test (ev_op (sr_st a _) rfl (st_eq s.st .opened _))
  cases hs : s.st with
  | opening =>
    rw [hs] at t1
    have e1 : s.tick = [.hello s.op] := by unfold Sr.tick; rw [hs]
    rw [rt_seq (by rw [go_ifT t1]; exact go_ret (ev_lst (ev_cons (ev_tup (ev_cons rfl (ev_cons (sr_op a _) ev_nil)) (by simp)) ev_nil) (by simp))), e1]
    exact ⟨_, _, rfl, (SrTo.refl a).push _, push_at rfl, Nat.le_refl _⟩
  | shut =>
    rw [hs] at t1 t2
    have e1 : s.tick = [] := by unfold Sr.tick; rw [hs]
    rw [go_seq (by rw [go_ifF t1]; rfl), go_seq (by rw [go_ifF t2]; rfl), go_ret (ev_lst ev_nil (by decide)), e1]
    exact ⟨_, _, rfl, (SrTo.refl a).push _, push_at rfl, Nat.le_refl _⟩
  | opened =>
    rw [hs] at t1 t2
    have e1 : s.tick = s.wanted.map s.dataOf := by unfold Sr.tick; rw [hs]
    obtain ⟨S1, hS1⟩ : ∃ S1, S ++ [Cell.lst (s.wanted.map fun (i : Nat) => .int (i : Int))] = S1 := ⟨_, rfl⟩
    have w1 := sr_wanted a hN (hb hs)
    rw [hS1] at w1
    have k1 : S1[S.length]? = some (.lst (s.wanted.map fun (i : Nat) => .int (i : Int))) := by rw [← hS1]; exact push_at rfl
    have a1 : SrAt G S1 n m p q s := by rw [← hS1]; exact a.push _
    have wl : s.wanted.length ≤ 1000000 := by
      unfold Sr.wanted
      refine Nat.le_trans (List.length_filter_le _ _) ?_
      rw [List.length_range']
      omega
    have q1 := ev_comp (f := dWk (dMeth G.Sender ns_Sender (F_Sender_wanted G) (dVar 0) dNil)) (tg := gN 0) (ti := dYes) (fe := dMeth G.Sender ns_Sender (F_Sender_data_of G) (dVar 1) (dCons (dVar 0) dNil)) (own := 1) (caps := [0])
      (r := [some (.ob n)]) (S := S) (S1 := S1) (w := ⟨s.wanted.map fun (i : Nat) => .int (i : Int), some (S.length, s.wanted.map fun (i : Nat) => .int (i : Int))⟩) (fun _ => true) (fun x => match x with
        | .int k => cardD (s.dataOf k.toNat)
        | _ => .non) (by
        rw [e_dWk, e_bind, ev_meth rfl a.ob ev_nil w1]
        simp only [wkOf, k1]) k1 (by rw [List.length_map]; exact wl) (by
        intro x hx
        obtain ⟨i, hi, rfl⟩ := List.mem_map.mp hx
        refine ⟨_, rfl, fun _ => rfl, fun _ zs => ?_⟩
        have ap := a1.push [.lst zs]
        have hi2 : i < s.ps.length := by
          unfold Sr.wanted at hi
          have := (List.mem_range'_1.mp (List.mem_filter.mp hi).1).2
          have := hb hs
          omega
        show dMeth _ _ _ _ _ [some (.int (i : Int)), some (.ob n)] (S1 ++ [.lst zs]) = _
        refine ev_meth rfl ap.ob (ev_cons rfl ev_nil) ?_
        rw [sr_dataOf ap hw hi2]
        dsimp only
        rw [Int.toNat_natCast])
    have hm : ((s.wanted.map fun (i : Nat) => D.int (i : Int)).filter fun _ => true).map (fun x => match x with
        | .int k => cardD (s.dataOf k.toNat)
        | _ => .non) = (s.wanted.map s.dataOf).map cardD := by
      rw [List.filter_eq_self.mpr (by simp), List.map_map, List.map_map]
      refine List.map_congr_left fun i _ => ?_
      simp only [Function.comp_def, Int.toNat_natCast]
    dsimp only at q1
    rw [hm] at q1
    rw [go_seq (by rw [go_ifF t1]; rfl), rt_seq (by rw [go_ifT t2]; exact go_ret q1), e1]
    refine ⟨_, _, rfl, ⟨a1.push _, ?_, .inl rfl, .inl rfl⟩, push_at rfl, ?_⟩
    · rw [← hS1]
      exact Fr.push.tr Fr.push
    · rw [← hS1]
      simp
end
end Lw
namespace Lw
open PySem L2 DL
section
variable {G : Cs} {S S' S1 S2 : List Cell} {n m p q p1 q1 p2 q2 p' q' : Nat} {s s' s1 s2 : Sr} {N : Nat}
theorem cutD_mid {xs : List D} {i j : Nat} (h1 : i ≤ j) (h2 : j ≤ xs.length) : cutD xs (some (i : Int)) (some (j : Int)) = (xs.take j).drop i := by
  unfold cutD
  rw [HT.sIx_nat, HT.sIx_nat, Nat.min_eq_left (show i ≤ xs.length by omega), Nat.min_eq_left h2, List.drop_take]
theorem sum_flags {ps : List Pc} (h : ∀ x, x ∈ ps → x.1 = 0 ∨ x.1 = 1) : (ps.map (·.1)).sum = (lasts ps : Int) := by
  induction ps with
  | nil => rfl
  | cons a r ih =>
    have h1 := h a (by simp)
    have h2 := ih fun x hx => h x (List.mem_cons_of_mem _ hx)
    have e : lasts (a :: r) = (if a.1 = 1 then 1 else 0) + lasts r := by
      unfold lasts
      rw [List.filter_cons]
      rcases h1 with h1 | h1
      · simp [h1]
      · simp [h1]; omega
    rw [List.map_cons, List.sum_cons, h2, e]
    rcases h1 with h1 | h1
    · rw [h1]; simp
    · rw [h1]; simp
theorem sr_move (a : SrAt G S n m p q s) (b : Sb N s) (hN : N ≤ 20000) {i : Nat} (h1 : s.base ≤ i) (h2 : i ≤ s.ps.length) : ∃ S', F_Sender_move_base G [.ob n, .int (i : Int)] S = .ok .non S' ∧ SrTo G n m p q S p q S' (s.moveB i) := by
  show ∃ S', fin S (cd_Sender_move_base G [some (.ob n), some (.int (i : Int))] S) = _ ∧ _
  unfold cd_Sender_move_base
  have hpl := b.pl
  obtain ⟨qs, hqs⟩ : ∃ qs, (s.ps.take i).drop s.base = qs := ⟨_, rfl⟩
  have hql : qs.length ≤ 1000000 := by rw [← hqs, List.length_drop, List.length_take]; omega
  have hqf : ∀ x, x ∈ qs → x.1 = 0 ∨ x.1 = 1 := fun x hx => b.fg x (by rw [← hqs] at hx; exact List.mem_of_mem_take (List.mem_of_mem_drop hx))
  have w1 : dWk (dSl slD (dFld G.Sender ns_Sender 6 (dVar 0)) (dPart (dFld G.Sender ns_Sender 7 (dVar 0))) (dPart (dVar 1))) [some (.ob n), some (.int (i : Int))] S = .ok ⟨qs.map pcD, some (S.length, qs.map pcD)⟩ (S ++ [.lst (qs.map pcD)]) := by
    have : dSl slD (dFld G.Sender ns_Sender 6 (dVar 0)) (dPart (dFld G.Sender ns_Sender 7 (dVar 0))) (dPart (dVar 1)) [some (.ob n), some (.int (i : Int))] S = .ok (.ob S.length) (S ++ [.lst (qs.map pcD)]) := by
      rw [e_dSl, e_bind, sr_ps a]
      dsimp only
      rw [e_bind, e_dPart, e_bind, sr_base a]
      simp only [e_intOf, e_ret, e_bind, e_dPart, e_dVar, List.getElem?_cons_succ, List.getElem?_cons_zero, slD, lstAt_of a.ps]
      rw [cutD_mid h1 (by rw [List.length_map]; exact h2), ← List.map_take, ← List.map_drop, hqs]
    rw [e_dWk, e_bind, this]
    simp only [wkOf, push_new]
  have q1 := ev_comp (f := dWk (dSl slD (dFld G.Sender ns_Sender 6 (dVar 0)) (dPart (dFld G.Sender ns_Sender 7 (dVar 0))) (dPart (dVar 1)))) (tg := gN 0) (ti := dYes) (fe := dOp ixD (dVar 0) (dC (.int 0))) (own := 1) (caps := []) (r := [some (.ob n), some (.int (i : Int))]) (S := S)
    (S1 := S ++ [.lst (qs.map pcD)]) (w := ⟨qs.map pcD, some (S.length, qs.map pcD)⟩) (fun _ => true) (fun x => match x with
      | .tup (y :: _) => y
      | _ => .non) w1 (push_at rfl) (by rw [List.length_map]; exact hql) (by
      intro x hx
      obtain ⟨y, _, rfl⟩ := List.mem_map.mp hx
      exact ⟨_, rfl, fun _ => rfl, fun _ zs => ev_op rfl rfl rfl⟩)
  have hm : ((qs.map pcD).filter fun _ => true).map (fun x => match x with
      | .tup (y :: _) => y
      | _ => .non) = (qs.map (·.1)).map D.int := by
    rw [List.filter_eq_self.mpr (by simp), List.map_map, List.map_map]
    rfl
  dsimp only at q1
  rw [hm] at q1
  have e1 : dCall sumD (dCons (dComp (dWk (dSl slD (dFld G.Sender ns_Sender 6 (dVar 0)) (dPart (dFld G.Sender ns_Sender 7 (dVar 0))) (dPart (dVar 1)))) (gN 0) dYes (dOp ixD (dVar 0) (dC (.int 0))) 1 []) dNil) [some (.ob n), some (.int (i : Int))] S = .ok (.int (lasts qs : Int)) ((S ++ [.lst (qs.map pcD)]) ++ [.lst ((qs.map (·.1)).map D.int)]) := by
    refine ev_call (ev_cons q1 ev_nil) ?_
    simp only [sumD, seqD, lstAt_of push_new, intsOf_ints]
    rw [sum_flags hqf]
  obtain ⟨S2, hS2⟩ : ∃ S2, (S ++ [Cell.lst (qs.map pcD)]) ++ [Cell.lst ((qs.map (·.1)).map D.int)] = S2 := ⟨_, rfl⟩
  have a2 : SrAt G S2 n m p q s := by rw [← hS2]; exact (a.push _).push _
  have f2 : Fr [n, m, p, q] S S2 := by rw [← hS2]; exact Fr.push.tr Fr.push
  rw [hS2] at e1
  have q3 := go_fldA (fo := dVar 0) (r := [some (.ob n), some (.int (i : Int))]) (i := 3) rfl a.ob rfl e1 a2.ob
  have c3 := Ch.set (c := .ins G.Sender ns_Sender [.int (s.w : Int), .int (s.most : Int), .ob m, .int ((s.sure : Int) + (lasts qs : Int)), .int (s.op : Int), .str (stS s.st), .ob p, .int (s.base : Int), .ob q]) a2.ob
  obtain ⟨S3, hS3⟩ : ∃ S3, S2.set n (.ins G.Sender ns_Sender [.int (s.w : Int), .int (s.most : Int), .ob m, .int ((s.sure : Int) + (lasts qs : Int)), .int (s.op : Int), .str (stS s.st), .ob p, .int (s.base : Int), .ob q]) = S3 := ⟨_, rfl⟩
  have q3' : sFldA G.Sender ns_Sender 3 (dVar 0) (dCall sumD (dCons (dComp (dWk (dSl slD (dFld G.Sender ns_Sender 6 (dVar 0)) (dPart (dFld G.Sender ns_Sender 7 (dVar 0))) (dPart (dVar 1)))) (gN 0) dYes (dOp ixD (dVar 0) (dC (.int 0))) 1 []) dNil)) [some (.ob n), some (.int (i : Int))] S = some (.nx [some (.ob n), some (.int (i : Int))], S3) := by
    rw [q3, ← hS3]
    rfl
  rw [hS3] at c3
  obtain ⟨S4, q4, c4⟩ := st_fld (fo := dVar 0) (fe := dVar 1) (r := [some (.ob n), some (.int (i : Int))]) (i := 7) rfl rfl c3.at_ rfl
  rw [go_seq q3', q4]
  have hsum : (s.sure : Int) + (lasts qs : Int) = ((s.sure + lasts qs : Nat) : Int) := by omega
  refine ⟨S4, rfl, ⟨?_, c4.old (c3.old a2.ms a.nm) a.nm, c4.old (c3.old a2.ps a.np) a.np, c4.old (c3.old a2.nt a.nq) a.nq, a.mp⟩, (f2.tr (c3.fp (by simp))).tr (c4.fp (by simp)), .inl rfl, .inl rfl⟩
  have := c4.at_
  rw [hsum] at this
  unfold Sr.moveB
  rw [hqs]
  exact this
theorem nt_put {l : List Nat} (k : Nat) : putD (ntD l) (.inl (k : Int)) (.bl true) = ntD (if k ∈ l then l else l ++ [k]) := by
  have hany : ((ntD l).any fun kv => decide (kv.1 = (Sum.inl (k : Int) : Key))) = decide (k ∈ l) := by
    induction l with
    | nil => rfl
    | cons a r ih =>
      unfold ntD at ih ⊢
      rw [List.map_cons, List.any_cons, ih]
      by_cases h : a = k
      · subst h
        simp
      · have h2 : decide ((Sum.inl (a : Int) : Key) = Sum.inl (k : Int)) = false := decide_eq_false fun z => h (by injection z with z; omega)
        rw [h2]
        simp [Ne.symm h]
  unfold putD
  rw [hany]
  by_cases h : k ∈ l
  · rw [if_pos (decide_eq_true h), if_pos h]
    unfold ntD
    rw [List.map_map]
    refine List.map_congr_left fun a _ => ?_
    simp only [Function.comp_def]
    split <;> rfl
  · rw [if_neg (by simp [h]), if_neg h]
    simp [ntD]
theorem noteP_snoc : ∀ (bs : List Int) (s : Sr) (k : Nat) (b : Int), s.noteP k (bs ++ [b]) = (s.noteP k bs).noteP (k + bs.length) [b]
  | [], s, k, b => rfl
  | c :: bs, s, k, b => by
    rw [List.cons_append]
    unfold Sr.noteP
    rw [noteP_snoc bs _ (k + 1) b, List.length_cons, show k + 1 + bs.length = k + (bs.length + 1) by omega]
    rfl
theorem noteP_fields : ∀ (bs : List Int) (s : Sr) (k : Nat), (s.noteP k bs).w = s.w ∧ (s.noteP k bs).most = s.most ∧ (s.noteP k bs).msgs = s.msgs ∧ (s.noteP k bs).sure = s.sure ∧ (s.noteP k bs).op = s.op ∧ (s.noteP k bs).st = s.st ∧ (s.noteP k bs).ps = s.ps ∧ (s.noteP k bs).base = s.base ∧ (s.noteP k bs).noted.length ≤ s.noted.length + bs.length
  | [], s, k => ⟨rfl, rfl, rfl, rfl, rfl, rfl, rfl, rfl, by simp [Sr.noteP]⟩
  | b :: bs, s, k => by
    unfold Sr.noteP
    split
    · obtain ⟨h1, h2, h3, h4, h5, h6, h7, h8, h9⟩ := noteP_fields bs { s with noted := s.noted ++ [s.base + k] } (k + 1)
      refine ⟨h1, h2, h3, h4, h5, h6, h7, h8, ?_⟩
      rw [List.length_append, List.length_singleton] at h9
      rw [List.length_cons]
      omega
    · obtain ⟨h1, h2, h3, h4, h5, h6, h7, h8, h9⟩ := noteP_fields bs s (k + 1)
      refine ⟨h1, h2, h3, h4, h5, h6, h7, h8, ?_⟩
      rw [List.length_cons]
      omega
theorem sr_noteP (a : SrAt G S n m p q s) (hz : s.noted.length ≤ 500000) {bs : List Int} (hb : bs.length ≤ 1000) : ∃ S', F_Sender_note_pieces G [.ob n, .tup (bs.map D.int)] S = .ok .non S' ∧ SrTo G n m p q S p q S' (s.noteP 0 bs) := by
  show ∃ S', fin S (cd_Sender_note_pieces G [some (.ob n), some (.tup (bs.map D.int)), none, none] S) = _ ∧ _
  unfold cd_Sender_note_pieces
  have w1 : dEnum 0 (dVar 1) [some (.ob n), some (.tup (bs.map D.int)), none, none] S = .ok ⟨enumD 0 (bs.map D.int), none⟩ S := rfl
  have hget : ∀ {i : Nat} {y : D}, (enumD 0 (bs.map D.int))[i]? = some y → ∃ b, bs[i]? = some b ∧ y = .tup [.int (i : Int), .int b] := by
    intro i y h
    unfold enumD at h
    rw [List.getElem?_map, List.getElem?_zipIdx, List.getElem?_map] at h
    cases e : bs[i]? with
    | none => rw [e] at h; simp at h
    | some b =>
      rw [e] at h
      simp at h
      exact ⟨b, rfl, h.symm⟩
  obtain ⟨r', S', e, x2, x3, rfl, a', f'⟩ := sTurns_inv (g := none) (tg := gT [2, 3]) (b := bd_Sender_note_pieces_1 G)
    (fun i r S' => ∃ x2 x3, r = [some (.ob n), some (.tup (bs.map D.int)), x2, x3] ∧ SrAt G S' n m p q (s.noteP 0 (bs.take i)) ∧ Fr [n, m, p, q] S S') (enumD 0 (bs.map D.int)) 0 [some (.ob n), some (.tup (bs.map D.int)), none, none] S
    (by
      rintro i y r S' hy ⟨x2, x3, rfl, a', f'⟩
      obtain ⟨b, hb', rfl⟩ := hget hy
      rw [Nat.zero_add] at a' ⊢
      have hil := (List.getElem?_eq_some_iff.mp hb').1
      obtain ⟨s', hs'⟩ : ∃ s', s.noteP 0 (bs.take i) = s' := ⟨_, rfl⟩
      have hnext : s.noteP 0 (bs.take (i + 1)) = s'.noteP i [b] := by
        rw [List.take_add_one, hb', Option.toList_some, noteP_snoc, hs', List.length_take, Nat.min_eq_left (by omega), Nat.zero_add]
      have hfl := noteP_fields (bs.take i) s 0
      rw [hs'] at hfl a'
      rw [hnext]
      obtain ⟨_, _, _, _, _, _, g7, g8, g9⟩ := hfl
      rw [List.length_take] at g9
      refine ⟨[some (.ob n), some (.tup (bs.map D.int)), some (.int (i : Int)), some (.int b)], [some (.ob n), some (.tup (bs.map D.int)), some (.int (i : Int)), some (.int b)], ?_⟩
      have t1 : dTest (dOp eqD (dVar 3) (dC (.int 1))) [some (.ob n), some (.tup (bs.map D.int)), some (.int (i : Int)), some (.int b)] S' = .ok (decide (b = 1)) S' := ev_test (ev_op rfl rfl (e_eq_int _ _))
      have k1 : dOp addD (dFld G.Sender ns_Sender 7 (dVar 0)) (dVar 2) [some (.ob n), some (.tup (bs.map D.int)), some (.int (i : Int)), some (.int b)] S' = .ok (.int ((s'.base + i : Nat) : Int)) S' := by
        refine ev_op (sr_base a' _) rfl ?_
        rw [e_add_int]
        congr 2
      have t2 : dTest (dOp ltD (dOp addD (dFld G.Sender ns_Sender 7 (dVar 0)) (dVar 2)) (dCall lenD (dCons (dFld G.Sender ns_Sender 6 (dVar 0)) dNil))) [some (.ob n), some (.tup (bs.map D.int)), some (.int (i : Int)), some (.int b)] S' = .ok (decide (s'.base + i < s'.ps.length)) S' := by
        refine ev_test (ev_op k1 (ev_call (ev_cons (sr_ps a' _) ev_nil) (e_len_ob a'.ps)) ?_)
        rw [e_lt, List.length_map]
        congr 2
        rw [decide_eq_decide]
        omega
      by_cases hc : b = 1 ∧ s'.base + i < s'.ps.length
      · have tt : dAnd (dTest (dOp eqD (dVar 3) (dC (.int 1)))) (dTest (dOp ltD (dOp addD (dFld G.Sender ns_Sender 7 (dVar 0)) (dVar 2)) (dCall lenD (dCons (dFld G.Sender ns_Sender 6 (dVar 0)) dNil)))) [some (.ob n), some (.tup (bs.map D.int)), some (.int (i : Int)), some (.int b)] S' = .ok true S' := by
          rw [e_dAnd, e_bind, t1, decide_eq_true hc.1]
          show dTest _ _ S' = _
          rw [t2, decide_eq_true hc.2]
        have hp : putDD (.ob q) (.int ((s'.base + i : Nat) : Int)) (.bl true) S' = some (S'.set q (.dic (ntD (if s'.base + i ∈ s'.noted then s'.noted else s'.noted ++ [s'.base + i])))) := by
          simp only [putDD, keyD, dicAt_of a'.nt, nt_put]
          exact cif_pos (szM (by unfold ntD; rw [List.length_map]; omega))
        have hn : s'.noteP i [b] = { s' with noted := if s'.base + i ∈ s'.noted then s'.noted else s'.noted ++ [s'.base + i] } := by
          unfold Sr.noteP
          by_cases hm : s'.base + i ∈ s'.noted
          · rw [if_neg (by simp [hm]), if_pos hm]
            rfl
          · rw [if_pos ⟨hc.1, hc.2, hm⟩, if_neg hm]
            rfl
        refine ⟨S'.set q (.dic (ntD (if s'.base + i ∈ s'.noted then s'.noted else s'.noted ++ [s'.base + i]))), rfl, ?_, trivial, _, _, rfl, ?_, f'.tr (Fr.set (by simp))⟩
        · unfold bd_Sender_note_pieces_1
          rw [go_ifT tt, go_put (d := .bl true) rfl (sr_nt a' _) k1 hp]
        · rw [hn]
          exact ⟨set_other a'.ob a.nq.symm, set_other a'.ms a.mq.symm, set_other a'.ps a.pq.symm, set_same a'.nt, a.mp⟩
      · have tt : dAnd (dTest (dOp eqD (dVar 3) (dC (.int 1)))) (dTest (dOp ltD (dOp addD (dFld G.Sender ns_Sender 7 (dVar 0)) (dVar 2)) (dCall lenD (dCons (dFld G.Sender ns_Sender 6 (dVar 0)) dNil)))) [some (.ob n), some (.tup (bs.map D.int)), some (.int (i : Int)), some (.int b)] S' = .ok false S' := by
          rw [e_dAnd, e_bind, t1]
          by_cases hb1 : b = 1
          · rw [decide_eq_true hb1]
            show dTest _ _ S' = _
            rw [t2, decide_eq_false fun z => hc ⟨hb1, z⟩]
          · rw [decide_eq_false hb1]
            rfl
        have hn : s'.noteP i [b] = s' := by
          unfold Sr.noteP
          rw [if_neg fun z => hc ⟨z.1, z.2.1⟩]
          rfl
        refine ⟨S', rfl, ?_, trivial, _, _, rfl, ?_, f'⟩
        · unfold bd_Sender_note_pieces_1
          rw [go_ifF tt]
          rfl
        · rw [hn]
          exact a')
    ⟨none, none, rfl, by rw [List.take_zero]; exact a, Fr.refl _ _⟩
  have hlen : (enumD 0 (bs.map D.int)).length = bs.length := by simp [enumD]
  rw [hlen, Nat.zero_add, List.take_length] at a'
  rw [go_for w1, e]
  exact ⟨S', rfl, a', f', .inl rfl, .inl rfl⟩
end
end Lw
namespace Lw
open PySem L2 DL
section
variable {G : Cs} {S S' S1 S2 : List Cell} {n m p q p1 q1 p2 q2 p' q' : Nat} {s s' s1 s2 : Sr} {N : Nat}
theorem s_round_eq (m w : Nat) (S : List Cell) : F_goes_round [.int (m : Int), .int (w : Int)] S = .ok (.bl (decide (m < 2 * w))) S := by
  have h1 : decide ((0 : Int) ≤ (m : Int)) = true := decide_eq_true (by omega)
  have h2 : decide ((m : Int) < 2 * (w : Int)) = decide (m < 2 * w) := by rw [decide_eq_decide]; omega
  simp [F_goes_round, cd_goes_round, h1, h2]
theorem s_near_eq {n l : Int} {w : Nat} (hw : 0 < w) (S : List Cell) : F_index_near [.int n, .int l, .int (w : Int)] S = .ok (.int (near n l w)) S := by
  simp [F_index_near, cd_index_near, e_mod_int (show (0 : Int) < 2 * (w : Int) by omega), near]
theorem near_ge (n l : Int) {w : Nat} (hw : 0 < w) : l ≤ near n l w := by
  unfold near
  have := Int.emod_nonneg (n - l) (show (2 * (w : Int)) ≠ 0 by omega)
  omega
theorem sr_hearsNote (a : SrAt G S n m p q s) (b : Sb N s) (hN : N ≤ 20000) (hw : 0 < s.w) {num : Nat} {bs : List Int} (hb : bs.length ≤ 1000) :
    ∃ S', F_Sender_hears_note G [.ob n, .int (num : Int), .tup (bs.map D.int)] S = .ok .non S' ∧ SrTo G n m p q S p q S' (s.hearsNote num bs) := by
  show ∃ S', fin S (cd_Sender_hears_note G [some (.ob n), some (.int (num : Int)), some (.tup (bs.map D.int)), none] S) = _ ∧ _
  unfold cd_Sender_hears_note
  have t1 : dTru (dCall F_goes_round (dCons (dVar 1) (dCons (dFld G.Sender ns_Sender 0 (dVar 0)) dNil))) [some (.ob n), some (.int (num : Int)), some (.tup (bs.map D.int)), none] S = .ok (decide (num < 2 * s.w)) S := by
    rw [e_dTru, e_bind, ev_call (ev_cons rfl (ev_cons (sr_w a _) ev_nil)) (s_round_eq num s.w S)]
    rfl
  by_cases c1 : num < 2 * s.w
  · rw [decide_eq_true c1] at t1
    obtain ⟨i, hi⟩ : ∃ i : Nat, near num s.base s.w = (i : Int) := ⟨(near num s.base s.w).toNat, by have := near_ge num s.base hw; omega⟩
    have hge : s.base ≤ i := by have := near_ge num s.base hw; omega
    rw [go_ifT t1, go_seq (go_asg (ev_call (ev_cons rfl (ev_cons (sr_base a _) (ev_cons (sr_w a _) ev_nil))) (s_near_eq hw S)))]
    rw [hi]
    show ∃ S', fin S (sIf _ _ _ [some (.ob n), some (.int (num : Int)), some (.tup (bs.map D.int)), some (.int (i : Int))] S) = _ ∧ _
    have e1 : dCall minD (dCons (dOp addD (dFld G.Sender ns_Sender 7 (dVar 0)) (dFld G.Sender ns_Sender 0 (dVar 0))) (dCons (dCall lenD (dCons (dFld G.Sender ns_Sender 6 (dVar 0)) dNil)) dNil)) [some (.ob n), some (.int (num : Int)), some (.tup (bs.map D.int)), some (.int (i : Int))] S = .ok (.int ((min (s.base + s.w) s.ps.length : Nat) : Int)) S := by
      refine ev_call (ev_cons (ev_op (sr_base a _) (sr_w a _) (e_add_int _ _)) (ev_cons (ev_call (ev_cons (sr_ps a _) ev_nil) (e_len_ob a.ps)) ev_nil)) ?_
      rw [e_min, List.length_map]
      congr 2
      omega
    have t2 : dTest (dOp leD (dVar 3) (dCall minD (dCons (dOp addD (dFld G.Sender ns_Sender 7 (dVar 0)) (dFld G.Sender ns_Sender 0 (dVar 0))) (dCons (dCall lenD (dCons (dFld G.Sender ns_Sender 6 (dVar 0)) dNil)) dNil)))) [some (.ob n), some (.int (num : Int)), some (.tup (bs.map D.int)), some (.int (i : Int))] S = .ok (decide (i ≤ min (s.base + s.w) s.ps.length)) S := by
      refine ev_test (ev_op rfl e1 ?_)
      rw [e_le]
      congr 2
      rw [decide_eq_decide]
      omega
    by_cases c2 : i ≤ min (s.base + s.w) s.ps.length
    · rw [decide_eq_true c2] at t2
      have he : s.hearsNote num bs = (s.moveB i).noteP 0 bs := by
        unfold Sr.hearsNote
        rw [if_pos ⟨c1, by rw [hi]; omega⟩, hi]
        rfl
      obtain ⟨S1, q1, k1⟩ := sr_move a b hN hge (by omega)
      obtain ⟨S2, q2, k2⟩ := sr_noteP (bs := bs) k1.at_ (by have := b.nl; show s.noted.length ≤ _; omega) hb
      rw [go_ifT t2, go_seq (go_drop (ev_meth rfl a.ob (ev_cons rfl ev_nil) q1)), go_drop (ev_meth rfl k1.at_.ob (ev_cons rfl ev_nil) q2), he]
      exact ⟨S2, rfl, k1.trans k2⟩
    · rw [decide_eq_false c2] at t2
      have he : s.hearsNote num bs = s := by
        unfold Sr.hearsNote
        rw [if_neg (by rw [hi]; omega)]
      rw [go_ifF t2, he]
      exact ⟨S, rfl, SrTo.refl a⟩
  · rw [decide_eq_false c1] at t1
    have he : s.hearsNote num bs = s := by
      unfold Sr.hearsNote
      rw [if_neg (fun z => c1 z.1)]
    rw [go_ifF t1, he]
    exact ⟨S, rfl, SrTo.refl a⟩
def Card.opn : Card → Nat
  | .hello o => o
  | .welcome o => o
  | .who o => o
  | .data o _ _ => o
  | .note o _ _ => o
def Card.knd : Card → Str
  | .hello _ => "hello"
  | .welcome _ => "welcome"
  | .who _ => "who"
  | .data _ _ _ => "data"
  | .note _ _ _ => "note"
def cOkS : Card → Prop
  | .note _ _ bs => bs.length ≤ 7
  | _ => True
theorem card_ix0 (c : Card) (S : List Cell) : ixD (cardD c) (.int 0) S = .ok (.str c.knd) S := by cases c <;> rfl
def isW : Card → Bool
  | .welcome _ => true
  | _ => false
def isQ : Card → Bool
  | .who _ => true
  | _ => false
def isN : Card → Bool
  | .note _ _ _ => true
  | _ => false
theorem kW (c : Card) (S : List Cell) : eqD (.str c.knd) (.str "welcome") S = .ok (.bl (isW c)) S := by cases c <;> simp only [Card.knd, isW] <;> exact e_eq_str
theorem kQ (c : Card) (S : List Cell) : eqD (.str c.knd) (.str "who") S = .ok (.bl (isQ c)) S := by cases c <;> simp only [Card.knd, isQ] <;> exact e_eq_str
theorem kN (c : Card) (S : List Cell) : eqD (.str c.knd) (.str "note") S = .ok (.bl (isN c)) S := by cases c <;> simp only [Card.knd, isN] <;> exact e_eq_str
theorem card_ix1 (c : Card) (S : List Cell) : ixD (cardD c) (.int 1) S = .ok (.int (c.opn : Int)) S := by cases c <;> rfl
theorem sr_own (a : SrAt G S n m p q s) (b : Sb N s) (hN : N ≤ 20000) (hw : 0 < s.w) {c : Card} (hc : cOkS c) (ho : c.opn = s.op) :
    ∃ S' p' q', F_Sender_hears_own G [.ob n, cardD c] S = .ok .non S' ∧ SrTo G n m p q S p' q' S' (s.hears c) := by
  show ∃ S' p' q', fin S (cd_Sender_hears_own G [some (.ob n), some (cardD c)] S) = _ ∧ _
  unfold cd_Sender_hears_own
  have t1 : dTest (dOp eqD (dFld G.Sender ns_Sender 5 (dVar 0)) (dC (.str "opening"))) [some (.ob n), some (cardD c)] S = .ok (decide (s.st = .opening)) S := ev_test (ev_op (sr_st a _) rfl (st_eq s.st .opening _))
  have t2 : dTest (dOp eqD (dFld G.Sender ns_Sender 5 (dVar 0)) (dC (.str "open"))) [some (.ob n), some (cardD c)] S = .ok (decide (s.st = .opened)) S := ev_test (ev_op (sr_st a _) rfl (st_eq s.st .opened _))
  have k0 : ∀ {k : Str} {y : Bool}, eqD (.str c.knd) (.str k) S = .ok (.bl y) S → dTest (dOp eqD (dOp ixD (dVar 1) (dC (.int 0))) (dC (.str k))) [some (.ob n), some (cardD c)] S = .ok y S := fun h => ev_test (ev_op (ev_op rfl rfl (card_ix0 c S)) rfl h)
  have nothing : s.hears c = s → sIf (dAnd (dTest (dOp eqD (dOp ixD (dVar 1) (dC (.int 0))) (dC (.str "welcome")))) (dTest (dOp eqD (dFld G.Sender ns_Sender 5 (dVar 0)) (dC (.str "opening"))))) (sFld G.Sender ns_Sender 5 (dVar 0) (dC (.str "open"))) (sIf (dAnd (dTest (dOp eqD (dOp ixD (dVar 1) (dC (.int 0))) (dC (.str "who")))) (dTest (dOp eqD (dFld G.Sender ns_Sender 5 (dVar 0)) (dC (.str "open"))))) (sDrop (dMeth G.Sender ns_Sender (F_Sender_open_anew G) (dVar 0) dNil)) (sIf (dAnd (dTest (dOp eqD (dOp ixD (dVar 1) (dC (.int 0))) (dC (.str "note")))) (dTest (dOp eqD (dFld G.Sender ns_Sender 5 (dVar 0)) (dC (.str "open"))))) (sDrop (dMeth G.Sender ns_Sender (F_Sender_hears_note G) (dVar 0) (dCons (dOp ixD (dVar 1) (dC (.int 2))) (dCons (dOp ixD (dVar 1) (dC (.int 3))) dNil)))) sNext)) [some (.ob n), some (cardD c)] S = some (.nx [some (.ob n), some (cardD c)], S) →
      ∃ S' p' q', fin S (sIf (dAnd (dTest (dOp eqD (dOp ixD (dVar 1) (dC (.int 0))) (dC (.str "welcome")))) (dTest (dOp eqD (dFld G.Sender ns_Sender 5 (dVar 0)) (dC (.str "opening"))))) (sFld G.Sender ns_Sender 5 (dVar 0) (dC (.str "open"))) (sIf (dAnd (dTest (dOp eqD (dOp ixD (dVar 1) (dC (.int 0))) (dC (.str "who")))) (dTest (dOp eqD (dFld G.Sender ns_Sender 5 (dVar 0)) (dC (.str "open"))))) (sDrop (dMeth G.Sender ns_Sender (F_Sender_open_anew G) (dVar 0) dNil)) (sIf (dAnd (dTest (dOp eqD (dOp ixD (dVar 1) (dC (.int 0))) (dC (.str "note")))) (dTest (dOp eqD (dFld G.Sender ns_Sender 5 (dVar 0)) (dC (.str "open"))))) (sDrop (dMeth G.Sender ns_Sender (F_Sender_hears_note G) (dVar 0) (dCons (dOp ixD (dVar 1) (dC (.int 2))) (dCons (dOp ixD (dVar 1) (dC (.int 3))) dNil)))) sNext)) [some (.ob n), some (cardD c)] S) = .ok .non S' ∧ SrTo G n m p q S p' q' S' (s.hears c) := by
    intro h1 h2
    rw [h2, h1]
    exact ⟨S, p, q, rfl, SrTo.refl a⟩
  have an : ∀ {f g : DSt → M Bool} {y z : Bool}, f [some (.ob n), some (cardD c)] S = .ok y S → g [some (.ob n), some (cardD c)] S = .ok z S → dAnd f g [some (.ob n), some (cardD c)] S = .ok (y && z) S := by
    intro f g y z h1 h2
    rw [e_dAnd, e_bind, h1]
    cases y
    · rfl
    · show g _ S = _
      rw [h2, Bool.true_and]
  cases c with
  | hello o => exact nothing rfl (by rw [go_ifF (an (k0 (kW _ S)) t1), go_ifF (an (k0 (kQ _ S)) t2), go_ifF (an (k0 (kN _ S)) t2)]; rfl)
  | data o i x => exact nothing rfl (by rw [go_ifF (an (k0 (kW _ S)) t1), go_ifF (an (k0 (kQ _ S)) t2), go_ifF (an (k0 (kN _ S)) t2)]; rfl)
  | welcome o =>
    have ho' : o = s.op := ho
    by_cases hs : s.st = .opening
    · rw [decide_eq_true hs] at t1
      have he : s.hears (.welcome o) = { s with st := .opened } := by unfold Sr.hears; exact if_pos ⟨ho', hs⟩
      obtain ⟨S1, q1, c1⟩ := st_fld (fo := dVar 0) (fe := dC (.str "open")) (r := [some (.ob n), some (cardD (.welcome o))]) (i := 5) rfl rfl a.ob rfl
      rw [go_ifT (an (k0 (kW _ S)) t1), q1, he]
      exact ⟨S1, p, q, rfl, ⟨c1.at_, c1.old a.ms a.nm, c1.old a.ps a.np, c1.old a.nt a.nq, a.mp⟩, c1.fp (by simp), .inl rfl, .inl rfl⟩
    · rw [decide_eq_false hs] at t1
      exact nothing (by unfold Sr.hears; exact if_neg fun z => hs z.2) (by rw [go_ifF (an (k0 (kW _ S)) t1), go_ifF (an (k0 (kQ _ S)) t2), go_ifF (an (k0 (kN _ S)) t2)]; rfl)
  | who o =>
    have ho' : o = s.op := ho
    by_cases hs : s.st = .opened
    · rw [decide_eq_true hs] at t2
      have he : s.hears (.who o) = s.anew := by unfold Sr.hears; exact if_pos ⟨ho', hs⟩
      obtain ⟨S1, p1, q1, e1, k1⟩ := sr_anew a b hN
      rw [go_ifF (an (k0 (kW _ S)) t1), go_ifT (an (k0 (kQ _ S)) t2), go_drop (ev_meth rfl a.ob ev_nil e1), he]
      exact ⟨S1, p1, q1, rfl, k1⟩
    · rw [decide_eq_false hs] at t2
      exact nothing (by unfold Sr.hears; exact if_neg fun z => hs z.2) (by rw [go_ifF (an (k0 (kW _ S)) t1), go_ifF (an (k0 (kQ _ S)) t2), go_ifF (an (k0 (kN _ S)) t2)]; rfl)
  | note o i bs =>
    have ho' : o = s.op := ho
    by_cases hs : s.st = .opened
    · rw [decide_eq_true hs] at t2
      have he : s.hears (.note o i bs) = s.hearsNote i bs := by unfold Sr.hears; exact if_pos ⟨ho', hs⟩
      have hb : bs.length ≤ 7 := hc
      obtain ⟨S1, e1, k1⟩ := sr_hearsNote (num := i) (bs := bs) a b hN hw (by omega)
      rw [go_ifF (an (k0 (kW _ S)) t1), go_ifF (an (k0 (kQ _ S)) t2), go_ifT (an (k0 (kN _ S)) t2), go_drop (ev_meth rfl a.ob (ev_cons (ev_op rfl rfl rfl) (ev_cons (ev_op rfl rfl rfl) ev_nil)) e1), he]
      exact ⟨S1, p, q, rfl, k1⟩
    · rw [decide_eq_false hs] at t2
      exact nothing (by unfold Sr.hears; exact if_neg fun z => hs z.2) (by rw [go_ifF (an (k0 (kW _ S)) t1), go_ifF (an (k0 (kQ _ S)) t2), go_ifF (an (k0 (kN _ S)) t2)]; rfl)
theorem hears_other {c : Card} (ho : c.opn ≠ s.op) : s.hears c = s := by
  cases c with
  | hello o => rfl
  | data o i x => rfl
  | welcome o => unfold Sr.hears; exact if_neg fun z => ho z.1
  | who o => unfold Sr.hears; exact if_neg fun z => ho z.1
  | note o i bs => unfold Sr.hears; exact if_neg fun z => ho z.1
theorem sr_hears (a : SrAt G S n m p q s) (b : Sb N s) (hN : N ≤ 20000) (hw : 0 < s.w) {c : Card} (hc : cOkS c) :
    ∃ S' p' q' l, F_Sender_hears G [.ob n, cardD c] S = .ok (.ob l) S' ∧ SrTo G n m p q S p' q' S' (s.hears c) ∧ S'[l]? = some (.lst []) ∧ S.length ≤ l := by
  show ∃ S' p' q' l, fin S (cd_Sender_hears G [some (.ob n), some (cardD c)] S) = _ ∧ _
  unfold cd_Sender_hears
  have t1 : dTest (dOp eqD (dOp ixD (dVar 1) (dC (.int 1))) (dFld G.Sender ns_Sender 4 (dVar 0))) [some (.ob n), some (cardD c)] S = .ok (decide (c.opn = s.op)) S := by
    refine ev_test (ev_op (ev_op rfl rfl (card_ix1 c S)) (sr_op a _) ?_)
    rw [e_eq_int]
    congr 2
    rw [decide_eq_decide]
    omega
  by_cases ho : c.opn = s.op
  · rw [decide_eq_true ho] at t1
    obtain ⟨S1, p1, q1, e1, k1⟩ := sr_own a b hN hw hc ho
    rw [go_seq (by rw [go_ifT t1]; exact go_drop (ev_meth rfl a.ob (ev_cons rfl ev_nil) e1)), go_ret (ev_lst ev_nil (by decide))]
    exact ⟨_, p1, q1, _, rfl, k1.push _, push_at rfl, k1.fr.1⟩
  · rw [decide_eq_false ho] at t1
    rw [go_seq (by rw [go_ifF t1]; rfl), go_ret (ev_lst ev_nil (by decide)), hears_other ho]
    exact ⟨_, p, q, _, rfl, (SrTo.refl a).push _, push_at rfl, Nat.le_refl _⟩
theorem Sb.note {num : Nat} {bs : List Int} (b : Sb N s) (h : bs.length ≤ 7) : Sb (N + 1) (s.hearsNote num bs) := by
  unfold Sr.hearsNote
  split
  · obtain ⟨h1, h2, h3, h4, h5, h6, h7, h8, h9⟩ := noteP_fields bs (s.moveB (near num s.base s.w).toNat) 0
    have hn := b.nl
    have hm := b.ml
    have hp := b.pl
    refine ⟨by rw [h2]; exact b.most, by rw [h3]; show s.msgs.length ≤ _; omega, by rw [h3]; exact b.m40, by rw [h7]; show s.ps.length ≤ _; omega, by rw [h7]; exact b.fg, ?_⟩
    have : (s.moveB (near num s.base s.w).toNat).noted.length = s.noted.length := rfl
    omega
  · exact b.mono (Nat.le_succ _)
theorem Sb.hears {c : Card} (b : Sb N s) (hc : cOkS c) : Sb (N + 1) (s.hears c) := by
  cases c with
  | hello o => exact b.mono (Nat.le_succ _)
  | data o i x => exact b.mono (Nat.le_succ _)
  | welcome o =>
    unfold Sr.hears
    dsimp only
    split
    · exact ⟨b.most, Nat.le_succ_of_le b.ml, b.m40, by have := b.pl; show s.ps.length ≤ _; omega, b.fg, by have := b.nl; show s.noted.length ≤ _; omega⟩
    · exact b.mono (Nat.le_succ _)
  | who o =>
    unfold Sr.hears
    dsimp only
    split
    · exact b.anew.mono (Nat.le_succ _)
    · exact b.mono (Nat.le_succ _)
  | note o i bs =>
    unfold Sr.hears
    dsimp only
    split
    · exact b.note hc
    · exact b.mono (Nat.le_succ _)
theorem Sb.fall (b : Sb N s) : Sb N s.fall := ⟨b.most, b.ml, b.m40, b.pl, b.fg, b.nl⟩
theorem Sb.start (b : Sb N s) : Sb N s.start := by
  unfold Sr.start
  split
  · exact b.anew
  · exact b
def Bl (s : Sr) : Prop := s.base ≤ s.ps.length
theorem Bl.hand (b : Bl s) (x : Msg) : Bl (s.hand x) := by
  unfold Bl Sr.hand at *
  dsimp only
  split
  · exact b
  · rw [List.length_append]; omega
theorem Bl.anew : Bl s.anew := Nat.zero_le _
theorem Bl.start (b : Bl s) : Bl s.start := by
  unfold Sr.start
  split
  · exact Bl.anew
  · exact b
theorem Bl.hears (hw : 0 < s.w) (b : Bl s) (c : Card) : Bl (s.hears c) := by
  cases c with
  | hello o => exact b
  | data o i x => exact b
  | welcome o =>
    unfold Sr.hears
    dsimp only
    split <;> exact b
  | who o =>
    unfold Sr.hears
    dsimp only
    split
    · exact Bl.anew
    · exact b
  | note o i bs =>
    unfold Sr.hears
    dsimp only
    split
    · unfold Sr.hearsNote
      split
      · rename_i h
        obtain ⟨h1, h2, h3, h4, h5, h6, h7, h8, h9⟩ := noteP_fields bs (s.moveB (near i s.base s.w).toNat) 0
        unfold Bl
        rw [h7, h8]
        have := near_ge i s.base hw
        show (near i s.base s.w).toNat ≤ s.ps.length
        omega
      · exact b
    · exact b
theorem st_fldN {f : Str} {C : Addr} {ns : List Str} {ds : List D} {d : D} {fo fe : DSt → M D} {r : DSt} (h1 : fe r S = .ok d S1) (h2 : fo r S1 = .ok (.ob n) S1) (h3 : S1[n]? = some (.ins C ns ds)) : ∃ S2, sFldN C ns f fo fe r S = some (.nx r, S2) ∧ Ch n (.ins C (ns ++ [f]) (ds ++ [d])) S1 S2 :=
  ⟨_, go_fldN h1 h2 h3, Ch.set h3⟩
theorem sr_make (w most : Nat) (S : List Cell) : ∃ S' m p q, makeD G.Sender (F_Sender___init__ G) [.int (w : Int), .int (most : Int)] S = .ok (.ob S.length) S' ∧ SrAt G S' S.length m p q (Sr.new w most) ∧ Fr [] S S' ∧ S.length ≤ m ∧ S.length ≤ p ∧ S.length ≤ q := by
  obtain ⟨n, hn⟩ : ∃ n, n = S.length := ⟨_, rfl⟩
  have s0 : (S ++ [Cell.ins G.Sender [] []])[n]? = some (.ins G.Sender [] []) := push_at hn
  obtain ⟨r, hr⟩ : ∃ r : DSt, r = [some (.ob n), some (.int (w : Int)), some (.int (most : Int))] := ⟨_, rfl⟩
  have v0 : ∀ S, dVar 0 r S = .ok (.ob n) S := fun S => by rw [hr]; rfl
  have v1 : ∀ S, dVar 1 r S = .ok (.int (w : Int)) S := fun S => by rw [hr]; rfl
  have v2 : ∀ S, dVar 2 r S = .ok (.int (most : Int)) S := fun S => by rw [hr]; rfl
  obtain ⟨T1, e1, c1⟩ := st_fldN (f := "window") (fo := dVar 0) (fe := dVar 1) (v1 _) (v0 _) s0
  obtain ⟨T2, e2, c2⟩ := st_fldN (f := "most") (fo := dVar 0) (fe := dVar 2) (v2 _) (v0 _) c1.at_
  obtain ⟨T3, e3, c3⟩ := st_fldN (f := "messages") (fo := dVar 0) (fe := dLst dNil) (r := r) (ev_lst ev_nil (by decide)) (v0 _) (push_old (G := [.lst []]) c2.at_)
  obtain ⟨T4, e4, c4⟩ := st_fldN (f := "sure") (fo := dVar 0) (fe := dC (.int 0)) (r := r) rfl (v0 _) c3.at_
  obtain ⟨T5, e5, c5⟩ := st_fldN (f := "opening") (fo := dVar 0) (fe := dC (.int 0)) (r := r) rfl (v0 _) c4.at_
  obtain ⟨T6, e6, c6⟩ := st_fldN (f := "state") (fo := dVar 0) (fe := dC (.str "shut")) (r := r) rfl (v0 _) c5.at_
  obtain ⟨T7, e7, c7⟩ := st_fldN (f := "pieces") (fo := dVar 0) (fe := dLst dNil) (r := r) (ev_lst ev_nil (by decide)) (v0 _) (push_old (G := [.lst []]) c6.at_)
  obtain ⟨T8, e8, c8⟩ := st_fldN (f := "base") (fo := dVar 0) (fe := dC (.int 0)) (r := r) rfl (v0 _) c7.at_
  obtain ⟨T9, e9, c9⟩ := st_fldN (f := "noted") (fo := dVar 0) (fe := dDic0) (r := r) rfl (v0 _) (push_old (G := [.dic []]) c8.at_)
  have l1 := c1.len
  have l2 := c2.len
  have l3 := c3.len
  have l4 := c4.len
  have l5 := c5.len
  have l6 := c6.len
  have l7 := c7.len
  have l8 := c8.len
  have l9 := c9.len
  rw [List.length_append, List.length_singleton] at l1 l3 l7 l9
  have m3 : T3[T2.length]? = some (.lst []) := c3.old (push_at rfl) (by omega)
  have m6 : T6[T2.length]? = some (.lst []) := c6.old (c5.old (c4.old m3 (by omega)) (by omega)) (by omega)
  have m7 : T7[T2.length]? = some (.lst []) := c7.old (push_old m6) (by omega)
  have p7 : T7[T6.length]? = some (.lst []) := c7.old (push_at rfl) (by omega)
  have m9 : T9[T2.length]? = some (.lst []) := c9.old (push_old (c8.old m7 (by omega))) (by omega)
  have p9 : T9[T6.length]? = some (.lst []) := c9.old (push_old (c8.old p7 (by omega))) (by omega)
  have q9 : T9[T8.length]? = some (.dic []) := c9.old (push_at rfl) (by omega)
  refine ⟨T9, T2.length, T6.length, T8.length, ?_, ?_, ?_, by omega, by omega, by omega⟩
  · unfold makeD
    rw [← hn]
    have : F_Sender___init__ G [.ob n, .int (w : Int), .int (most : Int)] (S ++ [.ins G.Sender [] []]) = .ok .non T9 := by
      show fin _ (cd_Sender___init__ G [some (.ob n), some (.int (w : Int)), some (.int (most : Int))] _) = _
      rw [← hr]
      simp only [List.nil_append, List.cons_append] at e2 e3 e4 e5 e6 e7 e8
      unfold cd_Sender___init__
      rw [go_seq e1, go_seq e2, go_seq e3, go_seq e4, go_seq e5, go_seq e6, go_seq e7, go_seq e8]
      rw [show sFldN G.Sender ["window", "most", "messages", "sure", "opening", "state", "pieces", "base"] "noted" (dVar 0) dDic0 r T8 = some (.nx r, T9) from e9]
      rfl
    rw [this]
  · rw [← hn]
    exact ⟨c9.at_, m9, p9, q9, by omega⟩
  · have f : Fr [n] S T9 := ((((((((((Fr.push.tr c1.fr).tr c2.fr).tr Fr.push).tr c3.fr).tr c4.fr).tr c5.fr).tr c6.fr).tr Fr.push).tr c7.fr).tr c8.fr).tr (Fr.push.tr c9.fr)
    exact f.mono fun i hi hs => by
      have : i = n := by simpa using hi
      omega
end
end Lw
namespace Lw
open PySem L2 DL
section
variable {G : Cs} {S S' S1 S2 : List Cell} {n m p q p1 q1 p2 q2 p' q' : Nat} {s s' s1 s2 : Sr}
theorem sr_fall (a : SrAt G S n m p q s) : ∃ S', F_Sender_fall G [.ob n] S = .ok .non S' ∧ SrTo G n m p q S p q S' s.fall := by
  show ∃ S', fin S (cd_Sender_fall G [some (.ob n)] S) = _ ∧ _
  unfold cd_Sender_fall
  obtain ⟨S1, q1, c1⟩ := st_fld (fo := dVar 0) (fe := dC (.str "shut")) (r := [some (.ob n)]) (i := 5) rfl rfl a.ob rfl
  rw [q1]
  exact ⟨S1, rfl, ⟨c1.at_, c1.old a.ms a.nm, c1.old a.ps a.np, c1.old a.nt a.nq, a.mp⟩, c1.fp (by simp), .inl rfl, .inl rfl⟩
end
end Lw
namespace Lw
open PySem L2 DL
def cv (ns : List Int) (k : Nat) : Int := ns.getD k 0
theorem cell_eq {ns : List Int} {k : Nat} (S : List Cell) : F__law_cell [.rol (ns.map D.int), .int k] S = .ok (.int (cv ns k)) S := by
  unfold cv
  by_cases h : k < ns.length
  · have e1 : atI (ns.map D.int) (k : Int) = some (.int (ns.getD k 0)) := atI_nat (by simp [List.getD, h])
    simp [F__law_cell, cd__law_cell, lenD, seqD, ixD, e1, h]
  · have e1 : ns.getD k 0 = 0 := by simp [List.getD, h]
    simp [F__law_cell, cd__law_cell, lenD, seqD, ixD, e1, h]
theorem cell0 {ns : List Int} (S : List Cell) : F__law_cell [.rol (ns.map D.int), .int 0] S = .ok (.int (cv ns 0)) S := cell_eq (k := 0) S
theorem cell1 {ns : List Int} (S : List Cell) : F__law_cell [.rol (ns.map D.int), .int 1] S = .ok (.int (cv ns 1)) S := cell_eq (k := 1) S
end Lw
namespace Lw
open PySem L2 DL
theorem mix_eq {a p m : Int} (hp : 0 < p) (hm : 0 < m) (S : List Cell) : F__law_mix [.int a, .int p, .int m] S = .ok (.int (a * 48271 % p % m)) S := by
  have h1 : CMul a 48271 := .inr ⟨by decide, by decide⟩
  simp [F__law_mix, cd__law_mix, e_mul_int h1, e_mod_int hp, e_mod_int hm]
def mx (a : Int) (p m : Nat) : Nat := (a * 48271 % p % m).toNat
theorem mx_lt (a : Int) {p m : Nat} (hm : 0 < m) : mx a p m < m := by
  unfold mx
  have h1 := Int.emod_nonneg (a * 48271 % p) (show (m : Int) ≠ 0 by omega)
  have h2 := Int.emod_lt_of_pos (a * 48271 % p) (show (0 : Int) < m by omega)
  omega
theorem mix_nat (a : Int) {p m : Nat} (hp : 0 < p) (hm : 0 < m) (S : List Cell) : F__law_mix [.int a, .int (p : Int), .int (m : Int)] S = .ok (.int (mx a p m : Nat)) S := by
  rw [mix_eq (by omega) (by omega)]
  unfold mx
  have h1 := Int.emod_nonneg (a * 48271 % p) (show (m : Int) ≠ 0 by omega)
  rw [Int.toNat_of_nonneg h1]
theorem ev_mix {f : DSt → M D} {r : DSt} {S : List Cell} {a : Int} (p m : Nat) (hf : f r S = .ok (.int a) S) (hp : 0 < p := by decide) (hm : 0 < m := by decide) : dCall F__law_mix (dCons f (dCons (dC (.int (p : Int))) (dCons (dC (.int (m : Int))) dNil))) r S = .ok (.int (mx a p m : Nat)) S :=
  ev_call (ev_cons hf (ev_cons rfl (ev_cons rfl ev_nil))) (mix_nat a hp hm S)
end Lw
namespace Lw
open PySem L2 DL
def wOf (ns : List Int) : Nat := 1 + mx (cv ns 0) 9883 7
def mOf (ns : List Int) : Nat := 1 + mx (cv ns 1) 9871 8
theorem wOf_pos (ns : List Int) : 0 < wOf ns := by unfold wOf; omega
theorem wOf_le (ns : List Int) : wOf ns ≤ 7 := by
  have := mx_lt (cv ns 0) (p := 9883) (m := 7) (by decide)
  unfold wOf
  omega
theorem mOf_pos (ns : List Int) : 1 ≤ mOf ns := by unfold mOf; omega
theorem mOf_le (ns : List Int) : mOf ns ≤ 8 := by
  have := mx_lt (cv ns 1) (p := 9871) (m := 8) (by decide)
  unfold mOf
  omega
theorem setting_eq (ns : List Int) (S : List Cell) : F__law_setting [.rol (ns.map D.int)] S = .ok (.tup [.int (wOf ns : Int), .int (mOf ns : Int)]) S := by
  show fin S (cd__law_setting [some (.rol (ns.map D.int)), none, none] S) = _
  unfold cd__law_setting
  have w1 : dOp addD (dC (.int 1)) (dCall F__law_mix (dCons (dCall F__law_cell (dCons (dVar 0) (dCons (dC (.int 0)) dNil))) (dCons (dC (.int 9883)) (dCons (dC (.int 7)) dNil)))) [some (.rol (ns.map D.int)), none, none] S = .ok (.int (wOf ns : Int)) S := by
    refine ev_op rfl (ev_mix 9883 7 (ev_call (ev_cons rfl (ev_cons rfl ev_nil)) (cell0 S))) ?_
    rw [e_add_int]
    unfold wOf
    congr 2
  rw [go_seq (go_asg w1)]
  show fin S (sSeq _ _ [some (.rol (ns.map D.int)), some (.int (wOf ns : Int)), none] S) = _
  have w2 : dOp addD (dC (.int 1)) (dCall F__law_mix (dCons (dCall F__law_cell (dCons (dVar 0) (dCons (dC (.int 1)) dNil))) (dCons (dC (.int 9871)) (dCons (dC (.int 8)) dNil)))) [some (.rol (ns.map D.int)), some (.int (wOf ns : Int)), none] S = .ok (.int (mOf ns : Int)) S := by
    refine ev_op rfl (ev_mix 9871 8 (ev_call (ev_cons rfl (ev_cons rfl ev_nil)) (cell1 S))) ?_
    rw [e_add_int]
    unfold mOf
    congr 2
  rw [go_seq (go_asg w2), go_ret (ev_tup (ev_cons rfl (ev_cons rfl ev_nil)) (by simp))]
  rfl
theorem go_asg2 {fe : DSt → M D} {r : DSt} {S S1 : List Cell} {x y : D} {i j : Nat} (h : fe r S = .ok (.tup [x, y]) S1) : sAsg fe (gT [i, j]) r S = some (.nx ((r.set i (some x)).set j (some y)), S1) := by
  unfold sAsg
  rw [e_sBind, h]
  rfl
def msgOf (c : Int) (L : Nat) : Msg := (List.range (mx c 9973 (L + 1))).map fun (k : Nat) => ((mx (c + 31 * k) 9967 256 : Nat) : Int)
theorem msgOf_len (c : Int) (L : Nat) : (msgOf c L).length ≤ L := by
  have := mx_lt c (p := 9973) (m := L + 1) (by omega)
  unfold msgOf
  rw [List.length_map, List.length_range]
  omega
theorem message_eq (c : Int) (L : Nat) (hL : L ≤ 1000) (S : List Cell) : F__law_message [.int c, .int (L : Int)] S = .ok (msgD (msgOf c L)) S := by
  show finP S (cd__law_message [some (.int c), some (.int (L : Int)), none] S) = _
  unfold cd__law_message
  have m1 : dCall F__law_mix (dCons (dVar 0) (dCons (dC (.int 9973)) (dCons (dOp addD (dVar 1) (dC (.int 1))) dNil))) [some (.int c), some (.int (L : Int)), none] S = .ok (.int (mx c 9973 (L + 1) : Nat)) S :=
    ev_call (ev_cons rfl (ev_cons rfl (ev_cons (x := .int ((L + 1 : Nat) : Int)) (ev_op rfl rfl (by rw [e_add_int]; congr 2)) ev_nil))) (mix_nat c (p := 9973) (m := L + 1) (by decide) (by omega) S)
  rw [go_seq (go_asg m1)]
  have hlt := mx_lt c (p := 9973) (m := L + 1) (by omega)
  obtain ⟨z, hz⟩ : ∃ z, mx c 9973 (L + 1) = z := ⟨_, rfl⟩
  have hm : msgOf c L = (List.range z).map fun (k : Nat) => ((mx (c + 31 * k) 9967 256 : Nat) : Int) := by unfold msgOf; rw [hz]
  rw [hz] at hlt ⊢
  show finP S (sRet _ [some (.int c), some (.int (L : Int)), some (.int (z : Int))] S) = _
  have q1 := ev_comp (f := dRng1 (dVar 2)) (tg := gN 0) (ti := dYes) (fe := dCall F__law_mix (dCons (dOp addD (dVar 1) (dOp mulD (dC (.int 31)) (dVar 0))) (dCons (dC (.int 9967)) (dCons (dC (.int 256)) dNil)))) (own := 1) (caps := [0])
    (r := [some (.int c), some (.int (L : Int)), some (.int (z : Int))]) (S := S) (S1 := S) (w := ⟨rngD 0 1 z, none⟩) (fun _ => true) (fun x => match x with
      | .int k => .int (mx (c + 31 * k) 9967 256 : Nat)
      | _ => .non) (wRng_eq (by omega)) trivial (by simp [rngD]; omega) (by
      intro x hx
      simp only [rngD, List.mem_map, List.mem_range] at hx
      obtain ⟨k, _, rfl⟩ := hx
      refine ⟨_, rfl, fun _ => rfl, fun _ zs => ?_⟩
      show dCall _ _ [some (.int (0 + (k : Int) * 1)), some (.int c)] _ = _
      refine ev_mix 9967 256 (ev_op rfl (ev_op rfl rfl (e_mul_int (.inl ⟨by decide, by decide⟩))) (e_add_int _ _)))
  have hbits : ((rngD 0 1 z).filter fun _ => true).map (fun x => match x with
      | .int k => .int (mx (c + 31 * k) 9967 256 : Nat)
      | _ => .non) = (msgOf c L).map D.int := by
    rw [List.filter_eq_self.mpr (by simp), hm]
    unfold rngD
    rw [List.map_map, List.map_map]
    refine List.map_congr_left fun k _ => ?_
    have hk : 0 + (k : Int) * 1 = (k : Int) := by omega
    simp only [Function.comp_def, hk]
  rw [hbits] at q1
  rw [go_ret (ev_call (ev_cons q1 ev_nil) (e_tuple_ob (push_at rfl)))]
  exact finP_rt (wf_msg _ _)
end Lw
namespace Lw
open PySem L2 DL
def pcAt (k : Nat) (m : Msg) (i : Nat) : Pc := (if m.length ≤ i * k + k then 1 else 0, (m.drop (i * k)).take k)
def pcN (k : Nat) (m : Msg) : Nat := (max 1 m.length - 1) / k + 1
theorem pcAt_succ {k : Nat} {m : Msg} (h : k < m.length) (i : Nat) : pcAt k m (i + 1) = pcAt k (m.drop k) i := by
  unfold pcAt
  have e : (i + 1) * k = k + i * k := by rw [Nat.add_mul, Nat.one_mul, Nat.add_comm]
  rw [List.drop_drop, List.length_drop, e]
  congr 1
  by_cases hc : m.length ≤ k + i * k + k
  · rw [if_pos hc, if_pos (by omega)]
  · rw [if_neg hc, if_neg (by omega)]
theorem cutF_at {k : Nat} (hk : 1 ≤ k) : ∀ (n : Nat) (m : Msg), m.length ≤ n → cutF k n m = (List.range (pcN k m)).map (pcAt k m)
  | 0, m, h => by
    have : m = [] := List.eq_nil_of_length_eq_zero (by omega)
    subst this
    have e : pcN k [] = 1 := by unfold pcN; simp
    rw [e]
    simp [cutF, pcAt]
  | n + 1, m, h => by
    unfold cutF
    by_cases hc : k < m.length
    · rw [if_pos hc, cutF_at hk n (m.drop k) (by rw [List.length_drop]; omega)]
      have e : pcN k m = pcN k (m.drop k) + 1 := by
        unfold pcN
        rw [List.length_drop, Nat.max_eq_right (by omega), Nat.max_eq_right (by omega), show m.length - 1 = (m.length - k - 1) + k by omega, Nat.add_div_right _ (by omega)]
      rw [e, List.range_succ_eq_map, List.map_cons, List.map_map]
      congr 1
      · unfold pcAt
        rw [if_neg (by omega)]
        simp
      · refine List.map_congr_left fun i _ => ?_
        exact (pcAt_succ hc i).symm
    · rw [if_neg hc]
      have e : pcN k m = 1 := by
        unfold pcN
        rw [Nat.div_eq_of_lt (by omega)]
      rw [e]
      simp only [List.range_one, List.map_cons, List.map_nil]
      unfold pcAt
      rw [if_pos (by omega), Nat.zero_mul, List.drop_zero, List.take_of_length_le (by omega)]
theorem cutP_at {k : Nat} (hk : 1 ≤ k) {m : Msg} (h : m.length ≤ 40) : cutP k m = (List.range (pcN k m)).map (pcAt k m) := cutF_at hk 100 m (by omega)
theorem cutD_win {xs : List D} (i k : Nat) : cutD xs (some (i : Int)) (some ((i : Int) + (k : Int))) = (xs.drop i).take k := by
  unfold cutD
  have e : (i : Int) + (k : Int) = ((i + k : Nat) : Int) := by omega
  rw [e, HT.sIx_nat, HT.sIx_nat]
  by_cases h : i ≤ xs.length
  · rw [Nat.min_eq_left h]
    by_cases h2 : i + k ≤ xs.length
    · rw [Nat.min_eq_left h2, show i + k - i = k by omega]
    · rw [Nat.min_eq_right (by omega), List.take_of_length_le (by rw [List.length_drop]; omega), List.take_of_length_le (by rw [List.length_drop]; omega)]
  · rw [Nat.min_eq_right (show xs.length ≤ i by omega), Nat.min_eq_right (show xs.length ≤ i + k by omega), List.drop_of_length_le (Nat.le_refl _), List.drop_of_length_le (by omega)]
    simp
theorem lpieces_eq {k : Nat} (hk : 1 ≤ k) (hk8 : k ≤ 1000) {m : Msg} (hm : m.length ≤ 40) (S : List Cell) : F__law_pieces [msgD m, .int (k : Int)] S = .ok (.ob S.length) (S ++ [.lst ((cutP k m).map pcD)]) := by
  show fin S (cd__law_pieces [some (msgD m), some (.int (k : Int)), none, none] S) = _
  unfold cd__law_pieces
  rw [go_seq (go_asg (ev_lst ev_nil (by decide)))]
  show fin S (sSeq _ _ [some (msgD m), some (.int (k : Int)), some (.ob S.length), none] (S ++ [.lst []])) = _
  have hln : ∀ r T, dCall lenD (dCons (dVar 0) dNil) (some (msgD m) :: r) T = .ok (.int (m.length : Int)) T := fun r T => ev_call (ev_cons rfl ev_nil) (by unfold msgD; rw [e_len_tup, List.length_map])
  have hmx : maxD [.int 1, .int (m.length : Int)] (S ++ [.lst []]) = .ok (.int ((max 1 m.length : Nat) : Int)) (S ++ [.lst []]) := by
    rw [e_max]
    congr 2
    omega
  have hcn : pcN k m ≤ 41 := by
    unfold pcN
    have := Nat.div_le_self (max 1 m.length - 1) k
    omega
  have w1 : dRng3 (dC (.int 0)) (dCall maxD (dCons (dC (.int 1)) (dCons (dCall lenD (dCons (dVar 0) dNil)) dNil))) (dVar 1) [some (msgD m), some (.int (k : Int)), some (.ob S.length), none] (S ++ [.lst []]) = .ok ⟨rngD 0 (k : Int) (pcN k m), none⟩ (S ++ [.lst []]) := by
    unfold dRng3
    rw [e_bind]
    simp only [e_dC]
    rw [e_bind, ev_call (ev_cons rfl (ev_cons (hln _ _) ev_nil)) hmx]
    simp only
    show wRng 0 ((max 1 m.length : Nat) : Int) (k : Int) (S ++ [.lst []]) = _
    have hsz : Builtin.Range.rangeSize 0 ((max 1 m.length : Nat) : Int) (k : Int) = (pcN k m : Int) := by
      unfold Builtin.Range.rangeSize pcN
      rw [if_pos (by omega), if_pos (by omega)]
      have : ((max 1 m.length : Nat) : Int) - 0 - 1 = ((max 1 m.length - 1 : Nat) : Int) := by omega
      rw [this, ← Int.natCast_ediv]
      omega
    have hs : Builtin.Range.small 0 ((max 1 m.length : Nat) : Int) (k : Int) = true := by
      unfold Builtin.Range.small
      rw [hsz]
      simp only [Builtin.Range.rangeFitsLong, Bool.and_eq_true, Bool.or_eq_true, decide_eq_true_eq, beq_iff_eq, if_pos (show (k : Int) > 0 by omega)]
      omega
    unfold wRng
    rw [cif_pos ⟨⟨by omega, by omega⟩, hs⟩, hsz]
    rfl
  have hset : ∀ a c : Cell, (S ++ [a]).set S.length c = S ++ [c] := fun a c => by rw [List.set_append_right _ _ (Nat.le_refl _)]; simp
  obtain ⟨r', S', e, x3, rfl, rfl⟩ := sTurns_inv (g := none) (tg := gN 3) (b := bd__law_pieces_1)
    (fun i r S' => ∃ x3, r = [some (msgD m), some (.int (k : Int)), some (.ob S.length), x3] ∧ S' = S ++ [.lst (((List.range i).map (pcAt k m)).map pcD)]) (rngD 0 (k : Int) (pcN k m)) 0 [some (msgD m), some (.int (k : Int)), some (.ob S.length), none] (S ++ [.lst []])
    (by
      rintro i y r S' hy ⟨x3, rfl, rfl⟩
      have hil := (List.getElem?_eq_some_iff.mp hy).1
      have hil' : i < pcN k m := by simpa [rngD] using hil
      have hyy := rngD_get hy
      have hyi : (0 : Int) + (i : Int) * (k : Int) = ((i * k : Nat) : Int) := by rw [Int.zero_add]; exact (Int.natCast_mul i k).symm
      rw [hyi] at hyy
      subst hyy
      rw [Nat.zero_add]
      obtain ⟨T, hT⟩ : ∃ T, S ++ [Cell.lst (((List.range i).map (pcAt k m)).map pcD)] = T := ⟨_, rfl⟩
      have v1 : dCall intD (dCons (dOp geD (dOp addD (dVar 3) (dVar 1)) (dCall lenD (dCons (dVar 0) dNil))) dNil) [some (msgD m), some (.int (k : Int)), some (.ob S.length), some (.int ((i * k : Nat) : Int))] T = .ok (.int (pcAt k m i).1) T := by
        refine ev_call (ev_cons (ev_op (ev_op rfl rfl (e_add_int _ _)) (hln _ _) (e_ge _ _)) ev_nil) ?_
        show R.ok (D.int (if decide ((m.length : Int) ≤ ((i * k : Nat) : Int) + (k : Int)) = true then 1 else 0)) T = _
        unfold pcAt
        by_cases hc : m.length ≤ i * k + k
        · rw [if_pos hc, if_pos (decide_eq_true (by omega))]
        · rw [if_neg hc, if_neg (by rw [decide_eq_true_eq]; omega)]
      have v2 : dSl slD (dVar 0) (dPart (dVar 3)) (dPart (dOp addD (dVar 3) (dVar 1))) [some (msgD m), some (.int (k : Int)), some (.ob S.length), some (.int ((i * k : Nat) : Int))] T = .ok (.tup ((pcAt k m i).2.map D.int)) T := by
        simp only [e_dSl, e_bind, e_dVar, List.getElem?_cons_succ, List.getElem?_cons_zero, e_dPart, e_intOf, e_ret, e_dOp, e_add_int, msgD, slD]
        rw [cutD_win, ← List.map_drop, ← List.map_take]
        rfl
      have hat : T[S.length]? = some (.lst (((List.range i).map (pcAt k m)).map pcD)) := by rw [← hT]; exact push_at rfl
      have ee := e_app (S := T) (n := S.length) (d := pcD (pcAt k m i)) hat (by simp; omega)
      have e2 : T.set S.length (.lst (((List.range i).map (pcAt k m)).map pcD ++ [pcD (pcAt k m i)])) = S ++ [.lst (((List.range (i + 1)).map (pcAt k m)).map pcD)] := by
        rw [← hT, hset, List.range_succ, List.map_append, List.map_append]
        rfl
      rw [e2] at ee
      refine ⟨[some (msgD m), some (.int (k : Int)), some (.ob S.length), some (.int ((i * k : Nat) : Int))], [some (msgD m), some (.int (k : Int)), some (.ob S.length), some (.int ((i * k : Nat) : Int))], S ++ [.lst (((List.range (i + 1)).map (pcAt k m)).map pcD)], rfl, ?_, trivial, _, rfl, rfl⟩
      unfold bd__law_pieces_1
      rw [hT]
      exact go_drop (ev_bm rfl hat (ev_cons (ev_tup (ev_cons v1 (ev_cons v2 ev_nil)) (by simp)) ev_nil) ee))
    ⟨none, rfl, rfl⟩
  have hlen : (rngD 0 (k : Int) (pcN k m)).length = pcN k m := by simp [rngD]
  rw [hlen, Nat.zero_add] at e
  rw [go_seq (by rw [go_for w1]; exact e), go_ret rfl, cutP_at hk hm]
  rfl
theorem e_add_obs {S : List Cell} {a b : Nat} {xs ys : List D} (h1 : S[a]? = some (.lst xs)) (h2 : S[b]? = some (.lst ys)) (hz : (xs ++ ys).length ≤ 1000000) : addD (.ob a) (.ob b) S = .ok (.ob S.length) (S ++ [.lst (xs ++ ys)]) := by
  simp only [addD, lstAt_of h1, lstAt_of h2, e_newLst hz]
end Lw
namespace Lw
open PySem L2 DL
theorem pD_ints {S : List Cell} {n : Nat} (is : List Int) : pD S (n + 2) (.tup (is.map D.int)) = some (.tuple (is.map PyData.int)) := pD_tupInts S n is
theorem pD_card (S : List Cell) (n : Nat) (c : Card) : ∃ p, pD S (n + 5) (cardD c) = some p := by
  have k1 : PyData.canLay0 (.str "hello") = true := by decide +kernel
  have k2 : PyData.canLay0 (.str "welcome") = true := by decide +kernel
  have k3 : PyData.canLay0 (.str "who") = true := by decide +kernel
  have k4 : PyData.canLay0 (.str "data") = true := by decide +kernel
  have k5 : PyData.canLay0 (.str "note") = true := by decide +kernel
  cases c with
  | hello o => exact ⟨_, by simp only [cardD, pD, pDs, k1, if_true]; rfl⟩
  | welcome o => exact ⟨_, by simp only [cardD, pD, pDs, k2, if_true]; rfl⟩
  | who o => exact ⟨_, by simp only [cardD, pD, pDs, k3, if_true]; rfl⟩
  | data o m p =>
    have := pD_ints (S := S) (n := n + 1) p.2
    exact ⟨_, by simp only [cardD, pcD, pD_tup, pDs, this]; simp only [pD, k4, if_true]; rfl⟩
  | note o m bs =>
    have := pD_ints (S := S) (n := n + 2) bs
    exact ⟨_, by simp only [cardD, pD_tup, pDs, this]; simp only [pD, k5, if_true]; rfl⟩
theorem pDs_cards (S : List Cell) (cs : List Card) : ∃ ps, pDs S 29 (cs.map cardD) = some ps := pDs_map fun c _ => pD_card S 24 c
end Lw
namespace Lw
open PySem L2 DL
section
variable {G : Cs} {S S' S1 S2 : List Cell} {n m p q p1 q1 p2 q2 p' q' : Nat} {s s' s1 s2 : Sr} {N : Nat}
def Off (k n m p q : Nat) : Prop := k ≠ n ∧ k ≠ m ∧ k ≠ p ∧ k ≠ q
theorem SrTo.keep {k : Nat} {c : Cell} (t : SrTo G n m p q S p' q' S' s') (hk : S[k]? = some c) (h : Off k n m p q) : S'[k]? = some c ∧ Off k n m p' q' := by
  obtain ⟨h1, h2, h3, h4⟩ := h
  have hl := cell_lt hk
  have hp := t.p_
  have hq := t.q_
  exact ⟨t.fr.get hk (by simp; omega), h1, h2, by omega, by omega⟩
theorem off_new {k : Nat} (a : SrAt G S n m p q s) (hk : S.length ≤ k) : Off k n m p q := by
  have h1 := cell_lt a.ob
  have h2 := cell_lt a.ms
  have h3 := cell_lt a.ps
  have h4 := cell_lt a.nt
  exact ⟨by omega, by omega, by omega, by omega⟩
theorem Sb.hands : ∀ (ms : List Msg) {N : Nat} {s : Sr}, Sb N s → (∀ x, x ∈ ms → x.length ≤ 40) → Sb (N + ms.length) (ms.foldl Sr.hand s)
  | [], _, _, b, _ => b
  | x :: ms, N, s, b, h => by
    have := Sb.hands ms (b.hand (h x (by simp))) fun y hy => h y (List.mem_cons_of_mem _ hy)
    rw [List.foldl_cons, List.length_cons, show N + (ms.length + 1) = N + 1 + ms.length by omega]
    exact this
theorem hands_shut : ∀ (ms : List Msg) (s : Sr), s.st = .shut → ms.foldl Sr.hand s = { s with msgs := s.msgs ++ ms }
  | [], s, _ => by simp
  | x :: ms, s, h => by
    have e : s.hand x = { s with msgs := s.msgs ++ [x] } := by unfold Sr.hand; rw [if_pos h]
    rw [List.foldl_cons, e, hands_shut ms { s with msgs := s.msgs ++ [x] } h]
    simp
theorem hands_open : ∀ (ms : List Msg) (s : Sr), s.st ≠ .shut → ms.foldl Sr.hand s = { s with msgs := s.msgs ++ ms, ps := s.ps ++ fl s.most ms }
  | [], s, _ => by simp [fl]
  | x :: ms, s, h => by
    have e : s.hand x = { s with msgs := s.msgs ++ [x], ps := s.ps ++ cutP s.most x } := by unfold Sr.hand; rw [if_neg h]
    rw [List.foldl_cons, e, hands_open ms { s with msgs := s.msgs ++ [x], ps := s.ps ++ cutP s.most x } h]
    simp [fl_cons]
theorem hand_loop {b : TSt} (hb : b = sDrop (dMeth G.Sender ns_Sender (F_Sender_hand G) (dVar 4) (dCons (dVar 7) dNil))) {a0 a1 a2 a3 a5 a6 x7 : Option D} {ms : List Msg} (h40 : ∀ x, x ∈ ms → x.length ≤ 40) (bd : Sb N s) (hN : N + ms.length < 20000) {kk : Nat} (a : SrAt G S n m p q s) (hk : S[kk]? = some (.lst (ms.map msgD))) (ho : Off kk n m p q) :
    ∃ S' x7', sTurns (some (kk, ms.map msgD)) (gN 7) b (ms.map msgD) [a0, a1, a2, a3, some (.ob n), a5, a6, x7] S = some (.nx [a0, a1, a2, a3, some (.ob n), a5, a6, x7'], S') ∧ SrTo G n m p q S p q S' (ms.foldl Sr.hand s) := by
  subst hb
  obtain ⟨r', S', e, x7', rfl, a', _⟩ := sTurns_inv (g := some (kk, ms.map msgD)) (tg := gN 7) (b := sDrop (dMeth G.Sender ns_Sender (F_Sender_hand G) (dVar 4) (dCons (dVar 7) dNil)))
    (fun i r S' => ∃ x7', r = [a0, a1, a2, a3, some (.ob n), a5, a6, x7'] ∧ SrTo G n m p q S p q S' ((ms.take i).foldl Sr.hand s) ∧ S'[kk]? = some (.lst (ms.map msgD))) (ms.map msgD) 0 [a0, a1, a2, a3, some (.ob n), a5, a6, x7] S
    (by
      rintro i y r S' hy ⟨x7', rfl, a', k'⟩
      rw [List.getElem?_map] at hy
      cases hx : ms[i]? with
      | none => rw [hx] at hy; cases hy
      | some x =>
        rw [hx] at hy
        cases hy
        rw [Nat.zero_add] at a' ⊢
        have hxm := List.mem_of_getElem? hx
        have hil := (List.getElem?_eq_some_iff.mp hx).1
        have hbi := bd.hands (ms.take i) fun y hy => h40 y (List.mem_of_mem_take hy)
        rw [List.length_take] at hbi
        obtain ⟨S2, q2, k2⟩ := sr_hand a'.at_ hbi (by omega) (h40 x hxm)
        have kk2 := a'.trans k2
        have e1 : (ms.take (i + 1)).foldl Sr.hand s = ((ms.take i).foldl Sr.hand s).hand x := by
          rw [List.take_add_one, hx, Option.toList_some, List.foldl_append]
          rfl
        obtain ⟨k3, _⟩ := k2.keep k' ho
        refine ⟨[a0, a1, a2, a3, some (.ob n), a5, a6, some (msgD x)], [a0, a1, a2, a3, some (.ob n), a5, a6, some (msgD x)], S2, rfl, go_drop (ev_meth rfl a'.at_.ob (ev_cons rfl ev_nil) q2), k3, _, rfl, ?_, k3⟩
        rw [e1]
        exact kk2)
    ⟨x7, rfl, SrTo.refl a, hk⟩
  rw [show 0 + (ms.map msgD).length = ms.length by simp, List.take_length] at a'
  exact ⟨S', x7', e, a'⟩
def msgsOf (ns : List Int) (many : Nat) : List Msg := (List.range many).map fun k => msgOf (cv ns (2 + k)) 12
theorem msgsOf_40 (ns : List Int) (many : Nat) : ∀ x, x ∈ msgsOf ns many → x.length ≤ 40 := by
  intro x hx
  obtain ⟨k, _, rfl⟩ := List.mem_map.mp hx
  exact Nat.le_trans (msgOf_len _ 12) (by decide)
def opS (ns : List Int) (many : Nat) : Sr := ⟨wOf ns, mOf ns, msgsOf ns many, 0, 1, .opened, fl (mOf ns) (msgsOf ns many), 0, []⟩
theorem wk_of {f : DSt → M D} {r : DSt} {k : Nat} {xs : List D} (h : f r S = .ok (.ob k) S1) (hk : S1[k]? = some (.lst xs)) : dWk f r S = .ok ⟨xs, some (k, xs)⟩ S1 := by
  rw [e_dWk, e_bind, h]
  simp only [wkOf, hk]
theorem row_loop (ns : List Int) {b : TSt} (hb : b = sAsg (dOp addD (dVar 5) (dCall F__law_pieces (dCons (dVar 7) (dCons (dVar 3) dNil)))) (gN 5)) {a0 a1 a2 a4 a6 x7 : Option D} {ms : List Msg} (h40 : ∀ x, x ∈ ms → x.length ≤ 40) (hl : ms.length ≤ 1000) {kk kr : Nat} (a : SrAt G S n m p q s) (hk : S[kk]? = some (.lst (ms.map msgD))) (hr : S[kr]? = some (.lst [])) (ho : Off kr n m p q) :
    ∃ S' x7' kr', sTurns (some (kk, ms.map msgD)) (gN 7) b (ms.map msgD) [a0, a1, a2, some (.int (mOf ns : Int)), a4, some (.ob kr), a6, x7] S = some (.nx [a0, a1, a2, some (.int (mOf ns : Int)), a4, some (.ob kr'), a6, x7'], S') ∧ SrTo G n m p q S p q S' s ∧ S'[kk]? = some (.lst (ms.map msgD)) ∧ S'[kr']? = some (.lst ((fl (mOf ns) ms).map pcD)) ∧ Off kr' n m p q := by
  subst hb
  obtain ⟨r', S', e, x7', kr', rfl, a', k', r'', o'⟩ := sTurns_inv (g := some (kk, ms.map msgD)) (tg := gN 7) (b := sAsg (dOp addD (dVar 5) (dCall F__law_pieces (dCons (dVar 7) (dCons (dVar 3) dNil)))) (gN 5))
    (fun i r S' => ∃ x7' kr', r = [a0, a1, a2, some (.int (mOf ns : Int)), a4, some (.ob kr'), a6, x7'] ∧ SrTo G n m p q S p q S' s ∧ S'[kk]? = some (.lst (ms.map msgD)) ∧ S'[kr']? = some (.lst ((fl (mOf ns) (ms.take i)).map pcD)) ∧ Off kr' n m p q) (ms.map msgD) 0 [a0, a1, a2, some (.int (mOf ns : Int)), a4, some (.ob kr), a6, x7] S
    (by
      rintro i y r S' hy ⟨x7', kr', rfl, a', k', r', o'⟩
      rw [List.getElem?_map] at hy
      cases hx : ms[i]? with
      | none => rw [hx] at hy; cases hy
      | some x =>
        rw [hx] at hy
        cases hy
        rw [Nat.zero_add] at r' ⊢
        have hxm := List.mem_of_getElem? hx
        have l3 := h40 x hxm
        have l1 := fl_len (mOf_pos ns) (ms := ms.take i) fun y hy => h40 y (List.mem_of_mem_take hy)
        have l2 := cutP_len (mOf_pos ns) x
        rw [List.length_take] at l1
        have q1 := lpieces_eq (mOf_pos ns) (Nat.le_trans (mOf_le ns) (by decide)) l3 S'
        have q2 := e_add_obs (push_old (G := [.lst ((cutP (mOf ns) x).map pcD)]) r') (push_at rfl) (by rw [List.length_append, List.length_map, List.length_map]; omega)
        rw [← List.map_append, ← flt_succ hx] at q2
        refine ⟨[a0, a1, a2, some (.int (mOf ns : Int)), a4, some (.ob kr'), a6, some (msgD x)], [a0, a1, a2, some (.int (mOf ns : Int)), a4, some (.ob (S' ++ [Cell.lst ((cutP (mOf ns) x).map pcD)]).length), a6, some (msgD x)], _, rfl, go_asg (ev_op rfl (ev_call (ev_cons rfl (ev_cons rfl ev_nil)) q1) q2), push_old (push_old k'), _, _, rfl, (a'.push _).push _, push_old (push_old k'), push_at rfl, ?_⟩
        exact off_new (a'.at_.push _) (Nat.le_refl _))
    ⟨x7, kr, rfl, SrTo.refl a, hk, by rw [List.take_zero]; exact hr, ho⟩
  rw [show 0 + (ms.map msgD).length = ms.length by simp, List.take_length] at r''
  exact ⟨S', x7', kr', e, a', k', r'', o'⟩
theorem opened_eq (ns : List Int) {many : Nat} (hm : many ≤ 10) : ∃ S' n m p q kl kr, F__law_opened G [.rol (ns.map D.int), .int (many : Int)] [] = .ok (.tup [.ob n, .int (wOf ns : Int), .ob kl, .ob kr]) S' ∧ SrAt G S' n m p q (opS ns many) ∧ Sb many (opS ns many) ∧
    S'[kl]? = some (.lst ((msgsOf ns many).map msgD)) ∧ Off kl n m p q ∧ S'[kr]? = some (.lst ((fl (mOf ns) (msgsOf ns many)).map pcD)) ∧ Off kr n m p q := by
  show ∃ S' n m p q kl kr, fin [] (cd__law_opened G [some (.rol (ns.map D.int)), some (.int (many : Int)), none, none, none, none, none, none] []) = _ ∧ _
  unfold cd__law_opened
  rw [go_seq (go_asg2 (ev_call (ev_cons rfl ev_nil) (setting_eq ns [])))]
  show ∃ S' n m p q kl kr, fin [] (sSeq _ _ [some (.rol (ns.map D.int)), some (.int (many : Int)), some (.int (wOf ns : Int)), some (.int (mOf ns : Int)), none, none, none, none] []) = _ ∧ _
  obtain ⟨S1, m, p, q, e1, a1, f1, _, _, _⟩ := sr_make (G := G) (wOf ns) (mOf ns) []
  replace a1 : SrAt G S1 0 m p q (Sr.new (wOf ns) (mOf ns)) := a1
  replace e1 : makeD G.Sender (F_Sender___init__ G) [.int (wOf ns : Int), .int (mOf ns : Int)] [] = .ok (.ob 0) S1 := e1
  rw [go_seq (go_asg (ev_call (ev_cons rfl (ev_cons rfl ev_nil)) e1)), go_seq (go_asg (ev_lst ev_nil (by decide)))]
  show ∃ S' n m p q kl kr, fin [] (sSeq _ _ [some (.rol (ns.map D.int)), some (.int (many : Int)), some (.int (wOf ns : Int)), some (.int (mOf ns : Int)), some (.ob 0), some (.ob S1.length), none, none] (S1 ++ [.lst []])) = _ ∧ _
  have a2 := a1.push [.lst []]
  obtain ⟨S2, hS2⟩ : ∃ S2, S1 ++ [Cell.lst []] = S2 := ⟨_, rfl⟩
  have kr2 : S2[S1.length]? = some (.lst []) := by rw [← hS2]; exact push_at rfl
  have or2 : Off S1.length 0 m p q := off_new a1 (Nat.le_refl _)
  rw [hS2] at a2 ⊢
  have c1 := ev_comp (f := dRng1 (dVar 1)) (tg := gN 0) (ti := dYes) (fe := dCall F__law_message (dCons (dCall F__law_cell (dCons (dVar 1) (dCons (dOp addD (dC (.int 2)) (dVar 0)) dNil))) (dCons (dC (.int 12)) dNil))) (own := 1) (caps := [0])
    (r := [some (.rol (ns.map D.int)), some (.int (many : Int)), some (.int (wOf ns : Int)), some (.int (mOf ns : Int)), some (.ob 0), some (.ob S1.length), none, none]) (S := S2) (S1 := S2) (w := ⟨rngD 0 1 many, none⟩) (fun _ => true) (fun x => match x with
      | .int k => msgD (msgOf (cv ns (2 + k.toNat)) 12)
      | _ => .non) (wRng_eq (by omega)) trivial (by simp [rngD]; omega) (by
      intro x hx
      simp only [rngD, List.mem_map, List.mem_range] at hx
      obtain ⟨k, _, rfl⟩ := hx
      have hk : (0 : Int) + (k : Int) * 1 = (k : Int) := by omega
      rw [hk]
      refine ⟨_, rfl, fun _ => rfl, fun _ zs => ?_⟩
      show dCall _ _ [some (.int (k : Int)), some (.rol (ns.map D.int))] _ = _
      have g1 : dOp addD (dC (.int 2)) (dVar 0) [some (.int (k : Int)), some (.rol (ns.map D.int))] (S2 ++ [.lst zs]) = .ok (.int ((2 + k : Nat) : Int)) (S2 ++ [.lst zs]) := ev_op rfl rfl (by rw [e_add_int]; congr 2)
      refine ev_call (ev_cons (ev_call (ev_cons rfl (ev_cons g1 ev_nil)) (cell_eq _)) (ev_cons rfl ev_nil)) (message_eq _ 12 (by decide) _))
  have hms : ((rngD 0 1 many).filter fun _ => true).map (fun x => match x with
      | .int k => msgD (msgOf (cv ns (2 + k.toNat)) 12)
      | _ => .non) = (msgsOf ns many).map msgD := by
    rw [List.filter_eq_self.mpr (by simp)]
    unfold rngD msgsOf
    rw [List.map_map, List.map_map]
    refine List.map_congr_left fun k _ => ?_
    have hk : (0 + (k : Int) * 1).toNat = k := by omega
    simp only [Function.comp_def, hk]
  rw [hms] at c1
  obtain ⟨ms, hmm⟩ : ∃ ms, msgsOf ns many = ms := ⟨_, rfl⟩
  have h40 : ∀ x, x ∈ ms → x.length ≤ 40 := by rw [← hmm]; exact msgsOf_40 ns many
  have hml : ms.length = many := by rw [← hmm]; simp [msgsOf]
  rw [hmm] at c1
  rw [go_seq (go_asg c1)]
  show ∃ S' n m p q kl kr, fin [] (sSeq _ _ [some (.rol (ns.map D.int)), some (.int (many : Int)), some (.int (wOf ns : Int)), some (.int (mOf ns : Int)), some (.ob 0), some (.ob S1.length), some (.ob S2.length), none] (S2 ++ [.lst (ms.map msgD)])) = _ ∧ _
  have a3 := a2.push [.lst (ms.map msgD)]
  have kl3 : (S2 ++ [.lst (ms.map msgD)])[S2.length]? = some (.lst (ms.map msgD)) := push_at rfl
  have ol3 : Off S2.length 0 m p q := off_new a2 (Nat.le_refl _)
  have kr3 := push_old (G := [.lst (ms.map msgD)]) kr2
  obtain ⟨S3, hS3⟩ : ∃ S3, S2 ++ [Cell.lst (ms.map msgD)] = S3 := ⟨_, rfl⟩
  rw [hS3] at a3 kl3 kr3 ⊢
  have hdv : ∀ T, dPart (dOp fdivD (dVar 1) (dC (.int 2))) [some (.rol (ns.map D.int)), some (.int (many : Int)), some (.int (wOf ns : Int)), some (.int (mOf ns : Int)), some (.ob 0), some (.ob S1.length), some (.ob S2.length), none] T = .ok (some ((many / 2 : Nat) : Int)) T := fun T => by
    have : dOp fdivD (dVar 1) (dC (.int 2)) [some (.rol (ns.map D.int)), some (.int (many : Int)), some (.int (wOf ns : Int)), some (.int (mOf ns : Int)), some (.ob 0), some (.ob S1.length), some (.ob S2.length), none] T = .ok (.int ((many / 2 : Nat) : Int)) T := ev_op rfl rfl (e_fdiv_int ⟨by decide, by decide⟩)
    rw [e_dPart, e_bind, this]
    rfl
  have hdv' : ∀ T x7, dPart (dOp fdivD (dVar 1) (dC (.int 2))) [some (.rol (ns.map D.int)), some (.int (many : Int)), some (.int (wOf ns : Int)), some (.int (mOf ns : Int)), some (.ob 0), some (.ob S1.length), some (.ob S2.length), x7] T = .ok (some ((many / 2 : Nat) : Int)) T := fun T x7 => by
    have : dOp fdivD (dVar 1) (dC (.int 2)) [some (.rol (ns.map D.int)), some (.int (many : Int)), some (.int (wOf ns : Int)), some (.int (mOf ns : Int)), some (.ob 0), some (.ob S1.length), some (.ob S2.length), x7] T = .ok (.int ((many / 2 : Nat) : Int)) T := ev_op rfl rfl (e_fdiv_int ⟨by decide, by decide⟩)
    rw [e_dPart, e_bind, this]
    rfl
  have w1 : dSl slD (dVar 6) dNoPart (dPart (dOp fdivD (dVar 1) (dC (.int 2)))) [some (.rol (ns.map D.int)), some (.int (many : Int)), some (.int (wOf ns : Int)), some (.int (mOf ns : Int)), some (.ob 0), some (.ob S1.length), some (.ob S2.length), none] S3 = .ok (.ob S3.length) (S3 ++ [.lst ((ms.take (many / 2)).map msgD)]) := by
    rw [e_dSl, e_bind]
    simp only [e_dVar, List.getElem?_cons_succ, List.getElem?_cons_zero, e_bind, e_dNoPart, e_ret, hdv, slD, lstAt_of kl3]
    rw [cutD_take (by rw [List.length_map]; omega), ← List.map_take]
  have a3' := a3.push [.lst ((ms.take (many / 2)).map msgD)]
  obtain ⟨S4, x4, e4, k4⟩ := hand_loop (G := G) (b := bd__law_opened_1 G) rfl (a0 := some (.rol (ns.map D.int))) (a1 := some (.int (many : Int))) (a2 := some (.int (wOf ns : Int))) (a3 := some (.int (mOf ns : Int))) (a5 := some (.ob S1.length)) (a6 := some (.ob S2.length)) (x7 := none) (ms := ms.take (many / 2)) (N := 0)
    (fun x hx => h40 x (List.mem_of_mem_take hx)) (s := Sr.new (wOf ns) (mOf ns)) ⟨mOf_pos ns, Nat.le_refl _, by simp [Sr.new], by simp [Sr.new], by simp [Sr.new], Nat.le_refl _⟩ (by rw [List.length_take]; omega) a3' (push_at rfl) (off_new a3 (Nat.le_refl _))
  have b4 : Sb (ms.take (many / 2)).length ((ms.take (many / 2)).foldl Sr.hand (Sr.new (wOf ns) (mOf ns))) := by
    have := Sb.hands (ms.take (many / 2)) (N := 0) (s := Sr.new (wOf ns) (mOf ns)) ⟨mOf_pos ns, Nat.le_refl _, by simp [Sr.new], by simp [Sr.new], by simp [Sr.new], Nat.le_refl _⟩ fun x hx => h40 x (List.mem_of_mem_take hx)
    rwa [Nat.zero_add] at this
  obtain ⟨kl4, ol4⟩ := k4.keep (push_old (G := [.lst ((ms.take (many / 2)).map msgD)]) kl3) ol3
  obtain ⟨kr4, or4⟩ := k4.keep (push_old (G := [.lst ((ms.take (many / 2)).map msgD)]) kr3) or2
  rw [go_seq (by rw [go_for (wk_of w1 (push_at rfl))]; exact e4)]
  rw [hands_shut _ _ rfl] at k4 b4
  obtain ⟨sA, hsA⟩ : ∃ sA : Sr, { Sr.new (wOf ns) (mOf ns) with msgs := (Sr.new (wOf ns) (mOf ns)).msgs ++ ms.take (many / 2) } = sA := ⟨_, rfl⟩
  rw [hsA] at k4 b4
  have hl2 : (ms.take (many / 2)).length ≤ 10 := by rw [List.length_take]; omega
  obtain ⟨S5, p5, q5, e5, k5⟩ := sr_start k4.at_ b4 (by omega)
  have b5 := b4.start
  rw [go_seq (go_drop (ev_meth rfl k4.at_.ob ev_nil e5))]
  obtain ⟨kl5, ol5⟩ := k5.keep kl4 ol4
  obtain ⟨kr5, or5⟩ := k5.keep kr4 or4
  have hw5 : sA.start.w = wOf ns := by rw [← hsA]; rfl
  obtain ⟨S6, p6, q6, l6, e6, k6, _, _⟩ := sr_hears k5.at_ b5 (by omega) (by rw [hw5]; exact wOf_pos ns) (c := .welcome 1) trivial
  have b6 := b5.hears (c := .welcome 1) trivial
  have e6' : dMeth G.Sender ns_Sender (F_Sender_hears G) (dVar 4) (dCons (dTup (dCons (dC (.str "welcome")) (dCons (dC (.int 1)) dNil))) dNil) [some (.rol (ns.map D.int)), some (.int (many : Int)), some (.int (wOf ns : Int)), some (.int (mOf ns : Int)), some (.ob 0), some (.ob S1.length), some (.ob S2.length), x4] S5 = .ok (.ob l6) S6 :=
    ev_meth rfl k5.at_.ob (ev_cons (ev_tup (ev_cons rfl (ev_cons rfl ev_nil)) (by simp)) ev_nil) e6
  rw [go_seq (go_drop e6')]
  obtain ⟨kl6, ol6⟩ := k6.keep kl5 ol5
  obtain ⟨kr6, or6⟩ := k6.keep kr5 or5
  obtain ⟨sB, hsB⟩ : ∃ sB : Sr, sA.start.hears (.welcome 1) = sB := ⟨_, rfl⟩
  have hB : sB = ⟨wOf ns, mOf ns, ms.take (many / 2), 0, 1, .opened, fl (mOf ns) (ms.take (many / 2)), 0, []⟩ := by
    rw [← hsB, ← hsA]
    rfl
  rw [hsB] at k6 b6
  have w2 : dSl slD (dVar 6) (dPart (dOp fdivD (dVar 1) (dC (.int 2)))) dNoPart [some (.rol (ns.map D.int)), some (.int (many : Int)), some (.int (wOf ns : Int)), some (.int (mOf ns : Int)), some (.ob 0), some (.ob S1.length), some (.ob S2.length), x4] S6 = .ok (.ob S6.length) (S6 ++ [.lst ((ms.drop (many / 2)).map msgD)]) := by
    rw [e_dSl, e_bind]
    simp only [e_dVar, List.getElem?_cons_succ, List.getElem?_cons_zero, e_bind, e_dNoPart, e_ret, hdv', slD, lstAt_of kl6]
    rw [cutD_drop (by rw [List.length_map]; omega), ← List.map_drop]
  obtain ⟨S7, x7, e7, k7⟩ := hand_loop (G := G) (b := bd__law_opened_2 G) rfl (a0 := some (.rol (ns.map D.int))) (a1 := some (.int (many : Int))) (a2 := some (.int (wOf ns : Int))) (a3 := some (.int (mOf ns : Int))) (a5 := some (.ob S1.length)) (a6 := some (.ob S2.length)) (x7 := x4) (ms := ms.drop (many / 2))
    (fun x hx => h40 x (List.mem_of_mem_drop hx)) b6 (by rw [List.length_drop]; omega) (k6.at_.push [.lst ((ms.drop (many / 2)).map msgD)]) (push_at rfl) (off_new k6.at_ (Nat.le_refl _))
  obtain ⟨kl7, ol7⟩ := k7.keep (push_old (G := [.lst ((ms.drop (many / 2)).map msgD)]) kl6) ol6
  obtain ⟨kr7, or7⟩ := k7.keep (push_old (G := [.lst ((ms.drop (many / 2)).map msgD)]) kr6) or6
  rw [go_seq (by rw [go_for (wk_of w2 (push_at rfl))]; exact e7)]
  have hC : (ms.drop (many / 2)).foldl Sr.hand sB = opS ns many := by
    rw [hands_open _ _ (by rw [hB]; exact fun z => by cases z), hB]
    unfold opS
    rw [hmm]
    dsimp only
    rw [List.take_append_drop, ← fl_append, List.take_append_drop]
  rw [hC] at k7
  obtain ⟨S8, x8, kr8, e8, k8, kl8, r8, or8⟩ := row_loop (G := G) ns (b := bd__law_opened_3 G) rfl (a0 := some (.rol (ns.map D.int))) (a1 := some (.int (many : Int))) (a2 := some (.int (wOf ns : Int))) (a4 := some (.ob 0)) (a6 := some (.ob S2.length)) (x7 := x7) h40 (by omega) k7.at_ kl7 kr7 or7
  have ol8 : Off S2.length 0 m p6 q6 := ol7
  rw [go_seq (by rw [go_for (wk_of (f := dVar 6) (k := S2.length) rfl kl7)]; exact e8), go_ret (ev_tup (ev_cons rfl (ev_cons rfl (ev_cons rfl (ev_cons rfl ev_nil)))) (by simp))]
  rw [hmm]
  refine ⟨S8, 0, m, p6, q6, S2.length, kr8, rfl, k8.at_, ?_, kl8, ol8, r8, or8⟩
  refine ⟨mOf_pos ns, by show (msgsOf ns many).length ≤ _; rw [hmm]; omega, by show ∀ x, x ∈ msgsOf ns many → _; rw [hmm]; exact h40, ?_, fl_flags _ _, Nat.zero_le _⟩
  have := fl_len (mOf_pos ns) (ms := ms) h40
  show (fl (mOf ns) (msgsOf ns many)).length ≤ _
  rw [hmm]
  omega
end
end Lw
namespace Lw
open PySem L2 DL
section
variable {G : Cs} {S S' S1 S2 : List Cell} {n m p q p1 q1 p2 q2 p' q' : Nat} {s s' s1 s2 : Sr} {N : Nat}
def St9 (w mo : Nat) (ms : List Msg) (su o : Nat) (P : List Pc) (i : Nat) : Sr := ⟨w, mo, ms, su + lasts (P.take i), o, .opened, P, i, []⟩
theorem noteP_zero : ∀ (k j : Nat) (s : Sr), s.noteP j (List.replicate k 0) = s
  | 0, _, _ => rfl
  | k + 1, j, s => by
    rw [List.replicate_succ]
    unfold Sr.noteP
    rw [if_neg fun z => absurd z.1 (by decide)]
    exact noteP_zero k (j + 1) s
theorem lasts_move (R : List Pc) {b i : Nat} (h : b ≤ i) : lasts (R.take b) + lasts ((R.take i).drop b) = lasts (R.take i) := by
  have : R.take i = R.take b ++ (R.take i).drop b := by
    have h2 := (List.take_append_drop b (R.take i)).symm
    rw [List.take_take, Nat.min_eq_left h] at h2
    exact h2
  rw [this, lasts_append, ← this]
theorem st9_step {w mo : Nat} {ms : List Msg} {su o : Nat} {P : List Pc} {i : Nat} (hw : 0 < w) (hi : i + 1 ≤ P.length) : (St9 w mo ms su o P i).hears (.note o ((i + 1) % (2 * w)) (List.replicate w 0)) = St9 w mo ms su o P (i + 1) := by
  have h1 : (St9 w mo ms su o P i).hears (.note o ((i + 1) % (2 * w)) (List.replicate w 0)) = (St9 w mo ms su o P i).hearsNote ((i + 1) % (2 * w)) (List.replicate w 0) := by unfold Sr.hears; exact if_pos ⟨rfl, rfl⟩
  have hn : near (((i + 1) % (2 * w) : Nat) : Int) (i : Int) w = ((i + 1 : Nat) : Int) := by
    have : (((i + 1) % (2 * w) : Nat) : Int) = ((i + 1 : Nat) : Int) % (2 * (w : Int)) := by push_cast; rfl
    rw [this]
    exact near_idx hw (by omega) (by omega)
  rw [h1]
  unfold Sr.hearsNote
  rw [if_pos ⟨Nat.mod_lt _ (by show 0 < 2 * w; omega), by show near _ (i : Int) w ≤ ((min (i + w) P.length : Nat) : Int); rw [hn]; omega⟩, noteP_zero]
  show Sr.moveB _ (near _ (i : Int) w).toNat = _
  rw [hn, Int.toNat_natCast]
  unfold Sr.moveB St9
  dsimp only
  rw [Nat.add_assoc, lasts_move P (Nat.le_succ i)]
theorem sb9 {w mo : Nat} {ms : List Msg} {su o : Nat} {P : List Pc} (hmo : 1 ≤ mo) (hml : ms.length ≤ N) (h40 : ∀ x, x ∈ ms → x.length ≤ 40) (hpl : P.length ≤ 41 * N) (hfg : ∀ x, x ∈ P → x.1 = 0 ∨ x.1 = 1) (i : Nat) : Sb N (St9 w mo ms su o P i) := ⟨hmo, hml, h40, hpl, hfg, Nat.zero_le _⟩
theorem zeros_eq {w : Nat} (hw : 0 < w) (hw7 : w ≤ 7) (S : List Cell) : mulTD (.tup [.int 0]) (.int (w : Int)) S = .ok (.tup ((List.replicate w (0 : Int)).map D.int)) S := by
  rw [e_mulT (by simp) hw (by omega) (by decide)]
  congr 2
  rw [List.map_replicate]
  clear hw hw7
  induction w with
  | zero => rfl
  | succ k ih => rw [List.replicate_succ, List.flatten_cons, ih, List.replicate_succ]; rfl
theorem noted_eq {w mo : Nat} {ms : List Msg} {su o : Nat} {P : List Pc} (hw : 0 < w) (hw7 : w ≤ 7) (hb : ∀ i, Sb N (St9 w mo ms su o P i)) (hN : N ≤ 1000) {c : Nat} (hc : c ≤ P.length) (a : SrAt G S n m p q (St9 w mo ms su o P 0)) :
    ∃ S' p' q', F__law_noted G [.ob n, .int (w : Int), .int (c : Int), .int (o : Int)] S = .ok .non S' ∧ SrTo G n m p q S p' q' S' (St9 w mo ms su o P c) := by
  show ∃ S' p' q', fin S (cd__law_noted G [some (.ob n), some (.int (w : Int)), some (.int (c : Int)), some (.int (o : Int)), none, none] S) = _ ∧ _
  unfold cd__law_noted
  have hpl := (hb 0).pl
  have hpl' : P.length ≤ 41 * N := hpl
  have z1 : dOp mulTD (dTup (dCons (dC (.int 0)) dNil)) (dVar 1) [some (.ob n), some (.int (w : Int)), some (.int (c : Int)), some (.int (o : Int)), none, none] S = .ok (.tup ((List.replicate w (0 : Int)).map D.int)) S :=
    ev_op (ev_tup (ev_cons rfl ev_nil) (by simp)) rfl (zeros_eq hw hw7 S)
  rw [go_seq (go_asg z1)]
  show ∃ S' p' q', fin S (sFor _ _ _ [some (.ob n), some (.int (w : Int)), some (.int (c : Int)), some (.int (o : Int)), some (.tup ((List.replicate w (0 : Int)).map D.int)), none] S) = _ ∧ _
  have w1 : dRng2 (dC (.int 1)) (dOp addD (dVar 2) (dC (.int 1))) [some (.ob n), some (.int (w : Int)), some (.int (c : Int)), some (.int (o : Int)), some (.tup ((List.replicate w (0 : Int)).map D.int)), none] S = .ok ⟨rngD 1 1 c, none⟩ S := by
    have g : dOp addD (dVar 2) (dC (.int 1)) [some (.ob n), some (.int (w : Int)), some (.int (c : Int)), some (.int (o : Int)), some (.tup ((List.replicate w (0 : Int)).map D.int)), none] S = .ok (.int ((c + 1 : Nat) : Int)) S := ev_op rfl rfl (by rw [e_add_int]; congr 2)
    unfold dRng2
    rw [e_bind]
    simp only [e_dC]
    rw [e_bind, g]
    rcases rng2_eq (lo := 1) (hi := c + 1) (by omega) S with h | h
    · exact h
    · omega
  obtain ⟨r', S', e, x5, p', q', rfl, k⟩ := sTurns_inv (g := none) (tg := gN 5) (b := bd__law_noted_1 G)
    (fun i r S' => ∃ x5 p' q', r = [some (.ob n), some (.int (w : Int)), some (.int (c : Int)), some (.int (o : Int)), some (.tup ((List.replicate w (0 : Int)).map D.int)), x5] ∧ SrTo G n m p q S p' q' S' (St9 w mo ms su o P i)) (rngD 1 1 c) 0 [some (.ob n), some (.int (w : Int)), some (.int (c : Int)), some (.int (o : Int)), some (.tup ((List.replicate w (0 : Int)).map D.int)), none] S
    (by
      rintro i y r S' hy ⟨x5, p', q', rfl, k⟩
      have hil := (List.getElem?_eq_some_iff.mp hy).1
      have hil' : i < c := by simpa [rngD] using hil
      have hyy := rngD_get hy
      rw [show (1 : Int) + (i : Int) * 1 = ((i + 1 : Nat) : Int) by omega] at hyy
      subst hyy
      rw [Nat.zero_add] at k ⊢
      obtain ⟨S2, p2, q2, l, e2, k2, _, _⟩ := sr_hears k.at_ (hb i) (by omega) hw (c := .note o ((i + 1) % (2 * w)) (List.replicate w 0)) (by show (List.replicate w (0 : Int)).length ≤ 7; rw [List.length_replicate]; exact hw7)
      rw [st9_step hw (by omega)] at k2
      have v2 : modD (.int ((i + 1 : Nat) : Int)) (.int (2 * (w : Int))) S' = .ok (.int (((i + 1) % (2 * w) : Nat) : Int)) S' := by
        rw [e_mod_int (by omega)]
        rfl
      refine ⟨_, _, S2, rfl, go_drop (ev_meth rfl k.at_.ob (ev_cons (ev_tup (ev_cons rfl (ev_cons rfl (ev_cons (ev_op rfl (ev_op rfl rfl (e_mul2 _)) v2) (ev_cons rfl ev_nil)))) (by simp)) ev_nil) e2), trivial, _, p2, q2, rfl, k.trans k2⟩)
    ⟨none, p, q, rfl, SrTo.refl a⟩
  rw [show 0 + (rngD 1 1 c).length = c by simp [rngD]] at k
  rw [go_for w1, e]
  exact ⟨S', p', q', rfl, k⟩
theorem lasts_ev {fa fb : DSt → M D} {r : DSt} {kr : Nat} {ps : List Pc} {b : Nat} (h1 : fa r S = .ok (.ob kr) S) (h2 : fb r S = .ok (.int (b : Int)) S) (hk : S[kr]? = some (.lst (ps.map pcD))) (hb : b ≤ ps.length) (hN : ps.length ≤ 100000) :
    ∃ T, dCall lenD (dCons (dComp (dWk (dSl slD fa dNoPart (dPart fb))) (gN 0) (dTest (dOp eqD (dOp ixD (dVar 0) (dC (.int 0))) (dC (.int 1)))) (dVar 0) 1 []) dNil) r S = .ok (.int (lasts (ps.take b) : Int)) (S ++ T) := by
  have w1 : dSl slD fa dNoPart (dPart fb) r S = .ok (.ob S.length) (S ++ [.lst ((ps.take b).map pcD)]) := by
    simp only [e_dSl, h1, h2, e_bind, e_dNoPart, e_ret, e_dPart, e_intOf, slD, lstAt_of hk]
    rw [cutD_take (by rw [List.length_map]; omega), ← List.map_take]
  have q2 := ev_comp (f := dWk (dSl slD fa dNoPart (dPart fb))) (tg := gN 0) (ti := dTest (dOp eqD (dOp ixD (dVar 0) (dC (.int 0))) (dC (.int 1)))) (fe := dVar 0) (own := 1) (caps := [])
    (r := r) (S := S) (w := ⟨(ps.take b).map pcD, some (S.length, (ps.take b).map pcD)⟩) (fun x => match x with
      | .tup (.int f :: _) => decide (f = 1)
      | _ => false) id (wk_of w1 (push_at rfl)) (push_at rfl) (by rw [List.length_map, List.length_take]; omega) (by
      intro x hx
      obtain ⟨y, _, rfl⟩ := List.mem_map.mp hx
      refine ⟨[some (pcD y)], rfl, fun zs => ?_, fun _ zs => rfl⟩
      refine ev_test (ev_op (x := .int y.1) (ev_op rfl rfl rfl) rfl ?_)
      rw [e_eq_int]
      rfl)
  rw [List.map_id] at q2
  have hl : (((ps.take b).map pcD).filter (fun x => match x with
      | .tup (.int f :: _) => decide (f = 1)
      | _ => false)).length = lasts (ps.take b) := by
    rw [List.filter_map, List.length_map]
    rfl
  refine ⟨[.lst ((ps.take b).map pcD)] ++ [.lst (((ps.take b).map pcD).filter (fun x => match x with
      | .tup (.int f :: _) => decide (f = 1)
      | _ => false))], ?_⟩
  rw [ev_call (ev_cons q2 ev_nil) (e_len_ob (push_at rfl)), hl, List.append_assoc]
@[reducible] def r9 (x0 : D) (n w kl kr : Nat) (c su : Nat) (kf : Nat) (c8 c9 c10 c11 : Option D) : DSt := [some x0, some (.ob n), some (.int (w : Int)), some (.ob kl), some (.ob kr), some (.int (c : Int)), some (.int (su : Int)), some (.ob kf), c8, c9, c10, c11]
theorem left_loop (ns : List Int) {w kl kr c su : Nat} {c8 c9 c10 c11 : Option D} {ms : List Msg} (h40 : ∀ x, x ∈ ms → x.length ≤ 40) (hl : ms.length ≤ 1000) {kk kf : Nat} (a : SrAt G S n m p q s) (hk : S[kk]? = some (.lst (ms.map msgD))) (hr : S[kf]? = some (.lst [])) (ho : Off kf n m p q) :
    ∃ S' x8 kf', sTurns (some (kk, ms.map msgD)) (gN 8) (bd_law_1 G) (ms.map msgD) (r9 (.rol (ns.map D.int)) n w kl kr c su kf c8 c9 c10 c11) S = some (.nx (r9 (.rol (ns.map D.int)) n w kl kr c su kf' x8 c9 c10 c11), S') ∧ SrTo G n m p q S p q S' s ∧ S'[kf']? = some (.lst ((fl (mOf ns) ms).map pcD)) ∧ Off kf' n m p q := by
  obtain ⟨r', S', e, x8, kf', rfl, a', k', r'', o'⟩ := sTurns_inv (g := some (kk, ms.map msgD)) (tg := gN 8) (b := bd_law_1 G)
    (fun i r S' => ∃ x8 kf', r = r9 (.rol (ns.map D.int)) n w kl kr c su kf' x8 c9 c10 c11 ∧ SrTo G n m p q S p q S' s ∧ S'[kk]? = some (.lst (ms.map msgD)) ∧ S'[kf']? = some (.lst ((fl (mOf ns) (ms.take i)).map pcD)) ∧ Off kf' n m p q) (ms.map msgD) 0 (r9 (.rol (ns.map D.int)) n w kl kr c su kf c8 c9 c10 c11) S
    (by
      rintro i y r S' hy ⟨x8, kf', rfl, a', k', r', o'⟩
      rw [List.getElem?_map] at hy
      cases hx : ms[i]? with
      | none => rw [hx] at hy; cases hy
      | some x =>
        rw [hx] at hy
        cases hy
        rw [Nat.zero_add] at r' ⊢
        have hxm := List.mem_of_getElem? hx
        have l3 := h40 x hxm
        have l1 := fl_len (mOf_pos ns) (ms := ms.take i) fun y hy => h40 y (List.mem_of_mem_take hy)
        have l2 := cutP_len (mOf_pos ns) x
        rw [List.length_take] at l1
        have q1 := lpieces_eq (mOf_pos ns) (Nat.le_trans (mOf_le ns) (by decide)) l3 S'
        have q2 := e_add_obs (push_old (G := [.lst ((cutP (mOf ns) x).map pcD)]) r') (push_at rfl) (by rw [List.length_append, List.length_map, List.length_map]; omega)
        rw [← List.map_append, ← flt_succ hx] at q2
        have q3 : dOp ixD (dCall F__law_setting (dCons (dVar 0) dNil)) (dC (.int 1)) (r9 (.rol (ns.map D.int)) n w kl kr c su kf' (some (msgD x)) c9 c10 c11) S' = .ok (.int (mOf ns : Int)) S' := ev_op (ev_call (ev_cons rfl ev_nil) (setting_eq ns S')) rfl rfl
        refine ⟨r9 (.rol (ns.map D.int)) n w kl kr c su kf' (some (msgD x)) c9 c10 c11, r9 (.rol (ns.map D.int)) n w kl kr c su (S' ++ [Cell.lst ((cutP (mOf ns) x).map pcD)]).length (some (msgD x)) c9 c10 c11, _, rfl, go_asg (ev_op rfl (ev_call (ev_cons rfl (ev_cons q3 ev_nil)) q1) q2), push_old (push_old k'), _, _, rfl, (a'.push _).push _, push_old (push_old k'), push_at rfl, ?_⟩
        exact off_new (a'.at_.push _) (Nat.le_refl _))
    ⟨c8, kf, rfl, SrTo.refl a, hk, by rw [List.take_zero]; exact hr, ho⟩
  rw [show 0 + (ms.map msgD).length = ms.length by simp, List.take_length] at r''
  exact ⟨S', x8, kf', e, a', r'', o'⟩
theorem due_loop {x0 : D} {w kl kr c su kf : Nat} {c8 c11 : Option D} {P : List Pc} {i : Nat} (hw : 0 < w) (hi : i ≤ P.length) (hP : P.length ≤ 100000) (hk : S[kf]? = some (.lst (P.map pcD))) :
    ∃ x11, sFor (dRng2 (dVar 9) (dCall minD (dCons (dCall lenD (dCons (dVar 7) dNil)) (dCons (dOp addD (dVar 9) (dVar 2)) dNil)))) (gN 11) (bd_law_2 G) (r9 x0 n w kl kr c su kf c8 (some (.int (i : Int))) (some (.ob S.length)) c11) (S ++ [.lst []]) =
      some (.nx (r9 x0 n w kl kr c su kf c8 (some (.int (i : Int))) (some (.ob S.length)) x11), S ++ [.lst (((List.range (min (i + w) P.length - i)).map fun t => Card.data 2 ((i + t) % (2 * w)) (P.getD (i + t) (0, []))).map cardD)]) := by
  obtain ⟨hi', hhi⟩ : ∃ hi', min (i + w) P.length = hi' := ⟨_, rfl⟩
  rw [hhi]
  have w1 : dRng2 (dVar 9) (dCall minD (dCons (dCall lenD (dCons (dVar 7) dNil)) (dCons (dOp addD (dVar 9) (dVar 2)) dNil))) (r9 x0 n w kl kr c su kf c8 (some (.int (i : Int))) (some (.ob S.length)) c11) (S ++ [.lst []]) = .ok ⟨rngD (i : Int) 1 (hi' - i), none⟩ (S ++ [.lst []]) := by
    have g : dCall minD (dCons (dCall lenD (dCons (dVar 7) dNil)) (dCons (dOp addD (dVar 9) (dVar 2)) dNil)) (r9 x0 n w kl kr c su kf c8 (some (.int (i : Int))) (some (.ob S.length)) c11) (S ++ [.lst []]) = .ok (.int (hi' : Int)) (S ++ [.lst []]) := by
      refine ev_call (ev_cons (ev_call (ev_cons rfl ev_nil) (e_len_ob (push_old hk))) (ev_cons (ev_op rfl rfl (e_add_int _ _)) ev_nil)) ?_
      rw [e_min, List.length_map]
      congr 2
      omega
    unfold dRng2
    rw [e_bind]
    simp only [e_dVar, List.getElem?_cons_succ, List.getElem?_cons_zero]
    rw [e_bind, g]
    rcases rng2_eq (lo := i) (hi := hi') (by omega) (S ++ [.lst []]) with h | h
    · exact h
    · omega
  have hset : ∀ a c : Cell, (S ++ [a]).set S.length c = S ++ [c] := fun a c => by rw [List.set_append_right _ _ (Nat.le_refl _)]; simp
  obtain ⟨r', S', e, x11, rfl, rfl⟩ := sTurns_inv (g := none) (tg := gN 11) (b := bd_law_2 G)
    (fun t r S' => ∃ x11, r = r9 x0 n w kl kr c su kf c8 (some (.int (i : Int))) (some (.ob S.length)) x11 ∧ S' = S ++ [.lst (((List.range t).map fun t => Card.data 2 ((i + t) % (2 * w)) (P.getD (i + t) (0, []))).map cardD)]) (rngD (i : Int) 1 (hi' - i)) 0 (r9 x0 n w kl kr c su kf c8 (some (.int (i : Int))) (some (.ob S.length)) c11) (S ++ [.lst []])
    (by
      rintro t y r S' hy ⟨x11, rfl, rfl⟩
      have hil := (List.getElem?_eq_some_iff.mp hy).1
      have hil' : t < hi' - i := by simpa [rngD] using hil
      have hyy := rngD_get hy
      rw [show (i : Int) + (t : Int) * 1 = ((i + t : Nat) : Int) by omega] at hyy
      subst hyy
      rw [Nat.zero_add]
      obtain ⟨zs, hzs⟩ : ∃ zs, ((List.range t).map fun t => Card.data 2 ((i + t) % (2 * w)) (P.getD (i + t) (0, []))).map cardD = zs := ⟨_, rfl⟩
      have hzl : zs.length = t := by rw [← hzs]; simp
      rw [hzs]
      have hx : P[i + t]? = some (P.getD (i + t) (0, [])) := by simp [List.getD, show i + t < P.length by omega]
      have v1 : ixD (.ob kf) (.int ((i + t : Nat) : Int)) (S ++ [.lst zs]) = .ok (pcD (P.getD (i + t) (0, []))) (S ++ [.lst zs]) := e_ix_ob (push_old hk) (by rw [List.getElem?_map, hx]; rfl)
      have v2 : modD (.int ((i + t : Nat) : Int)) (.int (2 * (w : Int))) (S ++ [.lst zs]) = .ok (.int (((i + t) % (2 * w) : Nat) : Int)) (S ++ [.lst zs]) := by
        rw [e_mod_int (by omega)]
        rfl
      have ee := e_app (S := S ++ [.lst zs]) (n := S.length) (d := cardD (.data 2 ((i + t) % (2 * w)) (P.getD (i + t) (0, [])))) (push_at rfl) (by omega)
      rw [hset] at ee
      refine ⟨r9 x0 n w kl kr c su kf c8 (some (.int (i : Int))) (some (.ob S.length)) (some (.int ((i + t : Nat) : Int))), r9 x0 n w kl kr c su kf c8 (some (.int (i : Int))) (some (.ob S.length)) (some (.int ((i + t : Nat) : Int))), S ++ [.lst (zs ++ [cardD (.data 2 ((i + t) % (2 * w)) (P.getD (i + t) (0, [])))])], rfl, ?_, trivial, _, rfl, ?_⟩
      · unfold bd_law_2
        exact go_drop (d := .non) (ev_bm rfl (push_at rfl) (ev_cons (ev_tup (ev_cons rfl (ev_cons rfl (ev_cons (ev_op rfl (ev_op rfl rfl (e_mul2 _)) v2) (ev_cons (ev_op rfl rfl v1) ev_nil)))) (by simp)) ev_nil) ee)
      · rw [List.range_succ, List.map_append, List.map_append, hzs]
        rfl)
    ⟨c11, rfl, by simp⟩
  rw [show 0 + (rngD (i : Int) 1 (hi' - i)).length = hi' - i by simp [rngD]] at e
  rw [go_for w1]
  exact ⟨x11, e⟩
theorem tick9 {w mo : Nat} {ms : List Msg} {su : Nat} {P : List Pc} {i : Nat} : (St9 w mo ms su 2 P i).tick = (List.range (min (i + w) P.length - i)).map fun t => Card.data 2 ((i + t) % (2 * w)) (P.getD (i + t) (0, [])) := by
  show (((List.range' i (min (i + w) P.length - i)).filter fun j => decide (j ∉ ([] : List Nat))).map (St9 w mo ms su 2 P i).dataOf) = _
  rw [List.filter_eq_self.mpr (by simp), List.range'_eq_map_range, List.map_map]
  rfl
end
end Lw
namespace Lw
open PySem L2 DL
section
variable {G : Cs} {S S' S1 S2 : List Cell} {n m p q p1 q1 p2 q2 p' q' : Nat} {s s' s1 s2 : Sr} {N : Nat}
def L9 (G : Cs) (x0 : D) (n w mo : Nat) (ms : List Msg) (kl kr c su kf : Nat) (P : List Pc) (j : Nat) (r : DSt) (S : List Cell) : Prop := ∃ m p q c8 c9 c10 c11, r = r9 x0 n w kl kr c su kf c8 c9 c10 c11 ∧ SrAt G S n m p q (St9 w mo ms su 2 P (min j P.length)) ∧ S[kf]? = some (.lst (P.map pcD)) ∧ Off kf n m p q ∧ S[kl]? = some (.lst (ms.map msgD)) ∧ Off kl n m p q
theorem turn9 {x0 : D} {w mo kl kr c su kf : Nat} {ms : List Msg} {P : List Pc} {j : Nat} {r : DSt} (hw : 0 < w) (hw7 : w ≤ 7) (hb : ∀ i, Sb N (St9 w mo ms su 2 P i)) (hN : N ≤ 1000) (hj : j ≤ P.length) (hi : L9 G x0 n w mo ms kl kr c su kf P j r S) : ∃ r2 S2, bd_law_3 G (r.set 9 (some (.int (j : Int)))) S = some (.nx r2, S2) ∧ L9 G x0 n w mo ms kl kr c su kf P (j + 1) r2 S2 := by
  obtain ⟨m, p, q, c8, c9, c10, c11, rfl, a, hk, ok, hl, ol⟩ := hi
  rw [Nat.min_eq_left hj] at a
  have hpl' : P.length ≤ 41 * N := (hb 0).pl
  show ∃ r2 S2, bd_law_3 G (r9 x0 n w kl kr c su kf c8 (some (.int (j : Int))) c10 c11) S = _ ∧ _
  unfold bd_law_3
  rw [go_seq (go_asg (ev_lst ev_nil (by decide)))]
  show ∃ r2 S2, sSeq _ _ (r9 x0 n w kl kr c su kf c8 (some (.int (j : Int))) (some (.ob S.length)) c11) (S ++ [.lst []]) = _ ∧ _
  obtain ⟨x11, e1⟩ := due_loop (G := G) (n := n) (x0 := x0) (kl := kl) (kr := kr) (c := c) (su := su) (c8 := c8) (c11 := c11) hw hj (by omega) hk
  rw [go_seq e1, ← tick9 (mo := mo) (ms := ms) (su := su)]
  have k1 := (SrTo.refl a).push [.lst ((St9 w mo ms su 2 P j).tick.map cardD)]
  have hd1 : (S ++ [Cell.lst ((St9 w mo ms su 2 P j).tick.map cardD)])[S.length]? = some (.lst ((St9 w mo ms su 2 P j).tick.map cardD)) := push_at rfl
  have od1 : Off S.length n m p q := off_new a (Nat.le_refl _)
  obtain ⟨S1, hS1⟩ : ∃ S1, S ++ [Cell.lst ((St9 w mo ms su 2 P j).tick.map cardD)] = S1 := ⟨_, rfl⟩
  rw [hS1] at k1 hd1 ⊢
  obtain ⟨S2, l, q2, k2, hl2, _⟩ := sr_tick k1.at_ hw (by show P.length ≤ _; omega) fun _ => (show j ≤ P.length from hj)
  obtain ⟨hd2, _⟩ := k2.keep hd1 od1
  have k12 := k1.trans k2
  obtain ⟨hk2, ok2⟩ := k12.keep hk ok
  obtain ⟨hl2', ol2⟩ := k12.keep hl ol
  have t1 : dTest (dOp neD (dMeth G.Sender ns_Sender (F_Sender_tick G) (dVar 1) dNil) (dVar 10)) (r9 x0 n w kl kr c su kf c8 (some (.int (j : Int))) (some (.ob S.length)) x11) S1 = .ok false S2 :=
    ev_test (ev_op (ev_meth rfl k1.at_.ob ev_nil q2) rfl (ne_lists hl2 hd2 (pDs_cards _ _)))
  rw [go_seq (by rw [go_ifF t1]; rfl)]
  have t2 : dTest (dOp ltD (dVar 9) (dCall lenD (dCons (dVar 7) dNil))) (r9 x0 n w kl kr c su kf c8 (some (.int (j : Int))) (some (.ob S.length)) x11) S2 = .ok (decide (j < P.length)) S2 := by
    refine ev_test (ev_op rfl (ev_call (ev_cons rfl ev_nil) (e_len_ob hk2)) ?_)
    rw [e_lt, List.length_map]
    congr 2
    rw [decide_eq_decide]
    omega
  by_cases hc : j < P.length
  · rw [decide_eq_true hc] at t2
    obtain ⟨S3, p3, q3, l3, e3, k3, _, _⟩ := sr_hears k2.at_ (hb j) (by omega) hw (c := .note 2 ((j + 1) % (2 * w)) (List.replicate w 0)) (by show (List.replicate w (0 : Int)).length ≤ 7; rw [List.length_replicate]; exact hw7)
    rw [st9_step hw (by omega)] at k3
    have v1 : dOp addD (dVar 9) (dC (.int 1)) (r9 x0 n w kl kr c su kf c8 (some (.int (j : Int))) (some (.ob S.length)) x11) S2 = .ok (.int ((j + 1 : Nat) : Int)) S2 := ev_op rfl rfl (by rw [e_add_int]; congr 2)
    have v2 : modD (.int ((j + 1 : Nat) : Int)) (.int (2 * (w : Int))) S2 = .ok (.int (((j + 1) % (2 * w) : Nat) : Int)) S2 := by
      rw [e_mod_int (by omega)]
      rfl
    obtain ⟨hk3, ok3⟩ := k3.keep hk2 ok2
    obtain ⟨hl3, ol3⟩ := k3.keep hl2' ol2
    rw [go_ifT t2, go_drop (ev_meth rfl k2.at_.ob (ev_cons (ev_tup (ev_cons rfl (ev_cons rfl (ev_cons (ev_op v1 (ev_op rfl rfl (e_mul2 _)) v2) (ev_cons (ev_op (ev_tup (ev_cons rfl ev_nil) (by simp)) rfl (zeros_eq hw hw7 S2)) ev_nil)))) (by simp)) ev_nil) e3)]
    exact ⟨_, S3, rfl, m, p3, q3, _, _, _, _, rfl, by rw [Nat.min_eq_left (show j + 1 ≤ P.length by omega)]; exact k3.at_, hk3, ok3, hl3, ol3⟩
  · rw [decide_eq_false hc] at t2
    rw [go_ifF t2]
    exact ⟨_, S2, rfl, m, p, q, _, _, _, _, rfl, by rw [Nat.min_eq_right (show P.length ≤ j + 1 by omega), show P.length = j by omega]; exact k2.at_, hk2, ok2, hl2', ol2⟩
theorem go_asg4 {fe : DSt → M D} {r : DSt} {S S1 : List Cell} {x y z v : D} {i j k l : Nat} (h : fe r S = .ok (.tup [x, y, z, v]) S1) : sAsg fe (gT [i, j, k, l]) r S = some (.nx ((((r.set i (some x)).set j (some y)).set k (some z)).set l (some v)), S1) := by
  unfold sAsg
  rw [e_sBind, h]
  rfl
theorem law_true (G : Cs) : ∀ ns : List Int, ns.length ≤ 63 → ∃ S', F_law G [.rol (ns.map D.int)] [] = .ok (.bl true) S' := by
  intro ns _
  show ∃ S', fin [] (cd_law G [some (.rol (ns.map D.int)), none, none, none, none, none, none, none, none, none, none, none] []) = _
  unfold cd_law
  obtain ⟨many, hmany⟩ : ∃ many : Nat, 1 + cv ns 20 % 6 = (many : Int) := ⟨(1 + cv ns 20 % 6).toNat, by omega⟩
  have hm6 : many ≤ 6 := by omega
  have e0 : dOp addD (dC (.int 1)) (dOp modD (dCall F__law_cell (dCons (dVar 0) (dCons (dC (.int 20)) dNil))) (dC (.int 6))) [some (.rol (ns.map D.int)), none, none, none, none, none, none, none, none, none, none, none] [] = .ok (.int (many : Int)) [] := by
    refine ev_op rfl (ev_op (ev_call (ev_cons rfl (ev_cons rfl ev_nil)) (cell_eq (k := 20) [])) rfl (e_mod_int (by decide))) ?_
    rw [e_add_int, hmany]
  obtain ⟨S1, n, m, p, q, kl, kr, e1, a1, b1, hl1, ol1, hk1, ok1⟩ := opened_eq (G := G) ns (many := many) (by omega)
  rw [go_seq (go_asg4 (ev_call (ev_cons rfl (ev_cons e0 ev_nil)) e1))]
  show ∃ S', fin [] (sSeq _ _ [some (.rol (ns.map D.int)), some (.ob n), some (.int (wOf ns : Int)), some (.ob kl), some (.ob kr), none, none, none, none, none, none, none] S1) = _
  obtain ⟨ms, hms⟩ : ∃ ms, msgsOf ns many = ms := ⟨_, rfl⟩
  obtain ⟨R, hR⟩ : ∃ R, fl (mOf ns) ms = R := ⟨_, rfl⟩
  rw [hms] at hl1 hk1
  rw [hR] at hk1
  have h40 : ∀ x, x ∈ ms → x.length ≤ 40 := by rw [← hms]; exact msgsOf_40 ns many
  have hml : ms.length = many := by rw [← hms]; simp [msgsOf]
  have hRl : R.length ≤ 41 * many := by
    have := fl_len (mOf_pos ns) h40
    rw [hR, hml] at this
    exact this
  have hfgR : ∀ x, x ∈ R → x.1 = 0 ∨ x.1 = 1 := by rw [← hR]; exact fl_flags _ _
  have hop : opS ns many = St9 (wOf ns) (mOf ns) ms 0 1 R 0 := by
    unfold opS St9
    rw [hms, hR]
    rfl
  rw [hop] at a1
  have hw := wOf_pos ns
  have hw7 := wOf_le ns
  have hb1 : ∀ i, Sb many (St9 (wOf ns) (mOf ns) ms 0 1 R i) := sb9 (mOf_pos ns) (by omega) h40 hRl hfgR
  obtain ⟨c, hc⟩ : ∃ c : Nat, cv ns 21 % ((R.length : Int) + 1) = (c : Int) := ⟨(cv ns 21 % ((R.length : Int) + 1)).toNat, by have := Int.emod_nonneg (cv ns 21) (show (R.length : Int) + 1 ≠ 0 by omega); omega⟩
  have hcl : c ≤ R.length := by have := Int.emod_lt_of_pos (cv ns 21) (show (0 : Int) < (R.length : Int) + 1 by omega); omega
  have e2 : dOp modD (dCall F__law_cell (dCons (dVar 0) (dCons (dC (.int 21)) dNil))) (dOp addD (dCall lenD (dCons (dVar 4) dNil)) (dC (.int 1))) [some (.rol (ns.map D.int)), some (.ob n), some (.int (wOf ns : Int)), some (.ob kl), some (.ob kr), none, none, none, none, none, none, none] S1 = .ok (.int (c : Int)) S1 := by
    refine ev_op (ev_call (ev_cons rfl (ev_cons rfl ev_nil)) (cell_eq (k := 21) S1)) (ev_op (ev_call (ev_cons rfl ev_nil) (e_len_ob hk1)) rfl (e_add_int _ _)) ?_
    rw [List.length_map, e_mod_int (by omega), hc]
  rw [go_seq (go_asg e2)]
  show ∃ S', fin [] (sSeq _ _ [some (.rol (ns.map D.int)), some (.ob n), some (.int (wOf ns : Int)), some (.ob kl), some (.ob kr), some (.int (c : Int)), none, none, none, none, none, none] S1) = _
  obtain ⟨S2, p2, q2, e3, k2⟩ := noted_eq hw hw7 hb1 (by omega) hcl a1
  rw [go_seq (go_drop (ev_call (ev_cons rfl (ev_cons rfl (ev_cons rfl (ev_cons rfl ev_nil)))) e3))]
  obtain ⟨hk2, ok2⟩ := k2.keep hk1 ok1
  obtain ⟨hl2, ol2⟩ := k2.keep hl1 ol1
  obtain ⟨T, e4⟩ := lasts_ev (S := S2) (fa := dVar 4) (fb := dVar 5) (r := [some (.rol (ns.map D.int)), some (.ob n), some (.int (wOf ns : Int)), some (.ob kl), some (.ob kr), some (.int (c : Int)), none, none, none, none, none, none]) rfl rfl hk2 hcl (by omega)
  obtain ⟨su, hsu⟩ : ∃ su, lasts (R.take c) = su := ⟨_, rfl⟩
  rw [hsu] at e4
  rw [go_seq (go_asg e4)]
  show ∃ S', fin [] (sSeq _ _ [some (.rol (ns.map D.int)), some (.ob n), some (.int (wOf ns : Int)), some (.ob kl), some (.ob kr), some (.int (c : Int)), some (.int (su : Int)), none, none, none, none, none] (S2 ++ T)) = _
  have hsul : su ≤ ms.length := by rw [← hsu, ← hR]; exact lasts_le_fl _ _ _
  have k3 := k2.push T
  have hl3 := push_old (G := T) hl2
  obtain ⟨S3, hS3⟩ : ∃ S3, S2 ++ T = S3 := ⟨_, rfl⟩
  rw [hS3] at k3 hl3 ⊢
  obtain ⟨sA, hsA⟩ : ∃ sA : Sr, St9 (wOf ns) (mOf ns) ms 0 1 R c = sA := ⟨_, rfl⟩
  have hA : sA = ⟨wOf ns, mOf ns, ms, su, 1, .opened, R, c, []⟩ := by
    rw [← hsA]
    unfold St9
    rw [hsu, Nat.zero_add]
  have bA : Sb many sA := by rw [← hsA]; exact hb1 c
  rw [hsA] at k3
  have rg : DSt := [some (.rol (ns.map D.int)), some (.ob n), some (.int (wOf ns : Int)), some (.ob kl), some (.ob kr), some (.int (c : Int)), some (.int (su : Int)), none, none, none, none, none]
  have f3 : dFld G.Sender ns_Sender 3 (dVar 1) [some (.rol (ns.map D.int)), some (.ob n), some (.int (wOf ns : Int)), some (.ob kl), some (.ob kr), some (.int (c : Int)), some (.int (su : Int)), none, none, none, none, none] S3 = .ok (.int (su : Int)) S3 := by
    have := k3.at_.ob
    rw [hA] at this
    exact ev_fld rfl this rfl
  have f7 : dFld G.Sender ns_Sender 7 (dVar 1) [some (.rol (ns.map D.int)), some (.ob n), some (.int (wOf ns : Int)), some (.ob kl), some (.ob kr), some (.int (c : Int)), some (.int (su : Int)), none, none, none, none, none] S3 = .ok (.int (c : Int)) S3 := by
    have := k3.at_.ob
    rw [hA] at this
    exact ev_fld rfl this rfl
  have t1 : dOr (dTest (dOp neD (dFld G.Sender ns_Sender 3 (dVar 1)) (dVar 6))) (dTest (dOp neD (dFld G.Sender ns_Sender 7 (dVar 1)) (dVar 5))) [some (.rol (ns.map D.int)), some (.ob n), some (.int (wOf ns : Int)), some (.ob kl), some (.ob kr), some (.int (c : Int)), some (.int (su : Int)), none, none, none, none, none] S3 = .ok false S3 := by
    have u1 : dTest (dOp neD (dFld G.Sender ns_Sender 3 (dVar 1)) (dVar 6)) [some (.rol (ns.map D.int)), some (.ob n), some (.int (wOf ns : Int)), some (.ob kl), some (.ob kr), some (.int (c : Int)), some (.int (su : Int)), none, none, none, none, none] S3 = .ok false S3 := by
      refine ev_test (ev_op f3 rfl ?_)
      rw [e_ne_int]
      simp
    have u2 : dTest (dOp neD (dFld G.Sender ns_Sender 7 (dVar 1)) (dVar 5)) [some (.rol (ns.map D.int)), some (.ob n), some (.int (wOf ns : Int)), some (.ob kl), some (.ob kr), some (.int (c : Int)), some (.int (su : Int)), none, none, none, none, none] S3 = .ok false S3 := by
      refine ev_test (ev_op f7 rfl ?_)
      rw [e_ne_int]
      simp
    rw [e_dOr, e_bind, u1]
    exact u2
  rw [go_seq (by rw [go_ifF t1]; rfl)]
  obtain ⟨Q, hQ⟩ : ∃ Q, fl (mOf ns) (ms.drop su) = Q := ⟨_, rfl⟩
  have hQl : Q.length ≤ 41 * many := by
    have := fl_len (mOf_pos ns) (ms := ms.drop su) fun x hx => h40 x (List.mem_of_mem_drop hx)
    rw [hQ, List.length_drop] at this
    omega
  have hfgQ : ∀ x, x ∈ Q → x.1 = 0 ∨ x.1 = 1 := by rw [← hQ]; exact fl_flags _ _
  have hanew : sA.anew = ⟨wOf ns, mOf ns, ms, su, 2, .opening, Q, 0, []⟩ := by
    rw [hA, ← hQ]
    rfl
  have mid : ∃ S4 p4 q4, sIf (dTest (dOp eqD (dOp modD (dCall F__law_cell (dCons (dVar 0) (dCons (dC (.int 22)) dNil))) (dC (.int 2))) (dC (.int 0)))) (sDrop (dMeth G.Sender ns_Sender (F_Sender_hears G) (dVar 1) (dCons (dTup (dCons (dC (.str "who")) (dCons (dC (.int 1)) dNil))) dNil))) (sSeq (sDrop (dMeth G.Sender ns_Sender (F_Sender_fall G) (dVar 1) dNil)) (sDrop (dMeth G.Sender ns_Sender (F_Sender_start G) (dVar 1) dNil))) [some (.rol (ns.map D.int)), some (.ob n), some (.int (wOf ns : Int)), some (.ob kl), some (.ob kr), some (.int (c : Int)), some (.int (su : Int)), none, none, none, none, none] S3 = some (.nx [some (.rol (ns.map D.int)), some (.ob n), some (.int (wOf ns : Int)), some (.ob kl), some (.ob kr), some (.int (c : Int)), some (.int (su : Int)), none, none, none, none, none], S4) ∧ SrTo G n m p2 q2 S3 p4 q4 S4 sA.anew := by
    have u1 : dTest (dOp eqD (dOp modD (dCall F__law_cell (dCons (dVar 0) (dCons (dC (.int 22)) dNil))) (dC (.int 2))) (dC (.int 0))) [some (.rol (ns.map D.int)), some (.ob n), some (.int (wOf ns : Int)), some (.ob kl), some (.ob kr), some (.int (c : Int)), some (.int (su : Int)), none, none, none, none, none] S3 = .ok (decide (cv ns 22 % 2 = 0)) S3 :=
      ev_test (ev_op (ev_op (ev_call (ev_cons rfl (ev_cons rfl ev_nil)) (cell_eq (k := 22) S3)) rfl (e_mod_int (by decide))) rfl (e_eq_int _ _))
    by_cases h2 : cv ns 22 % 2 = 0
    · rw [decide_eq_true h2] at u1
      obtain ⟨S4, p4, q4, l4, e5, k4, _, _⟩ := sr_hears k3.at_ bA (by omega) (by rw [hA]; exact hw) (c := .who 1) trivial
      have hh : sA.hears (.who 1) = sA.anew := by unfold Sr.hears; exact if_pos ⟨by rw [hA], by rw [hA]⟩
      rw [hh] at k4
      refine ⟨S4, p4, q4, ?_, k4⟩
      rw [go_ifT u1]
      exact go_drop (ev_meth rfl k3.at_.ob (ev_cons (ev_tup (ev_cons rfl (ev_cons rfl ev_nil)) (by simp)) ev_nil) e5)
    · rw [decide_eq_false h2] at u1
      obtain ⟨S4, e5, k4⟩ := sr_fall k3.at_
      obtain ⟨S5, p5, q5, e6, k5⟩ := sr_start k4.at_ bA.fall (by omega)
      have hh : sA.fall.start = sA.anew := by
        unfold Sr.start
        rw [if_pos (show sA.fall.st = .shut from rfl)]
        rfl
      rw [hh] at k5
      refine ⟨S5, p5, q5, ?_, k4.trans k5⟩
      rw [go_ifF u1, go_seq (go_drop (ev_meth rfl k3.at_.ob ev_nil e5))]
      exact go_drop (ev_meth rfl k4.at_.ob ev_nil e6)
  obtain ⟨S4, p4, q4, e5, k4⟩ := mid
  have ol3 : Off kl n m p2 q2 := ol2
  obtain ⟨hl4, ol4⟩ := k4.keep hl3 ol3
  rw [go_seq e5]
  have bB : Sb many sA.anew := bA.anew
  rw [hanew] at k4 bB
  obtain ⟨sB, hsB⟩ : ∃ sB : Sr, (⟨wOf ns, mOf ns, ms, su, 2, .opening, Q, 0, []⟩ : Sr) = sB := ⟨_, rfl⟩
  rw [hsB] at k4 bB
  obtain ⟨S5, l5, q5, k5, hl5', _⟩ := sr_tick k4.at_ (by rw [← hsB]; exact hw) (by rw [← hsB]; show Q.length ≤ _; omega) (fun z => by rw [← hsB] at z; cases z)
  obtain ⟨hl5, ol5⟩ := k5.keep hl4 ol4
  have htk : sB.tick = [.hello 2] := by rw [← hsB]; rfl
  rw [htk] at hl5'
  have g4 : dFld G.Sender ns_Sender 4 (dVar 1) [some (.rol (ns.map D.int)), some (.ob n), some (.int (wOf ns : Int)), some (.ob kl), some (.ob kr), some (.int (c : Int)), some (.int (su : Int)), none, none, none, none, none] S4 = .ok (.int 2) S4 := by
    have := k4.at_.ob
    rw [← hsB] at this
    exact ev_fld rfl this rfl
  have g7 : dFld G.Sender ns_Sender 7 (dVar 1) [some (.rol (ns.map D.int)), some (.ob n), some (.int (wOf ns : Int)), some (.ob kl), some (.ob kr), some (.int (c : Int)), some (.int (su : Int)), none, none, none, none, none] S4 = .ok (.int 0) S4 := by
    have := k4.at_.ob
    rw [← hsB] at this
    exact ev_fld rfl this rfl
  have g3 : dFld G.Sender ns_Sender 3 (dVar 1) [some (.rol (ns.map D.int)), some (.ob n), some (.int (wOf ns : Int)), some (.ob kl), some (.ob kr), some (.int (c : Int)), some (.int (su : Int)), none, none, none, none, none] S4 = .ok (.int (su : Int)) S4 := by
    have := k4.at_.ob
    rw [← hsB] at this
    exact ev_fld rfl this rfl
  have t2 : dOr (dTest (dOp neD (dFld G.Sender ns_Sender 4 (dVar 1)) (dC (.int 2)))) (dOr (dTest (dOp neD (dFld G.Sender ns_Sender 7 (dVar 1)) (dC (.int 0)))) (dOr (dTest (dOp neD (dFld G.Sender ns_Sender 3 (dVar 1)) (dVar 6))) (dTest (dOp neD (dMeth G.Sender ns_Sender (F_Sender_tick G) (dVar 1) dNil) (dLst (dCons (dTup (dCons (dC (.str "hello")) (dCons (dC (.int 2)) dNil))) dNil)))))) [some (.rol (ns.map D.int)), some (.ob n), some (.int (wOf ns : Int)), some (.ob kl), some (.ob kr), some (.int (c : Int)), some (.int (su : Int)), none, none, none, none, none] S4 = .ok false (S5 ++ [.lst ([Card.hello 2].map cardD)]) := by
    have u1 := ev_test (ev_op g4 (fb := dC (.int 2)) rfl (e_ne_int (S := S4) 2 2))
    have u2 := ev_test (ev_op g7 (fb := dC (.int 0)) rfl (e_ne_int (S := S4) 0 0))
    have u3 := ev_test (ev_op g3 (fb := dVar 6) (y := .int (su : Int)) rfl (e_ne_int (S := S4) (su : Int) (su : Int)))
    rw [e_dOr, e_bind, u1]
    show dOr _ _ _ S4 = _
    rw [e_dOr, e_bind, u2]
    show dOr _ _ _ S4 = _
    rw [e_dOr, e_bind, u3]
    simp only [decide_true, Bool.not_true, Bool.false_eq_true, if_false]
    exact ev_test (ev_op (ev_meth rfl k4.at_.ob ev_nil q5) (ev_lst (ev_cons (ev_tup (ev_cons rfl (ev_cons rfl ev_nil)) (by simp)) ev_nil) (by simp)) (ne_lists (push_old hl5') (push_at rfl) (pDs_cards _ [.hello 2])))
  rw [go_seq (by rw [go_ifF t2]; rfl)]
  have k6 := k5.push [.lst ([Card.hello 2].map cardD)]
  have hl6 := push_old (G := [.lst ([Card.hello 2].map cardD)]) hl5
  obtain ⟨S6, hS6⟩ : ∃ S6, S5 ++ [Cell.lst ([Card.hello 2].map cardD)] = S6 := ⟨_, rfl⟩
  rw [hS6] at k6 hl6 ⊢
  obtain ⟨S7, p7, q7, l7, e7, k7, _, _⟩ := sr_hears k6.at_ bB (by omega) (by rw [← hsB]; exact hw) (c := .welcome 2) trivial
  have hC : sB.hears (.welcome 2) = St9 (wOf ns) (mOf ns) ms su 2 Q 0 := by
    rw [← hsB]
    rfl
  rw [hC] at k7
  obtain ⟨hl7, ol7⟩ := k7.keep hl6 ol5
  rw [go_seq (go_drop (ev_meth rfl k6.at_.ob (ev_cons (ev_tup (ev_cons rfl (ev_cons rfl ev_nil)) (by simp)) ev_nil) e7)), go_seq (go_asg (ev_lst ev_nil (by decide)))]
  show ∃ S', fin [] (sSeq _ _ (r9 (.rol (ns.map D.int)) n (wOf ns) kl kr c su S7.length none none none none) (S7 ++ [.lst []])) = _
  have hcut : cutD (ms.map msgD) (some (su : Int)) none = (ms.drop su).map msgD := by
    rw [cutD_drop (by rw [List.length_map]; exact hsul), List.map_drop]
  have w8 : dSl slD (dVar 3) (dPart (dVar 6)) dNoPart (r9 (.rol (ns.map D.int)) n (wOf ns) kl kr c su S7.length none none none none) (S7 ++ [.lst []]) = .ok (.ob (S7 ++ [Cell.lst []]).length) ((S7 ++ [.lst []]) ++ [.lst ((ms.drop su).map msgD)]) := by
    simp only [e_dSl, e_dVar, List.getElem?_cons_succ, List.getElem?_cons_zero, e_bind, e_dNoPart, e_ret, e_dPart, e_intOf, slD, lstAt_of (push_old (G := [.lst []]) hl7), hcut]
  have a8 := k7.at_.push [.lst []]
  obtain ⟨S8, x8, kf, e8, k8, hf8, of8⟩ := left_loop (G := G) ns (w := wOf ns) (kl := kl) (kr := kr) (c := c) (su := su) (c8 := none) (c9 := none) (c10 := none) (c11 := none) (ms := ms.drop su) (fun x hx => h40 x (List.mem_of_mem_drop hx)) (by rw [List.length_drop]; omega) (a8.push [.lst ((ms.drop su).map msgD)]) (push_at rfl) (push_old (push_at rfl)) (off_new k7.at_ (Nat.le_refl _))
  rw [hQ] at hf8
  obtain ⟨hl8, ol8⟩ := k8.keep (push_old (push_old hl7)) ol7
  rw [go_seq (by rw [go_for (wk_of w8 (push_at rfl))]; exact e8)]
  have hb2 : ∀ i, Sb many (St9 (wOf ns) (mOf ns) ms su 2 Q i) := sb9 (mOf_pos ns) (by omega) h40 hQl hfgQ
  have w9 : dRng1 (dOp addD (dCall lenD (dCons (dVar 7) dNil)) (dC (.int 1))) (r9 (.rol (ns.map D.int)) n (wOf ns) kl kr c su kf x8 none none none) S8 = .ok ⟨rngD 0 1 (Q.length + 1), none⟩ S8 := by
    have g : dOp addD (dCall lenD (dCons (dVar 7) dNil)) (dC (.int 1)) (r9 (.rol (ns.map D.int)) n (wOf ns) kl kr c su kf x8 none none none) S8 = .ok (.int ((Q.length + 1 : Nat) : Int)) S8 := by
      refine ev_op (ev_call (ev_cons rfl ev_nil) (e_len_ob hf8)) rfl ?_
      rw [e_add_int, List.length_map]
      rfl
    unfold dRng1
    rw [e_bind, g]
    exact wRng_eq (by omega)
  obtain ⟨r', S', e9, hL⟩ := sTurns_inv (g := none) (tg := gN 9) (b := bd_law_3 G) (fun j r S => j ≤ Q.length + 1 → L9 G (.rol (ns.map D.int)) n (wOf ns) (mOf ns) ms kl kr c su kf Q j r S)
    (rngD 0 1 (Q.length + 1)) 0 (r9 (.rol (ns.map D.int)) n (wOf ns) kl kr c su kf x8 none none none) S8
    (by
      intro i x r S hx hi
      have hil := (List.getElem?_eq_some_iff.mp hx).1
      have hil' : i < Q.length + 1 := by simpa [rngD] using hil
      have hyy := rngD_get hx
      rw [show (0 : Int) + (i : Int) * 1 = (i : Int) by omega] at hyy
      subst hyy
      rw [Nat.zero_add] at hi ⊢
      obtain ⟨r2, S2, w1, w3⟩ := turn9 hw hw7 hb2 (by omega) (show i ≤ Q.length by omega) (hi (by omega))
      exact ⟨_, r2, S2, rfl, w1, trivial, fun _ => w3⟩)
    (fun _ => ⟨m, p7, q7, _, _, _, _, rfl, by rw [Nat.zero_min]; exact k8.at_, hf8, of8, hl8, ol8⟩)
  rw [show 0 + (rngD 0 1 (Q.length + 1)).length = Q.length + 1 by simp [rngD]] at hL
  obtain ⟨m', p', q', x8', x9', x10', x11', rfl, a', _, _, hl', _⟩ := hL (Nat.le_refl _)
  rw [Nat.min_eq_right (Nat.le_succ _)] at a'
  refine ⟨S', ?_⟩
  rw [go_seq (by rw [go_for w9]; exact e9)]
  have hfin : su + lasts (Q.take Q.length) = ms.length := by
    rw [List.take_length, ← hQ, fl_lasts, List.length_drop]
    omega
  have o2 : dFld G.Sender ns_Sender 3 (dVar 1) (r9 (.rol (ns.map D.int)) n (wOf ns) kl kr c su kf x8' x9' x10' x11') S' = .ok (.int (ms.length : Int)) S' := by
    have := ev_fld (i := 3) (r := r9 (.rol (ns.map D.int)) n (wOf ns) kl kr c su kf x8' x9' x10' x11') (fo := dVar 1) rfl a'.ob rfl
    rw [this]
    show DL.R.ok (D.int ((su + lasts (Q.take Q.length) : Nat) : Int)) S' = _
    rw [hfin]
  have o3 : dCall lenD (dCons (dVar 3) dNil) (r9 (.rol (ns.map D.int)) n (wOf ns) kl kr c su kf x8' x9' x10' x11') S' = .ok (.int (ms.length : Int)) S' := by
    refine ev_call (ev_cons rfl ev_nil) ?_
    rw [e_len_ob hl', List.length_map]
  rw [go_ret (d := .bl true) (S1 := S') (ev_op o2 o3 (by rw [e_eq_int]; simp))]
  rfl
end
end Lw
namespace Lw
open PySem L2 DL
theorem all_mk {l : PySem.W.OpenLaw} {w : World} {K : PySem.W.Frag} {h : Heap} {mg : Str → Option Value} {fa : Addr} {gSender : Addr} {f0 : Addr} {od0 an0 : Option Addr} {sl0 : Array (Option Value)} {oc0 kV0 dc0 pm0 cd0 ct0 : Value} {f1 : Addr} {od1 an1 : Option Addr} {sl1 : Array (Option Value)} {oc1 kV1 dc1 pm1 cd1 ct1 : Value} {f2 : Addr} {od2 an2 : Option Addr} {sl2 : Array (Option Value)} {oc2 kV2 dc2 pm2 cd2 ct2 : Value} {f3 : Addr} {od3 an3 : Option Addr} {sl3 : Array (Option Value)} {oc3 kV3 dc3 pm3 cd3 ct3 : Value} {f4 : Addr} {od4 an4 : Option Addr} {sl4 : Array (Option Value)} {oc4 kV4 dc4 pm4 cd4 ct4 : Value} {f5 : Addr} {od5 an5 : Option Addr} {sl5 : Array (Option Value)} {oc5 kV5 dc5 pm5 cd5 ct5 : Value} {f6 : Addr} {od6 an6 : Option Addr} {sl6 : Array (Option Value)} {oc6 kV6 dc6 pm6 cd6 ct6 : Value} {f7 : Addr} {od7 an7 : Option Addr} {sl7 : Array (Option Value)} {oc7 kV7 dc7 pm7 cd7 ct7 : Value} {f8 : Addr} {od8 an8 : Option Addr} {sl8 : Array (Option Value)} {oc8 kV8 dc8 pm8 cd8 ct8 : Value} {f9 : Addr} {od9 an9 : Option Addr} {sl9 : Array (Option Value)} {oc9 kV9 dc9 pm9 cd9 ct9 : Value} {f10 : Addr} {od10 an10 : Option Addr} {sl10 : Array (Option Value)} {oc10 kV10 dc10 pm10 cd10 ct10 : Value} {f11 : Addr} {od11 an11 : Option Addr} {sl11 : Array (Option Value)} {oc11 kV11 dc11 pm11 cd11 ct11 : Value} {f12 : Addr} {od12 an12 : Option Addr} {sl12 : Array (Option Value)} {oc12 kV12 dc12 pm12 cd12 ct12 : Value} {f13 : Addr} {od13 an13 : Option Addr} {sl13 : Array (Option Value)} {oc13 kV13 dc13 pm13 cd13 ct13 : Value} {f14 : Addr} {od14 an14 : Option Addr} {sl14 : Array (Option Value)} {oc14 kV14 dc14 pm14 cd14 ct14 : Value} {f15 : Addr} {od15 an15 : Option Addr} {sl15 : Array (Option Value)} {oc15 kV15 dc15 pm15 cd15 ct15 : Value} {f16 : Addr} {od16 an16 : Option Addr} {sl16 : Array (Option Value)} {oc16 kV16 dc16 pm16 cd16 ct16 : Value} {f17 : Addr} {od17 an17 : Option Addr} {sl17 : Array (Option Value)} {oc17 kV17 dc17 pm17 cd17 ct17 : Value} {f18 : Addr} {od18 an18 : Option Addr} {sl18 : Array (Option Value)} {oc18 kV18 dc18 pm18 cd18 ct18 : Value} {f19 : Addr} {od19 an19 : Option Addr} {sl19 : Array (Option Value)} {oc19 kV19 dc19 pm19 cd19 ct19 : Value} {f20 : Addr} {od20 an20 : Option Addr} {sl20 : Array (Option Value)} {oc20 kV20 dc20 pm20 cd20 ct20 : Value} {f21 : Addr} {od21 an21 : Option Addr} {sl21 : Array (Option Value)} {oc21 kV21 dc21 pm21 cd21 ct21 : Value} {f22 : Addr} {od22 an22 : Option Addr} {sl22 : Array (Option Value)} {oc22 kV22 dc22 pm22 cd22 ct22 : Value} {f23 : Addr} {od23 an23 : Option Addr} {sl23 : Array (Option Value)} {oc23 kV23 dc23 pm23 cd23 ct23 : Value} {f24 : Addr} {od24 an24 : Option Addr} {sl24 : Array (Option Value)} {oc24 kV24 dc24 pm24 cd24 ct24 : Value} (X : K.In h) (G : h.Ns mainGlobals mg) (hfa : mg "law" = some (.ref fa))
    (aCSender : PySem.W.nsIn K mainGlobals "Sender" = some (some (.ref gSender)))
    (a0 : PySem.W.nsIn K mainGlobals "_law_mix" = some (some (.ref f0)))
    (l0 : K.lookup f0 = some ⟨oc0, od0, .func (PySem.W.fnOf "_law_mix" "_law_mix" (defArgs s__law_mix) (defBody s__law_mix) (defScope s__law_mix) .none kV0 dc0 pm0 an0 cd0 ct0), sl0⟩)
    (c0 : PySem.W.codeIn K cd0 "_law_mix" = true)
    (k0 : PySem.W.keepIn K (.ref f0) = true)
    (a1 : PySem.W.nsIn K mainGlobals "_law_cell" = some (some (.ref f1)))
    (l1 : K.lookup f1 = some ⟨oc1, od1, .func (PySem.W.fnOf "_law_cell" "_law_cell" (defArgs s__law_cell) (defBody s__law_cell) (defScope s__law_cell) .none kV1 dc1 pm1 an1 cd1 ct1), sl1⟩)
    (c1 : PySem.W.codeIn K cd1 "_law_cell" = true)
    (k1 : PySem.W.keepIn K (.ref f1) = true)
    (a2 : PySem.W.nsIn K mainGlobals "_law_setting" = some (some (.ref f2)))
    (l2 : K.lookup f2 = some ⟨oc2, od2, .func (PySem.W.fnOf "_law_setting" "_law_setting" (defArgs s__law_setting) (defBody s__law_setting) (defScope s__law_setting) .none kV2 dc2 pm2 an2 cd2 ct2), sl2⟩)
    (c2 : PySem.W.codeIn K cd2 "_law_setting" = true)
    (k2 : PySem.W.keepIn K (.ref f2) = true)
    (a3 : PySem.W.findIn K (.ref gSender) "__init__" = some (some (.ref f3)))
    (i3 : PySem.W.isFn K (.ref f3) = true)
    (l3 : K.lookup f3 = some ⟨oc3, od3, .func (PySem.W.fnOf "__init__" "Sender.__init__" (defArgs s_Sender___init__) (defBody s_Sender___init__) (defScope s_Sender___init__) .none kV3 dc3 pm3 an3 cd3 ct3), sl3⟩)
    (c3 : PySem.W.codeIn K cd3 "Sender.__init__" = true)
    (k3 : PySem.W.keepIn K (.ref f3) = true)
    (a4 : PySem.W.nsIn K mainGlobals "pieces_of" = some (some (.ref f4)))
    (l4 : K.lookup f4 = some ⟨oc4, od4, .func (PySem.W.fnOf "pieces_of" "pieces_of" (defArgs s_pieces_of) (defBody s_pieces_of) (defScope s_pieces_of) .none kV4 dc4 pm4 an4 cd4 ct4), sl4⟩)
    (c4 : PySem.W.codeIn K cd4 "pieces_of" = true)
    (k4 : PySem.W.keepIn K (.ref f4) = true)
    (a5 : PySem.W.findIn K (.ref gSender) "open_anew" = some (some (.ref f5)))
    (i5 : PySem.W.isFn K (.ref f5) = true)
    (l5 : K.lookup f5 = some ⟨oc5, od5, .func (PySem.W.fnOf "open_anew" "Sender.open_anew" (defArgs s_Sender_open_anew) (defBody s_Sender_open_anew) (defScope s_Sender_open_anew) .none kV5 dc5 pm5 an5 cd5 ct5), sl5⟩)
    (c5 : PySem.W.codeIn K cd5 "Sender.open_anew" = true)
    (k5 : PySem.W.keepIn K (.ref f5) = true)
    (a6 : PySem.W.findIn K (.ref gSender) "start" = some (some (.ref f6)))
    (i6 : PySem.W.isFn K (.ref f6) = true)
    (l6 : K.lookup f6 = some ⟨oc6, od6, .func (PySem.W.fnOf "start" "Sender.start" (defArgs s_Sender_start) (defBody s_Sender_start) (defScope s_Sender_start) .none kV6 dc6 pm6 an6 cd6 ct6), sl6⟩)
    (c6 : PySem.W.codeIn K cd6 "Sender.start" = true)
    (k6 : PySem.W.keepIn K (.ref f6) = true)
    (a7 : PySem.W.nsIn K mainGlobals "goes_round" = some (some (.ref f7)))
    (l7 : K.lookup f7 = some ⟨oc7, od7, .func (PySem.W.fnOf "goes_round" "goes_round" (defArgs s_goes_round) (defBody s_goes_round) (defScope s_goes_round) .none kV7 dc7 pm7 an7 cd7 ct7), sl7⟩)
    (c7 : PySem.W.codeIn K cd7 "goes_round" = true)
    (k7 : PySem.W.keepIn K (.ref f7) = true)
    (a8 : PySem.W.nsIn K mainGlobals "index_near" = some (some (.ref f8)))
    (l8 : K.lookup f8 = some ⟨oc8, od8, .func (PySem.W.fnOf "index_near" "index_near" (defArgs s_index_near) (defBody s_index_near) (defScope s_index_near) .none kV8 dc8 pm8 an8 cd8 ct8), sl8⟩)
    (c8 : PySem.W.codeIn K cd8 "index_near" = true)
    (k8 : PySem.W.keepIn K (.ref f8) = true)
    (a9 : PySem.W.findIn K (.ref gSender) "move_base" = some (some (.ref f9)))
    (i9 : PySem.W.isFn K (.ref f9) = true)
    (l9 : K.lookup f9 = some ⟨oc9, od9, .func (PySem.W.fnOf "move_base" "Sender.move_base" (defArgs s_Sender_move_base) (defBody s_Sender_move_base) (defScope s_Sender_move_base) .none kV9 dc9 pm9 an9 cd9 ct9), sl9⟩)
    (c9 : PySem.W.codeIn K cd9 "Sender.move_base" = true)
    (k9 : PySem.W.keepIn K (.ref f9) = true)
    (a10 : PySem.W.findIn K (.ref gSender) "note_pieces" = some (some (.ref f10)))
    (i10 : PySem.W.isFn K (.ref f10) = true)
    (l10 : K.lookup f10 = some ⟨oc10, od10, .func (PySem.W.fnOf "note_pieces" "Sender.note_pieces" (defArgs s_Sender_note_pieces) (defBody s_Sender_note_pieces) (defScope s_Sender_note_pieces) .none kV10 dc10 pm10 an10 cd10 ct10), sl10⟩)
    (c10 : PySem.W.codeIn K cd10 "Sender.note_pieces" = true)
    (k10 : PySem.W.keepIn K (.ref f10) = true)
    (a11 : PySem.W.findIn K (.ref gSender) "hears_note" = some (some (.ref f11)))
    (i11 : PySem.W.isFn K (.ref f11) = true)
    (l11 : K.lookup f11 = some ⟨oc11, od11, .func (PySem.W.fnOf "hears_note" "Sender.hears_note" (defArgs s_Sender_hears_note) (defBody s_Sender_hears_note) (defScope s_Sender_hears_note) .none kV11 dc11 pm11 an11 cd11 ct11), sl11⟩)
    (c11 : PySem.W.codeIn K cd11 "Sender.hears_note" = true)
    (k11 : PySem.W.keepIn K (.ref f11) = true)
    (a12 : PySem.W.findIn K (.ref gSender) "hears_own" = some (some (.ref f12)))
    (i12 : PySem.W.isFn K (.ref f12) = true)
    (l12 : K.lookup f12 = some ⟨oc12, od12, .func (PySem.W.fnOf "hears_own" "Sender.hears_own" (defArgs s_Sender_hears_own) (defBody s_Sender_hears_own) (defScope s_Sender_hears_own) .none kV12 dc12 pm12 an12 cd12 ct12), sl12⟩)
    (c12 : PySem.W.codeIn K cd12 "Sender.hears_own" = true)
    (k12 : PySem.W.keepIn K (.ref f12) = true)
    (a13 : PySem.W.findIn K (.ref gSender) "hears" = some (some (.ref f13)))
    (i13 : PySem.W.isFn K (.ref f13) = true)
    (l13 : K.lookup f13 = some ⟨oc13, od13, .func (PySem.W.fnOf "hears" "Sender.hears" (defArgs s_Sender_hears) (defBody s_Sender_hears) (defScope s_Sender_hears) .none kV13 dc13 pm13 an13 cd13 ct13), sl13⟩)
    (c13 : PySem.W.codeIn K cd13 "Sender.hears" = true)
    (k13 : PySem.W.keepIn K (.ref f13) = true)
    (a14 : PySem.W.nsIn K mainGlobals "_law_message" = some (some (.ref f14)))
    (l14 : K.lookup f14 = some ⟨oc14, od14, .func (PySem.W.fnOf "_law_message" "_law_message" (defArgs s__law_message) (defBody s__law_message) (defScope s__law_message) .none kV14 dc14 pm14 an14 cd14 ct14), sl14⟩)
    (c14 : PySem.W.codeIn K cd14 "_law_message" = true)
    (k14 : PySem.W.keepIn K (.ref f14) = true)
    (a15 : PySem.W.findIn K (.ref gSender) "hand" = some (some (.ref f15)))
    (i15 : PySem.W.isFn K (.ref f15) = true)
    (l15 : K.lookup f15 = some ⟨oc15, od15, .func (PySem.W.fnOf "hand" "Sender.hand" (defArgs s_Sender_hand) (defBody s_Sender_hand) (defScope s_Sender_hand) .none kV15 dc15 pm15 an15 cd15 ct15), sl15⟩)
    (c15 : PySem.W.codeIn K cd15 "Sender.hand" = true)
    (k15 : PySem.W.keepIn K (.ref f15) = true)
    (a16 : PySem.W.nsIn K mainGlobals "_law_pieces" = some (some (.ref f16)))
    (l16 : K.lookup f16 = some ⟨oc16, od16, .func (PySem.W.fnOf "_law_pieces" "_law_pieces" (defArgs s__law_pieces) (defBody s__law_pieces) (defScope s__law_pieces) .none kV16 dc16 pm16 an16 cd16 ct16), sl16⟩)
    (c16 : PySem.W.codeIn K cd16 "_law_pieces" = true)
    (k16 : PySem.W.keepIn K (.ref f16) = true)
    (a17 : PySem.W.nsIn K mainGlobals "_law_opened" = some (some (.ref f17)))
    (l17 : K.lookup f17 = some ⟨oc17, od17, .func (PySem.W.fnOf "_law_opened" "_law_opened" (defArgs s__law_opened) (defBody s__law_opened) (defScope s__law_opened) .none kV17 dc17 pm17 an17 cd17 ct17), sl17⟩)
    (c17 : PySem.W.codeIn K cd17 "_law_opened" = true)
    (k17 : PySem.W.keepIn K (.ref f17) = true)
    (a18 : PySem.W.nsIn K mainGlobals "_law_noted" = some (some (.ref f18)))
    (l18 : K.lookup f18 = some ⟨oc18, od18, .func (PySem.W.fnOf "_law_noted" "_law_noted" (defArgs s__law_noted) (defBody s__law_noted) (defScope s__law_noted) .none kV18 dc18 pm18 an18 cd18 ct18), sl18⟩)
    (c18 : PySem.W.codeIn K cd18 "_law_noted" = true)
    (k18 : PySem.W.keepIn K (.ref f18) = true)
    (a19 : PySem.W.findIn K (.ref gSender) "fall" = some (some (.ref f19)))
    (i19 : PySem.W.isFn K (.ref f19) = true)
    (l19 : K.lookup f19 = some ⟨oc19, od19, .func (PySem.W.fnOf "fall" "Sender.fall" (defArgs s_Sender_fall) (defBody s_Sender_fall) (defScope s_Sender_fall) .none kV19 dc19 pm19 an19 cd19 ct19), sl19⟩)
    (c19 : PySem.W.codeIn K cd19 "Sender.fall" = true)
    (k19 : PySem.W.keepIn K (.ref f19) = true)
    (a20 : PySem.W.nsIn K mainGlobals "number_of" = some (some (.ref f20)))
    (l20 : K.lookup f20 = some ⟨oc20, od20, .func (PySem.W.fnOf "number_of" "number_of" (defArgs s_number_of) (defBody s_number_of) (defScope s_number_of) .none kV20 dc20 pm20 an20 cd20 ct20), sl20⟩)
    (c20 : PySem.W.codeIn K cd20 "number_of" = true)
    (k20 : PySem.W.keepIn K (.ref f20) = true)
    (a21 : PySem.W.findIn K (.ref gSender) "data_of" = some (some (.ref f21)))
    (i21 : PySem.W.isFn K (.ref f21) = true)
    (l21 : K.lookup f21 = some ⟨oc21, od21, .func (PySem.W.fnOf "data_of" "Sender.data_of" (defArgs s_Sender_data_of) (defBody s_Sender_data_of) (defScope s_Sender_data_of) .none kV21 dc21 pm21 an21 cd21 ct21), sl21⟩)
    (c21 : PySem.W.codeIn K cd21 "Sender.data_of" = true)
    (k21 : PySem.W.keepIn K (.ref f21) = true)
    (a22 : PySem.W.findIn K (.ref gSender) "wanted" = some (some (.ref f22)))
    (i22 : PySem.W.isFn K (.ref f22) = true)
    (l22 : K.lookup f22 = some ⟨oc22, od22, .func (PySem.W.fnOf "wanted" "Sender.wanted" (defArgs s_Sender_wanted) (defBody s_Sender_wanted) (defScope s_Sender_wanted) .none kV22 dc22 pm22 an22 cd22 ct22), sl22⟩)
    (c22 : PySem.W.codeIn K cd22 "Sender.wanted" = true)
    (k22 : PySem.W.keepIn K (.ref f22) = true)
    (a23 : PySem.W.findIn K (.ref gSender) "tick" = some (some (.ref f23)))
    (i23 : PySem.W.isFn K (.ref f23) = true)
    (l23 : K.lookup f23 = some ⟨oc23, od23, .func (PySem.W.fnOf "tick" "Sender.tick" (defArgs s_Sender_tick) (defBody s_Sender_tick) (defScope s_Sender_tick) .none kV23 dc23 pm23 an23 cd23 ct23), sl23⟩)
    (c23 : PySem.W.codeIn K cd23 "Sender.tick" = true)
    (k23 : PySem.W.keepIn K (.ref f23) = true)
    (a24 : PySem.W.nsIn K mainGlobals "law" = some (some (.ref f24)))
    (l24 : K.lookup f24 = some ⟨oc24, od24, .func (PySem.W.fnOf "law" "law" (defArgs s_law) (defBody s_law) (defScope s_law) .none kV24 dc24 pm24 an24 cd24 ct24), sl24⟩)
    (c24 : PySem.W.codeIn K cd24 "law" = true)
    (k24 : PySem.W.keepIn K (.ref f24) = true)
    (pgSender : PySem.W.plainGet K gSender Str.empty = true)
    (hdSender : PySem.W.hasDictIn K gSender = true)
    (poSender : PySem.W.plainOver K gSender = true)
    (saSender : PySem.W.findIn K (.ref gSender) "__setattr__" = some (some (.builtin "object.__setattr__")))
    (mkSender : PySem.W.makesIn K gSender = true)
    (kcSender : PySem.W.keepIn K (.ref gSender) = true)
    (nSender_window : PySem.W.findIn K (.ref gSender) "window" = some none)
    (nSender_most : PySem.W.findIn K (.ref gSender) "most" = some none)
    (nSender_messages : PySem.W.findIn K (.ref gSender) "messages" = some none)
    (nSender_sure : PySem.W.findIn K (.ref gSender) "sure" = some none)
    (nSender_opening : PySem.W.findIn K (.ref gSender) "opening" = some none)
    (nSender_state : PySem.W.findIn K (.ref gSender) "state" = some none)
    (nSender_pieces : PySem.W.findIn K (.ref gSender) "pieces" = some none)
    (nSender_base : PySem.W.findIn K (.ref gSender) "base" = some none)
    (nSender_noted : PySem.W.findIn K (.ref gSender) "noted" = some none)
    (z_enumerate : PySem.W.nsIn K mainGlobals "enumerate" = some none)
    (z_int : PySem.W.nsIn K mainGlobals "int" = some none)
    (z_len : PySem.W.nsIn K mainGlobals "len" = some none)
    (z_max : PySem.W.nsIn K mainGlobals "max" = some none)
    (z_min : PySem.W.nsIn K mainGlobals "min" = some none)
    (z_range : PySem.W.nsIn K mainGlobals "range" = some none)
    (z_sum : PySem.W.nsIn K mainGlobals "sum" = some none)
    (z_tuple : PySem.W.nsIn K mainGlobals "tuple" = some none)
    : ∃ fd : FuncData, (∀ (s : Shared) (v : Value), BindsTo s fd ⟨[v], []⟩ [("_law_script", v)]) ∧ ∀ base : Heap, K.In base → base.Ns mainGlobals mg → FnOk l.prog w K mg base CX0 6 fa fd ["_law_script"] (spLaw K) := by
  have e := hfa.symm.trans (PySem.W.mg_of X G a24)
  cases e
  have T : Txt K mg (⟨gSender⟩ : Cs) := ⟨PySem.W.mg_none_of X G z_enumerate, PySem.W.mg_none_of X G z_int, PySem.W.mg_none_of X G z_len, PySem.W.mg_none_of X G z_max, PySem.W.mg_none_of X G z_min, PySem.W.mg_none_of X G z_range, PySem.W.mg_none_of X G z_sum, PySem.W.mg_none_of X G z_tuple, ⟨pgSender, hdSender, poSender, saSender⟩, nSender_window, nSender_most, nSender_messages, nSender_sure, nSender_opening, nSender_state, nSender_pieces, nSender_base, nSender_noted⟩
  have F0 := fun_mk (st := s__law_mix) l0 c0 k0
  have b0 := F0.binds (ps := ["_law_cell_here", "_law_prime", "_law_many"]) fun _ _ _ _ _ _ us hl => match us, hl with | [_, _, _], _ => rfl
  have F1 := fun_mk (st := s__law_cell) l1 c1 k1
  have b1 := F1.binds (ps := ["_law_script", "_law_k"]) fun _ _ _ _ _ _ us hl => match us, hl with | [_, _], _ => rfl
  have F2 := fun_mk (st := s__law_setting) l2 c2 k2
  have b2 := F2.binds (ps := ["_law_script"]) fun _ _ _ _ _ _ us hl => match us, hl with | [_], _ => rfl
  have F3 := fun_mk (st := s_Sender___init__) l3 c3 k3
  have b3 := F3.binds (ps := ["self", "window", "most"]) fun _ _ _ _ _ _ us hl => match us, hl with | [_, _, _], _ => rfl
  have F4 := fun_mk (st := s_pieces_of) l4 c4 k4
  have b4 := F4.binds (ps := ["message", "most"]) fun _ _ _ _ _ _ us hl => match us, hl with | [_, _], _ => rfl
  have F5 := fun_mk (st := s_Sender_open_anew) l5 c5 k5
  have b5 := F5.binds (ps := ["self"]) fun _ _ _ _ _ _ us hl => match us, hl with | [_], _ => rfl
  have F6 := fun_mk (st := s_Sender_start) l6 c6 k6
  have b6 := F6.binds (ps := ["self"]) fun _ _ _ _ _ _ us hl => match us, hl with | [_], _ => rfl
  have F7 := fun_mk (st := s_goes_round) l7 c7 k7
  have b7 := F7.binds (ps := ["number", "window"]) fun _ _ _ _ _ _ us hl => match us, hl with | [_, _], _ => rfl
  have F8 := fun_mk (st := s_index_near) l8 c8 k8
  have b8 := F8.binds (ps := ["number", "low", "window"]) fun _ _ _ _ _ _ us hl => match us, hl with | [_, _, _], _ => rfl
  have F9 := fun_mk (st := s_Sender_move_base) l9 c9 k9
  have b9 := F9.binds (ps := ["self", "index"]) fun _ _ _ _ _ _ us hl => match us, hl with | [_, _], _ => rfl
  have F10 := fun_mk (st := s_Sender_note_pieces) l10 c10 k10
  have b10 := F10.binds (ps := ["self", "bits"]) fun _ _ _ _ _ _ us hl => match us, hl with | [_, _], _ => rfl
  have F11 := fun_mk (st := s_Sender_hears_note) l11 c11 k11
  have b11 := F11.binds (ps := ["self", "number", "bits"]) fun _ _ _ _ _ _ us hl => match us, hl with | [_, _, _], _ => rfl
  have F12 := fun_mk (st := s_Sender_hears_own) l12 c12 k12
  have b12 := F12.binds (ps := ["self", "card"]) fun _ _ _ _ _ _ us hl => match us, hl with | [_, _], _ => rfl
  have F13 := fun_mk (st := s_Sender_hears) l13 c13 k13
  have b13 := F13.binds (ps := ["self", "card"]) fun _ _ _ _ _ _ us hl => match us, hl with | [_, _], _ => rfl
  have F14 := fun_mk (st := s__law_message) l14 c14 k14
  have b14 := F14.binds (ps := ["_law_cell_here", "_law_longest"]) fun _ _ _ _ _ _ us hl => match us, hl with | [_, _], _ => rfl
  have F15 := fun_mk (st := s_Sender_hand) l15 c15 k15
  have b15 := F15.binds (ps := ["self", "message"]) fun _ _ _ _ _ _ us hl => match us, hl with | [_, _], _ => rfl
  have F16 := fun_mk (st := s__law_pieces) l16 c16 k16
  have b16 := F16.binds (ps := ["_law_message_here", "_law_most"]) fun _ _ _ _ _ _ us hl => match us, hl with | [_, _], _ => rfl
  have F17 := fun_mk (st := s__law_opened) l17 c17 k17
  have b17 := F17.binds (ps := ["_law_script", "_law_many"]) fun _ _ _ _ _ _ us hl => match us, hl with | [_, _], _ => rfl
  have F18 := fun_mk (st := s__law_noted) l18 c18 k18
  have b18 := F18.binds (ps := ["_law_sender", "_law_window", "_law_count", "_law_opening"]) fun _ _ _ _ _ _ us hl => match us, hl with | [_, _, _, _], _ => rfl
  have F19 := fun_mk (st := s_Sender_fall) l19 c19 k19
  have b19 := F19.binds (ps := ["self"]) fun _ _ _ _ _ _ us hl => match us, hl with | [_], _ => rfl
  have F20 := fun_mk (st := s_number_of) l20 c20 k20
  have b20 := F20.binds (ps := ["index", "window"]) fun _ _ _ _ _ _ us hl => match us, hl with | [_, _], _ => rfl
  have F21 := fun_mk (st := s_Sender_data_of) l21 c21 k21
  have b21 := F21.binds (ps := ["self", "index"]) fun _ _ _ _ _ _ us hl => match us, hl with | [_, _], _ => rfl
  have F22 := fun_mk (st := s_Sender_wanted) l22 c22 k22
  have b22 := F22.binds (ps := ["self"]) fun _ _ _ _ _ _ us hl => match us, hl with | [_], _ => rfl
  have F23 := fun_mk (st := s_Sender_tick) l23 c23 k23
  have b23 := F23.binds (ps := ["self"]) fun _ _ _ _ _ _ us hl => match us, hl with | [_], _ => rfl
  have F24 := fun_mk (st := s_law) l24 c24 k24
  refine ⟨PySem.W.fnOf "law" "law" (defArgs s_law) (defBody s_law) (defScope s_law) .none kV24 dc24 pm24 an24 cd24 ct24, fun s v => .of_eq rfl, fun base _ _ => ?_⟩
  have C__law_mix : Cal l.prog w K mg base CX0 "_law_mix" 1 ["_law_cell_here", "_law_prime", "_law_many"] F__law_mix := ⟨⟨f0, _, PySem.W.mg_of X G a0, k0, b0, ok__law_mix T  F0⟩⟩
  have C__law_cell : Cal l.prog w K mg base CX0 "_law_cell" 1 ["_law_script", "_law_k"] F__law_cell := ⟨⟨f1, _, PySem.W.mg_of X G a1, k1, b1, ok__law_cell T  F1⟩⟩
  have C__law_setting : Cal l.prog w K mg base CX0 "_law_setting" 2 ["_law_script"] F__law_setting := ⟨⟨f2, _, PySem.W.mg_of X G a2, k2, b2, ok__law_setting T C__law_cell C__law_mix F2⟩⟩
  have C_Sender : CalI l.prog w K mg base CX0 "Sender" gSender 1 ["self", "window", "most"] (F_Sender___init__ (⟨gSender⟩ : Cs)) := ⟨⟨f3, _, PySem.W.mg_of X G aCSender, ⟨mkSender, a3, i3, kcSender⟩, b3, ok_Sender___init__ T  F3⟩⟩
  have C_pieces_of : Cal l.prog w K mg base CX0 "pieces_of" 1 ["message", "most"] F_pieces_of := ⟨⟨f4, _, PySem.W.mg_of X G a4, k4, b4, ok_pieces_of T  F4⟩⟩
  have C_Sender_open_anew : CalM l.prog w K mg base CX0 gSender "open_anew" 2 ["self"] (F_Sender_open_anew (⟨gSender⟩ : Cs)) := ⟨⟨f5, _, ⟨a5, i5, k5⟩, b5, ok_Sender_open_anew T C_pieces_of F5⟩⟩
  have C_Sender_start : CalM l.prog w K mg base CX0 gSender "start" 3 ["self"] (F_Sender_start (⟨gSender⟩ : Cs)) := ⟨⟨f6, _, ⟨a6, i6, k6⟩, b6, ok_Sender_start T C_Sender_open_anew F6⟩⟩
  have C_goes_round : Cal l.prog w K mg base CX0 "goes_round" 1 ["number", "window"] F_goes_round := ⟨⟨f7, _, PySem.W.mg_of X G a7, k7, b7, ok_goes_round T  F7⟩⟩
  have C_index_near : Cal l.prog w K mg base CX0 "index_near" 1 ["number", "low", "window"] F_index_near := ⟨⟨f8, _, PySem.W.mg_of X G a8, k8, b8, ok_index_near T  F8⟩⟩
  have C_Sender_move_base : CalM l.prog w K mg base CX0 gSender "move_base" 1 ["self", "index"] (F_Sender_move_base (⟨gSender⟩ : Cs)) := ⟨⟨f9, _, ⟨a9, i9, k9⟩, b9, ok_Sender_move_base T  F9⟩⟩
  have C_Sender_note_pieces : CalM l.prog w K mg base CX0 gSender "note_pieces" 1 ["self", "bits"] (F_Sender_note_pieces (⟨gSender⟩ : Cs)) := ⟨⟨f10, _, ⟨a10, i10, k10⟩, b10, ok_Sender_note_pieces T  F10⟩⟩
  have C_Sender_hears_note : CalM l.prog w K mg base CX0 gSender "hears_note" 2 ["self", "number", "bits"] (F_Sender_hears_note (⟨gSender⟩ : Cs)) := ⟨⟨f11, _, ⟨a11, i11, k11⟩, b11, ok_Sender_hears_note T C_goes_round C_index_near C_Sender_move_base C_Sender_note_pieces F11⟩⟩
  have C_Sender_hears_own : CalM l.prog w K mg base CX0 gSender "hears_own" 3 ["self", "card"] (F_Sender_hears_own (⟨gSender⟩ : Cs)) := ⟨⟨f12, _, ⟨a12, i12, k12⟩, b12, ok_Sender_hears_own T C_Sender_open_anew C_Sender_hears_note F12⟩⟩
  have C_Sender_hears : CalM l.prog w K mg base CX0 gSender "hears" 4 ["self", "card"] (F_Sender_hears (⟨gSender⟩ : Cs)) := ⟨⟨f13, _, ⟨a13, i13, k13⟩, b13, ok_Sender_hears T C_Sender_hears_own F13⟩⟩
  have C__law_message : Cal l.prog w K mg base CX0 "_law_message" 2 ["_law_cell_here", "_law_longest"] F__law_message := ⟨⟨f14, _, PySem.W.mg_of X G a14, k14, b14, ok__law_message T C__law_mix F14⟩⟩
  have C_Sender_hand : CalM l.prog w K mg base CX0 gSender "hand" 2 ["self", "message"] (F_Sender_hand (⟨gSender⟩ : Cs)) := ⟨⟨f15, _, ⟨a15, i15, k15⟩, b15, ok_Sender_hand T C_pieces_of F15⟩⟩
  have C__law_pieces : Cal l.prog w K mg base CX0 "_law_pieces" 1 ["_law_message_here", "_law_most"] F__law_pieces := ⟨⟨f16, _, PySem.W.mg_of X G a16, k16, b16, ok__law_pieces T  F16⟩⟩
  have C__law_opened : Cal l.prog w K mg base CX0 "_law_opened" 5 ["_law_script", "_law_many"] (F__law_opened (⟨gSender⟩ : Cs)) := ⟨⟨f17, _, PySem.W.mg_of X G a17, k17, b17, ok__law_opened T C__law_setting C_Sender C__law_cell C__law_message C_Sender_hand C_Sender_start C_Sender_hears C__law_pieces F17⟩⟩
  have C__law_noted : Cal l.prog w K mg base CX0 "_law_noted" 5 ["_law_sender", "_law_window", "_law_count", "_law_opening"] (F__law_noted (⟨gSender⟩ : Cs)) := ⟨⟨f18, _, PySem.W.mg_of X G a18, k18, b18, ok__law_noted T C_Sender_hears F18⟩⟩
  have C_Sender_fall : CalM l.prog w K mg base CX0 gSender "fall" 1 ["self"] (F_Sender_fall (⟨gSender⟩ : Cs)) := ⟨⟨f19, _, ⟨a19, i19, k19⟩, b19, ok_Sender_fall T  F19⟩⟩
  have C_number_of : Cal l.prog w K mg base CX0 "number_of" 1 ["index", "window"] F_number_of := ⟨⟨f20, _, PySem.W.mg_of X G a20, k20, b20, ok_number_of T  F20⟩⟩
  have C_Sender_data_of : CalM l.prog w K mg base CX0 gSender "data_of" 2 ["self", "index"] (F_Sender_data_of (⟨gSender⟩ : Cs)) := ⟨⟨f21, _, ⟨a21, i21, k21⟩, b21, ok_Sender_data_of T C_number_of F21⟩⟩
  have C_Sender_wanted : CalM l.prog w K mg base CX0 gSender "wanted" 1 ["self"] (F_Sender_wanted (⟨gSender⟩ : Cs)) := ⟨⟨f22, _, ⟨a22, i22, k22⟩, b22, ok_Sender_wanted T  F22⟩⟩
  have C_Sender_tick : CalM l.prog w K mg base CX0 gSender "tick" 3 ["self"] (F_Sender_tick (⟨gSender⟩ : Cs)) := ⟨⟨f23, _, ⟨a23, i23, k23⟩, b23, ok_Sender_tick T C_Sender_wanted C_Sender_data_of F23⟩⟩
  exact FnOk.imp (ok_law T C__law_cell C__law_opened C__law_noted C_Sender_hears C_Sender_fall C_Sender_start C_Sender_tick C__law_setting C__law_pieces F24) (spLaw_of (law_true _))
theorem walk {l : PySem.W.OpenLaw} {q : Program} {loose : List Str} {XP : (Str → Option Value) → Heap → Prop} {YP : World → Heap → Prop} {d : DefRec} {K : Params → PySem.W.Frag} (hn : l.most = some 63) (hdf : d.params.defaults = [])
    (hY : ∀ (w : World) (h : Heap), YP w h → (K w.params).In h)
    (F : ∀ (w : World) (mg : Str → Option Value) (fa : Addr) (h : Heap), (K w.params).In h → h.Ns mainGlobals mg → mg d.name = some (.ref fa) →
      ∃ fd : FuncData, (∀ (s : Shared) (u : Value), BindsTo s fd ⟨[u], []⟩ [("_law_script", u)]) ∧ ∀ base : Heap, (K w.params).In base → base.Ns mainGlobals mg → FnOk l.prog w (K w.params) mg base CX0 6 fa fd ["_law_script"] (spLaw (K w.params))) :
    PySem.W.WalkO q loose XP YP l.row.toRowW d [] (fun f vs => PySem.call f vs) :=
  L2.walk_of (n := 63) (k := 6) (x := "_law_script") (CX := fun _ => CX0) (sp := fun w => spLaw (K w.params)) hn (by decide) hdf ⟨rfl, by decide, by decide⟩ hY F (fun _ _ a ns hl ho hS => ⟨a, ns, rfl, hS, hl, ho, fun _ => rfl⟩) fun _ _ _ _ _ z => z
end Lw
open PySem PySem.W PyProof.Rows
set_option maxRecDepth 100000 in
set_option maxHeartbeats 0 in
theorem PySem.Challenge.cw_sureroad_k09_opened_anew_holds : PySem.Challenge.rw_sureroad_k09_opened_anew.Holds := by
  w_on; o_law; k_head; (case hw => w_witness2)
  k_fill
  refine Lw.walk (l := PySem.Challenge.rw_sureroad_k09_opened_anew) rfl rfl (fun w h Y => PySem.W.kIn_of Y) ?F
  case F =>
    intro w mg fa h KX G hmg
    refine' Lw.all_mk KX G hmg ?aCSender ?a0 ?l0 ?c0 ?k0 ?a1 ?l1 ?c1 ?k1 ?a2 ?l2 ?c2 ?k2 ?a3 ?i3 ?l3 ?c3 ?k3 ?a4 ?l4 ?c4 ?k4 ?a5 ?i5 ?l5 ?c5 ?k5 ?a6 ?i6 ?l6 ?c6 ?k6 ?a7 ?l7 ?c7 ?k7 ?a8 ?l8 ?c8 ?k8 ?a9 ?i9 ?l9 ?c9 ?k9 ?a10 ?i10 ?l10 ?c10 ?k10 ?a11 ?i11 ?l11 ?c11 ?k11 ?a12 ?i12 ?l12 ?c12 ?k12 ?a13 ?i13 ?l13 ?c13 ?k13 ?a14 ?l14 ?c14 ?k14 ?a15 ?i15 ?l15 ?c15 ?k15 ?a16 ?l16 ?c16 ?k16 ?a17 ?l17 ?c17 ?k17 ?a18 ?l18 ?c18 ?k18 ?a19 ?i19 ?l19 ?c19 ?k19 ?a20 ?l20 ?c20 ?k20 ?a21 ?i21 ?l21 ?c21 ?k21 ?a22 ?i22 ?l22 ?c22 ?k22 ?a23 ?i23 ?l23 ?c23 ?k23 ?a24 ?l24 ?c24 ?k24 ?pgSender ?hdSender ?poSender ?saSender ?mkSender ?kcSender ?nSender_window ?nSender_most ?nSender_messages ?nSender_sure ?nSender_opening ?nSender_state ?nSender_pieces ?nSender_base ?nSender_noted ?z_enumerate ?z_int ?z_len ?z_max ?z_min ?z_range ?z_sum ?z_tuple
    (case aCSender => k_is)
    (case a0 => k_is)
    (case l0 => k_is)
    (case c0 => k_is)
    (case k0 => k_is)
    (case a1 => k_is)
    (case l1 => k_is)
    (case c1 => k_is)
    (case k1 => k_is)
    (case a2 => k_is)
    (case l2 => k_is)
    (case c2 => k_is)
    (case k2 => k_is)
    (case a3 => k_is)
    (case i3 => k_is)
    (case l3 => k_is)
    (case c3 => k_is)
    (case k3 => k_is)
    (case a4 => k_is)
    (case l4 => k_is)
    (case c4 => k_is)
    (case k4 => k_is)
    (case a5 => k_is)
    (case i5 => k_is)
    (case l5 => k_is)
    (case c5 => k_is)
    (case k5 => k_is)
    (case a6 => k_is)
    (case i6 => k_is)
    (case l6 => k_is)
    (case c6 => k_is)
    (case k6 => k_is)
    (case a7 => k_is)
    (case l7 => k_is)
    (case c7 => k_is)
    (case k7 => k_is)
    (case a8 => k_is)
    (case l8 => k_is)
    (case c8 => k_is)
    (case k8 => k_is)
    (case a9 => k_is)
    (case i9 => k_is)
    (case l9 => k_is)
    (case c9 => k_is)
    (case k9 => k_is)
    (case a10 => k_is)
    (case i10 => k_is)
    (case l10 => k_is)
    (case c10 => k_is)
    (case k10 => k_is)
    (case a11 => k_is)
    (case i11 => k_is)
    (case l11 => k_is)
    (case c11 => k_is)
    (case k11 => k_is)
    (case a12 => k_is)
    (case i12 => k_is)
    (case l12 => k_is)
    (case c12 => k_is)
    (case k12 => k_is)
    (case a13 => k_is)
    (case i13 => k_is)
    (case l13 => k_is)
    (case c13 => k_is)
    (case k13 => k_is)
    (case a14 => k_is)
    (case l14 => k_is)
    (case c14 => k_is)
    (case k14 => k_is)
    (case a15 => k_is)
    (case i15 => k_is)
    (case l15 => k_is)
    (case c15 => k_is)
    (case k15 => k_is)
    (case a16 => k_is)
    (case l16 => k_is)
    (case c16 => k_is)
    (case k16 => k_is)
    (case a17 => k_is)
    (case l17 => k_is)
    (case c17 => k_is)
    (case k17 => k_is)
    (case a18 => k_is)
    (case l18 => k_is)
    (case c18 => k_is)
    (case k18 => k_is)
    (case a19 => k_is)
    (case i19 => k_is)
    (case l19 => k_is)
    (case c19 => k_is)
    (case k19 => k_is)
    (case a20 => k_is)
    (case l20 => k_is)
    (case c20 => k_is)
    (case k20 => k_is)
    (case a21 => k_is)
    (case i21 => k_is)
    (case l21 => k_is)
    (case c21 => k_is)
    (case k21 => k_is)
    (case a22 => k_is)
    (case i22 => k_is)
    (case l22 => k_is)
    (case c22 => k_is)
    (case k22 => k_is)
    (case a23 => k_is)
    (case i23 => k_is)
    (case l23 => k_is)
    (case c23 => k_is)
    (case k23 => k_is)
    (case a24 => k_is)
    (case l24 => k_is)
    (case c24 => k_is)
    (case k24 => k_is)
    (case pgSender => k_is)
    (case hdSender => k_is)
    (case poSender => k_is)
    (case saSender => k_is)
    (case mkSender => k_is)
    (case kcSender => k_is)
    (case nSender_window => k_is)
    (case nSender_most => k_is)
    (case nSender_messages => k_is)
    (case nSender_sure => k_is)
    (case nSender_opening => k_is)
    (case nSender_state => k_is)
    (case nSender_pieces => k_is)
    (case nSender_base => k_is)
    (case nSender_noted => k_is)
    (case z_enumerate => k_is)
    (case z_int => k_is)
    (case z_len => k_is)
    (case z_max => k_is)
    (case z_min => k_is)
    (case z_range => k_is)
    (case z_sum => k_is)
    (case z_tuple => k_is)
