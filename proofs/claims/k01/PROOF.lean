import PyProof.Rows.All
import Wide.All
import OpenK.AllK
import Wide.FinOn
import HandS.ForMost
import HandS.ForExc
import HandS.Wide
import HandS.Gcd
import HandS.IsInst
import HandS.ExcIs
import HandS.ExcCtx
import HandS.Hot
import HandS.SuiteRaise
import PySem.Challenge.RW_rowsworn_k01_fractions
set_option Elab.async false
set_option linter.all false
set_option maxRecDepth 100000
namespace DL
open PySem L2

/-! data: a raw value, a tuple, a list that nobody changes any more -/
inductive D where
  | v (x : V)
  | tup (ds : List D)
  | lst (ds : List D)
abbrev D.int (i : Int) : D := .v (.int i)
abbrev D.bl (b : Bool) : D := .v (.bl b)
abbrev D.non : D := .v .non
abbrev D.str (s : Str) : D := .v (.str s)

def WrT (K : PySem.W.Frag) (a : Addr) (xs : List V) : Prop := ∃ (o : Obj) (its : Array Value) (n : Nat), K.lookup a = some o ∧ o.cls = .type "tuple" ∧ o.data = .seq its n ∧ its.size ≤ sizeLine ∧ Vals xs its.toList
def WrL (K : PySem.W.Frag) (a : Addr) (xs : List V) : Prop := ∃ (o : Obj) (its : Array Value) (n : Nat), K.lookup a = some o ∧ o.cls = .type "list" ∧ o.dict = none ∧ o.data = .seq its n ∧ its.size ≤ sizeLine ∧ Vals xs its.toList

mutual
inductive Rp (K : PySem.W.Frag) (B : Addr → Prop) (H : Hp) : V → D → Prop
  | v (x : V) : Rp K B H x (.v x)
  | tup {a : Addr} {vs : List V} {ds : List D} (h : (Rd H a (.tup vs) ∧ ¬ B a) ∨ WrT K a vs) (r : Rps K B H vs ds) : Rp K B H (.ref a) (.tup ds)
  | lst {a : Addr} {vs : List V} {ds : List D} (h : (Rd H a (.lst vs) ∧ ¬ B a) ∨ WrL K a vs) (r : Rps K B H vs ds) : Rp K B H (.ref a) (.lst ds)
inductive Rps (K : PySem.W.Frag) (B : Addr → Prop) (H : Hp) : List V → List D → Prop
  | nil : Rps K B H [] []
  | cons {x : V} {xs : List V} {d : D} {ds : List D} (r : Rp K B H x d) (rs : Rps K B H xs ds) : Rps K B H (x :: xs) (d :: ds)
end

def Up (B : Addr → Prop) (H : Hp) (B' : Addr → Prop) (H' : Hp) : Prop := ∀ b o, H b = some o → ¬ B b → H' b = some o ∧ ¬ B' b
section
variable {K : PySem.W.Frag} {B B' : Addr → Prop} {H H' : Hp}
theorem Rd.up {a : Addr} {u : HO} (h : Rd H a u ∧ ¬ B a) (g : Up B H B' H') : Rd H' a u ∧ ¬ B' a := by
  obtain ⟨h | ⟨o, h⟩, nb⟩ := h
  · exact ⟨.inl (g _ _ h nb).1, (g _ _ h nb).2⟩
  · exact ⟨.inr ⟨o, (g _ _ h nb).1⟩, (g _ _ h nb).2⟩
mutual
theorem Rp.up (g : Up B H B' H') : ∀ {x : V} {d : D}, Rp K B H x d → Rp K B' H' x d
  | _, _, .v x => .v x
  | _, _, .tup (.inl h) r => .tup (.inl (Rd.up h g)) (Rps.up g r)
  | _, _, .tup (.inr h) r => .tup (.inr h) (Rps.up g r)
  | _, _, .lst (.inl h) r => .lst (.inl (Rd.up h g)) (Rps.up g r)
  | _, _, .lst (.inr h) r => .lst (.inr h) (Rps.up g r)
theorem Rps.up (g : Up B H B' H') : ∀ {xs : List V} {ds : List D}, Rps K B H xs ds → Rps K B' H' xs ds
  | _, _, .nil => .nil
  | _, _, .cons r rs => .cons (Rp.up g r) (Rps.up g rs)
end
theorem Rps.length : ∀ {xs : List V} {ds : List D}, Rps K B H xs ds → xs.length = ds.length
  | _, _, .nil => rfl
  | _, _, .cons _ rs => congrArg (· + 1) (Rps.length rs)
theorem Rps.get : ∀ {xs : List V} {ds : List D} {i : Nat} {d : D}, Rps K B H xs ds → ds[i]? = some d → ∃ x, xs[i]? = some x ∧ Rp K B H x d
  | _, _, _, _, .nil, e => by simp at e
  | _, _, 0, _, .cons r _, e => by simp at e; subst e; exact ⟨_, rfl, r⟩
  | _, _, i + 1, d, .cons _ rs, e => by
    obtain ⟨x, h1, h2⟩ := Rps.get (i := i) (d := d) rs (by simpa using e)
    exact ⟨x, by simpa using h1, h2⟩
theorem Rps.getV : ∀ {xs : List V} {ds : List D} {i : Nat} {x : V}, Rps K B H xs ds → xs[i]? = some x → ∃ d, ds[i]? = some d ∧ Rp K B H x d
  | _, _, _, _, .nil, e => by simp at e
  | _, _, 0, _, .cons r _, e => by simp at e; subst e; exact ⟨_, rfl, r⟩
  | _, _, i + 1, x, .cons _ rs, e => by
    obtain ⟨d, h1, h2⟩ := Rps.getV (i := i) (x := x) rs (by simpa using e)
    exact ⟨d, by simpa using h1, h2⟩
theorem Rps.append : ∀ {xs ys : List V} {ds es : List D}, Rps K B H xs ds → Rps K B H ys es → Rps K B H (xs ++ ys) (ds ++ es)
  | _, _, _, _, .nil, s => s
  | _, _, _, _, .cons r rs, s => .cons r (Rps.append rs s)
theorem Rps.set {x : V} {d : D} (r : Rp K B H x d) : ∀ {xs : List V} {ds : List D} (i : Nat), Rps K B H xs ds → Rps K B H (xs.set i x) (ds.set i d)
  | _, _, _, .nil => .nil
  | _, _, 0, .cons _ t => .cons r t
  | _, _, i + 1, .cons q t => .cons q (Rps.set r i t)
theorem Rps.take : ∀ {xs : List V} {ds : List D} (n : Nat), Rps K B H xs ds → Rps K B H (xs.take n) (ds.take n)
  | _, _, 0, _ => .nil
  | _, _, _ + 1, .nil => .nil
  | _, _, n + 1, .cons r t => .cons r (Rps.take n t)
theorem Rps.drop : ∀ {xs : List V} {ds : List D} (n : Nat), Rps K B H xs ds → Rps K B H (xs.drop n) (ds.drop n)
  | _, _, 0, r => r
  | _, _, _ + 1, .nil => .nil
  | _, _, n + 1, .cons _ t => Rps.drop n t
theorem Rps.reverse : ∀ {xs : List V} {ds : List D}, Rps K B H xs ds → Rps K B H xs.reverse ds.reverse
  | _, _, .nil => .nil
  | _, _, .cons r t => by
    rw [List.reverse_cons, List.reverse_cons]
    exact Rps.append (Rps.reverse t) (.cons r .nil)
theorem Rps.ints : ∀ {xs : List V} {ns : List Int}, Rps K B H xs (ns.map D.int) → xs = ns.map V.int
  | _, [], .nil => rfl
  | _, n :: ns, .cons (.v _) rs => by rw [Rps.ints rs]; rfl
theorem Rps.bls : ∀ {xs : List V} {ns : List Bool}, Rps K B H xs (ns.map D.bl) → xs = ns.map V.bl
  | _, [], .nil => rfl
  | _, n :: ns, .cons (.v _) rs => by rw [Rps.bls rs]; rfl
theorem Rp.seqT {a : Addr} {ds : List D} (r : Rp K B H (.ref a) (.tup ds)) : ∃ vs, SqT K H a vs ∧ Rps K B H vs ds := by
  cases r with
  | tup h r =>
    rcases h with ⟨h, _⟩ | h
    · exact ⟨_, .inl h, r⟩
    · exact ⟨_, .inr h, r⟩
theorem Rp.tupInv {x : V} {ds : List D} (r : Rp K B H x (.tup ds)) : ∃ a vs, x = .ref a ∧ SqT K H a vs ∧ Rps K B H vs ds := by
  cases r with
  | tup h r =>
    rcases h with ⟨h, _⟩ | h
    · exact ⟨_, _, rfl, .inl h, r⟩
    · exact ⟨_, _, rfl, .inr h, r⟩
theorem Rp.lstInv {x : V} {ds : List D} (r : Rp K B H x (.lst ds)) : ∃ a vs, x = .ref a ∧ SqL K H a vs ∧ Rps K B H vs ds := by
  cases r with
  | lst h r =>
    rcases h with ⟨h, _⟩ | h
    · exact ⟨_, _, rfl, .inl h, r⟩
    · exact ⟨_, _, rfl, .inr h, r⟩
theorem Rp.vInv {x y : V} (r : Rp K B H x (.v y)) : x = y := by cases r; rfl
end

/-! the lists that may be changed: cells -/
abbrev Mu := Addr → Option (List D)
def mset (m : Mu) (p : Addr) (ds : List D) : Mu := fun q => if q = p then some ds else m q
def mdel (m : Mu) (p : Addr) : Mu := fun q => if q = p then none else m q
def Bar (n : Addr → Prop) (m : Mu) : Addr → Prop := fun a => n a ∨ ∃ ds, m a = some ds
structure Ok (K : PySem.W.Frag) (n : Addr → Prop) (H : Hp) (m : Mu) : Prop where
  cell : ∀ p ds, m p = some ds → ∃ vs, H p = some (.lst vs) ∧ Rps K (Bar n m) H vs ds
  hid : ∀ p, n p → m p = none ∧ ∃ o, H p = some o
def Step (m : Mu) (H : Hp) (m' : Mu) (H' : Hp) : Prop := ∀ b o, H b = some o → m b = none → H' b = some o ∧ m' b = none
section
variable {K : PySem.W.Frag} {n : Addr → Prop} {H H1 H' : Hp} {m m1 m' : Mu}
theorem mset_same {p : Addr} {ds : List D} : mset m p ds p = some ds := by unfold mset; rw [if_pos rfl]
theorem mset_ne {p q : Addr} {ds : List D} (h : q ≠ p) : mset m p ds q = m q := by unfold mset; rw [if_neg h]
theorem mdel_same {p : Addr} : mdel m p p = none := by unfold mdel; rw [if_pos rfl]
theorem mdel_ne {p q : Addr} (h : q ≠ p) : mdel m p q = m q := by unfold mdel; rw [if_neg h]
theorem mset_mset {p : Addr} {ds es : List D} : mset (mset m p ds) p es = mset m p es := by
  funext q; unfold mset; split <;> rfl
theorem mdel_mset {p : Addr} {ds : List D} (h : m p = none) : mdel (mset m p ds) p = m := by
  funext q
  by_cases e : q = p
  · rw [e, mdel_same, h]
  · rw [mdel_ne e, mset_ne e]
theorem mset_comm {p q : Addr} {ds es : List D} (h : p ≠ q) : mset (mset m p ds) q es = mset (mset m q es) p ds := by
  funext r
  by_cases h1 : r = q
  · subst h1; rw [mset_same, mset_ne (Ne.symm h), mset_same]
  · by_cases h2 : r = p
    · subst h2; rw [mset_ne h1, mset_same, mset_same]
    · rw [mset_ne h1, mset_ne h2, mset_ne h2, mset_ne h1]
theorem mset_self {p : Addr} {ds : List D} (h : m p = some ds) : mset m p ds = m := by
  funext q; unfold mset; split
  · rename_i e; rw [e, h]
  · rfl
theorem Step.refl : Step m H m H := fun _ _ h e => ⟨h, e⟩
theorem Step.trans (a : Step m H m1 H1) (b : Step m1 H1 m' H') : Step m H m' H' := fun c o h e => b c o (a c o h e).1 (a c o h e).2
theorem bar_none {b : Addr} (h : ¬ Bar n m b) : m b = none := by
  cases e : m b with
  | none => rfl
  | some ds => exact absurd (.inr ⟨ds, e⟩) h
theorem Step.up (a : Step m H m' H') : Up (Bar n m) H (Bar n m') H' := fun b o h nb => by
  have e := bar_none nb
  refine ⟨(a b o h e).1, fun z => ?_⟩
  rcases z with z | ⟨ds, z⟩
  · exact nb (.inl z)
  · rw [(a b o h e).2] at z; cases z
theorem Step.same (h : Same H H') : Step m H m H' := fun b o q e => ⟨h b o q, e⟩
theorem Ok.same (k : Ok K n H m) (h : Same H H') : Ok K n H' m :=
  ⟨fun p ds e => let ⟨vs, h1, h2⟩ := k.cell p ds e; ⟨vs, h _ _ h1, h2.up (Step.same (m := m) h).up⟩, fun p e => let ⟨h1, o, h2⟩ := k.hid p e; ⟨h1, o, h _ _ h2⟩⟩
theorem Ok.none (k : Ok K n H m) {p : Addr} (h : H p = .none) : m p = .none := by
  cases e : m p with
  | none => rfl
  | some ds => obtain ⟨vs, q, _⟩ := k.cell p ds e; rw [h] at q; cases q
theorem Ok.nbar (k : Ok K n H m) {p : Addr} (h : H p = .none) : ¬ Bar n m p := by
  intro z
  rcases z with z | ⟨ds, z⟩
  · obtain ⟨_, o, q⟩ := k.hid p z; rw [h] at q; cases q
  · rw [k.none h] at z; cases z
theorem same_new {p : Addr} (h : H p = none) (o : HO) : Same H (upd H p o) := fun b u q => by rw [upd_ne (ne_of_none q h)]; exact q
/-- a new cell -/
theorem Ok.new (k : Ok K n H m) {p : Addr} {vs : List V} {ds : List D} (h : H p = .none) (r : Rps K (Bar n m) H vs ds) : Step m H (mset m p ds) (upd H p (.lst vs)) ∧ Ok K n (upd H p (.lst vs)) (mset m p ds) := by
  have st : Step m H (mset m p ds) (upd H p (.lst vs)) := fun b o q e => by
    have nb := ne_of_none q h
    exact ⟨by rw [upd_ne nb]; exact q, by rw [mset_ne nb]; exact e⟩
  refine ⟨st, fun q es e => ?_, fun q e => ?_⟩
  · by_cases hq : q = p
    · subst hq
      rw [mset_same] at e; cases e
      exact ⟨vs, upd_same, r.up st.up⟩
    · rw [mset_ne hq] at e
      obtain ⟨ws, h1, h2⟩ := k.cell q es e
      exact ⟨ws, by rw [upd_ne hq]; exact h1, h2.up st.up⟩
  · obtain ⟨h1, o, h2⟩ := k.hid q e
    have nb := ne_of_none h2 h
    exact ⟨by rw [mset_ne nb]; exact h1, o, by rw [upd_ne nb]; exact h2⟩
theorem bar_set {p : Addr} {ds es : List D} (h : m p = some ds) : ∀ b, Bar n (mset m p es) b → Bar n m b := fun b z => by
  rcases z with z | ⟨fs, z⟩
  · exact .inl z
  · by_cases hb : b = p
    · subst hb; exact .inr ⟨ds, h⟩
    · rw [mset_ne hb] at z; exact .inr ⟨fs, z⟩
/-- a cell is changed -/
theorem Ok.put (k : Ok K n H m) {p : Addr} {vs : List V} {ds es : List D} (h : m p = some ds) (r : Rps K (Bar n m) H vs es) : Step m H (mset m p es) (upd H p (.lst vs)) ∧ Ok K n (upd H p (.lst vs)) (mset m p es) := by
  have st : Step m H (mset m p es) (upd H p (.lst vs)) := fun b o q e => by
    have nb : b ≠ p := fun z => by rw [z, h] at e; cases e
    exact ⟨by rw [upd_ne nb]; exact q, by rw [mset_ne nb]; exact e⟩
  refine ⟨st, fun q fs e => ?_, fun q e => ?_⟩
  · by_cases hq : q = p
    · subst hq
      rw [mset_same] at e; cases e
      exact ⟨vs, upd_same, r.up st.up⟩
    · rw [mset_ne hq] at e
      obtain ⟨ws, h1, h2⟩ := k.cell q fs e
      exact ⟨ws, by rw [upd_ne hq]; exact h1, h2.up st.up⟩
  · obtain ⟨h1, o, h2⟩ := k.hid q e
    have nb : q ≠ p := fun z => by rw [z, h] at h1; cases h1
    exact ⟨by rw [mset_ne nb]; exact h1, o, by rw [upd_ne nb]; exact h2⟩
/-- a cell is frozen -/
theorem Ok.frz (k : Ok K n H m) {p : Addr} {ds : List D} (h : m p = some ds) : Step m H (mdel m p) H ∧ Ok K n H (mdel m p) ∧ Rp K (Bar n (mdel m p)) H (.ref p) (.lst ds) := by
  have st : Step m H (mdel m p) H := fun b o q e => by
    have nb : b ≠ p := fun z => by rw [z, h] at e; cases e
    exact ⟨q, by rw [mdel_ne nb]; exact e⟩
  refine ⟨st, ⟨fun q fs e => ?_, fun q e => ?_⟩, ?_⟩
  · by_cases hq : q = p
    · subst hq; rw [mdel_same] at e; cases e
    · rw [mdel_ne hq] at e
      obtain ⟨ws, h1, h2⟩ := k.cell q fs e
      exact ⟨ws, h1, h2.up st.up⟩
  · obtain ⟨h1, o, h2⟩ := k.hid q e
    have nb : q ≠ p := fun z => by rw [z, h] at h1; cases h1
    exact ⟨by rw [mdel_ne nb]; exact h1, o, h2⟩
  · obtain ⟨vs, h1, h2⟩ := k.cell p ds h
    refine .lst (.inl ⟨.inl h1, fun z => ?_⟩) (h2.up st.up)
    rcases z with z | ⟨fs, z⟩
    · obtain ⟨h3, _⟩ := k.hid p z; rw [h] at h3; cases h3
    · rw [mdel_same] at z; cases z
end

/-! slots -/
abbrev Dl := List (Option D)
def Slots (K : PySem.W.Frag) (B : Addr → Prop) (H : Hp) (s : St) (dl : Dl) : Prop := s.length = dl.length ∧ ∀ (i : Nat) (d : D), dl[i]? = some (some d) → ∃ v, s[i]? = some (some v) ∧ Rp K B H v d
section
variable {K : PySem.W.Frag} {B B' : Addr → Prop} {H H' : Hp} {s : St} {dl : Dl}
theorem Slots.up (g : Up B H B' H') (h : Slots K B H s dl) : Slots K B' H' s dl := ⟨h.1, fun i d e => let ⟨v, h1, h2⟩ := h.2 i d e; ⟨v, h1, h2.up g⟩⟩
theorem Slots.set (h : Slots K B H s dl) {v : V} {d : D} (r : Rp K B H v d) (i : Nat) : Slots K B H (s.set i (some v)) (dl.set i (some d)) := by
  refine ⟨by rw [List.length_set, List.length_set]; exact h.1, fun j e q => ?_⟩
  by_cases hj : i = j
  · subst hj
    by_cases hl : i < dl.length
    · rw [List.getElem?_set_self hl] at q
      cases q
      exact ⟨v, by rw [List.getElem?_set_self (by rw [h.1]; exact hl)], r⟩
    · rw [List.getElem?_eq_none (by simpa using hl)] at q; cases q
  · rw [List.getElem?_set_ne hj] at q
    obtain ⟨w, h1, h2⟩ := h.2 j e q
    exact ⟨w, by rw [List.getElem?_set_ne hj]; exact h1, h2⟩
theorem Slots.forget (h : Slots K B H s dl) (i : Nat) (x : Option V) : Slots K B H (s.set i x) (dl.set i none) := by
  refine ⟨by rw [List.length_set, List.length_set]; exact h.1, fun j e q => ?_⟩
  by_cases hj : i = j
  · subst hj
    by_cases hl : i < dl.length
    · rw [List.getElem?_set_self hl] at q; cases q
    · rw [List.getElem?_eq_none (by simpa using hl)] at q; cases q
  · rw [List.getElem?_set_ne hj] at q
    obtain ⟨w, h1, h2⟩ := h.2 j e q
    exact ⟨w, by rw [List.getElem?_set_ne hj]; exact h1, h2⟩
def wipeD (dl : Dl) : List Nat → Dl
  | [] => dl
  | v :: vs => (wipeD dl vs).set v none
theorem Slots.wipe (h : Slots K B H s dl) : ∀ vs : List Nat, Slots K B H (wipe s vs) (wipeD dl vs)
  | [] => h
  | v :: vs => (Slots.wipe h vs).forget v none
end
def startD (N : List Str) (ds : List D) : Dl := ds.map some ++ List.replicate (N.length - ds.length) none
theorem slots_start {K : PySem.W.Frag} {B : Addr → Prop} {H : Hp} {vs : List V} {ds : List D} (N : List Str) (r : Rps K B H vs ds) : Slots K B H (L2.start N vs) (startD N ds) := by
  have hl := r.length
  refine ⟨by unfold L2.start startD; simp [hl], fun i d e => ?_⟩
  unfold startD at e
  unfold L2.start
  by_cases hi : i < ds.length
  · rw [List.getElem?_append_left (by simpa using hi), List.getElem?_map] at e
    cases q : ds[i]? with
    | none => rw [q] at e; cases e
    | some d' =>
      rw [q] at e; cases e
      obtain ⟨x, h1, h2⟩ := r.get q
      exact ⟨x, by rw [List.getElem?_append_left (by simp [hl]; exact hi), List.getElem?_map, h1]; rfl, h2⟩
  · rw [List.getElem?_append_right (by simpa using hi), List.getElem?_replicate] at e
    split at e <;> cases e

/-! readings over data -/
abbrev DE := Dl → Mu → (D → Mu → Prop) → Prop
abbrev DT := Dl → Mu → (Bool → Mu → Prop) → Prop
abbrev DA := Dl → Mu → (List D → Mu → Prop) → Prop
structure DEnds where
  nx : Dl → Mu → Prop
  rt : D → Mu → Prop
  bk : Dl → Mu → Prop := fun _ _ => False
  ct : Dl → Mu → Prop := fun _ _ => False
abbrev DS := DEnds → Dl → Mu → Prop
def Post (K : PySem.W.Frag) (n : Addr → Prop) (m : Mu) (H : Hp) (F : D → Mu → Prop) (Q : VK) : Prop :=
  ∀ v H' d m', Step m H m' H' → Ok K n H' m' → Rp K (Bar n m') H' v d → F d m' → Q v H'
def LE (K : PySem.W.Frag) (te : TE) (de : DE) : Prop := ∀ n s dl H m F Q, Slots K (Bar n m) H s dl → Ok K n H m → de dl m F → Post K n m H F Q → te s H Q
def LT (K : PySem.W.Frag) (te : TT) (de : DT) : Prop := ∀ n s dl H m F Q, Slots K (Bar n m) H s dl → Ok K n H m → de dl m F →
  (∀ b H' m', Step m H m' H' → Ok K n H' m' → F b m' → Q b H') → te s H Q
def LA (K : PySem.W.Frag) (te : TA) (de : DA) : Prop := ∀ n s dl H m F Q, Slots K (Bar n m) H s dl → Ok K n H m → de dl m F →
  (∀ vs H' ds m', Step m H m' H' → Ok K n H' m' → Rps K (Bar n m') H' vs ds → F ds m' → Q vs H') → te s H Q
structure EndsOk (K : PySem.W.Frag) (n : Addr → Prop) (m : Mu) (H : Hp) (E : Ends) (G : DEnds) : Prop where
  nx : ∀ s dl H' m', Step m H m' H' → Ok K n H' m' → Slots K (Bar n m') H' s dl → G.nx dl m' → E.nx s H'
  rt : ∀ v d H' m', Step m H m' H' → Ok K n H' m' → Rp K (Bar n m') H' v d → G.rt d m' → E.rt v H'
  bk : ∀ s dl H' m', Step m H m' H' → Ok K n H' m' → Slots K (Bar n m') H' s dl → G.bk dl m' → E.bk s H'
  ct : ∀ s dl H' m', Step m H m' H' → Ok K n H' m' → Slots K (Bar n m') H' s dl → G.ct dl m' → E.ct s H'
def LS (K : PySem.W.Frag) (ts : TS) (ds : DS) : Prop := ∀ n s dl H m E G, Slots K (Bar n m) H s dl → Ok K n H m → ds G dl m → EndsOk K n m H E G → ts E s H
theorem EndsOk.step {K : PySem.W.Frag} {n : Addr → Prop} {m m' : Mu} {H H' : Hp} {E : Ends} {G : DEnds} (e : EndsOk K n m H E G) (g : Step m H m' H') : EndsOk K n m' H' E G :=
  ⟨fun s dl H2 m2 g2 => e.nx s dl H2 m2 (g.trans g2), fun v d H2 m2 g2 => e.rt v d H2 m2 (g.trans g2), fun s dl H2 m2 g2 => e.bk s dl H2 m2 (g.trans g2), fun s dl H2 m2 g2 => e.ct s dl H2 m2 (g.trans g2)⟩
theorem Post.step {K : PySem.W.Frag} {n : Addr → Prop} {m m' : Mu} {H H' : Hp} {F : D → Mu → Prop} {Q : VK} (p : Post K n m H F Q) (g : Step m H m' H') : Post K n m' H' F Q :=
  fun v H2 d m2 g2 => p v H2 d m2 (g.trans g2)

/-! over the syntax -/
def PD (X : Cx) (e : Expr) (de : DE) : Prop := ∃ te, PE X e te ∧ LE X.K te de
def PDT (X : Cx) (e : Expr) (de : DT) : Prop := ∃ te, PT X e te ∧ LT X.K te de
def PDW (X : Cx) (e : Expr) (de : DT) : Prop := ∃ te, PW X e te ∧ LT X.K te de
def PDA (X : Cx) (es : List Expr) (de : DA) : Prop := ∃ te, PA X es te ∧ LA X.K te de
def PDS (X : Cx) (st : Stmt) (ds : DS) : Prop := ∃ ts, PS X st ts ∧ LS X.K ts ds
def PDSs (X : Cx) (st : List Stmt) (ds : DS) : Prop := ∃ ts, PSs X st ts ∧ LS X.K ts ds

/-! names, constants -/
def nth {α : Type} : List α → Nat → Option α
  | [], _ => none
  | a :: _, 0 => some a
  | _ :: l, i + 1 => nth l i
theorem nth_eq {α : Type} : ∀ (l : List α) (i : Nat), nth l i = l[i]?
  | [], _ => by simp [nth]
  | _ :: _, 0 => by simp [nth]
  | _ :: l, i + 1 => by simp [nth, nth_eq l i]
def dVar (i : Nat) : DE := fun dl m F => match nth dl i with
  | some (some d) => F d m
  | _ => False
def dC (x : V) : DE := fun _ m F => F (.v x) m
section
variable {K : PySem.W.Frag}
theorem LE_var (i : Nat) : LE K (tVar i) (dVar i) := fun n s dl H m F Q hs ok h p => by
  unfold dVar at h
  rw [nth_eq] at h
  split at h
  · rename_i d e
    obtain ⟨v, h1, h2⟩ := hs.2 i d e
    exact ⟨v, h1, p v H d m Step.refl ok h2 h⟩
  · exact h.elim
theorem LE_c (x : V) : LE K (tC x) (dC x) := fun n s dl H m F Q hs ok h p => p x H (.v x) m Step.refl ok (.v x) h
end

/-! operations by values -/
abbrev RD2 := D → D → Mu → (D → Mu → Prop) → Prop
def L2r (K : PySem.W.Frag) (r : R2) (d : RD2) : Prop := ∀ n x y dx dy H m F Q, Ok K n H m → Rp K (Bar n m) H x dx → Rp K (Bar n m) H y dy → d dx dy m F → Post K n m H F Q → r x y H Q
def dOp (r : RD2) (da db : DE) : DE := fun dl m F => da dl m fun x m1 => db dl m1 fun y m2 => r x y m2 F
section
variable {K : PySem.W.Frag} {r : R2} {d : RD2} {ta tb : TE} {da db : DE}
theorem LE_op (hr : L2r K r d) (ha : LE K ta da) (hb : LE K tb db) : LE K (tOp r ta tb) (dOp d da db) := fun n s dl H m F Q hs ok h p => by
  refine ha n s dl H m _ _ hs ok h fun x H1 dx m1 g1 ok1 rx h1 => ?_
  refine hb n s dl H1 m1 _ _ (hs.up g1.up) ok1 h1 fun y H2 dy m2 g2 ok2 ry h2 => ?_
  exact hr n x y dx dy H2 m2 F Q ok2 (rx.up g2.up) ry h2 (p.step (g1.trans g2))
def dI (C : Int → Int → Prop) (g : Int → Int → V) : RD2 := fun x y m F => match x, y with
  | .v (.int i), .v (.int j) => C i j ∧ F (.v (g i j)) m
  | _, _ => False
def dI0 (g : Int → Int → V) : RD2 := fun x y m F => match x, y with
  | .v (.int i), .v (.int j) => F (.v (g i j)) m
  | _, _ => False
theorem L2_I (C : Int → Int → Prop) (g : Int → Int → V) : L2r K (rI C g) (dI C g) := fun n x y dx dy H m F Q ok rx ry h p => by
  unfold dI at h
  split at h
  · cases rx; cases ry
    exact ⟨_, _, rfl, rfl, h.1, p _ H _ m Step.refl ok (.v _) h.2⟩
  · exact h.elim
theorem L2_I0 (g : Int → Int → V) : L2r K (rI0 g) (dI0 g) := fun n x y dx dy H m F Q ok rx ry h p => by
  unfold dI0 at h
  split at h
  · cases rx; cases ry
    exact ⟨_, _, rfl, rfl, p _ H _ m Step.refl ok (.v _) h⟩
  · exact h.elim
def dEq (neg : Bool) : RD2 := fun x y m F => match x, y with
  | .v x, .v y => scal x y = true ∧ F (.v (.bl (neg ^^ decide (x = y)))) m
  | _, _ => False
theorem L2_eq : L2r K rEq (dEq false) := fun n x y dx dy H m F Q ok rx ry h p => by
  unfold dEq at h
  split at h
  · cases rx; cases ry
    exact ⟨h.1, p _ H _ m Step.refl ok (.v _) (by simpa using h.2)⟩
  · exact h.elim
theorem L2_ne : L2r K rNe (dEq true) := fun n x y dx dy H m F Q ok rx ry h p => by
  unfold dEq at h
  split at h
  · cases rx; cases ry
    exact ⟨h.1, p _ H _ m Step.refl ok (.v _) (by simpa using h.2)⟩
  · exact h.elim
abbrev RD1 := D → Mu → (D → Mu → Prop) → Prop
def L1r (K : PySem.W.Frag) (r : V → Hp → VK → Prop) (d : RD1) : Prop := ∀ n x dx H m F Q, Ok K n H m → Rp K (Bar n m) H x dx → d dx m F → Post K n m H F Q → r x H Q
def dUn (r : RD1) (da : DE) : DE := fun dl m F => da dl m fun x m1 => r x m1 F
theorem LE_un {r : V → Hp → VK → Prop} {d : RD1} (hr : L1r K r d) (ha : LE K ta da) : LE K (tUn r ta) (dUn d da) := fun n s dl H m F Q hs ok h p => by
  refine ha n s dl H m _ _ hs ok h fun x H1 dx m1 g1 ok1 rx h1 => ?_
  exact hr n x dx H1 m1 F Q ok1 rx h1 (p.step g1)
def dU (g : Int → V) : RD1 := fun x m F => match x with
  | .v (.int i) => F (.v (g i)) m
  | _ => False
theorem L1_U (g : Int → V) : L1r K (rU g) (dU g) := fun n x dx H m F Q ok rx h p => by
  unfold dU at h
  split at h
  · cases rx
    exact ⟨_, rfl, p _ H _ m Step.refl ok (.v _) h⟩
  · exact h.elim
end

/-! tests -/
def dTest (de : DE) : DT := fun dl m F => de dl m fun x m1 => match x with
  | .v (.bl b) => F b m1
  | _ => False
section
variable {K : PySem.W.Frag} {te : TE} {de : DE} {t u : TT} {dt du : DT}
theorem LT_test (h : LE K te de) : LT K (tTest te) (dTest de) := fun n s dl H m F Q hs ok hd p => by
  refine h n s dl H m _ _ hs ok hd fun x H1 dx m1 g1 ok1 rx h1 => ?_
  split at h1
  · cases rx; exact ⟨_, rfl, p _ H1 m1 g1 ok1 h1⟩
  · exact h1.elim
theorem LT_b (h : LE K te de) : LT K (tB te) (dTest de) := LT_test h
def dAnd (t u : DT) : DT := fun dl m F => t dl m fun c m1 => if c = true then u dl m1 F else F false m1
def dOr (t u : DT) : DT := fun dl m F => t dl m fun c m1 => if c = true then F true m1 else u dl m1 F
def dNot (t : DT) : DT := fun dl m F => t dl m fun c m1 => F (!c) m1
theorem LT_and (h : LT K t dt) (h' : LT K u du) : LT K (tAnd t u) (dAnd dt du) := fun n s dl H m F Q hs ok hd p => by
  refine h n s dl H m _ _ hs ok hd fun c H1 m1 g1 ok1 h1 => ?_
  cases c with
  | true => exact h' n s dl H1 m1 F Q (hs.up g1.up) ok1 h1 fun b H2 m2 g2 => p b H2 m2 (g1.trans g2)
  | false => exact p false H1 m1 g1 ok1 h1
theorem LT_or (h : LT K t dt) (h' : LT K u du) : LT K (tOr t u) (dOr dt du) := fun n s dl H m F Q hs ok hd p => by
  refine h n s dl H m _ _ hs ok hd fun c H1 m1 g1 ok1 h1 => ?_
  cases c with
  | false => exact h' n s dl H1 m1 F Q (hs.up g1.up) ok1 h1 fun b H2 m2 g2 => p b H2 m2 (g1.trans g2)
  | true => exact p true H1 m1 g1 ok1 h1
theorem LT_not (h : LT K t dt) : LT K (tNot t) (dNot dt) := fun n s dl H m F Q hs ok hd p => by
  exact h n s dl H m _ _ hs ok hd fun c H1 m1 g1 ok1 h1 => p (!c) H1 m1 g1 ok1 h1
/-- truth of a value that is an int, a bool, a list .. -/
def truD (d : D) (m : Mu) : Option Bool := match d with
  | .v .non => some false
  | .v (.bl b) => some b
  | .v (.int i) => some (i != 0)
  | .v (.ref p) => (m p).map fun ds => !ds.isEmpty
  | .tup ds => some (!ds.isEmpty)
  | .lst ds => some (!ds.isEmpty)
  | _ => none
end

/-! and, or, not as values; a if c else b -/
section
variable {K : PySem.W.Frag} {ta tb : TE} {da db : DE} {t : TT} {dt : DT}
def dAndV (da db : DE) : DE := fun dl m F => da dl m fun x m1 => match x with
  | .v (.bl c) => if c = true then db dl m1 F else F (.v (.bl false)) m1
  | _ => False
def dOrV (da db : DE) : DE := fun dl m F => da dl m fun x m1 => match x with
  | .v (.bl c) => if c = true then F (.v (.bl true)) m1 else db dl m1 F
  | _ => False
def dNotV (da : DE) : DE := fun dl m F => da dl m fun x m1 => match x with
  | .v (.bl c) => F (.v (.bl (!c))) m1
  | _ => False
def dIf (t : DT) (da db : DE) : DE := fun dl m F => t dl m fun c m1 => if c = true then da dl m1 F else db dl m1 F
theorem LE_andV (ha : LE K ta da) (hb : LE K tb db) : LE K (tAndV ta tb) (dAndV da db) := fun n s dl H m F Q hs ok hd p => by
  refine ha n s dl H m _ _ hs ok hd fun x H1 dx m1 g1 ok1 rx h1 => ?_
  split at h1
  · rename_i c
    cases rx
    refine ⟨c, rfl, ?_⟩
    cases c with
    | true => exact hb n s dl H1 m1 F Q (hs.up g1.up) ok1 h1 (p.step g1)
    | false => exact p _ H1 _ m1 g1 ok1 (.v _) h1
  · exact h1.elim
theorem LE_orV (ha : LE K ta da) (hb : LE K tb db) : LE K (tOrV ta tb) (dOrV da db) := fun n s dl H m F Q hs ok hd p => by
  refine ha n s dl H m _ _ hs ok hd fun x H1 dx m1 g1 ok1 rx h1 => ?_
  split at h1
  · rename_i c
    cases rx
    refine ⟨c, rfl, ?_⟩
    cases c with
    | false => exact hb n s dl H1 m1 F Q (hs.up g1.up) ok1 h1 (p.step g1)
    | true => exact p _ H1 _ m1 g1 ok1 (.v _) h1
  · exact h1.elim
theorem LE_notV (ha : LE K ta da) : LE K (tNotV ta) (dNotV da) := fun n s dl H m F Q hs ok hd p => by
  refine ha n s dl H m _ _ hs ok hd fun x H1 dx m1 g1 ok1 rx h1 => ?_
  split at h1
  · cases rx
    exact ⟨_, rfl, p _ H1 _ m1 g1 ok1 (.v _) h1⟩
  · exact h1.elim
theorem LE_if (ht : LT K t dt) (ha : LE K ta da) (hb : LE K tb db) : LE K (tIf t ta tb) (dIf dt da db) := fun n s dl H m F Q hs ok hd p => by
  refine ht n s dl H m _ _ hs ok hd fun c H1 m1 g1 ok1 h1 => ?_
  cases c with
  | true => exact ha n s dl H1 m1 F Q (hs.up g1.up) ok1 h1 (p.step g1)
  | false => exact hb n s dl H1 m1 F Q (hs.up g1.up) ok1 h1 (p.step g1)
end

/-! arguments, displays, calls -/
section
variable {K : PySem.W.Frag} {te : TE} {de : DE} {t u : TA} {dt du : DA}
def dNil : DA := fun _ m F => F [] m
def dCons (de : DE) (dt : DA) : DA := fun dl m F => de dl m fun x m1 => dt dl m1 fun xs m2 => F (x :: xs) m2
theorem LA_nil : LA K tNil dNil := fun n s dl H m F Q hs ok hd p => p [] H [] m Step.refl ok .nil hd
theorem LA_cons (ha : LE K te de) (hb : LA K t dt) : LA K (tCons te t) (dCons de dt) := fun n s dl H m F Q hs ok hd p => by
  refine ha n s dl H m _ _ hs ok hd fun x H1 dx m1 g1 ok1 rx h1 => ?_
  refine hb n s dl H1 m1 _ _ (hs.up g1.up) ok1 h1 fun xs H2 dxs m2 g2 ok2 rxs h2 => ?_
  exact p _ H2 _ m2 (g1.trans g2) ok2 (.cons (rx.up g2.up) rxs) h2
def dTup (dt : DA) : DE := fun dl m F => dt dl m fun ds m1 => ds.length ≤ sizeLine ∧ F (.tup ds) m1
def dLst (dt : DA) : DE := fun dl m F => dt dl m fun ds m1 => ds.length ≤ sizeLine ∧ F (.lst ds) m1
/-- a list that is to be changed later -/
def dLstO (dt : DA) : DE := fun dl m F => dt dl m fun ds m1 => ds.length ≤ sizeLine ∧ ∀ p, m1 p = none → F (.v (.ref p)) (mset m1 p ds)
theorem new_tup {n : Addr → Prop} {H : Hp} {m : Mu} {vs : List V} {ds : List D} (ok : Ok K n H m) (r : Rps K (Bar n m) H vs ds) {p : Addr} (hp : H p = none) :
    Step m H m (upd H p (.tup vs)) ∧ Ok K n (upd H p (.tup vs)) m ∧ Rp K (Bar n m) (upd H p (.tup vs)) (.ref p) (.tup ds) := by
  have sm := same_new hp (.tup vs)
  exact ⟨Step.same sm, ok.same sm, .tup (.inl ⟨.inl upd_same, ok.nbar hp⟩) (r.up (Step.same (m := m) sm).up)⟩
theorem new_lst {n : Addr → Prop} {H : Hp} {m : Mu} {vs : List V} {ds : List D} (ok : Ok K n H m) (r : Rps K (Bar n m) H vs ds) {p : Addr} (hp : H p = none) :
    Step m H m (upd H p (.lst vs)) ∧ Ok K n (upd H p (.lst vs)) m ∧ Rp K (Bar n m) (upd H p (.lst vs)) (.ref p) (.lst ds) := by
  have sm := same_new hp (.lst vs)
  exact ⟨Step.same sm, ok.same sm, .lst (.inl ⟨.inl upd_same, ok.nbar hp⟩) (r.up (Step.same (m := m) sm).up)⟩
theorem LE_tup (h : LA K t dt) : LE K (tTup t) (dTup dt) := fun n s dl H m F Q hs ok hd p => by
  refine h n s dl H m _ _ hs ok hd fun vs H1 ds m1 g1 ok1 r h1 => ⟨by rw [r.length]; exact h1.1, fun q hq => ?_⟩
  obtain ⟨g2, ok2, r2⟩ := new_tup ok1 r hq
  exact p _ _ _ m1 (g1.trans g2) ok2 r2 h1.2
theorem LE_lst (h : LA K t dt) : LE K (tLst t) (dLst dt) := fun n s dl H m F Q hs ok hd p => by
  refine h n s dl H m _ _ hs ok hd fun vs H1 ds m1 g1 ok1 r h1 => ⟨by rw [r.length]; exact h1.1, fun q hq => ?_⟩
  obtain ⟨g2, ok2, r2⟩ := new_lst ok1 r hq
  exact p _ _ _ m1 (g1.trans g2) ok2 r2 h1.2
theorem LE_lstO (h : LA K t dt) : LE K (tLst t) (dLstO dt) := fun n s dl H m F Q hs ok hd p => by
  refine h n s dl H m _ _ hs ok hd fun vs H1 ds m1 g1 ok1 r h1 => ⟨by rw [r.length]; exact h1.1, fun q hq => ?_⟩
  obtain ⟨g2, ok2⟩ := ok1.new hq r
  exact p _ _ _ _ (g1.trans g2) ok2 (.v _) (h1.2 q (ok1.none hq))

abbrev SpD := List D → Mu → (D → Mu → Prop) → Prop
/-- a def's promise over data -/
def spD (K : PySem.W.Frag) (S : SpD) : Sp := fun vs H Q _ => ∃ n ds m F, Ok K n H m ∧ Rps K (Bar n m) H vs ds ∧ S ds m F ∧ Post K n m H F Q
def dCall (S : SpD) (dt : DA) : DE := fun dl m F => dt dl m fun ds m1 => S ds m1 F
theorem LE_call {S : SpD} {E : XK} (h : LA K t dt) : LE K (tCall (spD K S) [] E t) (dCall S dt) := fun n s dl H m F Q hs ok hd p => by
  refine h n s dl H m _ _ hs ok hd fun vs H1 ds m1 g1 ok1 r h1 => ?_
  rw [List.append_nil]
  exact ⟨n, ds, m1, F, ok1, r, h1, p.step g1⟩
/-- a call of a built-in -/
def LC (K : PySem.W.Frag) (r : List V → Hp → VK → Prop) (S : SpD) : Prop := ∀ n vs ds H m F Q, Ok K n H m → Rps K (Bar n m) H vs ds → S ds m F → Post K n m H F Q → r vs H Q
theorem LE_cb {r : List V → Hp → VK → Prop} {S : SpD} (hr : LC K r S) (h : LA K t dt) : LE K (tCB r t) (dCall S dt) := fun n s dl H m F Q hs ok hd p => by
  refine h n s dl H m _ _ hs ok hd fun vs H1 ds m1 g1 ok1 r h1 => ?_
  exact hr n vs ds H1 m1 F Q ok1 r h1 (p.step g1)
/-- freezing what an expression gives -/
def dFrz (de : DE) : DE := fun dl m F => de dl m fun d m1 => match d with
  | .v (.ref p) => match m1 p with
    | some ds => F (.lst ds) (mdel m1 p)
    | none => False
  | _ => F d m1
theorem LE_frz (h : LE K te de) : LE K te (dFrz de) := fun n s dl H m F Q hs ok hd p => by
  refine h n s dl H m _ _ hs ok hd fun x H1 dx m1 g1 ok1 rx h1 => ?_
  split at h1
  · split at h1
    · rename_i ds e
      cases rx
      obtain ⟨g2, ok2, r2⟩ := ok1.frz e
      exact p _ _ _ _ (g1.trans g2) ok2 r2 h1
    · exact h1.elim
  · exact p _ _ _ _ g1 ok1 rx h1
end

/-! statements -/
section
variable {K : PySem.W.Frag} {te : TE} {de : DE} {t u : TS} {dt du : DS} {c : TT} {dc : DT}
def dNext : DS := fun G dl m => G.nx dl m
def dSeq (t u : DS) : DS := fun G dl m => t { G with nx := u G } dl m
theorem LS_next : LS K tNext dNext := fun n s dl H m E G hs ok h e => e.nx s dl H m Step.refl ok hs h
theorem LS_seq (h : LS K t dt) (h' : LS K u du) : LS K (tSeq t u) (dSeq dt du) := fun n s dl H m E G hs ok hd e =>
  h n s dl H m { E with nx := u E } { G with nx := du G } hs ok hd
    ⟨fun s' dl' H' m' g ok' hs' hd' => h' n s' dl' H' m' E G hs' ok' hd' (e.step g), e.rt, e.bk, e.ct⟩
def dBreak : DS := fun G dl m => G.bk dl m
def dCont : DS := fun G dl m => G.ct dl m
theorem LS_break : LS K tBreak dBreak := fun n s dl H m E G hs ok h e => e.bk s dl H m Step.refl ok hs h
theorem LS_cont : LS K tCont dCont := fun n s dl H m E G hs ok h e => e.ct s dl H m Step.refl ok hs h
def dDrop (de : DE) : DS := fun G dl m => de dl m fun _ m1 => G.nx dl m1
theorem LS_drop (h : LE K te de) : LS K (tDrop te) (dDrop de) := fun n s dl H m E G hs ok hd e =>
  h n s dl H m _ _ hs ok hd fun x H1 dx m1 g1 ok1 rx h1 => e.nx s dl H1 m1 g1 ok1 (hs.up g1.up) h1
def dRet (de : DE) : DS := fun G dl m => de dl m G.rt
theorem LS_ret (h : LE K te de) : LS K (tRet te) (dRet de) := fun n s dl H m E G hs ok hd e =>
  h n s dl H m _ _ hs ok hd fun x H1 dx m1 g1 ok1 rx h1 => e.rt x dx H1 m1 g1 ok1 rx h1
def dRetN : DS := fun G _ m => G.rt (.v .non) m
theorem LS_retN : LS K tRetN dRetN := fun n s dl H m E G hs ok hd e => e.rt .non _ H m Step.refl ok (.v _) hd
def dIfS (c : DT) (t u : DS) : DS := fun G dl m => c dl m fun b m1 => if b = true then t G dl m1 else u G dl m1
theorem LS_if (hc : LT K c dc) (h : LS K t dt) (h' : LS K u du) : LS K (tIfS c t u) (dIfS dc dt du) := fun n s dl H m E G hs ok hd e => by
  refine hc n s dl H m _ _ hs ok hd fun b H1 m1 g1 ok1 h1 => ?_
  cases b with
  | true => exact h n s dl H1 m1 E G (hs.up g1.up) ok1 h1 (e.step g1)
  | false => exact h' n s dl H1 m1 E G (hs.up g1.up) ok1 h1 (e.step g1)
def dNever : DS := fun _ _ _ => False
theorem LS_never : LS K tNever dNever := fun n s dl H m E G hs ok hd e => hd.elim
/-- the slot i, a cell, is frozen here -/
def dGFrz (i : Nat) (u : DS) : DS := fun G dl m => match nth dl i with
  | some (some (.v (.ref p))) => match m p with
    | some ds => u G (dl.set i (some (.lst ds))) (mdel m p)
    | none => False
  | _ => False
theorem LS_gfrz (i : Nat) (h : LS K u du) : LS K u (dGFrz i du) := fun n s dl H m E G hs ok hd e => by
  unfold dGFrz at hd
  rw [nth_eq] at hd
  split at hd
  · rename_i p q
    split at hd
    · rename_i ds e1
      obtain ⟨v, h1, h2⟩ := hs.2 i _ q
      cases h2
      obtain ⟨g2, ok2, r2⟩ := ok.frz e1
      refine h n s _ H _ E G ?_ ok2 hd (e.step g2)
      have z := (hs.up (Step.up (n := n) g2)).set r2 i
      have e2 : s.set i (some (.ref p)) = s := by
        refine List.ext_getElem? fun j => ?_
        by_cases hj : i = j
        · subst hj
          rw [List.getElem?_set_self (List.getElem?_eq_some_iff.mp h1).1, h1]
        · rw [List.getElem?_set_ne hj]
      rw [e2] at z
      exact z
    · exact hd.elim
  · exact hd.elim
end

/-! targets -/
section
variable {K : PySem.W.Frag} {te : TE} {de : DE}
abbrev DG := D → Dl → Mu → (Dl → Mu → Prop) → Prop
abbrev DGs := List D → Dl → Mu → (Dl → Mu → Prop) → Prop
/-- alike outside of ts -/
def Alike (ts : List Nat) (s s' : St) : Prop := s'.length = s.length ∧ ∀ j, j ∉ ts → s'[j]? = s[j]?
theorem Alike.refl {ts : List Nat} {s : St} : Alike ts s s := ⟨rfl, fun _ _ => rfl⟩
theorem Alike.trans {ts us : List Nat} {s s1 s2 : St} (a : Alike ts s s1) (b : Alike us s1 s2) : Alike (ts ++ us) s s2 :=
  ⟨b.1.trans a.1, fun j hj => (b.2 j fun z => hj (List.mem_append_right _ z)).trans (a.2 j fun z => hj (List.mem_append_left _ z))⟩
theorem wipe_get {s : St} {j : Nat} : ∀ {vs : List Nat}, j ∉ vs → (wipe s vs)[j]? = s[j]?
  | [], _ => rfl
  | v :: vs, h => by
    unfold wipe
    rw [List.getElem?_set_ne (fun e => h (by rw [e]; exact List.mem_cons_self)), wipe_get (fun z => h (List.mem_cons_of_mem _ z))]
theorem wipe_in {s : St} {j : Nat} : ∀ {vs : List Nat}, j ∈ vs → j < s.length → (wipe s vs)[j]? = some none
  | [], h, _ => by simp at h
  | v :: vs, h, hl => by
    unfold wipe
    by_cases e : v = j
    · subst e
      rw [List.getElem?_set_self (by rw [wipe_length]; exact hl)]
    · rw [List.getElem?_set_ne e]
      exact wipe_in (by rcases List.mem_cons.mp h with z | z; exact absurd z.symm e; exact z) hl
theorem Alike.wipe {ts : List Nat} {s s' : St} (a : Alike ts s s') : wipe s' ts = wipe s ts := by
  refine List.ext_getElem? fun j => ?_
  by_cases hj : j ∈ ts
  · by_cases hl : j < s.length
    · rw [wipe_in hj hl, wipe_in hj (by rw [a.1]; exact hl)]
    · rw [List.getElem?_eq_none (by rw [wipe_length, a.1]; omega), List.getElem?_eq_none (by rw [wipe_length]; omega)]
  · rw [wipe_get hj, wipe_get hj, a.2 j hj]
theorem wipe_wipe {s : St} {vs : List Nat} : wipe (wipe s vs) vs = wipe s vs := by
  refine List.ext_getElem? fun j => ?_
  by_cases hj : j ∈ vs
  · by_cases hl : j < s.length
    · rw [wipe_in hj hl, wipe_in hj (by rw [wipe_length]; exact hl)]
    · rw [List.getElem?_eq_none (by rw [wipe_length, wipe_length]; omega), List.getElem?_eq_none (by rw [wipe_length]; omega)]
  · rw [wipe_get hj, wipe_get hj]
def LG (K : PySem.W.Frag) (ts : List Nat) (g : TG) (dg : DG) : Prop := ∀ n s dl H m v d (F : Dl → Mu → Prop) (Q : St → Hp → Prop), Slots K (Bar n m) H s dl → Ok K n H m → Rp K (Bar n m) H v d → dg d dl m F →
  (∀ s' dl' H' m', Step m H m' H' → Ok K n H' m' → Slots K (Bar n m') H' s' dl' → Alike ts s s' → F dl' m' → Q s' H') → g v s H Q
def LGs (K : PySem.W.Frag) (ts : List Nat) (g : TGs) (dg : DGs) : Prop := ∀ n s dl H m vs ds (F : Dl → Mu → Prop) (Q : St → Hp → Prop), Slots K (Bar n m) H s dl → Ok K n H m → Rps K (Bar n m) H vs ds → dg ds dl m F →
  (∀ s' dl' H' m', Step m H m' H' → Ok K n H' m' → Slots K (Bar n m') H' s' dl' → Alike ts s s' → F dl' m' → Q s' H') → g vs s H Q
def dgName (i : Nat) : DG := fun d dl m F => F (dl.set i (some d)) m
theorem LG_name (i : Nat) : LG K [i] (gName i) (dgName i) := fun n s dl H m v d F Q hs ok r h p =>
  p _ _ H m Step.refl ok (hs.set r i) ⟨List.length_set .., fun j hj => List.getElem?_set_ne (fun e => hj (by simp [e]))⟩ h
def dgNil : DGs := fun ds dl m F => match ds with
  | [] => F dl m
  | _ => False
def dgCons (g : DG) (gs : DGs) : DGs := fun ds dl m F => match ds with
  | d :: r => g d dl m fun dl' m' => gs r dl' m' F
  | [] => False
theorem LGs_nil : LGs K [] gNil dgNil := fun n s dl H m vs ds F Q hs ok r h p => by
  unfold dgNil at h
  split at h
  · cases r; exact ⟨rfl, p s dl H m Step.refl ok hs Alike.refl h⟩
  · exact h.elim
theorem LGs_cons {ts us : List Nat} {g : TG} {dg : DG} {gs : TGs} {dgs : DGs} (h : LG K ts g dg) (h' : LGs K us gs dgs) : LGs K (ts ++ us) (gCons g gs) (dgCons dg dgs) := fun n s dl H m vs ds F Q hs ok r hd p => by
  unfold dgCons at hd
  split at hd
  · cases r with
    | cons r rs =>
      refine ⟨_, _, rfl, h n s dl H m _ _ _ _ hs ok r hd fun s1 dl1 H1 m1 g1 ok1 hs1 a1 hd1 => ?_⟩
      exact h' n s1 dl1 H1 m1 _ _ F Q hs1 ok1 (rs.up g1.up) hd1 fun s2 dl2 H2 m2 g2 ok2 hs2 a2 => p s2 dl2 H2 m2 (g1.trans g2) ok2 hs2 (a1.trans a2)
  · exact hd.elim
def dgTup (k : Nat) (g : DGs) : DG := fun d dl m F => match d with
  | .tup ds => ds.length = k ∧ g ds dl m F
  | _ => False
theorem LG_tup {ts : List Nat} {k : Nat} {g : TGs} {dg : DGs} (h : LGs K ts g dg) : LG K ts (gTup K k g) (dgTup k dg) := fun n s dl H m v d F Q hs ok r hd p => by
  unfold dgTup at hd
  split at hd
  · obtain ⟨a, vs, rfl, hq, rs⟩ := r.tupInv
    exact ⟨a, vs, rfl, hq, by rw [rs.length]; exact hd.1, h n s dl H m _ _ F Q hs ok rs hd.2 p⟩
  · exact hd.elim
/-- o[i] = .. of a cell -/
def dgSub (eo ei : DE) : DG := fun d dl m F => eo dl m fun o m1 => ei dl m1 fun i m2 => match o, i with
  | .v (.ref p), .v (.int k) => match m2 p with
    | some ds => ∃ j, ixN ds.length k = some j ∧ F dl (mset m2 p (ds.set j d))
    | none => False
  | _, _ => False
theorem LG_sub {to ti : TE} {eo ei : DE} (ho : LE K to eo) (hi : LE K ti ei) : LG K [] (gSub to ti rSetL) (dgSub eo ei) := fun n s dl H m v d F Q hs ok r hd p => by
  refine ho n s dl H m _ _ hs ok hd fun o H1 dO m1 g1 ok1 ro h1 => ?_
  refine hi n s dl H1 m1 _ _ (hs.up g1.up) ok1 h1 fun i H2 dI m2 g2 ok2 ri h2 => ?_
  split at h2
  · split at h2
    · rename_i ds e1
      obtain ⟨j, e2, h2⟩ := h2
      have ro' := ro.vInv
      have ri' := ri.vInv
      subst ro' ri'
      obtain ⟨vs, q1, q2⟩ := ok2.cell _ _ e1
      have g12 := g1.trans g2
      obtain ⟨g3, ok3⟩ := ok2.put e1 (Rps.set (r.up g12.up) j q2)
      exact ⟨_, vs, _, j, rfl, rfl, q1, by rw [q2.length]; exact e2, p s dl _ _ (g12.trans g3) ok3 (hs.up (g12.trans g3).up) Alike.refl h2⟩
    · exact h2.elim
  · exact h2.elim
/-- o[k] = .., k written -/
def dgSubC (k : Nat) (eo : DE) : DG := fun d dl m F => eo dl m fun o m2 => match o with
  | .v (.ref p) => match m2 p with
    | some ds => k < ds.length ∧ F dl (mset m2 p (ds.set k d))
    | none => False
  | _ => False
theorem ixN_lit {n k : Nat} (h : k < n) : ixN n (k : Int) = some k := by
  unfold ixN
  rw [if_pos (by omega), if_pos (by omega)]
  simp
theorem LG_subC (k : Nat) {to : TE} {eo : DE} (ho : LE K to eo) : LG K [] (gSub to (tC (.int (k : Int))) rSetL) (dgSubC k eo) := fun n s dl H m v d F Q hs ok r hd p => by
  refine ho n s dl H m _ _ hs ok hd fun o H1 dO m1 g1 ok1 ro h1 => ?_
  split at h1
  · split at h1
    · rename_i ds e1
      have ro' := ro.vInv
      subst ro'
      obtain ⟨vs, q1, q2⟩ := ok1.cell _ _ e1
      obtain ⟨g3, ok3⟩ := ok1.put e1 (Rps.set (r.up g1.up) k q2)
      exact ⟨_, vs, _, k, rfl, rfl, q1, by rw [q2.length]; exact ixN_lit h1.1, p s dl _ _ (g1.trans g3) ok3 (hs.up (g1.trans g3).up) Alike.refl h1.2⟩
    · exact h1.elim
  · exact h1.elim
def dAsg (de : DE) (g : DG) : DS := fun G dl m => de dl m fun x m1 => g x dl m1 G.nx
theorem LS_asg {ts : List Nat} {g : TG} {dg : DG} (h : LE K te de) (hg : LG K ts g dg) : LS K (tAsg te g) (dAsg de dg) := fun n s dl H m E G hs ok hd e => by
  refine h n s dl H m _ _ hs ok hd fun x H1 dx m1 g1 ok1 rx h1 => ?_
  exact hg n s dl H1 m1 x dx _ _ (hs.up g1.up) ok1 rx h1 fun s2 dl2 H2 m2 g2 ok2 hs2 _ h2 => e.nx s2 dl2 H2 m2 (g1.trans g2) ok2 hs2 h2
def dPar (i j : Nat) (dt : DA) : DS := fun G dl m => dt dl m fun ds m1 => match ds with
  | [a, b] => G.nx ((dl.set i (some a)).set j (some b)) m1
  | _ => False
theorem LS_par {i j : Nat} {t : TA} {dt : DA} (h : LA K t dt) : LS K (tPar i j t) (dPar i j dt) := fun n s dl H m E G hs ok hd e => by
  refine h n s dl H m _ _ hs ok hd fun vs H1 ds m1 g1 ok1 r h1 => ?_
  split at h1
  · cases r with
    | cons r1 r =>
      cases r with
      | cons r2 r =>
        cases r
        exact ⟨_, _, rfl, e.nx _ _ H1 m1 g1 ok1 (((hs.up g1.up).set r1 i).set r2 j) h1⟩
  · exact h1.elim
end
end DL

set_option Elab.async false
set_option linter.all false
set_option maxRecDepth 100000
namespace DL
open PySem L2

/-! loops -/
section
variable {K : PySem.W.Frag}
abbrev DI := Dl → Mu → (List D → Mu → Prop) → Prop
/-- J walks the data xs, as long as what was shared at (n, m, H) stays -/
def Walks (K : PySem.W.Frag) (n : Addr → Prop) (m : Mu) (H : Hp) (J : It) (xs : List D) : Prop :=
  ∀ n' m' H' i, Up (Bar n m) H (Bar n' m') H' → Ok K n' H' m' →
    (∀ x, xs[i]? = some x → J.go i H' ∧ ∀ v H2, J.yld i H' v H2 → Step m' H' m' H2 ∧ Ok K n' H2 m' ∧ Rp K (Bar n' m') H2 v x) ∧ (xs.length ≤ i → J.stop i H')
def LI (K : PySem.W.Frag) (wi : TI) (di : DI) : Prop := ∀ n s dl H m (F : List D → Mu → Prop) (R : It → Hp → Prop), Slots K (Bar n m) H s dl → Ok K n H m → di dl m F →
  (∀ J H1 xs m1, Step m H m1 H1 → Ok K n H1 m1 → Walks K n m1 H1 J xs → F xs m1 → R J H1) → wi s H R
def dFor (di : DI) (g : DG) (b : DS) : DS := fun G dl m => di dl m fun xs m1 => ∃ I : Nat → Dl → Mu → Prop, I 0 dl m1 ∧ ∀ i dl m, I i dl m →
  match xs[i]? with
  | none => G.nx dl m
  | some x => g x dl m fun dl2 m2 => b { G with nx := I (i + 1), ct := I (i + 1), bk := G.nx } dl2 m2
theorem LS_for {wi : TI} {di : DI} {ts : List Nat} {g : TG} {dg : DG} {tb : TS} {db : DS} (hi : LI K wi di) (hg : LG K ts g dg) (hb : LS K tb db) : LS K (tFor wi g tb) (dFor di dg db) := fun n s dl H m E G hs ok hd e => by
  refine hi n s dl H m _ _ hs ok hd fun J H1 xs m1 g1 ok1 W ⟨I, i0, step⟩ => ?_
  refine ⟨fun i k s' H' => k = xs.length - i ∧ i ≤ xs.length ∧ ∃ dl' m', Step m1 H1 m' H' ∧ Ok K n H' m' ∧ Slots K (Bar n m') H' s' dl' ∧ I i dl' m',
    ⟨xs.length, by simp, Nat.zero_le _, dl, m1, Step.refl, ok1, hs.up g1.up, i0⟩, ?_⟩
  rintro i k s' H' ⟨rfl, hi', dl', m', g2, ok2, hs2, iv⟩
  have st := step i dl' m' iv
  have w := W n m' H' i g2.up ok2
  by_cases hlt : i < xs.length
  · have ex : xs[i]? = some xs[i] := List.getElem?_eq_getElem hlt
    rw [ex] at st
    obtain ⟨go, yl⟩ := w.1 _ ex
    refine .inr ⟨go, fun s' H' => ∃ dl' m', Step m1 H1 m' H' ∧ Ok K n H' m' ∧ Slots K (Bar n m') H' s' dl' ∧ I (i + 1) dl' m',
      fun s3 H3 ⟨dl3, m3, g3, ok3, hs3, iv3⟩ => ⟨xs.length - (i + 1), by omega, rfl, hlt, dl3, m3, g3, ok3, hs3, iv3⟩, fun v H3 y => ?_⟩
    obtain ⟨g3, ok3, rv⟩ := yl v H3 y
    refine hg n s' dl' H3 m' v _ _ _ (hs2.up g3.up) ok3 rv st fun s4 dl4 H4 m4 g4 ok4 hs4 _ h4 => ?_
    have g14 := g2.trans (g3.trans g4)
    have e4 := e.step (g1.trans g14)
    refine hb n s4 dl4 H4 m4 _ _ hs4 ok4 h4 ⟨fun s5 dl5 H5 m5 g5 ok5 hs5 h5 => ⟨dl5, m5, g14.trans g5, ok5, hs5, h5⟩, e4.rt, e4.nx, fun s5 dl5 H5 m5 g5 ok5 hs5 h5 => ⟨dl5, m5, g14.trans g5, ok5, hs5, h5⟩⟩
  · have hle : xs.length ≤ i := by omega
    rw [List.getElem?_eq_none hle] at st
    exact .inl ⟨w.2 hle, e.nx s' dl' H' m' (g1.trans g2) ok2 hs2 st⟩
def dWhile (c : DT) (b : DS) : DS := fun G dl m => ∃ I : Nat → Dl → Mu → Prop, (∃ k, I k dl m) ∧ ∀ k dl m, I k dl m → c dl m fun t m1 =>
  if t = true then b { G with nx := fun dl m => ∃ k', k' < k ∧ I k' dl m, ct := fun dl m => ∃ k', k' < k ∧ I k' dl m, bk := G.nx } dl m1 else G.nx dl m1
theorem LS_while {c : TT} {dc : DT} {tb : TS} {db : DS} (hc : LT K c dc) (hb : LS K tb db) : LS K (tWhile c tb) (dWhile dc db) := fun n s dl H m E G hs ok ⟨I, ⟨k0, i0⟩, step⟩ e => by
  refine ⟨fun k s' H' => ∃ dl' m', Step m H m' H' ∧ Ok K n H' m' ∧ Slots K (Bar n m') H' s' dl' ∧ I k dl' m', ⟨k0, dl, m, Step.refl, ok, hs, i0⟩, ?_⟩
  rintro k s' H' ⟨dl', m', g1, ok1, hs1, iv⟩
  refine hc n s' dl' H' m' _ _ hs1 ok1 (step k dl' m' iv) fun b H2 m2 g2 ok2 h2 => ?_
  have g12 := g1.trans g2
  have e2 := e.step g12
  cases b with
  | true =>
    refine ⟨fun s3 H3 => ∃ k', k' < k ∧ ∃ dl' m', Step m H m' H3 ∧ Ok K n H3 m' ∧ Slots K (Bar n m') H3 s3 dl' ∧ I k' dl' m', fun s3 H3 h => h, ?_⟩
    exact hb n s' dl' H2 m2 _ _ (hs1.up g2.up) ok2 h2 ⟨fun s5 dl5 H5 m5 g5 ok5 hs5 ⟨k', hk, h5⟩ => ⟨k', hk, dl5, m5, g12.trans g5, ok5, hs5, h5⟩, e2.rt, e2.nx, fun s5 dl5 H5 m5 g5 ok5 hs5 ⟨k', hk, h5⟩ => ⟨k', hk, dl5, m5, g12.trans g5, ok5, hs5, h5⟩⟩
  | false => exact e2.nx s' dl' H2 m2 Step.refl ok2 (hs1.up g2.up) h2
/-! comprehensions -/
def dLc (di : DI) (g : DG) (t : DT) (de : DE) (vs : List Nat) : DE := fun dl m F => di dl m fun xs m1 => xs.length ≤ sizeLine ∧ ∃ I : Nat → List D → Mu → Prop, I 0 [] m1 ∧ ∀ i acc m, I i acc m →
  match xs[i]? with
  | none => F (.lst acc) m
  | some x => g x (wipeD dl vs) m fun dl2 m2 => t dl2 m2 fun b m3 => if b = true then de dl2 m3 fun y m4 => I (i + 1) (acc ++ [y]) m4 else I (i + 1) acc m3
/-- one more hidden address -/
def hideA (n : Addr → Prop) (a : Addr) : Addr → Prop := fun b => n b ∨ b = a
theorem up_hide {n : Addr → Prop} {m m' : Mu} {H H' : Hp} {a : Addr} (g : Step m H m' H') (ha : H a = none) : Up (Bar n m) H (Bar (hideA n a) m') H' := fun b o h nb => by
  have z := (g.up (n := n)) b o h nb
  refine ⟨z.1, fun q => ?_⟩
  rcases q with (q | q) | q
  · exact nb (.inl q)
  · rw [q, ha] at h; cases h
  · exact z.2 (.inr q)
theorem Ok.toHid {n : Addr → Prop} {m : Mu} {H : Hp} (k : Ok K n H m) {a : Addr} {vs : List V} (h : H a = .none) : Ok K (hideA n a) (upd H a (.lst vs)) m := by
  have sm := same_new h (.lst vs)
  refine ⟨fun p ds e => ?_, fun p e => ?_⟩
  · obtain ⟨ws, h1, h2⟩ := k.cell p ds e
    exact ⟨ws, sm _ _ h1, h2.up (up_hide (Step.same sm) h)⟩
  · rcases e with e | e
    · obtain ⟨h1, o, h2⟩ := k.hid p e
      exact ⟨h1, o, sm _ _ h2⟩
    · exact ⟨by rw [e]; exact k.none h, _, by rw [e]; exact upd_same⟩
/-- what is hidden may be written -/
theorem Ok.hput {n : Addr → Prop} {m : Mu} {H : Hp} {a : Addr} {vs ws : List V} (k : Ok K (hideA n a) H m) (h : H a = some (.lst vs)) :
    Up (Bar (hideA n a) m) H (Bar (hideA n a) m) (upd H a (.lst ws)) ∧ Ok K (hideA n a) (upd H a (.lst ws)) m := by
  have up : Up (Bar (hideA n a) m) H (Bar (hideA n a) m) (upd H a (.lst ws)) := fun b o q nb => by
    have ne : b ≠ a := fun z => nb (.inl (.inr z))
    exact ⟨by rw [upd_ne ne]; exact q, nb⟩
  refine ⟨up, fun p ds e => ?_, fun p e => ?_⟩
  · obtain ⟨us, h1, h2⟩ := k.cell p ds e
    have ne : p ≠ a := fun z => by
      have := (k.hid a (.inr rfl)).1
      rw [← z, e] at this; cases this
    exact ⟨us, by rw [upd_ne ne]; exact h1, h2.up up⟩
  · obtain ⟨h1, o, h2⟩ := k.hid p e
    by_cases ne : p = a
    · subst ne; exact ⟨h1, _, upd_same⟩
    · exact ⟨h1, o, by rw [upd_ne ne]; exact h2⟩
theorem Ok.unhide {n : Addr → Prop} {m : Mu} {H : Hp} {a : Addr} (k : Ok K (hideA n a) H m) : Ok K n H m := by
  have up : Up (Bar (hideA n a) m) H (Bar n m) H := fun b o q nb => ⟨q, fun z => nb (z.elim (fun z => .inl (.inl z)) .inr)⟩
  exact ⟨fun p ds e => let ⟨us, h1, h2⟩ := k.cell p ds e; ⟨us, h1, h2.up up⟩, fun p e => k.hid p (.inl e)⟩
theorem LE_lc {wi : TI} {di : DI} {vs : List Nat} {g : TG} {dg : DG} {tt : TT} {dt : DT} {te : TE} {de : DE} (hi : LI K wi di) (hg : LG K vs g dg) (ht : LT K tt dt) (he : LE K te de) : LE K (tLc wi g tt te vs) (dLc di dg dt de vs) := fun n s dl H m F Q hs ok hd p => by
  refine hi n s dl H m _ _ hs ok hd fun J H1 xs m1 g1 ok1 W ⟨hz, I, i0, step⟩ A hA => ?_
  have hs1 := (hs.up g1.up).wipe vs
  -- the state behind turn i
  refine ⟨fun i k H' => k = xs.length - i ∧ i ≤ xs.length ∧ ∃ acc ds m', acc.length ≤ i ∧ Step m1 H1 m' H' ∧ H' A = some (.lst acc) ∧ Ok K (hideA n A) H' m' ∧ Rps K (Bar (hideA n A) m') H' acc ds ∧ I i ds m',
    ⟨xs.length, by simp, Nat.zero_le _, [], [], m1, Nat.le_refl _, Step.same (same_new hA _), upd_same, ok1.toHid hA, .nil, i0⟩, ?_⟩
  rintro i k H' ⟨rfl, hi', acc, ds, m', hl, g2, hA2, ok2, rs, iv⟩
  have st := step i ds m' iv
  have up2 : Up (Bar n m1) H1 (Bar (hideA n A) m') H' := up_hide g2 hA
  have w := W (hideA n A) m' H' i up2 ok2
  by_cases hlt : i < xs.length
  · have ex : xs[i]? = some xs[i] := List.getElem?_eq_getElem hlt
    rw [ex] at st
    obtain ⟨go, yl⟩ := w.1 _ ex
    refine .inr ⟨go, fun H' => ∃ acc ds m', acc.length ≤ i + 1 ∧ Step m1 H1 m' H' ∧ H' A = some (.lst acc) ∧ Ok K (hideA n A) H' m' ∧ Rps K (Bar (hideA n A) m') H' acc ds ∧ I (i + 1) ds m',
      fun H3 h3 => ⟨xs.length - (i + 1), by omega, rfl, hlt, h3⟩, fun v H3 y => ?_⟩
    obtain ⟨g3, ok3, rv⟩ := yl v H3 y
    have mA : m' A = none := (ok2.hid A (.inr rfl)).1
    refine hg (hideA n A) (wipe s vs) (wipeD dl vs) H3 m' v _ _ _ ((hs1.up up2).up g3.up) ok3 rv st fun s4 dl4 H4 m4 g4 ok4 hs4 al h4 => ?_
    refine ⟨by rw [al.wipe, wipe_wipe], ?_⟩
    refine ht (hideA n A) s4 dl4 H4 m4 _ _ hs4 ok4 h4 fun b H5 m5 g5 ok5 h5 => ?_
    have g35 := g3.trans (g4.trans g5)
    cases b with
    | false =>
      rw [if_neg Bool.false_ne_true] at h5 ⊢
      have kA := g35 A _ hA2 mA
      exact ⟨acc, ds, m5, by omega, g2.trans g35, kA.1, ok5, rs.up g35.up, h5⟩
    | true =>
      rw [if_pos rfl] at h5 ⊢
      refine he (hideA n A) s4 dl4 H5 m5 _ _ (hs4.up g5.up) ok5 h5 fun x H6 dx m6 g6 ok6 rx h6 => ?_
      have g36 := g35.trans g6
      have kA := g36 A _ hA2 mA
      obtain ⟨up7, ok7⟩ := ok6.hput (ws := acc ++ [x]) kA.1
      refine ⟨acc, kA.1, by omega, acc ++ [x], ds ++ [dx], m6, by simp; omega, ?_, upd_same, ok7, (((rs.up g36.up).append (.cons rx .nil)).up up7), h6⟩
      intro b o q e
      have ne : b ≠ A := fun z => by rw [z, hA] at q; cases q
      have z := (g2.trans g36) b o q e
      exact ⟨by rw [upd_ne ne]; exact z.1, z.2⟩
  · have hle : xs.length ≤ i := by omega
    rw [List.getElem?_eq_none hle] at st
    refine .inl ⟨w.2 hle, ?_⟩
    have ok3 := ok2.unhide
    have mA : m' A = none := (ok2.hid A (.inr rfl)).1
    have up : Up (Bar (hideA n A) m') H' (Bar n m') H' := fun b o q nb => ⟨q, fun z => nb (z.elim (fun z => .inl (.inl z)) .inr)⟩
    refine p (.ref A) H' (.lst ds) m' (g1.trans g2) ok3 (.lst (.inl ⟨.inl hA2, fun z => ?_⟩) (rs.up up)) st
    rcases z with z | ⟨fs, z⟩
    · obtain ⟨_, o, q⟩ := ok1.hid A z
      rw [hA] at q; cases q
    · rw [mA] at z; cases z
/-! what is walked -/
/-- the items of a list, a tuple, a cell's list that stands still -/
def diSeq (de : DE) : DI := fun dl m F => de dl m fun d m1 => match d with
  | .lst ds => F ds m1
  | _ => False
def diTup (de : DE) : DI := fun dl m F => de dl m fun d m1 => match d with
  | .tup ds => F ds m1
  | _ => False
theorem LI_list {te : TE} {de : DE} (h : LE K te de) : LI K (iList K te) (diSeq de) := fun n s dl H m F R hs ok hd p => by
  refine h n s dl H m _ _ hs ok hd fun x H1 dx m1 g1 ok1 rx h1 => ?_
  split at h1
  · rename_i ds
    cases rx with
    | @lst a vs _ hv rs =>
      have rd : ∀ {n' m' H'}, Up (Bar n m1) H1 (Bar n' m') H' → SqL K H' a vs := fun {n' m' H'} up => by
        rcases hv with hv | hv
        · exact .inl (Rd.up hv up).1
        · exact .inr hv
      refine ⟨a, rfl, ⟨vs, rd (Step.refl.up)⟩, p _ H1 ds m1 g1 ok1 (fun n' m' H' i up ok' => ⟨fun x ex => ?_, fun hl => ⟨vs, rd up, by rw [rs.length]; exact hl⟩⟩) h1⟩
      obtain ⟨v, ev, rv⟩ := rs.get ex
      refine ⟨⟨vs, v, rd up, ev⟩, fun v' H2 y => ?_⟩
      obtain ⟨e1, y⟩ := y
      subst e1
      have e2 := y vs (rd up)
      rw [ev] at e2; cases e2
      exact ⟨Step.refl, ok', rv.up up⟩
  · exact h1.elim
theorem LI_tup {te : TE} {de : DE} (h : LE K te de) : LI K (iTup K te) (diTup de) := fun n s dl H m F R hs ok hd p => by
  refine h n s dl H m _ _ hs ok hd fun x H1 dx m1 g1 ok1 rx h1 => ?_
  split at h1
  · rename_i ds
    cases rx with
    | @tup a vs _ hv rs =>
      have rd : ∀ {n' m' H'}, Up (Bar n m1) H1 (Bar n' m') H' → SqT K H' a vs := fun {n' m' H'} up => by
        rcases hv with hv | hv
        · exact .inl (Rd.up hv up).1
        · exact .inr hv
      refine ⟨a, rfl, ⟨vs, rd (Step.refl.up)⟩, p _ H1 ds m1 g1 ok1 (fun n' m' H' i up ok' => ⟨fun x ex => ?_, fun hl => ⟨vs, rd up, by rw [rs.length]; exact hl⟩⟩) h1⟩
      obtain ⟨v, ev, rv⟩ := rs.get ex
      refine ⟨⟨vs, v, rd up, ev⟩, fun v' H2 y => ?_⟩
      obtain ⟨e1, y⟩ := y
      subst e1
      have e2 := y vs (rd up)
      rw [ev] at e2; cases e2
      exact ⟨Step.refl, ok', rv.up up⟩
  · exact h1.elim
def rng (lo : Int) (k : Nat) : List D := (List.range k).map fun i => .v (.int (lo + (i : Nat)))
theorem rng_length {lo : Int} {k : Nat} : (rng lo k).length = k := by simp [rng]
theorem rng_get {lo : Int} {k i : Nat} (h : i < k) : (rng lo k)[i]? = some (.v (.int (lo + (i : Nat)))) := by
  simp [rng, List.getElem?_range h]
theorem walks_rng {n : Addr → Prop} {m : Mu} {H : Hp} (lo : Int) (k : Nat) : Walks K n m H (Itr lo k) (rng lo k) := fun n' m' H' i up ok' => by
  refine ⟨fun x ex => ?_, fun hl => by rw [rng_length] at hl; exact hl⟩
  have hlt : i < k := by
    have := (List.getElem?_eq_some_iff.mp ex).1
    rw [rng_length] at this; exact this
  rw [rng_get hlt] at ex
  cases ex
  refine ⟨hlt, fun v H2 y => ?_⟩
  obtain ⟨e1, e2⟩ := y
  subst e1 e2
  exact ⟨Step.refl, ok', .v _⟩
def diRng1 (da : DA) : DI := fun dl m F => da dl m fun ds m1 => match ds with
  | [.v (.int j)] => -(2 ^ 62) ≤ j ∧ j < 2 ^ 62 ∧ F (rng 0 j.toNat) m1
  | _ => False
def diRng2 (da : DA) : DI := fun dl m F => da dl m fun ds m1 => match ds with
  | [.v (.int i), .v (.int j)] => (-(2 ^ 62) ≤ i ∧ i < 2 ^ 62 ∧ -(2 ^ 62) ≤ j ∧ j < 2 ^ 62) ∧ F (rng i (j - i).toNat) m1
  | _ => False
theorem LI_rng1 {ta : TA} {da : DA} (h : LA K ta da) : LI K (iRng1 ta) (diRng1 da) := fun n s dl H m F R hs ok hd p => by
  refine h n s dl H m _ _ hs ok hd fun vs H1 ds m1 g1 ok1 r h1 => ?_
  split at h1
  · rename_i j
    cases r with
    | cons r rs =>
      cases r; cases rs
      exact ⟨j, rfl, h1.1, h1.2.1, p _ H1 _ m1 g1 ok1 (walks_rng 0 _) h1.2.2⟩
  · exact h1.elim
theorem LI_rng2 {ta : TA} {da : DA} (h : LA K ta da) : LI K (iRng2 ta) (diRng2 da) := fun n s dl H m F R hs ok hd p => by
  refine h n s dl H m _ _ hs ok hd fun vs H1 ds m1 g1 ok1 r h1 => ?_
  split at h1
  · rename_i i j
    cases r with
    | cons r rs =>
      cases rs with
      | cons r' rs =>
        cases r; cases r'; cases rs
        exact ⟨i, j, rfl, h1.1, p _ H1 _ m1 g1 ok1 (walks_rng i _) h1.2⟩
  · exact h1.elim
end

/-! items, lengths, slices -/
section
variable {K : PySem.W.Frag} {n : Addr → Prop} {m : Mu} {H : Hp}
/-- the items of a value that is a sequence -/
def seqD (m : Mu) (d : D) : Option (List D) := match d with
  | .tup ds => some ds
  | .lst ds => some ds
  | .v (.ref p) => m p
  | _ => none
theorem seq_of (ok : Ok K n H m) {x : V} {d : D} {ds : List D} (r : Rp K (Bar n m) H x d) (h : seqD m d = some ds) : ∃ a vs, x = .ref a ∧ (SqL K H a vs ∨ SqT K H a vs) ∧ Rps K (Bar n m) H vs ds := by
  unfold seqD at h
  split at h
  · cases h
    obtain ⟨a, vs, e, h1, h2⟩ := r.tupInv
    exact ⟨a, vs, e, .inr h1, h2⟩
  · cases h
    obtain ⟨a, vs, e, h1, h2⟩ := r.lstInv
    exact ⟨a, vs, e, .inl h1, h2⟩
  · rename_i p
    cases r
    obtain ⟨vs, h1, h2⟩ := ok.cell p ds h
    exact ⟨p, vs, rfl, .inl (SqL.of h1), h2⟩
  · cases h
theorem atI_rp {B : Addr → Prop} {vs : List V} {ds : List D} (r : Rps K B H vs ds) {i : Int} {d : D} (h : atI ds i = some d) : ∃ v, atI vs i = some v ∧ Rp K B H v d := by
  unfold atI at h ⊢
  rw [r.length]
  cases e : ixN ds.length i with
  | none => rw [e] at h; cases h
  | some j =>
    rw [e] at h
    exact r.get h
def dIx : RD2 := fun x y m F => match y with
  | .v (.int i) => match seqD m x with
    | some ds => ∃ d, atI ds i = some d ∧ F d m
    | none => False
  | _ => False
theorem L2_ix : L2r K (rIx K) dIx := fun n x y dx dy H m F Q ok rx ry h p => by
  unfold dIx at h
  split at h
  · rename_i i
    cases ry
    split at h
    · rename_i ds e1
      obtain ⟨d, e2, h⟩ := h
      obtain ⟨a, vs, rfl, hq, rs⟩ := seq_of ok rx e1
      obtain ⟨v, e3, rv⟩ := atI_rp rs e2
      have z := p v H d m Step.refl ok rv h
      rcases hq with hq | hq
      · exact .inl ⟨a, vs, i, v, rfl, rfl, hq, e3, z⟩
      · exact .inr (.inl ⟨a, vs, i, v, rfl, rfl, hq, e3, z⟩)
    · exact h.elim
  · exact h.elim
/-- x[k], k written -/
def dIxC (k : Nat) (de : DE) : DE := fun dl m F => de dl m fun x m1 => match seqD m1 x with
  | some ds => match nth ds k with
    | some d => F d m1
    | none => False
  | none => False
theorem LE_ixC (k : Nat) {te : TE} {de : DE} (h : LE K te de) : LE K (tOp (rIx K) te (tC (.int (k : Int)))) (dIxC k de) := fun n s dl H m F Q hs ok hd p => by
  refine h n s dl H m _ _ hs ok hd fun x H1 dx m1 g1 ok1 rx h1 => ?_
  split at h1
  · rename_i ds e1
    split at h1
    · rename_i d e2
      rw [nth_eq] at e2
      obtain ⟨a, vs, rfl, hq, rs⟩ := seq_of ok1 rx e1
      obtain ⟨v, e3, rv⟩ := rs.get e2
      have z := p v H1 d m1 g1 ok1 rv h1
      have e4 : atI vs (k : Int) = some v := atI_nat e3
      rcases hq with hq | hq
      · exact .inl ⟨a, vs, k, v, rfl, rfl, hq, e4, z⟩
      · exact .inr (.inl ⟨a, vs, k, v, rfl, rfl, hq, e4, z⟩)
    · exact h1.elim
  · exact h1.elim
def dLen : SpD := fun ds m F => match ds with
  | [d] => match seqD m d with
    | some xs => F (.v (.int xs.length)) m
    | none => False
  | _ => False
theorem LC_len : LC K (fun xs H Q => ∃ p ys, xs = [.ref p] ∧ (SqL K H p ys ∨ SqT K H p ys) ∧ Q (.int ys.length) H) dLen := fun n vs ds H m F Q ok r h p => by
  unfold dLen at h
  split at h
  · cases r with
    | cons r rs =>
      cases rs
      split at h
      · rename_i xs e1
        obtain ⟨a, ws, rfl, hq, rs⟩ := seq_of ok r e1
        exact ⟨a, ws, rfl, hq, p _ H _ m Step.refl ok (.v _) (by rw [rs.length]; exact h)⟩
      · exact h.elim
  · exact h.elim
def dAbs : SpD := fun ds m F => match ds with
  | [.v (.int i)] => F (.v (.int (if i < 0 then -i else i))) m
  | _ => False
theorem LC_abs : LC K (fun xs H Q => ∃ i, xs = [.int i] ∧ Q (.int (if i < 0 then -i else i)) H) dAbs := fun n vs ds H m F Q ok r h p => by
  unfold dAbs at h
  split at h
  · cases r with
    | cons r rs => cases rs; cases r; exact ⟨_, rfl, p _ H _ m Step.refl ok (.v _) h⟩
  · exact h.elim
/-- int(n), int(flag) -/
def dInt1 : SpD := fun ds m F => match ds with
  | [.v (.int i)] => F (.v (.int i)) m
  | [.v (.bl b)] => F (.v (.int (if b then 1 else 0))) m
  | _ => False
theorem LC_int1 : LC K (fun xs H Q => (∃ i, xs = [.int i] ∧ Q (.int i) H) ∨ ∃ k, xs = [.bl k] ∧ Q (.int (if k then 1 else 0)) H) dInt1 := fun n vs ds H m F Q ok r h p => by
  unfold dInt1 at h
  split at h
  · cases r with
    | cons r rs => cases rs; cases r; exact .inl ⟨_, rfl, p _ H _ m Step.refl ok (.v _) h⟩
  · cases r with
    | cons r rs => cases rs; cases r; exact .inr ⟨_, rfl, p _ H _ m Step.refl ok (.v _) h⟩
  · exact h.elim
def dGcd : SpD := fun ds m F => match ds with
  | [.v (.int a), .v (.int b)] => F (.v (.int ((Nat.gcd a.natAbs b.natAbs : Nat) : Int))) m
  | _ => False
theorem LC_gcd : LC K rGcd dGcd := fun n vs ds H m F Q ok r h p => by
  unfold dGcd at h
  split at h
  · cases r with
    | cons r rs =>
      cases rs with
      | cons r' rs => cases rs; cases r; cases r'; exact ⟨_, _, rfl, p _ H _ m Step.refl ok (.v _) h⟩
  · exact h.elim
/-- list(xs): a list of one's own -/
def dListO : SpD := fun ds m F => match ds with
  | [d] => match seqD m d with
    | some xs => ∀ p, m p = none → F (.v (.ref p)) (mset m p xs)
    | none => False
  | _ => False
theorem LC_listO : LC K (fun xs H Q => ∃ p ys, xs = [.ref p] ∧ (SqL K H p ys ∨ SqT K H p ys) ∧ ∀ l, H l = none → Q (.ref l) (upd H l (.lst ys))) dListO := fun n vs ds H m F Q ok r h p => by
  unfold dListO at h
  split at h
  · cases r with
    | cons r rs =>
      cases rs
      split at h
      · rename_i xs e1
        obtain ⟨a, ws, rfl, hq, rs⟩ := seq_of ok r e1
        refine ⟨a, ws, rfl, hq, fun l hl => ?_⟩
        obtain ⟨g2, ok2⟩ := ok.new hl rs
        exact p _ _ _ _ g2 ok2 (.v _) (h l (ok.none hl))
      · exact h.elim
  · exact h.elim
/-- tuple(xs) -/
def dTupOf : SpD := fun ds m F => match ds with
  | [d] => match seqD m d with
    | some xs => F (.tup xs) m
    | none => False
  | _ => False
theorem LC_tupOf : LC K (fun xs H Q => ∃ p ys, xs = [.ref p] ∧ ((SqL K H p ys ∧ ∀ l, H l = none → Q (.ref l) (upd H l (.tup ys))) ∨ (SqT K H p ys ∧ Q (.ref p) H))) dTupOf := fun n vs ds H m F Q ok r h p => by
  unfold dTupOf at h
  split at h
  · rename_i d
    split at h
    · rename_i xs e1
      cases r with
      | cons r rs =>
        cases rs
        have lst : ∀ {a ws}, SqL K H a ws → Rps K (Bar n m) H ws xs → ∀ l, H l = none → Q (.ref l) (upd H l (.tup ws)) := fun {a ws} hq rs l hl => by
          obtain ⟨g2, ok2, r2⟩ := new_tup ok rs hl
          exact p _ _ _ m g2 ok2 r2 h
        unfold seqD at e1
        split at e1
        · cases e1
          obtain ⟨a, ws, rfl, h1, h2⟩ := r.tupInv
          exact ⟨a, ws, rfl, .inr ⟨h1, p _ H _ m Step.refl ok r h⟩⟩
        · cases e1
          obtain ⟨a, ws, rfl, h1, h2⟩ := r.lstInv
          exact ⟨a, ws, rfl, .inl ⟨h1, lst h1 h2⟩⟩
        · rename_i q
          cases r
          obtain ⟨ws, h1, h2⟩ := ok.cell q xs e1
          exact ⟨q, ws, rfl, .inl ⟨SqL.of h1, lst (SqL.of h1) h2⟩⟩
        · cases e1
    · exact h.elim
  · exact h.elim
end
end DL

set_option Elab.async false
set_option linter.all false
set_option maxRecDepth 100000
namespace DL
open PySem L2
section
variable {K : PySem.W.Frag}
/-! data as the library's data -/
mutual
def pyD : D → PyData
  | .v .non => .none
  | .v (.bl b) => .bool b
  | .v (.int i) => .int i
  | .v (.str x) => .str x
  | .v _ => .none
  | .tup ds => .tuple (pyDs ds)
  | .lst ds => .list (pyDs ds)
def pyDs : List D → List PyData
  | [] => []
  | d :: ds => pyD d :: pyDs ds
end
mutual
def plainD : D → Bool
  | .v .non => true
  | .v (.bl _) => true
  | .v (.int _) => true
  | .v (.str _) => true
  | .v _ => false
  | .tup ds => plainDs ds
  | .lst ds => plainDs ds
def plainDs : List D → Bool
  | [] => true
  | d :: ds => plainD d && plainDs ds
end
mutual
theorem Rp.dp {B : Addr → Prop} {H : Hp} : ∀ (d : D) {x : V}, Rp K B H x d → plainD d = true → Dp K H x (pyD d)
  | .v y, _, .v _, p => by
    cases y with
    | non => exact .non
    | bl b => exact .bl b
    | int i => exact .int i
    | str z => exact .str z
    | _ => simp [plainD] at p
  | .tup ds, _, r, p => by
    obtain ⟨a, vs, rfl, h1, h2⟩ := r.tupInv
    exact .tup h1 (Rps.dp ds h2 (by simpa [plainD] using p))
  | .lst ds, _, r, p => by
    obtain ⟨a, vs, rfl, h1, h2⟩ := r.lstInv
    exact .lst h1 (Rps.dp ds h2 (by simpa [plainD] using p))
theorem Rps.dp {B : Addr → Prop} {H : Hp} : ∀ (ds : List D) {xs : List V}, Rps K B H xs ds → plainDs ds = true → DpAll K H xs (pyDs ds)
  | [], _, .nil, _ => .nil
  | d :: ds, _, .cons r rs, p => by
    have p' : plainD d = true ∧ plainDs ds = true := by simpa [plainDs] using p
    exact .cons (Rp.dp d r p'.1) (Rps.dp ds rs p'.2)
end
/-- a value with its cell's list in its place -/
def rdD (m : Mu) (d : D) : Option D := match d with
  | .v (.ref p) => (m p).map .lst
  | d => some d
def eqvD (x y : D) : Bool := PyData.eqv (pyD x) (pyD y)
def cmpOk (x : D) : Prop := plainD x = true ∧ SeqAt.shaped (pyD x) = true
def dEqD (neg : Bool) : RD2 := fun x y m F => match rdD m x, rdD m y with
  | some dx, some dy => cmpOk dx ∧ cmpOk dy ∧ F (.v (.bl (neg ^^ eqvD dx dy))) m
  | _, _ => False
theorem rd_dp {n : Addr → Prop} {m : Mu} {H : Hp} (ok : Ok K n H m) {x : V} {d e : D} (r : Rp K (Bar n m) H x d) (h : rdD m d = some e) (p : plainD e = true) : Dp K H x (pyD e) := by
  unfold rdD at h
  split at h
  · rename_i q
    cases r
    cases q1 : m q with
    | none => rw [q1] at h; cases h
    | some ds =>
      rw [q1] at h; cases h
      obtain ⟨vs, h1, h2⟩ := ok.cell q ds q1
      exact .lst (SqL.of h1) (Rps.dp ds h2 (by simpa [plainD] using p))
  · cases h
    exact Rp.dp d r p
theorem L2_eqD : L2r K (rEqD K) (dEqD false) := fun n x y dx dy H m F Q ok rx ry h p => by
  unfold dEqD at h
  split at h
  · rename_i e1 e2
    obtain ⟨c1, c2, h⟩ := h
    exact ⟨_, _, rd_dp ok rx e1 c1.1, rd_dp ok ry e2 c2.1, c1.2, c2.2, p _ H _ m Step.refl ok (.v _) (by simpa [eqvD] using h)⟩
  · exact h.elim
theorem L2_neD : L2r K (rNeD K) (dEqD true) := fun n x y dx dy H m F Q ok rx ry h p => by
  unfold dEqD at h
  split at h
  · rename_i e1 e2
    obtain ⟨c1, c2, h⟩ := h
    exact ⟨_, _, rd_dp ok rx e1 c1.1, rd_dp ok ry e2 c2.1, c1.2, c2.2, p _ H _ m Step.refl ok (.v _) (by simpa [eqvD] using h)⟩
  · exact h.elim

/-! isinstance with a built-in class -/
def tyD (m : Mu) (d : D) : Option String := match d with
  | .v .non => some "NoneType"
  | .v (.bl _) => some "bool"
  | .v (.int _) => some "int"
  | .v (.str _) => some "str"
  | .v (.ref p) => (m p).map fun _ => "list"
  | .tup _ => some "tuple"
  | .lst _ => some "list"
  | _ => none
theorem ty_of {n : Addr → Prop} {m : Mu} {H : Hp} (ok : Ok K n H m) {x : V} {d : D} {t : String} (r : Rp K (Bar n m) H x d) (h : tyD m d = some t) : TyX K H x (.type t) := by
  unfold tyD at h
  split at h
  · cases h; cases r; exact .base .non
  · cases h; cases r; exact .base (.bl _)
  · cases h; cases r; exact .base (.int _)
  · cases h; cases r; exact .base (.str _)
  · rename_i p
    cases r
    cases q : m p with
    | none => rw [q] at h; cases h
    | some ds =>
      rw [q] at h; cases h
      obtain ⟨vs, h1, _⟩ := ok.cell p ds q
      exact .base (.lst h1)
  · cases h
    cases r with
    | tup hv _ =>
      rcases hv with ⟨hv | ⟨o, hv⟩, _⟩ | ⟨o, its, k, hk, hc, _⟩
      · exact .base (.tup hv)
      · exact .fTuple hv
      · exact .kTuple hk hc
  · cases h
    cases r with
    | lst hv _ =>
      rcases hv with ⟨hv | ⟨o, hv⟩, _⟩ | ⟨o, its, k, hk, hc, _⟩
      · exact .base (.lst hv)
      · exact .base (.frz hv)
      · exact .kList hk hc
  · cases h
def dIsi : SpD := fun ds m F => match ds with
  | [d, .v (.ty T)] => match tyD m d with
    | some t => ∃ b, kitB t T = some b ∧ F (.v (.bl b)) m
    | none => False
  | _ => False
theorem LC_isi : LC K (rIsi K) dIsi := fun n vs ds H m F Q ok r h p => by
  unfold dIsi at h
  split at h
  · rename_i d T
    cases r with
    | cons r rs =>
      cases rs with
      | cons r' rs =>
        cases rs; cases r'
        split at h
        · rename_i t e1
          obtain ⟨b, e2, h⟩ := h
          exact ⟨_, _, _, _, b, rfl, .ty T, ty_of ok r e1, kit_ty e2, p _ H _ m Step.refl ok (.v _) h⟩
        · exact h.elim
  · exact h.elim

/-! any, sum, append -/
def lstD (m : Mu) (d : D) : Option (List D) := match d with
  | .lst ds => some ds
  | .v (.ref p) => m p
  | _ => none
theorem lst_of {n : Addr → Prop} {m : Mu} {H : Hp} (ok : Ok K n H m) {x : V} {d : D} {ds : List D} (r : Rp K (Bar n m) H x d) (h : lstD m d = some ds) : ∃ a vs, x = .ref a ∧ SqL K H a vs ∧ Rps K (Bar n m) H vs ds := by
  unfold lstD at h
  split at h
  · cases h
    exact r.lstInv
  · rename_i p
    cases r
    obtain ⟨vs, h1, h2⟩ := ok.cell p ds h
    exact ⟨p, vs, rfl, SqL.of h1, h2⟩
  · cases h
def dAny : SpD := fun ds m F => match ds with
  | [d] => ∃ bs : List Bool, lstD m d = some (bs.map D.bl) ∧ F (.v (.bl (bs.any id))) m
  | _ => False
theorem LC_any : LC K (rAny K) dAny := fun n vs ds H m F Q ok r h p => by
  unfold dAny at h
  split at h
  · cases r with
    | cons r rs =>
      cases rs
      obtain ⟨bs, e1, h⟩ := h
      obtain ⟨a, ws, rfl, hq, rs⟩ := lst_of ok r e1
      rw [rs.bls] at hq
      exact ⟨a, bs, rfl, hq, p _ H _ m Step.refl ok (.v _) h⟩
  · exact h.elim
def dSum : SpD := fun ds m F => match ds with
  | [d] => ∃ ns : List Int, lstD m d = some (ns.map D.int) ∧ F (.v (.int ns.sum)) m
  | _ => False
theorem LC_sum : LC K (rSum K) dSum := fun n vs ds H m F Q ok r h p => by
  unfold dSum at h
  split at h
  · cases r with
    | cons r rs =>
      cases rs
      obtain ⟨bs, e1, h⟩ := h
      obtain ⟨a, ws, rfl, hq, rs⟩ := lst_of ok r e1
      rw [rs.ints] at hq
      exact ⟨a, bs, rfl, hq, p _ H _ m Step.refl ok (.v _) h⟩
  · exact h.elim
/-- o.append(e), o a cell -/
def dApp (eo : DE) (da : DA) : DE := fun dl m F => eo dl m fun o m1 => match o with
  | .v (.ref p) => (m1 p).isSome = true ∧ da dl m1 fun ds m2 => match ds with
    | [d] => match m2 p with
      | some xs => xs.length < sizeLine ∧ F (.v .non) (mset m2 p (xs ++ [d]))
      | none => False
    | _ => False
  | _ => False
theorem LE_app {to : TE} {eo : DE} {ta : TA} {da : DA} (ho : LE K to eo) (ha : LA K ta da) : LE K (tBM K "list" rAppend to ta) (dApp eo da) := fun n s dl H m F Q hs ok hd p => by
  refine ho n s dl H m _ _ hs ok hd fun o H1 dO m1 g1 ok1 ro h1 => ?_
  split at h1
  · rename_i q
    have e := ro.vInv
    subst e
    obtain ⟨e0, h1⟩ := h1
    obtain ⟨ys, e1⟩ := Option.isSome_iff_exists.mp e0
    obtain ⟨vs, q1, _⟩ := ok1.cell q ys e1
    refine ⟨.inl ⟨rfl, vs, SqL.of q1⟩, ?_⟩
    refine ha n s dl H1 m1 _ _ (hs.up g1.up) ok1 h1 fun ws H2 ds m2 g2 ok2 r2 h2 => ?_
    split at h2
    · cases r2 with
      | cons r rs =>
        cases rs
        split at h2
        · rename_i xs e2
          obtain ⟨hz, h2⟩ := h2
          obtain ⟨us, q2, rs⟩ := ok2.cell q xs e2
          obtain ⟨g3, ok3⟩ := ok2.put e2 (rs.append (.cons r .nil))
          exact ⟨q, us, _, rfl, rfl, q2, by rw [rs.length]; exact hz, p _ _ _ _ (g1.trans (g2.trans g3)) ok3 (.v _) h2⟩
        · exact h2.elim
    · exact h2.elim
  · exact h1.elim
/-! slices -/
abbrev DO := Dl → Mu → (Option Int → Mu → Prop) → Prop
def LO (K : PySem.W.Frag) (t : TO) (d : DO) : Prop := ∀ n s dl H m F Q, Slots K (Bar n m) H s dl → Ok K n H m → d dl m F → (∀ b H' m', Step m H m' H' → Ok K n H' m' → F b m' → Q b H') → t s H Q
def dNoPart : DO := fun _ m F => F none m
def dPart (de : DE) : DO := fun dl m F => de dl m fun x m1 => match x with
  | .v (.int i) => F (some i) m1
  | _ => False
theorem LO_none : LO K tNoPart dNoPart := fun n s dl H m F Q hs ok hd p => p none H m Step.refl ok hd
theorem LO_some {te : TE} {de : DE} (h : LE K te de) : LO K (tPart te) (dPart de) := fun n s dl H m F Q hs ok hd p => by
  refine h n s dl H m _ _ hs ok hd fun x H1 dx m1 g1 ok1 rx h1 => ?_
  split at h1
  · cases rx; exact ⟨_, rfl, p _ H1 m1 g1 ok1 h1⟩
  · exact h1.elim
def cutD (xs : List D) (lo hi : Option Int) : List D := (xs.drop (HT.sIx xs.length 0 lo)).take (HT.sIx xs.length xs.length hi - HT.sIx xs.length 0 lo)
theorem Rps.cut {B : Addr → Prop} {H : Hp} {vs : List V} {ds : List D} (r : Rps K B H vs ds) (lo hi : Option Int) : Rps K B H (cutV vs lo hi) (cutD ds lo hi) := by
  unfold cutV cutD
  rw [r.length]
  exact (r.drop _).take _
abbrev RDs := D → Option Int → Option Int → Mu → (D → Mu → Prop) → Prop
def Lsl (K : PySem.W.Frag) (r : V → Option Int → Option Int → Hp → VK → Prop) (d : RDs) : Prop := ∀ n x dx lo hi H m F Q, Ok K n H m → Rp K (Bar n m) H x dx → d dx lo hi m F → Post K n m H F Q → r x lo hi H Q
def dSl (r : RDs) (de : DE) (dl1 dl2 : DO) : DE := fun dl m F => de dl m fun x m1 => dl1 dl m1 fun l m2 => dl2 dl m2 fun u m3 => r x l u m3 F
theorem LE_sl {r : V → Option Int → Option Int → Hp → VK → Prop} {d : RDs} {te : TE} {de : DE} {tl th : TO} {d1 d2 : DO} (hr : Lsl K r d) (he : LE K te de) (h1 : LO K tl d1) (h2 : LO K th d2) : LE K (tSl r te tl th) (dSl d de d1 d2) := fun n s dl H m F Q hs ok hd p => by
  refine he n s dl H m _ _ hs ok hd fun x H1 dx m1 g1 ok1 rx q1 => ?_
  refine h1 n s dl H1 m1 _ _ (hs.up g1.up) ok1 q1 fun l H2 m2 g2 ok2 q2 => ?_
  refine h2 n s dl H2 m2 _ _ (hs.up (g1.trans g2).up) ok2 q2 fun u H3 m3 g3 ok3 q3 => ?_
  exact hr n x dx l u H3 m3 F Q ok3 (rx.up (g2.trans g3).up) q3 (p.step (g1.trans (g2.trans g3)))
/-- of a list: a new list that nobody changes -/
def dSlL : RDs := fun x lo hi m F => match lstD m x with
  | some ds => F (.lst (cutD ds lo hi)) m
  | none => False
theorem Lsl_list : Lsl K (rSlL K) dSlL := fun n x dx lo hi H m F Q ok rx h p => by
  unfold dSlL at h
  split at h
  · rename_i ds e1
    obtain ⟨a, vs, rfl, hq, rs⟩ := lst_of ok rx e1
    refine ⟨a, vs, rfl, hq, fun l hl => ?_⟩
    obtain ⟨g2, ok2, r2⟩ := new_lst ok (rs.cut lo hi) hl
    exact p _ _ _ m g2 ok2 r2 h
  · exact h.elim

/-! a def by its body -/
theorem fn_ok {P : Program} {w : World} {mg : Str → Option Value} {base : Heap} {x qual : Str} {st : Stmt} {f : Addr} {fd : FuncData} {N ps : List Str} {k : Nat} {Sd : SpD} (F : Fun K x qual st f fd) (S : FnScope N ps (defScope st))
    (len : ∀ ds m F, Sd ds m F → ds.length = ps.length)
    (hb : ∀ (cdv : Value) (A : Around) (outer : List Env) (s : Shared) (H : Hp) (E : XK), Room k (A.deeper (PyProof.Rows.envOfC qual (defScope st) s.heap.objs.size f cdv)) →
      ∃ ts ds, PSs (cxOf CX0 P w K mg base N qual (defScope st) f cdv A outer s H E).nox (defBody st) ts ∧ LS K ts ds ∧
        ∀ args m F, Sd args m F → ds { nx := fun _ m => F (.v .non) m, rt := F } (startD N args) m) : FnOk P w K mg base CX0 (k + 1) f fd ps (spD K Sd) := by
  refine Fun.ok F S (fun vs H Q E ⟨n, ds, m, G, ok, r, h, _⟩ => by rw [r.length]; exact len _ _ _ h) fun cdv A outer s H vs Q E hr h => ?_
  obtain ⟨n, args, m, G, ok, r, h, p⟩ := h
  obtain ⟨ts, ds, h1, h2, h3⟩ := hb cdv A outer s H E hr
  refine ⟨ts, h1, h2 n _ _ H m _ _ (slots_start N r) ok (h3 args m G h) ⟨?_, ?_, ?_, ?_⟩⟩
  · exact fun s dl H' m' g ok' hs h => p _ _ _ _ g ok' (.v _) h
  · exact fun v d H' m' g ok' rv h => p _ _ _ _ g ok' rv h
  · exact fun _ _ _ _ _ _ _ h => h.elim
  · exact fun _ _ _ _ _ _ _ h => h.elim
/-! defs that may raise: an exception of the class c, without a dict of its own -/
abbrev SpX := List D → Mu → (D → Mu → Prop) → (Value → Mu → Prop) → Prop
def spX (K : PySem.W.Frag) (S : SpX) : Sp := fun vs H Q E => ∃ n ds m F Z, Ok K n H m ∧ Rps K (Bar n m) H vs ds ∧ S ds m F Z ∧ Post K n m H F Q ∧ ∀ c m' H', Step m H m' H' → Ok K n H' m' → Z c m' → E c none H'
/-- called where nothing is to be raised -/
def dCallN (S : SpX) (dt : DA) : DE := fun dl m F => dt dl m fun ds m1 => S ds m1 F fun _ _ => False
theorem LE_callN {t : TA} {dt : DA} {S : SpX} {E : XK} (h : LA K t dt) : LE K (tCall (spX K S) [] E t) (dCallN S dt) := fun n s dl H m F Q hs ok hd p => by
  refine h n s dl H m _ _ hs ok hd fun vs H1 ds m1 g1 ok1 r h1 => ?_
  rw [List.append_nil]
  exact ⟨n, ds, m1, F, _, ok1, r, h1, p.step g1, fun _ _ _ _ _ z => z.elim⟩
end
end DL

set_option Elab.async false
set_option linter.all false
set_option maxRecDepth 100000
namespace DL
open PySem L2
/-! own forms of rules -/
section
variable {X : Cx}
theorem op_mulX : OpR X (binaryOp .Mult) (rI IntMulOk fun i j => .int (i * j)) := opI fun _ _ _ _ _ _ _ hc q => PyProof.Rows.mul_int q hc
def CDivX (i j : Int) : Prop := j ≠ 0 ∧ Builtin.divisionGoesByPylong i j = false
theorem op_fdivX : OpR X (binaryOp .FloorDiv) (rI CDivX fun i j => .int (i.fdiv j)) := opI fun _ _ _ _ _ _ _ hc q => PyProof.Rows.floordiv_int hc.1 q (.inl hc.2)
end
section
variable {K : PySem.W.Frag}
def nonD (d : D) : Bool := match d with
  | .v .non => true
  | _ => false
theorem nonD_of {B : Addr → Prop} {H : Hp} {x : V} {d : D} (r : Rp K B H x d) : decide (x = .non) = nonD d := by
  cases r with
  | v x => cases x <;> rfl
  | tup => rfl
  | lst => rfl
def dIsN (neg : Bool) : RD2 := fun x y m F => match y with
  | .v .non => F (.v (.bl (neg ^^ nonD x))) m
  | _ => False
theorem L2_isN : L2r K (fun x y H Q => y = .non ∧ Q (.bl (decide (x = .non))) H) (dIsN false) := fun n x y dx dy H m F Q ok rx ry h p => by
  unfold dIsN at h
  split at h
  · cases ry
    refine ⟨rfl, ?_⟩
    rw [nonD_of rx]
    exact p _ H _ m Step.refl ok (.v _) (by simpa using h)
  · exact h.elim
theorem L2_notN : L2r K (fun x y H Q => y = .non ∧ Q (.bl (!decide (x = .non))) H) (dIsN true) := fun n x y dx dy H m F Q ok rx ry h p => by
  unfold dIsN at h
  split at h
  · cases ry
    refine ⟨rfl, ?_⟩
    rw [nonD_of rx]
    exact p _ H _ m Step.refl ok (.v _) (by simpa using h)
  · exact h.elim
def dYes : DT := fun _ m F => F true m
theorem LT_yes : LT K tYes dYes := fun n s dl H m F Q hs ok hd p => p true H m Step.refl ok hd
/-- truth of a value -/
def dTru (de : DE) : DT := fun dl m F => de dl m fun x m1 => match truD x m1 with
  | some b => F b m1
  | none => False
theorem LT_tru {te : TE} {de : DE} (h : LE K te de) : LT K (fun s H Q => te s H fun x H1 => ∃ k, TruV K x H1 k ∧ Q k H1) (dTru de) := fun n s dl H m F Q hs ok hd p => by
  refine h n s dl H m _ _ hs ok hd fun x H1 dx m1 g1 ok1 rx h1 => ?_
  split at h1
  case h_2 => exact h1.elim
  rename_i b e
  refine ⟨b, ?_, p b H1 m1 g1 ok1 h1⟩
  cases dx with
  | v y =>
    have e0 := rx.vInv
    subst e0
    cases x with
    | non => cases e; rfl
    | bl c => cases e; rfl
    | int i => cases e; rfl
    | ref q =>
      have e' : (m1 q).map (fun ds => !ds.isEmpty) = some b := e
      cases q1 : m1 q with
      | none => rw [q1] at e'; cases e'
      | some ds =>
        rw [q1] at e'; cases e'
        obtain ⟨vs, h1, h2⟩ := ok1.cell q ds q1
        exact .inl ⟨vs, SqL.of h1, by cases h2 <;> rfl⟩
    | _ => cases e
  | tup ds =>
    cases e
    obtain ⟨a, vs, rfl, h1, h2⟩ := rx.tupInv
    exact .inr (.inl ⟨vs, h1, by cases h2 <;> rfl⟩)
  | lst ds =>
    cases e
    obtain ⟨a, vs, rfl, h1, h2⟩ := rx.lstInv
    exact .inl ⟨vs, h1, by cases h2 <;> rfl⟩
end
/-! a def of the text, and what may be called -/
def Dfn (K : PySem.W.Frag) (mg : Str → Option Value) (x : Str) (st : Stmt) : Prop := ∃ f fd, Fun K x x st f fd ∧ mg x = some (.ref f)
def Cal (P : Program) (w : World) (K : PySem.W.Frag) (mg : Str → Option Value) (base : Heap) (CX : CXT) (k : Nat) (x : Str) (ps : List Str) (sp : Sp) : Prop :=
  ∃ f fd, FnOk P w K mg base CX k f fd ps sp ∧ mg x = some (.ref f) ∧ PySem.W.keepIn K (.ref f) = true ∧ Binds K fd ps []
theorem pe_cal {X : Cx} {CX : CXT} {k : Nat} {ps : List Str} {sp : Sp} {E : XK} {x : Str} {p pos : Pos} {e : Expr} {es : List Expr} {t : TA} (C : Cal X.prog X.w X.K X.mg X.base CX k x ps sp) (hr : Room k X.A) (hg : Gl X x) (hx : Passes CX X E) (ha : PA X (e :: es) t)
    (hdb : (x == ("__debug__" : Str)) = false := by decide) (he : starEach (e :: es) X.env = (false, eval e X.env) :: starEach es X.env := by rfl) (hpl : (backTo pos (starEach es X.env)).any (·.1) = false := by rfl) :
    PE X (.Call (.Name x p) (e :: es) [] pos) (tCall sp [] E t) := by
  obtain ⟨f, fd, F, m, kp, b⟩ := C
  exact pe_call F hr hg m kp b .nil hx ha hdb he hpl
theorem cal_ok {P : Program} {w : World} {K : PySem.W.Frag} {mg : Str → Option Value} {base : Heap} {x : Str} {st : Stmt} {N ps : List Str} {k : Nat} {Sd : SpD} (Dd : Dfn K mg x st) (S : FnScope N ps (defScope st))
    (hbind : ∀ (kV doc pm : Value) (an : Option Addr) (cdv ct : Value) (us : List Value), us.length = ps.length → bindArgs (PySem.W.fnOf x x (defArgs st) (defBody st) (defScope st) .none kV doc pm an cdv ct) ⟨us, []⟩ = pure (ps.zip us))
    (len : ∀ ds m F, Sd ds m F → ds.length = ps.length)
    (hb : ∀ (f : Addr) (cdv : Value) (A : Around) (outer : List Env) (s : Shared) (H : Hp) (E : XK), Room k (A.deeper (PyProof.Rows.envOfC x (defScope st) s.heap.objs.size f cdv)) →
      ∃ ts ds, PSs (cxOf CX0 P w K mg base N x (defScope st) f cdv A outer s H E).nox (defBody st) ts ∧ LS K ts ds ∧
        ∀ args m F, Sd args m F → ds { nx := fun _ m => F (.v .non) m, rt := F } (startD N args) m) : Cal P w K mg base CX0 (k + 1) x ps (spD K Sd) := by
  obtain ⟨f, fd, F, hm⟩ := Dd
  exact ⟨f, fd, fn_ok F S len (hb f), hm, F.kp, F.binds hbind⟩
theorem Cal.mono {P : Program} {w : World} {K : PySem.W.Frag} {mg : Str → Option Value} {base : Heap} {CX : CXT} {j k : Nat} {x : Str} {ps : List Str} {sp : Sp} (C : Cal P w K mg base CX j x ps sp) (h : j ≤ k) : Cal P w K mg base CX k x ps sp := by
  obtain ⟨f, fd, F, r⟩ := C
  exact ⟨f, fd, F.mono h, r⟩
theorem Cal.imp {P : Program} {w : World} {K : PySem.W.Frag} {mg : Str → Option Value} {base : Heap} {CX : CXT} {k : Nat} {x : Str} {ps : List Str} {sp sp' : Sp} (C : Cal P w K mg base CX k x ps sp) (h : ∀ vs H Q E, sp' vs H Q E → sp vs H Q E) : Cal P w K mg base CX k x ps sp' := by
  obtain ⟨f, fd, F, r⟩ := C
  exact ⟨f, fd, F.imp h, r⟩

/-! what the walk computes -/
section
variable {m : Mu} {ds : List D} {p : Addr} {i j : Int} {a b : Bool} {x y : Str}
theorem seqD_tup : seqD m (.tup ds) = some ds := rfl
theorem seqD_lst : seqD m (.lst ds) = some ds := rfl
theorem seqD_ref : seqD m (.v (.ref p)) = m p := rfl
theorem lstD_lst : lstD m (.lst ds) = some ds := rfl
theorem lstD_ref : lstD m (.v (.ref p)) = m p := rfl
theorem truD_bl : truD (.v (.bl b)) m = some b := rfl
theorem truD_int : truD (.v (.int i)) m = some (i != 0) := rfl
theorem truD_tup : truD (.tup ds) m = some (!ds.isEmpty) := rfl
theorem truD_lst : truD (.lst ds) m = some (!ds.isEmpty) := rfl
theorem truD_ref : truD (.v (.ref p)) m = (m p).map fun ds => !ds.isEmpty := rfl
theorem tyD_non : tyD m (.v .non) = some "NoneType" := rfl
theorem tyD_bl : tyD m (.v (.bl b)) = some "bool" := rfl
theorem tyD_int : tyD m (.v (.int i)) = some "int" := rfl
theorem tyD_str : tyD m (.v (.str x)) = some "str" := rfl
theorem tyD_tup : tyD m (.tup ds) = some "tuple" := rfl
theorem tyD_lst : tyD m (.lst ds) = some "list" := rfl
theorem tyD_ref : tyD m (.v (.ref p)) = (m p).map fun _ => "list" := rfl
theorem rdD_lst : rdD m (.lst ds) = some (.lst ds) := rfl
theorem rdD_tup : rdD m (.tup ds) = some (.tup ds) := rfl
theorem rdD_ref : rdD m (.v (.ref p)) = (m p).map .lst := rfl
theorem rdD_int : rdD m (.v (.int i)) = some (.v (.int i)) := rfl
theorem nonD_non : nonD (.v .non) = true := rfl
theorem nonD_lst : nonD (.lst ds) = false := rfl
theorem nonD_tup : nonD (.tup ds) = false := rfl
theorem nonD_int : nonD (.v (.int i)) = false := rfl
theorem scal_ii : scal (.int i) (.int j) = true := rfl
theorem scal_bb : scal (.bl a) (.bl b) = true := rfl
theorem scal_ss : scal (.str x) (.str y) = true := rfl
theorem scal_nn : scal .non .non = true := rfl
end
/-! sizes -/
theorem mulOk_small {i j : Int} (h : (-(2 ^ 64) < i ∧ i < 2 ^ 64) ∨ (-(2 ^ 64) < j ∧ j < 2 ^ 64)) : IntMulOk i j := CMul.ok h
theorem log2_le_of {n b : Nat} (h : n < 2 ^ b) : n.log2 ≤ b := by
  by_cases h0 : n = 0
  · subst h0; simp
  · have := (Nat.log2_lt h0).mpr h
    omega
theorem mulOk_bits {i j : Int} {a b : Nat} (ha : i.natAbs < 2 ^ a) (hb : j.natAbs < 2 ^ b) (h : a + b < 1000000) : IntMulOk i j := by
  refine CMulW.ok ?_
  have h1 := log2_le_of ha
  have h2 := log2_le_of hb
  unfold CMulW
  omega
theorem divX {i j : Int} {b : Nat} (h : j ≠ 0) (hb : j.natAbs < 2 ^ b) (h9 : b ≤ 9000) : CDivX i j := by
  refine ⟨h, PyProof.noPylong_of_log2 ?_⟩
  have h0 : j.natAbs ≠ 0 := by omega
  exact Nat.lt_of_lt_of_le ((Nat.log2_lt h0).mpr hb) h9
theorem divX_small {i j : Int} (h : j ≠ 0) (hb : j.natAbs < 1073741824) : CDivX i j := ⟨h, PyProof.noPylong_small hb⟩
/-! unrolled loops -/
theorem for_unroll {di : DI} {g : DG} {b : DS} {G : DEnds} {dl : Dl} {m : Mu} (h : di dl m fun xs m1 => ∃ I : Nat → Dl → Mu → Prop, I 0 dl m1 ∧ ∀ i dl m, I i dl m →
  match xs[i]? with
  | none => G.nx dl m
  | some x => g x dl m fun dl2 m2 => b { G with nx := I (i + 1), ct := I (i + 1), bk := G.nx } dl2 m2) : dFor di g b G dl m := h
end DL

set_option Elab.async false
set_option linter.all false
set_option maxRecDepth 100000
namespace DL
open PySem L2
section
variable {K : PySem.W.Frag} {E : XK} {Z : Value → Mu → Prop}
/-! names for the readings of the built-ins -/
abbrev rLen (K : PySem.W.Frag) : List V → Hp → VK → Prop := fun xs H Q => ∃ p ys, xs = [.ref p] ∧ (SqL K H p ys ∨ SqT K H p ys) ∧ Q (.int ys.length) H
abbrev rAbs : List V → Hp → VK → Prop := fun xs H Q => ∃ i, xs = [.int i] ∧ Q (.int (if i < 0 then -i else i)) H
abbrev rInt1 : List V → Hp → VK → Prop := fun xs H Q => (∃ i, xs = [.int i] ∧ Q (.int i) H) ∨ ∃ k, xs = [.bl k] ∧ Q (.int (if k then 1 else 0)) H
abbrev rListOf (K : PySem.W.Frag) : List V → Hp → VK → Prop := fun xs H Q => ∃ p ys, xs = [.ref p] ∧ (SqL K H p ys ∨ SqT K H p ys) ∧ ∀ l, H l = none → Q (.ref l) (upd H l (.lst ys))
abbrev rTupleOf (K : PySem.W.Frag) : List V → Hp → VK → Prop := fun xs H Q => ∃ p ys, xs = [.ref p] ∧ ((SqL K H p ys ∧ ∀ l, H l = none → Q (.ref l) (upd H l (.tup ys))) ∨ (SqT K H p ys ∧ Q (.ref p) H))
/-! defs that may raise -/
def XOk (K : PySem.W.Frag) (n : Addr → Prop) (m : Mu) (H : Hp) (E : XK) (Z : Value → Mu → Prop) : Prop := ∀ c m' H', Step m H m' H' → Ok K n H' m' → Z c m' → E c none H'
theorem XOk.step {n : Addr → Prop} {m m' : Mu} {H H' : Hp} (x : XOk K n m H E Z) (g : Step m H m' H') : XOk K n m' H' E Z := fun c m2 H2 g2 => x c m2 H2 (g.trans g2)
def LEX (K : PySem.W.Frag) (E : XK) (Z : Value → Mu → Prop) (te : TE) (de : DE) : Prop := ∀ n s dl H m F Q, Slots K (Bar n m) H s dl → Ok K n H m → XOk K n m H E Z → de dl m F → Post K n m H F Q → te s H Q
def LSX (K : PySem.W.Frag) (E : XK) (Z : Value → Mu → Prop) (ts : TS) (ds : DS) : Prop := ∀ n s dl H m Q G, Slots K (Bar n m) H s dl → Ok K n H m → XOk K n m H E Z → ds G dl m → EndsOk K n m H Q G → ts Q s H
theorem LE.x {te : TE} {de : DE} (h : LE K te de) : LEX K E Z te de := fun n s dl H m F Q hs ok _ => h n s dl H m F Q hs ok
theorem LS.x {ts : TS} {ds : DS} (h : LS K ts ds) : LSX K E Z ts ds := fun n s dl H m F Q hs ok _ => h n s dl H m F Q hs ok
theorem LSX_seq {t u : TS} {dt du : DS} (h : LSX K E Z t dt) (h' : LSX K E Z u du) : LSX K E Z (tSeq t u) (dSeq dt du) := fun n s dl H m Q G hs ok hx hd e =>
  h n s dl H m { Q with nx := u Q } { G with nx := du G } hs ok hx hd
    ⟨fun s' dl' H' m' g ok' hs' hd' => h' n s' dl' H' m' Q G hs' ok' (hx.step g) hd' (e.step g), e.rt, e.bk, e.ct⟩
theorem LSX_if {c : TT} {dc : DT} {t u : TS} {dt du : DS} (hc : LT K c dc) (h : LSX K E Z t dt) (h' : LSX K E Z u du) : LSX K E Z (tIfS c t u) (dIfS dc dt du) := fun n s dl H m Q G hs ok hx hd e => by
  refine hc n s dl H m _ _ hs ok hd fun b H1 m1 g1 ok1 h1 => ?_
  cases b with
  | true => exact h n s dl H1 m1 Q G (hs.up g1.up) ok1 (hx.step g1) h1 (e.step g1)
  | false => exact h' n s dl H1 m1 Q G (hs.up g1.up) ok1 (hx.step g1) h1 (e.step g1)
theorem LSX_ret {te : TE} {de : DE} (h : LEX K E Z te de) : LSX K E Z (tRet te) (dRet de) := fun n s dl H m Q G hs ok hx hd e =>
  h n s dl H m _ _ hs ok hx hd fun x H1 dx m1 g1 ok1 rx h1 => e.rt x dx H1 m1 g1 ok1 rx h1
theorem LSX_asg {te : TE} {de : DE} {ts : List Nat} {g : TG} {dg : DG} (h : LEX K E Z te de) (hg : LG K ts g dg) : LSX K E Z (tAsg te g) (dAsg de dg) := fun n s dl H m Q G hs ok hx hd e => by
  refine h n s dl H m _ _ hs ok hx hd fun x H1 dx m1 g1 ok1 rx h1 => ?_
  exact hg n s dl H1 m1 x dx _ _ (hs.up g1.up) ok1 rx h1 fun s2 dl2 H2 m2 g2 ok2 hs2 _ h2 => e.nx s2 dl2 H2 m2 (g1.trans g2) ok2 hs2 h2
/-- raise of an own class without its own __init__ -/
def dRaise (Z : Value → Mu → Prop) (c : Value) : DS := fun _ _ m => Z c m
theorem LSX_raise {C : Addr} : LSX K E Z (fun _ s H => (fun (_ : St) (H : Hp) (Q : XK) => Q (.ref C) none H) s H fun cls d H' => (fun (cls : Value) (d : Option Addr) (_ : St) (H : Hp) => E cls d H) cls d s H') (dRaise Z (.ref C)) :=
  fun n s dl H m Q G hs ok hx hd e => hx _ m H Step.refl ok hd
def dCallX (S : SpX) (Z : Value → Mu → Prop) (dt : DA) : DE := fun dl m F => dt dl m fun ds m1 => S ds m1 F Z
theorem LEX_call {t : TA} {dt : DA} {S : SpX} (h : LA K t dt) : LEX K E Z (tCall (spX K S) [] E t) (dCallX S Z dt) := fun n s dl H m F Q hs ok hx hd p => by
  refine h n s dl H m _ _ hs ok hd fun vs H1 ds m1 g1 ok1 r h1 => ?_
  rw [List.append_nil]
  exact ⟨n, ds, m1, F, Z, ok1, r, h1, p.step g1, hx.step g1⟩
end
theorem cal_okX {P : Program} {w : World} {K : PySem.W.Frag} {mg : Str → Option Value} {base : Heap} {x : Str} {st : Stmt} {N ps : List Str} {k : Nat} {Sd : SpX} (Dd : Dfn K mg x st) (S : FnScope N ps (defScope st))
    (hbind : ∀ (kV doc pm : Value) (an : Option Addr) (cdv ct : Value) (us : List Value), us.length = ps.length → bindArgs (PySem.W.fnOf x x (defArgs st) (defBody st) (defScope st) .none kV doc pm an cdv ct) ⟨us, []⟩ = pure (ps.zip us))
    (len : ∀ ds m F Z, Sd ds m F Z → ds.length = ps.length)
    (hb : ∀ (f : Addr) (cdv : Value) (A : Around) (outer : List Env) (s : Shared) (H : Hp) (E : XK) (Z : Value → Mu → Prop), Room k (A.deeper (PyProof.Rows.envOfC x (defScope st) s.heap.objs.size f cdv)) →
      ∃ ts ds, PSs (cxOf (L2.CX P w) P w K mg base N x (defScope st) f cdv A outer s H E) (defBody st) ts ∧ LSX K E Z ts ds ∧
        ∀ args m F, Sd args m F Z → ds { nx := fun _ m => F (.v .non) m, rt := F } (startD N args) m) : Cal P w K mg base (L2.CX P w) (k + 1) x ps (spX K Sd) := by
  obtain ⟨f, fd, F, hm⟩ := Dd
  refine ⟨f, fd, ?_, hm, F.kp, F.binds hbind⟩
  refine Fun.okX F S (fun vs H Q E ⟨n, ds, m, G, Z, ok, r, h, _⟩ => by rw [r.length]; exact len _ _ _ _ h) fun cdv A outer s H vs Q E hr h => ?_
  obtain ⟨n, args, m, G, Z, ok, r, h, p, hx⟩ := h
  obtain ⟨ts, ds, h1, h2, h3⟩ := hb f cdv A outer s H E Z hr
  refine ⟨ts, h1, h2 n _ _ H m _ _ (slots_start N r) ok hx (h3 args m G h) ⟨?_, ?_, ?_, ?_⟩⟩
  · exact fun s dl H' m' g ok' hs h => p _ _ _ _ g ok' (.v _) h
  · exact fun v d H' m' g ok' rv h => p _ _ _ _ g ok' rv h
  · exact fun _ _ _ _ _ _ _ h => h.elim
  · exact fun _ _ _ _ _ _ _ h => h.elim
/-- a call within a try's body -/
theorem pe_calS {X : Cx} {CX : CXT} {k : Nat} {ps : List Str} {sp : Sp} {E : St → XK} {x : Str} {p pos : Pos} {e : Expr} {es : List Expr} {t : TA} (C : Cal X.prog X.w X.K X.mg X.base CX k x ps sp) (hr : Room k X.A) (hg : Gl X x) (hx : ∀ σ, PassesAt CX X σ (E σ)) (ha : PA X (e :: es) t)
    (hdb : (x == ("__debug__" : Str)) = false := by decide) (he : starEach (e :: es) X.env = (false, eval e X.env) :: starEach es X.env := by rfl) (hpl : (backTo pos (starEach es X.env)).any (·.1) = false := by rfl) :
    PE X (.Call (.Name x p) (e :: es) [] pos) (tCallS sp E t) := by
  obtain ⟨f, fd, F, m, kp, b⟩ := C
  exact pe_callS F hr hg m kp b hx ha hdb he hpl
end DL

set_option Elab.async false
set_option linter.all false
set_option maxRecDepth 100000
/-! what stands in an except suite: isinstance of the caught error, any of a list -/
namespace PySem
namespace HotL
open HotX PyProof.Rows
section
variable {prog : Program} {w : World} {A : Around} {E : Value → Shared → Prop} {s : Shared}
theorem pyNext_list_end_hot {it l x1 : Addr} {i : Nat} {items : Array Value} {Q : Option Value → Shared → Prop} (hot : HotAt A x1 s.heap) (hne : x1 ≠ it)
    (hit : s.heap.IsListIter it l i) (hl : s.heap.IsList l items) (hx : items[i]? = none)
    (hQ : ∀ h', Heap.ExtBut it s.heap h' → Q none { s with heap := h' }) : wpAny (model prog w) A (pyNext (.ref it)) Q E s := by
  obtain ⟨o, ho, hc, hd⟩ := id hit
  obtain ⟨ol, hol, _, nl, hdl⟩ := hl
  obtain ⟨hh, o1, vs1, h1, d1, c1⟩ := hot
  unfold pyNext
  refine wpAny_bind (wpAny_attempt (wpAny_callSpecial?_slot (name := Str.ofString "__next__") hit.typeIs slot_listiter_next
    (wpAny_call_entry slot_listiter_next hit.typeIs entry_listiter_next ?_ (args_listiter_next _))))
  show wpAny _ _ (field (.ref it) 0 >>= _) _ _ s
  refine wpAny_bind (wpAny_field ho hd (x := .ref l) rfl ?_)
  show wpAny _ _ (if (Value.ref l == Value.none) = true then _ else _) _ _ s
  rw [if_neg (show ¬ ((Value.ref l == Value.none) = true) from Bool.false_ne_true)]
  show wpAny _ _ (field (.ref it) 1 >>= _) _ _ s
  refine wpAny_bind (wpAny_field ho hd (x := .int i 0) rfl ?_)
  show wpAny _ _ (seqItems? (.ref l) >>= _) _ _ s
  refine wpAny_bind (wpAny_seqItems hol hdl ?_)
  simp only [Int.toNat_natCast, hx]
  refine wpAny_bind (wpAny_rule (wpAny_bind (wpAny_setField ho hd (by simp) ?_)))
  show wpAny _ _ (newExc (.type "StopIteration") [] >>= _) _ _ _
  refine wpAny_bind ?_
  simp only [newExc, newTuple]
  refine wpAny_bind (wpAny_newObj_type ?_ (by size_fits))
  refine wpAny_bind (m := firstArgMember _ _) (wpAny_of_eq (a := Value.none) (by first | rfl | (simp only [firstArgMember]; rfl)) ?_)
  refine wpAny_newObj_type ?_ (by size_fits)
  have h2 := (Heap.get?_update_other s.heap (Obj.mapFields (·.setIfInBounds 0 Value.none)) (Ne.symm hne)).trans h1
  refine raiseNew_hot ⟨hh, o1, vs1, Heap.get?_push_of_some _ (Heap.get?_push_of_some _ h2), d1, c1⟩ (Nat.ne_of_lt (Heap.lt_size (Heap.get?_push_of_some _ h2))) (Heap.get?_push_size _ rfl) rfl (by first | (simp; done) | (simp; omega) | (simp only [Array.size_append]; simp; omega)) ?_
  refine wpAny_bind (wpAny_isInstance (T := "StopIteration") (b := true) ⟨_, Heap.get?_update_self _ (Heap.get?_push_size _ rfl) rfl, rfl⟩ isSubtype_stop ?_)
  refine wpAny_pure (hQ _ fun b ob hb e => ?_)
  have e2 := (Heap.get?_update_other s.heap (Obj.mapFields (·.setIfInBounds 0 Value.none)) (Ne.symm hb)).trans e
  rw [Heap.get?_update_other _ _ (Nat.ne_of_gt (Heap.lt_size (Heap.get?_push_of_some _ e2)))]
  exact Heap.get?_push_of_some _ (Heap.get?_push_of_some _ e2)
theorem walks_list_hot {x1 : Addr} {ob : Obj} {vs : Array Value} (hh : A.handled = some (.ref x1)) (hd : ob.data = .fields vs) (h2 : vs[2]? = some .none) (I ax : Addr) (hne : ax ≠ I) (hnx : x1 ≠ I) (items : Array Value) :
    Walks prog w A I [I, ax, x1] [I] items.size (fun i v => items[i]? = some v) (fun i h => h.IsListIter I ax i ∧ h.IsList ax items ∧ h.get? x1 = some ob) where
  sub := fun b hb => by simp at hb; simp [hb]
  frame := fun _ _ _ st hk => ⟨st.1.at fun o e => hk I (by simp) o e, st.2.1.at fun o e => hk ax (by simp) o e, hk x1 (by simp) _ st.2.2⟩
  item := fun i s Q E hi st hQ => by
    refine wpAny_pyNext_list_item st.1 st.2.1 (x := items[i]) (by simp [hi]) fun h' hit' hs' => ?_
    exact hQ _ h' s.toks (by simp [hi]) ⟨hit', st.2.1.extBut hs'.extBut hne, hs'.extBut x1 _ hnx st.2.2⟩ fun b o hb e => hs'.extBut b o (fun h => hb (by simp [h])) e
  done := fun s Q E st hQ => pyNext_list_end_hot ⟨hh, ob, vs, st.2.2, hd, h2⟩ hnx st.1 st.2.1 (by simp) fun h' he' => hQ h' s.toks fun b o hb e => he' b o (fun h => hb (by simp [h])) e
  self := fun _ _ _ _ st hQ => wpAny_pyIter_listiter st.1 hQ
end
end HotL
end PySem
namespace DL
open PySem PySem.Spec PyProof.Rows L2
theorem cr_anyHot {X : Cx} {a : Addr} {oe : Obj} {pn : List (Addr × Obj)} {cls : Value} {d : Option Addr} (hz : L2N.Zn cls d oe) (hf : ∃ vs, oe.data = .fields vs) : CallR (X.suite a ((a, oe) :: pn)) (.builtin "any") (rAny X.K) := by
  intro pins s σ H vs us Q I r h
  obtain ⟨l, bs, rfl, hs, q⟩ := h
  obtain ⟨its, rv, hl, _⟩ := I.list hs
  rw [Vals.ref1 r]
  have hb := rv.bls
  obtain ⟨hget, _⟩ := I.pin (a, oe) (List.mem_append.mpr (.inl List.mem_cons_self))
  obtain ⟨fs, hd⟩ := hf
  refine call_any_walk (iter_any hl.isList fun s₂ e2 st hne => ?_)
  subst e2
  have nx : a ≠ s.heap.objs.size := Nat.ne_of_lt (Heap.lt_size hget)
  refine ⟨_, _, _, _, _, _, _, rfl, PySem.HotL.walks_list_hot (A := (X.suite a ((a, oe) :: pn)).A.in1) (x1 := a) rfl hd (hz.2.2 fs hd) _ l hne nx its.toArray, ⟨st.1, st.2, Heap.get?_push_of_some _ hget⟩, truth_bools hb, fun h' tk hk => ?_⟩
  refine ⟨.bl _, H, I.kept fun b o eo => hk b o (fun hmem => ?_) (Heap.get?_push_of_some _ eo), ?_, q⟩
  · rcases List.mem_cons.mp hmem with e1 | hmem
    · exact absurd (e1 ▸ Heap.lt_size eo) (Nat.lt_irrefl _)
    · cases hmem
  · show Value.bool _ = Value.bool _
    rw [← L2.any_range, hb, List.size_toArray, List.length_map]
/-- any context may take the weaker word about what leaves a def -/
theorem cx_weak {P : Program} {w : World} {outer : List Env} {H : Hp} {s : Shared} {E : XK} {u : Value} {s' : Shared} (h : L2N.CX P w outer H s E u s') : L2.CX P w outer H s E u s' := by
  obtain ⟨a, B, H', cls, d, e, f, r⟩ := h
  exact ⟨a, B, H', cls, d, e, L2H.flyingZ_imp (fun _ z => z.zc) f, r⟩
theorem Cal.weak {P : Program} {w : World} {K : PySem.W.Frag} {mg : Str → Option Value} {base : Heap} {k : Nat} {x : Str} {ps : List Str} {sp : Sp} (C : Cal P w K mg base (L2N.CX P w) k x ps sp) : Cal P w K mg base (L2.CX P w) k x ps sp := by
  obtain ⟨f, fd, F, r⟩ := C
  refine ⟨f, fd, ⟨F.len, fun A outer s H args us vs Q E hr he hb hv hs => codeAny_mono (F.run A outer s H args us vs Q E hr he hb hv hs) fun r s' hq => ?_⟩, r⟩
  cases r with
  | ok fl => cases fl <;> exact hq
  | error e => exact cx_weak hq
theorem passLN {X : Cx} : Passes (L2N.CX X.prog X.w) X E0 := fun _ _ _ _ _ _ _ h => by
  obtain ⟨_, _, _, _, _, _, _, _, _, _, _, _, z⟩ := h
  exact z.elim
/-- around a body nothing is let out -/
theorem takesN0 {X : Cx} : L2N.Takes X (fun _ _ _ _ => False) := fun _ _ x => by
  obtain ⟨_, _, _, _, _, _, _, _, _, _, _, _, _, _, _, _, z⟩ := x
  exact z.elim
theorem cal_okN {P : Program} {w : World} {K : PySem.W.Frag} {mg : Str → Option Value} {base : Heap} {x : Str} {st : Stmt} {N ps : List Str} {k : Nat} {Sd : SpX} (Dd : Dfn K mg x st) (S : FnScope N ps (defScope st))
    (hbind : ∀ (kV doc pm : Value) (an : Option Addr) (cdv ct : Value) (us : List Value), us.length = ps.length → bindArgs (PySem.W.fnOf x x (defArgs st) (defBody st) (defScope st) .none kV doc pm an cdv ct) ⟨us, []⟩ = pure (ps.zip us))
    (len : ∀ ds m F Z, Sd ds m F Z → ds.length = ps.length)
    (hb : ∀ (f : Addr) (cdv : Value) (A : Around) (outer : List Env) (s : Shared) (H : Hp) (E : XK) (Z : Value → Mu → Prop), Room k (A.deeper (PyProof.Rows.envOfC x (defScope st) s.heap.objs.size f cdv)) →
      ∃ ts ds, PSs (cxOf (L2N.CX P w) P w K mg base N x (defScope st) f cdv A outer s H E) (defBody st) ts ∧ LSX K E Z ts ds ∧
        ∀ args m F, Sd args m F Z → ds { nx := fun _ m => F (.v .non) m, rt := F } (startD N args) m) : Cal P w K mg base (L2N.CX P w) (k + 1) x ps (spX K Sd) := by
  obtain ⟨f, fd, F, hm⟩ := Dd
  refine ⟨f, fd, ?_, hm, F.kp, F.binds hbind⟩
  obtain ⟨oc, od, kV, doc, pm, an, cdv, ct, osl, rfl, lk, hcd⟩ := F.ex
  refine fn_of lk hcd S (fun vs H Q E ⟨n, ds, m, G, Z, ok, r, h, _⟩ => by rw [r.length]; exact len _ _ _ _ h) fun A outer s H vs Q E hr h => ?_
  obtain ⟨n, args, m, G, Z, ok, r, h, p, hx⟩ := h
  obtain ⟨ts, ds, h1, h2, h3⟩ := hb f cdv A outer s H E Z hr
  refine ⟨ts, h1, h2 n _ _ H m _ _ (slots_start N r) ok hx (h3 args m G h) ⟨?_, ?_, ?_, ?_⟩⟩
  · exact fun s dl H' m' g ok' hs h => p _ _ _ _ g ok' (.v _) h
  · exact fun v d H' m' g ok' rv h => p _ _ _ _ g ok' rv h
  · exact fun _ _ _ _ _ _ _ h => h.elim
  · exact fun _ _ _ _ _ _ _ h => h.elim
end DL

set_option Elab.async false
set_option linter.all false
set_option maxRecDepth 100000
namespace DL
open PySem L2
/-! isinstance and except of own classes -/
theorem cls_some {K : PySem.W.Frag} {C : Addr} (h : PySem.W.hasDictIn K C = true) : (PySem.W.clsIn K C).isSome = true := by
  obtain ⟨cd, hc, _⟩ := PySem.W.any_some h
  rw [hc]; rfl
theorem kit_cls_ref {K : PySem.W.Frag} {D C : Addr} {b : Bool} (hd : PySem.W.hasDictIn K C = true) (ht : PySem.W.typeIn K (.ref C) = some (.type "type")) (hs : PySem.W.subIn K (.ref D) (.ref C) = some b) (hn : D ≠ C) : PySem.W.kitOne K (.ref D) (.ref C) = some b := by
  unfold PySem.W.kitOne
  rw [if_neg (fun z => hn (Value.ref.inj (beq_iff_eq.mp z)))]
  have e : ((PySem.W.clsIn K C).isSome && PySem.W.typeIn K (.ref C) == some (.type "type")) = true := by rw [cls_some hd, ht]; rfl
  show (if ((PySem.W.clsIn K C).isSome && PySem.W.typeIn K (.ref C) == some (.type "type")) = true then PySem.W.subIn K (.ref D) (.ref C) else none) = some b
  rw [if_pos e]
  exact hs
theorem kit_self {K : PySem.W.Frag} {D : Addr} : PySem.W.kitOne K (.ref D) (.ref D) = some true := if_pos (beq_self_eq_true _)
theorem kit_type {K : PySem.W.Frag} {D : Addr} {T : String} {b : Bool} (hm : PySem.W.kitMeta T = true) (hs : PySem.W.subIn K (.ref D) (.type T) = some b) : PySem.W.kitOne K (.ref D) (.type T) = some b := by
  unfold PySem.W.kitOne
  rw [if_neg (fun z => by cases beq_iff_eq.mp z)]
  show (if PySem.W.kitMeta T = true then PySem.W.subIn K (.ref D) (.type T) else none) = some b
  rw [if_pos hm]
  exact hs
/-! the end -/
theorem dfn_mk {K : PySem.W.Frag} {h : Heap} {mg : Str → Option Value} {x : Str} {st : Stmt} {f : Addr} {oc kV dc pm cd ct : Value} {od an : Option Addr} {sl : Array (Option Value)} (X : K.In h) (G : h.Ns mainGlobals mg)
    (a : PySem.W.nsIn K mainGlobals x = some (some (.ref f))) (l : K.lookup f = some ⟨oc, od, .func (PySem.W.fnOf x x (defArgs st) (defBody st) (defScope st) .none kV dc pm an cd ct), sl⟩) (c : PySem.W.codeIn K cd x = true) (k : PySem.W.keepIn K (.ref f) = true) : Dfn K mg x st :=
  ⟨f, _, fun_mk l c k, PySem.W.mg_of X G a⟩
def spLaw (K : PySem.W.Frag) : Sp := fun vs H Q _ => ∃ (a : Addr) (ns : List Int), vs = [.ref a] ∧ SqL K H a (ns.map V.int) ∧ ns.length ≤ 63 ∧ ∀ H', Q (.bl true) H'
/-- the promise of a law over data -/
def S_law : SpD := fun ds m F => ∃ ns : List Int, ds = [.lst (ns.map D.int)] ∧ ns.length ≤ 63 ∧ ∀ m', F (.v (.bl true)) m'
theorem S_law_len : ∀ ds m F, S_law ds m F → ds.length = 1 := by rintro _ m F ⟨x, rfl, _⟩; rfl
theorem rps_ints {K : PySem.W.Frag} {B : Addr → Prop} {H : Hp} : ∀ ns : List Int, Rps K B H (ns.map V.int) (ns.map D.int)
  | [] => .nil
  | n :: ns => .cons (.v _) (rps_ints ns)
theorem spLaw_of {K : PySem.W.Frag} : ∀ vs H Q E, spLaw K vs H Q E → spD K S_law vs H Q E := by
  rintro vs H Q E ⟨a, ns, rfl, hs, hl, q⟩
  refine ⟨fun _ => False, [.lst (ns.map D.int)], fun _ => none, fun d _ => d = .v (.bl true), ⟨fun p ds e => (by cases e), fun p h => (False.elim h)⟩, .cons ?_ .nil, ⟨ns, rfl, hl, fun _ => rfl⟩, ?_⟩
  · have nb : ¬ Bar (fun _ => False) (fun _ => none) a := fun z => by
      rcases z with z | ⟨ds, z⟩
      · exact z
      · cases z
    rcases hs with hs | hs
    · exact .lst (.inl ⟨hs, nb⟩) (rps_ints ns)
    · exact .lst (.inr hs) (rps_ints ns)
  · rintro v H' d m' _ _ rv rfl
    cases rv
    exact q H'
theorem law_ok {P : Program} {w : World} {K : PySem.W.Frag} {mg : Str → Option Value} {base : Heap} {st : Stmt} {f : Addr} {fd : FuncData} {N : List Str} {k : Nat} (F : Fun K "law" "law" st f fd) (S : FnScope N ["script"] (defScope st))
    (hb : ∀ (cdv : Value) (A : Around) (outer : List Env) (s : Shared) (H : Hp) (E : XK), Room k (A.deeper (PyProof.Rows.envOfC "law" (defScope st) s.heap.objs.size f cdv)) →
      ∃ ts ds, PSs (cxOf CX0 P w K mg base N "law" (defScope st) f cdv A outer s H E).nox (defBody st) ts ∧ LS K ts ds ∧
        ∀ args m F, S_law args m F → ds { nx := fun _ m => F (.v .non) m, rt := F } (startD N args) m) : FnOk P w K mg base CX0 (k + 1) f fd ["script"] (spLaw K) :=
  (fn_ok F S S_law_len hb).imp spLaw_of
theorem walk_law {l : PySem.W.OpenLaw} {q : Program} {loose : List Str} {XP : (Str → Option Value) → Heap → Prop} {YP : World → Heap → Prop} {d : DefRec} {K : Params → PySem.W.Frag} {k : Nat} (hn : l.most = some 63) (hdf : d.params.defaults = []) (hr : Room k callerA)
    (hY : ∀ (w : World) (h : Heap), YP w h → (K w.params).In h)
    (F : ∀ (w : World) (mg : Str → Option Value) (fa : Addr) (h : Heap), (K w.params).In h → h.Ns mainGlobals mg → mg d.name = some (.ref fa) →
      ∃ fd : FuncData, (∀ (s : Shared) (u : Value), BindsTo s fd ⟨[u], []⟩ [("script", u)]) ∧ ∀ base : Heap, (K w.params).In base → base.Ns mainGlobals mg → FnOk l.prog w (K w.params) mg base CX0 k fa fd ["script"] (spLaw (K w.params))) :
    PySem.W.WalkO q loose XP YP l.row.toRowW d [] (fun f vs => PySem.call f vs) :=
  L2.walk_of (n := 63) (k := k) (x := "script") (CX := fun _ => CX0) (sp := fun w => spLaw (K w.params)) hn (by decide) hdf hr hY F (fun _ _ a ns hl _ hS => ⟨a, ns, rfl, hS, hl, fun _ => rfl⟩) fun _ _ _ _ _ z => z
end DL

set_option Elab.async false
set_option linter.all false
set_option maxRecDepth 100000
namespace DL
/-! the mathematics of fractions -/
def gcdI (p q : Int) : Int := ((Nat.gcd p.natAbs q.natAbs : Nat) : Int)
def frac (p q : Int) : Int × Int := if q < 0 then (p.fdiv (-(gcdI p q)), q.fdiv (-(gcdI p q))) else (p.fdiv (gcdI p q), q.fdiv (gcdI p q))
theorem gcdI_pos {p q : Int} (h : q ≠ 0) : 0 < gcdI p q := by
  have : 0 < Nat.gcd p.natAbs q.natAbs := Nat.gcd_pos_of_pos_right _ (by omega)
  unfold gcdI; omega
theorem gcdI_dvd {p q : Int} : gcdI p q ∣ p ∧ gcdI p q ∣ q :=
  ⟨Int.gcd_dvd_left p q, Int.gcd_dvd_right p q⟩
theorem gcdI_le {p q : Int} (h : q ≠ 0) : (gcdI p q).natAbs ≤ q.natAbs := by
  unfold gcdI
  rw [Int.natAbs_natCast]
  exact Nat.gcd_le_right _ (by omega)
theorem frac_eq {p q : Int} (h : q ≠ 0) : ∃ c : Int, c ≠ 0 ∧ (frac p q).1 * c = p ∧ (frac p q).2 * c = q ∧ 0 < (frac p q).2 ∧ c.natAbs = (gcdI p q).natAbs := by
  have g0 := gcdI_pos (p := p) h
  obtain ⟨d1, d2⟩ := gcdI_dvd (p := p) (q := q)
  unfold frac
  split
  · rename_i hq
    have e1 := Int.fdiv_mul_cancel (Int.neg_dvd.mpr d1)
    have e2 := Int.fdiv_mul_cancel (Int.neg_dvd.mpr d2)
    refine ⟨-(gcdI p q), by omega, e1, e2, ?_, by simp⟩
    have h3 : 0 < q.fdiv (-(gcdI p q)) := by
      apply Int.lt_of_not_ge
      intro hle
      have : 0 ≤ q.fdiv (-(gcdI p q)) * -(gcdI p q) := Int.mul_nonneg_of_nonpos_of_nonpos hle (by omega)
      omega
    exact h3
  · rename_i hq
    have e1 := Int.fdiv_mul_cancel d1
    have e2 := Int.fdiv_mul_cancel d2
    refine ⟨gcdI p q, by omega, e1, e2, ?_, rfl⟩
    have h3 : 0 < q.fdiv (gcdI p q) := by
      apply Int.lt_of_not_ge
      intro hle
      have : q.fdiv (gcdI p q) * gcdI p q ≤ 0 := Int.mul_nonpos_of_nonpos_of_nonneg hle (by omega)
      omega
    exact h3
theorem frac_pos {p q : Int} (h : q ≠ 0) : 0 < (frac p q).2 := by
  obtain ⟨_, _, _, _, h, _⟩ := frac_eq (p := p) h
  exact h
theorem frac_le {p q : Int} (h : q ≠ 0) : (frac p q).1.natAbs ≤ p.natAbs ∧ (frac p q).2.natAbs ≤ q.natAbs := by
  obtain ⟨c, h0, h1, h2, _, _⟩ := frac_eq (p := p) h
  have hc : 0 < c.natAbs := by omega
  constructor
  · conv => rhs; rw [← h1, Int.natAbs_mul]
    exact Nat.le_mul_of_pos_right _ hc
  · conv => rhs; rw [← h2, Int.natAbs_mul]
    exact Nat.le_mul_of_pos_right _ hc
/-- sizes of a fraction -/
structure Bn (a b : Nat) (x : Int × Int) : Prop where
  num : x.1.natAbs < 2 ^ a
  pos : 0 < x.2
  den : x.2.natAbs < 2 ^ b
theorem pow_le {a b : Nat} (h : a ≤ b) : 2 ^ a ≤ 2 ^ b := Nat.pow_le_pow_right (by omega) h
theorem Bn.mono {a b a' b' : Nat} {x : Int × Int} (h : Bn a b x) (ha : a ≤ a') (hb : b ≤ b') : Bn a' b' x :=
  ⟨Nat.lt_of_lt_of_le h.num (pow_le ha), h.pos, Nat.lt_of_lt_of_le h.den (pow_le hb)⟩
theorem mul_lt {i j : Int} {a b : Nat} (ha : i.natAbs < 2 ^ a) (hb : j.natAbs < 2 ^ b) : (i * j).natAbs < 2 ^ (a + b) := by
  rw [Int.natAbs_mul, Nat.pow_add]
  exact Nat.mul_lt_mul'' ha hb
theorem add_lt {i j : Int} {a : Nat} (ha : i.natAbs < 2 ^ a) (hb : j.natAbs < 2 ^ a) : (i + j).natAbs < 2 ^ (a + 1) := by
  rw [Nat.pow_succ]; omega
theorem sub_lt {i j : Int} {a : Nat} (ha : i.natAbs < 2 ^ a) (hb : j.natAbs < 2 ^ a) : (i - j).natAbs < 2 ^ (a + 1) := by
  rw [Nat.pow_succ]; omega
theorem lt_mono {i : Int} {a b : Nat} (h : i.natAbs < 2 ^ a) (hb : a ≤ b) : i.natAbs < 2 ^ b := Nat.lt_of_lt_of_le h (pow_le hb)
end DL

set_option Elab.async false
set_option linter.all false
set_option maxRecDepth 100000
namespace DL
open PySem L2
local macro_rules | `(tactic| walk_at "dl") => `(tactic| try simp only [dSeq, dAsg, dRaise, dCallX, dVar, dC, nth, dgTup, dgCons, dgName, dgNil, dgSub, dgSubC, dRet, dRetN, dCall, dCallN, dCons, dOp, dI, dI0, dNil, dTup, dLst, dLstO, dEq, dEqD, dTest, dAnd, dOr, dNot, dTru, dIfS, dIf, dNext, dNever, dDrop, dPar, dUn, dU, dAndV, dOrV, dNotV, dIx, dIxC, dLen, dAbs, dInt1, dGcd, dIsi, dAny, dIsN, dApp, dFrz, dGFrz, diSeq, diTup, diRng1, diRng2, seqD_tup, seqD_lst, seqD_ref, lstD_lst, lstD_ref, truD_bl, truD_int, truD_tup, truD_lst, truD_ref, tyD_non, tyD_bl, tyD_int, tyD_str, tyD_tup, tyD_lst, tyD_ref, rdD_lst, rdD_tup, rdD_ref, rdD_int, nonD_non, nonD_lst, nonD_tup, nonD_int, scal_ii, scal_bb, scal_ss, scal_nn, mset_same, mset_mset, mset_ne, mdel_same, mdel_ne, Option.map_some, Option.isSome_some,
  startD, List.map_cons, List.map_nil, List.length_cons, List.length_nil, List.cons_append, List.nil_append, List.set_cons_succ, List.set_cons_zero, List.replicate_succ, List.replicate_zero, Nat.reduceAdd, Nat.reduceSub, Nat.reduceLT, true_and, and_true, reduceIte, Bool.false_eq_true, Bool.not_true, Bool.not_false, if_true, if_false, V.int.injEq, V.bl.injEq, V.str.injEq, Int.cast_ofNat_Int, Bool.true_xor, Bool.false_xor, Bool.not_not, decide_true, decide_false, decide_eq_true_eq, Bool.not_eq_true', decide_eq_false_iff_not, Bool.true_eq_false, ne_eq, not_false_eq_true, Int.reduceEq, Int.reduceNeg, reduceCtorEq, Nat.zero_le, gt_iff_lt, *])
theorem loop_step {xs : List D} {i : Nat} {P : Prop} {Q : D → Prop} (h1 : xs.length ≤ i → P) (h2 : ∀ x, xs[i]? = some x → Q x) : match xs[i]? with
  | none => P
  | some x => Q x := by
  by_cases h : i < xs.length
  · have e : xs[i]? = some xs[i] := List.getElem?_eq_getElem h
    rw [e]; exact h2 _ e
  · rw [List.getElem?_eq_none (by omega)]; exact h1 (by omega)
theorem rng_step {lo : Int} {k i : Nat} {P : Prop} {Q : D → Prop} (h1 : k ≤ i → P) (h2 : i < k → Q (.v (.int (lo + (i : Nat))))) : match (rng lo k)[i]? with
  | none => P
  | some x => Q x := by
  by_cases h : i < k
  · rw [rng_get h]; exact h2 h
  · rw [List.getElem?_eq_none (by rw [rng_length]; omega)]; exact h1 (by omega)
/-! loops, turn by turn -/
def lcD (g : DG) (t : DT) (de : DE) (wd : Dl) : List D → List D → Mu → (D → Mu → Prop) → Prop
  | [], acc, m, F => F (.lst acc) m
  | x :: r, acc, m, F => g x wd m fun dl2 m2 => t dl2 m2 fun b m3 => if b = true then de dl2 m3 fun y m4 => lcD g t de wd r (acc ++ [y]) m4 F else lcD g t de wd r acc m3 F
theorem drop_cons {xs : List D} {i : Nat} {x : D} (e : xs[i]? = some x) : xs.drop i = x :: xs.drop (i + 1) := by
  obtain ⟨h, e⟩ := List.getElem?_eq_some_iff.mp e
  rw [← e]; exact List.drop_eq_getElem_cons h
theorem lc_unr {xs : List D} {g : DG} {t : DT} {de : DE} {wd : Dl} {m1 : Mu} {F : D → Mu → Prop} (h : lcD g t de wd xs [] m1 F) : ∃ I : Nat → List D → Mu → Prop, I 0 [] m1 ∧ ∀ i acc m, I i acc m →
  match xs[i]? with
  | none => F (.lst acc) m
  | some x => g x wd m fun dl2 m2 => t dl2 m2 fun b m3 => if b = true then de dl2 m3 fun y m4 => I (i + 1) (acc ++ [y]) m4 else I (i + 1) acc m3 := by
  refine ⟨fun i acc m => lcD g t de wd (xs.drop i) acc m F, h, fun i acc m hi => loop_step (fun hl => ?_) (fun x e => ?_)⟩
  · have hi' : lcD g t de wd (xs.drop i) acc m F := hi
    rw [List.drop_eq_nil_of_le hl] at hi'; exact hi'
  · have hi' : lcD g t de wd (xs.drop i) acc m F := hi
    rw [drop_cons e] at hi'; exact hi'
def forD (g : DG) (b : DS) (G : DEnds) : List D → Dl → Mu → Prop
  | [], dl, m => G.nx dl m
  | x :: r, dl, m => g x dl m fun dl2 m2 => b { G with nx := forD g b G r, ct := forD g b G r, bk := G.nx } dl2 m2
theorem for_unr {xs : List D} {g : DG} {b : DS} {G : DEnds} {dl : Dl} {m1 : Mu} (h : forD g b G xs dl m1) : ∃ I : Nat → Dl → Mu → Prop, I 0 dl m1 ∧ ∀ i dl m, I i dl m →
  match xs[i]? with
  | none => G.nx dl m
  | some x => g x dl m fun dl2 m2 => b { G with nx := I (i + 1), ct := I (i + 1), bk := G.nx } dl2 m2 := by
  refine ⟨fun i dl m => forD g b G (xs.drop i) dl m, h, fun i dl m hi => loop_step (fun hl => ?_) (fun x e => ?_)⟩
  · have hi' : forD g b G (xs.drop i) dl m := hi
    rw [List.drop_eq_nil_of_le hl] at hi'; exact hi'
  · have hi' : forD g b G (xs.drop i) dl m := hi
    rw [drop_cons e] at hi'; exact hi'
theorem lc_tup {i : Nat} {xs : List D} {g : DG} {t : DT} {de : DE} {vs : List Nat} {dl : Dl} {m : Mu} {F : D → Mu → Prop} (h1 : nth dl i = some (some (.tup xs))) (h2 : xs.length ≤ sizeLine) (h3 : lcD g t de (wipeD dl vs) xs [] m F) :
    dLc (diTup (dVar i)) g t de vs dl m F := by
  unfold dLc diTup dVar
  rw [h1]
  exact ⟨h2, lc_unr h3⟩
theorem lc_seq {i : Nat} {xs : List D} {g : DG} {t : DT} {de : DE} {vs : List Nat} {dl : Dl} {m : Mu} {F : D → Mu → Prop} (h1 : nth dl i = some (some (.lst xs))) (h2 : xs.length ≤ sizeLine) (h3 : lcD g t de (wipeD dl vs) xs [] m F) :
    dLc (diSeq (dVar i)) g t de vs dl m F := by
  unfold dLc diSeq dVar
  rw [h1]
  exact ⟨h2, lc_unr h3⟩
def frD (x : Int × Int) : D := .tup [.v (.int x.1), .v (.int x.2)]
/-! promises of the small defs -/
theorem nz {a b : Int} (ha : 0 < a) (hb : 0 < b) : a * b ≠ 0 := Int.ne_of_gt (Int.mul_pos ha hb)
def isTape (t : List D) : Prop := ∃ a b c d, t = [.v (.int a), .v (.bl b), .v (.int c), .v (.int d)]
def S_fraction : SpX := fun ds m F _ => ∃ p q, ds = [.v (.int p), .v (.int q)] ∧ q ≠ 0 ∧ q.natAbs < 2 ^ 9000 ∧ F (frD (frac p q)) m
/-- with the way out: C is the class that is raised -/
def S_fractionX (C : Value) : SpX := fun ds m F Z => ∃ p q, ds = [.v (.int p), .v (.int q)] ∧ q.natAbs < 2 ^ 9000 ∧ (q ≠ 0 → F (frD (frac p q)) m) ∧ (q = 0 → Z C m)
theorem S_fractionX_len {C : Value} : ∀ ds m F Z, S_fractionX C ds m F Z → ds.length = 2 := by rintro _ m F Z ⟨x, y, rfl, _⟩; rfl
theorem S_fraction_of {K : PySem.W.Frag} {C : Value} : ∀ vs H Q E, spX K S_fraction vs H Q E → spX K (S_fractionX C) vs H Q E := by
  rintro vs H Q E ⟨n, ds, m, F, Z, ok, r, ⟨p, q, rfl, h0, h1, h2⟩, ps, hx⟩
  exact ⟨n, _, m, F, Z, ok, r, ⟨p, q, rfl, h1, fun _ => h2, fun e => absurd e h0⟩, ps, hx⟩
def d_fraction (C : Value) (Z : Value → Mu → Prop) : DS :=
  dSeq (dIfS (dTest (dOp (dEq false) (dVar 1) (dC (.int 0)))) (dRaise Z C) dNext)
    (dSeq (dAsg (dCall dGcd (dCons (dVar 0) (dCons (dVar 1) dNil))) (dgName 2))
    (dSeq (dIfS (dTest (dOp (dI0 (fun i j => .bl (decide (i < j)))) (dVar 1) (dC (.int 0)))) (dAsg (dUn (dU (fun i => .int (-i))) (dVar 2)) (dgName 2)) dNext)
    (dRet (dTup (dCons (dOp (dI CDivX (fun i j => .int (i.fdiv j))) (dVar 0) (dVar 2)) (dCons (dOp (dI CDivX (fun i j => .int (i.fdiv j))) (dVar 1) (dVar 2)) dNil))))))
abbrev N_fraction : List Str := ["p", "q", "shared"]
theorem rd_fraction {C : Value} {Z : Value → Mu → Prop} : ∀ args m F, S_fractionX C args m F Z → d_fraction C Z { nx := fun _ m => F (.v .non) m, rt := F } (startD N_fraction args) m := by
  rintro _ m F ⟨p, q, rfl, h1, h, hz⟩
  unfold d_fraction
  walk_at "dl"
  refine ite2 (fun c => ?_) (fun c => ?_)
  · exact hz c
  have h0 : q ≠ 0 := c
  have g0 := gcdI_pos (p := p) h0
  have g1 := gcdI_le (p := p) h0
  have b1 : (gcdI p q).natAbs < 2 ^ 9000 := Nat.lt_of_le_of_lt g1 h1
  have b2 : (-gcdI p q).natAbs < 2 ^ 9000 := by rw [Int.natAbs_neg]; exact b1
  have n1 : gcdI p q ≠ 0 := by omega
  have n2 : -gcdI p q ≠ 0 := by omega
  have hh := h h0
  unfold frac at hh
  clear h hz
  walk_at "dl"
  refine ite2 (fun c => ?_) (fun c => ?_)
  · rw [if_pos c] at hh
    exact ⟨divX n2 b2 (by omega), divX n2 b2 (by omega), by show 2 ≤ sizeLine; decide, hh⟩
  · rw [if_neg c] at hh
    exact ⟨divX n1 b1 (by omega), divX n1 b1 (by omega), by show 2 ≤ sizeLine; decide, hh⟩
def S_plus : SpD := fun ds m F => ∃ x y, ds = [frD x, frD y] ∧ Bn 400000 4500 x ∧ Bn 400000 4500 y ∧ F (frD (frac (x.1 * y.2 + y.1 * x.2) (x.2 * y.2))) m
def S_minus : SpD := fun ds m F => ∃ x y, ds = [frD x, frD y] ∧ Bn 400000 4500 x ∧ Bn 400000 4500 y ∧ F (frD (frac (x.1 * y.2 - y.1 * x.2) (x.2 * y.2))) m
def S_times : SpD := fun ds m F => ∃ x y, ds = [frD x, frD y] ∧ Bn 400000 4500 x ∧ Bn 400000 4500 y ∧ F (frD (frac (x.1 * y.1) (x.2 * y.2))) m
def S_law_tape : SpD := fun ds m F => ∃ (ns : List Int) (k : Int), ds = [.lst (ns.map D.int), .v (.int k)] ∧ 0 ≤ k ∧ ∀ p t, m p = none → isTape t → F (.v (.ref p)) (mset m p t)
def S_law_take : SpD := fun ds m F => ∃ p many t, ds = [.v (.ref p), .v (.int many)] ∧ m p = some t ∧ isTape t ∧ 0 < many ∧ many < 1073741824 ∧ ∀ r t', isTape t' → 0 ≤ r → r < many → F (.v (.int r)) (mset m p t')
def S_law_divisor : SpD := fun ds m F => ∃ a b, ds = [.v (.int a), .v (.int b)] ∧ F (.v (.int (gcdI a b))) m
def S_law_fraction : SpD := fun ds m F => ∃ p q, ds = [.v (.int p), .v (.int q)] ∧ q ≠ 0 ∧ q.natAbs < 2 ^ 9000 ∧ F (frD (frac p q)) m
def S_law_plus : SpD := S_plus
def S_law_times : SpD := S_times
theorem S_plus_len : ∀ ds m F, S_plus ds m F → ds.length = 2 := by rintro _ m F ⟨x, y, rfl, _⟩; rfl
theorem S_minus_len : ∀ ds m F, S_minus ds m F → ds.length = 2 := by rintro _ m F ⟨x, y, rfl, _⟩; rfl
theorem S_times_len : ∀ ds m F, S_times ds m F → ds.length = 2 := by rintro _ m F ⟨x, y, rfl, _⟩; rfl
theorem S_law_plus_len : ∀ ds m F, S_law_plus ds m F → ds.length = 2 := by rintro _ m F ⟨x, y, rfl, _⟩; rfl
theorem S_law_times_len : ∀ ds m F, S_law_times ds m F → ds.length = 2 := by rintro _ m F ⟨x, y, rfl, _⟩; rfl
theorem S_law_tape_len : ∀ ds m F, S_law_tape ds m F → ds.length = 2 := by rintro _ m F ⟨x, y, rfl, _⟩; rfl
theorem S_law_take_len : ∀ ds m F, S_law_take ds m F → ds.length = 2 := by rintro _ m F ⟨x, y, t, rfl, _⟩; rfl
theorem S_law_divisor_len : ∀ ds m F, S_law_divisor ds m F → ds.length = 2 := by rintro _ m F ⟨x, y, rfl, _⟩; rfl
theorem S_law_fraction_len : ∀ ds m F, S_law_fraction ds m F → ds.length = 2 := by rintro _ m F ⟨x, y, rfl, _⟩; rfl
def d_plus : DS :=
  (dSeq (dAsg (dVar 0) (dgTup 2 (dgCons (dgName 2) (dgCons (dgName 3) dgNil)))) (dSeq (dAsg (dVar 1) (dgTup 2 (dgCons (dgName 4) (dgCons (dgName 5) dgNil)))) (dRet (dCallN S_fraction (dCons (dOp (dI0 (fun i j => .int (i + j))) (dOp (dI IntMulOk (fun i j => .int (i * j))) (dVar 2) (dVar 5)) (dOp (dI IntMulOk (fun i j => .int (i * j))) (dVar 4) (dVar 3))) (dCons (dOp (dI IntMulOk (fun i j => .int (i * j))) (dVar 3) (dVar 5)) dNil))))))
abbrev N_plus : List Str := ["x", "y", "p", "q", "r", "s"]
def d_minus : DS :=
  (dSeq (dAsg (dVar 0) (dgTup 2 (dgCons (dgName 2) (dgCons (dgName 3) dgNil)))) (dSeq (dAsg (dVar 1) (dgTup 2 (dgCons (dgName 4) (dgCons (dgName 5) dgNil)))) (dRet (dCallN S_fraction (dCons (dOp (dI0 (fun i j => .int (i - j))) (dOp (dI IntMulOk (fun i j => .int (i * j))) (dVar 2) (dVar 5)) (dOp (dI IntMulOk (fun i j => .int (i * j))) (dVar 4) (dVar 3))) (dCons (dOp (dI IntMulOk (fun i j => .int (i * j))) (dVar 3) (dVar 5)) dNil))))))
abbrev N_minus : List Str := ["x", "y", "p", "q", "r", "s"]
def d_times : DS :=
  (dSeq (dAsg (dVar 0) (dgTup 2 (dgCons (dgName 2) (dgCons (dgName 3) dgNil)))) (dSeq (dAsg (dVar 1) (dgTup 2 (dgCons (dgName 4) (dgCons (dgName 5) dgNil)))) (dRet (dCallN S_fraction (dCons (dOp (dI IntMulOk (fun i j => .int (i * j))) (dVar 2) (dVar 4)) (dCons (dOp (dI IntMulOk (fun i j => .int (i * j))) (dVar 3) (dVar 5)) dNil))))))
abbrev N_times : List Str := ["x", "y", "p", "q", "r", "s"]
def d_law_tape : DS :=
  (dSeq (dAsg (dC (.int 0)) (dgName 2)) (dSeq (dIfS (dTest (dOp (dI0 (fun i j => .bl (decide (i < j)))) (dVar 1) (dCall dLen (dCons (dVar 0) dNil)))) (dAsg (dCall dAbs (dCons (dOp dIx (dVar 0) (dVar 1)) dNil)) (dgName 2)) dNext) (dRet (dLstO (dCons (dVar 2) (dCons (dOp (dI0 (fun i j => .bl (decide (j ≤ i)))) (dVar 2) (dOp (dI CPow (fun i j => .int (i ^ j.toNat))) (dC (.int 10)) (dC (.int 18)))) (dCons (dC (.int 0)) (dCons (dOp (dI (fun _ j => j ≠ 0) (fun i j => .int (i.fmod j))) (dCall dInt1 (dCons (dOp (dI0 (fun i j => .int (i + j))) (dOp (dI IntMulOk (fun i j => .int (i * j))) (dVar 2) (dC (.int 64))) (dVar 1)) dNil)) (dC (.int 2147483647))) dNil))))))))
abbrev N_law_tape : List Str := ["script", "k", "cell"]
def d_law_take : DS :=
  (dSeq (dIfS (dAnd (dTru (dIxC 1 (dVar 0))) (dTest (dOp (dI0 (fun i j => .bl (decide (j < i)))) (dIxC 0 (dVar 0)) (dC (.int 0))))) (dSeq (dAsg (dOp (dI (fun _ j => j ≠ 0) (fun i j => .int (i.fmod j))) (dCall dInt1 (dCons (dIxC 0 (dVar 0)) dNil)) (dVar 1)) (dgName 2)) (dSeq (dAsg (dOp (dI CDivX (fun i j => .int (i.fdiv j))) (dIxC 0 (dVar 0)) (dVar 1)) (dgSubC 0 (dVar 0))) (dRet (dVar 2)))) dNext) (dSeq (dAsg (dOp (dI0 (fun i j => .int (i + j))) (dIxC 2 (dVar 0)) (dC (.int 1))) (dgSubC 2 (dVar 0))) (dSeq (dAsg (dOp (dI (fun _ j => j ≠ 0) (fun i j => .int (i.fmod j))) (dCall dInt1 (dCons (dOp (dI0 (fun i j => .int (i + j))) (dOp (dI0 (fun i j => .int (i + j))) (dOp (dI IntMulOk (fun i j => .int (i * j))) (dIxC 3 (dVar 0)) (dC (.int 48271))) (dOp (dI IntMulOk (fun i j => .int (i * j))) (dIxC 2 (dVar 0)) (dC (.int 69621)))) (dC (.int 17))) dNil)) (dC (.int 2147483647))) (dgName 3)) (dSeq (dAsg (dOp (dI (fun _ j => j ≠ 0) (fun i j => .int (i.fmod j))) (dCall dInt1 (dCons (dOp (dI0 (fun i j => .int (i + j))) (dOp (dI0 (fun i j => .int (i + j))) (dOp (dI IntMulOk (fun i j => .int (i * j))) (dVar 3) (dC (.int 40692))) (dOp (dI IntMulOk (fun i j => .int (i * j))) (dOp (dI CDivX (fun i j => .int (i.fdiv j))) (dVar 3) (dC (.int 977))) (dC (.int 31)))) (dIxC 2 (dVar 0))) dNil)) (dC (.int 2147483399))) (dgName 3)) (dRet (dOp (dI (fun _ j => j ≠ 0) (fun i j => .int (i.fmod j))) (dCall dInt1 (dCons (dOp (dI CDivX (fun i j => .int (i.fdiv j))) (dVar 3) (dC (.int 7))) dNil)) (dVar 1)))))))
abbrev N_law_take : List Str := ["tape", "many", "got", "mixed"]
def d_law_divisor : DS :=
  (dSeq (dWhile (dTest (dOp (dEq true) (dVar 1) (dC (.int 0)))) (dPar 0 1 (dCons (dVar 1) (dCons (dOp (dI (fun _ j => j ≠ 0) (fun i j => .int (i.fmod j))) (dCall dInt1 (dCons (dVar 0) dNil)) (dVar 1)) dNil)))) (dRet (dCall dAbs (dCons (dVar 0) dNil))))
abbrev N_law_divisor : List Str := ["one", "other"]
def d_law_fraction : DS :=
  (dSeq (dAsg (dCall S_law_divisor (dCons (dVar 0) (dCons (dVar 1) dNil))) (dgName 2)) (dSeq (dIfS (dTest (dOp (dI0 (fun i j => .bl (decide (i < j)))) (dVar 1) (dC (.int 0)))) (dAsg (dOp (dI0 (fun i j => .int (i - j))) (dC (.int 0)) (dVar 2)) (dgName 2)) dNext) (dRet (dTup (dCons (dOp (dI CDivX (fun i j => .int (i.fdiv j))) (dVar 0) (dVar 2)) (dCons (dOp (dI CDivX (fun i j => .int (i.fdiv j))) (dVar 1) (dVar 2)) dNil))))))
abbrev N_law_fraction : List Str := ["p", "q", "divisor"]
def d_law_plus : DS :=
  (dRet (dCall S_law_fraction (dCons (dOp (dI0 (fun i j => .int (i + j))) (dOp (dI IntMulOk (fun i j => .int (i * j))) (dIxC 0 (dVar 0)) (dIxC 1 (dVar 1))) (dOp (dI IntMulOk (fun i j => .int (i * j))) (dIxC 0 (dVar 1)) (dIxC 1 (dVar 0)))) (dCons (dOp (dI IntMulOk (fun i j => .int (i * j))) (dIxC 1 (dVar 0)) (dIxC 1 (dVar 1))) dNil))))
abbrev N_law_plus : List Str := ["x", "y"]
def d_law_times : DS :=
  (dRet (dCall S_law_fraction (dCons (dOp (dI IntMulOk (fun i j => .int (i * j))) (dIxC 0 (dVar 0)) (dIxC 0 (dVar 1))) (dCons (dOp (dI IntMulOk (fun i j => .int (i * j))) (dIxC 1 (dVar 0)) (dIxC 1 (dVar 1))) dNil))))
abbrev N_law_times : List Str := ["x", "y"]
theorem rd_plus : ∀ args m F, S_plus args m F → d_plus { nx := fun _ m => F (.v .non) m, rt := F } (startD N_plus args) m := by
  rintro _ m F ⟨⟨p, q⟩, ⟨r, s⟩, rfl, ⟨n1, p1, q1⟩, ⟨n2, p2, q2⟩, h⟩
  unfold d_plus frD
  walk_at "dl"
  refine ⟨mulOk_bits n1 q2 (by omega), mulOk_bits n2 q1 (by omega), mulOk_bits q1 q2 (by omega), _, _, rfl, nz p1 p2, mul_lt q1 q2, h⟩
theorem rd_minus : ∀ args m F, S_minus args m F → d_minus { nx := fun _ m => F (.v .non) m, rt := F } (startD N_minus args) m := by
  rintro _ m F ⟨⟨p, q⟩, ⟨r, s⟩, rfl, ⟨n1, p1, q1⟩, ⟨n2, p2, q2⟩, h⟩
  unfold d_minus frD
  walk_at "dl"
  refine ⟨mulOk_bits n1 q2 (by omega), mulOk_bits n2 q1 (by omega), mulOk_bits q1 q2 (by omega), _, _, rfl, nz p1 p2, mul_lt q1 q2, h⟩
theorem rd_times : ∀ args m F, S_times args m F → d_times { nx := fun _ m => F (.v .non) m, rt := F } (startD N_times args) m := by
  rintro _ m F ⟨⟨p, q⟩, ⟨r, s⟩, rfl, ⟨n1, p1, q1⟩, ⟨n2, p2, q2⟩, h⟩
  unfold d_times frD
  walk_at "dl"
  refine ⟨mulOk_bits n1 n2 (by omega), mulOk_bits q1 q2 (by omega), _, _, rfl, nz p1 p2, mul_lt q1 q2, h⟩
theorem atI_map {ns : List Int} {k : Int} (h0 : 0 ≤ k) (h : k < (ns.length : Int)) : ∃ v : Int, atI (ns.map D.int) k = some (.v (.int v)) := by
  obtain ⟨n, rfl⟩ := Int.eq_ofNat_of_zero_le h0
  have hk : n < ns.length := by omega
  exact ⟨ns[n], atI_nat (by rw [List.getElem?_map]; simp [List.getElem?_eq_getElem hk])⟩
theorem rd_law_tape : ∀ args m F, S_law_tape args m F → d_law_tape { nx := fun _ m => F (.v .non) m, rt := F } (startD N_law_tape args) m := by
  rintro _ m F ⟨ns, k, rfl, h0, h⟩
  unfold d_law_tape
  walk_at "dl"
  have fin : ∀ c : Int, CPow 10 18 ∧ IntMulOk c 64 ∧ 4 ≤ sizeLine ∧ ∀ (p : Addr), m p = none →
      F (D.v (V.ref p)) (mset m p [D.v (V.int c), D.v (V.bl (decide (10 ^ Int.toNat 18 ≤ c))), D.v (V.int 0), D.v (V.int ((c * 64 + k).fmod 2147483647))]) := fun c =>
    ⟨⟨by decide, by decide, by decide⟩, mulOk_small (.inr ⟨by decide, by decide⟩), by decide, fun p hp => h p _ hp ⟨_, _, _, _, rfl⟩⟩
  refine ite2 (fun c => ?_) (fun c => ?_)
  · have c' : k < ((ns.map D.int).length : Int) := c
    rw [List.length_map] at c'
    obtain ⟨v, e⟩ := atI_map h0 c'
    refine ⟨_, e, ?_⟩
    exact fin _
  · exact fin _
theorem take_turn {r many : Int} (h : 0 < many) : 0 ≤ r.fmod many ∧ r.fmod many < many := ⟨Int.fmod_nonneg_of_pos r h, Int.fmod_lt_of_pos r h⟩
theorem rd_law_take : ∀ args m F, S_law_take args m F → d_law_take { nx := fun _ m => F (.v .non) m, rt := F } (startD N_law_take args) m := by
  rintro _ m F ⟨p, many, _, rfl, hm, ⟨a, b, c, d, rfl⟩, h1, h2, h⟩
  have e1 : many ≠ 0 := by omega
  have e2 : ∀ x : Int, IntMulOk x 48271 ∧ IntMulOk x 69621 ∧ IntMulOk x 40692 ∧ IntMulOk x 31 := fun x => ⟨mulOk_small (.inr (by omega)), mulOk_small (.inr (by omega)), mulOk_small (.inr (by omega)), mulOk_small (.inr (by omega))⟩
  have e3 : ∀ x : Int, CDivX x 977 ∧ CDivX x 7 := fun x => ⟨divX_small (by omega) (by decide), divX_small (by omega) (by decide)⟩
  have t1 := fun r => (take_turn (r := r) h1).1
  have t2 := fun r => (take_turn (r := r) h1).2
  have last : ∀ (x y : Int), F (D.v (.int (x.fmod many))) (mset m p [D.v (.int a), D.v (.bl b), D.v (.int (c + 1)), D.v (.int d)]) := fun x y => h _ _ ⟨_, _, _, _, rfl⟩ (t1 x) (t2 x)
  unfold d_law_take
  walk_at "dl"
  cases b with
  | false =>
    walk_at "dl"
    exact last _ 0
  | true =>
    walk_at "dl"
    refine ite2 (fun hc => ?_) (fun hc => ?_)
    · walk_at "dl"
      exact ⟨divX_small e1 (by omega), h _ _ ⟨_, _, _, _, rfl⟩ (t1 _) (t2 _)⟩
    · walk_at "dl"
      exact last _ 0
theorem gcd_step {x y : Int} (h : y ≠ 0) : gcdI y (x.fmod y) = gcdI x y ∧ (x.fmod y).natAbs < y.natAbs := by
  constructor
  · have e : x = x.fmod y + y * x.fdiv y := (Int.fmod_add_mul_fdiv x y).symm
    unfold gcdI
    show ((Int.gcd y (x.fmod y) : Nat) : Int) = ((Int.gcd x y : Nat) : Int)
    conv => rhs; rw [e, Int.gcd_comm]
    rw [Int.mul_comm, Int.gcd_add_mul_right_right]
  · rcases Int.lt_or_gt_of_ne h with hy | hy
    · have h1 := Int.fmod_eq_emod (a := x) (b := y)
      have h2 := Int.emod_nonneg x (show y ≠ 0 from h)
      have h3 := Int.emod_lt_of_neg x hy
      have h4 : y ∣ x → x % y = 0 := Int.emod_eq_zero_of_dvd
      split at h1
      · rename_i hc
        rcases hc with hc | hc
        · omega
        · have := h4 hc
          omega
      · omega
    · have h1 := Int.fmod_nonneg_of_pos x hy
      have h2 := Int.fmod_lt_of_pos x hy
      omega
theorem rd_law_divisor : ∀ args m F, S_law_divisor args m F → d_law_divisor { nx := fun _ m => F (.v .non) m, rt := F } (startD N_law_divisor args) m := by
  rintro _ m F ⟨a, b, rfl, h⟩
  unfold d_law_divisor dWhile
  walk_at "dl"
  refine ⟨fun k dl m' => m' = m ∧ ∃ x y : Int, dl = [some (.v (.int x)), some (.v (.int y))] ∧ k = y.natAbs ∧ gcdI x y = gcdI a b, ⟨_, rfl, a, b, rfl, rfl, rfl⟩, ?_⟩
  rintro k _ _ ⟨rfl, x, y, rfl, rfl, hg⟩
  walk_at "dl"
  refine ite2 (fun c => ?_) (fun c => ?_)
  · have hy : y ≠ 0 := c
    walk_at "dl"
    obtain ⟨g1, g2⟩ := gcd_step (x := x) hy
    exact ⟨_, g2, _, _, rfl, rfl, g1.trans hg⟩
  · have hy : y = 0 := by omega
    subst hy
    walk_at "dl"
    have e : gcdI a b = if x < 0 then -x else x := by
      rw [← hg]
      unfold gcdI
      simp only [Int.natAbs_zero, Nat.gcd_zero_right]
      split <;> omega
    rw [← e]
    exact h
theorem rd_law_fraction : ∀ args m F, S_law_fraction args m F → d_law_fraction { nx := fun _ m => F (.v .non) m, rt := F } (startD N_law_fraction args) m := by
  rintro _ m F ⟨p, q, rfl, h0, h1, h⟩
  have g0 := gcdI_pos (p := p) h0
  have g1 := gcdI_le (p := p) h0
  have b1 : (gcdI p q).natAbs < 2 ^ 9000 := Nat.lt_of_le_of_lt g1 h1
  have b2 : (0 - gcdI p q).natAbs < 2 ^ 9000 := by rw [Int.zero_sub, Int.natAbs_neg]; exact b1
  have n1 : gcdI p q ≠ 0 := by omega
  have n2 : 0 - gcdI p q ≠ 0 := by omega
  unfold d_law_fraction
  walk_at "dl"
  refine ⟨p, q, rfl, ?_⟩
  walk_at "dl"
  refine ite2 (fun c => ?_) (fun c => ?_)
  · have c' : q < 0 := c
    walk_at "dl"
    refine ⟨divX n2 b2 (by omega), divX n2 b2 (by omega), by decide, ?_⟩
    unfold frac at h
    rw [if_pos c'] at h
    rw [Int.zero_sub]
    exact h
  · have c' : ¬ q < 0 := c
    walk_at "dl"
    refine ⟨divX n1 b1 (by omega), divX n1 b1 (by omega), by decide, ?_⟩
    unfold frac at h
    rw [if_neg c'] at h
    exact h
theorem rd_law_plus : ∀ args m F, S_law_plus args m F → d_law_plus { nx := fun _ m => F (.v .non) m, rt := F } (startD N_law_plus args) m := by
  rintro _ m F ⟨⟨p, q⟩, ⟨r, s⟩, rfl, ⟨n1, p1, q1⟩, ⟨n2, p2, q2⟩, h⟩
  unfold d_law_plus frD
  walk_at "dl"
  exact ⟨mulOk_bits n1 q2 (by omega), mulOk_bits n2 q1 (by omega), mulOk_bits q1 q2 (by omega), _, _, rfl, nz p1 p2, mul_lt q1 q2, h⟩
theorem rd_law_times : ∀ args m F, S_law_times args m F → d_law_times { nx := fun _ m => F (.v .non) m, rt := F } (startD N_law_times args) m := by
  rintro _ m F ⟨⟨p, q⟩, ⟨r, s⟩, rfl, ⟨n1, p1, q1⟩, ⟨n2, p2, q2⟩, h⟩
  unfold d_law_times frD
  walk_at "dl"
  exact ⟨mulOk_bits n1 n2 (by omega), mulOk_bits q1 q2 (by omega), _, _, rfl, nz p1 p2, mul_lt q1 q2, h⟩

end DL

set_option Elab.async false
set_option linter.all false
set_option maxRecDepth 100000
namespace DL
open PySem L2
local macro_rules | `(tactic| walk_at "dl") => `(tactic| try simp only [dSeq, dAsg, dRaise, dCallX, dVar, dC, nth, dgTup, dgCons, dgName, dgNil, dgSub, dgSubC, dRet, dRetN, dCall, dCallN, dCons, dOp, dI, dI0, dNil, dTup, dLst, dLstO, dEq, dEqD, dTest, dAnd, dOr, dNot, dTru, dIfS, dIf, dNext, dNever, dDrop, dPar, dUn, dU, dAndV, dOrV, dNotV, dIx, dIxC, dLen, dAbs, dInt1, dGcd, dIsi, dAny, dIsN, dApp, dFrz, dGFrz, diSeq, diTup, diRng1, diRng2, seqD_tup, seqD_lst, seqD_ref, lstD_lst, lstD_ref, truD_bl, truD_int, truD_tup, truD_lst, truD_ref, tyD_non, tyD_bl, tyD_int, tyD_str, tyD_tup, tyD_lst, tyD_ref, rdD_lst, rdD_tup, rdD_ref, rdD_int, nonD_non, nonD_lst, nonD_tup, nonD_int, scal_ii, scal_bb, scal_ss, scal_nn, mset_same, mset_mset, mset_ne, mdel_same, mdel_ne, Option.map_some, Option.isSome_some,
  startD, List.map_cons, List.map_nil, List.length_cons, List.length_nil, List.cons_append, List.nil_append, List.set_cons_succ, List.set_cons_zero, List.replicate_succ, List.replicate_zero, Nat.reduceAdd, Nat.reduceSub, Nat.reduceLT, true_and, and_true, reduceIte, Bool.false_eq_true, Bool.not_true, Bool.not_false, if_true, if_false, V.int.injEq, V.bl.injEq, V.str.injEq, Int.cast_ofNat_Int, Bool.true_xor, Bool.false_xor, Bool.not_not, decide_true, decide_false, decide_eq_true_eq, Bool.not_eq_true', decide_eq_false_iff_not, Bool.true_eq_false, ne_eq, not_false_eq_true, Int.reduceEq, Int.reduceNeg, reduceCtorEq, Nat.zero_le, gt_iff_lt, *])
def S_law_integer : SpD := fun ds m F => ∃ p t, ds = [.v (.ref p)] ∧ m p = some t ∧ isTape t ∧ ∀ r t', isTape t' → r.natAbs < 2 ^ 100 → F (.v (.int r)) (mset m p t')
theorem S_law_integer_len : ∀ ds m F, S_law_integer ds m F → ds.length = 1 := by rintro _ m F ⟨x, y, rfl, _⟩; rfl
def S_law_is : SpD := fun ds m F => ∃ x : Int × Int, ds = [frD x, frD x] ∧ F (.v (.bl true)) m
theorem S_law_is_len : ∀ ds m F, S_law_is ds m F → ds.length = 2 := by rintro _ m F ⟨x, rfl, _⟩; rfl
def S_law_made : SpD := fun ds m F => ∃ p q, ds = [.v (.int p), .v (.int q)] ∧ q.natAbs < 2 ^ 9000 ∧ F (.lst (if q = 0 then [] else [frD (frac p q)])) m
theorem S_law_made_len : ∀ ds m F, S_law_made ds m F → ds.length = 2 := by rintro _ m F ⟨x, y, rfl, _⟩; rfl
def S_overX (C : Value) : SpX := fun ds m F Z => ∃ x y, ds = [frD x, frD y] ∧ Bn 4500 4500 x ∧ Bn 4500 4500 y ∧ (y.1 ≠ 0 → F (frD (frac (x.1 * y.2) (x.2 * y.1))) m) ∧ (y.1 = 0 → Z C m)
theorem S_overX_len {C : Value} : ∀ ds m F Z, S_overX C ds m F Z → ds.length = 2 := by rintro _ m F Z ⟨x, y, rfl, _⟩; rfl
def d_over (C : Value) (Z : Value → Mu → Prop) : DS :=
  (dSeq (dAsg (dVar 0) (dgTup 2 (dgCons (dgName 2) (dgCons (dgName 3) dgNil)))) (dSeq (dAsg (dVar 1) (dgTup 2 (dgCons (dgName 4) (dgCons (dgName 5) dgNil)))) (dRet (dCallX (S_fractionX C) Z (dCons (dOp (dI IntMulOk (fun i j => .int (i * j))) (dVar 2) (dVar 5)) (dCons (dOp (dI IntMulOk (fun i j => .int (i * j))) (dVar 3) (dVar 4)) dNil))))))
abbrev N_over : List Str := ["x", "y", "p", "q", "r", "s"]
theorem rd_over {C : Value} {Z : Value → Mu → Prop} : ∀ args m F, S_overX C args m F Z → d_over C Z { nx := fun _ m => F (.v .non) m, rt := F } (startD N_over args) m := by
  rintro _ m F ⟨⟨p, q⟩, ⟨r, s⟩, rfl, ⟨n1, p1, q1⟩, ⟨n2, p2, q2⟩, h, hz⟩
  unfold d_over frD
  walk_at "dl"
  refine ⟨mulOk_bits n1 q2 (by omega), mulOk_bits q1 n2 (by omega), _, _, rfl, mul_lt q1 n2, fun hne => h ?_, fun he => hz ?_⟩
  · intro e
    have e' : r = 0 := e
    rw [e'] at hne
    exact hne (Int.mul_zero _)
  · rcases Int.mul_eq_zero.mp he with e | e
    · have p1' : 0 < q := p1
      omega
    · exact e
/-- try: return [over(x, y)] .. except NoFraction: return [] -/
def d_law_parted : DS := fun G dl m => ∃ x y, nth dl 0 = some (some (frD x)) ∧ nth dl 1 = some (some (frD y)) ∧ Bn 4500 4500 x ∧ Bn 4500 4500 y ∧ G.rt (.lst (if y.1 = 0 then [] else [frD (frac (x.1 * y.2) (x.2 * y.1))])) m
abbrev N_law_parted : List Str := ["x", "y"]
def d_law_made : DS := fun G dl m => ∃ p q, dl.length = 4 ∧ nth dl 0 = some (some (.v (.int p))) ∧ nth dl 1 = some (some (.v (.int q))) ∧ q.natAbs < 2 ^ 9000 ∧ G.rt (.lst (if q = 0 then [] else [frD (frac p q)])) m
abbrev N_law_made : List Str := ["p", "q", "e", "others"]
def S_law_parted : SpD := fun ds m F => ∃ x y, ds = [frD x, frD y] ∧ Bn 4500 4500 x ∧ Bn 4500 4500 y ∧ F (.lst (if y.1 = 0 then [] else [frD (frac (x.1 * y.2) (x.2 * y.1))])) m
theorem S_law_parted_len : ∀ ds m F, S_law_parted ds m F → ds.length = 2 := by rintro _ m F ⟨x, y, rfl, _⟩; rfl
theorem rd_law_parted : ∀ args m F, S_law_parted args m F → d_law_parted { nx := fun _ m => F (.v .non) m, rt := F } (startD N_law_parted args) m := by
  rintro _ m F ⟨x, y, rfl, bx, by', h⟩
  exact ⟨x, y, rfl, rfl, bx, by', h⟩
theorem rd_law_made : ∀ args m F, S_law_made args m F → d_law_made { nx := fun _ m => F (.v .non) m, rt := F } (startD N_law_made args) m := by
  rintro _ m F ⟨x, y, rfl, bx, h⟩
  exact ⟨x, y, rfl, rfl, rfl, bx, h⟩
def d_law_integer : DS :=
  (dSeq (dAsg (dOp dIx (dLst (dCons (dC (.int 1)) (dCons (dC (.int 4)) (dCons (dC (.int 100)) (dCons (dOp (dI CPow (fun i j => .int (i ^ j.toNat))) (dC (.int 10)) (dC (.int 12))) (dCons (dOp (dI CPow (fun i j => .int (i ^ j.toNat))) (dC (.int 10)) (dC (.int 30))) dNil)))))) (dCall S_law_take (dCons (dVar 0) (dCons (dC (.int 5)) dNil)))) (dgName 1)) (dSeq (dAsg (dC (.int 0)) (dgName 2)) (dSeq (dFor (diRng1 (dCons (dC (.int 5)) dNil)) (dgName 3) (dAsg (dOp (dI0 (fun i j => .int (i + j))) (dOp (dI IntMulOk (fun i j => .int (i * j))) (dVar 2) (dC (.int 1000003))) (dCall S_law_take (dCons (dVar 0) (dCons (dC (.int 1000003)) dNil)))) (dgName 2))) (dRet (dOp (dI IntMulOk (fun i j => .int (i * j))) (dOp (dI (fun _ j => j ≠ 0) (fun i j => .int (i.fmod j))) (dCall dInt1 (dCons (dVar 2) dNil)) (dVar 1)) (dOp dIx (dLst (dCons (dC (.int 1)) (dCons (dUn (dU (fun i => .int (-i))) (dC (.int 1))) dNil))) (dCall S_law_take (dCons (dVar 0) (dCons (dC (.int 2)) dNil)))))))))
abbrev N_law_integer : List Str := ["tape", "size", "whole", "k"]
def d_law_is : DS :=
  (dSeq (dIfS (dOr (dNot (dTest (dCall dIsi (dCons (dVar 0) (dCons (dC (.ty "tuple")) dNil))))) (dOr (dTest (dOp (dEq true) (dCall dLen (dCons (dVar 0) dNil)) (dC (.int 2)))) (dTest (dOp (dEqD true) (dVar 0) (dVar 1))))) (dRet (dC (.bl false))) dNext) (dRet (dOp (dEq false) (dCall dLen (dCons (dLc (diTup (dVar 0)) (dgName 2) (dOr (dNot (dTest (dCall dIsi (dCons (dVar 2) (dCons (dC (.ty "int")) dNil))))) (dTest (dCall dIsi (dCons (dVar 2) (dCons (dC (.ty "bool")) dNil))))) (dVar 2) [2]) dNil)) (dC (.int 0)))))
abbrev N_law_is : List Str := ["told", "due", "one"]
def d_law : DS :=
  (dSeq (dAsg (dLstO (dCons (dTup (dCons (dC (.int 0)) (dCons (dC (.int 1)) dNil))) (dCons (dTup (dCons (dC (.int 1)) (dCons (dC (.int 1)) dNil))) dNil))) (dgName 1)) (dSeq (dFor (diRng1 (dCons (dC (.int 10)) dNil)) (dgName 2) (dSeq (dAsg (dCall S_law_tape (dCons (dVar 0) (dCons (dVar 2) dNil))) (dgName 3)) (dSeq (dPar 4 5 (dCons (dCall S_law_integer (dCons (dVar 3) dNil)) (dCons (dCall S_law_integer (dCons (dVar 3) dNil)) dNil))) (dSeq (dAsg (dCall S_law_made (dCons (dVar 4) (dCons (dVar 5) dNil))) (dgName 6)) (dIfS (dTest (dOp (dEq false) (dVar 5) (dC (.int 0)))) (dIfS (dTest (dOp (dEqD true) (dVar 6) (dLst dNil))) (dRet (dC (.bl false))) dNext) (dIfS (dOr (dTest (dOp (dIsN false) (dVar 6) (dC .non))) (dOr (dTest (dOp (dEq true) (dCall dLen (dCons (dVar 6) dNil)) (dC (.int 1)))) (dNot (dTest (dCall S_law_is (dCons (dIxC 0 (dVar 6)) (dCons (dCall S_law_fraction (dCons (dVar 4) (dCons (dVar 5) dNil))) dNil))))))) (dRet (dC (.bl false))) (dDrop (dApp (dVar 1) (dCons (dIxC 0 (dVar 6)) dNil))))))))) (dGFrz 1 (dSeq (dFor (diSeq (dVar 1)) (dgName 7) (dFor (diSeq (dVar 1)) (dgName 8) (dSeq (dIfS (dOr (dNot (dTest (dCall S_law_is (dCons (dCall S_plus (dCons (dVar 7) (dCons (dVar 8) dNil))) (dCons (dCall S_law_plus (dCons (dVar 7) (dCons (dVar 8) dNil))) dNil))))) (dNot (dTest (dCall S_law_is (dCons (dCall S_times (dCons (dVar 7) (dCons (dVar 8) dNil))) (dCons (dCall S_law_times (dCons (dVar 7) (dCons (dVar 8) dNil))) dNil)))))) (dRet (dC (.bl false))) dNext) (dSeq (dIfS (dNot (dTest (dCall S_law_is (dCons (dCall S_minus (dCons (dVar 7) (dCons (dVar 8) dNil))) (dCons (dCall S_law_plus (dCons (dVar 7) (dCons (dTup (dCons (dOp (dI0 (fun i j => .int (i - j))) (dC (.int 0)) (dIxC 0 (dVar 8))) (dCons (dIxC 1 (dVar 8)) dNil))) dNil))) dNil))))) (dRet (dC (.bl false))) dNext) (dSeq (dAsg (dLst dNil) (dgName 9)) (dSeq (dIfS (dTest (dOp (dEq true) (dIxC 0 (dVar 8)) (dC (.int 0)))) (dAsg (dLst (dCons (dCall S_law_fraction (dCons (dOp (dI IntMulOk (fun i j => .int (i * j))) (dIxC 0 (dVar 7)) (dIxC 1 (dVar 8))) (dCons (dOp (dI IntMulOk (fun i j => .int (i * j))) (dIxC 1 (dVar 7)) (dIxC 0 (dVar 8))) dNil))) dNil)) (dgName 9)) dNext) (dIfS (dTest (dOp (dEqD true) (dCall S_law_parted (dCons (dVar 7) (dCons (dVar 8) dNil))) (dVar 9))) (dRet (dC (.bl false))) dNext))))))) (dRet (dC (.bl true)))))))
abbrev N_law : List Str := ["script", "found", "k", "tape", "p", "q", "told", "x", "y", "due"]
theorem rd_law_integer : ∀ args m F, S_law_integer args m F → d_law_integer { nx := fun _ m => F (.v .non) m, rt := F } (startD N_law_integer args) m := by
  rintro _ m F ⟨p, t, rfl, hm, ht, h⟩
  unfold d_law_integer
  walk_at "dl"
  refine ⟨⟨by decide, by decide, by decide⟩, ⟨by decide, by decide, by decide⟩, by decide, ?_⟩
  refine ⟨p, 5, t, rfl, hm, ht, by omega, by omega, fun r t' ht' h0 h1 => ?_⟩
  obtain ⟨s, hs, e⟩ : ∃ s : Int, (0 < s ∧ s ≤ 10 ^ 30) ∧ atI [D.v (V.int 1), D.v (V.int 4), D.v (V.int 100), D.v (V.int (10 ^ Int.toNat 12)), D.v (V.int (10 ^ Int.toNat 30))] r = some (.v (.int s)) := by
    have : r = 0 ∨ r = 1 ∨ r = 2 ∨ r = 3 ∨ r = 4 := by omega
    rcases this with rfl | rfl | rfl | rfl | rfl
    · exact ⟨_, ⟨by decide, by decide⟩, rfl⟩
    · exact ⟨_, ⟨by decide, by decide⟩, rfl⟩
    · exact ⟨_, ⟨by decide, by decide⟩, rfl⟩
    · exact ⟨_, ⟨by decide, by decide⟩, rfl⟩
    · exact ⟨_, ⟨by decide, by decide⟩, rfl⟩
  refine ⟨_, e, ?_⟩
  unfold dFor diRng1
  walk_at "dl"
  refine ⟨by omega, by omega, fun i dl m' => i ≤ 5 ∧ ∃ (w : Int) (z : Option D) (t' : List D), dl = [some (.v (.ref p)), some (.v (.int s)), some (.v (.int w)), z] ∧ isTape t' ∧ m' = mset m p t', ⟨by omega, 0, none, t', rfl, ht', rfl⟩, ?_⟩
  rintro i _ _ ⟨hi, w, z, t1, rfl, ht1, rfl⟩
  refine rng_step (fun hk => ?_) (fun hk => ?_)
  · have s0 : s ≠ 0 := by omega
    have g1 := Int.fmod_nonneg_of_pos w hs.1
    have g2 := Int.fmod_lt_of_pos w hs.1
    have g3 : (10 : Int) ^ 30 < 2 ^ 100 := by decide
    have g4 : (w.fmod s).natAbs < 2 ^ 100 := by
      have : (((w.fmod s).natAbs : Nat) : Int) < ((2 ^ 100 : Nat) : Int) := by
        rw [Int.natAbs_of_nonneg g1]
        show w.fmod s < 2 ^ 100
        omega
      omega
    walk_at "dl"
    refine ⟨by decide, p, 2, t1, rfl, mset_same, ht1, by omega, by omega, fun r2 t2 ht2 h20 h21 => ?_⟩
    have : r2 = 0 ∨ r2 = 1 := by omega
    rcases this with rfl | rfl
    · refine ⟨.v (.int 1), rfl, mulOk_small (.inr (by omega)), ?_⟩
      rw [mset_mset]
      exact h _ _ ht2 (by rw [Int.mul_one]; exact g4)
    · refine ⟨.v (.int (-1)), rfl, mulOk_small (.inr (by omega)), ?_⟩
      rw [mset_mset]
      exact h _ _ ht2 (by rw [Int.mul_neg, Int.mul_one, Int.natAbs_neg]; exact g4)
  · walk_at "dl"
    refine ⟨mulOk_small (.inr (by omega)), p, _, t1, rfl, mset_same, ht1, by omega, by omega, fun r2 t2 ht2 _ _ => ?_⟩
    rw [mset_mset]
    exact ⟨by omega, _, _, t2, rfl, ht2, rfl⟩
theorem kit_tt : kitB "tuple" "tuple" = some true := by decide +kernel
theorem kit_ii : kitB "int" "int" = some true := by decide +kernel
theorem kit_ib : kitB "int" "bool" = some false := by decide +kernel
theorem eqv_int (i : Int) : PyData.eqv (.int i) (.int i) = true := by simp [PyData.eqv]
theorem cmp_fr (x : Int × Int) : cmpOk (frD x) := ⟨rfl, rfl⟩
theorem eqv_fr (x : Int × Int) : eqvD (frD x) (frD x) = true := by
  simp [eqvD, frD, pyD, pyDs, PyData.eqv, PyData.eqvAll]
theorem rd_law_is : ∀ args m F, S_law_is args m F → d_law_is { nx := fun _ m => F (.v .non) m, rt := F } (startD N_law_is args) m := by
  rintro _ m F ⟨⟨p, q⟩, rfl, h⟩
  have e1 := eqv_fr (p, q)
  have e2 := cmp_fr (p, q)
  unfold d_law_is
  unfold frD at *
  walk_at "dl"
  refine ⟨true, kit_tt, ?_⟩
  walk_at "dl"
  refine lc_tup rfl (by show 2 ≤ sizeLine; decide) ?_
  simp only [lcD, wipeD]
  walk_at "dl"
  refine ⟨true, kit_ii, ?_⟩
  walk_at "dl"
  refine ⟨false, kit_ib, ?_⟩
  walk_at "dl"
  refine ⟨true, kit_ii, ?_⟩
  walk_at "dl"
  refine ⟨false, kit_ib, ?_⟩
  walk_at "dl"
/-- what stands in found -/
def okFr (x : Int × Int) : Prop := Bn 100 100 x
def isFound (fs : List D) (k : Nat) : Prop := fs.length ≤ k ∧ ∀ d ∈ fs, ∃ x, okFr x ∧ d = frD x
theorem found_frac {p q : Int} (hp : p.natAbs < 2 ^ 100) (hq : q.natAbs < 2 ^ 100) (h : q ≠ 0) : okFr (frac p q) :=
  ⟨Nat.lt_of_le_of_lt (frac_le h).1 hp, frac_pos h, Nat.lt_of_le_of_lt (frac_le h).2 hq⟩
theorem eqv_lfr (x : Int × Int) : eqvD (.lst [frD x]) (.lst [frD x]) = true := by
  simp [eqvD, frD, pyD, pyDs, PyData.eqv, PyData.eqvAll]
theorem eqv_nil : eqvD (.lst []) (.lst []) = true := by simp [eqvD, pyD, pyDs, PyData.eqv, PyData.eqvAll]
theorem cmp_lfr (x : Int × Int) : cmpOk (.lst [frD x]) := ⟨rfl, rfl⟩
theorem cmp_nil : cmpOk (.lst []) := ⟨rfl, rfl⟩
theorem rd_law : ∀ args m F, S_law args m F → d_law { nx := fun _ m => F (.v .non) m, rt := F } (startD N_law args) m := by
  rintro _ m F ⟨ns, rfl, _, h⟩
  unfold d_law
  walk_at "dl"
  refine ⟨by decide, by decide, by decide, fun fa hfa => ?_⟩
  refine ⟨by omega, by omega, fun i dl m' => i ≤ 10 ∧ ∃ (z2 z3 z4 z5 z6 : Option D) (fs : List D), dl = [some (.lst (ns.map D.int)), some (.v (.ref fa)), z2, z3, z4, z5, z6, none, none, none] ∧ m' fa = some fs ∧ isFound fs (2 + i), ?_, ?_⟩
  · refine ⟨by omega, none, none, none, none, none, _, rfl, mset_same, by simp, ?_⟩
    intro d hd
    have : d = frD (0, 1) ∨ d = frD (1, 1) := by simpa [frD] using hd
    rcases this with rfl | rfl
    · exact ⟨(0, 1), ⟨by decide, by decide, by decide⟩, rfl⟩
    · exact ⟨(1, 1), ⟨by decide, by decide, by decide⟩, rfl⟩
  rintro i _ m' ⟨hi, z2, z3, z4, z5, z6, fs, rfl, hm, hl, hf⟩
  refine rng_step (fun hk => ?_) (fun hk => ?_)
  · walk_at "dl"
    refine ⟨fun i dl m' => ∃ (z7 z8 z9 : Option D), dl = [some (.lst (ns.map D.int)), some (.lst fs), z2, z3, z4, z5, z6, z7, z8, z9], ⟨none, none, none, rfl⟩, ?_⟩
    rintro j _ m1 ⟨z7, z8, z9, rfl⟩
    refine loop_step (fun _ => h _) (fun d e => ?_)
    obtain ⟨x, hx, rfl⟩ := hf d (List.mem_of_getElem? e)
    walk_at "dl"
    refine ⟨fun i dl m' => ∃ (z8 z9 : Option D), dl = [some (.lst (ns.map D.int)), some (.lst fs), z2, z3, z4, z5, z6, some (frD x), z8, z9], ⟨_, _, rfl⟩, ?_⟩
    rintro k _ m2 ⟨z8, z9, rfl⟩
    refine loop_step (fun _ => ⟨_, _, _, rfl⟩) (fun d e => ?_)
    obtain ⟨y, hy, rfl⟩ := hf d (List.mem_of_getElem? e)
    have bx : Bn 400000 4500 x := hx.mono (by omega) (by omega)
    have by' : Bn 400000 4500 y := hy.mono (by omega) (by omega)
    have bx2 : Bn 4500 4500 x := hx.mono (by omega) (by omega)
    have by2 : Bn 4500 4500 y := hy.mono (by omega) (by omega)
    have bm : Bn 400000 4500 (0 - y.1, y.2) := ⟨by show (0 - y.1).natAbs < _; rw [Int.zero_sub, Int.natAbs_neg]; exact by'.num, by'.pos, by'.den⟩
    have em : x.1 * y.2 + (0 - y.1) * x.2 = x.1 * y.2 - y.1 * x.2 := by grind
    walk_at "dl"
    refine ⟨x, y, rfl, bx, by', x, y, rfl, bx, by', _, rfl, ?_⟩
    walk_at "dl"
    refine ⟨x, y, rfl, bx, by', x, y, rfl, bx, by', _, rfl, ?_⟩
    walk_at "dl"
    refine ⟨x, y, rfl, bx, by', ?_⟩
    simp only [frD]
    walk_at "dl"
    refine ⟨by decide, x, (0 - y.1, y.2), rfl, bx, bm, frac (x.1 * y.2 - y.1 * x.2) (x.2 * y.2), ?_, ?_⟩
    · show [_, frD (frac (x.1 * y.2 + (0 - y.1) * x.2) (x.2 * y.2))] = _
      rw [em]
      rfl
    have e1 := eqv_lfr (frac (x.1 * y.2) (x.2 * y.1))
    have e2 := cmp_lfr (frac (x.1 * y.2) (x.2 * y.1))
    have e3 := eqv_nil
    have e4 := cmp_nil
    walk_at "dl"
    by_cases h0 : y.1 = 0
    · rw [if_neg (by simp [h0])]
      refine ⟨x, y, rfl, bx2, by2, ?_⟩
      rw [if_pos h0]
      walk_at "dl"
      exact ⟨_, _, rfl⟩
    · rw [if_pos h0]
      have d0 : x.2 * y.1 ≠ 0 := Int.mul_ne_zero (by have := hx.pos; omega) h0
      refine ⟨mulOk_bits bx.num by'.den (by omega), mulOk_bits bx.den by'.num (by omega), x.1 * y.2, x.2 * y.1, rfl, d0, mul_lt bx.den by2.num, ?_⟩
      walk_at "dl"
      refine ⟨by decide, x, y, rfl, bx2, by2, ?_⟩
      rw [if_neg h0]
      walk_at "dl"
      exact ⟨_, _, rfl⟩
  · walk_at "dl"
    refine ⟨ns, _, rfl, by omega, fun ta t1 hta ht1 => ?_⟩
    have hne : fa ≠ ta := fun z => by rw [z, hta] at hm; cases hm
    refine ⟨ta, t1, rfl, mset_same, ht1, fun p t2 ht2 hp => ?_⟩
    refine ⟨ta, t2, rfl, by rw [mset_mset, mset_same], ht2, fun q t3 ht3 hq => ?_⟩
    refine ⟨p, q, rfl, lt_mono hq (by omega), ?_⟩
    walk_at "dl"
    by_cases h0 : q = 0
    · subst h0
      have e3 := eqv_nil
      have e4 := cmp_nil
      walk_at "dl"
      exact ⟨by omega, _, _, _, _, _, fs, rfl, rfl, by omega, hf⟩
    · have hf2 := found_frac hp hq h0
      walk_at "dl"
      refine ⟨p, q, rfl, h0, lt_mono hq (by omega), ?_⟩
      refine ⟨_, rfl, ?_⟩
      walk_at "dl"
      have hz : sizeLine = 16777216 := PySem.sizeLine_eq
      refine ⟨by omega, by omega, _, _, _, _, _, _, rfl, rfl, by rw [List.length_append]; show fs.length + 1 ≤ _; omega, fun d hd => ?_⟩
      rcases List.mem_append.mp hd with hd | hd
      · exact hf d hd
      · exact ⟨_, hf2, by simpa using hd⟩

end DL

set_option Elab.async false
set_option linter.all false
set_option maxRecDepth 100000
set_option maxHeartbeats 4000000
namespace DL
open PySem L2
def topS (i : Nat) : Stmt := PySem.Challenge.pw_rowsworn_k01_fractions.main.body.getD i (.Pass ⟨0, 0, 0, 0⟩)
structure Txt (mg : Str → Option Value) : Prop where
  len : mg "len" = none
  abs : mg "abs" = none
  int : mg "int" = none
  bool : mg "bool" = none
  tuple : mg "tuple" = none
  isinstance : mg "isinstance" = none
  range : mg "range" = none
  any : mg "any" = none
  ValueError : mg "ValueError" = none
  gcd : mg "gcd" = some (.builtin "math.gcd")
/-- an own class over ValueError, without __init__, that is raised -/
structure ExcTxt (K : PySem.W.Frag) (mg : Str → Option Value) (x : Str) (C : Addr) : Prop where
  g : mg x = some (.ref C)
  x : PySem.W.excIn K C [.type "ValueError", .type "Exception", .type "BaseException", .type "object"] "ValueError.__new__" = true
  k : PySem.W.keepIn K (.ref C) = true
  b : PySem.W.subIn K (.ref C) (.type "BaseException") = some true
  t : PySem.W.typeIn K (.ref C) = some (.type "type")
  e : PySem.W.exmOne K (.ref C) (.ref C) = some true
abbrev s_fraction : Stmt := topS 7
theorem sc_fraction : FnScope ["p", "q", "shared"] ["p", "q"] (defScope s_fraction) := ⟨rfl, rfl, rfl, by decide +kernel, rfl, by decide +kernel, by decide +kernel⟩
abbrev s_plus : Stmt := topS 8
theorem sc_plus : FnScope ["x", "y", "p", "q", "r", "s"] ["x", "y"] (defScope s_plus) := ⟨rfl, rfl, rfl, by decide +kernel, rfl, by decide +kernel, by decide +kernel⟩
abbrev s_minus : Stmt := topS 9
theorem sc_minus : FnScope ["x", "y", "p", "q", "r", "s"] ["x", "y"] (defScope s_minus) := ⟨rfl, rfl, rfl, by decide +kernel, rfl, by decide +kernel, by decide +kernel⟩
abbrev s_times : Stmt := topS 10
theorem sc_times : FnScope ["x", "y", "p", "q", "r", "s"] ["x", "y"] (defScope s_times) := ⟨rfl, rfl, rfl, by decide +kernel, rfl, by decide +kernel, by decide +kernel⟩
abbrev s_over : Stmt := topS 11
theorem sc_over : FnScope ["x", "y", "p", "q", "r", "s"] ["x", "y"] (defScope s_over) := ⟨rfl, rfl, rfl, by decide +kernel, rfl, by decide +kernel, by decide +kernel⟩
abbrev s_law_tape : Stmt := topS 13
theorem sc_law_tape : FnScope ["script", "k", "cell"] ["script", "k"] (defScope s_law_tape) := ⟨rfl, rfl, rfl, by decide +kernel, rfl, by decide +kernel, by decide +kernel⟩
abbrev s_law_take : Stmt := topS 14
theorem sc_law_take : FnScope ["tape", "many", "got", "mixed"] ["tape", "many"] (defScope s_law_take) := ⟨rfl, rfl, rfl, by decide +kernel, rfl, by decide +kernel, by decide +kernel⟩
abbrev s_law_divisor : Stmt := topS 15
theorem sc_law_divisor : FnScope ["one", "other"] ["one", "other"] (defScope s_law_divisor) := ⟨rfl, rfl, rfl, by decide +kernel, rfl, by decide +kernel, by decide +kernel⟩
abbrev s_law_fraction : Stmt := topS 16
theorem sc_law_fraction : FnScope ["p", "q", "divisor"] ["p", "q"] (defScope s_law_fraction) := ⟨rfl, rfl, rfl, by decide +kernel, rfl, by decide +kernel, by decide +kernel⟩
abbrev s_law_plus : Stmt := topS 17
theorem sc_law_plus : FnScope ["x", "y"] ["x", "y"] (defScope s_law_plus) := ⟨rfl, rfl, rfl, by decide +kernel, rfl, by decide +kernel, by decide +kernel⟩
abbrev s_law_times : Stmt := topS 18
theorem sc_law_times : FnScope ["x", "y"] ["x", "y"] (defScope s_law_times) := ⟨rfl, rfl, rfl, by decide +kernel, rfl, by decide +kernel, by decide +kernel⟩
abbrev s_law_integer : Stmt := topS 19
theorem sc_law_integer : FnScope ["tape", "size", "whole", "k"] ["tape"] (defScope s_law_integer) := ⟨rfl, rfl, rfl, by decide +kernel, rfl, by decide +kernel, by decide +kernel⟩
abbrev s_law_made : Stmt := topS 20
theorem sc_law_made : FnScope ["p", "q", "e", "others"] ["p", "q"] (defScope s_law_made) := ⟨rfl, rfl, rfl, by decide +kernel, rfl, by decide +kernel, by decide +kernel⟩
abbrev s_law_parted : Stmt := topS 21
theorem sc_law_parted : FnScope ["x", "y"] ["x", "y"] (defScope s_law_parted) := ⟨rfl, rfl, rfl, by decide +kernel, rfl, by decide +kernel, by decide +kernel⟩
abbrev s_law_is : Stmt := topS 22
theorem sc_law_is : FnScope ["told", "due", "one"] ["told", "due"] (defScope s_law_is) := ⟨rfl, rfl, rfl, by decide +kernel, rfl, by decide +kernel, by decide +kernel⟩
abbrev s_law : Stmt := topS 23
theorem sc_law : FnScope ["script", "found", "k", "tape", "p", "q", "told", "x", "y", "due"] ["script"] (defScope s_law) := ⟨rfl, rfl, rfl, by decide +kernel, rfl, by decide +kernel, by decide +kernel⟩
section
variable {P : Program} {w : World} {K : PySem.W.Frag} {mg : Str → Option Value} {base : Heap}
theorem ok_fraction {CN : Addr} (Df : Dfn K mg "fraction" s_fraction) (T : Txt mg) (X : ExcTxt K mg "NoFraction" CN) : Cal P w K mg base (L2N.CX P w) 1 "fraction" ["p", "q"] (spX K (S_fractionX (.ref CN))) := by
  refine cal_okN (k := 0) Df sc_fraction (fun _ _ _ _ _ _ us hl => match us, hl with | [_, _], _ => rfl) S_fractionX_len ?_
  intro f cdv A outer s H E Z hr
  refine ⟨_, d_fraction (.ref CN) Z, pss_cons (ps_if (pt_cmpR op_eq (pv 1) pe_int (nomark _)) (pss_one (L2N.ps_raise rfl (L2N.takes_of rfl rfl rfl rfl) (L2N.pmk_own PySem.F.excBase_ValueError X.x X.g X.k (raises_own X.b X.t) rfl))) pss_nil)
    (pss_cons (ps_set (i := 2) sc_fraction.nd rfl (Or.inl rfl) (pe_callBfun cr_gcd rfl T.gcd (pa_cons (pv 0) (pa_cons (pv 1) pa_nil))))
    (pss_cons (ps_if (pt_cmpR op_lt (pv 1) pe_int (nomark _)) (pss_one (ps_set (i := 2) sc_fraction.nd rfl (Or.inl rfl) (pe_un un_neg (pv 2)))) pss_nil)
    (pss_one (ps_ret (pe_tup (pa_cons (pe_op op_fdivX (pv 0) (pv 2)) (pa_cons (pe_op op_fdivX (pv 1) (pv 2)) pa_nil))))))), ?_, rd_fraction⟩
  exact LSX_seq (LSX_if (LT_test (LE_op L2_eq (LE_var 1) (LE_c (.int 0)))) LSX_raise LS_next.x)
    (LS_seq (LS_asg (LE_cb LC_gcd (LA_cons (LE_var 0) (LA_cons (LE_var 1) LA_nil))) (LG_name 2))
    (LS_seq (LS_if (LT_test (LE_op (L2_I0 (fun i j => .bl (decide (i < j)))) (LE_var 1) (LE_c (.int 0)))) (LS_asg (LE_un (L1_U (fun i => .int (-i))) (LE_var 2)) (LG_name 2)) LS_next)
    (LS_ret (LE_tup (LA_cons (LE_op (L2_I CDivX (fun i j => .int (i.fdiv j))) (LE_var 0) (LE_var 2)) (LA_cons (LE_op (L2_I CDivX (fun i j => .int (i.fdiv j))) (LE_var 1) (LE_var 2)) LA_nil)))))).x
theorem ok_over {CN : Addr} (Df : Dfn K mg "over" s_over) (C_fraction : Cal P w K mg base (L2.CX P w) 1 "fraction" ["p", "q"] (spX K (S_fractionX (.ref CN)))) : Cal P w K mg base (L2.CX P w) 2 "over" ["x", "y"] (spX K (S_overX (.ref CN))) := by
  refine cal_okX (k := 1) Df sc_over (fun _ _ _ _ _ _ us hl => match us, hl with | [_, _], _ => rfl) S_overX_len ?_
  intro f cdv A outer s H E Z hr
  refine ⟨_, d_over (.ref CN) Z, pss_cons (ps_asg (pv 0) (pg_tup rfl (pgs_cons (pg_name (i := 2) sc_over.nd rfl (Or.inl rfl)) (pgs_cons (pg_name (i := 3) sc_over.nd rfl (Or.inl rfl)) pgs_nil))))
    (pss_cons (ps_asg (pv 1) (pg_tup rfl (pgs_cons (pg_name (i := 4) sc_over.nd rfl (Or.inl rfl)) (pgs_cons (pg_name (i := 5) sc_over.nd rfl (Or.inl rfl)) pgs_nil))))
    (pss_one (ps_ret (pe_cal C_fraction (hr.mono (by decide)) rfl (passes_call (takes_of rfl rfl rfl rfl) (fun _ _ _ _ h => h)) (pa_cons (pe_op op_mulX (pv 2) (pv 5)) (pa_cons (pe_op op_mulX (pv 3) (pv 4)) pa_nil)))))), ?_, rd_over⟩
  exact LSX_seq (LS_asg (LE_var 0) (LG_tup (k := 2) (LGs_cons (LG_name 2) (LGs_cons (LG_name 3) LGs_nil)))).x
    (LSX_seq (LS_asg (LE_var 1) (LG_tup (k := 2) (LGs_cons (LG_name 4) (LGs_cons (LG_name 5) LGs_nil)))).x
    (LSX_ret (LEX_call (LA_cons (LE_op (L2_I IntMulOk (fun i j => .int (i * j))) (LE_var 2) (LE_var 5)) (LA_cons (LE_op (L2_I IntMulOk (fun i j => .int (i * j))) (LE_var 3) (LE_var 4)) LA_nil)))))
theorem ok_law_parted {CN : Addr} (Df : Dfn K mg "_law_parted" s_law_parted) (X : ExcTxt K mg "NoFraction" CN) (C_over : Cal P w K mg base (L2.CX P w) 2 "over" ["x", "y"] (spX K (S_overX (.ref CN)))) : Cal P w K mg base CX0 3 "_law_parted" ["x", "y"] (spD K S_law_parted) := by
  refine cal_ok (k := 2) Df sc_law_parted (fun _ _ _ _ _ _ us hl => match us, hl with | [_, _], _ => rfl) S_law_parted_len ?_
  intro f cdv A outer s H E hr
  refine ⟨_, d_law_parted, pss_one (ps_try_only rfl rfl ⟨rfl, by decide, .inl X.g⟩ takes0 (fun W pn xe tk _ => pss_one (ps_ret (pe_lst (pa_cons (pe_calS C_over (hr.mono (by decide)) rfl (fun σ => passAt tk σ) (pa_cons (pv 0) (pa_cons (pv 1) pa_nil))) pa_nil))))
    (fun a oe cls d pn _ _ => pss_one (ps_ret (pe_lst pa_nil)))), ?_, rd_law_parted⟩
  intro n s dl H m Q G hs ok hd e
  obtain ⟨x, y, e0, e1, bx, by', hret⟩ := hd
  rw [nth_eq] at e0 e1
  obtain ⟨v0, h0, r0⟩ := hs.2 0 _ e0
  obtain ⟨v1, h1, r1⟩ := hs.2 1 _ e1
  have one : 1 ≤ sizeLine := by decide
  refine ⟨v0, h0, v1, h1, n, [frD x, frD y], m, (fun d m1 => y.1 ≠ 0 ∧ d = frD (frac (x.1 * y.2) (x.2 * y.1)) ∧ m1 = m), (fun c m1 => y.1 = 0 ∧ c = .ref CN ∧ m1 = m), ok, .cons r0 (.cons r1 .nil), ⟨x, y, rfl, bx, by', fun h => ⟨h, rfl, rfl⟩, fun h => ⟨h, rfl, rfl⟩⟩, ?_, ?_⟩
  · rintro v H1 d m1 g1 ok1 rv ⟨hy, rfl, rfl⟩
    refine ⟨one, fun p hp => ?_⟩
    obtain ⟨g2, ok2, r2⟩ := new_lst ok1 (.cons rv .nil) hp
    refine e.rt _ _ _ _ (g1.trans g2) ok2 r2 ?_
    rw [if_neg hy] at hret
    exact hret
  · rintro c m1 H1 g1 ok1 ⟨hy, rfl, rfl⟩
    refine ⟨true, X.e, fun _ a ha => ?_, fun q => Bool.noConfusion q⟩
    refine ⟨Nat.zero_le _, fun p hp => ?_⟩
    obtain ⟨g2, ok2, r2⟩ := new_lst ok1 .nil hp
    refine e.rt _ _ _ _ (g1.trans g2) ok2 r2 ?_
    rw [if_pos hy] at hret
    exact hret
/-- what is asked of the classes in the suite of _law_made -/
structure MadeTxt (K : PySem.W.Frag) (mg : Str → Option Value) (CN CB CW CR : Addr) : Prop where
  gR : mg "RowError" = some (.ref CR)
  gN : mg "NoFraction" = some (.ref CN)
  gB : mg "BadText" = some (.ref CB)
  gW : mg "NotWhole" = some (.ref CW)
  eR : PySem.W.exmOne K (.ref CN) (.ref CR) = some true
  ec : ExcC K CN
  kN : PySem.W.kitOne K (.ref CN) (.ref CN) = some true
  kB : PySem.W.kitOne K (.ref CN) (.ref CB) = some false
  kW : PySem.W.kitOne K (.ref CN) (.ref CW) = some false
  kV : PySem.W.kitOne K (.ref CN) (.type "ValueError") = some true
theorem pss_if_cls {X : Cx} {sts : List Stmt} {t : TS} {cls cls' : Value} {d d' : Option Addr} (h : cls = cls' → d = d' → PSs X sts t) : PSs X sts (fun D s H => (cls = cls' ∧ d = d') ∧ t D s H) :=
  ⟨fun pins s σ H D I hd => (h hd.1.1 hd.1.2).run pins s σ H D I hd.2⟩
theorem ok_law_made {CN CB CW CR : Addr} (Df : Dfn K mg "_law_made" s_law_made) (T : Txt mg) (M : MadeTxt K mg CN CB CW CR) (C_fraction : Cal P w K mg base (L2N.CX P w) 1 "fraction" ["p", "q"] (spX K (S_fractionX (.ref CN)))) : Cal P w K mg base CX0 3 "_law_made" ["p", "q"] (spD K S_law_made) := by
  refine cal_ok (k := 2) Df sc_law_made (fun _ _ _ _ _ _ us hl => match us, hl with | [_, _], _ => rfl) S_law_made_len ?_
  intro f cdv A outer s H E hr
  refine ⟨_, d_law_made, pss_cons (L2N.ps_try_as (i := 2) rfl rfl sc_law_made.nd rfl rfl ⟨rfl, by decide, .inl M.gR⟩ takesN0
      (fun W pn xe tk _ => pss_one (ps_ret (pe_lst (pa_cons (pe_calS C_fraction (hr.mono (by decide)) rfl (fun σ => L2N.passAt tk σ) (pa_cons (pv 0) (pa_cons (pv 1) pa_nil))) pa_nil))))
      (fun a oe cls d pn hz hf => pss_if_cls (cls' := .ref CN) (d' := none) fun ec ed =>
        pss_cons (ps_set (i := 3) sc_law_made.nd rfl (Or.inl rfl) (pe_lst (pa_cons (pe_callB (id := "isinstance") (r := rIsE K CN a) (call_isE M.ec (by rw [← ec, ← ed]; exact hz.zc) hf) rfl T.isinstance (by decide +kernel) (pa_cons (pv 2) (pa_cons (pe_glob (v := .ref CB) rfl M.gB rfl) pa_nil)))
            (pa_cons (pe_callB (id := "isinstance") (r := rIsE K CN a) (call_isE M.ec (by rw [← ec, ← ed]; exact hz.zc) hf) rfl T.isinstance (by decide +kernel) (pa_cons (pv 2) (pa_cons (pe_glob (v := .ref CW) rfl M.gW rfl) pa_nil))) pa_nil))))
        (pss_one (ps_if (PW.pt (pw_and (pt_val (pe_callB (id := "isinstance") (r := rIsE K CN a) (call_isE M.ec (by rw [← ec, ← ed]; exact hz.zc) hf) rfl T.isinstance (by decide +kernel) (pa_cons (pv 2) (pa_cons (pe_glob (v := .ref CN) rfl M.gN rfl) pa_nil))))
            (pw_and (pt_val (pe_callB (id := "isinstance") (r := rIsE K CN a) (call_isE M.ec (by rw [← ec, ← ed]; exact hz.zc) hf) rfl T.isinstance (by decide +kernel) (pa_cons (pv 2) (pa_cons (pe_bltn (v := .ty "ValueError") rfl T.ValueError (by decide +kernel) rfl) pa_nil))))
            (pw_and1 (pt_not (pt_val (pe_callB (id := "any") (r := rAny K) (cr_anyHot hz hf) rfl T.any (by decide +kernel) (pa_cons (pv 3) pa_nil))))))))
          (pss_one (ps_ret (pe_lst pa_nil))) pss_nil))))
    (pss_one (ps_ret pe_non)), ?_, rd_law_made⟩
  intro n s dl H m Q G hs ok hd e
  obtain ⟨p, q, el, e0, e1, bq, hret⟩ := hd
  rw [nth_eq] at e0 e1
  obtain ⟨v0, h0, r0⟩ := hs.2 0 _ e0
  obtain ⟨v1, h1, r1⟩ := hs.2 1 _ e1
  have one : 1 ≤ sizeLine := by decide
  refine ⟨v0, h0, v1, h1, n, [.v (.int p), .v (.int q)], m, (fun d m1 => q ≠ 0 ∧ d = frD (frac p q) ∧ m1 = m), (fun c m1 => q = 0 ∧ c = .ref CN ∧ m1 = m), ok, .cons r0 (.cons r1 .nil), ⟨p, q, rfl, bq, fun h => ⟨h, rfl, rfl⟩, fun h => ⟨h, rfl, rfl⟩⟩, ?_, ?_⟩
  · rintro v H1 d m1 g1 ok1 rv ⟨hy, rfl, rfl⟩
    refine ⟨one, fun p hp => ?_⟩
    obtain ⟨g2, ok2, r2⟩ := new_lst ok1 (.cons rv .nil) hp
    refine e.rt _ _ _ _ (g1.trans g2) ok2 r2 ?_
    rw [if_neg hy] at hret
    exact hret
  · rintro c m1 H1 g1 ok1 ⟨hy, rfl, rfl⟩
    refine ⟨true, M.eR, fun _ a ha => ⟨⟨rfl, rfl⟩, ?_⟩, fun q => Bool.noConfusion q⟩
    have sl : s.length = 4 := by rw [hs.1]; exact el
    have h2 : (s.set 2 (some (V.ref a)))[2]? = some (some (V.ref a)) := List.getElem?_set_self (by omega)
    refine ⟨_, h2, .ref CB, .ref CB, false, rfl, fun u h => h, M.kB, _, h2, .ref CW, .ref CW, false, rfl, fun u h => h, M.kW, by decide, fun l hl => ?_⟩
    obtain ⟨g2, ok2, r2⟩ := new_lst (ds := [.v (.bl false), .v (.bl false)]) ok1 (.cons (.v _) (.cons (.v _) .nil)) hl
    have h2' : ((s.set 2 (some (V.ref a))).set 3 (some (V.ref l)))[2]? = some (some (V.ref a)) := by rw [List.getElem?_set_ne (by decide)]; exact h2
    have h3 : ((s.set 2 (some (V.ref a))).set 3 (some (V.ref l)))[3]? = some (some (V.ref l)) := List.getElem?_set_self (by rw [List.length_set]; omega)
    refine ⟨_, h2', .ref CN, .ref CN, true, rfl, fun u h => h, M.kN, true, rfl, iteT ⟨_, h2', .ty "ValueError", .type "ValueError", true, rfl, fun u h => h, M.kV, true, rfl, iteT ⟨_, h3, l, [false, false], rfl, SqL.of upd_same, false, rfl, iteT ?_⟩⟩⟩
    refine ⟨Nat.zero_le _, fun p hp => ?_⟩
    obtain ⟨g3, ok3, r3⟩ := new_lst ok2 .nil hp
    refine e.rt _ _ _ _ (g1.trans (g2.trans g3)) ok3 r3 ?_
    rw [if_pos hy] at hret
    exact hret
theorem ok_plus (Df : Dfn K mg "plus" s_plus) (C_fraction : Cal P w K mg base (L2.CX P w) 1 "fraction" ["p", "q"] (spX K S_fraction)) :
    Cal P w K mg base CX0 2 "plus" ["x", "y"] (spD K S_plus) := by
  refine cal_ok (k := 1) Df sc_plus (fun _ _ _ _ _ _ us hl => match us, hl with | [_, _], _ => rfl) S_plus_len ?_
  intro f cdv A outer s H E hr
  refine ⟨_, d_plus, (pss_cons (ps_asg (pv 0) (pg_tup rfl (pgs_cons (pg_name (i := 2) sc_plus.nd rfl (Or.inl rfl)) (pgs_cons (pg_name (i := 3) sc_plus.nd rfl (Or.inl rfl)) pgs_nil)))) (pss_cons (ps_asg (pv 1) (pg_tup rfl (pgs_cons (pg_name (i := 4) sc_plus.nd rfl (Or.inl rfl)) (pgs_cons (pg_name (i := 5) sc_plus.nd rfl (Or.inl rfl)) pgs_nil)))) (pss_one (ps_ret (pe_cal C_fraction (hr.mono (by decide)) rfl passL (pa_cons (pe_op op_add (pe_op op_mulX (pv 2) (pv 5)) (pe_op op_mulX (pv 4) (pv 3))) (pa_cons (pe_op op_mulX (pv 3) (pv 5)) pa_nil))))))),
    ?_, rd_plus⟩
  exact (LS_seq (LS_asg (LE_var 0) (LG_tup (k := 2) (LGs_cons (LG_name 2) (LGs_cons (LG_name 3) LGs_nil)))) (LS_seq (LS_asg (LE_var 1) (LG_tup (k := 2) (LGs_cons (LG_name 4) (LGs_cons (LG_name 5) LGs_nil)))) (LS_ret (LE_callN (LA_cons (LE_op (L2_I0 (fun i j => .int (i + j))) (LE_op (L2_I IntMulOk (fun i j => .int (i * j))) (LE_var 2) (LE_var 5)) (LE_op (L2_I IntMulOk (fun i j => .int (i * j))) (LE_var 4) (LE_var 3))) (LA_cons (LE_op (L2_I IntMulOk (fun i j => .int (i * j))) (LE_var 3) (LE_var 5)) LA_nil))))))
theorem ok_minus (Df : Dfn K mg "minus" s_minus) (C_fraction : Cal P w K mg base (L2.CX P w) 1 "fraction" ["p", "q"] (spX K S_fraction)) :
    Cal P w K mg base CX0 2 "minus" ["x", "y"] (spD K S_minus) := by
  refine cal_ok (k := 1) Df sc_minus (fun _ _ _ _ _ _ us hl => match us, hl with | [_, _], _ => rfl) S_minus_len ?_
  intro f cdv A outer s H E hr
  refine ⟨_, d_minus, (pss_cons (ps_asg (pv 0) (pg_tup rfl (pgs_cons (pg_name (i := 2) sc_minus.nd rfl (Or.inl rfl)) (pgs_cons (pg_name (i := 3) sc_minus.nd rfl (Or.inl rfl)) pgs_nil)))) (pss_cons (ps_asg (pv 1) (pg_tup rfl (pgs_cons (pg_name (i := 4) sc_minus.nd rfl (Or.inl rfl)) (pgs_cons (pg_name (i := 5) sc_minus.nd rfl (Or.inl rfl)) pgs_nil)))) (pss_one (ps_ret (pe_cal C_fraction (hr.mono (by decide)) rfl passL (pa_cons (pe_op op_sub (pe_op op_mulX (pv 2) (pv 5)) (pe_op op_mulX (pv 4) (pv 3))) (pa_cons (pe_op op_mulX (pv 3) (pv 5)) pa_nil))))))),
    ?_, rd_minus⟩
  exact (LS_seq (LS_asg (LE_var 0) (LG_tup (k := 2) (LGs_cons (LG_name 2) (LGs_cons (LG_name 3) LGs_nil)))) (LS_seq (LS_asg (LE_var 1) (LG_tup (k := 2) (LGs_cons (LG_name 4) (LGs_cons (LG_name 5) LGs_nil)))) (LS_ret (LE_callN (LA_cons (LE_op (L2_I0 (fun i j => .int (i - j))) (LE_op (L2_I IntMulOk (fun i j => .int (i * j))) (LE_var 2) (LE_var 5)) (LE_op (L2_I IntMulOk (fun i j => .int (i * j))) (LE_var 4) (LE_var 3))) (LA_cons (LE_op (L2_I IntMulOk (fun i j => .int (i * j))) (LE_var 3) (LE_var 5)) LA_nil))))))
theorem ok_times (Df : Dfn K mg "times" s_times) (C_fraction : Cal P w K mg base (L2.CX P w) 1 "fraction" ["p", "q"] (spX K S_fraction)) :
    Cal P w K mg base CX0 2 "times" ["x", "y"] (spD K S_times) := by
  refine cal_ok (k := 1) Df sc_times (fun _ _ _ _ _ _ us hl => match us, hl with | [_, _], _ => rfl) S_times_len ?_
  intro f cdv A outer s H E hr
  refine ⟨_, d_times, (pss_cons (ps_asg (pv 0) (pg_tup rfl (pgs_cons (pg_name (i := 2) sc_times.nd rfl (Or.inl rfl)) (pgs_cons (pg_name (i := 3) sc_times.nd rfl (Or.inl rfl)) pgs_nil)))) (pss_cons (ps_asg (pv 1) (pg_tup rfl (pgs_cons (pg_name (i := 4) sc_times.nd rfl (Or.inl rfl)) (pgs_cons (pg_name (i := 5) sc_times.nd rfl (Or.inl rfl)) pgs_nil)))) (pss_one (ps_ret (pe_cal C_fraction (hr.mono (by decide)) rfl passL (pa_cons (pe_op op_mulX (pv 2) (pv 4)) (pa_cons (pe_op op_mulX (pv 3) (pv 5)) pa_nil))))))),
    ?_, rd_times⟩
  exact (LS_seq (LS_asg (LE_var 0) (LG_tup (k := 2) (LGs_cons (LG_name 2) (LGs_cons (LG_name 3) LGs_nil)))) (LS_seq (LS_asg (LE_var 1) (LG_tup (k := 2) (LGs_cons (LG_name 4) (LGs_cons (LG_name 5) LGs_nil)))) (LS_ret (LE_callN (LA_cons (LE_op (L2_I IntMulOk (fun i j => .int (i * j))) (LE_var 2) (LE_var 4)) (LA_cons (LE_op (L2_I IntMulOk (fun i j => .int (i * j))) (LE_var 3) (LE_var 5)) LA_nil))))))
theorem ok_law_tape (Df : Dfn K mg "_law_tape" s_law_tape) (T : Txt mg) :
    Cal P w K mg base CX0 1 "_law_tape" ["script", "k"] (spD K S_law_tape) := by
  refine cal_ok (k := 0) Df sc_law_tape (fun _ _ _ _ _ _ us hl => match us, hl with | [_, _], _ => rfl) S_law_tape_len ?_
  intro f cdv A outer s H E hr
  refine ⟨_, d_law_tape, (pss_cons (ps_set (i := 2) sc_law_tape.nd rfl (Or.inl rfl) pe_int) (pss_cons (ps_if (pt_cmpR op_lt (pv 1) (pe_callB (id := "len") (r := rLen K) call_len_seq rfl T.len PySem.boot_len (pa_cons (pv 0) pa_nil)) (nomark _)) (pss_one (ps_set (i := 2) sc_law_tape.nd rfl (Or.inl rfl) (pe_callB (id := "abs") (r := rAbs) call_abs rfl T.abs (by decide +kernel) (pa_cons (pe_ix ix_seq (pv 0) (pv 1) (fun _ _ => rfl)) pa_nil)))) pss_nil) (pss_one (ps_ret (pe_lst (pa_cons (pv 2) (pa_cons (pe_cmpR op_ge (pv 2) (pe_op op_pow pe_int pe_int) (nomark _)) (pa_cons pe_int (pa_cons (pe_op op_modN (pe_callTy (T := "int") (r := rInt1) call_int1 rfl T.int (by decide +kernel) (pa_cons (pe_op op_add (pe_op op_mulX (pv 2) pe_int) (pv 1)) pa_nil)) pe_int) pa_nil))))))))),
    ?_, rd_law_tape⟩
  exact (LS_seq (LS_asg (LE_c (.int 0)) (LG_name 2)) (LS_seq (LS_if (LT_test (LE_op (L2_I0 (fun i j => .bl (decide (i < j)))) (LE_var 1) (LE_cb LC_len (LA_cons (LE_var 0) LA_nil)))) (LS_asg (LE_cb LC_abs (LA_cons (LE_op L2_ix (LE_var 0) (LE_var 1)) LA_nil)) (LG_name 2)) LS_next) (LS_ret (LE_lstO (LA_cons (LE_var 2) (LA_cons (LE_op (L2_I0 (fun i j => .bl (decide (j ≤ i)))) (LE_var 2) (LE_op (L2_I CPow (fun i j => .int (i ^ j.toNat))) (LE_c (.int 10)) (LE_c (.int 18)))) (LA_cons (LE_c (.int 0)) (LA_cons (LE_op (L2_I (fun _ j => j ≠ 0) (fun i j => .int (i.fmod j))) (LE_cb LC_int1 (LA_cons (LE_op (L2_I0 (fun i j => .int (i + j))) (LE_op (L2_I IntMulOk (fun i j => .int (i * j))) (LE_var 2) (LE_c (.int 64))) (LE_var 1)) LA_nil)) (LE_c (.int 2147483647))) LA_nil))))))))
theorem ok_law_take (Df : Dfn K mg "_law_take" s_law_take) (T : Txt mg) :
    Cal P w K mg base CX0 1 "_law_take" ["tape", "many"] (spD K S_law_take) := by
  refine cal_ok (k := 0) Df sc_law_take (fun _ _ _ _ _ _ us hl => match us, hl with | [_, _], _ => rfl) S_law_take_len ?_
  intro f cdv A outer s H E hr
  refine ⟨_, d_law_take, (pss_cons (ps_if (PW.pt (pw_and (pt_truth (pe_ix ix_seq (pv 0) pe_int (fun _ _ => rfl)) (by intro _; rfl)) (pw_and1 (pt_cmpR op_gt (pe_ix ix_seq (pv 0) pe_int (fun _ _ => rfl)) pe_int (nomark _))))) (pss_cons (ps_set (i := 2) sc_law_take.nd rfl (Or.inl rfl) (pe_op op_modN (pe_callTy (T := "int") (r := rInt1) call_int1 rfl T.int (by decide +kernel) (pa_cons (pe_ix ix_seq (pv 0) pe_int (fun _ _ => rfl)) pa_nil)) (pv 1))) (pss_cons (ps_asg (pe_op op_fdivX (pe_ix ix_seq (pv 0) pe_int (fun _ _ => rfl)) (pv 1)) (pg_sub (pv 0) pe_int set_list)) (pss_one (ps_ret (pv 2))))) pss_nil) (pss_cons (ps_asg (pe_op op_add (pe_ix ix_seq (pv 0) pe_int (fun _ _ => rfl)) pe_int) (pg_sub (pv 0) pe_int set_list)) (pss_cons (ps_set (i := 3) sc_law_take.nd rfl (Or.inl rfl) (pe_op op_modN (pe_callTy (T := "int") (r := rInt1) call_int1 rfl T.int (by decide +kernel) (pa_cons (pe_op op_add (pe_op op_add (pe_op op_mulX (pe_ix ix_seq (pv 0) pe_int (fun _ _ => rfl)) pe_int) (pe_op op_mulX (pe_ix ix_seq (pv 0) pe_int (fun _ _ => rfl)) pe_int)) pe_int) pa_nil)) pe_int)) (pss_cons (ps_set (i := 3) sc_law_take.nd rfl (Or.inl rfl) (pe_op op_modN (pe_callTy (T := "int") (r := rInt1) call_int1 rfl T.int (by decide +kernel) (pa_cons (pe_op op_add (pe_op op_add (pe_op op_mulX (pv 3) pe_int) (pe_op op_mulX (pe_op op_fdivX (pv 3) pe_int) pe_int)) (pe_ix ix_seq (pv 0) pe_int (fun _ _ => rfl))) pa_nil)) pe_int)) (pss_one (ps_ret (pe_op op_modN (pe_callTy (T := "int") (r := rInt1) call_int1 rfl T.int (by decide +kernel) (pa_cons (pe_op op_fdivX (pv 3) pe_int) pa_nil)) (pv 1)))))))),
    ?_, rd_law_take⟩
  exact (LS_seq (LS_if (LT_and (LT_tru (LE_ixC 1 (LE_var 0))) (LT_test (LE_op (L2_I0 (fun i j => .bl (decide (j < i)))) (LE_ixC 0 (LE_var 0)) (LE_c (.int 0))))) (LS_seq (LS_asg (LE_op (L2_I (fun _ j => j ≠ 0) (fun i j => .int (i.fmod j))) (LE_cb LC_int1 (LA_cons (LE_ixC 0 (LE_var 0)) LA_nil)) (LE_var 1)) (LG_name 2)) (LS_seq (LS_asg (LE_op (L2_I CDivX (fun i j => .int (i.fdiv j))) (LE_ixC 0 (LE_var 0)) (LE_var 1)) (LG_subC 0 (LE_var 0))) (LS_ret (LE_var 2)))) LS_next) (LS_seq (LS_asg (LE_op (L2_I0 (fun i j => .int (i + j))) (LE_ixC 2 (LE_var 0)) (LE_c (.int 1))) (LG_subC 2 (LE_var 0))) (LS_seq (LS_asg (LE_op (L2_I (fun _ j => j ≠ 0) (fun i j => .int (i.fmod j))) (LE_cb LC_int1 (LA_cons (LE_op (L2_I0 (fun i j => .int (i + j))) (LE_op (L2_I0 (fun i j => .int (i + j))) (LE_op (L2_I IntMulOk (fun i j => .int (i * j))) (LE_ixC 3 (LE_var 0)) (LE_c (.int 48271))) (LE_op (L2_I IntMulOk (fun i j => .int (i * j))) (LE_ixC 2 (LE_var 0)) (LE_c (.int 69621)))) (LE_c (.int 17))) LA_nil)) (LE_c (.int 2147483647))) (LG_name 3)) (LS_seq (LS_asg (LE_op (L2_I (fun _ j => j ≠ 0) (fun i j => .int (i.fmod j))) (LE_cb LC_int1 (LA_cons (LE_op (L2_I0 (fun i j => .int (i + j))) (LE_op (L2_I0 (fun i j => .int (i + j))) (LE_op (L2_I IntMulOk (fun i j => .int (i * j))) (LE_var 3) (LE_c (.int 40692))) (LE_op (L2_I IntMulOk (fun i j => .int (i * j))) (LE_op (L2_I CDivX (fun i j => .int (i.fdiv j))) (LE_var 3) (LE_c (.int 977))) (LE_c (.int 31)))) (LE_ixC 2 (LE_var 0))) LA_nil)) (LE_c (.int 2147483399))) (LG_name 3)) (LS_ret (LE_op (L2_I (fun _ j => j ≠ 0) (fun i j => .int (i.fmod j))) (LE_cb LC_int1 (LA_cons (LE_op (L2_I CDivX (fun i j => .int (i.fdiv j))) (LE_var 3) (LE_c (.int 7))) LA_nil)) (LE_var 1)))))))
theorem ok_law_divisor (Df : Dfn K mg "_law_divisor" s_law_divisor) (T : Txt mg) :
    Cal P w K mg base CX0 1 "_law_divisor" ["one", "other"] (spD K S_law_divisor) := by
  refine cal_ok (k := 0) Df sc_law_divisor (fun _ _ _ _ _ _ us hl => match us, hl with | [_, _], _ => rfl) S_law_divisor_len ?_
  intro f cdv A outer s H E hr
  refine ⟨_, d_law_divisor, (pss_cons (ps_while PassesOwn.never (pt_cmpR op_ne (pv 1) pe_int (nomark _)) (pss_one (ps_par (i := 0) (j := 1) (by rfl) sc_law_divisor.nd rfl rfl (by decide) rfl rfl (pa_cons (pv 1) (pa_cons (pe_op op_modN (pe_callTy (T := "int") (r := rInt1) call_int1 rfl T.int (by decide +kernel) (pa_cons (pv 0) pa_nil)) (pv 1)) pa_nil)) (by rfl)))) (pss_one (ps_ret (pe_callB (id := "abs") (r := rAbs) call_abs rfl T.abs (by decide +kernel) (pa_cons (pv 0) pa_nil))))),
    ?_, rd_law_divisor⟩
  exact (LS_seq (LS_while (LT_test (LE_op L2_ne (LE_var 1) (LE_c (.int 0)))) (LS_par (i := 0) (j := 1) (LA_cons (LE_var 1) (LA_cons (LE_op (L2_I (fun _ j => j ≠ 0) (fun i j => .int (i.fmod j))) (LE_cb LC_int1 (LA_cons (LE_var 0) LA_nil)) (LE_var 1)) LA_nil)))) (LS_ret (LE_cb LC_abs (LA_cons (LE_var 0) LA_nil))))
theorem ok_law_fraction (Df : Dfn K mg "_law_fraction" s_law_fraction) (C_law_divisor : Cal P w K mg base CX0 1 "_law_divisor" ["one", "other"] (spD K S_law_divisor)) :
    Cal P w K mg base CX0 2 "_law_fraction" ["p", "q"] (spD K S_law_fraction) := by
  refine cal_ok (k := 1) Df sc_law_fraction (fun _ _ _ _ _ _ us hl => match us, hl with | [_, _], _ => rfl) S_law_fraction_len ?_
  intro f cdv A outer s H E hr
  refine ⟨_, d_law_fraction, (pss_cons (ps_set (i := 2) sc_law_fraction.nd rfl (Or.inl rfl) (pe_cal C_law_divisor (hr.mono (by decide)) rfl pass0 (pa_cons (pv 0) (pa_cons (pv 1) pa_nil)))) (pss_cons (ps_if (pt_cmpR op_lt (pv 1) pe_int (nomark _)) (pss_one (ps_set (i := 2) sc_law_fraction.nd rfl (Or.inl rfl) (pe_op op_sub pe_int (pv 2)))) pss_nil) (pss_one (ps_ret (pe_tup (pa_cons (pe_op op_fdivX (pv 0) (pv 2)) (pa_cons (pe_op op_fdivX (pv 1) (pv 2)) pa_nil))))))),
    ?_, rd_law_fraction⟩
  exact (LS_seq (LS_asg (LE_call (LA_cons (LE_var 0) (LA_cons (LE_var 1) LA_nil))) (LG_name 2)) (LS_seq (LS_if (LT_test (LE_op (L2_I0 (fun i j => .bl (decide (i < j)))) (LE_var 1) (LE_c (.int 0)))) (LS_asg (LE_op (L2_I0 (fun i j => .int (i - j))) (LE_c (.int 0)) (LE_var 2)) (LG_name 2)) LS_next) (LS_ret (LE_tup (LA_cons (LE_op (L2_I CDivX (fun i j => .int (i.fdiv j))) (LE_var 0) (LE_var 2)) (LA_cons (LE_op (L2_I CDivX (fun i j => .int (i.fdiv j))) (LE_var 1) (LE_var 2)) LA_nil))))))
theorem ok_law_plus (Df : Dfn K mg "_law_plus" s_law_plus) (C_law_fraction : Cal P w K mg base CX0 2 "_law_fraction" ["p", "q"] (spD K S_law_fraction)) :
    Cal P w K mg base CX0 3 "_law_plus" ["x", "y"] (spD K S_law_plus) := by
  refine cal_ok (k := 2) Df sc_law_plus (fun _ _ _ _ _ _ us hl => match us, hl with | [_, _], _ => rfl) S_law_plus_len ?_
  intro f cdv A outer s H E hr
  refine ⟨_, d_law_plus, (pss_one (ps_ret (pe_cal C_law_fraction (hr.mono (by decide)) rfl pass0 (pa_cons (pe_op op_add (pe_op op_mulX (pe_ix ix_seq (pv 0) pe_int (fun _ _ => rfl)) (pe_ix ix_seq (pv 1) pe_int (fun _ _ => rfl))) (pe_op op_mulX (pe_ix ix_seq (pv 1) pe_int (fun _ _ => rfl)) (pe_ix ix_seq (pv 0) pe_int (fun _ _ => rfl)))) (pa_cons (pe_op op_mulX (pe_ix ix_seq (pv 0) pe_int (fun _ _ => rfl)) (pe_ix ix_seq (pv 1) pe_int (fun _ _ => rfl))) pa_nil))))),
    ?_, rd_law_plus⟩
  exact (LS_ret (LE_call (LA_cons (LE_op (L2_I0 (fun i j => .int (i + j))) (LE_op (L2_I IntMulOk (fun i j => .int (i * j))) (LE_ixC 0 (LE_var 0)) (LE_ixC 1 (LE_var 1))) (LE_op (L2_I IntMulOk (fun i j => .int (i * j))) (LE_ixC 0 (LE_var 1)) (LE_ixC 1 (LE_var 0)))) (LA_cons (LE_op (L2_I IntMulOk (fun i j => .int (i * j))) (LE_ixC 1 (LE_var 0)) (LE_ixC 1 (LE_var 1))) LA_nil))))
theorem ok_law_times (Df : Dfn K mg "_law_times" s_law_times) (C_law_fraction : Cal P w K mg base CX0 2 "_law_fraction" ["p", "q"] (spD K S_law_fraction)) :
    Cal P w K mg base CX0 3 "_law_times" ["x", "y"] (spD K S_law_times) := by
  refine cal_ok (k := 2) Df sc_law_times (fun _ _ _ _ _ _ us hl => match us, hl with | [_, _], _ => rfl) S_law_times_len ?_
  intro f cdv A outer s H E hr
  refine ⟨_, d_law_times, (pss_one (ps_ret (pe_cal C_law_fraction (hr.mono (by decide)) rfl pass0 (pa_cons (pe_op op_mulX (pe_ix ix_seq (pv 0) pe_int (fun _ _ => rfl)) (pe_ix ix_seq (pv 1) pe_int (fun _ _ => rfl))) (pa_cons (pe_op op_mulX (pe_ix ix_seq (pv 0) pe_int (fun _ _ => rfl)) (pe_ix ix_seq (pv 1) pe_int (fun _ _ => rfl))) pa_nil))))),
    ?_, rd_law_times⟩
  exact (LS_ret (LE_call (LA_cons (LE_op (L2_I IntMulOk (fun i j => .int (i * j))) (LE_ixC 0 (LE_var 0)) (LE_ixC 0 (LE_var 1))) (LA_cons (LE_op (L2_I IntMulOk (fun i j => .int (i * j))) (LE_ixC 1 (LE_var 0)) (LE_ixC 1 (LE_var 1))) LA_nil))))
theorem ok_law_integer (Df : Dfn K mg "_law_integer" s_law_integer) (T : Txt mg) (C_law_take : Cal P w K mg base CX0 1 "_law_take" ["tape", "many"] (spD K S_law_take)) :
    Cal P w K mg base CX0 2 "_law_integer" ["tape"] (spD K S_law_integer) := by
  refine cal_ok (k := 1) Df sc_law_integer (fun _ _ _ _ _ _ us hl => match us, hl with | [_], _ => rfl) S_law_integer_len ?_
  intro f cdv A outer s H E hr
  refine ⟨_, d_law_integer, (pss_cons (ps_set (i := 1) sc_law_integer.nd rfl (Or.inl rfl) (pe_ix ix_seq (pe_lst (pa_cons pe_int (pa_cons pe_int (pa_cons pe_int (pa_cons (pe_op op_pow pe_int pe_int) (pa_cons (pe_op op_pow pe_int pe_int) pa_nil)))))) (pe_cal C_law_take (hr.mono (by decide)) rfl pass0 (pa_cons (pv 0) (pa_cons pe_int pa_nil))) (fun _ _ => rfl))) (pss_cons (ps_set (i := 2) sc_law_integer.nd rfl (Or.inl rfl) pe_int) (pss_cons (ps_for PassesOwn.never rfl (pi_range1 rfl T.range (pa_cons pe_int pa_nil)) (pg_name (i := 3) sc_law_integer.nd rfl (Or.inl rfl)) (pss_one (ps_set (i := 2) sc_law_integer.nd rfl (Or.inl rfl) (pe_op op_add (pe_op op_mulX (pv 2) pe_int) (pe_cal C_law_take (hr.mono (by decide)) rfl pass0 (pa_cons (pv 0) (pa_cons pe_int pa_nil))))))) (pss_one (ps_ret (pe_op op_mulX (pe_op op_modN (pe_callTy (T := "int") (r := rInt1) call_int1 rfl T.int (by decide +kernel) (pa_cons (pv 2) pa_nil)) (pv 1)) (pe_ix ix_seq (pe_lst (pa_cons pe_int (pa_cons (pe_un un_neg pe_int) pa_nil))) (pe_cal C_law_take (hr.mono (by decide)) rfl pass0 (pa_cons (pv 0) (pa_cons pe_int pa_nil))) (fun _ _ => rfl)))))))),
    ?_, rd_law_integer⟩
  exact (LS_seq (LS_asg (LE_op L2_ix (LE_lst (LA_cons (LE_c (.int 1)) (LA_cons (LE_c (.int 4)) (LA_cons (LE_c (.int 100)) (LA_cons (LE_op (L2_I CPow (fun i j => .int (i ^ j.toNat))) (LE_c (.int 10)) (LE_c (.int 12))) (LA_cons (LE_op (L2_I CPow (fun i j => .int (i ^ j.toNat))) (LE_c (.int 10)) (LE_c (.int 30))) LA_nil)))))) (LE_call (LA_cons (LE_var 0) (LA_cons (LE_c (.int 5)) LA_nil)))) (LG_name 1)) (LS_seq (LS_asg (LE_c (.int 0)) (LG_name 2)) (LS_seq (LS_for (LI_rng1 (LA_cons (LE_c (.int 5)) LA_nil)) (LG_name 3) (LS_asg (LE_op (L2_I0 (fun i j => .int (i + j))) (LE_op (L2_I IntMulOk (fun i j => .int (i * j))) (LE_var 2) (LE_c (.int 1000003))) (LE_call (LA_cons (LE_var 0) (LA_cons (LE_c (.int 1000003)) LA_nil)))) (LG_name 2))) (LS_ret (LE_op (L2_I IntMulOk (fun i j => .int (i * j))) (LE_op (L2_I (fun _ j => j ≠ 0) (fun i j => .int (i.fmod j))) (LE_cb LC_int1 (LA_cons (LE_var 2) LA_nil)) (LE_var 1)) (LE_op L2_ix (LE_lst (LA_cons (LE_c (.int 1)) (LA_cons (LE_un (L1_U (fun i => .int (-i))) (LE_c (.int 1))) LA_nil))) (LE_call (LA_cons (LE_var 0) (LA_cons (LE_c (.int 2)) LA_nil)))))))))
theorem ok_law_is (Df : Dfn K mg "_law_is" s_law_is) (T : Txt mg) :
    Cal P w K mg base CX0 1 "_law_is" ["told", "due"] (spD K S_law_is) := by
  refine cal_ok (k := 0) Df sc_law_is (fun _ _ _ _ _ _ us hl => match us, hl with | [_, _], _ => rfl) S_law_is_len ?_
  intro f cdv A outer s H E hr
  refine ⟨_, d_law_is, (pss_cons (ps_if (PW.pt (pw_or (pt_not (pt_val (pe_callB (id := "isinstance") (r := rIsi K) call_isi rfl T.isinstance (by decide +kernel) (pa_cons (pv 0) (pa_cons (pe_bltn (v := .ty "tuple") (by rfl) T.tuple (by decide +kernel) rfl) pa_nil))))) (pw_or (pt_cmpR op_ne (pe_callB (id := "len") (r := rLen K) call_len_seq rfl T.len PySem.boot_len (pa_cons (pv 0) pa_nil)) pe_int (nomark _)) (pw_or1 (pt_cmpR (op_neD hr.units) (pv 0) (pv 1) (nomark _)))))) (pss_one (ps_ret pe_bl)) pss_nil) (pss_one (ps_ret (pe_cmpR op_eq (pe_callB (id := "len") (r := rLen K) call_len_seq rfl T.len PySem.boot_len (pa_cons (pe_lc (own := [("one", 2)]) (g := (gName 2))  rfl sc_law_is.nd (pi_tup (pv 0)) (blkOk_by (own := [("one", 2)]) (N := ["told", "due", "one"]) (sc := defScope s_law_is) (by decide +kernel)) (fun _ _ _ _ _ => (pg_name (i := 2) sc_law_is.nd rfl (Or.inl rfl))) (fun _ _ _ _ _ => (pts_one (PW.pt (pw_or (pt_not (pt_val (pe_callB (id := "isinstance") (r := rIsi K) call_isi rfl T.isinstance (by decide +kernel) (pa_cons (pv 2) (pa_cons (pe_bltn (v := .ty "int") (by rfl) T.int (by decide +kernel) rfl) pa_nil))))) (pw_or1 (pt_val (pe_callB (id := "isinstance") (r := rIsi K) call_isi rfl T.isinstance (by decide +kernel) (pa_cons (pv 2) (pa_cons (pe_bltn (v := .ty "bool") (by rfl) T.bool (by decide +kernel) rfl) pa_nil))))))))) (fun _ _ _ _ _ => (pv 2))) pa_nil)) pe_int (nomark _))))),
    ?_, rd_law_is⟩
  exact (LS_seq (LS_if (LT_or (LT_not (LT_b (LE_cb LC_isi (LA_cons (LE_var 0) (LA_cons (LE_c (.ty "tuple")) LA_nil))))) (LT_or (LT_test (LE_op L2_ne (LE_cb LC_len (LA_cons (LE_var 0) LA_nil)) (LE_c (.int 2)))) (LT_test (LE_op L2_neD (LE_var 0) (LE_var 1))))) (LS_ret (LE_c (.bl false))) LS_next) (LS_ret (LE_op L2_eq (LE_cb LC_len (LA_cons (LE_lc (vs := [2]) (LI_tup (LE_var 0)) (LG_name 2) (LT_or (LT_not (LT_b (LE_cb LC_isi (LA_cons (LE_var 2) (LA_cons (LE_c (.ty "int")) LA_nil))))) (LT_b (LE_cb LC_isi (LA_cons (LE_var 2) (LA_cons (LE_c (.ty "bool")) LA_nil))))) (LE_var 2)) LA_nil)) (LE_c (.int 0)))))
theorem ok_law {f : Addr} {fd : FuncData} (F0 : Fun K "law" "law" s_law f fd) (T : Txt mg) (C_law_tape : Cal P w K mg base CX0 1 "_law_tape" ["script", "k"] (spD K S_law_tape)) (C_law_integer : Cal P w K mg base CX0 2 "_law_integer" ["tape"] (spD K S_law_integer)) (C_law_made : Cal P w K mg base CX0 3 "_law_made" ["p", "q"] (spD K S_law_made)) (C_law_fraction : Cal P w K mg base CX0 2 "_law_fraction" ["p", "q"] (spD K S_law_fraction)) (C_law_is : Cal P w K mg base CX0 1 "_law_is" ["told", "due"] (spD K S_law_is)) (C_law_plus : Cal P w K mg base CX0 3 "_law_plus" ["x", "y"] (spD K S_law_plus)) (C_plus : Cal P w K mg base CX0 2 "plus" ["x", "y"] (spD K S_plus)) (C_law_times : Cal P w K mg base CX0 3 "_law_times" ["x", "y"] (spD K S_law_times)) (C_times : Cal P w K mg base CX0 2 "times" ["x", "y"] (spD K S_times)) (C_minus : Cal P w K mg base CX0 2 "minus" ["x", "y"] (spD K S_minus)) (C_law_parted : Cal P w K mg base CX0 3 "_law_parted" ["x", "y"] (spD K S_law_parted)) :
    FnOk P w K mg base CX0 4 f fd ["script"] (spLaw K) := by
  refine law_ok (k := 3) F0 sc_law ?_
  intro cdv A outer s H E hr
  refine ⟨_, d_law, (pss_cons (ps_set (i := 1) sc_law.nd rfl (Or.inl rfl) (pe_lst (pa_cons (pe_tup (pa_cons pe_int (pa_cons pe_int pa_nil))) (pa_cons (pe_tup (pa_cons pe_int (pa_cons pe_int pa_nil))) pa_nil)))) (pss_cons (ps_for PassesOwn.never rfl (pi_range1 rfl T.range (pa_cons pe_int pa_nil)) (pg_name (i := 2) sc_law.nd rfl (Or.inl rfl)) (pss_cons (ps_set (i := 3) sc_law.nd rfl (Or.inl rfl) (pe_cal C_law_tape (hr.mono (by decide)) rfl pass0 (pa_cons (pv 0) (pa_cons (pv 2) pa_nil)))) (pss_cons (ps_par (i := 4) (j := 5) (by rfl) sc_law.nd rfl rfl (by decide) rfl rfl (pa_cons (pe_cal C_law_integer (hr.mono (by decide)) rfl pass0 (pa_cons (pv 3) pa_nil)) (pa_cons (pe_cal C_law_integer (hr.mono (by decide)) rfl pass0 (pa_cons (pv 3) pa_nil)) pa_nil)) (by rfl)) (pss_cons (ps_set (i := 6) sc_law.nd rfl (Or.inl rfl) (pe_cal C_law_made (hr.mono (by decide)) rfl pass0 (pa_cons (pv 4) (pa_cons (pv 5) pa_nil)))) (pss_one (ps_if (pt_cmpR op_eq (pv 5) pe_int (nomark _)) (pss_one (ps_if (pt_cmpR (op_neD hr.units) (pv 6) (pe_lst pa_nil) (nomark _)) (pss_one (ps_ret pe_bl)) pss_nil)) (pss_one (ps_if (PW.pt (pw_or (pt_cmpR op_isN (pv 6) pe_non (nomark _)) (pw_or (pt_cmpR op_ne (pe_callB (id := "len") (r := rLen K) call_len_seq rfl T.len PySem.boot_len (pa_cons (pv 6) pa_nil)) pe_int (nomark _)) (pw_or1 (pt_not (pt_val (pe_cal C_law_is (hr.mono (by decide)) rfl pass0 (pa_cons (pe_ix ix_seq (pv 6) pe_int (fun _ _ => rfl)) (pa_cons (pe_cal C_law_fraction (hr.mono (by decide)) rfl pass0 (pa_cons (pv 4) (pa_cons (pv 5) pa_nil))) pa_nil))))))))) (pss_one (ps_ret pe_bl)) (pss_one (ps_expr (pe_bm PySem.F.plainAttrs_list PySem.F.slot_list_append PySem.F.type_list_append mt_append (pv 1) (pa_cons (pe_ix ix_seq (pv 6) pe_int (fun _ _ => rfl)) pa_nil)))))))))))) (pss_cons (ps_for PassesOwn.never rfl (pi_list (pv 1)) (pg_name (i := 7) sc_law.nd rfl (Or.inl rfl)) (pss_one (ps_for PassesOwn.never rfl (pi_list (pv 1)) (pg_name (i := 8) sc_law.nd rfl (Or.inl rfl)) (pss_cons (ps_if (PW.pt (pw_or (pt_not (pt_val (pe_cal C_law_is (hr.mono (by decide)) rfl pass0 (pa_cons (pe_cal C_plus (hr.mono (by decide)) rfl pass0 (pa_cons (pv 7) (pa_cons (pv 8) pa_nil))) (pa_cons (pe_cal C_law_plus (hr.mono (by decide)) rfl pass0 (pa_cons (pv 7) (pa_cons (pv 8) pa_nil))) pa_nil))))) (pw_or1 (pt_not (pt_val (pe_cal C_law_is (hr.mono (by decide)) rfl pass0 (pa_cons (pe_cal C_times (hr.mono (by decide)) rfl pass0 (pa_cons (pv 7) (pa_cons (pv 8) pa_nil))) (pa_cons (pe_cal C_law_times (hr.mono (by decide)) rfl pass0 (pa_cons (pv 7) (pa_cons (pv 8) pa_nil))) pa_nil)))))))) (pss_one (ps_ret pe_bl)) pss_nil) (pss_cons (ps_if (pt_not (pt_val (pe_cal C_law_is (hr.mono (by decide)) rfl pass0 (pa_cons (pe_cal C_minus (hr.mono (by decide)) rfl pass0 (pa_cons (pv 7) (pa_cons (pv 8) pa_nil))) (pa_cons (pe_cal C_law_plus (hr.mono (by decide)) rfl pass0 (pa_cons (pv 7) (pa_cons (pe_tup (pa_cons (pe_op op_sub pe_int (pe_ix ix_seq (pv 8) pe_int (fun _ _ => rfl))) (pa_cons (pe_ix ix_seq (pv 8) pe_int (fun _ _ => rfl)) pa_nil))) pa_nil))) pa_nil))))) (pss_one (ps_ret pe_bl)) pss_nil) (pss_cons (ps_set (i := 9) sc_law.nd rfl (Or.inl rfl) (pe_lst pa_nil)) (pss_cons (ps_if (pt_cmpR op_ne (pe_ix ix_seq (pv 8) pe_int (fun _ _ => rfl)) pe_int (nomark _)) (pss_one (ps_set (i := 9) sc_law.nd rfl (Or.inl rfl) (pe_lst (pa_cons (pe_cal C_law_fraction (hr.mono (by decide)) rfl pass0 (pa_cons (pe_op op_mulX (pe_ix ix_seq (pv 7) pe_int (fun _ _ => rfl)) (pe_ix ix_seq (pv 8) pe_int (fun _ _ => rfl))) (pa_cons (pe_op op_mulX (pe_ix ix_seq (pv 7) pe_int (fun _ _ => rfl)) (pe_ix ix_seq (pv 8) pe_int (fun _ _ => rfl))) pa_nil))) pa_nil)))) pss_nil) (pss_one (ps_if (pt_cmpR (op_neD hr.units) (pe_cal C_law_parted (hr.mono (by decide)) rfl pass0 (pa_cons (pv 7) (pa_cons (pv 8) pa_nil))) (pv 9) (nomark _)) (pss_one (ps_ret pe_bl)) pss_nil))))))))) (pss_one (ps_ret pe_bl))))),
    ?_, rd_law⟩
  exact (LS_seq (LS_asg (LE_lstO (LA_cons (LE_tup (LA_cons (LE_c (.int 0)) (LA_cons (LE_c (.int 1)) LA_nil))) (LA_cons (LE_tup (LA_cons (LE_c (.int 1)) (LA_cons (LE_c (.int 1)) LA_nil))) LA_nil))) (LG_name 1)) (LS_seq (LS_for (LI_rng1 (LA_cons (LE_c (.int 10)) LA_nil)) (LG_name 2) (LS_seq (LS_asg (LE_call (LA_cons (LE_var 0) (LA_cons (LE_var 2) LA_nil))) (LG_name 3)) (LS_seq (LS_par (i := 4) (j := 5) (LA_cons (LE_call (LA_cons (LE_var 3) LA_nil)) (LA_cons (LE_call (LA_cons (LE_var 3) LA_nil)) LA_nil))) (LS_seq (LS_asg (LE_call (LA_cons (LE_var 4) (LA_cons (LE_var 5) LA_nil))) (LG_name 6)) (LS_if (LT_test (LE_op L2_eq (LE_var 5) (LE_c (.int 0)))) (LS_if (LT_test (LE_op L2_neD (LE_var 6) (LE_lst LA_nil))) (LS_ret (LE_c (.bl false))) LS_next) (LS_if (LT_or (LT_test (LE_op L2_isN (LE_var 6) (LE_c .non))) (LT_or (LT_test (LE_op L2_ne (LE_cb LC_len (LA_cons (LE_var 6) LA_nil)) (LE_c (.int 1)))) (LT_not (LT_b (LE_call (LA_cons (LE_ixC 0 (LE_var 6)) (LA_cons (LE_call (LA_cons (LE_var 4) (LA_cons (LE_var 5) LA_nil))) LA_nil))))))) (LS_ret (LE_c (.bl false))) (LS_drop (LE_app (LE_var 1) (LA_cons (LE_ixC 0 (LE_var 6)) LA_nil))))))))) (LS_gfrz 1 (LS_seq (LS_for (LI_list (LE_var 1)) (LG_name 7) (LS_for (LI_list (LE_var 1)) (LG_name 8) (LS_seq (LS_if (LT_or (LT_not (LT_b (LE_call (LA_cons (LE_call (LA_cons (LE_var 7) (LA_cons (LE_var 8) LA_nil))) (LA_cons (LE_call (LA_cons (LE_var 7) (LA_cons (LE_var 8) LA_nil))) LA_nil))))) (LT_not (LT_b (LE_call (LA_cons (LE_call (LA_cons (LE_var 7) (LA_cons (LE_var 8) LA_nil))) (LA_cons (LE_call (LA_cons (LE_var 7) (LA_cons (LE_var 8) LA_nil))) LA_nil)))))) (LS_ret (LE_c (.bl false))) LS_next) (LS_seq (LS_if (LT_not (LT_b (LE_call (LA_cons (LE_call (LA_cons (LE_var 7) (LA_cons (LE_var 8) LA_nil))) (LA_cons (LE_call (LA_cons (LE_var 7) (LA_cons (LE_tup (LA_cons (LE_op (L2_I0 (fun i j => .int (i - j))) (LE_c (.int 0)) (LE_ixC 0 (LE_var 8))) (LA_cons (LE_ixC 1 (LE_var 8)) LA_nil))) LA_nil))) LA_nil))))) (LS_ret (LE_c (.bl false))) LS_next) (LS_seq (LS_asg (LE_lst LA_nil) (LG_name 9)) (LS_seq (LS_if (LT_test (LE_op L2_ne (LE_ixC 0 (LE_var 8)) (LE_c (.int 0)))) (LS_asg (LE_lst (LA_cons (LE_call (LA_cons (LE_op (L2_I IntMulOk (fun i j => .int (i * j))) (LE_ixC 0 (LE_var 7)) (LE_ixC 1 (LE_var 8))) (LA_cons (LE_op (L2_I IntMulOk (fun i j => .int (i * j))) (LE_ixC 1 (LE_var 7)) (LE_ixC 0 (LE_var 8))) LA_nil))) LA_nil)) (LG_name 9)) LS_next) (LS_if (LT_test (LE_op L2_neD (LE_call (LA_cons (LE_var 7) (LA_cons (LE_var 8) LA_nil))) (LE_var 9))) (LS_ret (LE_c (.bl false))) LS_next))))))) (LS_ret (LE_c (.bl true)))))))
end
theorem all_mk {l : PySem.W.OpenLaw} {w : World} {K : PySem.W.Frag} {h : Heap} {mg : Str → Option Value} {fa : Addr} (X : K.In h) (G : h.Ns mainGlobals mg) (hfa : mg "law" = some (.ref fa)) {CN CB CW CR : Addr}
    {f0 : Addr} {oc0 kV0 dc0 pm0 cd0 ct0 : Value} {od0 an0 : Option Addr} {sl0 : Array (Option Value)}
    {f1 : Addr} {oc1 kV1 dc1 pm1 cd1 ct1 : Value} {od1 an1 : Option Addr} {sl1 : Array (Option Value)}
    {f2 : Addr} {oc2 kV2 dc2 pm2 cd2 ct2 : Value} {od2 an2 : Option Addr} {sl2 : Array (Option Value)}
    {f3 : Addr} {oc3 kV3 dc3 pm3 cd3 ct3 : Value} {od3 an3 : Option Addr} {sl3 : Array (Option Value)}
    {f4 : Addr} {oc4 kV4 dc4 pm4 cd4 ct4 : Value} {od4 an4 : Option Addr} {sl4 : Array (Option Value)}
    {f5 : Addr} {oc5 kV5 dc5 pm5 cd5 ct5 : Value} {od5 an5 : Option Addr} {sl5 : Array (Option Value)}
    {f6 : Addr} {oc6 kV6 dc6 pm6 cd6 ct6 : Value} {od6 an6 : Option Addr} {sl6 : Array (Option Value)}
    {f7 : Addr} {oc7 kV7 dc7 pm7 cd7 ct7 : Value} {od7 an7 : Option Addr} {sl7 : Array (Option Value)}
    {f8 : Addr} {oc8 kV8 dc8 pm8 cd8 ct8 : Value} {od8 an8 : Option Addr} {sl8 : Array (Option Value)}
    {f9 : Addr} {oc9 kV9 dc9 pm9 cd9 ct9 : Value} {od9 an9 : Option Addr} {sl9 : Array (Option Value)}
    {f10 : Addr} {oc10 kV10 dc10 pm10 cd10 ct10 : Value} {od10 an10 : Option Addr} {sl10 : Array (Option Value)}
    {f11 : Addr} {oc11 kV11 dc11 pm11 cd11 ct11 : Value} {od11 an11 : Option Addr} {sl11 : Array (Option Value)}
    {f12 : Addr} {oc12 kV12 dc12 pm12 cd12 ct12 : Value} {od12 an12 : Option Addr} {sl12 : Array (Option Value)}
    {f13 : Addr} {oc13 kV13 dc13 pm13 cd13 ct13 : Value} {od13 an13 : Option Addr} {sl13 : Array (Option Value)}
    {f14 : Addr} {oc14 kV14 dc14 pm14 cd14 ct14 : Value} {od14 an14 : Option Addr} {sl14 : Array (Option Value)}
    {f15 : Addr} {oc15 kV15 dc15 pm15 cd15 ct15 : Value} {od15 an15 : Option Addr} {sl15 : Array (Option Value)}
    (a0 : PySem.W.nsIn K mainGlobals "fraction" = some (some (.ref f0))) (l0 : K.lookup f0 = some ⟨oc0, od0, .func (PySem.W.fnOf "fraction" "fraction" (defArgs s_fraction) (defBody s_fraction) (defScope s_fraction) .none kV0 dc0 pm0 an0 cd0 ct0), sl0⟩) (c0 : PySem.W.codeIn K cd0 "fraction" = true) (k0 : PySem.W.keepIn K (.ref f0) = true)
    (a1 : PySem.W.nsIn K mainGlobals "plus" = some (some (.ref f1))) (l1 : K.lookup f1 = some ⟨oc1, od1, .func (PySem.W.fnOf "plus" "plus" (defArgs s_plus) (defBody s_plus) (defScope s_plus) .none kV1 dc1 pm1 an1 cd1 ct1), sl1⟩) (c1 : PySem.W.codeIn K cd1 "plus" = true) (k1 : PySem.W.keepIn K (.ref f1) = true)
    (a2 : PySem.W.nsIn K mainGlobals "minus" = some (some (.ref f2))) (l2 : K.lookup f2 = some ⟨oc2, od2, .func (PySem.W.fnOf "minus" "minus" (defArgs s_minus) (defBody s_minus) (defScope s_minus) .none kV2 dc2 pm2 an2 cd2 ct2), sl2⟩) (c2 : PySem.W.codeIn K cd2 "minus" = true) (k2 : PySem.W.keepIn K (.ref f2) = true)
    (a3 : PySem.W.nsIn K mainGlobals "times" = some (some (.ref f3))) (l3 : K.lookup f3 = some ⟨oc3, od3, .func (PySem.W.fnOf "times" "times" (defArgs s_times) (defBody s_times) (defScope s_times) .none kV3 dc3 pm3 an3 cd3 ct3), sl3⟩) (c3 : PySem.W.codeIn K cd3 "times" = true) (k3 : PySem.W.keepIn K (.ref f3) = true)
    (a4 : PySem.W.nsIn K mainGlobals "over" = some (some (.ref f4))) (l4 : K.lookup f4 = some ⟨oc4, od4, .func (PySem.W.fnOf "over" "over" (defArgs s_over) (defBody s_over) (defScope s_over) .none kV4 dc4 pm4 an4 cd4 ct4), sl4⟩) (c4 : PySem.W.codeIn K cd4 "over" = true) (k4 : PySem.W.keepIn K (.ref f4) = true)
    (a5 : PySem.W.nsIn K mainGlobals "_law_tape" = some (some (.ref f5))) (l5 : K.lookup f5 = some ⟨oc5, od5, .func (PySem.W.fnOf "_law_tape" "_law_tape" (defArgs s_law_tape) (defBody s_law_tape) (defScope s_law_tape) .none kV5 dc5 pm5 an5 cd5 ct5), sl5⟩) (c5 : PySem.W.codeIn K cd5 "_law_tape" = true) (k5 : PySem.W.keepIn K (.ref f5) = true)
    (a6 : PySem.W.nsIn K mainGlobals "_law_take" = some (some (.ref f6))) (l6 : K.lookup f6 = some ⟨oc6, od6, .func (PySem.W.fnOf "_law_take" "_law_take" (defArgs s_law_take) (defBody s_law_take) (defScope s_law_take) .none kV6 dc6 pm6 an6 cd6 ct6), sl6⟩) (c6 : PySem.W.codeIn K cd6 "_law_take" = true) (k6 : PySem.W.keepIn K (.ref f6) = true)
    (a7 : PySem.W.nsIn K mainGlobals "_law_divisor" = some (some (.ref f7))) (l7 : K.lookup f7 = some ⟨oc7, od7, .func (PySem.W.fnOf "_law_divisor" "_law_divisor" (defArgs s_law_divisor) (defBody s_law_divisor) (defScope s_law_divisor) .none kV7 dc7 pm7 an7 cd7 ct7), sl7⟩) (c7 : PySem.W.codeIn K cd7 "_law_divisor" = true) (k7 : PySem.W.keepIn K (.ref f7) = true)
    (a8 : PySem.W.nsIn K mainGlobals "_law_fraction" = some (some (.ref f8))) (l8 : K.lookup f8 = some ⟨oc8, od8, .func (PySem.W.fnOf "_law_fraction" "_law_fraction" (defArgs s_law_fraction) (defBody s_law_fraction) (defScope s_law_fraction) .none kV8 dc8 pm8 an8 cd8 ct8), sl8⟩) (c8 : PySem.W.codeIn K cd8 "_law_fraction" = true) (k8 : PySem.W.keepIn K (.ref f8) = true)
    (a9 : PySem.W.nsIn K mainGlobals "_law_plus" = some (some (.ref f9))) (l9 : K.lookup f9 = some ⟨oc9, od9, .func (PySem.W.fnOf "_law_plus" "_law_plus" (defArgs s_law_plus) (defBody s_law_plus) (defScope s_law_plus) .none kV9 dc9 pm9 an9 cd9 ct9), sl9⟩) (c9 : PySem.W.codeIn K cd9 "_law_plus" = true) (k9 : PySem.W.keepIn K (.ref f9) = true)
    (a10 : PySem.W.nsIn K mainGlobals "_law_times" = some (some (.ref f10))) (l10 : K.lookup f10 = some ⟨oc10, od10, .func (PySem.W.fnOf "_law_times" "_law_times" (defArgs s_law_times) (defBody s_law_times) (defScope s_law_times) .none kV10 dc10 pm10 an10 cd10 ct10), sl10⟩) (c10 : PySem.W.codeIn K cd10 "_law_times" = true) (k10 : PySem.W.keepIn K (.ref f10) = true)
    (a11 : PySem.W.nsIn K mainGlobals "_law_integer" = some (some (.ref f11))) (l11 : K.lookup f11 = some ⟨oc11, od11, .func (PySem.W.fnOf "_law_integer" "_law_integer" (defArgs s_law_integer) (defBody s_law_integer) (defScope s_law_integer) .none kV11 dc11 pm11 an11 cd11 ct11), sl11⟩) (c11 : PySem.W.codeIn K cd11 "_law_integer" = true) (k11 : PySem.W.keepIn K (.ref f11) = true)
    (a12 : PySem.W.nsIn K mainGlobals "_law_made" = some (some (.ref f12))) (l12 : K.lookup f12 = some ⟨oc12, od12, .func (PySem.W.fnOf "_law_made" "_law_made" (defArgs s_law_made) (defBody s_law_made) (defScope s_law_made) .none kV12 dc12 pm12 an12 cd12 ct12), sl12⟩) (c12 : PySem.W.codeIn K cd12 "_law_made" = true) (k12 : PySem.W.keepIn K (.ref f12) = true)
    (a13 : PySem.W.nsIn K mainGlobals "_law_parted" = some (some (.ref f13))) (l13 : K.lookup f13 = some ⟨oc13, od13, .func (PySem.W.fnOf "_law_parted" "_law_parted" (defArgs s_law_parted) (defBody s_law_parted) (defScope s_law_parted) .none kV13 dc13 pm13 an13 cd13 ct13), sl13⟩) (c13 : PySem.W.codeIn K cd13 "_law_parted" = true) (k13 : PySem.W.keepIn K (.ref f13) = true)
    (a14 : PySem.W.nsIn K mainGlobals "_law_is" = some (some (.ref f14))) (l14 : K.lookup f14 = some ⟨oc14, od14, .func (PySem.W.fnOf "_law_is" "_law_is" (defArgs s_law_is) (defBody s_law_is) (defScope s_law_is) .none kV14 dc14 pm14 an14 cd14 ct14), sl14⟩) (c14 : PySem.W.codeIn K cd14 "_law_is" = true) (k14 : PySem.W.keepIn K (.ref f14) = true)
    (a15 : PySem.W.nsIn K mainGlobals "law" = some (some (.ref f15))) (l15 : K.lookup f15 = some ⟨oc15, od15, .func (PySem.W.fnOf "law" "law" (defArgs s_law) (defBody s_law) (defScope s_law) .none kV15 dc15 pm15 an15 cd15 ct15), sl15⟩) (c15 : PySem.W.codeIn K cd15 "law" = true) (k15 : PySem.W.keepIn K (.ref f15) = true)
    (z_len : PySem.W.nsIn K mainGlobals "len" = some none)
    (z_abs : PySem.W.nsIn K mainGlobals "abs" = some none)
    (z_int : PySem.W.nsIn K mainGlobals "int" = some none)
    (z_bool : PySem.W.nsIn K mainGlobals "bool" = some none)
    (z_tuple : PySem.W.nsIn K mainGlobals "tuple" = some none)
    (z_isinstance : PySem.W.nsIn K mainGlobals "isinstance" = some none)
    (z_range : PySem.W.nsIn K mainGlobals "range" = some none)
    (z_any : PySem.W.nsIn K mainGlobals "any" = some none)
    (z_ValueError : PySem.W.nsIn K mainGlobals "ValueError" = some none)
    (gG : PySem.W.nsIn K mainGlobals "gcd" = some (some (.builtin "math.gcd")))
    (gN : PySem.W.nsIn K mainGlobals "NoFraction" = some (some (.ref CN)))
    (gB : PySem.W.nsIn K mainGlobals "BadText" = some (some (.ref CB)))
    (gW : PySem.W.nsIn K mainGlobals "NotWhole" = some (some (.ref CW)))
    (gR : PySem.W.nsIn K mainGlobals "RowError" = some (some (.ref CR)))
    (xN : PySem.W.excIn K CN [.type "ValueError", .type "Exception", .type "BaseException", .type "object"] "ValueError.__new__" = true)
    (kN : PySem.W.keepIn K (.ref CN) = true)
    (bN : PySem.W.subIn K (.ref CN) (.type "BaseException") = some true)
    (tN : PySem.W.typeIn K (.ref CN) = some (.type "type"))
    (s0 : PySem.W.subIn K (.ref CN) (.ref CN) = some true)
    (s1 : PySem.W.subIn K (.ref CN) (.ref CR) = some true)
    (s2 : PySem.W.subIn K (.ref CN) (.ref CB) = some false)
    (s3 : PySem.W.subIn K (.ref CN) (.ref CW) = some false)
    (s4 : PySem.W.subIn K (.ref CN) (.type "ValueError") = some true)
    (bR : PySem.W.subIn K (.ref CR) (.type "BaseException") = some true)
    (tR : PySem.W.typeIn K (.ref CR) = some (.type "type"))
    (hR : PySem.W.hasDictIn K CR = true)
    (tB : PySem.W.typeIn K (.ref CB) = some (.type "type"))
    (hB : PySem.W.hasDictIn K CB = true)
    (tW : PySem.W.typeIn K (.ref CW) = some (.type "type"))
    (hW : PySem.W.hasDictIn K CW = true)
    (nB : CN ≠ CB)
    (nW : CN ≠ CW)
    (e1 : PySem.W.findIn K (.ref CN) "__getattribute__" = some (some (.builtin "BaseException.__getattribute__")))
    (e2 : PySem.W.findIn K (.ref CN) "__getattr__" = some none)
    (e3 : PySem.W.hasDictIn K CN = true)
    (e4 : PySem.W.findIn K (.ref CN) "__class__" = some (some (.builtin "object.__class__")))
    (e5 : PySem.W.specialIn K (.builtin "object.__class__") "__get__" = some (some (.builtin "getset_descriptor.__get__")))
    (e6 : PySem.W.takesIn K (.builtin "object.__class__") = some true)
    (e7 : PySem.W.mroIn K CN (.type "object") = some true) :
    ∃ fd : FuncData, (∀ (s : Shared) (v : Value), BindsTo s fd ⟨[v], []⟩ [("script", v)]) ∧ ∀ base : Heap, K.In base → base.Ns mainGlobals mg → FnOk l.prog w K mg base CX0 4 fa fd ["script"] (spLaw K) := by
  have e := hfa.symm.trans (PySem.W.mg_of X G a15)
  cases e
  have D_fraction := dfn_mk (st := s_fraction) X G a0 l0 c0 k0
  have D_plus := dfn_mk (st := s_plus) X G a1 l1 c1 k1
  have D_minus := dfn_mk (st := s_minus) X G a2 l2 c2 k2
  have D_times := dfn_mk (st := s_times) X G a3 l3 c3 k3
  have D_over := dfn_mk (st := s_over) X G a4 l4 c4 k4
  have D_law_tape := dfn_mk (st := s_law_tape) X G a5 l5 c5 k5
  have D_law_take := dfn_mk (st := s_law_take) X G a6 l6 c6 k6
  have D_law_divisor := dfn_mk (st := s_law_divisor) X G a7 l7 c7 k7
  have D_law_fraction := dfn_mk (st := s_law_fraction) X G a8 l8 c8 k8
  have D_law_plus := dfn_mk (st := s_law_plus) X G a9 l9 c9 k9
  have D_law_times := dfn_mk (st := s_law_times) X G a10 l10 c10 k10
  have D_law_integer := dfn_mk (st := s_law_integer) X G a11 l11 c11 k11
  have D_law_made := dfn_mk (st := s_law_made) X G a12 l12 c12 k12
  have D_law_parted := dfn_mk (st := s_law_parted) X G a13 l13 c13 k13
  have D_law_is := dfn_mk (st := s_law_is) X G a14 l14 c14 k14
  have F0 := fun_mk (st := s_law) l15 c15 k15
  refine ⟨PySem.W.fnOf "law" "law" (defArgs s_law) (defBody s_law) (defScope s_law) .none kV15 dc15 pm15 an15 cd15 ct15, fun s v => .of_eq rfl, fun base _ _ => ?_⟩
  have T : Txt mg := ⟨PySem.W.mg_none_of X G z_len, PySem.W.mg_none_of X G z_abs, PySem.W.mg_none_of X G z_int, PySem.W.mg_none_of X G z_bool, PySem.W.mg_none_of X G z_tuple, PySem.W.mg_none_of X G z_isinstance, PySem.W.mg_none_of X G z_range, PySem.W.mg_none_of X G z_any, PySem.W.mg_none_of X G z_ValueError, PySem.W.mg_of X G gG⟩
  have XN : ExcTxt K mg "NoFraction" CN := ⟨PySem.W.mg_of X G gN, xN, kN, bN, tN, PySem.W.exm_ref bN e3 tN s0⟩
  have M : MadeTxt K mg CN CB CW CR := ⟨PySem.W.mg_of X G gR, PySem.W.mg_of X G gN, PySem.W.mg_of X G gB, PySem.W.mg_of X G gW, PySem.W.exm_ref bR hR tR s1, ⟨e1, e2, bN, e3, e4, e5, e6, e7⟩, kit_self, kit_cls_ref hB tB s2 nB, kit_cls_ref hW tW s3 nW, kit_type (by decide +kernel) s4⟩
  have C_fraction := ok_fraction (P := l.prog) (w := w) (base := base) D_fraction T XN
  have C_fr := C_fraction.weak
  have C_fr' := C_fr.imp S_fraction_of
  have C_div := ok_law_divisor (P := l.prog) (w := w) (base := base) D_law_divisor T
  have C_lfr := ok_law_fraction D_law_fraction C_div
  have C_take := ok_law_take (P := l.prog) (w := w) (base := base) D_law_take T
  have C_over := ok_over D_over C_fr
  exact ok_law F0 T (C_law_tape := ok_law_tape D_law_tape T) (C_law_integer := ok_law_integer D_law_integer T C_take) (C_law_made := ok_law_made D_law_made T M C_fraction) (C_law_fraction := C_lfr) (C_law_is := ok_law_is D_law_is T) (C_plus := ok_plus D_plus C_fr')
    (C_law_plus := ok_law_plus D_law_plus C_lfr) (C_times := ok_times D_times C_fr') (C_law_times := ok_law_times D_law_times C_lfr) (C_minus := ok_minus D_minus C_fr') (C_law_parted := ok_law_parted D_law_parted XN C_over)
end DL
open PySem PySem.W PyProof.Rows
set_option maxRecDepth 100000 in
set_option maxHeartbeats 0 in
theorem PySem.Challenge.cw_rowsworn_k01_fractions_holds : PySem.Challenge.rw_rowsworn_k01_fractions.Holds := by
  w_on; o_law; k_head; (case hw => w_witness2)
  k_fill
  refine DL.walk_law (l := PySem.Challenge.rw_rowsworn_k01_fractions) (k := 4) rfl rfl ⟨rfl, by decide, by decide⟩ (fun w h Y => PySem.W.kIn_of Y) ?F
  case F =>
    intro w mg fa h KX G hmg
    refine' DL.all_mk KX G hmg ?a0 ?l0 ?c0 ?k0 ?a1 ?l1 ?c1 ?k1 ?a2 ?l2 ?c2 ?k2 ?a3 ?l3 ?c3 ?k3 ?a4 ?l4 ?c4 ?k4 ?a5 ?l5 ?c5 ?k5 ?a6 ?l6 ?c6 ?k6 ?a7 ?l7 ?c7 ?k7 ?a8 ?l8 ?c8 ?k8 ?a9 ?l9 ?c9 ?k9 ?a10 ?l10 ?c10 ?k10 ?a11 ?l11 ?c11 ?k11 ?a12 ?l12 ?c12 ?k12 ?a13 ?l13 ?c13 ?k13 ?a14 ?l14 ?c14 ?k14 ?a15 ?l15 ?c15 ?k15 ?z_len ?z_abs ?z_int ?z_bool ?z_tuple ?z_isinstance ?z_range ?z_any ?z_ValueError ?gG ?gN ?gB ?gW ?gR ?xN ?kN ?bN ?tN ?s0 ?s1 ?s2 ?s3 ?s4 ?bR ?tR ?hR ?tB ?hB ?tW ?hW ?nB ?nW ?e1 ?e2 ?e3 ?e4 ?e5 ?e6 ?e7
    (case a0 => k_is)
    (case l0 => k_is)
    (case c0 => k_is)
    (case k0 => k_is)
    (case a1 => k_is)
    (case l1 => k_is)
    (case c1 => k_is)
    (case k1 => k_is)
    (case a2 => k_is)
    (case l2 => k_is)
    (case c2 => k_is)
    (case k2 => k_is)
    (case a3 => k_is)
    (case l3 => k_is)
    (case c3 => k_is)
    (case k3 => k_is)
    (case a4 => k_is)
    (case l4 => k_is)
    (case c4 => k_is)
    (case k4 => k_is)
    (case a5 => k_is)
    (case l5 => k_is)
    (case c5 => k_is)
    (case k5 => k_is)
    (case a6 => k_is)
    (case l6 => k_is)
    (case c6 => k_is)
    (case k6 => k_is)
    (case a7 => k_is)
    (case l7 => k_is)
    (case c7 => k_is)
    (case k7 => k_is)
    (case a8 => k_is)
    (case l8 => k_is)
    (case c8 => k_is)
    (case k8 => k_is)
    (case a9 => k_is)
    (case l9 => k_is)
    (case c9 => k_is)
    (case k9 => k_is)
    (case a10 => k_is)
    (case l10 => k_is)
    (case c10 => k_is)
    (case k10 => k_is)
    (case a11 => k_is)
    (case l11 => k_is)
    (case c11 => k_is)
    (case k11 => k_is)
    (case a12 => k_is)
    (case l12 => k_is)
    (case c12 => k_is)
    (case k12 => k_is)
    (case a13 => k_is)
    (case l13 => k_is)
    (case c13 => k_is)
    (case k13 => k_is)
    (case a14 => k_is)
    (case l14 => k_is)
    (case c14 => k_is)
    (case k14 => k_is)
    (case a15 => k_is)
    (case l15 => k_is)
    (case c15 => k_is)
    (case k15 => k_is)
    (case z_len => k_is)
    (case z_abs => k_is)
    (case z_int => k_is)
    (case z_bool => k_is)
    (case z_tuple => k_is)
    (case z_isinstance => k_is)
    (case z_range => k_is)
    (case z_any => k_is)
    (case z_ValueError => k_is)
    (case gG => k_is)
    (case gN => k_is)
    (case gB => k_is)
    (case gW => k_is)
    (case gR => k_is)
    (case xN => k_exc)
    (case kN => k_is)
    (case bN => k_is)
    (case tN => k_is)
    (case s0 => k_is)
    (case s1 => k_is)
    (case s2 => k_is)
    (case s3 => k_is)
    (case s4 => k_is)
    (case bR => k_is)
    (case tR => k_is)
    (case hR => k_is)
    (case tB => k_is)
    (case hB => k_is)
    (case tW => k_is)
    (case hW => k_is)
    (case nB => decide)
    (case nW => decide)
    (case e1 => k_is)
    (case e2 => k_is)
    (case e3 => k_is)
    (case e4 => k_is)
    (case e5 => k_is)
    (case e6 => k_is)
    (case e7 => k_is)
#print axioms PySem.Challenge.cw_rowsworn_k01_fractions_holds


