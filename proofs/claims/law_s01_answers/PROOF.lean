import PyProof.Rows.All
import Wide.All
import OpenK.AllK
import Wide.FinOn
import PyProof.EqAt
import PyProof.EqKinds
import PyProof.TupleCall
import Open.SpecLaws
import KE.OsHead
import KE.OsGo
import HandS.ForSpec
import HandS.ForMost
import HandS.Strs
import HandS.SetFor
import HandS.Flow
import HandS.Flt
import HandS.Sort
import PyProof.SumWalkG
import PySem.Challenge.RW_streetroundsdesk_s01_answers
set_option Elab.async false
set_option linter.all false
namespace Mi
open Vbcsag
/-! ### sets of places as numbers -/
def oddEnds (s : Street) : Nat := 2 ^ s.a ^^^ 2 ^ s.b
def endsOf (s : Street) : Nat := 2 ^ s.a ||| 2 ^ s.b
def WS (n : Nat) (l : List Street) : Prop := ∀ s ∈ l, s.a < n ∧ s.b < n
theorem WS.mono {n m : Nat} {l : List Street} (h : WS n l) (hm : n ≤ m) : WS m l := fun s hs => ⟨Nat.lt_of_lt_of_le (h s hs).1 hm, Nat.lt_of_lt_of_le (h s hs).2 hm⟩
theorem WS.tail {n : Nat} {s : Street} {l : List Street} (h : WS n (s :: l)) : WS n l := fun t ht => h t (List.mem_cons_of_mem _ ht)
theorem WS.head {n : Nat} {s : Street} {l : List Street} (h : WS n (s :: l)) : s.a < n ∧ s.b < n := h s (List.mem_cons_self ..)
theorem WS.sub {n : Nat} {l k : List Street} (h : WS n l) (hk : ∀ s ∈ k, s ∈ l) : WS n k := fun s hs => h s (hk s hs)
theorem flip_all : ∀ u, u < 128 → ∀ p, p < 7 → flip u p = u ^^^ 2 ^ p := by decide +kernel
theorem pow_lt {p : Nat} (h : p < 7) : 2 ^ p < 128 := Nat.pow_lt_pow_right (a := 2) (by decide) h
theorem pow_ltn {p n : Nat} (h : p < n) : 2 ^ p < 2 ^ n := Nat.pow_lt_pow_right (a := 2) (by decide) h
theorem oddEnds_lt {s : Street} {n : Nat} (ha : s.a < n) (hb : s.b < n) : oddEnds s < 2 ^ n := Nat.xor_lt_two_pow (pow_ltn ha) (pow_ltn hb)
theorem endsOf_lt {s : Street} {n : Nat} (ha : s.a < n) (hb : s.b < n) : endsOf s < 2 ^ n := Nat.or_lt_two_pow (pow_ltn ha) (pow_ltn hb)
theorem ends_eq {s : Street} {u : Nat} (hu : u < 128) (ha : s.a < 7) (hb : s.b < 7) : ends s u = u ^^^ oddEnds s := by
  unfold ends oddEnds
  split
  · rename_i e
    rw [e, Nat.xor_self, Nat.xor_zero]
  · rw [flip_all u hu _ ha, flip_all _ (Nat.xor_lt_two_pow (n := 7) hu (pow_lt ha)) _ hb, Nat.xor_assoc]
/-! ### masks of lists, passes -/
def mask : List Nat → Nat
  | [] => 0
  | p :: r => 2 ^ p ||| mask r
theorem mask_bit : ∀ (q : List Nat) (i : Nat), (mask q).testBit i = q.contains i
  | [], i => by simp [mask]
  | p :: r, i => by
    rw [mask, Nat.testBit_or, mask_bit r i, Nat.testBit_two_pow, List.contains_cons]
    congr 1
    rw [Bool.eq_iff_iff]
    simp only [decide_eq_true_eq, beq_iff_eq]
    exact ⟨fun h => h.symm, fun h => h.symm⟩
theorem mask_append (q r : List Nat) : mask (q ++ r) = mask q ||| mask r := by
  apply Nat.eq_of_testBit_eq
  intro i
  rw [Nat.testBit_or, mask_bit, mask_bit, mask_bit, List.contains_eq_mem, List.contains_eq_mem, List.contains_eq_mem]
  simp [List.mem_append, Bool.decide_or]
theorem and_ends (f a b : Nat) : (f &&& (2 ^ a ||| 2 ^ b) = 0) ↔ (f.testBit a = false ∧ f.testBit b = false) := by
  constructor
  · intro h
    have h1 : (f &&& (2 ^ a ||| 2 ^ b)).testBit a = false := by rw [h]; exact Nat.zero_testBit a
    have h2 : (f &&& (2 ^ a ||| 2 ^ b)).testBit b = false := by rw [h]; exact Nat.zero_testBit b
    rw [Nat.testBit_and, Nat.testBit_or, Nat.testBit_two_pow_self] at h1
    rw [Nat.testBit_and, Nat.testBit_or, Nat.testBit_two_pow_self] at h2
    simpa using And.intro h1 h2
  · intro ⟨h1, h2⟩
    apply Nat.eq_of_testBit_eq
    intro i
    rw [Nat.testBit_and, Nat.testBit_or, Nat.testBit_two_pow, Nat.testBit_two_pow, Nat.zero_testBit]
    by_cases e1 : a = i
    · rw [← e1, h1]; rfl
    · by_cases e2 : b = i
      · rw [← e2, h2]; rfl
      · simp [e1, e2]
def mstep (f : Nat) (s : Street) : Nat := if f &&& endsOf s ≠ 0 then f ||| endsOf s else f
def lstep (q : List Nat) (s : Street) : List Nat := if q.contains s.a = true ∧ q.contains s.b = false then q ++ [s.b] else if q.contains s.b = true ∧ q.contains s.a = false then q ++ [s.a] else q
def mpass (l : List Street) (f : Nat) : Nat := l.foldl mstep f
def lpass (l : List Street) (q : List Nat) : List Nat := l.foldl lstep q
theorem reached_succ (l : List Street) (k : Nat) (q : List Nat) : reached l (k + 1) q = reached l k (lpass l q) := rfl
theorem or_self_of {f a : Nat} (h : f.testBit a = true) : f ||| 2 ^ a = f := by
  apply Nat.eq_of_testBit_eq
  intro i
  rw [Nat.testBit_or, Nat.testBit_two_pow]
  by_cases e : a = i
  · rw [← e, h]; rfl
  · simp [e]
theorem step_mask (q : List Nat) (s : Street) : mask (lstep q s) = mstep (mask q) s := by
  have key := and_ends (mask q) s.a s.b
  rw [mask_bit, mask_bit] at key
  unfold lstep mstep endsOf
  have one : ∀ p, mask [p] = 2 ^ p := fun p => by show 2 ^ p ||| 0 = 2 ^ p; exact Nat.or_zero _
  split
  · rename_i h
    rw [if_pos (fun e => by rw [(key.mp e).1] at h; cases h.1), mask_append, one, ← Nat.or_assoc, or_self_of (f := mask q) (a := s.a) (by rw [mask_bit]; exact h.1)]
  · rename_i h1
    split
    · rename_i h
      rw [if_pos (fun e => by rw [(key.mp e).2] at h; cases h.1), mask_append, one, Nat.or_comm (2 ^ s.a), ← Nat.or_assoc, or_self_of (f := mask q) (a := s.b) (by rw [mask_bit]; exact h.1)]
    · rename_i h2
      split
      · rename_i h3
        have ha : q.contains s.a = true := by
          cases e : q.contains s.a with
          | true => rfl
          | false =>
            cases e2 : q.contains s.b with
            | true => exact absurd ⟨e2, e⟩ h2
            | false => exact absurd (key.mpr ⟨e, e2⟩) h3
        have hb : q.contains s.b = true := by
          cases e2 : q.contains s.b with
          | true => rfl
          | false => exact absurd ⟨ha, e2⟩ h1
        rw [← Nat.or_assoc, or_self_of (f := mask q) (a := s.a) (by rw [mask_bit]; exact ha), or_self_of (f := mask q) (a := s.b) (by rw [mask_bit]; exact hb)]
      · rfl
theorem pass_mask : ∀ (l : List Street) (q : List Nat), mask (lpass l q) = mpass l (mask q)
  | [], _ => rfl
  | s :: l, q => by
    show mask (lpass l (lstep q s)) = mpass l (mstep (mask q) s)
    rw [pass_mask l, step_mask]
def iter (l : List Street) : Nat → Nat → Nat
  | 0, f => f
  | k + 1, f => iter l k (mpass l f)
theorem reached_mask (l : List Street) : ∀ (k : Nat) (q : List Nat), mask (reached l k q) = iter l k (mask q)
  | 0, _ => rfl
  | k + 1, q => by rw [reached_succ, reached_mask l k, pass_mask]; rfl
/-! ### lists without repetition -/
theorem nodup_len : ∀ (a b : List Nat), a.Nodup → (∀ x ∈ a, x ∈ b) → a.length ≤ b.length
  | [], _, _, _ => Nat.zero_le _
  | x :: a, b, hn, hs => by
    have hx : x ∈ b := hs x (List.mem_cons_self ..)
    have h2 := List.nodup_cons.mp hn
    have ih := nodup_len a (b.erase x) h2.2 (fun y hy => by
      have ne : y ≠ x := fun e => h2.1 (e ▸ hy)
      exact (List.mem_erase_of_ne ne).mpr (hs y (List.mem_cons_of_mem _ hy)))
    rw [List.length_erase_of_mem hx] at ih
    have : 0 < b.length := List.length_pos_of_mem hx
    show a.length + 1 ≤ b.length
    omega
theorem nodup_le {q : List Nat} {n : Nat} (hn : q.Nodup) (hl : ∀ x ∈ q, x < n) : q.length ≤ n := by
  have := nodup_len q (List.range n) hn (fun x hx => List.mem_range.mpr (hl x hx))
  rwa [List.length_range] at this
structure Good (n : Nat) (q : List Nat) : Prop where
  nd : q.Nodup
  lt : ∀ x ∈ q, x < n
theorem lstep_cases (q : List Nat) (s : Street) : lstep q s = q ∨ ∃ p, (p = s.a ∨ p = s.b) ∧ p ∉ q ∧ lstep q s = q ++ [p] := by
  unfold lstep
  split
  · rename_i h
    refine .inr ⟨s.b, .inr rfl, ?_, rfl⟩
    intro hm
    have := h.2
    rw [List.contains_eq_mem] at this
    simp [hm] at this
  · split
    · rename_i h
      refine .inr ⟨s.a, .inl rfl, ?_, rfl⟩
      intro hm
      have := h.2
      rw [List.contains_eq_mem] at this
      simp [hm] at this
    · exact .inl rfl
theorem good_step {n : Nat} {q : List Nat} {s : Street} (g : Good n q) (ha : s.a < n) (hb : s.b < n) : Good n (lstep q s) := by
  rcases lstep_cases q s with e | ⟨p, hp, hm, e⟩
  · rw [e]; exact g
  · rw [e]
    refine ⟨List.nodup_append.mpr ⟨g.nd, by simp, ?_⟩, ?_⟩
    · intro x hx y hy exy
      rw [List.mem_singleton] at hy
      exact hm (hy ▸ exy ▸ hx)
    · intro x hx
      rcases List.mem_append.mp hx with h | h
      · exact g.lt x h
      · rw [List.mem_singleton] at h
        rcases hp with e1 | e1 <;> omega
theorem good_pass {n : Nat} : ∀ {l : List Street} {q : List Nat}, WS n l → Good n q → Good n (lpass l q)
  | [], _, _, g => g
  | s :: l, q, h, g => good_pass (l := l) h.tail (good_step g h.head.1 h.head.2)
theorem good_reached {n : Nat} {l : List Street} (h : WS n l) : ∀ (k : Nat) {q : List Nat}, Good n q → Good n (reached l k q)
  | 0, _, g => g
  | k + 1, _, g => good_reached h k (good_pass h g)
theorem lpass_len : ∀ (l : List Street) (q : List Nat), lpass l q = q ∨ q.length < (lpass l q).length := by
  have mono : ∀ (l : List Street) (q : List Nat), q.length ≤ (lpass l q).length := by
    intro l
    induction l with
    | nil => intro q; exact Nat.le_refl _
    | cons s l ih =>
      intro q
      have h1 := ih (lstep q s)
      rcases lstep_cases q s with e | ⟨p, _, _, e⟩
      · rw [e] at h1
        show q.length ≤ (lpass l (lstep q s)).length
        rw [e]; exact h1
      · have : (lstep q s).length = q.length + 1 := by rw [e, List.length_append]; rfl
        show q.length ≤ (lpass l (lstep q s)).length
        omega
  intro l
  induction l with
  | nil => intro q; exact .inl rfl
  | cons s l ih =>
    intro q
    show lpass l (lstep q s) = q ∨ q.length < (lpass l (lstep q s)).length
    rcases lstep_cases q s with e | ⟨p, _, _, e⟩
    · rw [e]; exact ih q
    · have h1 : (lstep q s).length = q.length + 1 := by rw [e, List.length_append]; rfl
      have h2 := mono l (lstep q s)
      exact .inr (by omega)
theorem reached_fixed {l : List Street} {q : List Nat} (h : lpass l q = q) : ∀ k, reached l k q = q
  | 0 => rfl
  | k + 1 => by rw [reached_succ, h]; exact reached_fixed h k
theorem reached_or (l : List Street) : ∀ (k : Nat) (q : List Nat), lpass l (reached l k q) = reached l k q ∨ q.length + k < (lpass l (reached l k q)).length
  | 0, q => by
    rcases lpass_len l q with h | h
    · exact .inl h
    · exact .inr (by simpa [reached] using h)
  | k + 1, q => by
    rw [reached_succ]
    rcases lpass_len l q with h | h
    · rw [h, reached_fixed h]
      exact .inl h
    · rcases reached_or l k (lpass l q) with h2 | h2
      · exact .inl h2
      · exact .inr (by omega)
theorem reached_closed {n : Nat} {l : List Street} (h : WS n l) {p : Nat} (hp : p < n) : lpass l (reached l n [p]) = reached l n [p] := by
  rcases reached_or l n [p] with h1 | h1
  · exact h1
  · have g : Good n [p] := ⟨by simp, fun x hx => by rw [List.mem_singleton] at hx; omega⟩
    have := (good_pass h (good_reached h n g))
    have := nodup_le this.nd this.lt
    simp at h1
    omega
/-! ### what is come to: the program's closure -/
def closure (l : List Street) (p : Nat) : Nat := iter l 7 (2 ^ p)
theorem iter_add (l : List Street) : ∀ (k j f : Nat), iter l (k + j) f = iter l j (iter l k f)
  | 0, j, f => by rw [Nat.zero_add]; rfl
  | k + 1, j, f => by
    rw [Nat.succ_add]
    show iter l (k + j) (mpass l f) = _
    rw [iter_add l k j]; rfl
theorem iter_fixed {l : List Street} {f : Nat} (h : mpass l f = f) : ∀ k, iter l k f = f
  | 0 => rfl
  | k + 1 => by show iter l k (mpass l f) = f; rw [h]; exact iter_fixed h k
theorem iter_succ' (l : List Street) (k f : Nat) : iter l (k + 1) f = mpass l (iter l k f) := by rw [iter_add l k 1]; rfl
theorem mask_one (p : Nat) : mask [p] = 2 ^ p := by show 2 ^ p ||| 0 = 2 ^ p; exact Nat.or_zero _
theorem iter_n {n : Nat} {l : List Street} (h : WS n l) {p : Nat} (hp : p < n) : mpass l (iter l n (2 ^ p)) = iter l n (2 ^ p) := by
  have e := reached_closed h hp
  have e2 := congrArg mask e
  rw [pass_mask, reached_mask, mask_one] at e2
  exact e2
theorem iter_eq_closure {n : Nat} {l : List Street} (hn : n ≤ 7) (h : WS n l) {p : Nat} (hp : p < n) : iter l n (2 ^ p) = closure l p := by
  unfold closure
  have e : 7 = n + (7 - n) := by omega
  rw [e, iter_add, iter_fixed (iter_n h hp)]
theorem closure_mask {n : Nat} {l : List Street} (hn : n ≤ 7) (h : WS n l) {p : Nat} (hp : p < n) : mask (reached l n [p]) = closure l p := by
  rw [reached_mask, mask_one, iter_eq_closure hn h hp]
theorem closure_fixed {l : List Street} (h : WS 7 l) {p : Nat} (hp : p < 7) : mpass l (closure l p) = closure l p := iter_n h hp
theorem closure_of_fixed {l : List Street} (h : WS 7 l) {p : Nat} (hp : p < 7) {k : Nat} (e : mpass l (iter l k (2 ^ p)) = iter l k (2 ^ p)) : iter l k (2 ^ p) = closure l p := by
  have a := iter_fixed e 7
  have b := iter_fixed (closure_fixed h hp) k
  unfold closure at b ⊢
  rw [← iter_add] at a b
  rw [← a, ← b, Nat.add_comm]
theorem mpass_lt {n : Nat} : ∀ {l : List Street} {f : Nat}, WS n l → f < 2 ^ n → mpass l f < 2 ^ n
  | [], _, _, h => h
  | s :: l, f, h, hf => by
    refine mpass_lt (l := l) h.tail ?_
    unfold mstep
    split
    · exact Nat.or_lt_two_pow hf (endsOf_lt h.head.1 h.head.2)
    · exact hf
theorem mpass_ge : ∀ (l : List Street) (f : Nat), f ≤ mpass l f
  | [], _ => Nat.le_refl _
  | s :: l, f => by
    refine Nat.le_trans ?_ (mpass_ge l (mstep f s))
    unfold mstep
    split
    · exact Nat.left_le_or
    · exact Nat.le_refl _
theorem iter_lt {n : Nat} {l : List Street} (h : WS n l) : ∀ (k : Nat) {f : Nat}, f < 2 ^ n → iter l k f < 2 ^ n
  | 0, _, hf => hf
  | k + 1, _, hf => iter_lt h k (mpass_lt h hf)
theorem closure_bit {n : Nat} {l : List Street} (hn : n ≤ 7) (h : WS n l) {p : Nat} (hp : p < n) (i : Nat) : (closure l p).testBit i = (reached l n [p]).contains i := by
  rw [← closure_mask hn h hp, mask_bit]
/-! ### connected -/
theorem connected_iff {n : Nat} {l : List Street} (hn1 : 1 ≤ n) (hn : n ≤ 7) (h : WS n l) : connected n l = true ↔ closure l 0 = 2 ^ n - 1 := by
  have g : Good n (reached l n [0]) := good_reached h n ⟨by simp, fun x hx => by rw [List.mem_singleton] at hx; omega⟩
  unfold connected
  rw [beq_iff_eq, ← closure_mask hn h (by omega)]
  constructor
  · intro e
    apply Nat.eq_of_testBit_eq
    intro i
    rw [Nat.testBit_two_pow_sub_one, mask_bit, List.contains_eq_mem]
    by_cases hi : i < n
    · have : i ∈ reached l n [0] := by
        apply Decidable.byContradiction
        intro hc
        have := nodup_le (q := i :: reached l n [0]) (n := n) (List.nodup_cons.mpr ⟨hc, g.nd⟩) (fun x hx => by
          rcases List.mem_cons.mp hx with e1 | e1
          · omega
          · exact g.lt x e1)
        rw [List.length_cons] at this
        omega
      simp [hi, this]
    · have : i ∉ reached l n [0] := fun hc => hi (g.lt i hc)
      simp [hi, this]
  · intro e
    have h1 := nodup_le g.nd g.lt
    have h2 := nodup_len (List.range n) (reached l n [0]) List.nodup_range (fun x hx => by
      have hb : (mask (reached l n [0])).testBit x = true := by
        rw [e, Nat.testBit_two_pow_sub_one]
        exact decide_eq_true (List.mem_range.mp hx)
      rw [mask_bit, List.contains_eq_mem] at hb
      exact of_decide_eq_true hb)
    rw [List.length_range] at h2
    omega
end Mi

set_option Elab.async false
set_option linter.all false
namespace Mi
open Vbcsag
/-! ### the least for sets -/
theorem rowAt_map {N : Nat} {f : Nat → Option Nat} {u : Nat} (h : u < N) : rowAt ((List.range N).map f) u = f u := by
  unfold rowAt
  rw [List.getD_eq_getElem?_getD, List.getElem?_map, List.getElem?_range h]
  rfl
theorem least_nil {n u : Nat} (h : u < 2 ^ n) : least n [] u = if u = 0 then some 0 else none := rowAt_map h
theorem least_cons {n u : Nat} (s : Street) (l : List Street) (h : u < 2 ^ n) : least n (s :: l) u = lesser (least n l u) ((least n l (ends s u)).map fun x => x + s.long) := rowAt_map h
theorem ends_lt {n u : Nat} {s : Street} (hn : n ≤ 7) (h : u < 2 ^ n) (ha : s.a < n) (hb : s.b < n) : ends s u < 2 ^ n := by
  rw [ends_eq (Nat.lt_of_lt_of_le h (Nat.pow_le_pow_right (by decide) hn)) (by omega) (by omega)]
  exact Nat.xor_lt_two_pow h (oddEnds_lt ha hb)
theorem lt128 {n u : Nat} (hn : n ≤ 7) (h : u < 2 ^ n) : u < 2 ^ 7 := Nat.lt_of_lt_of_le h (Nat.pow_le_pow_right (by decide) hn)
theorem least_seven {n : Nat} (hn : n ≤ 7) : ∀ {l : List Street} {u : Nat}, WS n l → u < 2 ^ n → least n l u = least 7 l u
  | [], u, _, hu => by rw [least_nil hu, least_nil (lt128 hn hu)]
  | s :: l, u, h, hu => by
    rw [least_cons s l hu, least_cons s l (lt128 hn hu), least_seven hn h.tail hu, least_seven hn h.tail (ends_lt hn hu h.head.1 h.head.2)]
theorem pick_cons (n : Nat) (s : Street) (l : List Street) (u : Nat) : pick (s :: l) (rowsOf n (s :: l)) u = if least n l u = least n (s :: l) u then false :: pick l (rowsOf n l) u else true :: pick l (rowsOf n l) (ends s u) := rfl
theorem pick_seven {n : Nat} (hn : n ≤ 7) : ∀ {l : List Street} {u : Nat}, WS n l → u < 2 ^ n → pick l (rowsOf n l) u = pick l (rowsOf 7 l) u
  | [], _, _, _ => rfl
  | s :: l, u, h, hu => by
    rw [pick_cons, pick_cons, least_seven hn h.tail hu, least_seven hn h hu, pick_seven hn h.tail hu, pick_seven hn h.tail (ends_lt hn hu h.head.1 h.head.2)]
theorem pick_len (n : Nat) : ∀ (l : List Street) (u : Nat), (pick l (rowsOf n l) u).length = l.length
  | [], _ => rfl
  | s :: l, u => by
    rw [pick_cons]
    split
    · rw [List.length_cons, pick_len n l, List.length_cons]
    · rw [List.length_cons, pick_len n l, List.length_cons]
/-! ### which sets can be suited -/
def Can (l : List Street) (u : Nat) : Prop := (least 7 l u).isSome = true
theorem lesser_isSome (a b : Option Nat) : (lesser a b).isSome = (a.isSome || b.isSome) := by
  cases a <;> cases b <;> rfl
theorem can_cons {s : Street} {l : List Street} {u : Nat} (h : WS 7 (s :: l)) (hu : u < 2 ^ 7) : Can (s :: l) u ↔ Can l u ∨ Can l (u ^^^ oddEnds s) := by
  unfold Can
  rw [least_cons s l hu, lesser_isSome, Option.isSome_map, Bool.or_eq_true, ends_eq hu h.head.1 h.head.2]
theorem can_zero : ∀ {l : List Street}, WS 7 l → Can l 0
  | [], _ => by unfold Can; rw [least_nil (by decide)]; rfl
  | s :: l, h => (can_cons h (by decide)).mpr (.inl (can_zero h.tail))
theorem xor_can {a b : Nat} : a ^^^ b ^^^ b = a := by rw [Nat.xor_assoc, Nat.xor_self, Nat.xor_zero]
theorem xor_right_comm (a b c : Nat) : a ^^^ b ^^^ c = a ^^^ c ^^^ b := by rw [Nat.xor_assoc, Nat.xor_comm b c, ← Nat.xor_assoc]
theorem can_xor : ∀ {l : List Street} {u : Nat} {t : Street}, WS 7 l → u < 2 ^ 7 → t ∈ l → Can l u → Can l (u ^^^ oddEnds t)
  | s :: l, u, t, h, hu, ht, hc => by
    have hs := oddEnds_lt h.head.1 h.head.2
    have hst := oddEnds_lt (h t ht).1 (h t ht).2
    have hx : u ^^^ oddEnds t < 2 ^ 7 := Nat.xor_lt_two_pow hu hst
    rw [can_cons h hu] at hc
    rw [can_cons h hx]
    rcases List.mem_cons.mp ht with e | ht'
    · subst e
      rw [xor_can]
      exact hc.symm
    · rcases hc with hc | hc
      · exact .inl (can_xor h.tail hu ht' hc)
      · refine .inr ?_
        rw [xor_right_comm]
        exact can_xor h.tail (Nat.xor_lt_two_pow hu hs) ht' hc
/-! ### coming from place to place -/
inductive Conn (l : List Street) (p : Nat) : Nat → Prop
  | refl : Conn l p p
  | fwd {s : Street} : Conn l p s.a → s ∈ l → Conn l p s.b
  | bwd {s : Street} : Conn l p s.b → s ∈ l → Conn l p s.a
theorem Conn.trans {l : List Street} {p q r : Nat} (h : Conn l p q) (k : Conn l q r) : Conn l p r := by
  induction k with
  | refl => exact h
  | fwd _ hs ih => exact .fwd ih hs
  | bwd _ hs ih => exact .bwd ih hs
theorem Conn.symm {l : List Street} {p q : Nat} (h : Conn l p q) : Conn l q p := by
  induction h with
  | refl => exact .refl
  | fwd _ hs ih => exact Conn.trans (.bwd .refl hs) ih
  | bwd _ hs ih => exact Conn.trans (.fwd .refl hs) ih
theorem Conn.mono {l k : List Street} {p q : Nat} (h : Conn l p q) (hk : ∀ s ∈ l, s ∈ k) : Conn k p q := by
  induction h with
  | refl => exact .refl
  | fwd _ hs ih => exact .fwd ih (hk _ hs)
  | bwd _ hs ih => exact .bwd ih (hk _ hs)
theorem Conn.lt {l : List Street} {n p q : Nat} (h : Conn l p q) (w : WS n l) (hp : p < n) : q < n := by
  cases h with
  | refl => exact hp
  | fwd _ hs => exact (w _ hs).2
  | bwd _ hs => exact (w _ hs).1
theorem mstep_bit {f i : Nat} {s : Street} (h : (mstep f s).testBit i = true) : f.testBit i = true ∨ (f.testBit s.a = true ∧ i = s.b) ∨ (f.testBit s.b = true ∧ i = s.a) := by
  unfold mstep at h
  split at h
  · rename_i hne
    unfold endsOf at h hne
    rw [Nat.testBit_or, Nat.testBit_or, Nat.testBit_two_pow, Nat.testBit_two_pow, Bool.or_eq_true, Bool.or_eq_true, decide_eq_true_eq, decide_eq_true_eq] at h
    rcases h with h | h | h
    · exact .inl h
    · cases ea : f.testBit s.a with
      | true => exact .inl (h ▸ ea)
      | false =>
        cases eb : f.testBit s.b with
        | true => exact .inr (.inr ⟨rfl, h.symm⟩)
        | false => exact absurd ((and_ends f s.a s.b).mpr ⟨ea, eb⟩) hne
    · cases eb : f.testBit s.b with
      | true => exact .inl (h ▸ eb)
      | false =>
        cases ea : f.testBit s.a with
        | true => exact .inr (.inl ⟨rfl, h.symm⟩)
        | false => exact absurd ((and_ends f s.a s.b).mpr ⟨ea, eb⟩) hne
  · exact .inl h
theorem mpass_conn {l : List Street} {p : Nat} : ∀ (k : List Street), (∀ s ∈ k, s ∈ l) → ∀ f, (∀ i, f.testBit i = true → Conn l p i) → ∀ i, (mpass k f).testBit i = true → Conn l p i
  | [], _, _, hf, i, h => hf i h
  | s :: k, hk, f, hf, i, h => by
    refine mpass_conn k (fun t ht => hk t (List.mem_cons_of_mem _ ht)) (mstep f s) (fun j hj => ?_) i h
    have hs := hk s (List.mem_cons_self ..)
    rcases mstep_bit hj with h1 | ⟨h1, e⟩ | ⟨h1, e⟩
    · exact hf j h1
    · exact e ▸ Conn.fwd (hf _ h1) hs
    · exact e ▸ Conn.bwd (hf _ h1) hs
theorem iter_conn {l : List Street} {p : Nat} : ∀ (k f : Nat), (∀ i, f.testBit i = true → Conn l p i) → ∀ i, (iter l k f).testBit i = true → Conn l p i
  | 0, _, hf, i, h => hf i h
  | k + 1, f, hf, i, h => iter_conn k (mpass l f) (mpass_conn l (fun _ h => h) f hf) i h
theorem mstep_ge (f : Nat) (s : Street) : f ≤ mstep f s := by
  unfold mstep
  split
  · exact Nat.left_le_or
  · exact Nat.le_refl _
theorem mpass_fix : ∀ {l : List Street} {f : Nat}, mpass l f = f → ∀ s ∈ l, mstep f s = f
  | t :: l, f, h, s, hs => by
    have h1 : mpass l (mstep f t) = f := h
    have h2 := mpass_ge l (mstep f t)
    have h3 := mstep_ge f t
    have e : mstep f t = f := by omega
    rcases List.mem_cons.mp hs with e1 | e1
    · rw [e1]; exact e
    · rw [e] at h1
      exact mpass_fix h1 s e1
theorem fix_bits {f : Nat} {s : Street} (h : mstep f s = f) : f.testBit s.a = f.testBit s.b := by
  unfold mstep at h
  split at h
  · have ha : f.testBit s.a = true := by
      rw [← h, Nat.testBit_or, endsOf, Nat.testBit_or, Nat.testBit_two_pow_self]
      simp
    have hb : f.testBit s.b = true := by
      rw [← h, Nat.testBit_or, endsOf, Nat.testBit_or, Nat.testBit_two_pow_self]
      simp
    rw [ha, hb]
  · rename_i hne
    have := (and_ends f s.a s.b).mp (Decidable.not_not.mp hne)
    rw [this.1, this.2]
theorem iter_bit_keep {l : List Street} {i : Nat} : ∀ (k f : Nat), f.testBit i = true → (iter l k f).testBit i = true := by
  have hp : ∀ (k : List Street) (f : Nat), f.testBit i = true → (mpass k f).testBit i = true := by
    intro k
    induction k with
    | nil => intro f h; exact h
    | cons s k ih =>
      intro f h
      refine ih (mstep f s) ?_
      unfold mstep
      split
      · rw [Nat.testBit_or, h]; rfl
      · exact h
  intro k
  induction k with
  | zero => intro f h; exact h
  | succ k ih => intro f h; exact ih _ (hp l f h)
theorem closure_iff {l : List Street} (h : WS 7 l) {p : Nat} (hp : p < 7) (i : Nat) : (closure l p).testBit i = true ↔ Conn l p i := by
  constructor
  · exact iter_conn 7 (2 ^ p) (fun i hi => by
      rw [Nat.testBit_two_pow, decide_eq_true_eq] at hi
      exact hi ▸ .refl) i
  · intro hc
    have fx := mpass_fix (closure_fixed h hp)
    induction hc with
    | refl => exact iter_bit_keep 7 _ (Nat.testBit_two_pow_self)
    | fwd _ hs ih => rw [← fix_bits (fx _ hs)]; exact ih
    | bwd _ hs ih => rw [fix_bits (fx _ hs)]; exact ih
theorem can_conn {l : List Street} (w : WS 7 l) {p q : Nat} (hp : p < 7) (h : Conn l p q) : ∀ {u : Nat}, u < 2 ^ 7 → Can l u → Can l (u ^^^ 2 ^ p ^^^ 2 ^ q) := by
  induction h with
  | refl =>
    intro u _ hc
    rw [xor_can]; exact hc
  | @fwd s hq hs ih =>
    intro u hu hc
    have h1 := ih hu hc
    have hl : u ^^^ 2 ^ p ^^^ 2 ^ s.a < 2 ^ 7 := Nat.xor_lt_two_pow (Nat.xor_lt_two_pow hu (pow_ltn hp)) (pow_ltn (w _ hs).1)
    have h2 := can_xor w hl hs h1
    unfold oddEnds at h2
    rw [← Nat.xor_assoc, xor_can] at h2
    exact h2
  | @bwd s hq hs ih =>
    intro u hu hc
    have h1 := ih hu hc
    have hl : u ^^^ 2 ^ p ^^^ 2 ^ s.b < 2 ^ 7 := Nat.xor_lt_two_pow (Nat.xor_lt_two_pow hu (pow_ltn hp)) (pow_ltn (w _ hs).2)
    have h2 := can_xor w hl hs h1
    unfold oddEnds at h2
    rw [Nat.xor_comm (2 ^ s.a), ← Nat.xor_assoc, xor_can] at h2
    exact h2
/-! ### the odd places -/
def oddX (l : List Street) (u : Nat) : Nat := l.foldl (fun u s => if s.need % 2 = 1 then u ^^^ oddEnds s else u) u
theorem oddX_lt {n : Nat} : ∀ {l : List Street} {u : Nat}, WS n l → u < 2 ^ n → oddX l u < 2 ^ n
  | [], _, _, h => h
  | s :: l, u, h, hu => by
    refine oddX_lt (l := l) h.tail ?_
    show (if s.need % 2 = 1 then u ^^^ oddEnds s else u) < 2 ^ n
    split
    · exact Nat.xor_lt_two_pow hu (oddEnds_lt h.head.1 h.head.2)
    · exact hu
theorem oddOf_fold : ∀ {l : List Street} {u : Nat}, WS 7 l → u < 2 ^ 7 → l.foldl (fun u s => if s.need % 2 = 1 then ends s u else u) u = oddX l u
  | [], _, _, _ => rfl
  | s :: l, u, h, hu => by
    show List.foldl _ (if s.need % 2 = 1 then ends s u else u) l = oddX l (if s.need % 2 = 1 then u ^^^ oddEnds s else u)
    rw [ends_eq hu h.head.1 h.head.2]
    refine oddOf_fold h.tail ?_
    split
    · exact Nat.xor_lt_two_pow hu (oddEnds_lt h.head.1 h.head.2)
    · exact hu
theorem oddOf_eq {l : List Street} (h : WS 7 l) : oddOf l = oddX l 0 := oddOf_fold h (by decide)
theorem can_oddX {l : List Street} (w : WS 7 l) : ∀ (k : List Street) {u : Nat}, (∀ s ∈ k, s ∈ l) → u < 2 ^ 7 → Can l u → Can l (oddX k u)
  | [], _, _, _, h => h
  | s :: k, u, hk, hu, h => by
    have hs := hk s (List.mem_cons_self ..)
    refine can_oddX w k (u := if s.need % 2 = 1 then u ^^^ oddEnds s else u) (fun t ht => hk t (List.mem_cons_of_mem _ ht)) ?_ ?_
    · split
      · exact Nat.xor_lt_two_pow hu (oddEnds_lt (w s hs).1 (w s hs).2)
      · exact hu
    · split
      · exact can_xor w hu hs h
      · exact h
theorem can_odd {l : List Street} (w : WS 7 l) : Can l (oddOf l) := by
  rw [oddOf_eq w]
  exact can_oddX w l (fun _ h => h) (by decide) (can_zero w)
/-! ### a street taken out -/
theorem lesser_none (a : Option Nat) : lesser a none = a := by cases a <;> rfl
theorem lesser_comm (a b : Option Nat) : lesser a b = lesser b a := by
  cases a <;> cases b <;> simp [lesser, Nat.min_comm]
theorem lesser_assoc (a b c : Option Nat) : lesser (lesser a b) c = lesser a (lesser b c) := by
  cases a <;> cases b <;> cases c <;> simp [lesser, Nat.min_assoc]
theorem lesser_map (a b : Option Nat) (k : Nat) : (lesser a b).map (fun x => x + k) = lesser (a.map fun x => x + k) (b.map fun x => x + k) := by
  cases a <;> cases b <;> simp [lesser, Nat.add_min_add_right]
theorem least_swap {s t : Street} {l : List Street} {u : Nat} (h : WS 7 (s :: t :: l)) (hu : u < 2 ^ 7) : least 7 (s :: t :: l) u = least 7 (t :: s :: l) u := by
  have hs := h.head
  have ht := h.tail.head
  have h1 := oddEnds_lt hs.1 hs.2
  have h2 := oddEnds_lt ht.1 ht.2
  have u1 : u ^^^ oddEnds s < 2 ^ 7 := Nat.xor_lt_two_pow hu h1
  have u2 : u ^^^ oddEnds t < 2 ^ 7 := Nat.xor_lt_two_pow hu h2
  rw [least_cons s (t :: l) hu, least_cons t (s :: l) hu, ends_eq hu hs.1 hs.2, ends_eq hu ht.1 ht.2, least_cons t l hu, least_cons t l u1, least_cons s l hu, least_cons s l u2,
    ends_eq hu hs.1 hs.2, ends_eq hu ht.1 ht.2, ends_eq u1 ht.1 ht.2, ends_eq u2 hs.1 hs.2, lesser_map, lesser_map, Option.map_map, Option.map_map, xor_right_comm u (oddEnds t) (oddEnds s)]
  have e : ((fun x => x + s.long) ∘ fun x => x + t.long) = ((fun x => x + t.long) ∘ fun x => x + s.long) := by
    funext x
    show x + t.long + s.long = x + s.long + t.long
    omega
  rw [e, lesser_assoc, lesser_assoc, ← lesser_assoc ((least 7 l (u ^^^ oddEnds t)).map _), ← lesser_assoc ((least 7 l (u ^^^ oddEnds s)).map _), lesser_comm ((least 7 l (u ^^^ oddEnds t)).map _)]
theorem WS.erase {n : Nat} {l : List Street} (h : WS n l) (i : Nat) : WS n (l.eraseIdx i) := h.sub fun _ hs => List.mem_of_mem_eraseIdx hs
theorem least_erase : ∀ {l : List Street} {i u : Nat} {s : Street}, WS 7 l → u < 2 ^ 7 → l[i]? = some s → least 7 l u = least 7 (s :: l.eraseIdx i) u
  | t :: l, 0, u, s, h, hu, e => by
    have : t = s := Option.some.inj e
    rw [this]; rfl
  | t :: l, i + 1, u, s, h, hu, e => by
    have e' : l[i]? = some s := e
    have hs : s ∈ l := List.mem_of_getElem? e'
    have ht := h.head
    have wst : WS 7 (t :: s :: l.eraseIdx i) := h.sub fun x hx => by
      rcases List.mem_cons.mp hx with q | q
      · exact q ▸ List.mem_cons_self ..
      · rcases List.mem_cons.mp q with q | q
        · exact List.mem_cons_of_mem _ (q ▸ hs)
        · exact List.mem_cons_of_mem _ (List.mem_of_mem_eraseIdx q)
    have wts : WS 7 (s :: t :: l.eraseIdx i) := wst.sub fun x hx => by
      simp only [List.mem_cons] at hx ⊢
      rcases hx with q | q | q
      · exact .inr (.inl q)
      · exact .inl q
      · exact .inr (.inr q)
    rw [least_cons t l hu, least_erase h.tail hu e', least_erase h.tail (ends_lt (by decide) hu ht.1 ht.2) e']
    show _ = least 7 (s :: t :: l.eraseIdx i) u
    rw [least_swap wts hu, least_cons t _ hu]
end Mi

set_option Elab.async false
set_option linter.all false
namespace Mi
open Vbcsag
structure WM (m : Map) : Prop where
  n1 : 1 ≤ m.n
  n7 : m.n ≤ 7
  ws : WS m.n m.streets
  len : m.streets.length ≤ 16
  con : connected m.n m.streets = true
  vals : ∀ s ∈ m.streets, (1 ≤ s.long ∧ s.long ≤ 1000) ∧ (1 ≤ s.need ∧ s.need ≤ 3)
  hlen : m.homes.length ≤ 12
  hvals : ∀ h ∈ m.homes, h.place < m.n ∧ h.from_ ≤ 100000 ∧ h.to_ ≤ 100000
theorem WM.ws7 {m : Map} (w : WM m) : WS 7 m.streets := w.ws.mono w.n7
theorem WM.conn {m : Map} (w : WM m) {p : Nat} (hp : p < m.n) : Conn m.streets 0 p := by
  have h := (connected_iff w.n1 w.n7 w.ws).mp w.con
  refine (closure_iff w.ws7 (by decide) p).mp ?_
  rw [h, Nat.testBit_two_pow_sub_one]
  exact decide_eq_true hp
theorem odd_lt {m : Map} (w : WM m) : odd m < 2 ^ m.n := by
  show oddOf m.streets < 2 ^ m.n
  rw [oddOf_eq w.ws7]
  exact oddX_lt w.ws (Nat.two_pow_pos _)
theorem swapped_all : ∀ u, u < 128 → ∀ p, p < 7 → (if p = 0 then u else flip (flip u 0) p) = u ^^^ 1 ^^^ 2 ^ p := by decide +kernel
theorem swapped_eq {m : Map} (w : WM m) {p : Nat} (hp : p < 7) : swapped m p = odd m ^^^ 1 ^^^ 2 ^ p := swapped_all (odd m) (lt128 w.n7 (odd_lt w)) p hp
theorem swapped_lt {m : Map} (w : WM m) {p : Nat} (hp : p < m.n) : odd m ^^^ 1 ^^^ 2 ^ p < 2 ^ m.n :=
  Nat.xor_lt_two_pow (Nat.xor_lt_two_pow (odd_lt w) (pow_ltn (p := 0) w.n1)) (pow_ltn hp)
theorem can_swapped {m : Map} (w : WM m) {p : Nat} (hp : p < m.n) : Can m.streets (odd m ^^^ 1 ^^^ 2 ^ p) :=
  can_conn w.ws7 (p := 0) (by decide) (w.conn hp) (lt128 w.n7 (odd_lt w)) (can_odd w.ws7)
/-! ### heights -/
def bas (l : List Street) : Nat := (least 7 l (oddOf l)).getD 0
def hgt (l : List Street) (p : Nat) : Int := 2 * (((least 7 l (oddOf l ^^^ 1 ^^^ 2 ^ p)).getD 0 : Nat) - (bas l : Nat) : Int)
theorem heights_eq {m : Map} (w : WM m) : heightsOf m = (List.range m.n).map (hgt m.streets) := by
  unfold heightsOf
  refine List.map_congr_left fun p hp => ?_
  have hp := List.mem_range.mp hp
  have hp7 : p < 7 := Nat.lt_of_lt_of_le hp w.n7
  show (above ((least m.n m.streets (odd m)).getD 0) (least m.n m.streets (swapped m p))).getD 0 = hgt m.streets p
  rw [swapped_eq w hp7, least_seven w.n7 w.ws (odd_lt w), least_seven w.n7 w.ws (swapped_lt w hp)]
  have hc := can_swapped w hp
  unfold Can at hc
  unfold above hgt
  show _ = 2 * (((least 7 m.streets (odd m ^^^ 1 ^^^ 2 ^ p)).getD 0 : Nat) - (bas m.streets : Nat) : Int)
  cases e : least 7 m.streets (odd m ^^^ 1 ^^^ 2 ^ p) with
  | none => rw [e] at hc; cases hc
  | some x => rfl
/-! ### peaks -/
def wo (l : List Street) (i p : Nat) : Option Nat := least 7 (l.eraseIdx i) (oddOf l ^^^ 1 ^^^ 2 ^ p)
def peakF (base long : Nat) (x y : Option Nat) : Int := match above base x, above base y with
  | some a, some b => min (min (2 * (long : Int) + a) (2 * (long : Int) + b)) ((2 * (long : Int) + a + b) / 2)
  | some a, none => 2 * (long : Int) + a
  | none, some b => 2 * (long : Int) + b
  | none, none => 0
def pk (l : List Street) (i : Nat) : Int := peakF (bas l) (l.getD i street0).long (wo l i (l.getD i street0).a) (wo l i (l.getD i street0).b)
theorem getD_of {α : Type} {l : List α} {i : Nat} {s d : α} (h : l[i]? = some s) : l.getD i d = s := by
  rw [List.getD_eq_getElem?_getD, h]; rfl
theorem getD_lt {α : Type} {l : List α} {i : Nat} (h : i < l.length) (d : α) : l[i]? = some (l.getD i d) := by
  rw [List.getD_eq_getElem?_getD, List.getElem?_eq_getElem h]; rfl
theorem peaks_eq {m : Map} (w : WM m) : peaksOf m = (List.range m.streets.length).map (pk m.streets) := by
  unfold peaksOf
  refine List.map_congr_left fun i hi => ?_
  have hi := List.mem_range.mp hi
  have hs := getD_lt hi street0
  have hm : m.streets.getD i street0 ∈ m.streets := List.mem_of_getElem? hs
  have ha := w.ws _ hm
  have we := w.ws.erase i
  unfold peakOf pk peakF wo
  show (match above ((least m.n m.streets (odd m)).getD 0) (least m.n (m.streets.eraseIdx i) (swapped m (m.streets.getD i street0).a)), above ((least m.n m.streets (odd m)).getD 0) (least m.n (m.streets.eraseIdx i) (swapped m (m.streets.getD i street0).b)) with
    | some a, some b => _
    | some a, none => _
    | none, some b => _
    | none, none => _) = _
  have h7 := w.n7
  rw [swapped_eq w (by omega), swapped_eq w (by omega), least_seven w.n7 w.ws (odd_lt w), least_seven w.n7 we (swapped_lt w ha.1), least_seven w.n7 we (swapped_lt w ha.2)]
  rfl
theorem above_some (b x : Nat) : above b (some x) = some (2 * ((x : Int) - (b : Int))) := rfl
theorem above_none (b : Nat) : above b none = none := rfl
/-! one of the two ends has a least without the street; a peak is never below its ends' heights -/
theorem end_xor (x a b : Nat) : x ^^^ 2 ^ a ^^^ (2 ^ a ^^^ 2 ^ b) = x ^^^ 2 ^ b := by
  rw [← Nat.xor_assoc, xor_can]
structure Hill (m : Map) (i : Nat) (s : Street) : Prop where
  one : (wo m.streets i s.a).isSome = true ∨ (wo m.streets i s.b).isSome = true
  aa : ∀ x, wo m.streets i s.a = some x → ((least 7 m.streets (oddOf m.streets ^^^ 1 ^^^ 2 ^ s.a)).getD 0) ≤ x
  ab : ∀ x, wo m.streets i s.b = some x → ((least 7 m.streets (oddOf m.streets ^^^ 1 ^^^ 2 ^ s.a)).getD 0) ≤ x + s.long
  bb : ∀ x, wo m.streets i s.b = some x → ((least 7 m.streets (oddOf m.streets ^^^ 1 ^^^ 2 ^ s.b)).getD 0) ≤ x
  ba : ∀ x, wo m.streets i s.a = some x → ((least 7 m.streets (oddOf m.streets ^^^ 1 ^^^ 2 ^ s.b)).getD 0) ≤ x + s.long
theorem lesser_le {a b : Option Nat} : (∀ x, a = some x → (lesser a b).getD 0 ≤ x) ∧ (∀ x, b = some x → (lesser a b).getD 0 ≤ x) := by
  cases a <;> cases b <;> simp [lesser] <;> omega
theorem hill {m : Map} (w : WM m) {i : Nat} {s : Street} (hs : m.streets[i]? = some s) : Hill m i s := by
  have hm : s ∈ m.streets := List.mem_of_getElem? hs
  have ha := w.ws _ hm
  have a7 : s.a < 7 := (w.ws7 _ hm).1
  have b7 : s.b < 7 := (w.ws7 _ hm).2
  have la := lt128 w.n7 (swapped_lt w ha.1)
  have lb := lt128 w.n7 (swapped_lt w ha.2)
  have ea := least_erase w.ws7 la hs
  have eb := least_erase w.ws7 lb hs
  rw [least_cons _ _ la, ends_eq la a7 b7, oddEnds, end_xor] at ea
  rw [least_cons _ _ lb, ends_eq lb a7 b7, oddEnds, Nat.xor_comm (2 ^ s.a), end_xor] at eb
  have e0 : odd m = oddOf m.streets := rfl
  rw [e0] at ea eb
  refine ⟨?_, ?_, ?_, ?_, ?_⟩
  · have hc := can_swapped w ha.1
    unfold Can at hc
    rw [e0, ea, lesser_isSome, Option.isSome_map, Bool.or_eq_true] at hc
    exact hc
  · intro x hx
    rw [ea]
    exact lesser_le.1 x hx
  · intro x hx
    rw [ea]
    exact lesser_le.2 _ (by show Option.map _ (wo m.streets i s.b) = _; rw [hx]; rfl)
  · intro x hx
    rw [eb]
    exact lesser_le.1 x hx
  · intro x hx
    rw [eb]
    exact lesser_le.2 _ (by show Option.map _ (wo m.streets i s.a) = _; rw [hx]; rfl)
theorem peak_high {m : Map} (w : WM m) {i : Nat} {s : Street} (hs : m.streets[i]? = some s) : hgt m.streets s.a ≤ pk m.streets i ∧ hgt m.streets s.b ≤ pk m.streets i := by
  have h := hill w hs
  have hv := (w.vals s (List.mem_of_getElem? hs)).1
  unfold pk
  rw [getD_of hs]
  unfold hgt peakF
  have h1 := h.one
  cases ea : wo m.streets i s.a with
  | none =>
    rw [ea] at h1
    cases eb : wo m.streets i s.b with
    | none => rw [eb] at h1; rcases h1 with h1 | h1 <;> cases h1
    | some y =>
      have q1 := h.ab y eb
      have q2 := h.bb y eb
      simp only [above_some, above_none]
      omega
  | some x =>
    have q1 := h.aa x ea
    have q2 := h.ba x ea
    cases eb : wo m.streets i s.b with
    | none =>
      simp only [above_some, above_none]
      omega
    | some y =>
      have q3 := h.ab y eb
      have q4 := h.bb y eb
      simp only [above_some, above_none]
      omega
/-! ### levels -/
theorem insertInt_mem (x y : Int) : ∀ (l : List Int), y ∈ insertInt x l ↔ y = x ∨ y ∈ l
  | [] => by simp [insertInt]
  | z :: r => by
    unfold insertInt
    split
    · simp
    · split
      · rename_i h; subst h; simp
      · rw [List.mem_cons, insertInt_mem x y r, List.mem_cons]
        constructor
        · rintro (h | h | h)
          · exact .inr (.inl h)
          · exact .inl h
          · exact .inr (.inr h)
        · rintro (h | h | h)
          · exact .inr (.inl h)
          · exact .inl h
          · exact .inr (.inr h)
theorem insertInt_sorted (x : Int) : ∀ (l : List Int), l.Pairwise (· < ·) → (insertInt x l).Pairwise (· < ·)
  | [], _ => by simp [insertInt]
  | z :: r, h => by
    have h2 := List.pairwise_cons.mp h
    unfold insertInt
    split
    · rename_i hx
      refine List.pairwise_cons.mpr ⟨fun y hy => ?_, h⟩
      rcases List.mem_cons.mp hy with e | e
      · omega
      · have := h2.1 y e; omega
    · split
      · exact h
      · refine List.pairwise_cons.mpr ⟨fun y hy => ?_, insertInt_sorted x r h2.2⟩
        rcases (insertInt_mem x y r).mp hy with e | e
        · omega
        · exact h2.1 y e
theorem fold_insert : ∀ (xs acc : List Int), acc.Pairwise (· < ·) → (xs.foldl (fun l x => insertInt x l) acc).Pairwise (· < ·) ∧ ∀ y, y ∈ xs.foldl (fun l x => insertInt x l) acc ↔ y ∈ acc ∨ y ∈ xs
  | [], acc, h => ⟨h, fun y => by simp⟩
  | x :: xs, acc, h => by
    have ih := fold_insert xs (insertInt x acc) (insertInt_sorted x acc h)
    refine ⟨ih.1, fun y => ?_⟩
    rw [List.foldl_cons, ih.2 y, insertInt_mem, List.mem_cons]
    constructor
    · rintro ((h | h) | h)
      · exact .inr (.inl h)
      · exact .inl h
      · exact .inr (.inr h)
    · rintro (h | h | h)
      · exact .inl (.inr h)
      · exact .inl (.inl h)
      · exact .inr h
theorem sorted_uniq : ∀ {a b : List Int}, a.Pairwise (· < ·) → b.Pairwise (· < ·) → (∀ y, y ∈ a ↔ y ∈ b) → a = b
  | [], [], _, _, _ => rfl
  | [], y :: b, _, _, h => absurd ((h y).mpr (List.mem_cons_self ..)) (by simp)
  | x :: a, [], _, _, h => absurd ((h x).mp (List.mem_cons_self ..)) (by simp)
  | x :: a, y :: b, ha, hb, h => by
    have pa := List.pairwise_cons.mp ha
    have pb := List.pairwise_cons.mp hb
    have e : x = y := by
      have h1 := (h x).mp (List.mem_cons_self ..)
      have h2 := (h y).mpr (List.mem_cons_self ..)
      rcases List.mem_cons.mp h1 with q | q
      · exact q
      · rcases List.mem_cons.mp h2 with r | r
        · exact r.symm
        · have := pb.1 x q
          have := pa.1 y r
          omega
    subst e
    congr 1
    refine sorted_uniq pa.2 pb.2 fun z => ?_
    constructor
    · intro hz
      rcases List.mem_cons.mp ((h z).mp (List.mem_cons_of_mem _ hz)) with q | q
      · have := pa.1 z hz; omega
      · exact q
    · intro hz
      rcases List.mem_cons.mp ((h z).mpr (List.mem_cons_of_mem _ hz)) with q | q
      · have := pb.1 z hz; omega
      · exact q
def betweenM (l : List Street) (ps : List Int) : List Int := ((l.zip ps).filter fun x => x.1.a != x.1.b).map fun x => x.2
theorem filter_idx {α β : Type} (f : α → β → Bool) (da : α) (db : β) : ∀ (l : List α) (ps : List β), ps.length = l.length → ((List.range l.length).filter fun i => f (l.getD i da) (ps.getD i db)).map (fun i => (l.getD i da, ps.getD i db)) = (l.zip ps).filter fun x => f x.1 x.2
  | [], [], _ => rfl
  | x :: l, y :: ps, h => by
    have ih := filter_idx f da db l ps (Nat.succ.inj h)
    rw [List.length_cons, List.range_succ_eq_map, List.zip_cons_cons, List.filter_cons, List.filter_cons]
    have hf : (List.filter (fun i => f ((x :: l).getD i da) ((y :: ps).getD i db)) ((List.range l.length).map Nat.succ)) = ((List.range l.length).filter fun i => f (l.getD i da) (ps.getD i db)).map Nat.succ := by
      rw [List.filter_map]; rfl
    rw [hf]
    show (if f x y = true then _ else _ : List Nat).map _ = if f x y = true then _ else _
    split
    · rw [List.map_cons, List.map_map]
      exact congrArg (List.cons (x, y)) ih
    · rw [List.map_map]
      exact ih
theorem steps_uniq {m : Map} {hs ps ns : List Int} (hl : ps.length = m.streets.length) (hp : ns.Pairwise (· < ·)) (hm : ∀ y, y ∈ ns ↔ y ∈ hs ++ betweenM m.streets ps) : ns = steps m hs ps := by
  have e : ((List.range m.streets.length).filter fun i => (streetAt m i).a != (streetAt m i).b).map (fun i => ps.getD i 0) = betweenM m.streets ps := by
    unfold betweenM
    rw [← filter_idx (fun s _ => s.a != s.b) street0 0 m.streets ps hl, List.map_map]
    rfl
  unfold steps
  rw [e]
  have h := fold_insert (hs ++ betweenM m.streets ps) [] List.Pairwise.nil
  refine sorted_uniq hp h.1 fun y => ?_
  rw [h.2, hm]
  simp
end Mi

set_option Elab.async false
set_option linter.all false
namespace Mi
open Vbcsag
theorem places_all : ∀ n, n < 8 → ∀ u, u < 2 ^ n → placesOf n u = placesOf 7 u := by decide +kernel
theorem size_all : ∀ u, u < 128 → ∀ o, o < 128 → ((placesOf 7 u).foldl (fun v p => if o.testBit p = true then v + 2 ^ p else v) 0) = u &&& o := by decide +kernel
theorem parts_all : ∀ u, u < 128 → ∀ a, a < 7 → ∀ b, b < 7 → ((u.testBit a != u.testBit b) = decide ((placesOf 7 (u &&& (2 ^ a ^^^ 2 ^ b))).length = 1)) := by decide +kernel
end Mi

set_option Elab.async false
set_option linter.all false
namespace Mi
open Vbcsag
/-! ### groups -/
def lowStreets (l : List Street) (ps : List Int) (c : Int) : List Street := ((l.zip ps).filter fun x => decide (x.2 ≤ c)).map fun x => x.1
def gstep (low : List Street) (hs : List Int) (c : Int) (st : Nat × List Nat) (p : Nat) : Nat × List Nat := if hs.getD p 0 ≤ c ∧ st.1 &&& 2 ^ p = 0 then (st.1 ||| closure low p, st.2 ++ [closure low p]) else st
def gst (low : List Street) (hs : List Int) (c : Int) (i : Nat) : Nat × List Nat := (List.range i).foldl (gstep low hs c) (closure low 0, [])
theorem gst_succ (low : List Street) (hs : List Int) (c : Int) (i : Nat) : gst low hs c (i + 1) = gstep low hs c (gst low hs c i) i := by
  unfold gst
  rw [List.range_succ, List.foldl_append]
  rfl
theorem lowStreets_eq (m : Map) (ps : List Int) (c : Int) (hl : ps.length = m.streets.length) : ((List.range m.streets.length).filter fun i => decide (ps.getD i 0 ≤ c)).map (streetAt m) = lowStreets m.streets ps c := by
  unfold lowStreets
  rw [← filter_idx (fun _ y => decide (y ≤ c)) street0 0 m.streets ps hl, List.map_map]
  rfl
theorem lowStreets_mem {l : List Street} {ps : List Int} {c : Int} {s : Street} (h : s ∈ lowStreets l ps c) : ∃ (i : Nat) (y : Int), l[i]? = some s ∧ ps[i]? = some y ∧ y ≤ c := by
  obtain ⟨x, hx, rfl⟩ := List.mem_map.mp h
  obtain ⟨h1, h2⟩ := List.mem_filter.mp hx
  obtain ⟨i, hi⟩ := List.mem_iff_getElem?.mp h1
  have := List.getElem?_zip_eq_some.mp hi
  exact ⟨i, x.2, this.1, this.2, of_decide_eq_true h2⟩
theorem lowStreets_sub {l : List Street} {ps : List Int} {c : Int} : ∀ s ∈ lowStreets l ps c, s ∈ l := fun s h => by
  obtain ⟨i, y, h1, _⟩ := lowStreets_mem h
  exact List.mem_of_getElem? h1
theorem map_getD {α β : Type} {f : Nat → β} {n i : Nat} {d : β} (h : i < n) : ((List.range n).map f).getD i d = f i := by
  rw [List.getD_eq_getElem?_getD, List.getElem?_map, List.getElem?_range h]
  rfl
theorem and_pow (f p : Nat) : f &&& 2 ^ p = 0 ↔ f.testBit p = false := by
  have := and_ends f p p
  rw [Nat.or_self] at this
  exact ⟨fun h => (this.mp h).1, fun h => this.mpr ⟨h, h⟩⟩
theorem or_add_all : ∀ f, f < 128 → ∀ p, p < 7 → f.testBit p = false → 2 ^ p ||| f = 2 ^ p + f := by decide +kernel
theorem vsum_cons (x : Nat) (l : List Nat) : Vbcsag.sum (x :: l) = x + Vbcsag.sum l := by
  unfold Vbcsag.sum
  rw [List.foldl_cons]
  have : ∀ (l : List Nat) (a b : Nat), l.foldl (fun a b => a + b) (a + b) = a + l.foldl (fun a b => a + b) b := by
    intro l
    induction l with
    | nil => intro a b; rfl
    | cons y l ih => intro a b; rw [List.foldl_cons, List.foldl_cons, Nat.add_assoc, ih]
  have h := this l x 0
  rw [Nat.add_zero] at h
  rw [Nat.zero_add, h]
theorem vsum_eq : ∀ (l : List Nat), Vbcsag.sum l = l.sum
  | [] => rfl
  | x :: l => by rw [vsum_cons, vsum_eq l, List.sum_cons]
theorem mask_lt {n : Nat} : ∀ {q : List Nat}, (∀ x ∈ q, x < n) → mask q < 2 ^ n
  | [], _ => Nat.two_pow_pos n
  | p :: r, h => Nat.or_lt_two_pow (pow_ltn (h p (List.mem_cons_self ..))) (mask_lt fun x hx => h x (List.mem_cons_of_mem _ hx))
theorem sum_mask : ∀ {q : List Nat}, q.Nodup → (∀ x ∈ q, x < 7) → Vbcsag.sum (q.map fun p => 2 ^ p) = mask q
  | [], _, _ => rfl
  | p :: r, hn, h => by
    have h2 := List.nodup_cons.mp hn
    have hr : ∀ x ∈ r, x < 7 := fun x hx => h x (List.mem_cons_of_mem _ hx)
    rw [List.map_cons, vsum_cons, sum_mask h2.2 hr, mask, or_add_all (mask r) (mask_lt hr) p (h p (List.mem_cons_self ..)) ?_]
    rw [mask_bit, List.contains_eq_mem]
    exact decide_eq_false h2.1
theorem reached_iff {n : Nat} {l : List Street} (hn : n ≤ 7) (h : WS n l) {p : Nat} (hp : p < n) (x : Nat) : x ∈ reached l n [p] ↔ Conn l p x := by
  rw [← closure_iff (h.mono hn) (by omega) x, closure_bit hn h hp, List.contains_eq_mem, decide_eq_true_eq]
section
variable {m : Map} (w : WM m) (c : Int)
include w
def lowM (m : Map) (c : Int) : List Street := lowStreets m.streets (peaksOf m) c
theorem lowM_ws : WS m.n (lowM m c) := w.ws.sub lowStreets_sub
theorem hs_at {p : Nat} (hp : p < m.n) : (heightsOf m).getD p 0 = hgt m.streets p := by rw [heights_eq w, map_getD (α := Nat) hp]
theorem low_closed {p x : Nat} (hp : p < m.n) (h : (heightsOf m).getD p 0 ≤ c) (k : Conn (lowM m c) p x) : (heightsOf m).getD x 0 ≤ c := by
  have hx := k.lt (lowM_ws w c) hp
  have key : ∀ {s : Street}, s ∈ lowM m c → (heightsOf m).getD s.a 0 ≤ c ∧ (heightsOf m).getD s.b 0 ≤ c := by
    intro s hs
    obtain ⟨i, y, h1, h2, h3⟩ := lowStreets_mem hs
    have hm := w.ws s (List.mem_of_getElem? h1)
    rw [hs_at w hm.1, hs_at w hm.2]
    have hi : i < m.streets.length := (List.getElem?_eq_some_iff.mp h1).1
    rw [peaks_eq w, List.getElem?_map, List.getElem?_range hi] at h2
    have e : pk m.streets i = y := Option.some.inj h2
    have := peak_high w h1
    omega
  cases k with
  | refl => exact h
  | fwd _ hs => exact (key hs).2
  | bwd _ hs => exact (key hs).1
def lowP (m : Map) (c : Int) : List Nat := (List.range m.n).filter fun p => decide ((heightsOf m).getD p 0 ≤ c)
def groupP (m : Map) (c : Int) (p : Nat) : List Nat := (reached (lowM m c) m.n [p]).filter (lowP m c).contains
def condP (m : Map) (c : Int) (p : Nat) : Bool := !(groupP m c p).contains 0 && (groupP m c p).all fun q => decide (p ≤ q)
theorem groups_def : groups m (heightsOf m) (peaksOf m) c = ((lowP m c).filter (condP m c)).map fun p => Vbcsag.sum ((groupP m c p).map fun q => 2 ^ q) := by
  unfold groups
  have hl : (peaksOf m).length = m.streets.length := by
    unfold peaksOf
    rw [List.length_map, List.length_range]
  rw [lowStreets_eq m (peaksOf m) c hl]
  rfl
theorem lowP_mem {p : Nat} : p ∈ lowP m c ↔ p < m.n ∧ (heightsOf m).getD p 0 ≤ c := by
  unfold lowP
  rw [List.mem_filter, List.mem_range, decide_eq_true_eq]
theorem groupP_eq {p : Nat} (hp : p < m.n) (h : (heightsOf m).getD p 0 ≤ c) : groupP m c p = reached (lowM m c) m.n [p] := by
  unfold groupP
  rw [List.filter_eq_self]
  intro x hx
  have hx := (reached_iff w.n7 (lowM_ws w c) hp x).mp hx
  rw [List.contains_eq_mem, decide_eq_true_eq]
  exact (lowP_mem w c).mpr ⟨hx.lt (lowM_ws w c) hp, low_closed w c hp h hx⟩
theorem group_val {p : Nat} (hp : p < m.n) (h : (heightsOf m).getD p 0 ≤ c) : Vbcsag.sum ((groupP m c p).map fun q => 2 ^ q) = closure (lowM m c) p := by
  rw [groupP_eq w c hp h]
  have g : Good m.n (reached (lowM m c) m.n [p]) := good_reached (lowM_ws w c) m.n ⟨by simp, fun x hx => by rw [List.mem_singleton] at hx; omega⟩
  have h7 := w.n7
  rw [sum_mask g.nd (fun x hx => by have := g.lt x hx; omega), closure_mask w.n7 (lowM_ws w c) hp]
theorem cond_iff {p : Nat} (hp : p < m.n) (h : (heightsOf m).getD p 0 ≤ c) : condP m c p = true ↔ ¬ Conn (lowM m c) 0 p ∧ ∀ p', p' < p → (heightsOf m).getD p' 0 ≤ c → ¬ Conn (lowM m c) p' p := by
  unfold condP
  rw [groupP_eq w c hp h, Bool.and_eq_true, List.all_eq_true, Bool.not_eq_true', List.contains_eq_mem, decide_eq_false_iff_not, reached_iff w.n7 (lowM_ws w c) hp]
  constructor
  · rintro ⟨h1, h2⟩
    refine ⟨fun k => h1 k.symm, fun p' hp' _ k => ?_⟩
    have := h2 p' ((reached_iff w.n7 (lowM_ws w c) hp p').mpr k.symm)
    have := of_decide_eq_true this
    omega
  · rintro ⟨h1, h2⟩
    refine ⟨fun k => h1 k.symm, fun x hx => ?_⟩
    have k := (reached_iff w.n7 (lowM_ws w c) hp x).mp hx
    apply decide_eq_true
    apply Decidable.byContradiction
    intro hc
    exact h2 x (by omega) (low_closed w c hp h k) k.symm
theorem gst_inv : ∀ (i : Nat), i ≤ m.n → (∀ x, (gst (lowM m c) (heightsOf m) c i).1.testBit x = true ↔ Conn (lowM m c) 0 x ∨ ∃ p, p < i ∧ (heightsOf m).getD p 0 ≤ c ∧ Conn (lowM m c) p x) ∧
    (gst (lowM m c) (heightsOf m) c i).2 = ((((List.range i).filter fun p => decide ((heightsOf m).getD p 0 ≤ c)).filter (condP m c)).map (closure (lowM m c))) ∧ (gst (lowM m c) (heightsOf m) c i).1 < 2 ^ 7
  | 0, _ => by
    have w7 : WS 7 (lowM m c) := (lowM_ws w c).mono w.n7
    refine ⟨fun x => ?_, rfl, iter_lt w7 7 (by decide)⟩
    show (closure (lowM m c) 0).testBit x = true ↔ _
    rw [closure_iff w7 (by decide)]
    constructor
    · exact fun h => .inl h
    · rintro (h | ⟨p, hp, _⟩)
      · exact h
      · omega
  | i + 1, hi => by
    obtain ⟨ih1, ih2, ih3⟩ := gst_inv i (by omega)
    have w7 : WS 7 (lowM m c) := (lowM_ws w c).mono w.n7
    have h7 := w.n7
    rw [gst_succ]
    unfold gstep
    rw [List.range_succ, List.filter_append, List.filter_append, List.map_append, ← ih2]
    by_cases hl : (heightsOf m).getD i 0 ≤ c
    · have f1 : ([i].filter fun p => decide ((heightsOf m).getD p 0 ≤ c)) = [i] := by simp only [List.filter_cons, decide_eq_true hl, if_true, List.filter_nil]
      rw [f1]
      have hc := cond_iff w c (p := i) (by omega) hl
      by_cases hb : (gst (lowM m c) (heightsOf m) c i).1.testBit i = false
      · rw [if_pos ⟨hl, (and_pow _ _).mpr hb⟩]
        have hcond : condP m c i = true := by
          rw [hc]
          refine ⟨fun k => ?_, fun p' hp' hl' k => ?_⟩
          · have := (ih1 i).mpr (.inl k)
            rw [hb] at this; cases this
          · have := (ih1 i).mpr (.inr ⟨p', hp', hl', k⟩)
            rw [hb] at this; cases this
        refine ⟨fun x => ?_, ?_, Nat.or_lt_two_pow ih3 (iter_lt w7 7 (pow_ltn (by omega)))⟩
        · rw [Nat.testBit_or, Bool.or_eq_true, ih1, closure_iff w7 (by omega)]
          constructor
          · rintro ((h | ⟨p, hp, h1, h2⟩) | h)
            · exact .inl h
            · exact .inr ⟨p, by omega, h1, h2⟩
            · exact .inr ⟨i, by omega, hl, h⟩
          · rintro (h | ⟨p, hp, h1, h2⟩)
            · exact .inl (.inl h)
            · by_cases e : p = i
              · exact .inr (e ▸ h2)
              · exact .inl (.inr ⟨p, by omega, h1, h2⟩)
        · rw [List.filter_cons, if_pos hcond]
          rfl
      · have hb' : (gst (lowM m c) (heightsOf m) c i).1.testBit i = true := by simpa using hb
        rw [if_neg (fun q => by rw [and_pow] at q; rw [hb'] at q; cases q.2)]
        have hcond : ¬ condP m c i = true := by
          rw [hc]
          rintro ⟨q1, q2⟩
          rcases (ih1 i).mp hb' with h | ⟨p, hp, h1, h2⟩
          · exact q1 h
          · exact q2 p hp h1 h2
        refine ⟨fun x => ?_, ?_, ih3⟩
        · rw [ih1]
          constructor
          · rintro (h | ⟨p, hp, h1, h2⟩)
            · exact .inl h
            · exact .inr ⟨p, by omega, h1, h2⟩
          · rintro (h | ⟨p, hp, h1, h2⟩)
            · exact .inl h
            · by_cases e : p = i
              · subst e
                rcases (ih1 p).mp hb' with q | ⟨p', hp', q1, q2⟩
                · exact .inl (q.trans h2)
                · exact .inr ⟨p', hp', q1, q2.trans h2⟩
              · exact .inr ⟨p, by omega, h1, h2⟩
        · rw [List.filter_cons, if_neg hcond]
          simp
    · have f1 : ([i].filter fun p => decide ((heightsOf m).getD p 0 ≤ c)) = [] := by simp only [List.filter_cons, decide_eq_false hl, List.filter_nil]; simp
      rw [f1, if_neg (fun q => hl q.1)]
      refine ⟨fun x => ?_, by simp, ih3⟩
      rw [ih1]
      constructor
      · rintro (h | ⟨p, hp, h1, h2⟩)
        · exact .inl h
        · exact .inr ⟨p, by omega, h1, h2⟩
      · rintro (h | ⟨p, hp, h1, h2⟩)
        · exact .inl h
        · by_cases e : p = i
          · subst e; exact absurd h1 hl
          · exact .inr ⟨p, by omega, h1, h2⟩
theorem groups_eq : groups m (heightsOf m) (peaksOf m) c = (gst (lowM m c) (heightsOf m) c m.n).2 := by
  rw [groups_def w, (gst_inv w c m.n (Nat.le_refl _)).2.1]
  refine List.map_congr_left fun p hp => ?_
  have := (lowP_mem w c).mp (List.mem_filter.mp hp).1
  exact group_val w c this.1 this.2
end
/-! ### accepted cuts -/
theorem places_eq {n u : Nat} (hn : n ≤ 7) (hu : u < 2 ^ n) : placesOf n u = placesOf 7 u := places_all n (by omega) u hu
def across (s : Street) (prs : List (Nat × Nat)) : Nat := ((prs.filter fun x => decide ((placesOf 7 (x.1 &&& oddEnds s)).length = 1)).map fun x => x.2).sum
def goodPair (n o : Nat) (x : Nat × Nat) : Bool := !(decide (2 ^ n - 1 < x.1) || decide ((placesOf 7 (x.1 &&& o)).length % 2 = 0))
def acceptedM (n : Nat) (l : List Street) (prs : List (Nat × Nat)) : Bool := prs.all (goodPair n (oddOf l)) && l.all fun s => decide (across s prs ≤ 2 * s.long)
theorem good_eq {m : Map} (w : WM m) (x : Nat × Nat) : goodPair m.n (odd m) x = (decide (x.1 < 2 ^ m.n) && (size m.n ((placesOf m.n x.1).foldl (fun u p => if (odd m).testBit p = true then u + 2 ^ p else u) 0)) % 2 == 1) := by
  have hpos := Nat.two_pow_pos m.n
  unfold goodPair
  by_cases h : x.1 < 2 ^ m.n
  · have h7 := lt128 w.n7 h
    have ho := odd_lt w
    have e1 : decide (2 ^ m.n - 1 < x.1) = false := decide_eq_false (by omega)
    have e2 : x.1 &&& odd m < 2 ^ m.n := Nat.and_lt_two_pow _ ho
    rw [e1, decide_eq_true h, Bool.false_or, Bool.true_and, places_eq w.n7 h, size_all x.1 h7 (odd m) (lt128 w.n7 ho)]
    unfold size
    rw [places_eq w.n7 e2]
    rcases Nat.mod_two_eq_zero_or_one (placesOf 7 (x.1 &&& odd m)).length with e | e <;> rw [e] <;> rfl
  · have e1 : decide (2 ^ m.n - 1 < x.1) = true := decide_eq_true (by omega)
    rw [e1, decide_eq_false h]
    rfl
theorem packs_eq {m : Map} (w : WM m) (prs : List (Nat × Nat)) : packs m prs = acceptedM m.n m.streets prs := by
  unfold packs acceptedM
  have e0 : (fun x => goodPair m.n (oddOf m.streets) x) = fun (x : Nat × Nat) => (decide (x.1 < 2 ^ m.n) && (size m.n ((placesOf m.n x.1).foldl (fun u p => if (odd m).testBit p = true then u + 2 ^ p else u) 0)) % 2 == 1) := by
    funext x
    exact good_eq w x
  show _ = (prs.all (fun x => goodPair m.n (oddOf m.streets) x) && _)
  rw [e0]
  cases h : prs.all (fun (x : Nat × Nat) => (decide (x.1 < 2 ^ m.n) && (size m.n ((placesOf m.n x.1).foldl (fun u p => if (odd m).testBit p = true then u + 2 ^ p else u) 0)) % 2 == 1)) with
  | false => rfl
  | true =>
    rw [Bool.true_and, Bool.true_and]
    rw [List.all_eq_true] at h
    have hlt : ∀ x ∈ prs, x.1 < 2 ^ 7 := fun x hx => by
      have := h x hx
      rw [Bool.and_eq_true] at this
      exact lt128 w.n7 (of_decide_eq_true this.1)
    rw [Bool.eq_iff_iff, List.all_eq_true, List.all_eq_true]
    have key : ∀ s ∈ m.streets, Vbcsag.sum ((prs.filter fun x => parts s x.1).map fun x => x.2) = across s prs := by
      intro s hs
      have hm := w.ws7 s hs
      unfold across
      rw [vsum_eq]
      congr 2
      refine List.filter_congr fun x hx => ?_
      exact parts_all x.1 (hlt x hx) s.a hm.1 s.b hm.2
    constructor
    · intro q s hs
      rw [← key s hs]; exact q s hs
    · intro q s hs
      rw [key s hs]; exact q s hs
end Mi

set_option Elab.async false
set_option linter.all false
namespace Mi
open Vbcsag
/-! ### parity -/
def par7 (f : Nat → Bool) : Bool := f 0 ^^ (f 1 ^^ (f 2 ^^ (f 3 ^^ (f 4 ^^ (f 5 ^^ f 6)))))
theorem xor4 (a b c d : Bool) : ((a ^^ b) ^^ (c ^^ d)) = ((a ^^ c) ^^ (b ^^ d)) := by cases a <;> cases b <;> cases c <;> cases d <;> rfl
theorem par7_xor (f g : Nat → Bool) : par7 (fun p => f p ^^ g p) = (par7 f ^^ par7 g) := by
  unfold par7
  conv => rhs; rw [xor4 (f 0), xor4 (f 1), xor4 (f 2), xor4 (f 3), xor4 (f 4), xor4 (f 5)]
def phi (c u : Nat) : Bool := par7 fun p => u.testBit p && c.testBit p
theorem phi_xor (c u v : Nat) : phi c (u ^^^ v) = (phi c u ^^ phi c v) := by
  unfold phi
  rw [← par7_xor]
  congr 1
  funext p
  rw [Nat.testBit_xor]
  cases u.testBit p <;> cases v.testBit p <;> cases c.testBit p <;> rfl
theorem phi_pow (c : Nat) : ∀ a, a < 7 → phi c (2 ^ a) = c.testBit a
  | 0, _ => by unfold phi par7; simp only [Nat.testBit_two_pow]; simp
  | 1, _ => by unfold phi par7; simp only [Nat.testBit_two_pow]; simp
  | 2, _ => by unfold phi par7; simp only [Nat.testBit_two_pow]; simp
  | 3, _ => by unfold phi par7; simp only [Nat.testBit_two_pow]; simp
  | 4, _ => by unfold phi par7; simp only [Nat.testBit_two_pow]; simp
  | 5, _ => by unfold phi par7; simp only [Nat.testBit_two_pow]; simp
  | 6, _ => by unfold phi par7; simp only [Nat.testBit_two_pow]; simp
  | n + 7, h => by omega
theorem phi_zero (c : Nat) : phi c 0 = false := by unfold phi par7; simp
/-! ### what is still to be walked -/
def tpar (l : List Street) (ts : List Nat) (u : Nat) : Nat := (l.zip ts).foldl (fun u x => if x.2 % 2 = 1 then u ^^^ oddEnds x.1 else u) u
theorem tpar_cons (s : Street) (l : List Street) (t : Nat) (ts : List Nat) (u : Nat) : tpar (s :: l) (t :: ts) u = tpar l ts (if t % 2 = 1 then u ^^^ oddEnds s else u) := rfl
theorem tpar_acc : ∀ (l : List Street) (ts : List Nat) (u v : Nat), tpar l ts (u ^^^ v) = u ^^^ tpar l ts v
  | [], _, _, _ => rfl
  | s :: l, [], _, _ => rfl
  | s :: l, t :: ts, u, v => by
    rw [tpar_cons, tpar_cons]
    split
    · rw [Nat.xor_assoc, tpar_acc]
    · rw [tpar_acc]
theorem tpar_set : ∀ {l : List Street} {ts : List Nat} {i : Nat} {s : Street} {u : Nat}, l[i]? = some s → 0 < ts.getD i 0 → tpar l (ts.set i (ts.getD i 0 - 1)) u = tpar l ts u ^^^ oddEnds s
  | s :: l, [], i, r, u, h, hp => by simp at hp
  | s :: l, t :: ts, 0, r, u, h, hp => by
    have e : s = r := Option.some.inj h
    subst e
    show tpar (s :: l) ((t - 1) :: ts) u = _
    have hp' : 0 < t := hp
    rw [tpar_cons, tpar_cons]
    by_cases ht : t % 2 = 1
    · rw [if_neg (by omega), if_pos ht]
      have := tpar_acc l ts (oddEnds s) u
      rw [Nat.xor_comm u, this, Nat.xor_comm (oddEnds s), xor_can]
    · rw [if_pos (by omega), if_neg ht, Nat.xor_comm u, tpar_acc, Nat.xor_comm]
  | s :: l, t :: ts, i + 1, r, u, h, hp => by
    show tpar (s :: l) (t :: ts.set i (ts.getD i 0 - 1)) u = _
    rw [tpar_cons, tpar_cons]
    exact tpar_set (l := l) (ts := ts) (i := i) h hp
theorem tpar_phi {c : Nat} : ∀ (l : List Street) (ts : List Nat) (u : Nat), WS 7 l → (∀ x ∈ l.zip ts, 0 < x.2 → c.testBit x.1.a = c.testBit x.1.b) → phi c (tpar l ts u) = phi c u
  | [], _, _, _, _ => rfl
  | s :: l, [], _, _, _ => rfl
  | s :: l, t :: ts, u, w, h => by
    rw [tpar_cons, tpar_phi l ts _ w.tail (fun x hx => h x (List.mem_cons_of_mem _ hx))]
    split
    · have e := h (s, t) (List.mem_cons_self ..) (by show 0 < t; omega)
      rw [phi_xor, oddEnds, phi_xor, phi_pow c _ w.head.1, phi_pow c _ w.head.2]
      have e' : c.testBit s.a = c.testBit s.b := e
      rw [e', Bool.xor_self, Bool.xor_false]
    · rfl
def rest (l : List Street) (ts : List Nat) : List Street := ((l.zip ts).filter fun x => decide (0 < x.2)).map fun x => x.1
theorem rest_mem {l : List Street} {ts : List Nat} {s : Street} : s ∈ rest l ts ↔ ∃ i : Nat, l[i]? = some s ∧ i < ts.length ∧ 0 < ts.getD i 0 := by
  constructor
  · intro h
    obtain ⟨x, hx, rfl⟩ := List.mem_map.mp h
    obtain ⟨h1, h2⟩ := List.mem_filter.mp hx
    obtain ⟨i, hi⟩ := List.mem_iff_getElem?.mp h1
    have := List.getElem?_zip_eq_some.mp hi
    refine ⟨i, this.1, (List.getElem?_eq_some_iff.mp this.2).1, ?_⟩
    rw [getD_of this.2]
    exact of_decide_eq_true h2
  · rintro ⟨i, h1, h2, h3⟩
    refine List.mem_map.mpr ⟨(s, ts.getD i 0), List.mem_filter.mpr ⟨?_, decide_eq_true h3⟩, rfl⟩
    exact List.mem_iff_getElem?.mpr ⟨i, List.getElem?_zip_eq_some.mpr ⟨h1, getD_lt h2 0⟩⟩
def dec (ts : List Nat) (i : Nat) : List Nat := ts.set i (ts.getD i 0 - 1)
theorem dec_len (ts : List Nat) (i : Nat) : (dec ts i).length = ts.length := List.length_set
theorem dec_same {ts : List Nat} {i : Nat} (h : i < ts.length) : (dec ts i).getD i 0 = ts.getD i 0 - 1 := by
  unfold dec
  rw [List.getD_eq_getElem?_getD (l := ts.set _ _), List.getElem?_set_self h]
  rfl
theorem dec_ne {ts : List Nat} {i k : Nat} (h : i ≠ k) : (dec ts i).getD k 0 = ts.getD k 0 := by
  unfold dec
  rw [List.getD_eq_getElem?_getD (l := ts.set _ _), List.getElem?_set_ne h, ← List.getD_eq_getElem?_getD]
theorem dec_le (ts : List Nat) (i k : Nat) : (dec ts i).getD k 0 ≤ ts.getD k 0 := by
  by_cases h : i = k
  · subst h
    by_cases hl : i < ts.length
    · rw [dec_same hl]; omega
    · have : dec ts i = ts := by unfold dec; exact List.set_eq_of_length_le (by omega)
      rw [this]; exact Nat.le_refl _
  · rw [dec_ne h]; exact Nat.le_refl _
theorem rest_dec_sub {l : List Street} {ts : List Nat} {i : Nat} : ∀ s ∈ rest l (dec ts i), s ∈ rest l ts := fun s h => by
  obtain ⟨k, h1, h2, h3⟩ := rest_mem.mp h
  rw [dec_len] at h2
  have := dec_le ts i k
  exact rest_mem.mpr ⟨k, h1, h2, by omega⟩
theorem rest_ws {n : Nat} {l : List Street} {ts : List Nat} (w : WS n l) : WS n (rest l ts) := w.sub fun s h => by
  obtain ⟨k, h1, _⟩ := rest_mem.mp h
  exact List.mem_of_getElem? h1
def behind (s : Street) (p : Nat) : Nat := if p = s.a then s.b else s.a
def canGo (l : List Street) (ts : List Nat) (p : Nat) : Bool := (rest l ts).all fun s => decide (closure (rest l ts) p &&& endsOf s ≠ 0)
theorem canGo_iff {l : List Street} {ts : List Nat} {p : Nat} (w : WS 7 l) (hp : p < 7) : canGo l ts p = true ↔ ∀ s ∈ rest l ts, Conn (rest l ts) p s.a := by
  unfold canGo
  rw [List.all_eq_true]
  have wr : WS 7 (rest l ts) := rest_ws w
  have key : ∀ s ∈ rest l ts, (closure (rest l ts) p &&& endsOf s ≠ 0) ↔ Conn (rest l ts) p s.a := by
    intro s hs
    unfold endsOf
    rw [Ne, and_ends]
    have ha := closure_iff wr hp s.a
    have hb := closure_iff wr hp s.b
    constructor
    · intro h
      cases e : (closure (rest l ts) p).testBit s.a with
      | true => exact ha.mp e
      | false =>
        cases e2 : (closure (rest l ts) p).testBit s.b with
        | true => exact .bwd (hb.mp e2) hs
        | false => exact absurd ⟨e, e2⟩ h
    · intro h q
      have := ha.mpr h
      rw [q.1] at this
      cases this
  constructor
  · intro h s hs
    exact (key s hs).mp (of_decide_eq_true (h s hs))
  · intro h s hs
    exact decide_eq_true ((key s hs).mpr (h s hs))
structure Inv (l : List Street) (q : Nat) (ts : List Nat) (p : Nat) : Prop where
  len : ts.length = l.length
  p7 : p < 7
  par : tpar l ts 0 = 2 ^ p ^^^ 2 ^ q
  rch : ∀ s ∈ rest l ts, Conn (rest l ts) p s.a
def At (l : List Street) (ts : List Nat) (p i : Nat) (s : Street) : Prop := l[i]? = some s ∧ 0 < ts.getD i 0 ∧ (s.a = p ∨ s.b = p)
theorem behind_pow {s : Street} {p : Nat} (h : s.a = p ∨ s.b = p) : 2 ^ p ^^^ oddEnds s = 2 ^ behind s p := by
  unfold behind oddEnds
  split
  · rename_i e
    rw [e, ← Nat.xor_assoc, Nat.xor_self, Nat.zero_xor]
  · rename_i e
    rcases h with h | h
    · exact absurd h.symm e
    · rw [← h, Nat.xor_comm (2 ^ s.a), ← Nat.xor_assoc, Nat.xor_self, Nat.zero_xor]
theorem behind_lt {s : Street} {p n : Nat} (ha : s.a < n) (hb : s.b < n) : behind s p < n := by
  unfold behind
  split <;> assumption
theorem behind_ends {s : Street} {p : Nat} (h : s.a = p ∨ s.b = p) : (s.a = p ∧ s.b = behind s p) ∨ (s.b = p ∧ s.a = behind s p) := by
  unfold behind
  split
  · rename_i e; exact .inl ⟨e.symm, rfl⟩
  · rename_i e
    rcases h with h | h
    · exact absurd h.symm e
    · exact .inr ⟨h, rfl⟩
theorem conn_start {R : List Street} {p x : Nat} (h : Conn R p x) : x = p ∨ ∃ s ∈ R, s.a = p ∨ s.b = p := by
  induction h with
  | refl => exact .inl rfl
  | @fwd s _ hs ih =>
    rcases ih with e | e
    · exact .inr ⟨s, hs, .inl e⟩
    · exact .inr e
  | @bwd s _ hs ih =>
    rcases ih with e | e
    · exact .inr ⟨s, hs, .inr e⟩
    · exact .inr e
section
variable {l : List Street} {q : Nat} {ts : List Nat} {p : Nat} (w : WS 7 l) (q7 : q < 7) (I : Inv l q ts p)
theorem rest_cases {i : Nat} {s t : Street} (hi : l[i]? = some s) (ht : t ∈ rest l ts) : t ∈ rest l (dec ts i) ∨ t = s := by
  obtain ⟨k, h1, h2, h3⟩ := rest_mem.mp ht
  by_cases e : i = k
  · subst e
    rw [h1] at hi
    exact .inr (Option.some.inj hi)
  · refine .inl (rest_mem.mpr ⟨k, h1, by rw [dec_len]; exact h2, ?_⟩)
    rw [dec_ne e]; exact h3
include w q7 I
theorem inv_next {i : Nat} {s : Street} (h : At l ts p i s) (hc : canGo l (dec ts i) (behind s p) = true) : Inv l q (dec ts i) (behind s p) := by
  have hm := w s (List.mem_of_getElem? h.1)
  have b7 := behind_lt (p := p) hm.1 hm.2
  refine ⟨by rw [dec_len]; exact I.len, b7, ?_, (canGo_iff w b7).mp hc⟩
  unfold dec
  rw [tpar_set h.1 h.2.1, I.par, xor_right_comm, behind_pow h.2.2]
theorem par_next {i : Nat} {s : Street} (h : At l ts p i s) : tpar l (dec ts i) 0 = 2 ^ behind s p ^^^ 2 ^ q := by
  unfold dec
  rw [tpar_set h.1 h.2.1, I.par, xor_right_comm, behind_pow h.2.2]
theorem bad_far {i : Nat} {s : Street} (h : At l ts p i s) (hc : ¬ canGo l (dec ts i) (behind s p) = true) : ¬ Conn (rest l (dec ts i)) (behind s p) p := by
  intro k
  have hm := w s (List.mem_of_getElem? h.1)
  have b7 := behind_lt (p := p) hm.1 hm.2
  apply hc
  rw [canGo_iff w b7]
  intro t ht
  have h0 := I.rch t (rest_dec_sub t ht)
  have hs := behind_ends h.2.2
  have hb : Conn (rest l (dec ts i)) (behind s p) (behind s p) := .refl
  have key : ∀ x, Conn (rest l ts) p x → Conn (rest l (dec ts i)) (behind s p) x := by
    intro x hx
    induction hx with
    | refl => exact k
    | @fwd r _ hr ih =>
      rcases rest_cases h.1 hr with e | e
      · exact .fwd ih e
      · subst e
        rcases hs with ⟨_, e2⟩ | ⟨e2, _⟩
        · rw [e2]; exact hb
        · rw [e2]; exact k
    | @bwd r _ hr ih =>
      rcases rest_cases h.1 hr with e | e
      · exact .bwd ih e
      · subst e
        rcases hs with ⟨e2, _⟩ | ⟨_, e2⟩
        · rw [e2]; exact k
        · rw [e2]; exact hb
  exact key _ h0
theorem bad_end {i : Nat} {s : Street} (h : At l ts p i s) : Conn (rest l (dec ts i)) (behind s p) q := by
  have hm := w s (List.mem_of_getElem? h.1)
  have b7 := behind_lt (p := p) hm.1 hm.2
  have wr : WS 7 (rest l (dec ts i)) := rest_ws w
  have e := tpar_phi (c := closure (rest l (dec ts i)) (behind s p)) l (dec ts i) 0 w (fun x hx hx0 => by
    have hx' : x.1 ∈ rest l (dec ts i) := List.mem_map.mpr ⟨x, List.mem_filter.mpr ⟨hx, decide_eq_true hx0⟩, rfl⟩
    exact fix_bits (mpass_fix (closure_fixed wr b7) _ hx'))
  rw [par_next w q7 I h, phi_xor, phi_pow _ _ b7, phi_pow _ _ q7, phi_zero, (closure_iff wr b7 _).mpr .refl] at e
  refine (closure_iff wr b7 q).mp ?_
  cases e2 : (closure (rest l (dec ts i)) (behind s p)).testBit q with
  | true => rfl
  | false => rw [e2] at e; cases e
theorem bad_other {i : Nat} {s : Street} (h : At l ts p i s) (hc : ¬ canGo l (dec ts i) (behind s p) = true) : ∃ j t, j ≠ i ∧ At l ts p j t := by
  have hm := w s (List.mem_of_getElem? h.1)
  have b7 := behind_lt (p := p) hm.1 hm.2
  have hil : i < ts.length := by rw [I.len]; exact (List.getElem?_eq_some_iff.mp h.1).1
  have far := bad_far w q7 I h hc
  have hs := behind_ends h.2.2
  apply Classical.byContradiction
  intro none
  have alone : ∀ t ∈ rest l (dec ts i), t.a ≠ p ∧ t.b ≠ p := by
    intro t ht
    obtain ⟨k, h1, h2, h3⟩ := rest_mem.mp ht
    have no : ¬ (t.a = p ∨ t.b = p) := by
      intro hat
      by_cases e : k = i
      · subst e
        rw [h.1] at h1
        have e1 : s = t := Option.some.inj h1
        subst e1
        apply far
        rcases hs with ⟨e2, e3⟩ | ⟨e2, e3⟩
        · have := Conn.bwd (l := rest l (dec ts k)) (p := behind s p) (s := s) (by rw [e3]; exact .refl) ht
          rwa [e2] at this
        · have := Conn.fwd (l := rest l (dec ts k)) (p := behind s p) (s := s) (by rw [e3]; exact .refl) ht
          rwa [e2] at this
      · exact none ⟨k, t, e, h1, by have := dec_le ts i k; omega, hat⟩
    exact ⟨fun e => no (.inl e), fun e => no (.inr e)⟩
  apply hc
  rw [canGo_iff w b7]
  intro t ht
  have h0 := I.rch t (rest_dec_sub t ht)
  have key : ∀ x, Conn (rest l ts) p x → x = p ∨ Conn (rest l (dec ts i)) (behind s p) x := by
    intro x hx
    induction hx with
    | refl => exact .inl rfl
    | @fwd r _ hr ih =>
      rcases rest_cases h.1 hr with e | e
      · rcases ih with e2 | e2
        · exact absurd e2 (alone r e).1
        · exact .inr (.fwd e2 e)
      · subst e
        rcases hs with ⟨_, e2⟩ | ⟨e2, _⟩
        · exact .inr (by rw [e2]; exact .refl)
        · exact .inl e2
    | @bwd r _ hr ih =>
      rcases rest_cases h.1 hr with e | e
      · rcases ih with e2 | e2
        · exact absurd e2 (alone r e).2
        · exact .inr (.bwd e2 e)
      · subst e
        rcases hs with ⟨e2, _⟩ | ⟨_, e2⟩
        · exact .inl e2
        · exact .inr (by rw [e2]; exact .refl)
  rcases key _ h0 with e | e
  · exact absurd e (alone t ht).1
  · exact e
theorem one_goes (hn : rest l ts ≠ []) : ∃ i s, At l ts p i s ∧ canGo l (dec ts i) (behind s p) = true := by
  apply Classical.byContradiction
  intro none
  have bad : ∀ i s, At l ts p i s → ¬ canGo l (dec ts i) (behind s p) = true := fun i s h k => none ⟨i, s, h, k⟩
  -- a street at p
  obtain ⟨s0, hs0⟩ := List.exists_mem_of_ne_nil _ hn
  obtain ⟨s, hs, hat⟩ : ∃ s ∈ rest l ts, s.a = p ∨ s.b = p := by
    rcases conn_start (I.rch s0 hs0) with e | e
    · exact ⟨s0, hs0, .inl e⟩
    · exact e
  obtain ⟨i, h1, h2, h3⟩ := rest_mem.mp hs
  have hi : At l ts p i s := ⟨h1, h3, hat⟩
  obtain ⟨j, t, hji, hj⟩ := bad_other w q7 I hi (bad i s hi)
  have fi := bad_far w q7 I hi (bad i s hi)
  have fj := bad_far w q7 I hj (bad j t hj)
  have ei := bad_end w q7 I hi
  have ej := bad_end w q7 I hj
  have hjl : j < ts.length := by rw [I.len]; exact (List.getElem?_eq_some_iff.mp hj.1).1
  -- from behind s to q without street j
  have key : ∀ x, Conn (rest l (dec ts i)) (behind s p) x → Conn (rest l (dec ts j)) (behind s p) x := by
    have keep : ∀ {r : Street}, r ∈ rest l (dec ts i) → ¬ (r.a = p ∨ r.b = p) → r ∈ rest l (dec ts j) := by
      intro r hr hno
      obtain ⟨k, k1, k2, k3⟩ := rest_mem.mp hr
      have hkj : j ≠ k := fun e => by
        subst e
        rw [hj.1] at k1
        have e1 : t = r := Option.some.inj k1
        subst e1
        exact hno hj.2.2
      refine rest_mem.mpr ⟨k, k1, by rw [dec_len] at k2 ⊢; exact k2, ?_⟩
      rw [dec_ne hkj]
      have := dec_le ts i k
      omega
    intro x hx
    induction hx with
    | refl => exact .refl
    | @fwd r hc hr ih =>
      refine .fwd ih (keep hr ?_)
      rintro (e | e)
      · exact fi (by rw [e] at hc; exact hc)
      · exact fi (by have := Conn.fwd hc hr; rwa [e] at this)
    | @bwd r hc hr ih =>
      refine .bwd ih (keep hr ?_)
      rintro (e | e)
      · exact fi (by have := Conn.bwd hc hr; rwa [e] at this)
      · exact fi (by rw [e] at hc; exact hc)
  have k1 : Conn (rest l (dec ts j)) (behind t p) (behind s p) := ej.trans (key _ ei).symm
  have hsj : s ∈ rest l (dec ts j) := rest_mem.mpr ⟨i, h1, by rw [dec_len]; exact h2, by rw [dec_ne hji]; exact h3⟩
  apply fj
  rcases behind_ends hat with ⟨e2, e3⟩ | ⟨e2, e3⟩
  · have := Conn.bwd (s := s) (by rw [e3]; exact k1) hsj
    rwa [e2] at this
  · have := Conn.fwd (s := s) (by rw [e3]; exact k1) hsj
    rwa [e2] at this
end
end Mi

set_option Elab.async false
set_option linter.all false
namespace Mi
open Vbcsag
/-! ### the told walk -/
def goodAt (l : List Street) (ts : List Nat) (p i : Nat) : Bool := decide (0 < ts.getD i 0) && (decide (endsOf (l.getD i street0) &&& 2 ^ p ≠ 0) && canGo l (dec ts i) (behind (l.getD i street0) p))
def firstP (l : List Street) (ts : List Nat) (p : Nat) : Option Nat := (List.range l.length).find? (goodAt l ts p)
def walkM (l : List Street) : Nat → List Nat → Nat → List Nat
  | 0, _, _ => []
  | k + 1, ts, p => match firstP l ts p with
    | none => []
    | some i => i :: walkM l k (dec ts i) (behind (l.getD i street0) p)
theorem find_some {f : Nat → Option (Nat × Nat)} {g : Nat → Bool} {h : Nat → Nat × Nat} : ∀ (L : List Nat), (∀ i ∈ L, f i = if g i = true then some (h i) else none) → L.findSome? f = (L.find? g).map h
  | [], _ => rfl
  | i :: L, H => by
    have hi := H i (List.mem_cons_self ..)
    rw [List.findSome?_cons, List.find?_cons, hi]
    cases g i with
    | true => rfl
    | false => exact find_some L fun j hj => H j (List.mem_cons_of_mem _ hj)
theorem ends_at {s : Street} {p : Nat} : endsOf s &&& 2 ^ p ≠ 0 ↔ (s.a = p ∨ s.b = p) := by
  rw [Ne, and_pow]
  unfold endsOf
  rw [Nat.testBit_or, Nat.testBit_two_pow, Nat.testBit_two_pow]
  by_cases h1 : s.a = p <;> by_cases h2 : s.b = p <;> simp [h1, h2]
theorem other_at {s : Street} {p : Nat} : other s p = if endsOf s &&& 2 ^ p ≠ 0 then some (behind s p) else none := by
  by_cases h : s.a = p ∨ s.b = p
  · rw [if_pos (ends_at.mpr h)]
    unfold other behind
    by_cases h1 : s.a = p
    · rw [if_pos h1, if_pos h1.symm]
    · rw [if_neg h1, if_pos (h.resolve_left h1), if_neg (fun (e : p = s.a) => h1 e.symm)]
  · rw [if_neg (fun e => h (ends_at.mp e))]
    unfold other
    rw [if_neg (fun e => h (.inl e)), if_neg (fun e => h (.inr e))]
theorem tpar_zero : ∀ (l : List Street) (ts : List Nat) (u : Nat), rest l ts = [] → tpar l ts u = u
  | [], _, _, _ => rfl
  | s :: l, [], _, _ => rfl
  | s :: l, t :: ts, u, h => by
    unfold rest at h
    rw [List.zip_cons_cons, List.filter_cons] at h
    by_cases ht : 0 < t
    · rw [if_pos (decide_eq_true ht)] at h
      cases h
    · rw [if_neg (by simpa using ht)] at h
      rw [tpar_cons, if_neg (by omega)]
      exact tpar_zero l ts u h
theorem pow_inj {a b : Nat} (h : 2 ^ a ^^^ 2 ^ b = 0) : a = b := by
  have e : (2 : Nat) ^ a = 2 ^ b := by
    have h2 := congrArg (fun x => x ^^^ 2 ^ b) h
    simp only [xor_can, Nat.zero_xor] at h2
    exact h2
  rcases Nat.lt_trichotomy a b with h1 | h1 | h1
  · have := pow_ltn h1; omega
  · exact h1
  · have := pow_ltn h1; omega
theorem rest_filter (l : List Street) (ts : List Nat) : ((l.zip ts).filter fun x => x.2 != 0) = (l.zip ts).filter fun x => decide (0 < x.2) := by
  refine List.filter_congr fun x _ => ?_
  rw [Bool.eq_iff_iff, decide_eq_true_eq, bne_iff_ne]
  omega
theorem canEnd_eq {m : Map} (w : WM m) {ts : List Nat} {p q : Nat} (hp : p < m.n) (hpar : tpar m.streets ts 0 = 2 ^ p ^^^ 2 ^ q) : canEnd m ts p q = canGo m.streets ts p := by
  unfold canEnd
  rw [rest_filter]
  have h7 : p < 7 := Nat.lt_of_lt_of_le hp w.n7
  by_cases he : ((m.streets.zip ts).filter fun x => decide (0 < x.2)) = []
  · have hr : rest m.streets ts = [] := by unfold rest; rw [he]; rfl
    rw [he]
    rw [tpar_zero _ _ _ hr] at hpar
    have e := pow_inj hpar.symm
    show (p == q) = _
    unfold canGo
    rw [hr, e]
    simp
  · have hne : ((m.streets.zip ts).filter fun x => decide (0 < x.2)).isEmpty = false := by simpa using he
    simp only [hne]
    show ((m.streets.zip ts).filter fun x => decide (0 < x.2)).all (fun x => (reached (rest m.streets ts) m.n [p]).contains x.1.a) = _
    have wr : WS m.n (rest m.streets ts) := rest_ws w.ws
    rw [Bool.eq_iff_iff, canGo_iff w.ws7 h7, List.all_eq_true]
    constructor
    · intro h s hs
      obtain ⟨x, hx, rfl⟩ := List.mem_map.mp hs
      have := h x hx
      rw [List.contains_eq_mem, decide_eq_true_eq] at this
      exact (reached_iff w.n7 wr hp _).mp this
    · intro h x hx
      rw [List.contains_eq_mem, decide_eq_true_eq]
      exact (reached_iff w.n7 wr hp _).mpr (h x.1 (List.mem_map.mpr ⟨x, hx, rfl⟩))
theorem goodAt_at {l : List Street} {ts : List Nat} {p i : Nat} (hi : i < l.length) : goodAt l ts p i = true ↔ At l ts p i (l.getD i street0) ∧ canGo l (dec ts i) (behind (l.getD i street0) p) = true := by
  unfold goodAt At
  rw [Bool.and_eq_true, Bool.and_eq_true, decide_eq_true_eq, decide_eq_true_eq, ends_at]
  constructor
  · rintro ⟨h1, h2, h3⟩
    exact ⟨⟨getD_lt hi _, h1, h2⟩, h3⟩
  · rintro ⟨⟨_, h1, h2⟩, h3⟩
    exact ⟨h1, h2, h3⟩
theorem step_some {m : Map} (w : WM m) {ts : List Nat} {p q : Nat} (q7 : q < 7) (I : Inv m.streets q ts p) (hp : p < m.n) :
    ((List.range m.streets.length).findSome? fun i => if ts.getD i 0 = 0 then none else (other (streetAt m i) p).bind fun r => if canEnd m (ts.set i (ts.getD i 0 - 1)) r q = true then some (i, r) else none) = (firstP m.streets ts p).map fun i => (i, behind (m.streets.getD i street0) p) := by
  unfold firstP
  refine find_some _ fun i hi => ?_
  have hi := List.mem_range.mp hi
  have hm := w.ws _ (List.mem_of_getElem? (getD_lt hi street0))
  unfold goodAt
  by_cases h0 : ts.getD i 0 = 0
  · rw [if_pos h0, if_neg]
    rw [Bool.and_eq_true, decide_eq_true_eq]
    omega
  · rw [if_neg h0, other_at]
    show (if endsOf (m.streets.getD i street0) &&& 2 ^ p ≠ 0 then some (behind (m.streets.getD i street0) p) else none).bind _ = _
    by_cases h1 : endsOf (m.streets.getD i street0) &&& 2 ^ p ≠ 0
    · rw [if_pos h1, decide_eq_true h1, decide_eq_true (show 0 < ts.getD i 0 by omega), Bool.true_and, Bool.true_and]
      show (if canEnd m (dec ts i) (behind (m.streets.getD i street0) p) q = true then _ else _) = _
      rw [canEnd_eq w (behind_lt hm.1 hm.2) (par_next w.ws7 q7 I ⟨getD_lt hi _, by omega, ends_at.mp h1⟩)]
    · rw [if_neg h1, if_neg]
      · rfl
      · rw [Bool.and_eq_true, Bool.and_eq_true, decide_eq_true_eq, decide_eq_true_eq]
        exact fun e => h1 e.2.1
theorem walk_from {m : Map} (w : WM m) {q : Nat} (q7 : q < 7) : ∀ (k : Nat) {ts : List Nat} {p : Nat}, Inv m.streets q ts p → p < m.n → walkFrom m q k ts p = walkM m.streets k ts p
  | 0, _, _, _, _ => rfl
  | k + 1, ts, p, I, hp => by
    unfold walkFrom walkM
    rw [step_some w q7 I hp]
    cases e : firstP m.streets ts p with
    | none => rfl
    | some i =>
      have hg := List.find?_some e
      have hi : i < m.streets.length := List.mem_range.mp (List.mem_of_find?_eq_some e)
      obtain ⟨ha, hc⟩ := (goodAt_at hi).mp hg
      have hm := w.ws _ (List.mem_of_getElem? (getD_lt hi street0))
      show i :: walkFrom m q k (dec ts i) (behind (m.streets.getD i street0) p) = _
      rw [walk_from w q7 k (inv_next w.ws7 q7 I ha hc) (behind_lt hm.1 hm.2)]
theorem first_there {l : List Street} {q : Nat} {ts : List Nat} {p : Nat} (w : WS 7 l) (q7 : q < 7) (I : Inv l q ts p) (hn : 0 < ts.sum) : ∃ i, firstP l ts p = some i ∧ i < l.length ∧ At l ts p i (l.getD i street0) ∧ canGo l (dec ts i) (behind (l.getD i street0) p) = true := by
  have hne : rest l ts ≠ [] := by
    intro e
    have : ∀ (ts : List Nat), 0 < ts.sum → ∃ i, i < ts.length ∧ 0 < ts.getD i 0 := by
      intro ts
      induction ts with
      | nil => intro h; simp at h
      | cons t ts ih =>
        intro h
        by_cases ht : 0 < t
        · exact ⟨0, by simp, ht⟩
        · rw [List.sum_cons] at h
          obtain ⟨i, h1, h2⟩ := ih (by omega)
          exact ⟨i + 1, by simpa using h1, h2⟩
    obtain ⟨i, h1, h2⟩ := this ts hn
    have hl : i < l.length := by rw [← I.len]; exact h1
    have := rest_mem.mpr ⟨i, getD_lt hl street0, h1, h2⟩
    rw [e] at this
    cases this
  obtain ⟨i, s, ha, hc⟩ := one_goes w q7 I hne
  have hi : i < l.length := (List.getElem?_eq_some_iff.mp ha.1).1
  have es : l.getD i street0 = s := getD_of ha.1
  have hg : goodAt l ts p i = true := (goodAt_at hi).mpr ⟨es ▸ ha, es ▸ hc⟩
  cases e : firstP l ts p with
  | none =>
    have := List.find?_eq_none.mp e i (List.mem_range.mpr hi)
    exact absurd hg this
  | some j =>
    have hj : j < l.length := List.mem_range.mp (List.mem_of_find?_eq_some e)
    obtain ⟨h1, h2⟩ := (goodAt_at hj).mp (List.find?_some e)
    exact ⟨j, rfl, hj, h1, h2⟩
theorem sum_dec : ∀ {ts : List Nat} {i : Nat}, 0 < ts.getD i 0 → (dec ts i).sum + 1 = ts.sum
  | [], i, h => by simp at h
  | t :: ts, 0, h => by
    have h' : 0 < t := h
    show ((t - 1) :: ts).sum + 1 = (t :: ts).sum
    rw [List.sum_cons, List.sum_cons]
    omega
  | t :: ts, i + 1, h => by
    have ih := sum_dec (ts := ts) (i := i) h
    show (t :: dec ts i).sum + 1 = (t :: ts).sum
    rw [List.sum_cons, List.sum_cons]
    omega
/-! ### which streets are walked once more -/
def idx : Nat → List Bool → List Nat
  | _, [] => []
  | k, b :: x => if b = true then k :: idx (k + 1) x else idx (k + 1) x
theorem idx_eq : ∀ (k : Nat) (x : List Bool), idx k x = ((List.range x.length).filter fun i => x.getD i false).map fun i => i + k
  | _, [] => rfl
  | k, b :: x => by
    have hf : (List.filter (fun i => (b :: x).getD i false) ((List.range x.length).map Nat.succ)) = ((List.range x.length).filter fun i => x.getD i false).map Nat.succ := by
      rw [List.filter_map]; rfl
    rw [List.length_cons, List.range_succ_eq_map, List.filter_cons, hf, idx, idx_eq (k + 1) x]
    have e : (fun i => i + (k + 1)) = (fun i => i + k) ∘ Nat.succ := by
      funext i
      show i + (k + 1) = i + 1 + k
      omega
    show _ = List.map _ (if b = true then _ else _)
    split
    · rw [List.map_cons, List.map_map, e]
      show _ = (0 + k) :: _
      rw [Nat.zero_add]
    · rw [List.map_map, e]
theorem idx_zero (x : List Bool) : idx 0 x = (List.range x.length).filter fun i => x.getD i false := by
  rw [idx_eq]
  show List.map (fun i => i) _ = _
  exact List.map_id' _
def fl (l : List Street) : Nat → Nat → List Nat := match l with
  | [] => fun _ _ => []
  | s :: l => fun k u => if least 7 l u = least 7 (s :: l) u then fl l (k + 1) u else k :: fl l (k + 1) (u ^^^ oddEnds s)
theorem fl_eq : ∀ {l : List Street} {u : Nat} (k : Nat), WS 7 l → u < 2 ^ 7 → fl l k u = idx k (pick l (rowsOf 7 l) u)
  | [], _, _, _, _ => rfl
  | s :: l, u, k, w, hu => by
    rw [pick_cons]
    unfold fl
    split
    · rw [fl_eq (k + 1) w.tail hu]
      rfl
    · rw [fl_eq (k + 1) w.tail (Nat.xor_lt_two_pow hu (oddEnds_lt w.head.1 w.head.2)), ends_eq hu w.head.1 w.head.2]
      rfl
theorem extra_eq {m : Map} (w : WM m) : fl m.streets 0 (odd m) = (List.range (extra m).length).filter fun i => (extra m).getD i false := by
  rw [← idx_zero, fl_eq 0 w.ws7 (lt128 w.n7 (odd_lt w))]
  unfold extra
  rw [pick_seven w.n7 w.ws (odd_lt w)]
theorem extra_len (m : Map) : (extra m).length = m.streets.length := pick_len _ _ _
theorem idx_lt {k i : Nat} {x : List Bool} (h : i ∈ idx k x) : k ≤ i ∧ i < k + x.length := by
  rw [idx_eq] at h
  obtain ⟨j, hj, rfl⟩ := List.mem_map.mp h
  have := List.mem_range.mp (List.mem_filter.mp hj).1
  omega
theorem idx_fold {β : Type} (f : β → Street → β) (L : List Street) : ∀ (l : List Street) (x : List Bool) (k : Nat) (b : β), x.length = l.length → L.drop k = l → (idx k x).foldl (fun b i => f b (L.getD i street0)) b = (l.zip x).foldl (fun b y => if y.2 = true then f b y.1 else b) b
  | [], [], _, _, _, _ => rfl
  | s :: l, y :: x, k, b, h, e => by
    have hk : L[k]? = some s := by
      have := congrArg (fun z => z[0]?) e
      simpa [List.getElem?_drop] using this
    have e2 : L.drop (k + 1) = l := by
      have := congrArg (List.drop 1) e
      simpa [List.drop_drop, Nat.add_comm] using this
    rw [List.zip_cons_cons, List.foldl_cons]
    unfold idx
    show List.foldl _ b (if y = true then k :: idx (k + 1) x else idx (k + 1) x) = List.foldl _ (if y = true then f b s else b) _
    split
    · rw [List.foldl_cons, getD_of hk]
      exact idx_fold f L l x (k + 1) (f b s) (Nat.succ.inj h) e2
    · exact idx_fold f L l x (k + 1) b (Nat.succ.inj h) e2
theorem idx_sum (L : List Street) (x : List Bool) (h : x.length = L.length) : ((idx 0 x).map fun i => (L.getD i street0).long).sum = longOf L x := by
  have h1 := idx_fold (fun (b : Nat) s => b + s.long) L L x 0 0 h rfl
  have h2 : ∀ (q : List Nat) (b : Nat), q.foldl (fun b i => b + (L.getD i street0).long) b = b + (q.map fun i => (L.getD i street0).long).sum := by
    intro q
    induction q with
    | nil => intro b; rfl
    | cons i q ih => intro b; rw [List.foldl_cons, ih, List.map_cons, List.sum_cons, Nat.add_assoc]
  have h3 : ∀ (z : List (Street × Bool)) (b : Nat), z.foldl (fun b y => if y.2 = true then b + y.1.long else b) b = b + (z.map fun y => if y.2 = true then y.1.long else 0).sum := by
    intro z
    induction z with
    | nil => intro b; rfl
    | cons y z ih =>
      intro b
      rw [List.foldl_cons, ih, List.map_cons, List.sum_cons]
      split <;> omega
  rw [h2, h3, Nat.zero_add, Nat.zero_add] at h1
  unfold longOf
  rw [h1, vsum_eq]
/-! pick suits what is wanted -/
def xfold (l : List Street) (x : List Bool) (u : Nat) : Nat := (l.zip x).foldl (fun u y => if y.2 = true then u ^^^ oddEnds y.1 else u) u
theorem xfold_acc : ∀ (l : List Street) (x : List Bool) (u v : Nat), xfold l x (u ^^^ v) = u ^^^ xfold l x v
  | [], _, _, _ => rfl
  | s :: l, [], _, _ => rfl
  | s :: l, y :: x, u, v => by
    show xfold l x (if y = true then u ^^^ v ^^^ oddEnds s else u ^^^ v) = u ^^^ xfold l x (if y = true then v ^^^ oddEnds s else v)
    split
    · rw [Nat.xor_assoc, xfold_acc]
    · rw [xfold_acc]
theorem pick_suits : ∀ {l : List Street} {u : Nat}, WS 7 l → u < 2 ^ 7 → Can l u → xfold l (pick l (rowsOf 7 l) u) 0 = u
  | [], u, _, hu, h => by
    unfold Can at h
    rw [least_nil hu] at h
    by_cases e : u = 0
    · rw [e]; rfl
    · rw [if_neg e] at h; cases h
  | s :: l, u, w, hu, h => by
    have hs := oddEnds_lt w.head.1 w.head.2
    rw [pick_cons]
    split
    · rename_i e
      show xfold l _ 0 = u
      refine pick_suits w.tail hu ?_
      unfold Can at h ⊢
      rw [e]; exact h
    · rename_i e
      rw [ends_eq hu w.head.1 w.head.2]
      show xfold l (pick l (rowsOf 7 l) (u ^^^ oddEnds s)) (0 ^^^ oddEnds s) = u
      have hc : Can l (u ^^^ oddEnds s) := by
        unfold Can
        cases e2 : least 7 l (u ^^^ oddEnds s) with
        | some _ => rfl
        | none =>
          exfalso
          apply e
          rw [least_cons s l hu, ends_eq hu w.head.1 w.head.2, e2]
          exact (lesser_none _).symm
      rw [Nat.xor_comm 0, xfold_acc, pick_suits w.tail (Nat.xor_lt_two_pow hu hs) hc, Nat.xor_comm, xor_can]
def useL (l : List Street) (x : List Bool) : List Nat := (l.zip x).map fun y => y.1.need + (if y.2 = true then 1 else 0)
theorem tpar_use : ∀ (l : List Street) (x : List Bool) (u v : Nat), x.length = l.length → tpar l (useL l x) (u ^^^ v) = oddX l u ^^^ xfold l x v
  | [], [], _, _, _ => rfl
  | s :: l, y :: x, u, v, h => by
    show tpar l (useL l x) (if (s.need + (if y = true then 1 else 0)) % 2 = 1 then u ^^^ v ^^^ oddEnds s else u ^^^ v) = oddX l (if s.need % 2 = 1 then u ^^^ oddEnds s else u) ^^^ xfold l x (if y = true then v ^^^ oddEnds s else v)
    have hl := Nat.succ.inj h
    cases y with
    | true =>
      by_cases hn : s.need % 2 = 1
      · rw [if_neg (show ¬ (s.need + (if true = true then 1 else 0)) % 2 = 1 by rw [if_pos rfl]; omega), if_pos hn, if_pos rfl, ← tpar_use l x _ _ hl]
        congr 1
        rw [Nat.xor_assoc u, ← Nat.xor_assoc (oddEnds s), Nat.xor_comm (oddEnds s) v, xor_can]
      · rw [if_pos (show (s.need + (if true = true then 1 else 0)) % 2 = 1 by rw [if_pos rfl]; omega), if_neg hn, if_pos rfl, ← tpar_use l x _ _ hl, Nat.xor_assoc]
    | false =>
      by_cases hn : s.need % 2 = 1
      · rw [if_pos (show (s.need + (if false = true then 1 else 0)) % 2 = 1 by rw [if_neg (by decide)]; omega), if_pos hn, if_neg (by decide), ← tpar_use l x _ _ hl, xor_right_comm]
      · rw [if_neg (show ¬ (s.need + (if false = true then 1 else 0)) % 2 = 1 by rw [if_neg (by decide)]; omega), if_neg hn, if_neg (by decide), ← tpar_use l x _ _ hl]
theorem inv_start {m : Map} (w : WM m) {q : Nat} (hq : q < m.n) : Inv m.streets q (uses m) q := by
  have hx := extra_len m
  have hul : (uses m).length = m.streets.length := by
    unfold uses
    rw [List.length_map, List.length_zip, hx, Nat.min_self]
  refine ⟨hul, Nat.lt_of_lt_of_le hq w.n7, ?_, ?_⟩
  · rw [Nat.xor_self]
    have := tpar_use m.streets (extra m) 0 0 hx
    rw [Nat.xor_self] at this
    have e : extra m = pick m.streets (rowsOf 7 m.streets) (odd m) := by
      unfold extra
      rw [pick_seven w.n7 w.ws (odd_lt w)]
    have h2 : xfold m.streets (extra m) 0 = odd m := by
      rw [e]
      exact pick_suits w.ws7 (lt128 w.n7 (odd_lt w)) (can_odd w.ws7)
    have h3 : oddX m.streets 0 = odd m := (oddOf_eq w.ws7).symm
    rw [h2, h3, Nat.xor_self] at this
    exact this
  · have hall : ∀ s ∈ m.streets, s ∈ rest m.streets (uses m) := by
      intro s hs
      obtain ⟨i, hi⟩ := List.mem_iff_getElem?.mp hs
      have hil : i < m.streets.length := (List.getElem?_eq_some_iff.mp hi).1
      refine rest_mem.mpr ⟨i, hi, by omega, ?_⟩
      have hz : (m.streets.zip (extra m))[i]? = some (s, (extra m).getD i false) := List.getElem?_zip_eq_some.mpr ⟨hi, getD_lt (by omega) false⟩
      have : (uses m)[i]? = some (s.need + (if (extra m).getD i false = true then 1 else 0)) := by
        unfold uses
        rw [List.getElem?_map, hz]
        rfl
      rw [getD_of this]
      have := (w.vals s hs).2.1
      omega
    intro s hs
    have hs' : s ∈ m.streets := by
      obtain ⟨i, h1, _⟩ := rest_mem.mp hs
      exact List.mem_of_getElem? h1
    exact Conn.mono ((w.conn hq).symm.trans (w.conn (w.ws s hs').1)) hall
theorem walk_eq {m : Map} (w : WM m) {q : Nat} (hq : q < m.n) : walk m q = walkM m.streets (uses m).sum (uses m) q := by
  unfold walk
  rw [vsum_eq]
  exact walk_from w (Nat.lt_of_lt_of_le hq w.n7) _ (inv_start w hq) hq
end Mi

set_option Elab.async false
set_option linter.all false
namespace Mi
open Vbcsag
/-! ### how often each street is walked -/
def addAll (ts : List Nat) (q : List Nat) : List Nat := q.foldl (fun ts i => ts.set i (ts.getD i 0 + 1)) ts
theorem addAll_use : ∀ (l : List Street) (x : List Bool) (k : Nat) (P : List Nat), x.length = l.length → P.length = k → addAll (P ++ l.map fun s => s.need) (idx k x) = P ++ useL l x
  | [], [], _, _, _, _ => rfl
  | s :: l, y :: x, k, P, h, hk => by
    have hl := Nat.succ.inj h
    unfold idx
    show addAll (P ++ s.need :: (l.map fun s => s.need)) (if y = true then k :: idx (k + 1) x else idx (k + 1) x) = P ++ (s.need + (if y = true then 1 else 0)) :: useL l x
    have e1 : ∀ (a : Nat) (q : List Nat), P ++ a :: q = (P ++ [a]) ++ q := fun a q => by rw [List.append_assoc]; rfl
    split
    · show addAll ((P ++ s.need :: (l.map fun s => s.need)).set k ((P ++ s.need :: (l.map fun s => s.need)).getD k 0 + 1)) (idx (k + 1) x) = _
      have e2 : (P ++ s.need :: (l.map fun s => s.need)).getD k 0 = s.need := by
        rw [List.getD_eq_getElem?_getD, List.getElem?_append_right (by omega), hk, Nat.sub_self]
        rfl
      have e3 : (P ++ s.need :: (l.map fun s => s.need)).set k (s.need + 1) = P ++ (s.need + 1) :: (l.map fun s => s.need) := by
        rw [List.set_append_right _ _ (by omega), hk, Nat.sub_self]
        rfl
      rw [e2, e3, e1 (s.need + 1) (l.map fun s => s.need), e1 (s.need + 1) (useL l x), addAll_use l x (k + 1) (P ++ [s.need + 1]) hl (by rw [List.length_append, hk]; rfl)]
    · show _ = P ++ s.need :: useL l x
      rw [e1 s.need (l.map fun s => s.need), e1 s.need (useL l x), addAll_use l x (k + 1) (P ++ [s.need]) hl (by rw [List.length_append, hk]; rfl)]
theorem uses_eq {m : Map} (w : WM m) : addAll (m.streets.map fun s => s.need) (fl m.streets 0 (odd m)) = uses m := by
  have h := addAll_use m.streets (extra m) 0 [] (extra_len m) rfl
  rw [List.nil_append, List.nil_append, idx_zero, ← extra_eq w] at h
  exact h
/-! ### rounds -/
def goR (l : List Street) : Nat → List Nat → Option Nat
  | p, [] => some p
  | p, i :: r => if endsOf (l.getD i street0) &&& 2 ^ p ≠ 0 then goR l (behind (l.getD i street0) p) r else none
def roundM (l : List Street) (p : Nat) (row : List Nat) : Bool := (match goR l p row with
  | none => false
  | some r => decide (r = p)) && (List.range l.length).all fun i => decide ((l.getD i street0).need ≤ row.count i)
theorem trail_go (m : Map) : ∀ (row : List Nat) (p : Nat), (∀ i ∈ row, i < m.streets.length) → (trail m p row).map (fun r => r.getLastD p) = goR m.streets p row
  | [], p, _ => rfl
  | i :: r, p, h => by
    have hi := h i (List.mem_cons_self ..)
    unfold trail goR
    rw [getD_lt hi street0]
    show Option.map _ (match other (m.streets.getD i street0) p with
      | none => none
      | some q => (trail m q r).map fun r => q :: r) = _
    rw [other_at]
    by_cases e : endsOf (m.streets.getD i street0) &&& 2 ^ p ≠ 0
    · rw [if_pos e, if_pos e]
      show Option.map _ ((trail m (behind (m.streets.getD i street0) p) r).map fun r => behind (m.streets.getD i street0) p :: r) = _
      rw [← trail_go m r _ (fun j hj => h j (List.mem_cons_of_mem _ hj)), Option.map_map]
      congr 1
      funext r
      cases r with
      | nil => rfl
      | cons x r => rw [List.getLastD_cons]; show (behind (m.streets.getD i street0) p :: x :: r).getLastD p = _; rw [List.getLastD_cons, List.getLastD_cons]
    · rw [if_neg e, if_neg e]
      rfl
theorem countIn_eq (l : List Nat) (i : Nat) : countIn l i = l.count i := by
  unfold countIn List.count
  rw [List.countP_eq_length_filter]
theorem isRound_eq (m : Map) (p : Nat) (row : List Nat) (h : ∀ i ∈ row, i < m.streets.length) : isRound m p row = roundM m.streets p row := by
  unfold isRound roundM
  rw [← trail_go m row p h]
  congr 1
  · cases trail m p row with
    | none => rfl
    | some r =>
      show (r.getLastD p == p) = decide (r.getLastD p = p)
      exact Bool.eq_iff_iff.mpr (by simp)
  · congr 1
    funext i
    rw [countIn_eq]
    rfl
theorem walked_eq (m : Map) (l : List Nat) : walked m l = (l.map fun i => (m.streets.getD i street0).long).sum := by
  unfold walked
  rw [vsum_eq]
  rfl
/-! ### sharing -/
def shM (l : List Street) (h : Nat) : List Nat → Nat → Nat → List (Nat × Nat)
  | [], c, k => if 0 < c then [(c, k)] else []
  | i :: r, c, k => if h < k + (l.getD i street0).long then (c, k) :: shM l h r 1 (l.getD i street0).long else shM l h r (c + 1) (k + (l.getD i street0).long)
theorem share_eq (m : Map) (h : Nat) : ∀ (r now : List Nat), (handOut m h r now).map (fun x => (x.length, walked m x)) = shM m.streets h r now.length (walked m now)
  | [], now => by
    unfold handOut shM
    cases now with
    | nil => rfl
    | cons i q => rw [if_neg (by simp), if_pos (by simp)]; rfl
  | i :: r, now => by
    have e : walked m (now ++ [i]) = walked m now + (m.streets.getD i street0).long := by
      rw [walked_eq, walked_eq, List.map_append, List.sum_append]
      simp
    have e1 : walked m [i] = (m.streets.getD i street0).long := by rw [walked_eq]; simp
    unfold handOut shM
    rw [e]
    by_cases hh : walked m now + (m.streets.getD i street0).long ≤ h
    · rw [if_pos hh, if_neg (by omega), share_eq m h r (now ++ [i]), e, List.length_append]
      rfl
    · rw [if_neg hh, if_pos (by omega), List.map_cons, share_eq m h r [i], e1]
      rfl
/-! ### streets taken -/
theorem oddBy_eq : ∀ {l : List Street} {x : List Bool} {u : Nat}, WS 7 l → u < 2 ^ 7 → (l.zip x).foldl (fun u y => if y.2 = true then ends y.1 u else u) u = xfold l x u
  | [], _, _, _, _ => rfl
  | s :: l, [], _, _, _ => rfl
  | s :: l, y :: x, u, w, hu => by
    show List.foldl _ (if y = true then ends s u else u) _ = xfold l x (if y = true then u ^^^ oddEnds s else u)
    rw [ends_eq hu w.head.1 w.head.2]
    refine oddBy_eq w.tail ?_
    split
    · exact Nat.xor_lt_two_pow hu (oddEnds_lt w.head.1 w.head.2)
    · exact hu
def takenM (L : Nat) (row : List Int) : List Nat := (List.range L).filter fun i => row.contains (i : Int)
theorem chosen_len (m : Map) (row : List Int) : (chosen m row).length = m.streets.length := by
  unfold chosen
  rw [List.length_map, List.length_range]
theorem taken_eq (m : Map) (row : List Int) : idx 0 (chosen m row) = takenM m.streets.length row := by
  rw [idx_zero, chosen_len]
  unfold takenM
  refine List.filter_congr fun i hi => ?_
  unfold chosen
  rw [map_getD (α := Nat) (List.mem_range.mp hi)]
theorem taken_uniq {L : Nat} {row ns : List Int} (hp : ns.Pairwise (· < ·)) (hm : ∀ y, y ∈ ns ↔ y ∈ row) (hr : ∀ y ∈ row, 0 ≤ y ∧ y < (L : Int)) : ns = (takenM L row).map fun (i : Nat) => (i : Int) := by
  refine sorted_uniq hp ?_ fun y => ?_
  · rw [List.pairwise_map]
    unfold takenM
    refine List.Pairwise.filter _ (List.Pairwise.imp ?_ List.pairwise_lt_range)
    intro a b h
    exact Int.ofNat_lt.mpr h
  · rw [hm, List.mem_map]
    constructor
    · intro h
      have := hr y h
      refine ⟨y.toNat, ?_, Int.toNat_of_nonneg this.1⟩
      unfold takenM
      rw [List.mem_filter, List.mem_range, List.contains_eq_mem, decide_eq_true_eq, Int.toNat_of_nonneg this.1]
      exact ⟨by omega, h⟩
    · rintro ⟨i, hi, rfl⟩
      unfold takenM at hi
      rw [List.mem_filter, List.contains_eq_mem, decide_eq_true_eq] at hi
      exact hi.2
def suitM (l : List Street) (q : List Nat) : Nat := q.foldl (fun u i => u ^^^ oddEnds (l.getD i street0)) 0
theorem suit_eq {m : Map} (w : WM m) (row : List Int) : suitM m.streets (takenM m.streets.length row) = oddBy m.streets (chosen m row) := by
  unfold suitM oddBy
  rw [oddBy_eq w.ws7 (by decide), ← taken_eq]
  exact idx_fold (fun u s => u ^^^ oddEnds s) m.streets m.streets (chosen m row) 0 0 (chosen_len m row) rfl
theorem taken_long (m : Map) (row : List Int) : ((takenM m.streets.length row).map fun i => (m.streets.getD i street0).long).sum = longOf m.streets (chosen m row) := by
  rw [← taken_eq]
  exact idx_sum m.streets (chosen m row) (chosen_len m row)
theorem extra_long {m : Map} (w : WM m) : ((fl m.streets 0 (odd m)).map fun i => (m.streets.getD i street0).long).sum = longOf m.streets (extra m) := by
  rw [extra_eq w, ← idx_zero]
  exact idx_sum m.streets (extra m) (extra_len m)
end Mi

set_option Elab.async false
set_option linter.all false
set_option maxRecDepth 100000
set_option maxHeartbeats 2000000
namespace Rw
open PySem PySem.Spec PyProof.Rows L2
open Vbcsag (Street Map)
def topS (i : Nat) : Stmt := PySem.Challenge.pw_streetroundsdesk_s01_answers.main.body.getD i (.Pass ⟨0, 0, 0, 0⟩)
/-! ### defs by their names -/
/-- the def stands, is bound to its name, and takes these parameters -/
def Dn (K : PySem.W.Frag) (mg : Str → Option Value) (x : Str) (st : Stmt) (ps : List Str) : Prop := ∃ (f : Addr) (fd : FuncData), Fun K x x st f fd ∧ Binds K fd ps [] ∧ mg x = some (.ref f)
/-- the def of that name keeps the promise -/
def Df (P : Program) (w : World) (K : PySem.W.Frag) (mg : Str → Option Value) (base : Heap) (x : Str) (ps : List Str) (k : Nat) (sp : Sp) : Prop :=
  ∃ (f : Addr) (fd : FuncData), FnOk P w K mg base CX0 k f fd ps sp ∧ Binds K fd ps [] ∧ mg x = some (.ref f) ∧ PySem.W.keepIn K (.ref f) = true
section
variable {P : Program} {w : World} {K : PySem.W.Frag} {mg : Str → Option Value} {base : Heap}
theorem Dn.df {x : Str} {st : Stmt} {N ps : List Str} {k : Nat} {sp : Sp} (D : Dn K mg x st ps) (S : FnScope N ps (defScope st)) (len : ∀ vs H Q E, sp vs H Q E → vs.length = ps.length)
    (hb : ∀ (f : Addr) (cdv : Value) (A : Around) (outer : List Env) (s : Shared) (H : Hp) (vs : List V) (Q : VK) (E : XK), Room k (A.deeper (envOfC x (defScope st) s.heap.objs.size f cdv)) → sp vs H Q E →
      ∃ t, PSs (cxOf CX0 P w K mg base N x (defScope st) f cdv A outer s H E).nox (defBody st) t ∧ t { nx := fun _ H' => Q .non H', rt := Q } (start N vs) H) : Df P w K mg base x ps (k + 1) sp := by
  obtain ⟨f, fd, F, b, g⟩ := D
  exact ⟨f, fd, F.ok S len (hb f), b, g, F.kp⟩
end
section
variable {X : Cx} {x : Str} {ps : List Str} {k : Nat} {sp : Sp} {e : Expr} {es : List Expr} {t : TA} {p pos : Pos}
theorem pe_df (D : Df X.prog X.w X.K X.mg X.base x ps k sp) (hr : Room k X.A) (hg : Gl X x) (ha : PA X (e :: es) t) (hdb : (x == ("__debug__" : Str)) = false := by decide)
    (he : starEach (e :: es) X.env = (false, eval e X.env) :: starEach es X.env := by rfl) (hpl : (backTo pos (starEach es X.env)).any (·.1) = false := by rfl) : PE X (.Call (.Name x p) (e :: es) [] pos) (tCall sp [] E0 t) := by
  obtain ⟨f, fd, F, b, g, kp⟩ := D
  exact pe_call F hr hg g kp b .nil pass0 ha hdb he hpl
end
/-! ### streets on the heap -/
abbrev sfs (s : Street) : List (Str × V) := [("near", .int (s.a : Int)), ("far", .int (s.b : Int)), ("length", .int (s.long : Int)), ("often", .int (s.need : Int))]
def StrAt (C : Addr) (H : Hp) (a : Addr) (s : Street) : Prop := ∃ dx, H a = some (.ins C dx (sfs s))
/-- at l a list of streets is to be read -/
structure RowAt (K : PySem.W.Frag) (C : Addr) (H : Hp) (l : Addr) (as : List Addr) (ss : List Street) : Prop where
  lst : SqL K H l (as.map V.ref)
  len : as.length = ss.length
  at_ : ∀ (i : Nat) (a : Addr) (s : Street), as[i]? = some a → ss[i]? = some s → StrAt C H a s
theorem StrAt.same {C : Addr} {H H' : Hp} {a : Addr} {s : Street} (h : StrAt C H a s) (k : Same H H') : StrAt C H' a s := by
  obtain ⟨dx, e⟩ := h
  exact ⟨dx, k _ _ e⟩
theorem RowAt.same {K : PySem.W.Frag} {C : Addr} {H H' : Hp} {l : Addr} {as : List Addr} {ss : List Street} (h : RowAt K C H l as ss) (k : Same H H') : RowAt K C H' l as ss :=
  ⟨k.seq h.lst, h.len, fun i a s h1 h2 => (h.at_ i a s h1 h2).same k⟩
theorem same_upd {H : Hp} {p : Addr} {o : HO} (h : H p = none) : Same H (upd H p o) := fun b x e => by
  rw [upd_ne (ne_of_none e h)]
  exact e
/-- the class Street, as the top left it -/
structure Txt (K : PySem.W.Frag) (mg : Str → Option Value) (C : Addr) : Prop where
  cl : Cls K C
  nA : PySem.W.findIn K (.ref C) "near" = some none
  nB : PySem.W.findIn K (.ref C) "far" = some none
  nL : PySem.W.findIn K (.ref C) "length" = some none
  nO : PySem.W.findIn K (.ref C) "often" = some none

theorem iteP {c A B : Prop} [Decidable c] (hc : c) (h : A) : if c then A else B := by
  rw [if_pos hc]
  exact h
theorem iteN {c A B : Prop} [Decidable c] (hc : ¬ c) (h : B) : if c then A else B := by
  rw [if_neg hc]
  exact h
theorem nzF {x : Nat} (h : x = 0) : ¬ ((x : Int) != 0) = true := by
  rw [h]
  decide
theorem nzT {x : Nat} (h : ¬ x = 0) : ((x : Int) != 0) = true := bne_iff_ne.mpr (by omega)
/-! ### numbers that are sets -/
theorem xor_n (a b : Nat) : Builtin.bitXor (a : Int) (b : Int) = ((a ^^^ b : Nat) : Int) := by
  rw [Bits.bitXor_pp (Int.natCast_nonneg _) (Int.natCast_nonneg _), Int.toNat_natCast, Int.toNat_natCast]
theorem or_n (a b : Nat) : Builtin.bitOr (a : Int) (b : Int) = ((a ||| b : Nat) : Int) := by
  rw [Bits.bitOr_pp (Int.natCast_nonneg _) (Int.natCast_nonneg _), Int.toNat_natCast, Int.toNat_natCast]
theorem and_n (a b : Nat) : Builtin.bitAnd (a : Int) (b : Int) = ((a &&& b : Nat) : Int) := by
  rw [bitAnd_pp (Int.natCast_nonneg _) (Int.natCast_nonneg _), Int.toNat_natCast, Int.toNat_natCast]
theorem shl_n (p : Nat) : (1 : Int) * 2 ^ (p : Int).toNat = ((2 ^ p : Nat) : Int) := by
  rw [Int.one_mul, Int.toNat_natCast, Int.natCast_pow]
  rfl
abbrev vN (n : Nat) : V := .int (n : Int)
def rN (g : Nat → Nat → Nat) : R2 := fun x y H Q => ∃ a b : Nat, x = vN a ∧ y = vN b ∧ Q (vN (g a b)) H
section
variable {X : Cx}
theorem op_xorN : OpR X (binaryOp .BitXor) (rN fun a b => a ^^^ b) := by
  intro pins s σ H x y v u Q I rx ry h
  obtain ⟨a, b, e1, e2, q⟩ := h
  exact op_xor pins s σ H x y v u Q I rx ry ⟨_, _, e1, e2, by show Q (.int (Builtin.bitXor _ _)) H; rw [xor_n]; exact q⟩
theorem op_orN : OpR X (binaryOp .BitOr) (rN fun a b => a ||| b) := by
  intro pins s σ H x y v u Q I rx ry h
  obtain ⟨a, b, e1, e2, q⟩ := h
  exact op_or pins s σ H x y v u Q I rx ry ⟨_, _, e1, e2, by show Q (.int (Builtin.bitOr _ _)) H; rw [or_n]; exact q⟩
theorem op_andN : OpR X (binaryOp .BitAnd) (rN fun a b => a &&& b) := by
  intro pins s σ H x y v u Q I rx ry h
  obtain ⟨a, b, e1, e2, q⟩ := h
  exact op_and pins s σ H x y v u Q I rx ry ⟨_, _, e1, e2, by show Q (.int (Builtin.bitAnd _ _)) H; rw [and_n]; exact q⟩
theorem op_addN : OpR X (binaryOp .Add) (rN fun a b => a + b) := by
  intro pins s σ H x y v u Q I rx ry h
  obtain ⟨a, b, e1, e2, q⟩ := h
  exact op_add pins s σ H x y v u Q I rx ry ⟨_, _, e1, e2, by show Q (.int ((a : Int) + (b : Int))) H; rw [← Int.natCast_add]; exact q⟩
end
/-! ### rules whose reading names K by itself (for a comprehension's block) -/
section
variable {X : Cx} {a b e : Expr} {ta tb : TE} {pos : Pos} {f : Str}
def tInt (ta : TE) : TT := fun σ H Q => ta σ H fun x H' => ∃ i : Int, x = .int i ∧ Q (i != 0) H'
theorem pt_int (ha : PE X a ta) (he : ∀ whole, isTrue a X.env whole = (do let v ← whole; standAt a.pos; holding [v] (truthy v)) := by intro _; rfl) : PT X a (tInt ta) := by
  refine ⟨fun pins s σ H Q I h => ?_⟩
  refine isTrue_plain (thn (ha.run pins s σ H _ I h) fun v s1 ⟨x, H1, I1, r1, i, ex, q⟩ => ?_) (he _)
  exact tru_ok pins s1 σ H1 x v Q I1 r1 ⟨i != 0, by rw [ex]; rfl, q⟩
theorem pe_fldK (K : PySem.W.Frag) (he : PE X e ta) (hb : attributeBase e f X.env (eval e X.env) = eval e X.env) (hK : X.K = K := by rfl) : PE X (.Attribute e f pos) (tFld K ta f) := by
  rw [← hK]
  exact pe_fld he hb
theorem ix_listK (K : PySem.W.Frag) (hK : X.K = K := by rfl) : IxR X (rIxL K) := by
  rw [← hK]
  exact ix_list
theorem ix_tupK (K : PySem.W.Frag) (hK : X.K = K := by rfl) : IxR X (rIxT K) := by
  rw [← hK]
  exact ix_tup
end
/-! ### loops and comprehensions of any kind -/
theorem for_gen {J : It} {g : TG} {tb : TS} {D : Ends} {σ : L2.St} {H : Hp} (n : Nat) (Pv : Nat → L2.St → Hp → Prop) (h0 : Pv 0 σ H) (hgo : ∀ i σ H, i < n → Pv i σ H → J.go i H) (hst : ∀ σ H, Pv n σ H → J.stop n H)
    (hs : ∀ i σ H x H', i < n → Pv i σ H → J.yld i H x H' → g x σ H' fun σ2 H2 => tb { D with nx := Pv (i + 1), ct := Pv (i + 1), bk := D.nx } σ2 H2) (hd : ∀ σ H, Pv n σ H → D.nx σ H) :
    ∃ W : Nat → Nat → L2.St → Hp → Prop, (∃ m, W 0 m σ H) ∧ ∀ i m σ H, W i m σ H →
      (J.stop i H ∧ D.nx σ H) ∨ (J.go i H ∧ ∃ N : L2.St → Hp → Prop, (∀ σ' H', N σ' H' → ∃ m', m' < m ∧ W (i + 1) m' σ' H') ∧ ∀ x H', J.yld i H x H' → g x σ H' fun σ2 H2 => tb { D with nx := N, ct := N, bk := D.nx } σ2 H2) := by
  refine ⟨fun i m σ H => (m = n - i ∧ i ≤ n) ∧ Pv i σ H, ⟨n, ⟨(Nat.sub_zero n).symm, Nat.zero_le _⟩, h0⟩, ?_⟩
  rintro i m σ H ⟨⟨rfl, hi⟩, p⟩
  rcases Nat.lt_or_eq_of_le hi with hl | he
  · exact .inr ⟨hgo i σ H hl p, Pv (i + 1), fun σ' H' p' => ⟨n - (i + 1), Nat.sub_lt_sub_left hl (Nat.lt_succ_self i), ⟨rfl, hl⟩, p'⟩, fun x H' y => hs i σ H x H' hl p y⟩
  · cases he
    exact .inl ⟨hst σ H p, hd σ H p⟩
theorem lc_gen {J : It} {g : TG} {tt : TT} {te : TE} {vs : List Nat} {σ : L2.St} {H1 : Hp} {D : Addr} {Qd : Hp → Prop} (n : Nat) (acc : Nat → List V) (hD : H1 D = none) (a0 : acc 0 = []) (al : ∀ i, (acc i).length ≤ 1000)
    (hgo : ∀ i H, i < n → Same H1 H → J.go i H) (hst : ∀ H, Same H1 H → J.stop n H)
    (hs : ∀ (i : Nat) (H : Hp) (x : V) (H' : Hp) (Kp : V → Hp → Prop) (Kn : Hp → Prop), i < n → Same H1 H → J.yld i H x H' → (∀ y H4, Same H H4 → acc (i + 1) = acc i ++ [y] → Kp y H4) → (∀ H3, Same H H3 → acc (i + 1) = acc i → Kn H3) →
      g x (wipe σ vs) H' fun σ2 H2 => wipe σ2 vs = wipe σ vs ∧ tt σ2 H2 fun b H3 => if b = true then te σ2 H3 Kp else Kn H3)
    (hd : ∀ H, Same H1 H → H D = some (.lst (acc n)) → Qd H) :
    ∃ W : Nat → Nat → Hp → Prop, (∃ m, W 0 m (upd H1 D (.lst []))) ∧ ∀ i m H, W i m H →
      (J.stop i H ∧ Qd H) ∨ (J.go i H ∧ ∃ Nx : Hp → Prop, (∀ H', Nx H' → ∃ m', m' < m ∧ W (i + 1) m' H') ∧ ∀ x H', J.yld i H x H' → g x (wipe σ vs) H' fun σ2 H2 => wipe σ2 vs = wipe σ vs ∧ tt σ2 H2 fun b H3 =>
        if b = true then te σ2 H3 fun y H4 => ∃ acc, H4 D = some (.lst acc) ∧ acc.length < sizeLine ∧ Nx (upd H4 D (.lst (acc ++ [y]))) else Nx H3) := by
  refine ⟨fun i m H => (m = n - i ∧ i ≤ n) ∧ Same H1 H ∧ H D = some (.lst (acc i)), ⟨n, ⟨(Nat.sub_zero n).symm, Nat.zero_le _⟩, same_upd hD, by rw [upd_same, a0]⟩, ?_⟩
  rintro i m H ⟨⟨rfl, hi⟩, p, pD⟩
  rcases Nat.lt_or_eq_of_le hi with hl | he
  · refine .inr ⟨hgo i H hl p, fun H' => Same H1 H' ∧ H' D = some (.lst (acc (i + 1))), fun H' p' => ⟨n - (i + 1), Nat.sub_lt_sub_left hl (Nat.lt_succ_self i), ⟨rfl, hl⟩, p'⟩, fun x H' y => ?_⟩
    refine hs i H x H' _ _ hl p y (fun v H4 q e => ?_) (fun H3 q e => ?_)
    · refine ⟨acc i, q _ _ pD, small1000 (al i), fun b o e => ?_, ?_⟩
      · rw [upd_ne (ne_of_none e hD)]
        exact q _ _ (p _ _ e)
      · rw [upd_same, e]
    · exact ⟨fun b o e => q _ _ (p _ _ e), by rw [e]; exact q _ _ pD⟩
  · cases he
    exact .inl ⟨hst H p, hd H p pD⟩
end Rw

set_option Elab.async false
set_option linter.all false
set_option maxRecDepth 100000
set_option maxHeartbeats 2000000
namespace Rw
open PySem PySem.Spec PyProof.Rows L2
open Vbcsag (Street Map)
abbrev s_set_of : Stmt := topS 6
abbrev s_all_places : Stmt := topS 7
abbrev s_ends_of : Stmt := topS 9
abbrev s_odd_ends : Stmt := topS 10
abbrev s_place_behind : Stmt := topS 11
theorem sc_set_of : FnScope ["place"] ["place"] (defScope s_set_of) := ⟨rfl, rfl, rfl, by decide +kernel, rfl, by decide +kernel, by decide +kernel⟩
theorem sc_all_places : FnScope ["places"] ["places"] (defScope s_all_places) := ⟨rfl, rfl, rfl, by decide +kernel, rfl, by decide +kernel, by decide +kernel⟩
theorem sc_ends_of : FnScope ["street"] ["street"] (defScope s_ends_of) := ⟨rfl, rfl, rfl, by decide +kernel, rfl, by decide +kernel, by decide +kernel⟩
theorem sc_odd_ends : FnScope ["street"] ["street"] (defScope s_odd_ends) := ⟨rfl, rfl, rfl, by decide +kernel, rfl, by decide +kernel, by decide +kernel⟩
theorem sc_place_behind : FnScope ["street", "place"] ["street", "place"] (defScope s_place_behind) := ⟨rfl, rfl, rfl, by decide +kernel, rfl, by decide +kernel, by decide +kernel⟩
section
variable {P : Program} {w : World} {K : PySem.W.Frag} {mg : Str → Option Value} {base : Heap} {C : Addr}
def spSetOf : Sp := fun vs H Q _ => ∃ p : Nat, vs = [.int (p : Int)] ∧ p < 1000 ∧ Q (.int ((2 ^ p : Nat) : Int)) H
theorem df_set_of (D : Dn K mg "set_of" s_set_of ["place"]) : Df P w K mg base "set_of" ["place"] 1 spSetOf := by
  refine D.df sc_set_of (fun vs H Q E h => ?_) (fun f cdv A outer s H vs Q E hr h => ?_)
  · obtain ⟨p, rfl, _⟩ := h
    rfl
  · obtain ⟨p, rfl, hp, q⟩ := h
    refine ⟨_, pss_one (ps_ret (pe_op op_shl pe_int (pv 0))), ?_⟩
    refine ⟨_, rfl, _, _, rfl, rfl, ⟨by omega, by omega, by decide⟩, ?_⟩
    show Q (.int ((1 : Int) * 2 ^ (p : Int).toNat)) H
    rw [shl_n]
    exact q
def spAllPlaces : Sp := fun vs H Q _ => ∃ p : Nat, vs = [.int (p : Int)] ∧ p < 1000 ∧ Q (.int ((2 ^ p - 1 : Nat) : Int)) H
theorem df_all_places (D : Dn K mg "all_places" s_all_places ["places"]) : Df P w K mg base "all_places" ["places"] 1 spAllPlaces := by
  refine D.df sc_all_places (fun vs H Q E h => ?_) (fun f cdv A outer s H vs Q E hr h => ?_)
  · obtain ⟨p, rfl, _⟩ := h
    rfl
  · obtain ⟨p, rfl, hp, q⟩ := h
    refine ⟨_, pss_one (ps_ret (pe_op op_sub (pe_op op_shl pe_int (pv 0)) pe_int)), ?_⟩
    refine ⟨_, rfl, _, _, rfl, rfl, ⟨by omega, by omega, by decide⟩, _, _, rfl, rfl, ?_⟩
    show Q (.int ((1 : Int) * 2 ^ (p : Int).toNat - 1)) H
    rw [shl_n]
    have := Nat.two_pow_pos p
    have e : (((2 ^ p : Nat) : Int) - 1) = ((2 ^ p - 1 : Nat) : Int) := by omega
    rw [e]
    exact q
def spStreetI (C : Addr) (g : Street → Nat) : Sp := fun vs H Q _ => ∃ (a : Addr) (s : Street), vs = [.ref a] ∧ StrAt C H a s ∧ s.a < 7 ∧ s.b < 7 ∧ Q (.int (g s : Int)) H
theorem df_ends_of (T : Txt K mg C) (D : Dn K mg "ends_of" s_ends_of ["street"]) (Ds : Df P w K mg base "set_of" ["place"] 1 spSetOf) : Df P w K mg base "ends_of" ["street"] 2 (spStreetI C Mi.endsOf) := by
  refine D.df sc_ends_of (fun vs H Q E h => ?_) (fun f cdv A outer s H vs Q E hr h => ?_)
  · obtain ⟨a, s, rfl, _⟩ := h
    rfl
  · obtain ⟨a, st, rfl, ⟨dx, ha⟩, h1, h2, q⟩ := h
    refine ⟨_, pss_one (ps_ret (pe_op op_or (pe_df Ds hr (by rfl) (pa_cons (pe_fld (pv 0) rfl) pa_nil)) (pe_df Ds hr (by rfl) (pa_cons (pe_fld (pv 0) rfl) pa_nil)))), ?_⟩
    refine ⟨_, rfl, a, C, dx, _, _, rfl, ha, T.cl, T.nA, rfl, st.a, rfl, by omega, ?_⟩
    refine ⟨_, rfl, a, C, dx, _, _, rfl, ha, T.cl, T.nB, rfl, st.b, rfl, by omega, ?_⟩
    refine ⟨_, _, rfl, rfl, ?_⟩
    show Q (.int (Builtin.bitOr _ _)) H
    rw [or_n]
    exact q
theorem df_odd_ends (T : Txt K mg C) (D : Dn K mg "odd_ends" s_odd_ends ["street"]) (Ds : Df P w K mg base "set_of" ["place"] 1 spSetOf) : Df P w K mg base "odd_ends" ["street"] 2 (spStreetI C Mi.oddEnds) := by
  refine D.df sc_odd_ends (fun vs H Q E h => ?_) (fun f cdv A outer s H vs Q E hr h => ?_)
  · obtain ⟨a, s, rfl, _⟩ := h
    rfl
  · obtain ⟨a, st, rfl, ⟨dx, ha⟩, h1, h2, q⟩ := h
    refine ⟨_, pss_one (ps_ret (pe_op op_xor (pe_df Ds hr (by rfl) (pa_cons (pe_fld (pv 0) rfl) pa_nil)) (pe_df Ds hr (by rfl) (pa_cons (pe_fld (pv 0) rfl) pa_nil)))), ?_⟩
    refine ⟨_, rfl, a, C, dx, _, _, rfl, ha, T.cl, T.nA, rfl, st.a, rfl, by omega, ?_⟩
    refine ⟨_, rfl, a, C, dx, _, _, rfl, ha, T.cl, T.nB, rfl, st.b, rfl, by omega, ?_⟩
    refine ⟨_, _, rfl, rfl, ?_⟩
    show Q (.int (Builtin.bitXor _ _)) H
    rw [xor_n]
    exact q
def spBehind (C : Addr) : Sp := fun vs H Q _ => ∃ (a : Addr) (s : Street) (p : Nat), vs = [.ref a, .int (p : Int)] ∧ StrAt C H a s ∧ Q (.int (Mi.behind s p : Int)) H
theorem df_place_behind (T : Txt K mg C) (D : Dn K mg "place_behind" s_place_behind ["street", "place"]) : Df P w K mg base "place_behind" ["street", "place"] 1 (spBehind C) := by
  refine D.df sc_place_behind (fun vs H Q E h => ?_) (fun f cdv A outer s H vs Q E hr h => ?_)
  · obtain ⟨a, s, p, rfl, _⟩ := h
    rfl
  · obtain ⟨a, st, p, rfl, ⟨dx, ha⟩, q⟩ := h
    refine ⟨_, pss_cons (ps_if (pt_cmpR op_eq (pv 1) (pe_fld (pv 0) rfl) (nomark _)) (pss_one (ps_ret (pe_fld (pv 0) rfl))) pss_nil) (pss_one (ps_ret (pe_fld (pv 0) rfl))), ?_⟩
    refine ⟨_, rfl, _, rfl, a, C, dx, _, _, rfl, ha, T.cl, T.nA, rfl, rfl, _, rfl, ?_⟩
    unfold Mi.behind at q
    by_cases e : p = st.a
    · rw [if_pos e] at q
      rw [if_pos (decide_eq_true (by rw [e]))]
      exact ⟨_, rfl, a, C, dx, _, _, rfl, ha, T.cl, T.nB, rfl, q⟩
    · rw [if_neg e] at q
      rw [if_neg (fun z => e (by have z := of_decide_eq_true z; injection z; omega))]
      exact ⟨_, rfl, a, C, dx, _, _, rfl, ha, T.cl, T.nA, rfl, q⟩
end
end Rw

set_option Elab.async false
set_option linter.all false
set_option maxRecDepth 100000
set_option maxHeartbeats 2000000
namespace Rw
open PySem PySem.Spec PyProof.Rows L2
open Vbcsag (Street Map)
abbrev s_places_in : Stmt := topS 8
abbrev s_length_together : Stmt := topS 12
abbrev s_reached : Stmt := topS 13
theorem sc_places_in : FnScope ["places", "place"] ["places"] (defScope s_places_in) := ⟨rfl, rfl, rfl, by decide +kernel, rfl, by decide +kernel, by decide +kernel⟩
theorem sc_length_together : FnScope ["streets", "row", "i"] ["streets", "row"] (defScope s_length_together) := ⟨rfl, rfl, rfl, by decide +kernel, rfl, by decide +kernel, by decide +kernel⟩
theorem sc_reached : FnScope ["place", "streets", "before", "found", "street"] ["place", "streets"] (defScope s_reached) := ⟨rfl, rfl, rfl, by decide +kernel, rfl, by decide +kernel, by decide +kernel⟩
section
variable {tk tk2 : Tok} {P : Program} {w : World} {K : PySem.W.Frag} {mg : Str → Option Value} {base : Heap} {C : Addr}
def spPlacesIn : Sp := fun vs H Q _ => ∃ u : Nat, vs = [vN u] ∧ ∀ H' p, Same H H' → H p = none → H' p = some (.lst ((Vbcsag.placesOf 7 u).map vN)) → Q (.ref p) H'
theorem len_filter_le (f : Nat → Bool) (i : Nat) : (((List.range i).filter f).map vN).length ≤ i := by
  rw [List.length_map]
  have := List.length_filter_le f (List.range i)
  rwa [List.length_range] at this
theorem df_places_in (D : Dn K mg "places_in" s_places_in ["places"]) (Ds : Df P w K mg base "set_of" ["place"] 1 spSetOf) (gM : mg "MOST_PLACES" = some (.int 7 tk)) (gr : mg "range" = none) : Df P w K mg base "places_in" ["places"] 2 spPlacesIn := by
  refine D.df sc_places_in (fun vs H Q E h => ?_) (fun f cdv A outer s H vs Q E hr h => ?_)
  · obtain ⟨u, rfl, _⟩ := h
    rfl
  · obtain ⟨u, rfl, q⟩ := h
    refine ⟨_, pss_one (ps_ret (pe_lc (own := [("place", 1)]) (g := gName 1) (by rfl) sc_places_in.nd (pi_range1 (by rfl) gr (pa_cons (pe_glob (v := .int 7) rfl gM ⟨_, rfl⟩) pa_nil)) (blkOk_by (N := ["places", "place"]) (sc := defScope s_places_in) (own := [("place", 1)]) (by decide +kernel))
      (fun _ _ _ _ _ => pg_name (i := 1) sc_places_in.nd rfl (.inl rfl)) (fun _ _ _ _ _ => pts_one (pt_int (pe_op op_and (pv 0) (pe_df Ds hr (by rfl) (pa_cons (pv 1) pa_nil))))) (fun _ _ _ _ _ => pv 1))), ?_⟩
    refine ⟨7, rfl, by decide, by decide, fun D hD => lc_gen 7 (fun i => ((List.range (min i 7)).filter u.testBit).map vN) hD rfl (fun i => by have := len_filter_le u.testBit (min i 7); omega) (fun i H hi _ => hi) (fun H _ => Nat.le_refl 7) ?_ ?_⟩
    · rintro i H1 x H2 Kp Kn hi sm ⟨rfl, rfl⟩ hk hn
      refine ⟨rfl, vN u, rfl, _, rfl, i, ?_, by omega, _, _, rfl, rfl, ?_⟩
      · show [V.int (0 + (i : Int))] ++ [] = _
        rw [Int.zero_add]
        rfl
      · have m1 : min (i + 1) 7 = i + 1 := by omega
        have m2 : min i 7 = i := by omega
        have e : (List.range (i + 1)).filter u.testBit = (List.range i).filter u.testBit ++ [i].filter u.testBit := by rw [List.range_succ, List.filter_append]
        refine ⟨_, rfl, ?_⟩
        rw [and_n]
        by_cases hb : u.testBit i = true
        · have ne : ((u &&& 2 ^ i : Nat) : Int) ≠ 0 := fun z => by
            have z' : u &&& 2 ^ i = 0 := by omega
            rw [Mi.and_pow, hb] at z'
            cases z'
          refine iteP (bne_iff_ne.mpr ne) ?_
          refine ⟨_, rfl, hk _ _ (fun _ _ h => h) ?_⟩
          simp only [m1, m2]
          rw [e, List.map_append, List.filter_cons, if_pos hb]
          show _ ++ [vN i] = _ ++ [V.int (0 + (i : Int))]
          rw [Int.zero_add]
        · have z : u &&& 2 ^ i = 0 := (Mi.and_pow _ _).mpr (by simpa using hb)
          refine iteN (by rw [z]; decide) ?_
          refine hn _ (fun _ _ h => h) ?_
          simp only [m1, m2]
          rw [e, List.filter_cons, if_neg hb]
          simp
    · intro H1 sm hD1
      exact q H1 D sm hD hD1
def spLenTog (K : PySem.W.Frag) (C : Addr) : Sp := fun vs H Q _ => ∃ (l r : Addr) (as : List Addr) (ss : List Street) (q : List Nat), vs = [.ref l, .ref r] ∧ RowAt K C H l as ss ∧ SqL K H r (q.map vN) ∧ (∀ i ∈ q, i < ss.length) ∧ q.length ≤ 1000 ∧
  ∀ H', Same H H' → Q (vN ((q.map fun i => (ss.getD i Vbcsag.street0).long).sum)) H'
theorem sum_vN : ∀ (l : List Nat), ((l.map fun (i : Nat) => (i : Int)).sum) = ((l.sum : Nat) : Int)
  | [] => rfl
  | a :: l => by
    rw [List.map_cons, List.sum_cons, List.sum_cons, sum_vN l, Int.natCast_add]
theorem take_snocV {α : Type} {l : List α} {i : Nat} {x : α} (h : l[i]? = some x) : l.take (i + 1) = l.take i ++ [x] := by
  rw [List.take_add_one, h]
  rfl
theorem RowAt.get {H : Hp} {l : Addr} {as : List Addr} {ss : List Street} (h : RowAt K C H l as ss) {i : Nat} (hi : i < ss.length) : ∃ a, as[i]? = some a ∧ StrAt C H a (ss.getD i Vbcsag.street0) := by
  have hl : i < as.length := by rw [h.len]; exact hi
  exact ⟨_, List.getElem?_eq_getElem hl, h.at_ i _ _ (List.getElem?_eq_getElem hl) (Mi.getD_lt hi _)⟩
theorem df_length_together (T : Txt K mg C) (D : Dn K mg "length_together" s_length_together ["streets", "row"]) (gs : mg "sum" = none) : Df P w K mg base "length_together" ["streets", "row"] 1 (spLenTog K C) := by
  refine D.df sc_length_together (fun vs H Q E h => ?_) (fun f cdv A outer s H vs Q E hr h => ?_)
  · obtain ⟨l, r, as, ss, q, rfl, _⟩ := h
    rfl
  · obtain ⟨l, r, as, ss, q, rfl, hR, hq, hlt, hlen, k⟩ := h
    refine ⟨_, pss_one (ps_ret (pe_callB (cr_sum (by rfl)) (by rfl) gs (by decide +kernel) (pa_cons (pe_lc (own := [("i", 2)]) (g := gName 2) (tt := tYes) (by rfl) sc_length_together.nd (pi_list (pv 1))
      (blkOk_by (N := ["streets", "row", "i"]) (sc := defScope s_length_together) (own := [("i", 2)]) (by decide +kernel))
      (fun _ _ _ _ _ => pg_name (i := 2) sc_length_together.nd rfl (.inl rfl)) (fun _ _ _ _ _ => pts_nil) (fun _ _ _ _ _ => pe_fldK K (pe_ix (ix_listK K) (pv 0) (pv 2) (fun _ _ => rfl)) rfl)) pa_nil))), ?_⟩
    refine ⟨_, rfl, r, rfl, ⟨_, hq⟩, fun D hD => lc_gen q.length (fun i => ((q.take i).map fun i => vN (ss.getD i Vbcsag.street0).long)) hD rfl (fun i => by rw [List.length_map, List.length_take]; omega) (fun i H1 hi sm => ?_) (fun H1 sm => ⟨_, sm.seq hq, by rw [List.length_map]; exact Nat.le_refl _⟩) ?_ ?_⟩
    · exact ⟨_, vN q[i], sm.seq hq, by rw [List.getElem?_map, List.getElem?_eq_getElem hi]; rfl⟩
    · rintro i H1 x H2 Kp Kn hi sm ⟨rfl, hx⟩ hk hn
      have ex := hx _ (sm.seq hq)
      rw [List.getElem?_map, List.getElem?_eq_getElem hi] at ex
      have ex : vN q[i] = x := Option.some.inj ex
      subst ex
      have hj : q[i] < ss.length := hlt _ (List.getElem_mem hi)
      have hR1 := hR.same sm
      obtain ⟨a, ha, ⟨dx, hs⟩⟩ := hR1.get hj
      refine ⟨rfl, ?_⟩
      refine ⟨_, rfl, _, rfl, l, _, _, V.ref a, rfl, rfl, hR1.lst, atI_nat (by rw [List.getElem?_map, ha]; rfl), a, C, dx, _, _, rfl, hs, T.cl, T.nL, rfl, ?_⟩
      refine hk _ _ (fun _ _ h => h) ?_
      simp only [take_snocV (List.getElem?_eq_getElem hi), List.map_append, List.map_cons, List.map_nil]
    · intro H1 sm hD1
      refine ⟨D, (q.map fun i => ((ss.getD i Vbcsag.street0).long : Int)), rfl, SqL.of (by rw [hD1, List.take_length, List.map_map]; rfl), ?_⟩
      have e := sum_vN (q.map fun i => (ss.getD i Vbcsag.street0).long)
      rw [List.map_map] at e
      have := k H1 sm
      unfold vN at this
      rw [← e] at this
      exact this
end
end Rw

set_option Elab.async false
set_option linter.all false
set_option maxRecDepth 100000
set_option maxHeartbeats 2000000
namespace Rw
open PySem PySem.Spec PyProof.Rows L2
open Vbcsag (Street Map)
section
variable {P : Program} {w : World} {K : PySem.W.Frag} {mg : Str → Option Value} {base : Heap} {C : Addr}
def spReached (K : PySem.W.Frag) (C : Addr) : Sp := fun vs H Q _ => ∃ (p : Nat) (l : Addr) (as : List Addr) (ss : List Street), vs = [vN p, .ref l] ∧ p < 7 ∧ RowAt K C H l as ss ∧ Mi.WS 7 ss ∧ Q (vN (Mi.closure ss p)) H
theorem mpass_take {ss : List Street} {i : Nat} {s : Street} (h : ss[i]? = some s) (f : Nat) : Mi.mpass (ss.take (i + 1)) f = Mi.mstep (Mi.mpass (ss.take i) f) s := by
  unfold Mi.mpass
  rw [take_snocV h, List.foldl_append]
  rfl
def mu3 : L2.St → Nat
  | [_, _, some (.int b), _, _] => 128 - b.toNat
  | _ => 0
theorem df_reached (D : Dn K mg "reached" s_reached ["place", "streets"]) (Ds : Df P w K mg base "set_of" ["place"] 1 spSetOf) (De : Df P w K mg base "ends_of" ["street"] 2 (spStreetI C Mi.endsOf)) : Df P w K mg base "reached" ["place", "streets"] 3 (spReached K C) := by
  refine D.df sc_reached (fun vs H Q E h => ?_) (fun f cdv A outer s H vs Q E hr h => ?_)
  · obtain ⟨p, l, as, ss, rfl, _⟩ := h
    rfl
  · obtain ⟨p, l, as, ss, rfl, p7, hR, ws, k⟩ := h
    have nd := sc_reached.nd
    refine ⟨_, pss_cons (ps_set (i := 2) nd rfl (.inl rfl) pe_int) (pss_cons (ps_set (i := 3) nd rfl (.inl rfl) (pe_df Ds (hr.mono (by decide)) (by rfl) (pa_cons (pv 0) pa_nil)))
      (pss_cons (ps_while PassesOwn.never (pt_cmpR op_ne (pv 3) (pv 2) (nomark _))
        (pss_cons (ps_set (i := 2) nd rfl (.inl rfl) (pv 3))
          (pss_one (ps_for PassesOwn.never rfl (pi_list (pv 1)) (pg_name (i := 4) nd rfl (.inl rfl))
            (pss_one (ps_if (pt_int (pe_op op_andN (pv 3) (pe_df De hr (by rfl) (pa_cons (pv 4) pa_nil)))) (pss_one (ps_set (i := 3) nd rfl (.inl rfl) (pe_op op_orN (pv 3) (pe_df De hr (by rfl) (pa_cons (pv 4) pa_nil))))) pss_nil))))))
      (pss_one (ps_ret (pv 3))))), ?_⟩
    refine ⟨_, rfl, p, rfl, by omega, ?_⟩
    refine while_by (fun σ H' => H' = H ∧ ∃ (b m : Nat) (v : Option V), σ = [some (vN p), some (.ref l), some (vN b), some (vN (Mi.iter ss m (2 ^ p))), v] ∧ (b = 0 ∨ ∃ j, m = j + 1 ∧ b = Mi.iter ss j (2 ^ p)) ∧ b ≤ Mi.iter ss m (2 ^ p)) (fun σ _ => mu3 σ)
      ⟨rfl, 0, 0, none, rfl, .inl rfl, Nat.zero_le _⟩ ?_ ?_
    · rintro σ H' ⟨rfl, b, m, v, rfl, hb, hle⟩
      have hlt : Mi.iter ss m (2 ^ p) < 2 ^ 7 := Mi.iter_lt ws m (Mi.pow_ltn p7)
      have hpos : 0 < Mi.iter ss m (2 ^ p) := by
        have h1 : (Mi.iter ss m (2 ^ p)).testBit p = true := Mi.iter_bit_keep m _ Nat.testBit_two_pow_self
        rcases Nat.eq_zero_or_pos (Mi.iter ss m (2 ^ p)) with e | e
        · rw [e, Nat.zero_testBit] at h1
          cases h1
        · exact e
      refine ⟨_, rfl, _, rfl, rfl, _, rfl, ?_⟩
      by_cases e : Mi.iter ss m (2 ^ p) = b
      · refine iteN (by rw [e]; simp) ?_
        refine ⟨_, rfl, ?_⟩
        have hc : Mi.iter ss m (2 ^ p) = Mi.closure ss p := by
          rcases hb with hb | ⟨j, rfl, hb⟩
          · omega
          · refine Mi.closure_of_fixed ws p7 ?_
            rw [e, hb, ← Mi.iter_succ', e, hb]
        rw [hc]
        exact k
      · have hne : b < Mi.iter ss m (2 ^ p) := by omega
        refine iteP (by simp; omega) ?_
        refine ⟨_, rfl, ?_⟩
        refine ⟨_, rfl, l, rfl, ⟨_, hR.lst⟩, for_gen ss.length (fun i σ H'' => H'' = H' ∧ ∃ v : Option V, σ = [some (vN p), some (.ref l), some (vN (Mi.iter ss m (2 ^ p))), some (vN (Mi.mpass (ss.take i) (Mi.iter ss m (2 ^ p)))), v])
          ⟨rfl, v, rfl⟩ ?_ ?_ ?_ ?_⟩
        · rintro i σ H'' hi ⟨rfl, v', rfl⟩
          exact ⟨_, _, hR.lst, List.getElem?_eq_getElem (by rw [List.length_map, hR.len]; exact hi)⟩
        · rintro σ H'' ⟨rfl, _⟩
          exact ⟨_, hR.lst, by rw [List.length_map, hR.len]; exact Nat.le_refl _⟩
        · rintro i σ H1 x H2 hi ⟨rfl, v', rfl⟩ ⟨rfl, hx⟩
          have ex := hx _ hR.lst
          obtain ⟨a, ha, hs⟩ := hR.get hi
          rw [List.getElem?_map, ha] at ex
          have ex : V.ref a = x := Option.some.inj ex
          subst ex
          have hsi := Mi.getD_lt hi Vbcsag.street0
          have hm := ws _ (List.mem_of_getElem? hsi)
          have e1 := mpass_take hsi (Mi.iter ss m (2 ^ p))
          refine ⟨_, rfl, _, rfl, a, _, rfl, hs, hm.1, hm.2, _, _, rfl, rfl, _, rfl, ?_⟩
          by_cases z : Mi.mpass (ss.take i) (Mi.iter ss m (2 ^ p)) &&& Mi.endsOf (ss.getD i Vbcsag.street0) = 0
          · refine iteN (nzF z) ?_
            refine ⟨rfl, some (.ref a), ?_⟩
            · rw [e1, Mi.mstep, if_neg (fun q => q z)]
              rfl
          · refine iteP (nzT z) ?_
            refine ⟨_, rfl, _, rfl, a, _, rfl, hs, hm.1, hm.2, _, _, rfl, rfl, ?_⟩
            refine ⟨rfl, some (.ref a), ?_⟩
            rw [e1, Mi.mstep, if_pos z]
            rfl
        · rintro σ H1 ⟨rfl, v', rfl⟩
          rw [List.take_length]
          refine ⟨⟨rfl, _, m + 1, v', ?_, .inr ⟨m, rfl, rfl⟩, ?_⟩, ?_⟩
          · rw [Mi.iter_succ']
          · rw [Mi.iter_succ']
            exact Mi.mpass_ge _ _
          · show 128 - ((Mi.iter ss m (2 ^ p) : Nat) : Int).toNat < 128 - ((b : Nat) : Int).toNat
            omega
    · rintro σ H' Q1 Q2 hq ⟨v, e1, v2, e2, e3, k1, e4, q⟩
      exact ⟨v, e1, v2, e2, e3, k1, e4, hq _ _ q⟩
end
end Rw

set_option Elab.async false
set_option linter.all false
set_option maxRecDepth 100000
set_option maxHeartbeats 2000000
namespace Rw
open PySem PySem.Spec PyProof.Rows L2
open Vbcsag (Street Map)
abbrev s_odd_set : Stmt := topS 16
abbrev s_suited_set : Stmt := topS 17
abbrev s_lesser : Stmt := topS 18
abbrev s_with_street : Stmt := topS 19
theorem sc_odd_set : FnScope ["streets", "odd", "street"] ["streets"] (defScope s_odd_set) := ⟨rfl, rfl, rfl, by decide +kernel, rfl, by decide +kernel, by decide +kernel⟩
theorem sc_suited_set : FnScope ["streets", "taken", "odd", "i"] ["streets", "taken"] (defScope s_suited_set) := ⟨rfl, rfl, rfl, by decide +kernel, rfl, by decide +kernel, by decide +kernel⟩
theorem sc_lesser : FnScope ["left", "taken", "length"] ["left", "taken", "length"] (defScope s_lesser) := ⟨rfl, rfl, rfl, by decide +kernel, rfl, by decide +kernel, by decide +kernel⟩
theorem sc_with_street : FnScope ["street", "leasts", "flips", "u"] ["street", "leasts"] (defScope s_with_street) := ⟨rfl, rfl, rfl, by decide +kernel, rfl, by decide +kernel, by decide +kernel⟩
def optV : Option Nat → V
  | none => .non
  | some x => vN x
section
variable {P : Program} {w : World} {K : PySem.W.Frag} {mg : Str → Option Value} {base : Heap} {C : Addr}
def spOddSet (K : PySem.W.Frag) (C : Addr) : Sp := fun vs H Q _ => ∃ (l : Addr) (as : List Addr) (ss : List Street), vs = [.ref l] ∧ RowAt K C H l as ss ∧ Mi.WS 7 ss ∧ Q (vN (Vbcsag.oddOf ss)) H
theorem oddX_take {ss : List Street} {i : Nat} {s : Street} (h : ss[i]? = some s) (u : Nat) : Mi.oddX (ss.take (i + 1)) u = if s.need % 2 = 1 then Mi.oddX (ss.take i) u ^^^ Mi.oddEnds s else Mi.oddX (ss.take i) u := by
  unfold Mi.oddX
  rw [take_snocV h, List.foldl_append]
  rfl
theorem int_ne {a b : Int} (h : a ≠ b) : ¬ decide (V.int a = V.int b) = true := fun z => h (by have z := of_decide_eq_true z; injection z)
theorem int_eq {a b : Int} (h : a = b) : decide (V.int a = V.int b) = true := decide_eq_true (by rw [h])
theorem df_odd_set (T : Txt K mg C) (D : Dn K mg "odd_set" s_odd_set ["streets"]) (De : Df P w K mg base "odd_ends" ["street"] 2 (spStreetI C Mi.oddEnds)) : Df P w K mg base "odd_set" ["streets"] 3 (spOddSet K C) := by
  refine D.df sc_odd_set (fun vs H Q E h => ?_) (fun f cdv A outer s H vs Q E hr h => ?_)
  · obtain ⟨l, as, ss, rfl, _⟩ := h
    rfl
  · obtain ⟨l, as, ss, rfl, hR, ws, k⟩ := h
    have nd := sc_odd_set.nd
    refine ⟨_, pss_cons (ps_set (i := 1) nd rfl (.inl rfl) pe_int)
      (pss_cons (ps_for PassesOwn.never rfl (pi_list (pv 0)) (pg_name (i := 2) nd rfl (.inl rfl))
        (pss_one (ps_if (pt_cmpR op_eq (pe_op op_mod (pe_fld (pv 2) rfl) pe_int) pe_int (nomark _)) (pss_one (ps_set (i := 1) nd rfl (.inl rfl) (pe_op op_xorN (pv 1) (pe_df De hr (by rfl) (pa_cons (pv 2) pa_nil))))) pss_nil)))
      (pss_one (ps_ret (pv 1)))), ?_⟩
    refine ⟨_, rfl, l, rfl, ⟨_, hR.lst⟩, for_gen ss.length (fun i σ H' => H' = H ∧ ∃ v : Option V, σ = [some (.ref l), some (vN (Mi.oddX (ss.take i) 0)), v]) ⟨rfl, none, rfl⟩ ?_ ?_ ?_ ?_⟩
    · rintro i σ H' hi ⟨rfl, v', rfl⟩
      exact ⟨_, _, hR.lst, List.getElem?_eq_getElem (by rw [List.length_map, hR.len]; exact hi)⟩
    · rintro σ H' ⟨rfl, _⟩
      exact ⟨_, hR.lst, by rw [List.length_map, hR.len]; exact Nat.le_refl _⟩
    · rintro i σ H1 x H2 hi ⟨rfl, v', rfl⟩ ⟨rfl, hx⟩
      have ex := hx _ hR.lst
      obtain ⟨a, ha, ⟨dx, hs⟩⟩ := hR.get hi
      rw [List.getElem?_map, ha] at ex
      have ex : V.ref a = x := Option.some.inj ex
      subst ex
      have hsi := Mi.getD_lt hi Vbcsag.street0
      have hm := ws _ (List.mem_of_getElem? hsi)
      have e1 := oddX_take hsi 0
      refine ⟨_, rfl, a, C, dx, _, _, rfl, hs, T.cl, T.nO, rfl, _, _, rfl, rfl, (by show (0 : Int) < 2; decide), rfl, _, rfl, ?_⟩
      by_cases z : (ss.getD i Vbcsag.street0).need % 2 = 1
      · refine iteP (int_eq (by omega)) ?_
        refine ⟨_, rfl, _, rfl, a, _, rfl, ⟨dx, hs⟩, hm.1, hm.2, _, _, rfl, rfl, ?_⟩
        refine ⟨rfl, some (.ref a), ?_⟩
        rw [e1, if_pos z]
        rfl
      · refine iteN (int_ne (by omega)) ?_
        refine ⟨rfl, some (.ref a), ?_⟩
        rw [e1, if_neg z]
        rfl
    · rintro σ H1 ⟨rfl, v', rfl⟩
      rw [List.take_length, ← Mi.oddOf_eq ws]
      exact ⟨_, rfl, k⟩
def spSuited (K : PySem.W.Frag) (C : Addr) : Sp := fun vs H Q _ => ∃ (l r : Addr) (as : List Addr) (ss : List Street) (q : List Nat), vs = [.ref l, .ref r] ∧ RowAt K C H l as ss ∧ Mi.WS 7 ss ∧ SqL K H r (q.map vN) ∧ (∀ i ∈ q, i < ss.length) ∧ Q (vN (Mi.suitM ss q)) H
theorem df_suited_set (T : Txt K mg C) (D : Dn K mg "suited_set" s_suited_set ["streets", "taken"]) (De : Df P w K mg base "odd_ends" ["street"] 2 (spStreetI C Mi.oddEnds)) : Df P w K mg base "suited_set" ["streets", "taken"] 3 (spSuited K C) := by
  refine D.df sc_suited_set (fun vs H Q E h => ?_) (fun f cdv A outer s H vs Q E hr h => ?_)
  · obtain ⟨l, r, as, ss, q, rfl, _⟩ := h
    rfl
  · obtain ⟨l, r, as, ss, q, rfl, hR, ws, hq, hlt, k⟩ := h
    have nd := sc_suited_set.nd
    refine ⟨_, pss_cons (ps_set (i := 2) nd rfl (.inl rfl) pe_int)
      (pss_cons (ps_for PassesOwn.never rfl (pi_list (pv 1)) (pg_name (i := 3) nd rfl (.inl rfl))
        (pss_one (ps_set (i := 2) nd rfl (.inl rfl) (pe_op op_xorN (pv 2) (pe_df De hr (by rfl) (pa_cons (pe_ix ix_list (pv 0) (pv 3) (fun _ _ => rfl)) pa_nil))))))
      (pss_one (ps_ret (pv 2)))), ?_⟩
    refine ⟨_, rfl, r, rfl, ⟨_, hq⟩, for_gen q.length (fun i σ H' => H' = H ∧ ∃ v : Option V, σ = [some (.ref l), some (.ref r), some (vN (Mi.suitM ss (q.take i))), v]) ⟨rfl, none, rfl⟩ ?_ ?_ ?_ ?_⟩
    · rintro i σ H' hi ⟨rfl, v', rfl⟩
      exact ⟨_, _, hq, List.getElem?_eq_getElem (by rw [List.length_map]; exact hi)⟩
    · rintro σ H' ⟨rfl, _⟩
      exact ⟨_, hq, by rw [List.length_map]; exact Nat.le_refl _⟩
    · rintro i σ H1 x H2 hi ⟨rfl, v', rfl⟩ ⟨rfl, hx⟩
      have ex := hx _ hq
      rw [List.getElem?_map, List.getElem?_eq_getElem hi] at ex
      have ex : vN q[i] = x := Option.some.inj ex
      subst ex
      have hj : q[i] < ss.length := hlt _ (List.getElem_mem hi)
      obtain ⟨a, ha, hs⟩ := hR.get hj
      have hm := ws _ (List.mem_of_getElem? (Mi.getD_lt hj Vbcsag.street0))
      refine ⟨_, rfl, _, rfl, _, rfl, l, _, _, V.ref a, rfl, rfl, hR.lst, atI_nat (by rw [List.getElem?_map, ha]; rfl), a, _, rfl, hs, hm.1, hm.2, _, _, rfl, rfl, ?_⟩
      refine ⟨rfl, some (vN q[i]), ?_⟩
      unfold Mi.suitM
      rw [take_snocV (List.getElem?_eq_getElem hi), List.foldl_append]
      rfl
    · rintro σ H1 ⟨rfl, v', rfl⟩
      rw [List.take_length]
      exact ⟨_, rfl, k⟩
def spLesser : Sp := fun vs H Q _ => ∃ (x y : Option Nat) (n : Nat), vs = [optV x, optV y, vN n] ∧ Q (optV (Vbcsag.lesser x (y.map fun z => z + n))) H
theorem df_lesser (D : Dn K mg "lesser" s_lesser ["left", "taken", "length"]) (gm : mg "min" = none) : Df P w K mg base "lesser" ["left", "taken", "length"] 1 spLesser := by
  refine D.df sc_lesser (fun vs H Q E h => ?_) (fun f cdv A outer s H vs Q E hr h => ?_)
  · obtain ⟨x, y, n, rfl, _⟩ := h
    rfl
  · obtain ⟨x, y, n, rfl, q⟩ := h
    refine ⟨_, pss_cons (ps_if (pt_cmpR op_isN (pv 1) pe_non (nomark _)) (pss_one (ps_ret (pv 0))) pss_nil)
      (pss_cons (ps_if (pt_cmpR op_isN (pv 0) pe_non (nomark _)) (pss_one (ps_ret (pe_op op_addN (pv 1) (pv 2)))) pss_nil)
      (pss_one (ps_ret (pe_callB (call_min2 (by rfl)) (by rfl) gm (by decide +kernel) (pa_cons (pv 0) (pa_cons (pe_op op_addN (pv 1) (pv 2)) pa_nil)))))), ?_⟩
    cases y with
    | none =>
      refine ⟨_, rfl, rfl, _, rfl, ?_⟩
      refine iteP (decide_eq_true rfl) ?_
      refine ⟨_, rfl, ?_⟩
      rw [Option.map_none, Mi.lesser_none] at q
      exact q
    | some b =>
      refine ⟨_, rfl, rfl, _, rfl, ?_⟩
      refine iteN (fun z => by have z := of_decide_eq_true z; cases z) ?_
      cases x with
      | none =>
        refine ⟨_, rfl, rfl, _, rfl, ?_⟩
        refine iteP (decide_eq_true rfl) ?_
        exact ⟨_, rfl, _, rfl, b, n, rfl, rfl, q⟩
      | some a =>
        refine ⟨_, rfl, rfl, _, rfl, ?_⟩
        refine iteN (fun z => by have z := of_decide_eq_true z; cases z) ?_
        refine ⟨_, rfl, _, rfl, _, rfl, b, n, rfl, rfl, _, _, rfl, ?_⟩
        have e : (if ((b + n : Nat) : Int) < (a : Int) then ((b + n : Nat) : Int) else (a : Int)) = ((min a (b + n) : Nat) : Int) := by
          split <;> omega
        show Q (.int (if ((b + n : Nat) : Int) < (a : Int) then ((b + n : Nat) : Int) else (a : Int))) H
        rw [e]
        exact q
end
end Rw

set_option Elab.async false
set_option linter.all false
set_option maxRecDepth 100000
set_option maxHeartbeats 2000000
namespace Rw
open PySem PySem.Spec PyProof.Rows L2
open Vbcsag (Street Map)
abbrev VRow := Vbcsag.Row
abbrev s_leasts_by_street : Stmt := topS 20
abbrev s_leasts_of : Stmt := topS 21
theorem sc_leasts_by_street : FnScope ["streets", "behind", "rows", "street"] ["streets"] (defScope s_leasts_by_street) := ⟨rfl, rfl, rfl, by decide +kernel, rfl, by decide +kernel, by decide +kernel⟩
theorem sc_leasts_of : FnScope ["streets"] ["streets"] (defScope s_leasts_of) := ⟨rfl, rfl, rfl, by decide +kernel, rfl, by decide +kernel, by decide +kernel⟩
section
variable {tk tk2 : Tok} {P : Program} {w : World} {K : PySem.W.Frag} {mg : Str → Option Value} {base : Heap} {C : Addr}
def nextRow (s : Street) (r : VRow) : VRow := (List.range 128).map fun u => Vbcsag.lesser (Vbcsag.rowAt r u) ((Vbcsag.rowAt r (Vbcsag.ends s u)).map fun x => x + s.long)
theorem rowsOf_next (s : Street) (l : List Street) : Vbcsag.rowsOf 7 (s :: l) = nextRow s ((Vbcsag.rowsOf 7 l).headD []) :: Vbcsag.rowsOf 7 l := rfl
theorem rows_len : ∀ (l : List Street) (r : VRow), r ∈ Vbcsag.rowsOf 7 l → r.length = 128
  | [], r, h => by
    have e : r = Vbcsag.firstRow 7 := List.mem_singleton.mp h
    rw [e]
    rfl
  | s :: l, r, h => by
    rw [rowsOf_next] at h
    rcases List.mem_cons.mp h with e | e
    · rw [e]
      rfl
    · exact rows_len l r e
theorem rowsOf_length : ∀ (l : List Street), (Vbcsag.rowsOf 7 l).length = l.length + 1
  | [] => rfl
  | s :: l => by
    rw [rowsOf_next, List.length_cons, rowsOf_length l]
    rfl
theorem rows_head_mem (l : List Street) : (Vbcsag.rowsOf 7 l).headD [] ∈ Vbcsag.rowsOf 7 l := by
  cases l with
  | nil => exact List.mem_singleton.mpr rfl
  | cons s l => exact List.mem_cons_self ..
theorem row_get {r : VRow} {u : Nat} (h : u < r.length) : (r.map optV)[u]? = some (optV (Vbcsag.rowAt r u)) := by
  rw [List.getElem?_map, Mi.getD_lt h none]
  rfl
def spWith (K : PySem.W.Frag) (C : Addr) : Sp := fun vs H Q _ => ∃ (a r : Addr) (s : Street) (row : VRow), vs = [.ref a, .ref r] ∧ StrAt C H a s ∧ s.a < 7 ∧ s.b < 7 ∧ SqL K H r (row.map optV) ∧ row.length = 128 ∧
  ∀ H' p, Same H H' → H p = none → H' p = some (.lst ((nextRow s row).map optV)) → Q (.ref p) H'
theorem df_with_street (T : Txt K mg C) (D : Dn K mg "with_street" s_with_street ["street", "leasts"]) (De : Df P w K mg base "odd_ends" ["street"] 2 (spStreetI C Mi.oddEnds)) (Dl : Df P w K mg base "lesser" ["left", "taken", "length"] 1 spLesser)
    (gA : mg "ALL_SETS" = some (.int 128 tk)) (gr : mg "range" = none) : Df P w K mg base "with_street" ["street", "leasts"] 3 (spWith K C) := by
  refine D.df sc_with_street (fun vs H Q E h => ?_) (fun f cdv A outer s H vs Q E hr h => ?_)
  · obtain ⟨a, r, st, row, rfl, _⟩ := h
    rfl
  · obtain ⟨a, r, st, row, rfl, hs, a7, b7, hr1, hlen, k⟩ := h
    have nd := sc_with_street.nd
    refine ⟨_, pss_cons (ps_set (i := 2) nd rfl (.inr rfl) (pe_df De hr (by rfl) (pa_cons (pv 0) pa_nil)))
      (pss_one (ps_ret (pe_lc (own := [("u", 3)]) (g := gName 3) (tt := tYes) (by rfl) nd (pi_range1 (by rfl) gr (pa_cons (pe_glob (v := .int 128) rfl gA ⟨_, rfl⟩) pa_nil))
        (blkOk_by (N := ["street", "leasts", "flips", "u"]) (sc := defScope s_with_street) (own := [("u", 3)]) (by decide +kernel))
        (fun _ _ _ _ _ => pg_name (i := 3) nd rfl (.inl rfl)) (fun _ _ _ _ _ => pts_nil)
        (fun _ _ _ _ _ => pe_df Dl (hr.mono (by decide)) (by rfl) (pa_cons (pe_ix (ix_listK K) (pv 1) (pv 3) (fun _ _ => rfl)) (pa_cons (pe_ix (ix_listK K) (pv 1) (pe_op op_xorN (pv 3) (pv 2)) (fun _ _ => rfl)) (pa_cons (pe_fldK K (pv 0) rfl) pa_nil))))))), ?_⟩
    refine ⟨_, rfl, a, _, rfl, hs, a7, b7, ?_⟩
    refine ⟨128, rfl, by decide, by decide, fun D hD => lc_gen 128 (fun i => ((nextRow st row).take i).map optV) hD rfl (fun i => by rw [List.length_map, List.length_take]; show min i 128 ≤ 1000; omega) (fun i H hi _ => hi) (fun H _ => Nat.le_refl 128) ?_ ?_⟩
    · rintro i H1 x H2 Kp Kn hi sm ⟨rfl, rfl⟩ hk hn
      obtain ⟨dx, hs2⟩ := hs.same sm
      have hx : i ^^^ Mi.oddEnds st < 128 := Nat.xor_lt_two_pow (n := 7) hi (Mi.oddEnds_lt a7 b7)
      refine ⟨rfl, ?_⟩
      have e0 : (0 : Int) + (i : Int) = (i : Int) := Int.zero_add _
      rw [e0]
      refine ⟨_, rfl, _, rfl, r, _, _, _, rfl, rfl, sm.seq hr1, atI_nat (row_get (by omega)), ?_⟩
      refine ⟨_, rfl, _, rfl, _, rfl, i, _, rfl, rfl, r, _, _, _, rfl, rfl, sm.seq hr1, atI_nat (row_get (u := i ^^^ Mi.oddEnds st) (by omega)), ?_⟩
      refine ⟨_, rfl, a, C, dx, _, _, rfl, hs2, T.cl, T.nL, rfl, _, _, st.long, rfl, ?_⟩
      refine hk _ _ (fun _ _ h => h) ?_
      have e1 : (nextRow st row)[i]? = some (Vbcsag.lesser (Vbcsag.rowAt row i) ((Vbcsag.rowAt row (i ^^^ Mi.oddEnds st)).map fun x => x + st.long)) := by
        unfold nextRow
        rw [List.getElem?_map, List.getElem?_range hi, Option.map_some, Mi.ends_eq hi a7 b7]
      simp only [take_snocV e1, List.map_append, List.map_cons, List.map_nil]
    · intro H1 sm hD1
      refine k H1 D sm hD ?_
      rw [hD1, List.take_of_length_le (by show 128 ≤ 128; decide)]
/-- at p a list of rows is to be read -/
structure RowsAt (K : PySem.W.Frag) (H : Hp) (p : Addr) (bs : List Addr) (rs : List VRow) : Prop where
  lst : H p = some (.lst (bs.map V.ref))
  len : bs.length = rs.length
  at_ : ∀ (i : Nat) (b : Addr) (r : VRow), bs[i]? = some b → rs[i]? = some r → H b = some (.lst (r.map optV))
def spRows (K : PySem.W.Frag) (C : Addr) : Sp := fun vs H Q _ => ∃ (l : Addr) (as : List Addr) (ss : List Street), vs = [.ref l] ∧ RowAt K C H l as ss ∧ Mi.WS 7 ss ∧ ss.length ≤ 100 ∧
  ∀ H' p bs, Same H H' → H p = none → RowsAt K H' p bs (Vbcsag.rowsOf 7 ss) → Q (.ref p) H'
theorem df_leasts_by_street (D : Dn K mg "leasts_by_street" s_leasts_by_street ["streets"]) (Dw : Df P w K mg base "with_street" ["street", "leasts"] 3 (spWith K C)) (gA : mg "ALL_SETS" = some (.int 128 tk)) (gv : mg "reversed" = none) : Df P w K mg base "leasts_by_street" ["streets"] 4 (spRows K C) := by
  refine D.df sc_leasts_by_street (fun vs H Q E h => ?_) (fun f cdv A outer s H vs Q E hr h => ?_)
  · obtain ⟨l, as, ss, rfl, _⟩ := h
    rfl
  · obtain ⟨l, as, ss, rfl, hR, ws, hlen, k⟩ := h
    have nd := sc_leasts_by_street.nd
    refine ⟨_, pss_cons (ps_set (i := 1) nd rfl (.inl rfl) (pe_op op_cat (pe_lst (pa_cons pe_int pa_nil)) (pe_op op_rep (pe_lst (pa_cons pe_non pa_nil)) (pe_op op_sub (pe_glob (v := .int 128) rfl gA ⟨_, rfl⟩) pe_int))))
      (pss_cons (ps_set (i := 2) nd rfl (.inl rfl) (pe_lst (pa_cons (pv 1) pa_nil)))
      (pss_cons (ps_for PassesOwn.never rfl (pi_reversed (by rfl) gv (pa_cons (pv 0) pa_nil)) (pg_name (i := 3) nd rfl (.inl rfl))
        (pss_cons (ps_set (i := 1) nd rfl (.inl rfl) (pe_df Dw hr (by rfl) (pa_cons (pv 3) (pa_cons (pv 1) pa_nil))))
        (pss_one (ps_expr (pe_bm PySem.F.plainAttrs_list PySem.F.slot_list_append PySem.F.type_list_append mt_append (pv 2) (pa_cons (pv 1) pa_nil))))))
      (pss_cons (ps_expr (pe_bm0 PySem.F.plainAttrs_list PySem.F.slot_list_reverse PySem.F.type_list_reverse mt_reverse (pv 2)))
      (pss_one (ps_ret (pv 2)))))), ?_⟩
    -- behind = [0] + [None] * 127
    refine ⟨by decide, fun p1 n1 => ⟨by decide, fun p2 n2 => ⟨_, _, rfl, rfl, p2, 127, _, rfl, rfl, upd_same, by decide, by decide, by decide, fun p3 n3 => ?_⟩⟩⟩
    have s1 : Same H (upd H p1 (.lst [V.int 0])) := same_upd n1
    have s2 : Same (upd H p1 (.lst [V.int 0])) (upd (upd H p1 (.lst [V.int 0])) p2 (.lst [V.non])) := same_upd n2
    have s3 := same_upd (o := .lst (List.replicate (Int.toNat 127) [V.non]).flatten) n3
    refine ⟨p1, p3, _, _, rfl, rfl, s3 _ _ (s2 _ _ upd_same), upd_same, by decide, fun p4 n4 => ?_⟩
    have s4 := same_upd (o := .lst ([V.int 0] ++ (List.replicate (Int.toNat 127) [V.non]).flatten)) n4
    have s14 : Same H _ := ((s1.trans s2).trans s3).trans s4
    -- rows = [behind]
    refine ⟨_, rfl, (by show 1 ≤ sizeLine; decide), fun p5 n5 => ?_⟩
    have s5 := same_upd (o := .lst [V.ref p4]) n5
    have s15 := s14.trans s5
    have n5H : H p5 = none := by
      cases e : H p5 with
      | none => rfl
      | some o => rw [s14 _ _ e] at n5; cases n5
    refine ⟨_, rfl, l, _, rfl, s15.seq hR.lst, ?_⟩
    refine for_gen (as.map V.ref).length (fun i σ H' => Same H H' ∧ ∃ (v : Option V) (b : Addr) (bs : List Addr), σ = [some (.ref l), some (.ref b), some (.ref p5), v] ∧
        RowsAt K H' p5 bs (Vbcsag.rowsOf 7 (ss.drop (ss.length - i))).reverse ∧ bs[i]? = some b ∧ p5 ∉ bs) ⟨s15, none, p4, [p4], rfl, ⟨upd_same, ?_, ?_⟩, rfl, ?_⟩ ?_ ?_ ?_ ?_
    · rw [Nat.sub_zero, List.drop_length]
      rfl
    · rw [Nat.sub_zero, List.drop_length]
      intro i b r h1 h2
      cases i with
      | zero =>
        have e1 : p4 = b := Option.some.inj h1
        have e2 : Vbcsag.firstRow 7 = r := Option.some.inj h2
        subst e1 e2
        exact s5 _ _ upd_same
      | succ i => cases h1
    · intro hm
      rw [← List.mem_singleton.mp hm] at n4
      rw [List.mem_singleton.mp hm, upd_same] at n5
      cases n5
    · rintro i σ H' hi ⟨sm, v, b, bs, rfl, hRs, hb, hn5⟩
      have hl : (as.map V.ref).length = as.length := List.length_map ..
      exact ⟨hi, _, _, sm.seq hR.lst, List.getElem?_eq_getElem (by omega)⟩
    · rintro σ H' _
      exact Nat.le_refl _
    · rintro i σ H1 x H2 hi ⟨sm, v, b, bs, rfl, hRs, hb, hn5⟩ ⟨rfl, hx⟩
      have hl : (as.map V.ref).length = ss.length := by rw [List.length_map, hR.len]
      rw [hl] at hi
      have ex := hx _ (sm.seq hR.lst)
      rw [hl] at ex
      have hj : ss.length - 1 - i < ss.length := by omega
      obtain ⟨a, ha, hs⟩ := (hR.same sm).get hj
      rw [List.getElem?_map, ha] at ex
      have ex : V.ref a = x := Option.some.inj ex
      subst ex
      have hsi := Mi.getD_lt hj Vbcsag.street0
      have hm := ws _ (List.mem_of_getElem? hsi)
      have hd : ss.drop (ss.length - (i + 1)) = ss.getD (ss.length - 1 - i) Vbcsag.street0 :: ss.drop (ss.length - i) := by
        have e1 : ss.length - (i + 1) = ss.length - 1 - i := by omega
        have e2 : ss.length - i = ss.length - 1 - i + 1 := by omega
        rw [e1, e2, List.drop_eq_getElem_cons hj]
        congr 1
        exact (Mi.getD_of (List.getElem?_eq_getElem hj)).symm
      generalize hT : ss.drop (ss.length - i) = tl at hRs hd
      have htl : tl.length = i := by rw [← hT, List.length_drop]; omega
      have hrl := rowsOf_length tl
      have hlast : (Vbcsag.rowsOf 7 tl).reverse[i]? = some ((Vbcsag.rowsOf 7 tl).headD []) := by
        rw [List.getElem?_reverse (by omega), hrl, htl]
        have : i + 1 - 1 - i = 0 := by omega
        rw [this]
        cases htl2 : tl with
        | nil => rfl
        | cons s t => rfl
      have hbr := hRs.at_ i b _ hb hlast
      refine ⟨_, rfl, _, rfl, a, b, _, _, rfl, hs, hm.1, hm.2, SqL.of hbr, rows_len tl _ (rows_head_mem tl), fun H3 pn sm3 npn hpn => ?_⟩
      -- rows.append(behind)
      refine ⟨_, rfl, .inl ⟨rfl, _, SqL.of (sm3 _ _ hRs.lst)⟩, _, rfl, p5, _, _, rfl, rfl, sm3 _ _ hRs.lst, small1000 (by rw [List.length_map, hRs.len, List.length_reverse, hrl]; omega), ?_⟩
      have n5pn : pn ≠ p5 := fun e => by
        rw [e, hRs.lst] at npn
        cases npn
      have hbl : bs.length = i + 1 := by rw [hRs.len, List.length_reverse, hrl, htl]
      refine ⟨fun c o e => ?_, some (.ref a), pn, bs ++ [pn], rfl, ⟨?_, ?_, ?_⟩, ?_, ?_⟩
      · rw [upd_ne (ne_of_none e n5H)]
        exact sm3 _ _ (sm _ _ e)
      · rw [upd_same, List.map_append]
        rfl
      · rw [hd, rowsOf_next, List.reverse_cons, List.length_append, List.length_append, hRs.len]
        rfl
      · rw [hd, rowsOf_next, List.reverse_cons]
        intro j c r h1 h2
        by_cases hji : j < i + 1
        · rw [List.getElem?_append_left (by omega)] at h1
          rw [List.getElem?_append_left (by rw [List.length_reverse]; omega)] at h2
          have h3 := hRs.at_ j c r h1 h2
          rw [upd_ne (show c ≠ p5 from fun e => hn5 (e ▸ List.mem_of_getElem? h1))]
          exact sm3 _ _ h3
        · rw [List.getElem?_append_right (by omega)] at h1
          rw [List.getElem?_append_right (by rw [List.length_reverse]; omega)] at h2
          rw [List.length_reverse, hrl, htl] at h2
          rw [hbl] at h1
          cases hz : j - (i + 1) with
          | zero =>
            rw [hz] at h1 h2
            have e1 : pn = c := Option.some.inj h1
            have e2 : _ = r := Option.some.inj h2
            subst e1 e2
            rw [upd_ne n5pn]
            exact hpn
          | succ z =>
            rw [hz] at h1
            cases h1
      · rw [List.getElem?_append_right (by omega), hbl, Nat.sub_self]
        rfl
      · intro hm
        rcases List.mem_append.mp hm with h | h
        · exact hn5 h
        · exact n5pn (List.mem_singleton.mp h).symm
    · rintro σ H1 ⟨sm, v, b, bs, rfl, hRs, hb, hn5⟩
      have hl : (as.map V.ref).length = ss.length := by rw [List.length_map, hR.len]
      rw [hl, Nat.sub_self, List.drop_zero] at hRs
      -- rows.reverse(); return rows
      refine ⟨_, rfl, .inl ⟨rfl, _, SqL.of hRs.lst⟩, p5, _, rfl, rfl, hRs.lst, ?_⟩
      refine ⟨_, rfl, k _ p5 bs.reverse (fun c o e => ?_) n5H ⟨?_, ?_, ?_⟩⟩
      · rw [upd_ne (ne_of_none e n5H)]
        exact sm _ _ e
      · rw [upd_same, List.map_reverse]
      · rw [List.length_reverse, hRs.len, List.length_reverse]
      · intro j c r h1 h2
        have hbl : bs.length = (Vbcsag.rowsOf 7 ss).length := by rw [hRs.len, List.length_reverse]
        have hj : j < bs.length := by
          have := (List.getElem?_eq_some_iff.mp h1).1
          rwa [List.length_reverse] at this
        rw [List.getElem?_reverse hj] at h1
        have h3 : (Vbcsag.rowsOf 7 ss).reverse[bs.length - 1 - j]? = some r := by
          rw [List.getElem?_reverse (by omega)]
          have e : (Vbcsag.rowsOf 7 ss).length - 1 - (bs.length - 1 - j) = j := by omega
          rw [e]
          exact h2
        rw [upd_ne (show c ≠ p5 from fun e => hn5 (e ▸ List.mem_of_getElem? h1))]
        exact hRs.at_ _ c r h1 h3
def spLeasts (K : PySem.W.Frag) (C : Addr) : Sp := fun vs H Q _ => ∃ (l : Addr) (as : List Addr) (ss : List Street), vs = [.ref l] ∧ RowAt K C H l as ss ∧ Mi.WS 7 ss ∧ ss.length ≤ 100 ∧
  ∀ H' p, Same H H' → H' p = some (.lst (((Vbcsag.rowsOf 7 ss).headD []).map optV)) → Q (.ref p) H'
theorem df_leasts_of (D : Dn K mg "leasts_of" s_leasts_of ["streets"]) (Dr : Df P w K mg base "leasts_by_street" ["streets"] 4 (spRows K C)) : Df P w K mg base "leasts_of" ["streets"] 5 (spLeasts K C) := by
  refine D.df sc_leasts_of (fun vs H Q E h => ?_) (fun f cdv A outer s H vs Q E hr h => ?_)
  · obtain ⟨l, as, ss, rfl, _⟩ := h
    rfl
  · obtain ⟨l, as, ss, rfl, hR, ws, hlen, k⟩ := h
    refine ⟨_, pss_one (ps_ret (pe_ix ix_list (pe_df Dr hr (by rfl) (pa_cons (pv 0) pa_nil)) pe_int (fun _ _ => rfl))), ?_⟩
    refine ⟨_, rfl, l, as, ss, rfl, hR, ws, hlen, fun H' p bs sm np hRs => ?_⟩
    have hl : (Vbcsag.rowsOf 7 ss).length = ss.length + 1 := rowsOf_length ss
    have h0 : 0 < bs.length := by rw [hRs.len]; omega
    have e0 : (Vbcsag.rowsOf 7 ss)[0]? = some ((Vbcsag.rowsOf 7 ss).headD []) := by
      cases ss with
      | nil => rfl
      | cons s t => rfl
    refine ⟨p, _, _, V.ref bs[0], rfl, rfl, SqL.of hRs.lst, atI_nat (j := 0) (by rw [List.getElem?_map, List.getElem?_eq_getElem h0]; rfl), ?_⟩
    exact k H' bs[0] sm (hRs.at_ 0 _ _ (List.getElem?_eq_getElem h0) e0)
end
end Rw

set_option Elab.async false
set_option linter.all false
set_option maxRecDepth 100000
set_option maxHeartbeats 2000000
namespace Rw
open PySem PySem.Spec PyProof.Rows L2
open Vbcsag (Street Map)
abbrev s_first_least : Stmt := topS 22
abbrev s_walked_once_more : Stmt := topS 23
theorem sc_first_least : FnScope ["streets", "wanted", "rows", "taken", "i", "street"] ["streets", "wanted"] (defScope s_first_least) := ⟨rfl, rfl, rfl, by decide +kernel, rfl, by decide +kernel, by decide +kernel⟩
theorem sc_walked_once_more : FnScope ["streets"] ["streets"] (defScope s_walked_once_more) := ⟨rfl, rfl, rfl, by decide +kernel, rfl, by decide +kernel, by decide +kernel⟩
theorem same_put {Hb H1 : Hp} {t : Addr} {o : HO} (n : Hb t = none) (s : Same Hb H1) : Same Hb (upd H1 t o) := fun b x e => by
  rw [upd_ne (ne_of_none e n)]
  exact s _ _ e
theorem none_back {H H' : Hp} {p : Addr} (s : Same H H') (n : H' p = none) : H p = none := by
  cases e : H p with
  | none => rfl
  | some o =>
    rw [s _ _ e] at n
    cases n
section
variable {P : Program} {w : World} {K : PySem.W.Frag} {mg : Str → Option Value} {base : Heap} {C : Addr}
theorem RowsAt.same {H H' : Hp} {p : Addr} {bs : List Addr} {rs : List VRow} (h : RowsAt K H p bs rs) (s : Same H H') : RowsAt K H' p bs rs := ⟨s _ _ h.lst, h.len, fun i b r h1 h2 => s _ _ (h.at_ i b r h1 h2)⟩
theorem rows_get : ∀ (ss : List Street) (j : Nat), j ≤ ss.length → (Vbcsag.rowsOf 7 ss)[j]? = some ((Vbcsag.rowsOf 7 (ss.drop j)).headD [])
  | [], 0, _ => rfl
  | [], j + 1, h => by simp at h
  | s :: t, 0, _ => rfl
  | s :: t, j + 1, h => by
    rw [rowsOf_next, List.getElem?_cons_succ, List.drop_succ_cons]
    exact rows_get t j (by simpa using h)
theorem scal_opt (x y : Option Nat) : scal (optV x) (optV y) = true := by
  cases x <;> cases y <;> rfl
theorem optV_inj {x y : Option Nat} (h : optV x = optV y) : x = y := by
  cases x with
  | none =>
    cases y with
    | none => rfl
    | some b => cases h
  | some a =>
    cases y with
    | none => cases h
    | some b =>
      have h : V.int (a : Int) = V.int (b : Int) := h
      injection h with h
      rw [Int.ofNat.inj h]
theorem RowsAt.get {H : Hp} {p : Addr} {bs : List Addr} {ss : List Street} (h : RowsAt K H p bs (Vbcsag.rowsOf 7 ss)) {j : Nat} (hj : j ≤ ss.length) : ∃ b, bs[j]? = some b ∧ H b = some (.lst (((Vbcsag.rowsOf 7 (ss.drop j)).headD []).map optV)) := by
  have hl : j < bs.length := by
    rw [h.len, rowsOf_length]
    omega
  exact ⟨_, List.getElem?_eq_getElem hl, h.at_ j _ _ (List.getElem?_eq_getElem hl) (rows_get ss j hj)⟩
def spFirst (K : PySem.W.Frag) (C : Addr) : Sp := fun vs H Q _ => ∃ (l : Addr) (as : List Addr) (ss : List Street) (u : Nat), vs = [.ref l, vN u] ∧ RowAt K C H l as ss ∧ Mi.WS 7 ss ∧ ss.length ≤ 100 ∧ u < 2 ^ 7 ∧
  ∀ H' p, Same H H' → H p = none → H' p = some (.lst ((Mi.fl ss 0 u).map vN)) → Q (.ref p) H'
theorem df_first_least (D : Dn K mg "first_least" s_first_least ["streets", "wanted"]) (Dr : Df P w K mg base "leasts_by_street" ["streets"] 4 (spRows K C)) (De : Df P w K mg base "odd_ends" ["street"] 2 (spStreetI C Mi.oddEnds)) (ge : mg "enumerate" = none) : Df P w K mg base "first_least" ["streets", "wanted"] 5 (spFirst K C) := by
  refine D.df sc_first_least (fun vs H Q E h => ?_) (fun f cdv A outer s H vs Q E hr h => ?_)
  · obtain ⟨l, as, ss, u, rfl, _⟩ := h
    rfl
  · obtain ⟨l, as, ss, u, rfl, hR, ws, hlen, hu, k⟩ := h
    have nd := sc_first_least.nd
    refine ⟨_, pss_cons (ps_set (i := 2) nd rfl (.inl rfl) (pe_df Dr hr (by rfl) (pa_cons (pv 0) pa_nil)))
      (pss_cons (ps_set (i := 3) nd rfl (.inl rfl) (pe_lst pa_nil))
      (pss_cons (ps_for PassesOwn.never rfl (pi_enum (by rfl) ge (pa_cons (pv 0) pa_nil)) (pg_tup rfl (pgs_cons (pg_name (i := 4) nd rfl (.inl rfl)) (pgs_cons (pg_name (i := 5) nd rfl (.inl rfl)) pgs_nil)))
        (pss_one (ps_if (pt_cmpR op_ne (pe_ix ix_list (pe_ix ix_list (pv 2) (pe_op op_addN (pv 4) pe_int) (fun _ _ => rfl)) (pv 1) (fun _ _ => rfl)) (pe_ix ix_list (pe_ix ix_list (pv 2) (pv 4) (fun _ _ => rfl)) (pv 1) (fun _ _ => rfl)) (nomark _))
          (pss_cons (ps_expr (pe_bm PySem.F.plainAttrs_list PySem.F.slot_list_append PySem.F.type_list_append mt_append (pv 3) (pa_cons (pv 4) pa_nil)))
          (pss_one (ps_set (i := 1) nd rfl (.inl rfl) (pe_op op_xorN (pv 1) (pe_df De (hr.mono (by decide)) (by rfl) (pa_cons (pv 5) pa_nil)))))) pss_nil)))
      (pss_one (ps_ret (pv 3))))), ?_⟩
    refine ⟨_, rfl, l, as, ss, rfl, hR, ws, hlen, fun H1 rp bs sm nrp hRs => ?_⟩
    refine ⟨Nat.zero_le _, fun tp ntp => ?_⟩
    have hRb := hR.same sm
    refine ⟨_, rfl, l, _, rfl, (same_upd ntp).seq hRb.lst, ?_⟩
    refine for_gen ss.length (fun i σ H' => Same H1 H' ∧ ∃ (v4 v5 : Option V) (u' : Nat) (tk : List Nat), σ = [some (.ref l), some (vN u'), some (.ref rp), some (.ref tp), v4, v5] ∧
      H' tp = some (.lst (tk.map vN)) ∧ u' < 2 ^ 7 ∧ tk.length ≤ i ∧ tk ++ Mi.fl (ss.drop i) i u' = Mi.fl ss 0 u) ⟨same_upd ntp, none, none, u, [], rfl, upd_same, hu, Nat.zero_le _, rfl⟩ ?_ ?_ ?_ ?_
    · rintro i σ H' hi ⟨s1, _⟩
      exact ⟨_, _, (hRb.same s1).lst, List.getElem?_eq_getElem (by rw [List.length_map, hR.len]; exact hi)⟩
    · rintro σ H' ⟨s1, _⟩
      exact ⟨_, (hRb.same s1).lst, by rw [List.length_map, hR.len]; exact Nat.le_refl _⟩
    · rintro i σ H2 x H3 hi ⟨s1, v4, v5, u', tk, rfl, htp, hu', htl, heq⟩ ⟨Tt, y, rfl, nT, rfl, hy⟩
      have hR2 := hRb.same s1
      have ey := hy _ hR2.lst
      obtain ⟨a, ha, hsb⟩ := hRb.get hi
      rw [List.getElem?_map, ha] at ey
      have ey : V.ref a = y := Option.some.inj ey
      subst ey
      have hsi := Mi.getD_lt hi Vbcsag.street0
      have hm := ws _ (List.mem_of_getElem? hsi)
      have hd : ss.drop i = ss.getD i Vbcsag.street0 :: ss.drop (i + 1) := by
        rw [List.drop_eq_getElem_cons hi]
        congr 1
        exact (Mi.getD_of (List.getElem?_eq_getElem hi)).symm
      have s2 : Same H2 (upd H2 Tt (.tup [.int (i : Nat), V.ref a])) := same_upd nT
      have s12 := s1.trans s2
      have hRs3 := hRs.same s12
      obtain ⟨b1, hb1, hr1⟩ := hRs3.get (j := i + 1) (by omega)
      obtain ⟨b0, hb0, hr0⟩ := hRs3.get (j := i) (by omega)
      have l1 : ((Vbcsag.rowsOf 7 (ss.drop (i + 1))).headD []).length = 128 := rows_len _ _ (rows_head_mem _)
      have l0 : ((Vbcsag.rowsOf 7 (ss.drop i)).headD []).length = 128 := rows_len _ _ (rows_head_mem _)
      refine ⟨Tt, _, rfl, .inl (.inl upd_same), rfl, _, _, rfl, _, _, rfl, rfl, ?_⟩
      refine ⟨_, rfl, _, rfl, i, 1, rfl, rfl, rp, _, _, V.ref b1, rfl, rfl, SqL.of hRs3.lst, atI_nat (j := i + 1) (by rw [List.getElem?_map, hb1]; rfl), _, rfl, b1, _, _, _, rfl, rfl, SqL.of hr1, atI_nat (row_get (by omega)), ?_⟩
      refine ⟨_, rfl, _, rfl, rp, _, _, V.ref b0, rfl, rfl, SqL.of hRs3.lst, atI_nat (j := i) (by rw [List.getElem?_map, hb0]; rfl), _, rfl, b0, _, _, _, rfl, rfl, SqL.of hr0, atI_nat (row_get (by omega)), ?_⟩
      refine ⟨scal_opt _ _, _, rfl, ?_⟩
      have hfl : Mi.fl (ss.drop i) i u' = if Vbcsag.least 7 (ss.drop (i + 1)) u' = Vbcsag.least 7 (ss.drop i) u' then Mi.fl (ss.drop (i + 1)) (i + 1) u' else i :: Mi.fl (ss.drop (i + 1)) (i + 1) (u' ^^^ Mi.oddEnds (ss.getD i Vbcsag.street0)) := by
        rw [hd]
        rfl
      by_cases z : Vbcsag.least 7 (ss.drop (i + 1)) u' = Vbcsag.least 7 (ss.drop i) u'
      · have z' : optV (Vbcsag.rowAt ((Vbcsag.rowsOf 7 (ss.drop (i + 1))).headD []) u') = optV (Vbcsag.rowAt ((Vbcsag.rowsOf 7 (ss.drop i)).headD []) u') := congrArg optV z
        refine iteN (by rw [decide_eq_true z']; decide) ?_
        rw [hfl, if_pos z] at heq
        exact ⟨s12, _, _, u', tk, rfl, s2 _ _ htp, hu', by omega, heq⟩
      · have z' : ¬ optV (Vbcsag.rowAt ((Vbcsag.rowsOf 7 (ss.drop (i + 1))).headD []) u') = optV (Vbcsag.rowAt ((Vbcsag.rowsOf 7 (ss.drop i)).headD []) u') := fun e => z (optV_inj e)
        refine iteP (by rw [decide_eq_false z']; rfl) ?_
        rw [hfl, if_neg z] at heq
        refine ⟨_, rfl, .inl ⟨rfl, _, SqL.of (s2 _ _ htp)⟩, _, rfl, tp, _, _, rfl, rfl, s2 _ _ htp, small1000 (by rw [List.length_map]; omega), ?_⟩
        have s3 := same_put (o := .lst (tk.map vN ++ [.int (i : Nat)])) ntp s12
        refine ⟨_, rfl, _, rfl, a, _, rfl, hsb.same s3, hm.1, hm.2, u', _, rfl, rfl, ?_⟩
        refine ⟨s3, _, _, _, tk ++ [i], rfl, ?_, Nat.xor_lt_two_pow hu' (Mi.oddEnds_lt hm.1 hm.2), ?_, ?_⟩
        · rw [upd_same, List.map_append]
          rfl
        · rw [List.length_append]
          show tk.length + 1 ≤ i + 1
          omega
        · rw [List.append_assoc]
          exact heq
    · rintro σ H2 ⟨s1, v4, v5, u', tk, rfl, htp, hu', htl, heq⟩
      rw [List.drop_length] at heq
      refine ⟨_, rfl, k H2 tp (sm.trans s1) (none_back sm ntp) ?_⟩
      rw [htp, ← heq]
      show _ = some (HO.lst ((tk ++ []).map vN))
      rw [List.append_nil]
def spMore (K : PySem.W.Frag) (C : Addr) : Sp := fun vs H Q _ => ∃ (l : Addr) (as : List Addr) (ss : List Street), vs = [.ref l] ∧ RowAt K C H l as ss ∧ Mi.WS 7 ss ∧ ss.length ≤ 100 ∧
  ∀ H' p, Same H H' → H p = none → H' p = some (.lst ((Mi.fl ss 0 (Vbcsag.oddOf ss)).map vN)) → Q (.ref p) H'
theorem df_walked_once_more (D : Dn K mg "walked_once_more" s_walked_once_more ["streets"]) (Df1 : Df P w K mg base "first_least" ["streets", "wanted"] 5 (spFirst K C)) (Do : Df P w K mg base "odd_set" ["streets"] 3 (spOddSet K C)) : Df P w K mg base "walked_once_more" ["streets"] 6 (spMore K C) := by
  refine D.df sc_walked_once_more (fun vs H Q E h => ?_) (fun f cdv A outer s H vs Q E hr h => ?_)
  · obtain ⟨l, as, ss, rfl, _⟩ := h
    rfl
  · obtain ⟨l, as, ss, rfl, hR, ws, hlen, k⟩ := h
    refine ⟨_, pss_one (ps_ret (pe_df Df1 hr (by rfl) (pa_cons (pv 0) (pa_cons (pe_df Do (hr.mono (by decide)) (by rfl) (pa_cons (pv 0) pa_nil)) pa_nil)))), ?_⟩
    refine ⟨_, rfl, _, rfl, l, as, ss, rfl, hR, ws, l, as, ss, _, rfl, hR, ws, hlen, ?_, k⟩
    rw [Mi.oddOf_eq ws]
    exact Mi.oddX_lt ws (by decide)
end
end Rw

set_option Elab.async false
set_option linter.all false
set_option maxRecDepth 100000
set_option maxHeartbeats 2000000
namespace Rw
open PySem PySem.Spec PyProof.Rows L2
open Vbcsag (Street Map)
abbrev s_pairs_from : Stmt := topS 25
abbrev s_weight_across : Stmt := topS 26
abbrev s_is_accepted : Stmt := topS 27
theorem sc_pairs_from : FnScope ["row", "at"] ["row"] (defScope s_pairs_from) := ⟨rfl, rfl, rfl, by decide +kernel, rfl, by decide +kernel, by decide +kernel⟩
theorem sc_weight_across : FnScope ["street", "pairs", "ends", "pair"] ["street", "pairs"] (defScope s_weight_across) := ⟨rfl, rfl, rfl, by decide +kernel, rfl, by decide +kernel, by decide +kernel⟩
theorem sc_is_accepted : FnScope ["streets", "places", "pairs", "odd", "pair", "street"] ["streets", "places", "pairs"] (defScope s_is_accepted) := ⟨rfl, rfl, rfl, by decide +kernel, rfl, by decide +kernel, by decide +kernel⟩
/-! ### ranges with a step, comprehensions that make objects -/
theorem rg_step {m c : Nat} (hc : 0 < c) (hc2 : c < 100) (hm : m < 1000000) : RgC 0 ((c * m : Nat) : Int) (c : Int) m := by
  have e : Builtin.Range.rangeSize 0 ((c * m : Nat) : Int) (c : Int) = (m : Int) := by
    unfold Builtin.Range.rangeSize
    rw [if_pos (by omega)]
    cases m with
    | zero => rw [Nat.mul_zero, if_neg (by decide)]; rfl
    | succ j =>
      have h1 : 0 < c * (j + 1) := Nat.mul_pos hc (Nat.succ_pos j)
      rw [if_pos (by omega)]
      have h2 : (((c * (j + 1) : Nat) : Int) - 0 - 1) = (j : Int) * (c : Int) + ((c : Int) - 1) := by
        rw [Nat.mul_succ, Int.natCast_add, Int.natCast_mul, Int.mul_comm]
        omega
      rw [h2, Int.add_comm ((j : Int) * (c : Int)), Int.add_mul_ediv_right _ _ (by omega), Int.ediv_eq_zero_of_lt (by omega) (by omega)]
      omega
  refine ⟨by omega, by omega, ?_, e⟩
  have h3 : c * m < 100000000 := Nat.lt_of_lt_of_le (Nat.mul_lt_mul_of_lt_of_lt hc2 hm) (by decide)
  have fit : ∀ z : Int, -1000000000 ≤ z → z ≤ 1000000000 → Builtin.Range.rangeFitsLong z = true := fun z h1 h2 => by
    unfold Builtin.Range.rangeFitsLong
    rw [decide_eq_true (by omega), decide_eq_true (by omega)]
    rfl
  unfold Builtin.Range.small
  rw [e, fit _ (by omega) (by omega), fit _ (by omega) (by omega), fit _ (by omega) (by omega), fit _ (by omega) (by omega), if_pos (by omega), fit _ (by omega) (by omega), Bool.or_true]
  rfl
theorem lc_inv {J : It} {g : TG} {tt : TT} {te : TE} {vs : List Nat} {σ : L2.St} {H1 : Hp} {D : Addr} {Qd : Hp → Prop} (n : Nat) (Pv : Nat → List V → Hp → Prop) (h0 : Pv 0 [] (upd H1 D (.lst []))) (al : ∀ i acc H, Pv i acc H → acc.length ≤ 1000)
    (hup : ∀ i acc H o, Pv i acc H → H D = some (.lst acc) ∨ acc = acc → Pv i acc (upd H D o))
    (hgo : ∀ i acc H, i < n → Pv i acc H → J.go i H) (hst : ∀ acc H, Pv n acc H → J.stop n H)
    (hs : ∀ (i : Nat) (acc : List V) (H : Hp) (x : V) (H' : Hp) (Kp : V → Hp → Prop) (Kn : Hp → Prop), i < n → Pv i acc H → H D = some (.lst acc) → J.yld i H x H' → (∀ y H4, Same H H4 → Pv (i + 1) (acc ++ [y]) H4 → Kp y H4) → (∀ H3, Same H H3 → Pv (i + 1) acc H3 → Kn H3) →
      g x (wipe σ vs) H' fun σ2 H2 => wipe σ2 vs = wipe σ vs ∧ tt σ2 H2 fun b H3 => if b = true then te σ2 H3 Kp else Kn H3)
    (hd : ∀ acc H, Pv n acc H → H D = some (.lst acc) → Qd H) :
    ∃ W : Nat → Nat → Hp → Prop, (∃ m, W 0 m (upd H1 D (.lst []))) ∧ ∀ i m H, W i m H →
      (J.stop i H ∧ Qd H) ∨ (J.go i H ∧ ∃ Nx : Hp → Prop, (∀ H', Nx H' → ∃ m', m' < m ∧ W (i + 1) m' H') ∧ ∀ x H', J.yld i H x H' → g x (wipe σ vs) H' fun σ2 H2 => wipe σ2 vs = wipe σ vs ∧ tt σ2 H2 fun b H3 =>
        if b = true then te σ2 H3 fun y H4 => ∃ acc, H4 D = some (.lst acc) ∧ acc.length < sizeLine ∧ Nx (upd H4 D (.lst (acc ++ [y]))) else Nx H3) := by
  refine ⟨fun i m H => (m = n - i ∧ i ≤ n) ∧ ∃ acc, Pv i acc H ∧ H D = some (.lst acc), ⟨n, ⟨(Nat.sub_zero n).symm, Nat.zero_le _⟩, [], h0, upd_same⟩, ?_⟩
  rintro i m H ⟨⟨rfl, hi⟩, acc, p, pD⟩
  rcases Nat.lt_or_eq_of_le hi with hl | he
  · refine .inr ⟨hgo i acc H hl p, fun H' => ∃ acc, Pv (i + 1) acc H' ∧ H' D = some (.lst acc), fun H' p' => ⟨n - (i + 1), Nat.sub_lt_sub_left hl (Nat.lt_succ_self i), ⟨rfl, hl⟩, p'⟩, fun x H' y => ?_⟩
    refine hs i acc H x H' _ _ hl p pD y (fun v H4 sm q => ?_) (fun H3 sm q => ?_)
    · exact ⟨acc, sm _ _ pD, small1000 (al i acc H p), acc ++ [v], hup _ _ _ _ q (.inr rfl), upd_same⟩
    · exact ⟨acc, q, sm _ _ pD⟩
  · cases he
    exact .inl ⟨hst acc H p, hd acc H p pD⟩
section
variable {X : Cx}
def rLenK (K : PySem.W.Frag) : List V → Hp → VK → Prop := fun xs H Q => ∃ p ys, xs = [.ref p] ∧ (SqL K H p ys ∨ SqT K H p ys) ∧ Q (.int ys.length) H
theorem call_lenK (K : PySem.W.Frag) (hK : X.K = K := by rfl) : CallR X (.builtin "len") (rLenK K) := by
  rw [← hK]
  exact call_len_seq
end
theorem seqT_same {K : PySem.W.Frag} {H H' : Hp} {a : Addr} {xs : List V} (e : Same H H') (h : SqT K H a xs) : SqT K H' a xs := by
  rcases h with (h | ⟨o, h⟩) | h
  · exact .inl (.inl (e _ _ h))
  · exact .inl (.inr ⟨o, e _ _ h⟩)
  · exact .inr h
/-- pairs of numbers on the heap -/
def PrAt (K : PySem.W.Frag) (H : Hp) (t : Addr) (x : Nat × Nat) : Prop := SqT K H t [vN x.1, vN x.2]
structure PrsAt (K : PySem.W.Frag) (H : Hp) (l : Addr) (tas : List Addr) (prs : List (Nat × Nat)) : Prop where
  lst : SqL K H l (tas.map V.ref)
  len : tas.length = prs.length
  at_ : ∀ (i : Nat) (t : Addr) (x : Nat × Nat), tas[i]? = some t → prs[i]? = some x → PrAt K H t x
section
variable {P : Program} {w : World} {K : PySem.W.Frag} {mg : Str → Option Value} {base : Heap} {C : Addr}
theorem PrsAt.same {H H' : Hp} {l : Addr} {tas : List Addr} {prs : List (Nat × Nat)} (h : PrsAt K H l tas prs) (k : Same H H') : PrsAt K H' l tas prs :=
  ⟨k.seq h.lst, h.len, fun i t x h1 h2 => seqT_same k (h.at_ i t x h1 h2)⟩
theorem PrsAt.get {H : Hp} {l : Addr} {tas : List Addr} {prs : List (Nat × Nat)} (h : PrsAt K H l tas prs) {i : Nat} (hi : i < prs.length) : ∃ t, tas[i]? = some t ∧ PrAt K H t prs[i] := by
  have hl : i < tas.length := by rw [h.len]; exact hi
  exact ⟨_, List.getElem?_eq_getElem hl, h.at_ i _ _ (List.getElem?_eq_getElem hl) (List.getElem?_eq_getElem hi)⟩
theorem cutsIn_get : ∀ (ns : List Int) (i : Nat) (h1 : 2 * i + 1 < ns.length), (Vbcsag.cutsIn ns)[i]? = some (ns[2 * i].toNat, ns[2 * i + 1].toNat)
  | [], i, h => by simp at h
  | [_], i, h => by simp at h
  | u :: w :: r, 0, h => rfl
  | u :: w :: r, i + 1, h => by
    have := cutsIn_get r i (by simp at h; omega)
    show (Vbcsag.cutsIn r)[i]? = _
    rw [this]
    rfl
theorem cutsIn_len : ∀ (ns : List Int), (Vbcsag.cutsIn ns).length = ns.length / 2
  | [] => rfl
  | [x] => by show (0 : Nat) = 1 / 2; decide
  | u :: w :: r => by
    show (Vbcsag.cutsIn r).length + 1 = (r.length + 1 + 1) / 2
    rw [cutsIn_len r]
    omega
def spPairs (K : PySem.W.Frag) : Sp := fun vs H Q _ => ∃ (r : Addr) (ns : List Int), vs = [.ref r] ∧ SqL K H r (ns.map V.int) ∧ ns.length % 2 = 0 ∧ ns.length ≤ 1000 ∧ (∀ z ∈ ns, 0 ≤ z) ∧
  ∀ H' p tas, Same H H' → PrsAt K H' p tas (Vbcsag.cutsIn ns) → Q (.ref p) H'
theorem df_pairs_from (D : Dn K mg "pairs_from" s_pairs_from ["row"]) (gr : mg "range" = none) (gl : mg "len" = none) : Df P w K mg base "pairs_from" ["row"] 1 (spPairs K) := by
  refine D.df sc_pairs_from (fun vs H Q E h => ?_) (fun f cdv A outer s H vs Q E hr h => ?_)
  · obtain ⟨r, ns, rfl, _⟩ := h
    rfl
  · obtain ⟨r, ns, rfl, hq, hev, hlen, hpos, k⟩ := h
    have nd := sc_pairs_from.nd
    refine ⟨_, pss_one (ps_ret (pe_lc (own := [("at", 1)]) (g := gName 1) (tt := tYes) (by rfl) nd (pi_range3 (by rfl) gr (pa_cons pe_int (pa_cons (pe_callB call_len_seq (by rfl) gl PySem.boot_len (pa_cons (pv 0) pa_nil)) (pa_cons pe_int pa_nil))))
      (blkOk_by (N := ["row", "at"]) (sc := defScope s_pairs_from) (own := [("at", 1)]) (by decide +kernel))
      (fun _ _ _ _ _ => pg_name (i := 1) nd rfl (.inl rfl)) (fun _ _ _ _ _ => pts_nil)
      (fun _ _ _ _ _ => pe_tup (pa_cons (pe_ix (ix_listK K) (pv 0) (pv 1) (fun _ _ => rfl)) (pa_cons (pe_ix (ix_listK K) (pv 0) (pe_op op_addN (pv 1) pe_int) (fun _ _ => rfl)) pa_nil))))), ?_⟩
    have hm : (ns.map V.int).length = 2 * (ns.length / 2) := by rw [List.length_map]; omega
    refine ⟨_, rfl, r, _, rfl, .inl hq, 0, _, 2, ns.length / 2, rfl, ?_, fun D hD => ?_⟩
    · rw [hm]
      exact rg_step (m := ns.length / 2) (c := 2) (by decide) (by decide) (by omega)
    refine lc_inv (ns.length / 2) (fun i acc H' => Same H H' ∧ ∃ tas : List Addr, acc = tas.map V.ref ∧ tas.length = i ∧ i ≤ ns.length / 2 ∧ (∀ t ∈ tas, t ≠ D) ∧ ∀ (j : Nat) (t : Addr) (x : Nat × Nat), tas[j]? = some t → (Vbcsag.cutsIn ns)[j]? = some x → H' t = some (.tup [vN x.1, vN x.2]))
      ⟨same_upd hD, [], rfl, rfl, Nat.zero_le _, by simp, by simp⟩ ?_ ?_ ?_ ?_ ?_ ?_
    · rintro i acc H' ⟨_, tas, rfl, rfl, hi, _⟩
      rw [List.length_map]
      omega
    · rintro i acc H' o ⟨sm, tas, rfl, hl, hi, hne, hat⟩ _
      refine ⟨same_put hD sm, tas, rfl, hl, hi, hne, fun j t x h1 h2 => ?_⟩
      rw [upd_ne (hne t (List.mem_of_getElem? h1))]
      exact hat j t x h1 h2
    · rintro i acc H' hi _
      exact hi
    · rintro acc H' _
      exact Nat.le_refl _
    · rintro i acc H1 x H2 Kp Kn hi ⟨sm, tas, rfl, hl, hile, hne, hat⟩ hD1 ⟨rfl, rfl⟩ hk hn
      refine ⟨rfl, ?_⟩
      have e0 : (0 : Int) + ((i : Nat) : Int) * 2 = ((2 * i : Nat) : Int) := by omega
      rw [e0]
      have h1 : 2 * i < ns.length := by omega
      have h2 : 2 * i + 1 < ns.length := by omega
      refine ⟨_, rfl, _, rfl, r, _, _, .int ns[2 * i], rfl, rfl, sm.seq hq, atI_nat (by rw [List.getElem?_map, List.getElem?_eq_getElem h1]; rfl), ?_⟩
      refine ⟨_, rfl, _, rfl, 2 * i, 1, rfl, rfl, r, _, _, .int ns[2 * i + 1], rfl, rfl, sm.seq hq, atI_nat (j := 2 * i + 1) (by rw [List.getElem?_map, List.getElem?_eq_getElem h2]; rfl), ?_⟩
      refine ⟨(by show 2 ≤ sizeLine; decide), fun t ht => ?_⟩
      refine hk _ _ (same_upd ht) ⟨sm.trans (same_upd ht), tas ++ [t], ?_, ?_, by omega, ?_, ?_⟩
      · rw [List.map_append]
        rfl
      · rw [List.length_append, hl]
        rfl
      · intro t' h'
        rcases List.mem_append.mp h' with h' | h'
        · exact hne t' h'
        · rw [List.mem_singleton.mp h']
          exact (ne_of_none hD1 ht).symm
      · intro j t' x' g1 g2
        by_cases hj : j < i
        · rw [List.getElem?_append_left (by omega)] at g1
          have := hat j t' x' g1 g2
          rw [upd_ne (ne_of_none this ht)]
          exact this
        · rw [List.getElem?_append_right (by omega), hl] at g1
          cases hz : j - i with
          | zero =>
            rw [hz] at g1
            have e1 : t = t' := Option.some.inj g1
            have ej : j = i := by omega
            rw [ej, cutsIn_get ns i h2] at g2
            have e2 : _ = x' := Option.some.inj g2
            subst e1 e2
            rw [upd_same]
            have p1 := hpos _ (List.getElem_mem h1)
            have p2 := hpos _ (List.getElem_mem h2)
            show _ = some (HO.tup [V.int ((ns[2 * i].toNat : Nat) : Int), V.int ((ns[2 * i + 1].toNat : Nat) : Int)])
            rw [Int.toNat_of_nonneg p1, Int.toNat_of_nonneg p2]
          | succ z =>
            rw [hz] at g1
            cases g1
    · rintro acc H1 ⟨sm, tas, rfl, hl, hile, hne, hat⟩ hD1
      exact k H1 D tas sm ⟨SqL.of hD1, by rw [hl, cutsIn_len], fun j t x h1 h2 => SqT.of (hat j t x h1 h2)⟩
end
end Rw

set_option Elab.async false
set_option linter.all false
set_option maxRecDepth 100000
set_option maxHeartbeats 2000000
namespace Rw
open PySem PySem.Spec PyProof.Rows L2
open Vbcsag (Street Map)
section
variable {P : Program} {w : World} {K : PySem.W.Frag} {mg : Str → Option Value} {base : Heap} {C : Addr}
def spAcross (K : PySem.W.Frag) (C : Addr) : Sp := fun vs H Q _ => ∃ (a l : Addr) (s : Street) (tas : List Addr) (prs : List (Nat × Nat)), vs = [.ref a, .ref l] ∧ StrAt C H a s ∧ s.a < 7 ∧ s.b < 7 ∧ PrsAt K H l tas prs ∧ prs.length ≤ 1000 ∧
  ∀ H', Same H H' → Q (vN (Mi.across s prs)) H'
theorem df_weight_across (D : Dn K mg "weight_across" s_weight_across ["street", "pairs"]) (De : Df P w K mg base "odd_ends" ["street"] 2 (spStreetI C Mi.oddEnds)) (Dp : Df P w K mg base "places_in" ["places"] 2 spPlacesIn)
    (gs : mg "sum" = none) (gl : mg "len" = none) : Df P w K mg base "weight_across" ["street", "pairs"] 3 (spAcross K C) := by
  refine D.df sc_weight_across (fun vs H Q E h => ?_) (fun f cdv A outer s H vs Q E hr h => ?_)
  · obtain ⟨a, l, st, tas, prs, rfl, _⟩ := h
    rfl
  · obtain ⟨a, l, st, tas, prs, rfl, hs, a7, b7, hP, hlen, k⟩ := h
    have nd := sc_weight_across.nd
    refine ⟨_, pss_cons (ps_set (i := 2) nd rfl (.inr rfl) (pe_df De hr (by rfl) (pa_cons (pv 0) pa_nil)))
      (pss_one (ps_ret (pe_callB (cr_sum (by rfl)) (by rfl) gs (by decide +kernel) (pa_cons (pe_lc (own := [("pair", 3)]) (g := gName 3) (by rfl) nd (pi_list (pv 1))
        (blkOk_by (N := ["street", "pairs", "ends", "pair"]) (sc := defScope s_weight_across) (own := [("pair", 3)]) (by decide +kernel))
        (fun _ _ _ _ _ => pg_name (i := 3) nd rfl (.inl rfl))
        (fun _ _ _ _ _ => pts_one (pt_cmpR op_eq (pe_callB (call_lenK K) (by rfl) gl PySem.boot_len (pa_cons (pe_df Dp hr (by rfl) (pa_cons (pe_op op_andN (pe_ix (ix_tupK K) (pv 3) pe_int (fun _ _ => rfl)) (pv 2)) pa_nil)) pa_nil)) pe_int (nomark _)))
        (fun _ _ _ _ _ => pe_ix (ix_tupK K) (pv 3) pe_int (fun _ _ => rfl))) pa_nil)))), ?_⟩
    refine ⟨_, rfl, a, _, rfl, hs, a7, b7, ?_⟩
    let keep : Nat × Nat → Bool := fun x => decide ((Vbcsag.placesOf 7 (x.1 &&& Mi.oddEnds st)).length = 1)
    refine ⟨_, rfl, l, rfl, ⟨_, hP.lst⟩, fun D hD => lc_gen prs.length (fun i => ((prs.take i).filter keep).map fun x => vN x.2) hD rfl (fun i => ?_) (fun i H1 hi sm => ?_) (fun H1 sm => ?_) ?_ ?_⟩
    · rw [List.length_map]
      have h1 := List.length_filter_le keep (prs.take i)
      rw [List.length_take] at h1
      omega
    · exact ⟨_, _, (hP.same sm).lst, List.getElem?_eq_getElem (by rw [List.length_map, hP.len]; exact hi)⟩
    · exact ⟨_, (hP.same sm).lst, by rw [List.length_map, hP.len]; exact Nat.le_refl _⟩
    · rintro i H1 x H2 Kp Kn hi sm ⟨rfl, hx⟩ hk hn
      have hP1 := hP.same sm
      have ex := hx _ hP1.lst
      obtain ⟨t, ht, hpr⟩ := hP1.get hi
      rw [List.getElem?_map, ht] at ex
      have ex : V.ref t = x := Option.some.inj ex
      subst ex
      refine ⟨rfl, ?_⟩
      refine ⟨_, rfl, t, _, _, vN prs[i].1, rfl, rfl, hpr, atI_nat (j := 0) rfl, _, rfl, prs[i].1, _, rfl, rfl, _, rfl, fun H3 p sm3 np hp => ?_⟩
      refine ⟨p, _, rfl, .inl (SqL.of hp), rfl, _, rfl, ?_⟩
      have e1 : (prs.take (i + 1)).filter keep = (prs.take i).filter keep ++ [prs[i]].filter keep := by rw [take_snocV (List.getElem?_eq_getElem hi), List.filter_append]
      by_cases z : (Vbcsag.placesOf 7 (prs[i].1 &&& Mi.oddEnds st)).length = 1
      · refine iteP (int_eq (show (((Vbcsag.placesOf 7 (prs[i].1 &&& Mi.oddEnds st)).map vN).length : Int) = 1 by rw [List.length_map]; omega)) ?_
        refine ⟨_, rfl, t, _, _, vN prs[i].2, rfl, rfl, seqT_same sm3 hpr, atI_nat (j := 1) rfl, ?_⟩
        refine hk _ _ sm3 ?_
        show List.map _ _ = _
        rw [e1, List.map_append, List.filter_cons, if_pos (show keep prs[i] = true from decide_eq_true z)]
        rfl
      · refine iteN (int_ne (show (((Vbcsag.placesOf 7 (prs[i].1 &&& Mi.oddEnds st)).map vN).length : Int) ≠ 1 by rw [List.length_map]; omega)) ?_
        refine hn _ sm3 ?_
        show List.map _ _ = _
        rw [e1, List.filter_cons, if_neg (show ¬ keep prs[i] = true from fun q => z (of_decide_eq_true q))]
        simp
    · intro H1 sm hD1
      refine ⟨D, ((prs.filter keep).map fun x => (x.2 : Int)), rfl, SqL.of (by rw [hD1, List.take_length, List.map_map]; rfl), ?_⟩
      have e := sum_vN ((prs.filter keep).map fun x => x.2)
      rw [List.map_map] at e
      have := k H1 sm
      unfold vN Mi.across at this
      rw [← e] at this
      exact this
def spAccepted (K : PySem.W.Frag) (C : Addr) : Sp := fun vs H Q _ => ∃ (l r : Addr) (as : List Addr) (ss : List Street) (n : Nat) (tas : List Addr) (prs : List (Nat × Nat)), vs = [.ref l, vN n, .ref r] ∧ RowAt K C H l as ss ∧ Mi.WS 7 ss ∧ n ≤ 7 ∧ PrsAt K H r tas prs ∧ prs.length ≤ 1000 ∧
  ∀ H', Same H H' → Q (.bl (Mi.acceptedM n ss prs)) H'
theorem df_is_accepted (T : Txt K mg C) (D : Dn K mg "is_accepted" s_is_accepted ["streets", "places", "pairs"]) (Do : Df P w K mg base "odd_set" ["streets"] 3 (spOddSet K C)) (Da : Df P w K mg base "all_places" ["places"] 1 spAllPlaces)
    (Dp : Df P w K mg base "places_in" ["places"] 2 spPlacesIn) (Dw : Df P w K mg base "weight_across" ["street", "pairs"] 3 (spAcross K C)) (gl : mg "len" = none) : Df P w K mg base "is_accepted" ["streets", "places", "pairs"] 4 (spAccepted K C) := by
  refine D.df sc_is_accepted (fun vs H Q E h => ?_) (fun f cdv A outer s H vs Q E hr h => ?_)
  · obtain ⟨l, r, as, ss, n, tas, prs, rfl, _⟩ := h
    rfl
  · obtain ⟨l, r, as, ss, n, tas, prs, rfl, hR, ws, hn7, hP, hlen, k⟩ := h
    have nd := sc_is_accepted.nd
    refine ⟨_, pss_cons (ps_set (i := 3) nd rfl (.inl rfl) (pe_df Do hr (by rfl) (pa_cons (pv 0) pa_nil)))
      (pss_cons (ps_for PassesOwn.never rfl (pi_list (pv 2)) (pg_name (i := 4) nd rfl (.inl rfl))
        (pss_one (ps_if (PW.pt (pw_or (pt_cmpR op_gt (pe_ix ix_tup (pv 4) pe_int (fun _ _ => rfl)) (pe_df Da (hr.mono (by decide)) (by rfl) (pa_cons (pv 1) pa_nil)) (nomark _))
            (pw_or1 (pt_cmpR op_eq (pe_op op_mod (pe_callB call_len_seq (by rfl) gl PySem.boot_len (pa_cons (pe_df Dp (hr.mono (by decide)) (by rfl) (pa_cons (pe_op op_andN (pe_ix ix_tup (pv 4) pe_int (fun _ _ => rfl)) (pv 3)) pa_nil)) pa_nil)) pe_int) pe_int (nomark _)))))
          (pss_one (ps_ret pe_bl)) pss_nil)))
      (pss_cons (ps_for PassesOwn.never rfl (pi_list (pv 0)) (pg_name (i := 5) nd rfl (.inl rfl))
        (pss_one (ps_if (pt_cmpR op_gt (pe_df Dw hr (by rfl) (pa_cons (pv 5) (pa_cons (pv 2) pa_nil))) (pe_op op_mul pe_int (pe_fld (pv 5) rfl)) (nomark _)) (pss_one (ps_ret pe_bl)) pss_nil)))
      (pss_one (ps_ret pe_bl)))), ?_⟩
    refine ⟨_, rfl, l, as, ss, rfl, hR, ws, ?_⟩
    refine ⟨_, rfl, r, rfl, ⟨_, hP.lst⟩, for_gen prs.length (fun i σ H' => Same H H' ∧ (prs.take i).all (Mi.goodPair n (Vbcsag.oddOf ss)) = true ∧ ∃ v4 v5 : Option V, σ = [some (.ref l), some (vN n), some (.ref r), some (vN (Vbcsag.oddOf ss)), v4, v5]) ⟨Same.refl H, rfl, none, none, rfl⟩ ?_ ?_ ?_ ?_⟩
    · rintro i σ H' hi ⟨sm, _⟩
      exact ⟨_, _, (hP.same sm).lst, List.getElem?_eq_getElem (by rw [List.length_map, hP.len]; exact hi)⟩
    · rintro σ H' ⟨sm, _⟩
      exact ⟨_, (hP.same sm).lst, by rw [List.length_map, hP.len]; exact Nat.le_refl _⟩
    · rintro i σ H1 x H2 hi ⟨sm, hall, v4, v5, rfl⟩ ⟨rfl, hx⟩
      have hP1 := hP.same sm
      have ex := hx _ hP1.lst
      obtain ⟨t, ht, hpr⟩ := hP1.get hi
      rw [List.getElem?_map, ht] at ex
      have ex : V.ref t = x := Option.some.inj ex
      subst ex
      have bad : ∀ (H3 : Hp), Same H2 H3 → Mi.goodPair n (Vbcsag.oddOf ss) prs[i] = false → Q (.bl false) H3 := fun H3 s3 hb => by
        have e : Mi.acceptedM n ss prs = false := by
          unfold Mi.acceptedM
          rw [show prs.all (Mi.goodPair n (Vbcsag.oddOf ss)) = false from List.all_eq_false.mpr ⟨_, List.getElem_mem hi, by rw [hb]; decide⟩]
          rfl
        have := k H3 (sm.trans s3)
        rw [e] at this
        exact this
      refine ⟨_, rfl, t, _, _, vN prs[i].1, rfl, rfl, hpr, atI_nat (j := 0) rfl, _, rfl, n, rfl, by omega, _, _, rfl, rfl, _, rfl, ?_⟩
      by_cases z1 : 2 ^ n - 1 < prs[i].1
      · refine iteP (decide_eq_true (by omega)) ?_
        refine iteP rfl ?_
        exact bad _ (Same.refl _) (by unfold Mi.goodPair; rw [decide_eq_true z1]; rfl)
      · refine iteN (fun q => z1 (by have := of_decide_eq_true q; omega)) ?_
        refine ⟨_, rfl, t, _, _, vN prs[i].1, rfl, rfl, hpr, atI_nat (j := 0) rfl, _, rfl, prs[i].1, _, rfl, rfl, _, rfl, fun H3 p sm3 np hp => ?_⟩
        refine ⟨p, _, rfl, .inl (SqL.of hp), _, _, rfl, rfl, (by show (0 : Int) < 2; decide), rfl, _, rfl, ?_⟩
        by_cases z2 : (Vbcsag.placesOf 7 (prs[i].1 &&& Vbcsag.oddOf ss)).length % 2 = 0
        · refine iteP (int_eq (show (((Vbcsag.placesOf 7 (prs[i].1 &&& Vbcsag.oddOf ss)).map vN).length : Int) % 2 = 0 by rw [List.length_map]; omega)) ?_
          exact bad _ sm3 (by unfold Mi.goodPair; rw [decide_eq_true z2, Bool.or_true]; rfl)
        · refine iteN (int_ne (show (((Vbcsag.placesOf 7 (prs[i].1 &&& Vbcsag.oddOf ss)).map vN).length : Int) % 2 ≠ 0 by rw [List.length_map]; omega)) ?_
          refine ⟨sm.trans sm3, ?_, some (.ref t), v5, rfl⟩
          rw [take_snocV (List.getElem?_eq_getElem hi), List.all_append, hall]
          simp only [List.all_cons, List.all_nil, Bool.and_true, Bool.true_and]
          unfold Mi.goodPair
          rw [decide_eq_false z1, decide_eq_false z2]
          rfl
    · rintro σ H1 ⟨sm, hall, v4, v5, rfl⟩
      rw [List.take_length] at hall
      have hR1 := hR.same sm
      refine ⟨_, rfl, l, rfl, ⟨_, hR1.lst⟩, for_gen ss.length (fun i σ H' => Same H H' ∧ (ss.take i).all (fun s => decide (Mi.across s prs ≤ 2 * s.long)) = true ∧ ∃ v5 : Option V, σ = [some (.ref l), some (vN n), some (.ref r), some (vN (Vbcsag.oddOf ss)), v4, v5]) ⟨sm, rfl, v5, rfl⟩ ?_ ?_ ?_ ?_⟩
      · rintro i σ H' hi ⟨s1, _⟩
        exact ⟨_, _, (hR.same s1).lst, List.getElem?_eq_getElem (by rw [List.length_map, hR.len]; exact hi)⟩
      · rintro σ H' ⟨s1, _⟩
        exact ⟨_, (hR.same s1).lst, by rw [List.length_map, hR.len]; exact Nat.le_refl _⟩
      · rintro i σ H2 x H3 hi ⟨s1, hall2, v6, rfl⟩ ⟨rfl, hx⟩
        have hR2 := hR.same s1
        have ex := hx _ hR2.lst
        obtain ⟨a, ha, hs⟩ := hR2.get hi
        rw [List.getElem?_map, ha] at ex
        have ex : V.ref a = x := Option.some.inj ex
        subst ex
        have hsi := Mi.getD_lt hi Vbcsag.street0
        have hm := ws _ (List.mem_of_getElem? hsi)
        refine ⟨_, rfl, _, rfl, a, r, _, tas, prs, rfl, hs, hm.1, hm.2, hP.same s1, hlen, fun H4 s4 => ?_⟩
        obtain ⟨dx, hs4⟩ := hs.same s4
        refine ⟨_, rfl, a, C, dx, _, _, rfl, hs4, T.cl, T.nL, rfl, _, _, rfl, rfl, .inl ⟨by decide, by decide⟩, _, _, rfl, rfl, _, rfl, ?_⟩
        by_cases z : Mi.across (ss.getD i Vbcsag.street0) prs ≤ 2 * (ss.getD i Vbcsag.street0).long
        · refine iteN (fun q => by have := of_decide_eq_true q; omega) ?_
          refine ⟨s1.trans s4, ?_, some (.ref a), rfl⟩
          rw [take_snocV hsi, List.all_append, hall2]
          simp only [List.all_cons, List.all_nil, Bool.and_true, Bool.true_and]
          exact decide_eq_true z
        · refine iteP (decide_eq_true (by omega)) ?_
          have e : Mi.acceptedM n ss prs = false := by
            unfold Mi.acceptedM
            rw [show ss.all (fun s => decide (Mi.across s prs ≤ 2 * s.long)) = false from List.all_eq_false.mpr ⟨_, List.mem_of_getElem? hsi, by rw [decide_eq_false z]; decide⟩, Bool.and_false]
          have := k H4 (s1.trans s4)
          rw [e] at this
          exact this
      · rintro σ H2 ⟨s1, hall2, v6, rfl⟩
        rw [List.take_length] at hall2
        have e : Mi.acceptedM n ss prs = true := by
          unfold Mi.acceptedM
          rw [hall2]
          rw [Bool.and_true]
          exact hall
        have := k H2 s1
        rw [e] at this
        exact this
end
end Rw

set_option Elab.async false
set_option linter.all false
set_option maxRecDepth 100000
set_option maxHeartbeats 2000000
namespace Rw
open PySem PySem.Spec PyProof.Rows L2
open Vbcsag (Street Map)
abbrev s_changed : Stmt := topS 28
abbrev s_heights_of : Stmt := topS 29
abbrev s_height_from : Stmt := topS 30
abbrev s_peak_from : Stmt := topS 31
theorem sc_changed : FnScope ["odd", "place"] ["odd", "place"] (defScope s_changed) := ⟨rfl, rfl, rfl, by decide +kernel, rfl, by decide +kernel, by decide +kernel⟩
theorem sc_heights_of : FnScope ["streets", "places", "odd", "leasts", "place"] ["streets", "places"] (defScope s_heights_of) := ⟨rfl, rfl, rfl, by decide +kernel, rfl, by decide +kernel, by decide +kernel⟩
theorem sc_height_from : FnScope ["least", "base"] ["least", "base"] (defScope s_height_from) := ⟨rfl, rfl, rfl, by decide +kernel, rfl, by decide +kernel, by decide +kernel⟩
theorem sc_peak_from : FnScope ["length", "near", "far"] ["length", "near", "far"] (defScope s_peak_from) := ⟨rfl, rfl, rfl, by decide +kernel, rfl, by decide +kernel, by decide +kernel⟩
def ovI : Option Int → V
  | none => .non
  | some z => .int z
def pkI (long : Nat) : Option Int → Option Int → Int
  | some a, some b => min (min (2 * (long : Int) + a) (2 * (long : Int) + b)) ((2 * (long : Int) + a + b) / 2)
  | some a, none => 2 * (long : Int) + a
  | none, some b => 2 * (long : Int) + b
  | none, none => 0
theorem peakF_pkI (b long : Nat) (x y : Option Nat) : Mi.peakF b long x y = pkI long (Vbcsag.above b x) (Vbcsag.above b y) := by
  unfold Mi.peakF
  cases Vbcsag.above b x <;> cases Vbcsag.above b y <;> rfl
section
variable {P : Program} {w : World} {K : PySem.W.Frag} {mg : Str → Option Value} {base : Heap} {C : Addr}
def spChanged : Sp := fun vs H Q _ => ∃ o p : Nat, vs = [vN o, vN p] ∧ p < 1000 ∧ Q (vN (o ^^^ 1 ^^^ 2 ^ p)) H
theorem df_changed (D : Dn K mg "changed" s_changed ["odd", "place"]) (Ds : Df P w K mg base "set_of" ["place"] 1 spSetOf) : Df P w K mg base "changed" ["odd", "place"] 2 spChanged := by
  refine D.df sc_changed (fun vs H Q E h => ?_) (fun f cdv A outer s H vs Q E hr h => ?_)
  · obtain ⟨o, p, rfl, _⟩ := h
    rfl
  · obtain ⟨o, p, rfl, hp, q⟩ := h
    refine ⟨_, pss_one (ps_ret (pe_op op_xorN (pe_op op_xorN (pv 0) (pe_df Ds hr (by rfl) (pa_cons pe_int pa_nil))) (pe_df Ds hr (by rfl) (pa_cons (pv 1) pa_nil)))), ?_⟩
    exact ⟨_, rfl, 0, rfl, by decide, o, 1, rfl, rfl, _, rfl, p, rfl, hp, o ^^^ 1, 2 ^ p, rfl, rfl, q⟩
def spHeightFrom : Sp := fun vs H Q _ => ∃ (x : Option Nat) (b : Nat), vs = [optV x, vN b] ∧ Q (ovI (Vbcsag.above b x)) H
theorem df_height_from (D : Dn K mg "height_from" s_height_from ["least", "base"]) : Df P w K mg base "height_from" ["least", "base"] 1 spHeightFrom := by
  refine D.df sc_height_from (fun vs H Q E h => ?_) (fun f cdv A outer s H vs Q E hr h => ?_)
  · obtain ⟨x, b, rfl, _⟩ := h
    rfl
  · obtain ⟨x, b, rfl, q⟩ := h
    refine ⟨_, pss_cons (ps_if (pt_cmpR op_isN (pv 0) pe_non (nomark _)) (pss_one (ps_ret pe_non)) pss_nil) (pss_one (ps_ret (pe_op op_mul pe_int (pe_op op_sub (pv 0) (pv 1))))), ?_⟩
    cases x with
    | none =>
      refine ⟨_, rfl, rfl, _, rfl, ?_⟩
      exact iteP (decide_eq_true rfl) q
    | some a =>
      refine ⟨_, rfl, rfl, _, rfl, ?_⟩
      refine iteN (fun z => by have z := of_decide_eq_true z; cases z) ?_
      exact ⟨_, rfl, _, rfl, _, _, rfl, rfl, _, _, rfl, rfl, .inl ⟨by decide, by decide⟩, q⟩
def spPeakFrom : Sp := fun vs H Q _ => ∃ (n : Nat) (x y : Option Int), vs = [vN n, ovI x, ovI y] ∧ (x.isSome = true ∨ y.isSome = true) ∧ Q (.int (pkI n x y)) H
theorem min3_int (a b c : Int) : nuMin3 (.int a) (.int b) (.int c) = some (.int (min (min a b) c)) := by
  have h2 : ∀ x y : Int, nuMin2 (.int x) (.int y) = some (.int (min x y)) := fun x y => by
    show some (if decide (y < x) = true then V.int y else V.int x) = _
    by_cases h : y < x
    · rw [if_pos (decide_eq_true h), Int.min_def, if_neg (by omega)]
    · rw [if_neg (by simpa using h), Int.min_def, if_pos (by omega)]
  unfold nuMin3
  rw [h2]
  exact h2 _ _
theorem df_peak_from (D : Dn K mg "peak_from" s_peak_from ["length", "near", "far"]) (gm : mg "min" = none) : Df P w K mg base "peak_from" ["length", "near", "far"] 1 spPeakFrom := by
  refine D.df sc_peak_from (fun vs H Q E h => ?_) (fun f cdv A outer s H vs Q E hr h => ?_)
  · obtain ⟨n, x, y, rfl, _⟩ := h
    rfl
  · obtain ⟨n, x, y, rfl, hone, q⟩ := h
    refine ⟨_, pss_cons (ps_if (pt_cmpR op_isN (pv 1) pe_non (nomark _)) (pss_one (ps_ret (pe_op op_add (pe_op op_mul pe_int (pv 0)) (pv 2)))) pss_nil)
      (pss_cons (ps_if (pt_cmpR op_isN (pv 2) pe_non (nomark _)) (pss_one (ps_ret (pe_op op_add (pe_op op_mul pe_int (pv 0)) (pv 1)))) pss_nil)
      (pss_one (ps_ret (pe_callB (call_min3Nu (by rfl)) (by rfl) gm (by decide +kernel) (pa_cons (pe_op op_add (pe_op op_mul pe_int (pv 0)) (pv 1)) (pa_cons (pe_op op_add (pe_op op_mul pe_int (pv 0)) (pv 2))
        (pa_cons (pe_op op_fdiv (pe_op op_add (pe_op op_add (pe_op op_mul pe_int (pv 0)) (pv 1)) (pv 2)) pe_int) pa_nil))))))), ?_⟩
    have m2 : (fun (i : Int) => -(2 ^ 64) < i ∧ i < 2 ^ 64) 2 := ⟨by decide, by decide⟩
    cases x with
    | none =>
      refine ⟨_, rfl, rfl, _, rfl, ?_⟩
      refine iteP (decide_eq_true rfl) ?_
      cases y with
      | none => rcases hone with h | h <;> cases h
      | some b => exact ⟨_, rfl, _, _, rfl, rfl, .inl ⟨by decide, by decide⟩, _, rfl, _, _, rfl, rfl, q⟩
    | some a =>
      refine ⟨_, rfl, rfl, _, rfl, ?_⟩
      refine iteN (fun z => by have z := of_decide_eq_true z; cases z) ?_
      cases y with
      | none =>
        refine ⟨_, rfl, rfl, _, rfl, ?_⟩
        refine iteP (decide_eq_true rfl) ?_
        exact ⟨_, rfl, _, _, rfl, rfl, .inl ⟨by decide, by decide⟩, _, rfl, _, _, rfl, rfl, q⟩
      | some b =>
        refine ⟨_, rfl, rfl, _, rfl, ?_⟩
        refine iteN (fun z => by have z := of_decide_eq_true z; cases z) ?_
        refine ⟨_, rfl, _, _, rfl, rfl, .inl ⟨by decide, by decide⟩, _, rfl, _, _, rfl, rfl, ?_⟩
        refine ⟨_, rfl, _, _, rfl, rfl, .inl ⟨by decide, by decide⟩, _, rfl, _, _, rfl, rfl, ?_⟩
        refine ⟨_, rfl, _, _, rfl, rfl, .inl ⟨by decide, by decide⟩, _, rfl, _, _, rfl, rfl, _, rfl, _, _, rfl, rfl, _, _, rfl, rfl, ⟨by decide, by decide⟩, ?_⟩
        exact ⟨_, _, _, _, rfl, min3_int _ _ _, q⟩
def spHeights (K : PySem.W.Frag) (C : Addr) : Sp := fun vs H Q _ => ∃ (l : Addr) (as : List Addr) (m : Map), vs = [.ref l, vN m.n] ∧ RowAt K C H l as m.streets ∧ Mi.WM m ∧
  ∀ H' p, Same H H' → H p = none → H' p = some (.lst ((Vbcsag.heightsOf m).map V.int)) → Q (.ref p) H'
theorem can_some {l : List Street} {u : Nat} (h : Mi.Can l u) : Vbcsag.least 7 l u = some ((Vbcsag.least 7 l u).getD 0) := by
  unfold Mi.Can at h
  cases e : Vbcsag.least 7 l u with
  | none => rw [e] at h; cases h
  | some x => rfl
theorem df_heights_of (D : Dn K mg "heights_of" s_heights_of ["streets", "places"]) (Do : Df P w K mg base "odd_set" ["streets"] 3 (spOddSet K C)) (Dl : Df P w K mg base "leasts_of" ["streets"] 5 (spLeasts K C))
    (Dc : Df P w K mg base "changed" ["odd", "place"] 2 spChanged) (gr : mg "range" = none) : Df P w K mg base "heights_of" ["streets", "places"] 6 (spHeights K C) := by
  refine D.df sc_heights_of (fun vs H Q E h => ?_) (fun f cdv A outer s H vs Q E hr h => ?_)
  · obtain ⟨l, as, m, rfl, _⟩ := h
    rfl
  · obtain ⟨l, as, m, rfl, hR, wm, k⟩ := h
    have nd := sc_heights_of.nd
    have hn7 := wm.n7
    have hl16 := wm.len
    refine ⟨_, pss_cons (ps_set (i := 2) nd rfl (.inr rfl) (pe_df Do (hr.mono (by decide)) (by rfl) (pa_cons (pv 0) pa_nil)))
      (pss_cons (ps_set (i := 3) nd rfl (.inr rfl) (pe_df Dl hr (by rfl) (pa_cons (pv 0) pa_nil)))
      (pss_one (ps_ret (pe_lc (own := [("place", 4)]) (g := gName 4) (tt := tYes) (by rfl) nd (pi_range1 (by rfl) gr (pa_cons (pv 1) pa_nil))
        (blkOk_by (N := ["streets", "places", "odd", "leasts", "place"]) (sc := defScope s_heights_of) (own := [("place", 4)]) (by decide +kernel))
        (fun _ _ _ _ _ => pg_name (i := 4) nd rfl (.inl rfl)) (fun _ _ _ _ _ => pts_nil)
        (fun _ _ _ _ _ => pe_op op_mul pe_int (pe_op op_sub (pe_ix (ix_listK K) (pv 3) (pe_df Dc (hr.mono (by decide)) (by rfl) (pa_cons (pv 2) (pa_cons (pv 4) pa_nil))) (fun _ _ => rfl)) (pe_ix (ix_listK K) (pv 3) (pv 2) (fun _ _ => rfl)))))))), ?_⟩
    refine ⟨_, rfl, l, as, _, rfl, hR, wm.ws7, ?_⟩
    refine ⟨_, rfl, l, as, _, rfl, hR, wm.ws7, by omega, fun H1 lp sm hlp => ?_⟩
    have hrl : ((Vbcsag.rowsOf 7 m.streets).headD []).length = 128 := rows_len _ _ (rows_head_mem _)
    have eb := can_some (Mi.can_odd wm.ws7)
    refine ⟨_, rfl, (m.n : Int), rfl, by omega, by omega, fun D hD => lc_gen m.n (fun i => ((Vbcsag.heightsOf m).take i).map V.int) hD rfl (fun i => ?_) (fun i H hi _ => hi) (fun H _ => Nat.le_refl _) ?_ ?_⟩
    · rw [List.length_map, List.length_take, Mi.heights_eq wm, List.length_map, List.length_range]
      omega
    · rintro i H2 x H3 Kp Kn hi s2 ⟨rfl, rfl⟩ hk hn
      have hi7 : i < 7 := by omega
      have hlp2 := s2 _ _ hlp
      have hlt := Mi.lt128 wm.n7 (Mi.swapped_lt wm hi)
      have ex := can_some (Mi.can_swapped wm hi)
      have hol := Mi.lt128 wm.n7 (Mi.odd_lt wm)
      refine ⟨rfl, ?_⟩
      have e0 : (0 : Int) + (i : Int) = (i : Int) := Int.zero_add _
      rw [e0]
      refine ⟨_, rfl, _, rfl, _, rfl, _, i, rfl, by omega, ?_⟩
      refine ⟨lp, _, _, _, rfl, rfl, SqL.of hlp2, atI_nat (row_get (by rw [hrl]; exact hlt)), ?_⟩
      refine ⟨_, rfl, _, rfl, lp, _, _, _, rfl, rfl, SqL.of hlp2, atI_nat (row_get (by rw [hrl]; exact hol)), ?_⟩
      refine ⟨_, _, congrArg optV ex, congrArg optV eb, _, _, rfl, rfl, .inl ⟨by decide, by decide⟩, ?_⟩
      refine hk _ _ (fun _ _ h => h) ?_
      have e1 : (Vbcsag.heightsOf m)[i]? = some (Mi.hgt m.streets i) := by
        rw [Mi.heights_eq wm, List.getElem?_map, List.getElem?_range hi]
        rfl
      simp only [take_snocV e1, List.map_append, List.map_cons, List.map_nil]
      rfl
    · intro H2 s2 hD1
      refine k H2 D (sm.trans s2) (none_back sm hD) ?_
      rw [hD1, List.take_of_length_le]
      rw [Mi.heights_eq wm, List.length_map, List.length_range]
      exact Nat.le_refl _
end
end Rw

set_option Elab.async false
set_option linter.all false
set_option maxRecDepth 100000
set_option maxHeartbeats 2000000
namespace Rw
open PySem PySem.Spec PyProof.Rows L2
open Vbcsag (Street Map)
abbrev s_peaks_of : Stmt := topS 32
theorem sc_peaks_of : FnScope ["streets", "odd", "base", "peaks", "i", "street", "without", "near", "far"] ["streets"] (defScope s_peaks_of) := ⟨rfl, rfl, rfl, by decide +kernel, rfl, by decide +kernel, by decide +kernel⟩
theorem above_some (b : Nat) (x : Option Nat) : (Vbcsag.above b x).isSome = x.isSome := by
  cases x <;> rfl
theorem cut_to (xs : List V) (i : Nat) : cutV xs none (some (i : Int)) = xs.take i := by
  unfold cutV
  rw [HT.sIx_none, HT.sIx_nat, List.drop_zero, Nat.sub_zero]
  rcases Nat.le_total i xs.length with h | h
  · rw [Nat.min_eq_left h]
  · rw [Nat.min_eq_right h, List.take_of_length_le (Nat.le_refl _), List.take_of_length_le h]
theorem cut_from (xs : List V) (i : Nat) : cutV xs (some (i : Int)) none = xs.drop i := by
  unfold cutV
  rw [HT.sIx_none, HT.sIx_nat]
  rcases Nat.le_total i xs.length with h | h
  · rw [Nat.min_eq_left h, List.take_of_length_le]
    rw [List.length_drop]
    exact Nat.le_refl _
  · rw [Nat.min_eq_right h, List.drop_of_length_le (Nat.le_refl _), List.drop_of_length_le h, List.take_nil]
section
variable {P : Program} {w : World} {K : PySem.W.Frag} {mg : Str → Option Value} {base : Heap} {C : Addr}
theorem row_erase {H H' : Hp} {l q : Addr} {as : List Addr} {ss : List Street} (h : RowAt K C H l as ss) (sm : Same H H') (i : Nat) (hq : H' q = some (.lst ((as.eraseIdx i).map V.ref))) : RowAt K C H' q (as.eraseIdx i) (ss.eraseIdx i) := by
  refine ⟨SqL.of hq, ?_, fun j a s h1 h2 => ?_⟩
  · rw [List.length_eraseIdx, List.length_eraseIdx, h.len]
  · rw [List.getElem?_eraseIdx] at h1 h2
    split at h1
    · rename_i hj
      rw [if_pos hj] at h2
      exact (h.at_ j a s h1 h2).same sm
    · rename_i hj
      rw [if_neg hj] at h2
      exact (h.at_ (j + 1) a s h1 h2).same sm
def spPeaks (K : PySem.W.Frag) (C : Addr) : Sp := fun vs H Q _ => ∃ (l : Addr) (as : List Addr) (m : Map), vs = [.ref l] ∧ RowAt K C H l as m.streets ∧ Mi.WM m ∧
  ∀ H' p, Same H H' → H p = none → H' p = some (.lst ((Vbcsag.peaksOf m).map V.int)) → Q (.ref p) H'
theorem df_peaks_of (T : Txt K mg C) (D : Dn K mg "peaks_of" s_peaks_of ["streets"]) (Do : Df P w K mg base "odd_set" ["streets"] 3 (spOddSet K C)) (Dl : Df P w K mg base "leasts_of" ["streets"] 5 (spLeasts K C))
    (Dc : Df P w K mg base "changed" ["odd", "place"] 2 spChanged) (Dh : Df P w K mg base "height_from" ["least", "base"] 1 spHeightFrom) (Dk : Df P w K mg base "peak_from" ["length", "near", "far"] 1 spPeakFrom) (ge : mg "enumerate" = none) : Df P w K mg base "peaks_of" ["streets"] 6 (spPeaks K C) := by
  refine D.df sc_peaks_of (fun vs H Q E h => ?_) (fun f cdv A outer s H vs Q E hr h => ?_)
  · obtain ⟨l, as, m, rfl, _⟩ := h
    rfl
  · obtain ⟨l, as, m, rfl, hR, wm, k⟩ := h
    have nd := sc_peaks_of.nd
    have hn7 := wm.n7
    have hl16 := wm.len
    refine ⟨_, pss_cons (ps_set (i := 1) nd rfl (.inl rfl) (pe_df Do (hr.mono (by decide)) (by rfl) (pa_cons (pv 0) pa_nil)))
      (pss_cons (ps_set (i := 2) nd rfl (.inl rfl) (pe_ix ix_list (pe_df Dl hr (by rfl) (pa_cons (pv 0) pa_nil)) (pv 1) (fun _ _ => rfl)))
      (pss_cons (ps_set (i := 3) nd rfl (.inl rfl) (pe_lst pa_nil))
      (pss_cons (ps_for PassesOwn.never rfl (pi_enum (by rfl) ge (pa_cons (pv 0) pa_nil)) (pg_tup rfl (pgs_cons (pg_name (i := 4) nd rfl (.inl rfl)) (pgs_cons (pg_name (i := 5) nd rfl (.inl rfl)) pgs_nil)))
        (pss_cons (ps_set (i := 6) nd rfl (.inl rfl) (pe_df Dl hr (by rfl) (pa_cons (pe_op op_cat (pe_slice sl_list (pv 0) po_none (po_some (pv 4))) (pe_slice sl_list (pv 0) (po_some (pe_op op_addN (pv 4) pe_int)) po_none)) pa_nil)))
        (pss_cons (ps_set (i := 7) nd rfl (.inl rfl) (pe_df Dh (hr.mono (by decide)) (by rfl) (pa_cons (pe_ix ix_list (pv 6) (pe_df Dc (hr.mono (by decide)) (by rfl) (pa_cons (pv 1) (pa_cons (pe_fld (pv 5) rfl) pa_nil))) (fun _ _ => rfl)) (pa_cons (pv 2) pa_nil))))
        (pss_cons (ps_set (i := 8) nd rfl (.inl rfl) (pe_df Dh (hr.mono (by decide)) (by rfl) (pa_cons (pe_ix ix_list (pv 6) (pe_df Dc (hr.mono (by decide)) (by rfl) (pa_cons (pv 1) (pa_cons (pe_fld (pv 5) rfl) pa_nil))) (fun _ _ => rfl)) (pa_cons (pv 2) pa_nil))))
        (pss_one (ps_expr (pe_bm PySem.F.plainAttrs_list PySem.F.slot_list_append PySem.F.type_list_append mt_append (pv 3) (pa_cons (pe_df Dk (hr.mono (by decide)) (by rfl) (pa_cons (pe_fld (pv 5) rfl) (pa_cons (pv 7) (pa_cons (pv 8) pa_nil)))) pa_nil))))))))
      (pss_one (ps_ret (pv 3)))))), ?_⟩
    refine ⟨_, rfl, l, as, _, rfl, hR, wm.ws7, ?_⟩
    refine ⟨_, rfl, l, as, _, rfl, hR, wm.ws7, by omega, fun H1 lp sm hlp => ?_⟩
    have hrl : ∀ ss : List Street, ((Vbcsag.rowsOf 7 ss).headD []).length = 128 := fun ss => rows_len _ _ (rows_head_mem _)
    have eb := can_some (Mi.can_odd wm.ws7)
    have hol := Mi.lt128 wm.n7 (Mi.odd_lt wm)
    refine ⟨_, rfl, lp, _, _, vN (Mi.bas m.streets), rfl, rfl, SqL.of hlp, atI_nat (j := Vbcsag.oddOf m.streets) ((row_get (by rw [hrl]; exact hol)).trans (congrArg (fun z => some (optV z)) eb)), ?_⟩
    refine ⟨Nat.zero_le _, fun tp ntp => ?_⟩
    have hRb := hR.same sm
    have hpl : (Vbcsag.peaksOf m).length = m.streets.length := by
      rw [Mi.peaks_eq wm, List.length_map, List.length_range]
    refine ⟨_, rfl, l, _, rfl, (same_upd ntp).seq hRb.lst, ?_⟩
    refine for_gen m.streets.length (fun i σ H' => Same H1 H' ∧ H' tp = some (.lst (((Vbcsag.peaksOf m).take i).map V.int)) ∧ ∃ v4 v5 v6 v7 v8 : Option V, σ = [some (.ref l), some (vN (Vbcsag.oddOf m.streets)), some (vN (Mi.bas m.streets)), some (.ref tp), v4, v5, v6, v7, v8])
      ⟨same_upd ntp, upd_same, none, none, none, none, none, rfl⟩ ?_ ?_ ?_ ?_
    · rintro i σ H' hi ⟨s1, _⟩
      exact ⟨_, _, (hRb.same s1).lst, List.getElem?_eq_getElem (by rw [List.length_map, hR.len]; exact hi)⟩
    · rintro σ H' ⟨s1, _⟩
      exact ⟨_, (hRb.same s1).lst, by rw [List.length_map, hR.len]; exact Nat.le_refl _⟩
    · rintro i σ H2 x H3 hi ⟨s1, htp, v4, v5, v6, v7, v8, rfl⟩ ⟨Tt, y, rfl, nT, rfl, hy⟩
      have ey := hy _ (hRb.same s1).lst
      obtain ⟨a, ha, hsb⟩ := hRb.get hi
      rw [List.getElem?_map, ha] at ey
      have ey : V.ref a = y := Option.some.inj ey
      subst ey
      have hsi := Mi.getD_lt hi Vbcsag.street0
      have hm := wm.ws _ (List.mem_of_getElem? hsi)
      have s2 : Same H2 (upd H2 Tt (.tup [.int (i : Nat), V.ref a])) := same_upd nT
      have s12 := s1.trans s2
      refine ⟨Tt, _, rfl, .inl (.inl upd_same), rfl, _, _, rfl, _, _, rfl, rfl, ?_⟩
      -- streets[:i] + streets[i + 1:]
      refine ⟨_, rfl, _, rfl, (i : Int), rfl, l, _, rfl, (hRb.same s12).lst, fun q1 n1 => ?_⟩
      have s3 := same_upd (o := .lst (cutV (as.map V.ref) none (some (i : Int)))) n1
      refine ⟨_, rfl, _, rfl, i, 1, rfl, rfl, ((i + 1 : Nat) : Int), rfl, l, _, rfl, (hRb.same (s12.trans s3)).lst, fun q2 n2 => ?_⟩
      have s4 := same_upd (o := .lst (cutV (as.map V.ref) (some ((i + 1 : Nat) : Int)) none)) n2
      refine ⟨q1, q2, _, _, rfl, rfl, s4 _ _ upd_same, upd_same, ?_, fun q3 n3 => ?_⟩
      · have h1 := cutV_length (as.map V.ref) none (some (i : Int))
        have h2 := cutV_length (as.map V.ref) (some ((i + 1 : Nat) : Int)) none
        have h3 : (as.map V.ref).length ≤ 16 := by rw [List.length_map, hR.len]; exact hl16
        exact Nat.le_trans (Nat.add_le_add h1 h2) (Nat.le_trans (Nat.add_le_add h3 h3) (by decide))
      have s5 := same_upd (o := .lst (cutV (as.map V.ref) none (some (i : Int)) ++ cutV (as.map V.ref) (some ((i + 1 : Nat) : Int)) none)) n3
      have s15 := ((s12.trans s3).trans s4).trans s5
      have hcat : cutV (as.map V.ref) none (some (i : Int)) ++ cutV (as.map V.ref) (some ((i + 1 : Nat) : Int)) none = (as.eraseIdx i).map V.ref := by
        rw [cut_to, cut_from, List.eraseIdx_eq_take_drop_succ, List.map_append, List.map_take, List.map_drop]
      have hRe := row_erase hRb s15 i (q := q3) (by rw [upd_same, hcat])
      refine ⟨q3, _, _, rfl, hRe, wm.ws7.erase i, ?_, fun H4 wp s6 hwp => ?_⟩
      · rw [List.length_eraseIdx]
        split <;> omega
      have s16 := s15.trans s6
      obtain ⟨dx, hst⟩ := hsb.same s16
      have ha7 := Mi.lt128 wm.n7 (Mi.swapped_lt wm hm.1)
      have hb7 := Mi.lt128 wm.n7 (Mi.swapped_lt wm hm.2)
      -- near, far
      refine ⟨_, rfl, _, rfl, _, rfl, a, C, dx, _, _, rfl, hst, T.cl, T.nA, rfl, _, _, rfl, by omega, wp, _, _, _, rfl, rfl, SqL.of hwp, atI_nat (row_get (by rw [hrl]; exact ha7)), _, rfl, _, _, rfl, ?_⟩
      refine ⟨_, rfl, _, rfl, _, rfl, a, C, dx, _, _, rfl, hst, T.cl, T.nB, rfl, _, _, rfl, by omega, wp, _, _, _, rfl, rfl, SqL.of hwp, atI_nat (row_get (by rw [hrl]; exact hb7)), _, rfl, _, _, rfl, ?_⟩
      have htp4 : H4 tp = some (.lst (((Vbcsag.peaksOf m).take i).map V.int)) := (s2.trans (s3.trans (s4.trans (s5.trans s6)))) _ _ htp
      have hill := Mi.hill wm hsi
      refine ⟨_, rfl, .inl ⟨rfl, _, SqL.of htp4⟩, ?_⟩
      refine ⟨_, rfl, a, C, dx, _, _, rfl, hst, T.cl, T.nL, rfl, _, rfl, _, rfl, _, _, _, rfl, ?_, ?_⟩
      · have h1 := hill.one
        rw [← above_some (Mi.bas m.streets) (Mi.wo m.streets i _), ← above_some (Mi.bas m.streets) (Mi.wo m.streets i (m.streets.getD i Vbcsag.street0).b)] at h1
        exact h1
      · refine ⟨tp, _, _, rfl, rfl, htp4, small1000 (by rw [List.length_map, List.length_take]; omega), ?_⟩
        refine ⟨same_put ntp s16, ?_, _, _, _, _, _, rfl⟩
        have e1 : (Vbcsag.peaksOf m)[i]? = some (Mi.pk m.streets i) := by
          rw [Mi.peaks_eq wm, List.getElem?_map, List.getElem?_range hi]
          rfl
        rw [upd_same, take_snocV e1, List.map_append]
        unfold Mi.pk
        rw [peakF_pkI]
        rfl
    · rintro σ H2 ⟨s1, htp, v4, v5, v6, v7, v8, rfl⟩
      refine ⟨_, rfl, k H2 tp (sm.trans s1) (none_back sm ntp) ?_⟩
      rw [htp, List.take_of_length_le (by omega)]
end
end Rw

set_option Elab.async false
set_option linter.all false
set_option maxRecDepth 100000
set_option maxHeartbeats 4000000
namespace Rw
open PySem PySem.Spec PyProof.Rows L2
/-! ### set(xs) of a list of ints -/
abbrev emptySet (w : World) : Obj := { cls := .type "set", dict := none, data := .set #[] 0 (.fresh 0 0 (!w.params.followText "set-order")) }
section
variable {P : Program} {w : World} {A : Around} {E : Value → Shared → Prop} {s : Shared}
theorem set_of_list {a : Addr} {vals : Array Value} (ns : List Int) {Q : Value → Shared → Prop} (hA : A.handled = none) (ha : s.heap.IsList a vals) (hv : IntsAre vals.toList ns) (few : ns.length + 1 < scanBound)
    (fin : ∀ (g : Heap) (t c : Nat), SetR w g s.heap.objs.size (fun j => decide (j ∈ ns)) c → c ≤ ns.length → (∀ b o, s.heap.get? b = some o → g.get? b = some o) → Q (.ref s.heap.objs.size) { s with heap := g, toks := t }) :
    wpAny (model P w) A (call (.type "set") [.ref a]) Q E s := by
  have sz : vals.size = ns.length := (Array.length_toList (xs := vals)).symm.trans (IntsAre.length hv)
  obtain ⟨c0, tl0, mro0⟩ := F.called_set.mro
  have made0 := F.called_set.made
  have sub0 := F.called_set.sub
  refine wpAny_call (codeAny_of_tree (show wpAny _ _ (callAny (.type "set") _) _ _ _ from wpAny_pure ⟨Code.quiet_builtin _ (by decide +kernel), codeAny_builtin F.entry_type_call ?_⟩))
  rw [Around.under_plain (weight_type_call_type "set" [.ref a] []) rfl]
  have nt := F.called_set.notType
  have cc := F.called_set.canCreate
  have tc := F.typeCall_set_1 (.ref a)
  repeat (any_goals (first | wp_step | assumption))
  refine codeAny_mono (code_set_led1 (.ref a) (E := E) (Q₁ := fun ob s1 => ob = .ref s.heap.objs.size ∧ s1 = { s with heap := s.heap.push (emptySet w) }) ⟨rfl, rfl⟩) fun r1 s1 h1 => ?_
  match r1, h1 with
  | .error e, h1 => exact h1
  | .ok (.ret ob), h1 =>
    obtain ⟨rfl, rfl⟩ := h1
    have at0 : (s.heap.push (emptySet w)).get? s.heap.objs.size = some (emptySet w) := Heap.get?_push_size _ rfl
    have ty0 : Shared.TypeIs { s with heap := s.heap.push (emptySet w) } (.ref s.heap.objs.size) "set" := ⟨_, at0, rfl⟩
    have il := F.called_set.init.lookup
    have ib := F.called_set.init.bind (.ref s.heap.objs.size)
    repeat (any_goals (first | wp_step | assumption))
    refine codeAny_mono (codeAny_call_builtin (R := wants (fun r s2 => r = .none ∧ ∃ g t c, s2 = { s with heap := g, toks := t } ∧ SetR w g s.heap.objs.size (fun j => decide (j ∈ ns)) c ∧ c ≤ ns.length ∧ (∀ b o, s.heap.get? b = some o → g.get? b = some o)) E) F.called_set.init.plain F.entry_set_init (check_set_init_1 ty0 ?_)) fun r2 s2 h2 => ?_
    · obtain ⟨⟨k1, k2, k3, k4⟩, hob, hcl, num, hdt⟩ := ha
      simp only at hcl hdt
      subst hcl hdt
      have at1 : (s.heap.push (emptySet w)).get? a = some { cls := .type "list", dict := k2, data := .seq vals num, slots := k4 } := Heap.get?_push_of_some _ hob
      have n1 := F.sub_list_set
      have n2 := F.sub_list_frozenset
      have n3 : (Value.type "list" == Value.type "dict") = false := by decide
      have li : (s.heap.push (emptySet w)).IsList a vals := ⟨_, at1, rfl, num, rfl⟩
      unfold Builtin.«set.__init__» noKeywords Builtin.Frozenset.updateFrom
      generalize hit : pyIter = it
      wp_walk
      subst hit
      refine wpAny_pyIter_list li (wpAny_bind (wpAny_runValue ?_))
      have lt0 : a < s.heap.objs.size := Heap.lt_size hob
      have quiet : A.in1.in1.in1.handled = none := by simp [hA]
      have far : a ≠ (s.heap.push (emptySet w)).objs.size := by
        rw [Heap.size_push]
        exact Nat.ne_of_lt (Nat.lt_succ_of_lt lt0)
      have apart : s.heap.objs.size ∉ [(s.heap.push (emptySet w)).objs.size, a] := by
        rw [Heap.size_push]
        simp only [List.mem_cons, List.not_mem_nil, or_false, not_or]
        exact ⟨Nat.ne_of_lt (Nat.lt_succ_self _), Nat.ne_of_gt lt0⟩
      have each : ∀ (i : Nat) (v : Value), vals[i]? = some v → ∃ k t, ns[i]? = some k ∧ v = .int k t := fun i v h => by
        have hi : i < ns.length := sz ▸ (Array.getElem?_eq_some_iff.mp h).1
        obtain ⟨t, e⟩ := PyProof.Rows.IntsAre.int_at hv i v (by rw [Array.getElem?_toList]; exact h)
        exact ⟨ns[i], t, List.getElem?_eq_getElem hi, by rw [e, List.getD_eq_getElem?_getD, List.getElem?_eq_getElem hi]; rfl⟩
      refine set_update_ints ((Walks.list quiet _ a far vals).toS) s.heap.objs.size apart ns sz few each (vals.size - 0) 0 _ (by omega) (Nat.zero_le _) ⟨⟨_, Heap.get?_push_size _ rfl, rfl, rfl⟩, li.push _⟩ ⟨0, Nat.le_refl 0, setR_new_at (Heap.get?_push_of_some _ at0)⟩ ?_
      rintro ⟨g, g2, d2, t2, o2⟩ c mv hc hS
      obtain rfl : g2 = s.gens := mv.gens
      obtain rfl : d2 = s.drawn := mv.drawn
      obtain rfl : o2 = s.os := mv.os
      show wpAny _ _ _ _ _ _
      refine wpAny_pure (show wpAny _ _ (ret Value.none) _ _ _ from wpAny_pure ⟨rfl, g, t2, c, rfl, hS, sz ▸ hc, fun b o e => ?_⟩)
      have lb : b < s.heap.objs.size := Heap.lt_size e
      refine mv.heap b o ?_ (Heap.get?_push_of_some _ (Heap.get?_push_of_some _ e))
      rw [Heap.size_push]
      simp only [List.mem_cons, List.not_mem_nil, or_false, not_or]
      exact ⟨Nat.ne_of_lt lb, Nat.ne_of_lt (Nat.lt_succ_of_lt lb)⟩
    · match r2, h2 with
      | .error e, h2 => exact h2
      | .ok (.ret r), h2 =>
        obtain ⟨rfl, g, t, c, rfl, hS, hc, hk⟩ := h2
        repeat (any_goals (first | wp_step | assumption))
        exact fin _ _ _ hS hc hk
      | .ok .next, h2 => exact h2.elim
      | .ok .brk, h2 => exact h2.elim
      | .ok .cont, h2 => exact h2.elim
  | .ok .next, h1 => exact h1.elim
  | .ok .brk, h1 => exact h1.elim
  | .ok .cont, h1 => exact h1.elim
end
section
variable {X : Cx}
def rSetL (K : PySem.W.Frag) (w : World) : List V → Hp → VK → Prop := fun xs H Q => ∃ (a : Addr) (ns : List Int), xs = [V.ref a] ∧ SqL K H a (ns.map V.int) ∧ ns.length < 64 ∧
  ∀ (p : Addr) (n : Nat), H p = none → n ≤ ns.length → Q (.ref p) (upd H p (SetO w p (fun j => decide (j ∈ ns)) n))
theorem cr_setL (hc : X.calm = true) : CallR X (.type "set") (rSetL X.K X.w) := by
  intro pins s σ H xs us Q I r h
  obtain ⟨a, ns, rfl, hs, few, q⟩ := h
  rw [Vals.ref1 r]
  obtain ⟨its, rv, pl, _⟩ := I.list hs
  refine set_of_list (P := X.prog) (w := X.w) ns (I.ok.hd hc) pl.isList (by simpa using ints_of_vals rv) (Nat.lt_of_lt_of_le (Nat.succ_lt_succ few) (by decide)) fun g t c hS hl hk => ?_
  exact ⟨.ref s.heap.objs.size, _, I.laid (t' := t) hk (Nat.le_refl _) (setO_new hS), rfl, q _ c (I.hok.fresh (Nat.le_refl _)) hl⟩
end
end Rw

set_option Elab.async false
set_option linter.all false
set_option maxRecDepth 100000
set_option maxHeartbeats 4000000
namespace Rw
open PySem PySem.Spec PyProof.Rows L2
/-! ### all(xs) of a list of ints -/
theorem truth_nums {prog : Program} {w : World} {A : Around} {ns : List Int} {its : List Value} (e : IntsAre its ns) : TruthOf prog w A (fun i v => its.toArray[i]? = some v) (fun i => ns.getD i 0 != 0) := fun i v s Q E hv hq => by
  have hv2 : its[i]? = some v := by simpa using hv
  obtain ⟨t, ev⟩ := PyProof.Rows.IntsAre.int_at e i v hv2
  rw [ev]
  exact PyProof.Rows.truthy_int hq
theorem all_nums : ∀ ns : List Int, (List.range ns.length).all (fun i => ns.getD i 0 != 0) = ns.all fun z => z != 0
  | [] => rfl
  | z :: ns => by
    rw [List.length_cons, List.range_succ_eq_map, List.all_cons, List.all_map, List.all_cons, ← all_nums ns]
    rfl
section
variable {X : Cx}
def rAllI (K : PySem.W.Frag) : List V → Hp → VK → Prop := fun vs H Q => ∃ (a : Addr) (ns : List Int), vs = [V.ref a] ∧ SqL K H a (ns.map V.int) ∧ Q (.bl (ns.all fun z => z != 0)) H
theorem cr_allI (hc : X.calm = true) : CallR X (.builtin "all") (rAllI X.K) := by
  intro pins s σ H vs us Q I r h
  obtain ⟨a, ns, rfl, hs, q⟩ := h
  obtain ⟨its, rv, hl, _⟩ := I.list hs
  rw [Vals.ref1 r]
  refine call_all_walk (iter_any hl.isList fun s2 e2 st ne => ?_)
  subst e2
  have hi := ints_of_vals rv
  refine ⟨_, _, _, _, _, _, _, rfl, Walks.list (A := X.A.in1) (I.ok.hd hc) _ a ne its.toArray, st, truth_nums hi, fun g tk hk => ?_⟩
  refine ⟨.bl _, H, I.kept fun b o eo => hk b o (fun hm => ?_) (Heap.get?_push_of_some _ eo), ?_, q⟩
  · cases hm with
    | head => exact absurd (Heap.lt_size eo) (Nat.lt_irrefl _)
    | tail _ hm => cases hm
  · show Value.bool _ = Value.bool _
    rw [← all_nums, List.size_toArray, hi.length]
/-! ### xs.extend(t), t a tuple -/
def rExtT : V → List V → Hp → VK → Prop := fun x vs H Q => ∃ l b xs zs, x = .ref l ∧ vs = [.ref b] ∧ H l = some (.lst xs) ∧ H b = some (.tup zs) ∧ xs.length + zs.length ≤ sizeLine ∧ Q .non (upd H l (.lst (xs ++ zs)))
theorem extend_tup (l : Addr) (xs : Array Value) (n : Nat) (b : Addr) (ys : Array Value) (k : Nat) (dd : Option Addr) (sl : Array (Option Value)) (h0 : ¬(!xs.isEmpty && Builtin.List.listTooLong (xs.size + ys.size)) = true) (h1 : xs.size ≤ sizeLine) (h2 : xs.size + ys.size ≤ sizeLine + 1) :
    Meets (Builtin.«list.extend» ⟨[.ref l, .ref b], []⟩) (fun _ R s => s.heap.get? l = some { cls := .type "list", dict := none, data := .seq xs n, slots := #[] } ∧ s.heap.get? b = some { cls := .type "tuple", dict := dd, data := .seq ys k, slots := sl } ∧
      R (.ok (.ret Value.none)) { s with heap := s.heap.update l (Obj.mapSeq fun x => x ++ ys), toks := s.toks }) :=
  .of_wp fun prog w A R s h => by
    obtain ⟨hp, g, d, tk, os⟩ := s
    obtain ⟨hl, hb, h⟩ := h
    have i1 := AutoSeq1.idx_int
    have i2 := AutoSeq1.sub_tuple_tuple
    have i3 := AutoSeq1.sub_list_list
    have i4 := AutoSeq1.sub_tuple_list
    have i5 := AutoSeq1.sub_list_tuple
    have fits : (xs ++ ys).size ≤ sizeLine + 1 := (Array.size_append (xs := xs) (ys := ys)).symm ▸ h2
    wp_walk using (wpAny_updateSeq hl rfl (hz := h1) (_hz' := fits)), AutoSeq1.wpAny_loadPart' hl, AutoSeq1.wpAny_loadPart' hb
    exact ⟨_, rfl, h⟩
theorem mt_extT : MtM X "list.extend" rExtT := by
  intro pins s σ H x vs v us Q I rx rv h
  obtain ⟨l, b, xs, zs, rfl, rfl, hH, hB, hz, q⟩ := h
  cases rx
  obtain ⟨u, rfl, ru⟩ := rv.one
  cases ru
  obtain ⟨z, its, n, r, hl, e⟩ := I.lstM hH
  obtain ⟨its2, r2, ⟨⟨oc, od, odt, osl⟩, e2, c2, n2, d2⟩, z2⟩ := I.tuple (SqT.of hB)
  simp only at c2 d2
  subst c2 d2
  have hl2 := r2.length
  have hsz : its.toArray.size + its2.toArray.size ≤ sizeLine := by rw [List.size_toArray, List.size_toArray]; omega
  have notlong : ¬ (!its.toArray.isEmpty && Builtin.List.listTooLong (its.toArray.size + its2.toArray.size)) = true := fun w => by
    rw [notLongL hsz, Bool.and_false] at w
    cases w
  refine call_meets F.slot_list_extend ⟨_, e, rfl⟩ F.entry_list_extend (F.args_list_extend_2 _ _) (extend_tup l its.toArray n b its2.toArray n2 od osl notlong (by rw [List.size_toArray]; omega) (Nat.le_succ_of_le hsz)) ⟨e, e2, ?_⟩
  exact ⟨.non, _, I.lset (its' := its ++ its2) hH e (by simp) (r.append r2) (by rw [List.length_append]; omega), rfl, q⟩
/-! ### sum(d.values()) -/
def tSumVals (td : TE) : TE := fun σ H Q => td σ H fun x H1 => ∃ (a : Addr) (kvs : List (Key × V)) (is : List Int), x = V.ref a ∧ H1 a = some (.dK kvs) ∧ kvs.map (·.2) = is.map V.int ∧ Q (.int is.sum) H1
variable {o : Expr} {p pos apos mpos : Pos} {td : TE}
theorem pe_sumVals (hc : X.calm = true) (hg : Gl X "sum") (hm : X.mg "sum" = none) (hd : PE X o td) (hbase : attributeBase o "values" X.env (eval o X.env) = eval o X.env := by rfl) (hline : (apos.endLine == mpos.line) = true := by rfl)
    (hse : starEach [Expr.Call (.Attribute o "values" apos) [] [] mpos] X.env = [(false, eval (Expr.Call (.Attribute o "values" apos) [] [] mpos) X.env)] := by rfl) :
    PE X (.Call (.Name "sum" p) [.Call (.Attribute o "values" apos) [] [] mpos] [] pos) (tSumVals td) := by
  refine ⟨fun pins s σ H Q I h => wpAny_Call_Name_kw (ld_blt I hg hm (u := .builtin "sum") (by decide +kernel) ?_ (by decide) (by decide))⟩
  rw [hse]
  refine PySem.callWith_builtin1 (wpAny_Call_method0_late hbase hline (thn (hd.run pins s σ H _ I h) fun v s1 ⟨x, H1, I1, r1, a, kvs, is, ex, ha, hv, q⟩ => ?_))
  subst ex
  obtain rfl : v = Value.ref a := r1
  obtain ⟨_, nsys, vs, rel, dof⟩ := dk_of I1.hok ha
  obtain ⟨ep, dat⟩ := dof.dictAt
  obtain ⟨ob, es, ho, ex, _⟩ := id dat
  refine ⟨"dict", "dict.values", F.plainAttrs_dict, F.slot_dict_values, F.type_dict_values, ⟨ob, ho, ex.1⟩, fun b e => (by cases e; exact ⟨ob, ho, ex.2.1⟩), Calls.callWith_builtin rfl (PySem.evalArgs_none ?_)⟩
  refine call_meetsIn F.slot_dict_values ⟨ob, ho, ex.1⟩ F.entry_dict_values (F.args_dict_values_1 _) (meets_dict_values (mixKind X.prog X.w) a nsys) ⟨⟨vs, dof⟩, ?_⟩
  generalize hh : s1.heap.push { cls := .type "dict_values", data := .fields #[.ref a] } = g1
  have k1 : ∀ b u, s1.heap.get? b = some u → g1.get? b = some u := fun b u e => hh ▸ Heap.get?_push_of_some _ e
  have sz : g1.objs.size = s1.heap.objs.size + 1 := hh ▸ Heap.size_push ..
  have view : g1.IsValuesView s1.heap.objs.size a := hh ▸ ⟨_, Heap.get?_push_size _ rfl, rfl, rfl⟩
  have len : vs.length = is.length := by
    have e1 := congrArg List.length hv
    rw [List.length_map, List.length_map] at e1
    rw [← e1]
    exact (KV.length rel).symm
  have val : ∀ (i : Nat) (v : Value), (∃ k, vs[i]? = some (k, v)) → ∃ t, v = Value.int (is.getD i 0) t := fun i v ⟨k, hk⟩ => by
    obtain ⟨x, h1, h2⟩ := KV.at' rel hk
    have e1 : (kvs.map (·.2))[i]? = some x := by rw [List.getElem?_map, h1]; rfl
    rw [hv, List.getElem?_map] at e1
    obtain ⟨j, hj, rfl⟩ := Option.map_eq_some_iff.mp e1
    obtain ⟨t, e3⟩ := h2
    exact ⟨t, by rw [e3, List.getD_eq_getElem?_getD, hj]; rfl⟩
  have lt : a < s1.heap.objs.size := Heap.lt_size ho
  refine call_sum_walkG (wpAny_pyIter_values (v := s1.heap.objs.size) (d := a) view (dat.keep k1) ?_)
  refine ⟨_, _, _, _, _, _, _, rfl, Walks.dictValues (knd := mixKind X.prog X.w) (A := X.A.in1) (I.ok.hd hc) g1.objs.size a (by rw [sz]; exact Nat.ne_of_lt (Nat.lt_succ_of_lt lt)) vs ep, ⟨⟨_, Heap.get?_push_size _ rfl, rfl, rfl⟩, (dat.keep k1).keep fun b u e => Heap.get?_push_of_some _ e⟩, fun b hb => ?_, val, fun h' tk t' hk => ?_⟩
  · show b < (g1.push _).objs.size
    rw [Heap.size_push]
    rcases List.mem_cons.mp hb with e | hb
    · rw [e]
      exact Nat.lt_succ_self _
    · rw [List.mem_singleton.mp hb, sz]
      exact Nat.lt_succ_of_lt (Nat.lt_succ_of_lt lt)
  · refine ⟨.int is.sum, H1, I1.kept (t' := tk) fun b u e => hk b u (fun hm => ?_) (Heap.get?_push_of_some _ (k1 b u e)), ⟨t', ?_⟩, q⟩
    · have e1 : b = g1.objs.size := List.mem_singleton.mp hm
      have e2 := Heap.lt_size e
      rw [e1, sz] at e2
      exact absurd e2 (Nat.not_lt.mpr (Nat.le_succ _))
    · rw [preSum_getD, List.take_of_length_le (by omega)]
/-! ### a call of what an expression gives: one of several defs that keep promises -/
def tCallE (X : Cx) (tf : TE) (t : TA) : TE := fun σ H Q => tf σ H fun v H1 => ∃ (f : Addr) (fd : FuncData) (ps : List Str) (k : Nat) (sp : Sp), v = .ref f ∧ FnOk X.prog X.w X.K X.mg X.base CX0 k f fd ps sp ∧ Room k X.A ∧ PySem.W.keepIn X.K (.ref f) = true ∧ Binds X.K fd ps [] ∧ t σ H1 fun vs H2 => sp vs H2 Q E0
theorem pe_callE {fe e : Expr} {es : List Expr} {tf : TE} {t : TA} {pos : Pos} (hf : PE X fe tf) (ha : PA X (e :: es) t) (hc : eval (.Call fe (e :: es) [] pos) X.env = (do callWith pos (← eval fe X.env) [] (backTo pos (starEach (e :: es) X.env)) (backToKw pos (keywordEach [] X.env))) := by rfl)
    (he : starEach (e :: es) X.env = (false, eval e X.env) :: starEach es X.env := by rfl) (hpl : (backTo pos (starEach es X.env)).any (·.1) = false := by rfl) : PE X (.Call fe (e :: es) [] pos) (tCallE X tf t) := by
  refine ⟨fun pins s σ H Q I h => Call_ (thn (hf.run pins s σ H _ I h) fun v s1 ⟨x, H1, I1, r1, f, fd, ps, k, sp, ex, F, hr, kp, b, q⟩ => ?_) hc⟩
  subst ex
  obtain rfl : v = Value.ref f := r1
  refine PySem.W.callWith_K (h₀ := X.base) I.ok.mod.kin kp (thn (ha.run pos pins s1 σ H1 _ I1 q) fun us s2 ⟨vs, H2, I2, r, q2⟩ => ⟨I2.kIn, ?_⟩) he hpl
  exact run_fn F hr b .nil pass0 I2 r (by rw [List.append_nil]; exact q2)
end
end Rw

set_option Elab.async false
set_option linter.all false
set_option maxRecDepth 100000
set_option maxHeartbeats 2000000
namespace Rw
open PySem PySem.Spec PyProof.Rows L2
open Vbcsag (Street Map)
abbrev s_levels_of : Stmt := topS 33
abbrev s_groups_at : Stmt := topS 34
theorem sc_levels_of : FnScope ["streets", "heights", "peaks", "between", "street", "peak"] ["streets", "heights", "peaks"] (defScope s_levels_of) := ⟨rfl, rfl, rfl, by decide +kernel, rfl, by decide +kernel, by decide +kernel⟩
theorem sc_groups_at : FnScope ["level", "streets", "heights", "peaks", "low", "seen", "groups", "place", "height", "group", "street", "peak"] ["level", "streets", "heights", "peaks"] (defScope s_groups_at) := ⟨rfl, rfl, rfl, by decide +kernel, rfl, by decide +kernel, by decide +kernel⟩
section
variable {X : Cx}
theorem pg_tupK {es : List Expr} {k : Nat} {t : TGs} {n : Nat} {pos : Pos} (K : PySem.W.Frag) (hc : X.calm = true) (h : PGs X es t) (hK : X.K = K := by rfl)
    (hn : (assignEach es X.env).length = n := by rfl) (hst : (assignEach es X.env).findIdx? (·.1) = none := by rfl) : PG X (.Tuple es k pos) (gTup K n t) := by
  rw [← hK]
  exact pg_tup hc h hn hst
end
section
variable {P : Program} {w : World} {K : PySem.W.Frag} {mg : Str → Option Value} {base : Heap} {C : Addr}
theorem zip_take_snoc {α β : Type} {l : List α} {r : List β} {i : Nat} {x : α} {y : β} (h1 : l[i]? = some x) (h2 : r[i]? = some y) : (l.zip r).take (i + 1) = (l.zip r).take i ++ [(x, y)] := take_snocV (List.getElem?_zip_eq_some.mpr ⟨h1, h2⟩)
theorem nint_ne {a b : Int} (h : a ≠ b) : (!decide (V.int a = V.int b)) = true := by
  rw [decide_eq_false (fun z => h (by injection z))]
  rfl
def spLevels (K : PySem.W.Frag) (C : Addr) : Sp := fun vs H Q _ => ∃ (l h q : Addr) (as : List Addr) (m : Map) (hs ps : List Int), vs = [.ref l, .ref h, .ref q] ∧ RowAt K C H l as m.streets ∧ m.streets.length ≤ 16 ∧ H h = some (.lst (hs.map V.int)) ∧ hs.length ≤ 7 ∧ H q = some (.lst (ps.map V.int)) ∧ ps.length = m.streets.length ∧
  ∀ H' p, Same H H' → H p = none → H' p = some (.lst ((Vbcsag.steps m hs ps).map V.int)) → Q (.ref p) H'
theorem df_levels_of (T : Txt K mg C) (D : Dn K mg "levels_of" s_levels_of ["streets", "heights", "peaks"]) (gz : mg "zip" = none) (gS : mg "sorted" = none) (gs : mg "set" = none) : Df P w K mg base "levels_of" ["streets", "heights", "peaks"] 1 (spLevels K C) := by
  refine D.df sc_levels_of (fun vs H Q E h => ?_) (fun f cdv A outer s H vs Q E hr h => ?_)
  · obtain ⟨l, h, q, as, m, hs, ps, rfl, _⟩ := h
    rfl
  · obtain ⟨l, h, q, as, m, hs, ps, rfl, hR, hl16, hh, hh7, hq, hpl, k⟩ := h
    have nd := sc_levels_of.nd
    refine ⟨_, pss_cons (ps_setLc (i := 3) (own := [("street", 4), ("peak", 5)]) (by rfl) nd rfl rfl (sw_true rfl rfl rfl (by decide +kernel)) (pi_zip (by rfl) gz (pa_cons (pv 0) (pa_cons (pv 2) pa_nil)))
        (blkOk_by (N := ["streets", "heights", "peaks", "between", "street", "peak"]) (sc := defScope s_levels_of) (own := [("street", 4), ("peak", 5)]) (by decide +kernel))
        (fun _ _ _ _ _ => pg_tupK (n := 2) K rfl (pgs_cons (pg_name (i := 4) nd rfl (.inl rfl)) (pgs_cons (pg_name (i := 5) nd rfl (.inl rfl)) pgs_nil)))
        (fun _ _ _ _ _ => pts_one (pt_cmpR op_ne (pe_fldK K (pv 4) rfl) (pe_fldK K (pv 4) rfl) (nomark _)))
        (fun _ _ _ _ _ => pv 5))
      (pss_one (ps_ret (pe_callB (cr_sortedSet (by rfl)) (by rfl) gS (by decide +kernel) (pa_cons (pe_callTy (cr_setL (by rfl)) (by rfl) gs (by decide +kernel) (pa_cons (pe_op op_cat (pv 1) (pv 3)) pa_nil)) pa_nil)))), ?_⟩
    let keep : Street × Int → Bool := fun x => x.1.a != x.1.b
    refine ⟨_, rfl, _, rfl, l, q, _, _, rfl, hR.lst, SqL.of hq, fun D hD => lc_gen m.streets.length (fun i => (((m.streets.zip ps).take i).filter keep).map fun x => V.int x.2) hD rfl (fun i => ?_) (fun i H1 hi sm => ?_) (fun H1 sm => ?_) ?_ ?_⟩
    · rw [List.length_map]
      have h1 := List.length_filter_le keep ((m.streets.zip ps).take i)
      rw [List.length_take, List.length_zip] at h1
      omega
    · exact ⟨_, _, _, _, (hR.same sm).lst, SqL.of (sm _ _ hq), List.getElem?_eq_getElem (by rw [List.length_map, hR.len]; exact hi), List.getElem?_eq_getElem (by rw [List.length_map, hpl]; exact hi)⟩
    · exact ⟨_, _, (hR.same sm).lst, SqL.of (sm _ _ hq), .inl (by rw [List.length_map, hR.len]; exact Nat.le_refl _)⟩
    · rintro i H1 x H2 Kp Kn hi sm ⟨Tt, x1, x2, rfl, nT, rfl, f1, f2⟩ hk hn
      have hR1 := hR.same sm
      have e1 := f1 _ hR1.lst
      have e2 := f2 _ (SqL.of (sm _ _ hq))
      obtain ⟨a, ha, ⟨dx, hs1⟩⟩ := hR1.get hi
      rw [List.getElem?_map, ha] at e1
      have e1 : V.ref a = x1 := Option.some.inj e1
      have hip : i < ps.length := by omega
      rw [List.getElem?_map, List.getElem?_eq_getElem hip] at e2
      have e2 : V.int ps[i] = x2 := Option.some.inj e2
      subst e1 e2
      have s2 : Same H1 (upd H1 Tt (.tup [V.ref a, V.int ps[i]])) := same_upd nT
      have hs2 := s2 _ _ hs1
      have ez := zip_take_snoc (Mi.getD_lt hi Vbcsag.street0) (List.getElem?_eq_getElem hip)
      refine ⟨Tt, _, rfl, .inl (.inl upd_same), rfl, _, _, rfl, _, _, rfl, rfl, rfl, ?_⟩
      refine ⟨_, rfl, a, C, dx, _, _, rfl, hs2, T.cl, T.nA, rfl, _, rfl, a, C, dx, _, _, rfl, hs2, T.cl, T.nB, rfl, rfl, _, rfl, ?_⟩
      by_cases z : (m.streets.getD i Vbcsag.street0).a = (m.streets.getD i Vbcsag.street0).b
      · refine iteN (by rw [z]; simp) ?_
        refine hn _ s2 ?_
        show List.map _ _ = _
        rw [ez, List.filter_append, List.filter_cons, if_neg (show ¬ keep _ = true by simpa [keep] using z)]
        simp
      · refine iteP (nint_ne (by omega)) ?_
        refine ⟨_, rfl, hk _ _ s2 ?_⟩
        show List.map _ _ = _
        rw [ez, List.filter_append, List.map_append, List.filter_cons, if_pos (show keep _ = true by simpa [keep] using z)]
        rfl
    · intro H1 sm hD1
      have hb : H1 D = some (.lst ((Mi.betweenM m.streets ps).map V.int)) := by
        rw [hD1, List.take_of_length_le (by rw [List.length_zip]; omega)]
        unfold Mi.betweenM
        rw [List.map_map]
        rfl
      have hbl : (Mi.betweenM m.streets ps).length ≤ 16 := by
        unfold Mi.betweenM
        rw [List.length_map]
        have := List.length_filter_le keep (m.streets.zip ps)
        rw [List.length_zip] at this
        exact Nat.le_trans this (by omega)
      refine ⟨_, rfl, _, rfl, h, D, _, _, rfl, rfl, sm _ _ hh, hb, ?_, fun p1 n1 => ?_⟩
      · rw [List.length_map, List.length_map]
        exact Nat.le_trans (Nat.add_le_add hh7 hbl) (by decide)
      refine ⟨p1, hs ++ Mi.betweenM m.streets ps, rfl, SqL.of (by rw [upd_same, List.map_append]), by rw [List.length_append]; omega, fun p2 n n2 hn => ?_⟩
      refine ⟨p2, _, n, rfl, upd_same, by rw [List.length_append] at hn; omega, fun ns p3 pw mem len n3 => ?_⟩
      have s3 := same_upd (o := .lst (hs.map V.int ++ (Mi.betweenM m.streets ps).map V.int)) n1
      have s4 := same_upd (o := SetO w p2 (fun j => decide (j ∈ hs ++ Mi.betweenM m.streets ps)) n) n2
      have s5 := same_upd (o := .lst (ns.map V.int)) n3
      have s14 := (sm.trans s3).trans s4
      refine k _ p3 (s14.trans s5) (none_back s14 n3) ?_
      rw [upd_same, ← Mi.steps_uniq hpl pw (fun y => (mem y).trans (by simp))]
theorem low_pair (c : Int) : ∀ (as : List Addr) (ss : List Street) (ps : List Int) (j : Nat) (a : Addr) (s : Street), as.length = ss.length →
    (((as.zip ps).filter fun x => decide (x.2 ≤ c)).map fun x => x.1)[j]? = some a → (Mi.lowStreets ss ps c)[j]? = some s → ∃ i : Nat, as[i]? = some a ∧ ss[i]? = some s
  | [], [], ps, j, a, s, _, h, _ => by simp at h
  | x :: as, t :: ss, [], j, a, s, _, h, _ => by simp at h
  | x :: as, t :: ss, y :: ps, j, a, s, hl, h1, h2 => by
    have hl := Nat.succ.inj hl
    unfold Mi.lowStreets at h2
    rw [List.zip_cons_cons, List.filter_cons] at h1 h2
    by_cases hy : y ≤ c
    · rw [if_pos (decide_eq_true hy), List.map_cons] at h1 h2
      cases j with
      | zero => exact ⟨0, h1, h2⟩
      | succ j =>
        obtain ⟨i, g1, g2⟩ := low_pair c as ss ps j a s hl h1 h2
        exact ⟨i + 1, g1, g2⟩
    · rw [if_neg (by simpa using hy)] at h1 h2
      obtain ⟨i, g1, g2⟩ := low_pair c as ss ps j a s hl h1 h2
      exact ⟨i + 1, g1, g2⟩
theorem low_len (c : Int) : ∀ (as : List Addr) (ss : List Street) (ps : List Int), as.length = ss.length → (((as.zip ps).filter fun x => decide (x.2 ≤ c)).map fun x => x.1).length = (Mi.lowStreets ss ps c).length
  | [], [], ps, _ => by simp [Mi.lowStreets]
  | x :: as, t :: ss, [], _ => by simp [Mi.lowStreets]
  | x :: as, t :: ss, y :: ps, hl => by
    have ih := low_len c as ss ps (Nat.succ.inj hl)
    unfold Mi.lowStreets at ih ⊢
    rw [List.zip_cons_cons, List.zip_cons_cons, List.filter_cons, List.filter_cons]
    by_cases hy : y ≤ c
    · rw [if_pos (decide_eq_true hy), if_pos (decide_eq_true hy), List.map_cons, List.map_cons, List.length_cons, List.length_cons, ih]
    · rw [if_neg (by simpa using hy), if_neg (by simpa using hy), ih]
def spGroups (K : PySem.W.Frag) (C : Addr) : Sp := fun vs H Q _ => ∃ (c : Int) (l h q : Addr) (as : List Addr) (ss : List Street) (hs ps : List Int), vs = [.int c, .ref l, .ref h, .ref q] ∧ RowAt K C H l as ss ∧ Mi.WS 7 ss ∧ ss.length ≤ 16 ∧ SqL K H h (hs.map V.int) ∧ hs.length ≤ 7 ∧ SqL K H q (ps.map V.int) ∧ ps.length = ss.length ∧
  ∀ H' p, Same H H' → H' p = some (.lst ((Mi.gst (Mi.lowStreets ss ps c) hs c hs.length).2.map vN)) → Q (.ref p) H'
theorem df_groups_at (D : Dn K mg "groups_at" s_groups_at ["level", "streets", "heights", "peaks"]) (Dr : Df P w K mg base "reached" ["place", "streets"] 3 (spReached K C)) (Ds : Df P w K mg base "set_of" ["place"] 1 spSetOf)
    (gz : mg "zip" = none) (ge : mg "enumerate" = none) : Df P w K mg base "groups_at" ["level", "streets", "heights", "peaks"] 4 (spGroups K C) := by
  refine D.df sc_groups_at (fun vs H Q E h => ?_) (fun f cdv A outer s H vs Q E hr h => ?_)
  · obtain ⟨c, l, h, q, as, ss, hs, ps, rfl, _⟩ := h
    rfl
  · obtain ⟨c, l, h, q, as, ss, hs, ps, rfl, hR, ws, hl16, hh, hh7, hq, hpl, k⟩ := h
    have nd := sc_groups_at.nd
    refine ⟨_, pss_cons (ps_setLc (i := 4) (own := [("street", 10), ("peak", 11)]) (by rfl) nd rfl rfl (sw_true rfl rfl rfl (by decide +kernel)) (pi_zip (by rfl) gz (pa_cons (pv 1) (pa_cons (pv 3) pa_nil)))
        (blkOk_by (N := ["level", "streets", "heights", "peaks", "low", "seen", "groups", "place", "height", "group", "street", "peak"]) (sc := defScope s_groups_at) (own := [("street", 10), ("peak", 11)]) (by decide +kernel))
        (fun _ _ _ _ _ => pg_tupK (n := 2) K rfl (pgs_cons (pg_name (i := 10) nd rfl (.inl rfl)) (pgs_cons (pg_name (i := 11) nd rfl (.inl rfl)) pgs_nil)))
        (fun _ _ _ _ _ => pts_one (pt_cmpR op_le (pv 11) (pv 0) (nomark _)))
        (fun _ _ _ _ _ => pv 10))
      (pss_cons (ps_set (i := 5) nd rfl (.inl rfl) (pe_df Dr hr (by rfl) (pa_cons pe_int (pa_cons (pv 4) pa_nil))))
      (pss_cons (ps_set (i := 6) nd rfl (.inl rfl) (pe_lst pa_nil))
      (pss_cons (ps_for PassesOwn.never rfl (pi_enum (by rfl) ge (pa_cons (pv 2) pa_nil)) (pg_tup rfl (pgs_cons (pg_name (i := 7) nd rfl (.inl rfl)) (pgs_cons (pg_name (i := 8) nd rfl (.inl rfl)) pgs_nil)))
        (pss_one (ps_if (PW.pt (pw_and (pt_cmpR op_le (pv 8) (pv 0) (nomark _)) (pw_and1 (pt_not (pt_int (pe_op op_andN (pv 5) (pe_df Ds (hr.mono (by decide)) (by rfl) (pa_cons (pv 7) pa_nil))))))))
          (pss_cons (ps_set (i := 9) nd rfl (.inl rfl) (pe_df Dr hr (by rfl) (pa_cons (pv 7) (pa_cons (pv 4) pa_nil))))
          (pss_cons (ps_expr (pe_bm PySem.F.plainAttrs_list PySem.F.slot_list_append PySem.F.type_list_append mt_append (pv 6) (pa_cons (pv 9) pa_nil)))
          (pss_one (ps_set (i := 5) nd rfl (.inl rfl) (pe_op op_orN (pv 5) (pv 9)))))) pss_nil)))
      (pss_one (ps_ret (pv 6)))))), ?_⟩
    let keep : Addr × Int → Bool := fun x => decide (x.2 ≤ c)
    refine ⟨_, rfl, _, rfl, l, q, _, _, rfl, hR.lst, hq, fun D hD => lc_gen as.length (fun i => (((as.zip ps).take i).filter keep).map fun x => V.ref x.1) hD rfl (fun i => ?_) (fun i H1 hi sm => ?_) (fun H1 sm => ?_) ?_ ?_⟩
    · rw [List.length_map]
      have h1 := List.length_filter_le keep ((as.zip ps).take i)
      rw [List.length_take, List.length_zip] at h1
      have := hR.len
      omega
    · exact ⟨_, _, _, _, (hR.same sm).lst, sm.seq hq, List.getElem?_eq_getElem (by rw [List.length_map]; exact hi), List.getElem?_eq_getElem (by rw [List.length_map, hpl, ← hR.len]; exact hi)⟩
    · exact ⟨_, _, (hR.same sm).lst, sm.seq hq, .inl (by rw [List.length_map]; exact Nat.le_refl _)⟩
    · rintro i H1 x H2 Kp Kn hi sm ⟨Tt, x1, x2, rfl, nT, rfl, f1, f2⟩ hk hn
      have hR1 := hR.same sm
      have e1 := f1 _ hR1.lst
      have e2 := f2 _ (sm.seq hq)
      rw [List.getElem?_map, List.getElem?_eq_getElem hi] at e1
      have e1 : V.ref as[i] = x1 := Option.some.inj e1
      have hip : i < ps.length := by rw [hpl, ← hR.len]; exact hi
      rw [List.getElem?_map, List.getElem?_eq_getElem hip] at e2
      have e2 : V.int ps[i] = x2 := Option.some.inj e2
      subst e1 e2
      have s2 : Same H1 (upd H1 Tt (.tup [V.ref as[i], V.int ps[i]])) := same_upd nT
      have ez := zip_take_snoc (List.getElem?_eq_getElem hi) (List.getElem?_eq_getElem hip)
      refine ⟨Tt, _, rfl, .inl (.inl upd_same), rfl, _, _, rfl, _, _, rfl, rfl, rfl, ?_⟩
      refine ⟨_, rfl, _, rfl, _, _, rfl, rfl, _, rfl, ?_⟩
      by_cases z : ps[i] ≤ c
      · refine iteP (decide_eq_true z) ?_
        refine ⟨_, rfl, hk _ _ s2 ?_⟩
        show List.map _ _ = _
        rw [ez, List.filter_append, List.map_append, List.filter_cons, if_pos (show keep _ = true from decide_eq_true z)]
        rfl
      · refine iteN (by simpa using z) ?_
        refine hn _ s2 ?_
        show List.map _ _ = _
        rw [ez, List.filter_append, List.filter_cons, if_neg (show ¬ keep _ = true from fun y => z (of_decide_eq_true y))]
        simp
    · intro H1 sm hD1
      have hRl : RowAt K C H1 D (((as.zip ps).filter fun x => decide (x.2 ≤ c)).map fun x => x.1) (Mi.lowStreets ss ps c) := by
        refine ⟨SqL.of ?_, low_len c as ss ps hR.len, fun j a s h1 h2 => ?_⟩
        · rw [hD1, List.take_of_length_le (by rw [List.length_zip]; omega), List.map_map]
          rfl
        · obtain ⟨i, g1, g2⟩ := low_pair c as ss ps j a s hR.len h1 h2
          exact (hR.at_ i a s g1 g2).same sm
      have wl : Mi.WS 7 (Mi.lowStreets ss ps c) := ws.sub Mi.lowStreets_sub
      refine ⟨_, rfl, 0, D, _, _, rfl, by decide, hRl, wl, ?_⟩
      refine ⟨Nat.zero_le _, fun tp ntp => ?_⟩
      refine ⟨_, rfl, h, _, rfl, ((same_upd ntp).seq (sm.seq hh)), ?_⟩
      refine for_gen hs.length (fun i σ H' => Same H1 H' ∧ H' tp = some (.lst ((Mi.gst (Mi.lowStreets ss ps c) hs c i).2.map vN)) ∧ (Mi.gst (Mi.lowStreets ss ps c) hs c i).2.length ≤ i ∧
        ∃ v7 v8 v9 v10 v11 : Option V, σ = [some (.int c), some (.ref l), some (.ref h), some (.ref q), some (.ref D), some (vN (Mi.gst (Mi.lowStreets ss ps c) hs c i).1), some (.ref tp), v7, v8, v9, v10, v11])
        ⟨same_upd ntp, upd_same, Nat.le_refl _, none, none, none, none, none, rfl⟩ ?_ ?_ ?_ ?_
      · rintro i σ H' hi ⟨s1, _⟩
        exact ⟨_, _, (sm.trans s1).seq hh, List.getElem?_eq_getElem (by rw [List.length_map]; exact hi)⟩
      · rintro σ H' ⟨s1, _⟩
        exact ⟨_, (sm.trans s1).seq hh, by rw [List.length_map]; exact Nat.le_refl _⟩
      · rintro i σ H2 x H3 hi ⟨s1, htp, hgl, v7, v8, v9, v10, v11, rfl⟩ ⟨Tt, y, rfl, nT, rfl, hy⟩
        have ey := hy _ ((sm.trans s1).seq hh)
        rw [List.getElem?_map, List.getElem?_eq_getElem hi] at ey
        have ey : V.int hs[i] = y := Option.some.inj ey
        subst ey
        have s2 : Same H2 (upd H2 Tt (.tup [.int (i : Nat), V.int hs[i]])) := same_upd nT
        have s12 := s1.trans s2
        have hg : hs.getD i 0 = hs[i] := Mi.getD_of (List.getElem?_eq_getElem hi)
        have e1 := Mi.gst_succ (Mi.lowStreets ss ps c) hs c i
        refine ⟨Tt, _, rfl, .inl (.inl upd_same), rfl, _, _, rfl, _, _, rfl, rfl, ?_⟩
        refine ⟨_, rfl, _, rfl, _, _, rfl, rfl, _, rfl, ?_⟩
        by_cases z1 : hs[i] ≤ c
        · refine iteP (decide_eq_true z1) ?_
          refine ⟨_, rfl, _, rfl, i, rfl, by omega, _, _, rfl, rfl, _, rfl, ?_⟩
          by_cases z2 : (Mi.gst (Mi.lowStreets ss ps c) hs c i).1 &&& 2 ^ i = 0
          · have e2 : Mi.gst (Mi.lowStreets ss ps c) hs c (i + 1) = ((Mi.gst (Mi.lowStreets ss ps c) hs c i).1 ||| Mi.closure (Mi.lowStreets ss ps c) i, (Mi.gst (Mi.lowStreets ss ps c) hs c i).2 ++ [Mi.closure (Mi.lowStreets ss ps c) i]) := by
              rw [e1, Mi.gstep, if_pos ⟨by rw [hg]; exact z1, z2⟩]
            refine iteP (by have := nzF z2; simpa using this) ?_
            refine ⟨_, rfl, _, rfl, i, D, _, _, rfl, by omega, hRl.same s12, wl, ?_⟩
            refine ⟨_, rfl, .inl ⟨rfl, _, SqL.of (s2 _ _ htp)⟩, _, rfl, tp, _, _, rfl, rfl, s2 _ _ htp, small1000 (by rw [List.length_map]; omega), ?_⟩
            refine ⟨_, rfl, _, rfl, _, _, rfl, rfl, ?_⟩
            refine ⟨same_put ntp s12, ?_, ?_, some (vN i), some (.int hs[i]), some (vN (Mi.closure (Mi.lowStreets ss ps c) i)), v10, v11, ?_⟩
            · rw [upd_same, e2, List.map_append]
              rfl
            · rw [e2, List.length_append]
              show _ + 1 ≤ i + 1
              omega
            · rw [e2]
              rfl
          · have e2 : Mi.gst (Mi.lowStreets ss ps c) hs c (i + 1) = Mi.gst (Mi.lowStreets ss ps c) hs c i := by
              rw [e1, Mi.gstep, if_neg (fun y => z2 y.2)]
            refine iteN (by have := nzT z2; simpa using this) ?_
            refine ⟨s12, ?_, ?_, some (vN i), some (.int hs[i]), v9, v10, v11, ?_⟩
            · rw [e2]
              exact s2 _ _ htp
            · rw [e2]
              omega
            · rw [e2]
              rfl
        · have e2 : Mi.gst (Mi.lowStreets ss ps c) hs c (i + 1) = Mi.gst (Mi.lowStreets ss ps c) hs c i := by
            rw [e1, Mi.gstep, if_neg (fun y => z1 (by rw [← hg]; exact y.1))]
          refine iteN (by simpa using z1) ?_
          refine iteN (by decide) ?_
          refine ⟨s12, ?_, ?_, some (vN i), some (.int hs[i]), v9, v10, v11, ?_⟩
          · rw [e2]
            exact s2 _ _ htp
          · rw [e2]
            omega
          · rw [e2]
            rfl
      · rintro σ H2 ⟨s1, htp, hgl, v7, v8, v9, v10, v11, rfl⟩
        exact ⟨_, rfl, k H2 tp (sm.trans s1) htp⟩
end
end Rw

set_option Elab.async false
set_option linter.all false
set_option maxRecDepth 100000
set_option maxHeartbeats 2000000
namespace Rw
open PySem PySem.Spec PyProof.Rows L2
open Vbcsag (Street Map)
abbrev s_told_cuts : Stmt := topS 35
theorem sc_told_cuts : FnScope ["streets", "places", "heights", "peaks", "levels", "weights", "level", "above", "group"] ["streets", "places"] (defScope s_told_cuts) := ⟨rfl, rfl, rfl, by decide +kernel, rfl, by decide +kernel, by decide +kernel⟩
/-! ### cuts as a dict's entries -/
def kvsOf (cs : List (Nat × Nat)) : List (Key × V) := cs.map fun x => (Sum.inl (x.1 : Int), vN x.2)
def oldW (u : Nat) : List (Nat × Nat) → Nat
  | [] => 0
  | x :: r => if x.1 = u then x.2 else oldW u r
theorem key_eq {a b : Nat} : ((Sum.inl (a : Int) : Key) = Sum.inl (b : Int)) ↔ a = b := by
  constructor
  · intro h
    injection h with h
    exact Int.ofNat.inj h
  · intro h
    rw [h]
theorem val_kvs (u : Nat) : ∀ cs : List (Nat × Nat), (valV (kvsOf cs) (Sum.inl (u : Int))).getD (vN 0) = vN (oldW u cs)
  | [] => rfl
  | x :: r => by
    unfold oldW
    by_cases h : x.1 = u
    · rw [if_pos h]
      show (valV ((Sum.inl (x.1 : Int), vN x.2) :: kvsOf r) (Sum.inl (u : Int))).getD (vN 0) = _
      rw [valV_pos (key_eq.mpr h)]
      rfl
    · rw [if_neg h]
      show (valV ((Sum.inl (x.1 : Int), vN x.2) :: kvsOf r) (Sum.inl (u : Int))).getD (vN 0) = _
      rw [valV_neg (fun e => h (key_eq.mp e))]
      exact val_kvs u r
theorem addCut_mem (u w y : Nat) : ∀ cs : List (Nat × Nat), y ∈ (Vbcsag.addCut u w cs).map (·.1) ↔ y = u ∨ y ∈ cs.map (·.1)
  | [] => by simp [Vbcsag.addCut]
  | x :: r => by
    unfold Vbcsag.addCut
    by_cases h : x.1 = u
    · rw [if_pos h]
      simp [h]
    · rw [if_neg h, List.map_cons, List.mem_cons, addCut_mem u w y r, List.map_cons, List.mem_cons]
      constructor
      · rintro (e | e | e)
        · exact .inr (.inl e)
        · exact .inl e
        · exact .inr (.inr e)
      · rintro (e | e | e)
        · exact .inr (.inl e)
        · exact .inl e
        · exact .inr (.inr e)
theorem addCut_nodup (u w : Nat) : ∀ cs : List (Nat × Nat), (cs.map (·.1)).Nodup → ((Vbcsag.addCut u w cs).map (·.1)).Nodup
  | [], _ => by simp [Vbcsag.addCut]
  | x :: r, h => by
    have h2 := List.nodup_cons.mp h
    unfold Vbcsag.addCut
    by_cases hx : x.1 = u
    · rw [if_pos hx]
      rw [List.map_cons, ← hx]
      exact h
    · rw [if_neg hx, List.map_cons]
      refine List.nodup_cons.mpr ⟨fun hm => ?_, addCut_nodup u w r h2.2⟩
      rcases (addCut_mem u w x.1 r).mp hm with e | e
      · exact hx e
      · exact h2.1 e
theorem put_kvs (u w : Nat) : ∀ cs : List (Nat × Nat), (cs.map (·.1)).Nodup → putK (kvsOf cs) (Sum.inl (u : Int)) (vN (oldW u cs + w)) = kvsOf (Vbcsag.addCut u w cs) := by
  have key : ∀ (v : Nat) (cs : List (Nat × Nat)), u ∉ cs.map (·.1) → (kvsOf cs).map (fun kv => if kv.1 = Sum.inl (u : Int) then (kv.1, vN v) else kv) = kvsOf cs := by
    intro v cs hn
    unfold kvsOf
    rw [List.map_map]
    refine List.map_congr_left fun x hx => ?_
    show (if (Sum.inl (x.1 : Int) : Key) = Sum.inl (u : Int) then _ else _) = _
    rw [if_neg (fun e => hn (by rw [← (key_eq (a := x.1) (b := u)).mp e]; exact List.mem_map_of_mem hx))]
  have has : ∀ (cs : List (Nat × Nat)), ((kvsOf cs).any fun kv => decide (kv.1 = Sum.inl (u : Int))) = decide (u ∈ cs.map (·.1)) := by
    intro cs
    induction cs with
    | nil => rfl
    | cons x r ih =>
      show (decide ((Sum.inl (x.1 : Int) : Key) = Sum.inl (u : Int)) || (kvsOf r).any _) = _
      rw [ih, List.map_cons]
      by_cases h : x.1 = u
      · rw [decide_eq_true (key_eq.mpr h)]
        simp [h]
      · rw [decide_eq_false (fun e => h (key_eq.mp e))]
        rw [Bool.false_or]
        have : ¬ u = x.1 := fun e => h e.symm
        simp [this]
  intro cs
  induction cs with
  | nil =>
    intro _
    show putK [] _ _ = _
    unfold putK
    rw [if_neg (by simp)]
    show [(Sum.inl (u : Int), vN (0 + w))] = [(Sum.inl (u : Int), vN w)]
    rw [Nat.zero_add]
  | cons x r ih =>
    intro hnd
    have h2 := List.nodup_cons.mp hnd
    have ih := ih h2.2
    unfold putK at ih ⊢
    rw [has] at ih ⊢
    unfold oldW Vbcsag.addCut
    by_cases h : x.1 = u
    · rw [if_pos h, if_pos h, if_pos (decide_eq_true (by rw [List.map_cons, h]; exact List.mem_cons_self ..))]
      show (if (Sum.inl (x.1 : Int) : Key) = Sum.inl (u : Int) then ((Sum.inl (x.1 : Int) : Key), vN (x.2 + w)) else _) :: (kvsOf r).map _ = _
      rw [if_pos (key_eq.mpr h), key (x.2 + w) r (h ▸ h2.1), h]
      rfl
    · rw [if_neg h, if_neg h]
      by_cases hm : u ∈ r.map (·.1)
      · rw [if_pos (decide_eq_true hm)] at ih
        rw [if_pos (decide_eq_true (by rw [List.map_cons]; exact List.mem_cons_of_mem _ hm))]
        show (if (Sum.inl (x.1 : Int) : Key) = Sum.inl (u : Int) then _ else ((Sum.inl (x.1 : Int) : Key), vN x.2)) :: (kvsOf r).map _ = _
        rw [if_neg (fun e => h (key_eq.mp e)), ih]
        rfl
      · rw [if_neg (by simpa using hm)] at ih
        rw [if_neg (by rw [List.map_cons]; simp only [decide_eq_true_eq, List.mem_cons, not_or]; exact ⟨fun e => h e.symm, hm⟩)]
        show ((Sum.inl (x.1 : Int) : Key), vN x.2) :: (kvsOf r ++ _) = _
        rw [ih]
        rfl
section
variable {P : Program} {w : World} {K : PySem.W.Frag} {mg : Str → Option Value} {base : Heap} {C : Addr}
theorem gst_lt {low : List Street} (wl : Mi.WS 7 low) (hs : List Int) (c : Int) : ∀ i, i ≤ 7 → ∀ u ∈ (Mi.gst low hs c i).2, u < 128
  | 0, _, u, h => by cases h
  | i + 1, hi, u, h => by
    rw [Mi.gst_succ, Mi.gstep] at h
    split at h
    · rcases List.mem_append.mp h with h | h
      · exact gst_lt wl hs c i (by omega) u h
      · rw [List.mem_singleton.mp h]
        exact Mi.iter_lt wl 7 (Mi.pow_ltn (by omega))
    · exact gst_lt wl hs c i (by omega) u h
def cutStep (m : Map) (l : List (Nat × Nat)) (x : Int × Int) : List (Nat × Nat) := (Vbcsag.groups m (Vbcsag.heightsOf m) (Vbcsag.peaksOf m) x.1).foldl (fun l u => Vbcsag.addCut u (x.2 - x.1).toNat l) l
def lvl (m : Map) : List Int := Vbcsag.steps m (Vbcsag.heightsOf m) (Vbcsag.peaksOf m)
theorem cuts_fold (m : Map) : Vbcsag.cuts m = ((lvl m).zip ((lvl m).drop 1)).foldl (cutStep m) [] := rfl
structure CutOk (cs : List (Nat × Nat)) : Prop where
  nd : (cs.map (·.1)).Nodup
  lt : ∀ u ∈ cs.map (·.1), u < 128
theorem CutOk.len {cs : List (Nat × Nat)} (h : CutOk cs) : cs.length ≤ 128 := by
  have := Mi.nodup_le h.nd h.lt
  rwa [List.length_map] at this
theorem CutOk.add {cs : List (Nat × Nat)} (h : CutOk cs) {u : Nat} (hu : u < 128) (w : Nat) : CutOk (Vbcsag.addCut u w cs) :=
  ⟨addCut_nodup u w cs h.nd, fun y hy => by
    rcases (addCut_mem u w y cs).mp hy with e | e
    · omega
    · exact h.lt y e⟩
def spCuts (K : PySem.W.Frag) (C : Addr) : Sp := fun vs H Q _ => ∃ (l : Addr) (as : List Addr) (m : Map), vs = [.ref l, vN m.n] ∧ RowAt K C H l as m.streets ∧ Mi.WM m ∧
  ∀ H' p, Same H H' → H p = none → H' p = some (.dK (kvsOf (Vbcsag.cuts m))) → CutOk (Vbcsag.cuts m) → Q (.ref p) H'
theorem df_told_cuts (D : Dn K mg "told_cuts" s_told_cuts ["streets", "places"]) (Dh : Df P w K mg base "heights_of" ["streets", "places"] 6 (spHeights K C)) (Dp : Df P w K mg base "peaks_of" ["streets"] 6 (spPeaks K C))
    (Dl : Df P w K mg base "levels_of" ["streets", "heights", "peaks"] 1 (spLevels K C)) (Dg : Df P w K mg base "groups_at" ["level", "streets", "heights", "peaks"] 4 (spGroups K C)) (gz : mg "zip" = none) : Df P w K mg base "told_cuts" ["streets", "places"] 7 (spCuts K C) := by
  refine D.df sc_told_cuts (fun vs H Q E h => ?_) (fun f cdv A outer s H vs Q E hr h => ?_)
  · obtain ⟨l, as, m, rfl, _⟩ := h
    rfl
  · obtain ⟨l, as, m, rfl, hR, wm, k⟩ := h
    have nd := sc_told_cuts.nd
    have hn7 := wm.n7
    have hl16 := wm.len
    have hu := hu_of hr
    refine ⟨_, pss_cons (ps_set (i := 2) nd rfl (.inl rfl) (pe_df Dh hr (by rfl) (pa_cons (pv 0) (pa_cons (pv 1) pa_nil))))
      (pss_cons (ps_set (i := 3) nd rfl (.inl rfl) (pe_df Dp hr (by rfl) (pa_cons (pv 0) pa_nil)))
      (pss_cons (ps_set (i := 4) nd rfl (.inl rfl) (pe_df Dl (hr.mono (by decide)) (by rfl) (pa_cons (pv 0) (pa_cons (pv 2) (pa_cons (pv 3) pa_nil)))))
      (pss_cons (ps_set (i := 5) nd rfl (.inl rfl) pe_dnewK)
      (pss_cons (ps_for PassesOwn.never rfl (pi_zip (by rfl) gz (pa_cons (pv 4) (pa_cons (pe_slice sl_list (pv 4) (po_some pe_int) po_none) pa_nil))) (pg_tup rfl (pgs_cons (pg_name (i := 6) nd rfl (.inl rfl)) (pgs_cons (pg_name (i := 7) nd rfl (.inl rfl)) pgs_nil)))
        (pss_one (ps_for PassesOwn.never rfl (pi_list (pe_df Dg (hr.mono (by decide)) (by rfl) (pa_cons (pv 6) (pa_cons (pv 0) (pa_cons (pv 2) (pa_cons (pv 3) pa_nil)))))) (pg_name (i := 8) nd rfl (.inl rfl))
          (pss_one (ps_dput hu (pv 5) (pv 8) (pe_op op_sub (pe_op op_add (pe_dget2 hu (pv 5) (pv 8) pe_int ⟨rfl, rfl, rfl, rfl⟩) (pv 7)) (pv 6)) rfl)))))
      (pss_one (ps_ret (pv 5))))))), ?_⟩
    refine ⟨_, rfl, _, rfl, l, as, m, rfl, hR, wm, fun H1 hp sm1 np1 hhp => ?_⟩
    refine ⟨_, rfl, l, as, m, rfl, hR.same sm1, wm, fun H2 pp sm2 np2 hpp => ?_⟩
    have hhp2 := sm2 _ _ hhp
    have hhl : (Vbcsag.heightsOf m).length = m.n := by rw [Mi.heights_eq wm, List.length_map, List.length_range]
    have hpl : (Vbcsag.peaksOf m).length = m.streets.length := by rw [Mi.peaks_eq wm, List.length_map, List.length_range]
    refine ⟨_, rfl, _, rfl, _, rfl, l, hp, pp, as, m, _, _, rfl, hR.same (sm1.trans sm2), hl16, hhp2, by omega, hpp, hpl, fun H3 lp sm3 np3 hlp => ?_⟩
    have sm13 := (sm1.trans sm2).trans sm3
    refine fun wp nwp => ?_
    have hlp4 : (upd H3 wp (.dK [])) lp = some (.lst ((lvl m).map V.int)) := (same_upd nwp) _ _ hlp
    refine ⟨_, rfl, _, rfl, (1 : Int), rfl, lp, _, rfl, SqL.of hlp4, fun cp ncp => ?_⟩
    have hcut : cutV ((lvl m).map V.int) (some (1 : Int)) none = ((lvl m).drop 1).map V.int := by
      rw [List.map_drop]
      exact cut_from _ 1
    have s5 := same_upd (o := .lst (cutV ((lvl m).map V.int) (some (1 : Int)) none)) ncp
    have cne : cp ≠ wp := fun e => by
      rw [e, upd_same] at ncp
      cases ncp
    have hsorted : (lvl m).Pairwise (· < ·) := (Mi.fold_insert _ [] List.Pairwise.nil).1
    refine ⟨lp, cp, _, _, rfl, SqL.of (s5 _ _ hlp4), SqL.of upd_same, ?_⟩
    have hdl : ((lvl m).drop 1).length = (lvl m).length - 1 := List.length_drop
    refine for_gen ((lvl m).length - 1) (fun i σ H' => Same H3 H' ∧ H' cp = some (.lst (((lvl m).drop 1).map V.int)) ∧ ∃ (cs : List (Nat × Nat)) (v6 v7 v8 : Option V), cs = (((lvl m).zip ((lvl m).drop 1)).take i).foldl (cutStep m) [] ∧ CutOk cs ∧ H' wp = some (.dK (kvsOf cs)) ∧
      σ = [some (.ref l), some (vN m.n), some (.ref hp), some (.ref pp), some (.ref lp), some (.ref wp), v6, v7, v8])
      ⟨(same_upd nwp).trans s5, by rw [upd_same, hcut], [], none, none, none, rfl, ⟨List.nodup_nil, by simp⟩, ?_, rfl⟩ ?_ ?_ ?_ ?_
    · rw [upd_ne cne.symm, upd_same]
      rfl
    · rintro i σ H' hi ⟨s1, hcp, _⟩
      exact ⟨_, _, _, _, SqL.of (s1 _ _ hlp), SqL.of hcp, List.getElem?_eq_getElem (by rw [List.length_map]; show i < (lvl m).length; omega), List.getElem?_eq_getElem (by rw [List.length_map]; omega)⟩
    · rintro σ H' ⟨s1, hcp, _⟩
      exact ⟨_, _, SqL.of (s1 _ _ hlp), SqL.of hcp, .inr (by rw [List.length_map]; omega)⟩
    · rintro i σ H4 x H5 hi ⟨s1, hcp, cs, v6, v7, v8, hcs, ok, hwp, rfl⟩ ⟨Tt, x1, x2, rfl, nT, rfl, f1, f2⟩
      have h1 : i < (lvl m).length := by omega
      have h2 : i + 1 < (lvl m).length := by omega
      have e1 := f1 _ (SqL.of (s1 _ _ hlp))
      have e2 := f2 _ (SqL.of hcp)
      have e1 : V.int (lvl m)[i] = x1 := by
        have e1 : ((lvl m).map V.int)[i]? = some x1 := e1
        rw [List.getElem?_map, List.getElem?_eq_getElem h1] at e1
        exact Option.some.inj e1
      have e2 : V.int (lvl m)[i + 1] = x2 := by
        rw [List.getElem?_map, List.getElem?_drop, Nat.add_comm 1 i, List.getElem?_eq_getElem h2] at e2
        exact Option.some.inj e2
      subst e1 e2
      have hlt : (lvl m)[i] < (lvl m)[i + 1] := List.pairwise_iff_getElem.mp hsorted i (i + 1) h1 h2 (Nat.lt_succ_self i)
      have s2 : Same H4 (upd H4 Tt (.tup [V.int (lvl m)[i], V.int (lvl m)[i + 1]])) := same_upd nT
      have s12 := s1.trans s2
      refine ⟨Tt, _, rfl, .inl (.inl upd_same), rfl, _, _, rfl, _, _, rfl, rfl, ?_⟩
      -- the groups
      refine ⟨_, rfl, _, rfl, _, rfl, _, rfl, (lvl m)[i], l, hp, pp, as, _, _, _, rfl, hR.same (sm13.trans s12), wm.ws7, hl16, SqL.of (s12 _ _ (sm3 _ _ hhp2)), by omega, SqL.of (s12 _ _ (sm3 _ _ hpp)), hpl, fun H6 gp s6 hgp => ?_⟩
      rw [hhl] at hgp
      have hgr : (Mi.gst (Mi.lowStreets m.streets (Vbcsag.peaksOf m) (lvl m)[i]) (Vbcsag.heightsOf m) (lvl m)[i] m.n).2 = Vbcsag.groups m (Vbcsag.heightsOf m) (Vbcsag.peaksOf m) (lvl m)[i] := (Mi.groups_eq wm (lvl m)[i]).symm
      have hglt := gst_lt (wm.ws7.sub (Mi.lowStreets_sub (l := m.streets) (ps := Vbcsag.peaksOf m) (c := (lvl m)[i]))) (Vbcsag.heightsOf m) (lvl m)[i] m.n hn7
      rw [hgr] at hgp hglt
      generalize hgs : Vbcsag.groups m (Vbcsag.heightsOf m) (Vbcsag.peaksOf m) (lvl m)[i] = gs at hgp hglt
      have hwp6 := s6 _ _ (s2 _ _ hwp)
      have gne : gp ≠ wp := ne_of hgp hwp6 (by intro z; cases z)
      have hcp6 := s6 _ _ (s2 _ _ hcp)
      refine ⟨gp, rfl, ⟨_, SqL.of hgp⟩, ?_⟩
      refine for_gen gs.length (fun j σ H' => Same H3 H' ∧ H' cp = some (.lst (((lvl m).drop 1).map V.int)) ∧ H' gp = some (.lst (gs.map vN)) ∧ ∃ (ds : List (Nat × Nat)) (v8 : Option V), ds = (gs.take j).foldl (fun l u => Vbcsag.addCut u ((lvl m)[i + 1] - (lvl m)[i]).toNat l) cs ∧ CutOk ds ∧ H' wp = some (.dK (kvsOf ds)) ∧
        σ = [some (.ref l), some (vN m.n), some (.ref hp), some (.ref pp), some (.ref lp), some (.ref wp), some (.int (lvl m)[i]), some (.int (lvl m)[i + 1]), v8])
        ⟨s12.trans s6, hcp6, hgp, cs, v8, rfl, ok, hwp6, rfl⟩ ?_ ?_ ?_ ?_
      · rintro j σ H' hj ⟨_, _, hg, _⟩
        exact ⟨_, _, SqL.of hg, List.getElem?_eq_getElem (by rw [List.length_map]; exact hj)⟩
      · rintro σ H' ⟨_, _, hg, _⟩
        exact ⟨_, SqL.of hg, by rw [List.length_map]; exact Nat.le_refl _⟩
      · rintro j σ H7 x H8 hj ⟨s7, hc7, hg7, ds, v8', hds, dok, hw7, rfl⟩ ⟨rfl, hx⟩
        have ex := hx _ (SqL.of hg7)
        rw [List.getElem?_map, List.getElem?_eq_getElem hj] at ex
        have ex : vN gs[j] = x := Option.some.inj ex
        subst ex
        have hgj := hglt _ (List.getElem_mem hj)
        have hval := val_kvs gs[j] ds
        refine ⟨_, rfl, wp, rfl, .inl ⟨_, .inl hw7⟩, _, rfl, _, DGet.k (k := Sum.inl (gs[j] : Int)) hw7, _, rfl, _, _, hval, rfl, _, rfl, _, _, rfl, rfl, ?_⟩
        refine ⟨_, rfl, _, rfl, wp, _, rfl, DPut.k (k := Sum.inl (gs[j] : Int)) hw7 (small1000 (by unfold kvsOf; rw [List.length_map]; have := dok.len; omega)), ?_⟩
        refine ⟨same_put nwp s7, ?_, ?_, Vbcsag.addCut gs[j] ((lvl m)[i + 1] - (lvl m)[i]).toNat ds, some (vN gs[j]), ?_, dok.add hgj _, ?_, rfl⟩
        · rw [upd_ne cne]
          exact hc7
        · rw [upd_ne gne]
          exact hg7
        · rw [hds, take_snocV (List.getElem?_eq_getElem hj), List.foldl_append]
          rfl
        · rw [upd_same, ← put_kvs gs[j] ((lvl m)[i + 1] - (lvl m)[i]).toNat ds dok.nd]
          have e : ((oldW gs[j] ds : Nat) : Int) + (lvl m)[i + 1] - (lvl m)[i] = ((oldW gs[j] ds + ((lvl m)[i + 1] - (lvl m)[i]).toNat : Nat) : Int) := by omega
          show some (HO.dK (putK _ _ (V.int (((oldW gs[j] ds : Nat) : Int) + (lvl m)[i + 1] - (lvl m)[i])))) = _
          rw [e]
      · rintro σ H7 ⟨s7, hc7, hg7, ds, v8', hds, dok, hw7, rfl⟩
        rw [List.take_length] at hds
        refine ⟨s7, hc7, ds, _, _, _, ?_, dok, hw7, rfl⟩
        have ez : ((lvl m).zip ((lvl m).drop 1))[i]? = some ((lvl m)[i], (lvl m)[i + 1]) := List.getElem?_zip_eq_some.mpr ⟨List.getElem?_eq_getElem h1, by rw [List.getElem?_drop, Nat.add_comm 1 i, List.getElem?_eq_getElem h2]⟩
        rw [take_snocV ez, List.foldl_append, ← hcs, hds, ← hgs]
        rfl
    · rintro σ H4 ⟨s1, hcp, cs, v6, v7, v8, hcs, ok, hwp, rfl⟩
      rw [List.take_of_length_le (by rw [List.length_zip, hdl]; omega), ← cuts_fold] at hcs
      subst hcs
      exact ⟨_, rfl, k H4 wp (sm13.trans s1) (none_back sm13 nwp) hwp ok⟩
end
end Rw

set_option Elab.async false
set_option linter.all false
set_option maxRecDepth 100000
set_option maxHeartbeats 2000000
namespace Rw
open PySem PySem.Spec PyProof.Rows L2
open Vbcsag (Street Map)
abbrev s_is_round : Stmt := topS 61
abbrev s_times_to_walk : Stmt := topS 62
abbrev s_can_go_on : Stmt := topS 63
theorem sc_is_round : FnScope ["streets", "begin", "row", "place", "i", "street"] ["streets", "begin", "row"] (defScope s_is_round) := ⟨rfl, rfl, rfl, by decide +kernel, rfl, by decide +kernel, by decide +kernel⟩
theorem sc_times_to_walk : FnScope ["streets", "times", "street", "i"] ["streets"] (defScope s_times_to_walk) := ⟨rfl, rfl, rfl, by decide +kernel, rfl, by decide +kernel, by decide +kernel⟩
theorem sc_can_go_on : FnScope ["streets", "times", "place", "rest", "found", "street", "still"] ["streets", "times", "place"] (defScope s_can_go_on) := ⟨rfl, rfl, rfl, by decide +kernel, rfl, by decide +kernel, by decide +kernel⟩
section
variable {X : Cx} {o e : Expr} {es : List Expr} {to : TE} {t : TA} {apos cpos : Pos}
theorem pe_countK (K : PySem.W.Frag) (ho : PE X o to) (ha : PA X (e :: es) t) (hK : X.K = K := by rfl)
    (hbase : attributeBase o "count" X.env (eval o X.env) = eval o X.env := by rfl)
    (hfew : ((backTo cpos (starEach (e :: es) X.env)).all (fun x => !x.1) && (backToKw cpos (keywordEach [] X.env)).all (fun x => x.1.isSome) && decide ((e :: es).length + ([] : List Keyword).length + (if ([] : List Keyword).isEmpty then 0 else 1) < 30)) = true := by rfl)
    (hline : (apos.endLine == cpos.line) = true := by rfl) (hs : starEach (e :: es) X.env = (false, eval e X.env) :: starEach es X.env := by rfl) (hpl : (backTo cpos (starEach es X.env)).any (·.1) = false := by rfl) :
    PE X (.Call (.Attribute o "count" apos) (e :: es) [] cpos) (tBM K "list" (rCntI K) to t) := by
  rw [← hK]
  exact pe_bm PySem.F.plainAttrs_list PySem.F.slot_list_count PySem.F.type_list_count mt_lcount ho ha hbase hfew hline hs hpl
end
theorem count_vN (i : Nat) : ∀ q : List Nat, (q.map fun (j : Nat) => (j : Int)).count (i : Int) = q.count i
  | [] => rfl
  | x :: q => by
    rw [List.map_cons, List.count_cons, List.count_cons, count_vN i q]
    congr 1
    by_cases h : x = i
    · simp [h]
    · have h2 : ¬ (x : Int) = (i : Int) := by omega
      simp [h, h2]
section
variable {P : Program} {w : World} {K : PySem.W.Frag} {mg : Str → Option Value} {base : Heap} {C : Addr}
def spRound (K : PySem.W.Frag) (C : Addr) : Sp := fun vs H Q _ => ∃ (l r : Addr) (p : Nat) (as : List Addr) (ss : List Street) (q : List Nat), vs = [.ref l, vN p, .ref r] ∧ RowAt K C H l as ss ∧ Mi.WS 7 ss ∧ ss.length ≤ 16 ∧ p < 7 ∧ SqL K H r (q.map vN) ∧ (∀ i ∈ q, i < ss.length) ∧
  ∀ H', Same H H' → Q (.bl (Mi.roundM ss p q)) H'
theorem df_is_round (T : Txt K mg C) (D : Dn K mg "is_round" s_is_round ["streets", "begin", "row"]) (De : Df P w K mg base "ends_of" ["street"] 2 (spStreetI C Mi.endsOf)) (Ds : Df P w K mg base "set_of" ["place"] 1 spSetOf)
    (Db : Df P w K mg base "place_behind" ["street", "place"] 1 (spBehind C)) (ga : mg "all" = none) (ge : mg "enumerate" = none) : Df P w K mg base "is_round" ["streets", "begin", "row"] 3 (spRound K C) := by
  refine D.df sc_is_round (fun vs H Q E h => ?_) (fun f cdv A outer s H vs Q E hr h => ?_)
  · obtain ⟨l, r, p, as, ss, q, rfl, _⟩ := h
    rfl
  · obtain ⟨l, r, p, as, ss, q, rfl, hR, ws, hl16, p7, hq, hlt, k⟩ := h
    have nd := sc_is_round.nd
    refine ⟨_, pss_cons (ps_set (i := 3) nd rfl (.inl rfl) (pv 1))
      (pss_cons (ps_for PassesOwn.never rfl (pi_list (pv 2)) (pg_name (i := 4) nd rfl (.inl rfl))
        (pss_cons (ps_if (pt_not (pt_int (pe_op op_andN (pe_df De hr (by rfl) (pa_cons (pe_ix ix_list (pv 0) (pv 4) (fun _ _ => rfl)) pa_nil)) (pe_df Ds (hr.mono (by decide)) (by rfl) (pa_cons (pv 3) pa_nil))))) (pss_one (ps_ret pe_bl)) pss_nil)
        (pss_one (ps_set (i := 3) nd rfl (.inl rfl) (pe_df Db (hr.mono (by decide)) (by rfl) (pa_cons (pe_ix ix_list (pv 0) (pv 4) (fun _ _ => rfl)) (pa_cons (pv 3) pa_nil)))))))
      (pss_cons (ps_if (pt_cmpR op_ne (pv 3) (pv 1) (nomark _)) (pss_one (ps_ret pe_bl)) pss_nil)
      (pss_one (ps_ret (pe_callB (cr_all (by rfl)) (by rfl) ga (by decide +kernel) (pa_cons (pe_lc (own := [("i", 4), ("street", 5)]) (tt := tYes) (by rfl) nd (pi_enum (by rfl) ge (pa_cons (pv 0) pa_nil))
        (blkOk_by (N := ["streets", "begin", "row", "place", "i", "street"]) (sc := defScope s_is_round) (own := [("i", 4), ("street", 5)]) (by decide +kernel))
        (fun _ _ _ _ _ => pg_tupK (n := 2) K rfl (pgs_cons (pg_name (i := 4) nd rfl (.inl rfl)) (pgs_cons (pg_name (i := 5) nd rfl (.inl rfl)) pgs_nil)))
        (fun _ _ _ _ _ => pts_nil)
        (fun _ _ _ _ _ => pe_cmpR op_ge (pe_countK K (pv 2) (pa_cons (pv 4) pa_nil)) (pe_fldK K (pv 5) rfl) (nomark _))) pa_nil)))))), ?_⟩
    refine ⟨_, rfl, ?_⟩
    refine ⟨_, rfl, r, rfl, ⟨_, hq⟩, ?_⟩
    refine for_gen q.length (fun i σ H' => H' = H ∧ ∃ (pl : Nat) (v4 v5 : Option V), pl < 7 ∧ Mi.goR ss p q = Mi.goR ss pl (q.drop i) ∧ σ = [some (.ref l), some (vN p), some (.ref r), some (vN pl), v4, v5]) ⟨rfl, p, none, none, p7, rfl, rfl⟩ ?_ ?_ ?_ ?_
    · rintro i σ H' hi ⟨rfl, _⟩
      exact ⟨_, _, hq, List.getElem?_eq_getElem (by rw [List.length_map]; exact hi)⟩
    · rintro σ H' ⟨rfl, _⟩
      exact ⟨_, hq, by rw [List.length_map]; exact Nat.le_refl _⟩
    · rintro i σ H1 x H2 hi ⟨rfl, pl, v4, v5, pl7, hgo, rfl⟩ ⟨rfl, hx⟩
      have ex := hx _ hq
      rw [List.getElem?_map, List.getElem?_eq_getElem hi] at ex
      have ex : vN q[i] = x := Option.some.inj ex
      subst ex
      have hj : q[i] < ss.length := hlt _ (List.getElem_mem hi)
      obtain ⟨a, ha, hs⟩ := hR.get hj
      have hm := ws _ (List.mem_of_getElem? (Mi.getD_lt hj Vbcsag.street0))
      have hdr : q.drop i = q[i] :: q.drop (i + 1) := List.drop_eq_getElem_cons hi
      rw [hdr, Mi.goR] at hgo
      refine ⟨_, rfl, _, rfl, l, _, _, V.ref a, rfl, rfl, hR.lst, atI_nat (by rw [List.getElem?_map, ha]; rfl), a, _, rfl, hs, hm.1, hm.2, _, rfl, pl, rfl, by omega, _, _, rfl, rfl, _, rfl, ?_⟩
      by_cases z : Mi.endsOf (ss.getD q[i] Vbcsag.street0) &&& 2 ^ pl = 0
      · refine iteP (by have := nzF z; simpa using this) ?_
        rw [if_neg (fun y => y z)] at hgo
        have e : Mi.roundM ss p q = false := by
          unfold Mi.roundM
          rw [hgo]
          rfl
        have := k _ (Same.refl _)
        rw [e] at this
        exact this
      · refine iteN (by have := nzT z; simpa using this) ?_
        rw [if_pos z] at hgo
        refine ⟨_, rfl, _, rfl, l, _, _, V.ref a, rfl, rfl, hR.lst, atI_nat (by rw [List.getElem?_map, ha]; rfl), _, rfl, a, _, pl, rfl, hs, ?_⟩
        exact ⟨rfl, _, some (vN q[i]), v5, Mi.behind_lt hm.1 hm.2, hgo, rfl⟩
    · rintro σ H1 ⟨rfl, pl, v4, v5, pl7, hgo, rfl⟩
      rw [List.drop_length] at hgo
      have hgo : Mi.goR ss p q = some pl := hgo
      refine ⟨_, rfl, _, rfl, rfl, _, rfl, ?_⟩
      by_cases z : pl = p
      · refine iteN (by rw [z]; simp) ?_
        let bs : List Bool := (List.range ss.length).map fun i => decide ((ss.getD i Vbcsag.street0).need ≤ q.count i)
        have hbl : bs.length = ss.length := by rw [List.length_map, List.length_range]
        refine ⟨_, rfl, l, _, rfl, hR.lst, fun D hD => lc_gen ss.length (fun i => (bs.take i).map V.bl) hD rfl (fun i => ?_) (fun i H1 hi sm => ?_) (fun H1 sm => ?_) ?_ ?_⟩
        · rw [List.length_map, List.length_take]
          omega
        · exact ⟨_, _, (hR.same sm).lst, List.getElem?_eq_getElem (by rw [List.length_map, hR.len]; exact hi)⟩
        · exact ⟨_, (hR.same sm).lst, by rw [List.length_map, hR.len]; exact Nat.le_refl _⟩
        · rintro i H2 x H3 Kp Kn hi sm ⟨Tt, y, rfl, nT, rfl, hy⟩ hk hn
          have hR2 := hR.same sm
          have ey := hy _ hR2.lst
          obtain ⟨a, ha, ⟨dx, hs⟩⟩ := hR2.get hi
          rw [List.getElem?_map, ha] at ey
          have ey : V.ref a = y := Option.some.inj ey
          subst ey
          have s2 : Same H2 (upd H2 Tt (.tup [.int (i : Nat), V.ref a])) := same_upd nT
          have hq2 := (sm.trans s2).seq hq
          refine ⟨Tt, _, rfl, .inl (.inl upd_same), rfl, _, _, rfl, _, _, rfl, rfl, rfl, ?_⟩
          refine ⟨_, rfl, .inl ⟨rfl, _, hq2⟩, _, rfl, r, (q.map fun (j : Nat) => (j : Int)), i, rfl, rfl, by rw [List.map_map]; exact hq2, ?_⟩
          refine ⟨_, rfl, a, C, dx, _, _, rfl, s2 _ _ hs, T.cl, T.nO, rfl, _, _, rfl, rfl, ?_⟩
          refine hk _ _ s2 ?_
          have eb : bs[i]? = some (decide ((ss.getD i Vbcsag.street0).need ≤ q.count i)) := by
            rw [List.getElem?_map, List.getElem?_range hi]
            rfl
          show (bs.take (i + 1)).map V.bl = (bs.take i).map V.bl ++ [V.bl (decide _)]
          rw [take_snocV eb, List.map_append, count_vN]
          congr 2
          show [V.bl _] = _
          congr 2
          rw [decide_eq_decide]
          omega
        · intro H2 sm hD1
          refine ⟨D, bs, rfl, SqL.of (by rw [hD1, List.take_of_length_le (by omega)]), ?_⟩
          have e : Mi.roundM ss p q = bs.all id := by
            unfold Mi.roundM
            rw [hgo, z, List.all_map]
            show (decide (p = p) && _) = _
            rw [decide_eq_true rfl, Bool.true_and]
            rfl
          have := k H2 sm
          rw [e] at this
          exact this
      · refine iteP (nint_ne (by omega)) ?_
        have e : Mi.roundM ss p q = false := by
          unfold Mi.roundM
          rw [hgo]
          show (decide (pl = p) && _) = false
          rw [decide_eq_false z]
          rfl
        have := k _ (Same.refl _)
        rw [e] at this
        exact this
def spTimes (K : PySem.W.Frag) (C : Addr) : Sp := fun vs H Q _ => ∃ (l : Addr) (as : List Addr) (m : Map), vs = [.ref l] ∧ RowAt K C H l as m.streets ∧ Mi.WM m ∧
  ∀ H' p, Same H H' → H p = none → H' p = some (.lst ((Vbcsag.uses m).map vN)) → Q (.ref p) H'
theorem addAll_len (q : List Nat) : ∀ ts : List Nat, (Mi.addAll ts q).length = ts.length := by
  induction q with
  | nil => intro ts; rfl
  | cons i q ih =>
    intro ts
    show (Mi.addAll (ts.set i (ts.getD i 0 + 1)) q).length = _
    rw [ih, List.length_set]
theorem ixN_ofNat {n j : Nat} (h : j < n) : ixN n (j : Int) = some j := by
  unfold ixN
  rw [if_pos (by omega), if_pos (by omega), Int.toNat_natCast]
theorem map_setN (ts : List Nat) (i x : Nat) : (ts.map vN).set i (vN x) = (ts.set i x).map vN := List.map_set.symm
theorem df_times_to_walk (T : Txt K mg C) (D : Dn K mg "times_to_walk" s_times_to_walk ["streets"]) (Dm : Df P w K mg base "walked_once_more" ["streets"] 6 (spMore K C)) : Df P w K mg base "times_to_walk" ["streets"] 7 (spTimes K C) := by
  refine D.df sc_times_to_walk (fun vs H Q E h => ?_) (fun f cdv A outer s H vs Q E hr h => ?_)
  · obtain ⟨l, as, m, rfl, _⟩ := h
    rfl
  · obtain ⟨l, as, m, rfl, hR, wm, k⟩ := h
    have nd := sc_times_to_walk.nd
    have hl16 := wm.len
    refine ⟨_, pss_cons (ps_setLc (i := 1) (own := [("street", 2)]) (g := gName 2) (tt := tYes) (by rfl) nd rfl rfl (sw_true rfl rfl rfl (by decide +kernel)) (pi_list (pv 0))
        (blkOk_by (N := ["streets", "times", "street", "i"]) (sc := defScope s_times_to_walk) (own := [("street", 2)]) (by decide +kernel))
        (fun _ _ _ _ _ => pg_name (i := 2) nd rfl (.inl rfl)) (fun _ _ _ _ _ => pts_nil) (fun _ _ _ _ _ => pe_fldK K (pv 2) rfl))
      (pss_cons (ps_for PassesOwn.never rfl (pi_list (pe_df Dm hr (by rfl) (pa_cons (pv 0) pa_nil))) (pg_name (i := 3) nd rfl (.inl rfl))
        (pss_one (ps_asg (pe_op op_addN (pe_ix ix_list (pv 1) (pv 3) (fun _ _ => rfl)) pe_int) (pg_sub (pv 1) (pv 3) set_list))))
      (pss_one (ps_ret (pv 1)))), ?_⟩
    refine ⟨_, rfl, l, rfl, ⟨_, hR.lst⟩, fun D hD => lc_gen m.streets.length (fun i => ((m.streets.take i).map fun s => vN s.need)) hD rfl (fun i => ?_) (fun i H1 hi sm => ?_) (fun H1 sm => ?_) ?_ ?_⟩
    · rw [List.length_map, List.length_take]
      omega
    · exact ⟨_, _, (hR.same sm).lst, List.getElem?_eq_getElem (by rw [List.length_map, hR.len]; exact hi)⟩
    · exact ⟨_, (hR.same sm).lst, by rw [List.length_map, hR.len]; exact Nat.le_refl _⟩
    · rintro i H1 x H2 Kp Kn hi sm ⟨rfl, hx⟩ hk hn
      have hR1 := hR.same sm
      have ex := hx _ hR1.lst
      obtain ⟨a, ha, ⟨dx, hs⟩⟩ := hR1.get hi
      rw [List.getElem?_map, ha] at ex
      have ex : V.ref a = x := Option.some.inj ex
      subst ex
      refine ⟨rfl, ?_⟩
      refine ⟨_, rfl, a, C, dx, _, _, rfl, hs, T.cl, T.nO, rfl, ?_⟩
      refine hk _ _ (fun _ _ h => h) ?_
      simp only [take_snocV (Mi.getD_lt hi Vbcsag.street0), List.map_append, List.map_cons, List.map_nil]
    · intro H1 sm hD1
      have hD1 : H1 D = some (.lst ((m.streets.map fun s => s.need).map vN)) := by
        rw [hD1, List.take_length, List.map_map]
        rfl
      refine ⟨_, rfl, l, as, _, rfl, hR.same sm, wm.ws7, by omega, fun H2 fp sm2 nfp hfp => ?_⟩
      have hfne : fp ≠ D := (ne_of_none hD1 nfp).symm
      refine ⟨fp, rfl, ⟨_, SqL.of hfp⟩, ?_⟩
      have hfl : ∀ i ∈ Mi.fl m.streets 0 (Vbcsag.oddOf m.streets), i < m.streets.length := fun i hi => by
        have hi : i ∈ Mi.fl m.streets 0 (Vbcsag.odd m) := hi
        rw [Mi.extra_eq wm] at hi
        have := List.mem_range.mp (List.mem_filter.mp hi).1
        rwa [Mi.extra_len] at this
      generalize hF : Mi.fl m.streets 0 (Vbcsag.oddOf m.streets) = F at hfp hfl
      refine for_gen F.length (fun i σ H' => Same H H' ∧ H' fp = some (.lst (F.map vN)) ∧ H' D = some (.lst ((Mi.addAll (m.streets.map fun s => s.need) (F.take i)).map vN)) ∧ ∃ v2 v3 : Option V, σ = [some (.ref l), some (.ref D), v2, v3])
        ⟨sm.trans sm2, hfp, sm2 _ _ hD1, none, none, rfl⟩ ?_ ?_ ?_ ?_
      · rintro i σ H' hi ⟨_, hf, _⟩
        exact ⟨_, _, SqL.of hf, List.getElem?_eq_getElem (by rw [List.length_map]; exact hi)⟩
      · rintro σ H' ⟨_, hf, _⟩
        exact ⟨_, SqL.of hf, by rw [List.length_map]; exact Nat.le_refl _⟩
      · rintro i σ H3 x H4 hi ⟨s3, hf3, hd3, v2, v3, rfl⟩ ⟨rfl, hx⟩
        have ex := hx _ (SqL.of hf3)
        rw [List.getElem?_map, List.getElem?_eq_getElem hi] at ex
        have ex : vN F[i] = x := Option.some.inj ex
        subst ex
        have hj := hfl _ (List.getElem_mem hi)
        generalize hts : Mi.addAll (m.streets.map fun s => s.need) (F.take i) = ts at hd3
        have htl : ts.length = m.streets.length := by rw [← hts, addAll_len, List.length_map]
        refine ⟨_, rfl, _, rfl, D, _, _, vN (ts.getD F[i] 0), rfl, rfl, SqL.of hd3, atI_nat (by rw [List.getElem?_map, Mi.getD_lt (by omega) 0]; rfl), _, 1, rfl, rfl, ?_⟩
        refine ⟨_, rfl, _, rfl, D, _, _, F[i], rfl, rfl, hd3, ixN_ofNat (by rw [List.length_map]; omega), ?_⟩
        refine ⟨same_put hD s3, ?_, ?_, v2, _, rfl⟩
        · rw [upd_ne hfne]
          exact hf3
        · rw [upd_same, map_setN, take_snocV (List.getElem?_eq_getElem hi)]
          unfold Mi.addAll at hts ⊢
          rw [List.foldl_append, hts]
          rfl
      · rintro σ H3 ⟨s3, hf3, hd3, v2, v3, rfl⟩
        rw [List.take_length, ← hF] at hd3
        have hu := Mi.uses_eq wm
        refine ⟨_, rfl, k H3 D s3 hD ?_⟩
        rw [hd3, ← hu]
        rfl
end
end Rw

set_option Elab.async false
set_option linter.all false
set_option maxRecDepth 100000
set_option maxHeartbeats 2000000
namespace Rw
open PySem PySem.Spec PyProof.Rows L2
open Vbcsag (Street Map)
abbrev s_first_possible : Stmt := topS 64
abbrev s_told_walk : Stmt := topS 65
theorem sc_first_possible : FnScope ["streets", "times", "place", "i", "street", "left"] ["streets", "times", "place"] (defScope s_first_possible) := ⟨rfl, rfl, rfl, by decide +kernel, rfl, by decide +kernel, by decide +kernel⟩
theorem sc_told_walk : FnScope ["streets", "begin", "times", "place", "walk", "i"] ["streets", "begin"] (defScope s_told_walk) := ⟨rfl, rfl, rfl, by decide +kernel, rfl, by decide +kernel, by decide +kernel⟩
section
variable {P : Program} {w : World} {K : PySem.W.Frag} {mg : Str → Option Value} {base : Heap} {C : Addr}
theorem vN_map (ns : List Nat) : ns.map vN = (ns.map fun (j : Nat) => (j : Int)).map V.int := by
  rw [List.map_map]
  rfl
theorem kept_pair : ∀ (as : List Addr) (ss : List Street) (ts : List Nat) (j : Nat) (a : Addr) (s : Street), as.length = ss.length →
    (((as.zip ts).filter fun x => decide (0 < x.2)).map fun x => x.1)[j]? = some a → (Mi.rest ss ts)[j]? = some s → ∃ i : Nat, as[i]? = some a ∧ ss[i]? = some s
  | [], [], ts, j, a, s, _, h, _ => by simp at h
  | x :: as, t :: ss, [], j, a, s, _, h, _ => by simp at h
  | x :: as, t :: ss, y :: ts, j, a, s, hl, h1, h2 => by
    have hl := Nat.succ.inj hl
    unfold Mi.rest at h2
    rw [List.zip_cons_cons, List.filter_cons] at h1 h2
    by_cases hy : 0 < y
    · rw [if_pos (decide_eq_true hy), List.map_cons] at h1 h2
      cases j with
      | zero => exact ⟨0, h1, h2⟩
      | succ j =>
        obtain ⟨i, g1, g2⟩ := kept_pair as ss ts j a s hl h1 h2
        exact ⟨i + 1, g1, g2⟩
    · rw [if_neg (by simpa using hy)] at h1 h2
      obtain ⟨i, g1, g2⟩ := kept_pair as ss ts j a s hl h1 h2
      exact ⟨i + 1, g1, g2⟩
theorem kept_len : ∀ (as : List Addr) (ss : List Street) (ts : List Nat), as.length = ss.length → (((as.zip ts).filter fun x => decide (0 < x.2)).map fun x => x.1).length = (Mi.rest ss ts).length
  | [], [], ts, _ => by simp [Mi.rest]
  | x :: as, t :: ss, [], _ => by simp [Mi.rest]
  | x :: as, t :: ss, y :: ts, hl => by
    have ih := kept_len as ss ts (Nat.succ.inj hl)
    unfold Mi.rest at ih ⊢
    rw [List.zip_cons_cons, List.zip_cons_cons, List.filter_cons, List.filter_cons]
    by_cases hy : 0 < y
    · rw [if_pos (decide_eq_true hy), if_pos (decide_eq_true hy), List.map_cons, List.map_cons, List.length_cons, List.length_cons, ih]
    · rw [if_neg (by simpa using hy), if_neg (by simpa using hy), ih]
def spCanGo (K : PySem.W.Frag) (C : Addr) : Sp := fun vs H Q _ => ∃ (l r : Addr) (as : List Addr) (ss : List Street) (ts : List Nat) (p : Nat), vs = [.ref l, .ref r, vN p] ∧ RowAt K C H l as ss ∧ Mi.WS 7 ss ∧ ss.length ≤ 16 ∧ SqL K H r (ts.map vN) ∧ ts.length = ss.length ∧ p < 7 ∧
  ∀ H', Same H H' → Q (.bl (Mi.canGo ss ts p)) H'
theorem df_can_go_on (D : Dn K mg "can_go_on" s_can_go_on ["streets", "times", "place"]) (Dr : Df P w K mg base "reached" ["place", "streets"] 3 (spReached K C)) (De : Df P w K mg base "ends_of" ["street"] 2 (spStreetI C Mi.endsOf))
    (gz : mg "zip" = none) (ga : mg "all" = none) : Df P w K mg base "can_go_on" ["streets", "times", "place"] 4 (spCanGo K C) := by
  refine D.df sc_can_go_on (fun vs H Q E h => ?_) (fun f cdv A outer s H vs Q E hr h => ?_)
  · obtain ⟨l, r, as, ss, ts, p, rfl, _⟩ := h
    rfl
  · obtain ⟨l, r, as, ss, ts, p, rfl, hR, ws, hl16, hq, htl, p7, k⟩ := h
    have nd := sc_can_go_on.nd
    refine ⟨_, pss_cons (ps_setLc (i := 3) (own := [("street", 5), ("still", 6)]) (by rfl) nd rfl rfl (sw_true rfl rfl rfl (by decide +kernel)) (pi_zip (by rfl) gz (pa_cons (pv 0) (pa_cons (pv 1) pa_nil)))
        (blkOk_by (N := ["streets", "times", "place", "rest", "found", "street", "still"]) (sc := defScope s_can_go_on) (own := [("street", 5), ("still", 6)]) (by decide +kernel))
        (fun _ _ _ _ _ => pg_tupK (n := 2) K rfl (pgs_cons (pg_name (i := 5) nd rfl (.inl rfl)) (pgs_cons (pg_name (i := 6) nd rfl (.inl rfl)) pgs_nil)))
        (fun _ _ _ _ _ => pts_one (pt_cmpR op_gt (pv 6) pe_int (nomark _)))
        (fun _ _ _ _ _ => pv 5))
      (pss_cons (ps_set (i := 4) nd rfl (.inr rfl) (pe_df Dr hr (by rfl) (pa_cons (pv 2) (pa_cons (pv 3) pa_nil))))
      (pss_one (ps_ret (pe_callB (cr_allI (by rfl)) (by rfl) ga (by decide +kernel) (pa_cons (pe_lc (own := [("street", 5)]) (g := gName 5) (tt := tYes) (by rfl) nd (pi_list (pv 3))
        (blkOk_by (N := ["streets", "times", "place", "rest", "found", "street", "still"]) (sc := defScope s_can_go_on) (own := [("street", 5)]) (by decide +kernel))
        (fun _ _ _ _ _ => pg_name (i := 5) nd rfl (.inl rfl)) (fun _ _ _ _ _ => pts_nil)
        (fun _ _ _ _ _ => pe_op op_andN (pv 4) (pe_df De (hr.mono (by decide)) (by rfl) (pa_cons (pv 5) pa_nil)))) pa_nil))))), ?_⟩
    let keep : Addr × Nat → Bool := fun x => decide (0 < x.2)
    refine ⟨_, rfl, _, rfl, l, r, _, _, rfl, hR.lst, hq, fun D hD => lc_gen as.length (fun i => (((as.zip ts).take i).filter keep).map fun x => V.ref x.1) hD rfl (fun i => ?_) (fun i H1 hi sm => ?_) (fun H1 sm => ?_) ?_ ?_⟩
    · rw [List.length_map]
      have h1 := List.length_filter_le keep ((as.zip ts).take i)
      rw [List.length_take, List.length_zip] at h1
      have := hR.len
      omega
    · exact ⟨_, _, _, _, (hR.same sm).lst, sm.seq hq, List.getElem?_eq_getElem (by rw [List.length_map]; exact hi), List.getElem?_eq_getElem (by rw [List.length_map, htl, ← hR.len]; exact hi)⟩
    · exact ⟨_, _, (hR.same sm).lst, sm.seq hq, .inl (by rw [List.length_map]; exact Nat.le_refl _)⟩
    · rintro i H1 x H2 Kp Kn hi sm ⟨Tt, x1, x2, rfl, nT, rfl, f1, f2⟩ hk hn
      have e1 := f1 _ (hR.same sm).lst
      have e2 := f2 _ (sm.seq hq)
      rw [List.getElem?_map, List.getElem?_eq_getElem hi] at e1
      have e1 : V.ref as[i] = x1 := Option.some.inj e1
      have hip : i < ts.length := by rw [htl, ← hR.len]; exact hi
      rw [List.getElem?_map, List.getElem?_eq_getElem hip] at e2
      have e2 : vN ts[i] = x2 := Option.some.inj e2
      subst e1 e2
      have s2 : Same H1 (upd H1 Tt (.tup [V.ref as[i], vN ts[i]])) := same_upd nT
      have ez := zip_take_snoc (List.getElem?_eq_getElem hi) (List.getElem?_eq_getElem hip)
      refine ⟨Tt, _, rfl, .inl (.inl upd_same), rfl, _, _, rfl, _, _, rfl, rfl, rfl, ?_⟩
      refine ⟨_, rfl, _, _, rfl, rfl, _, rfl, ?_⟩
      by_cases z : 0 < ts[i]
      · refine iteP (decide_eq_true (by omega)) ?_
        refine ⟨_, rfl, hk _ _ s2 ?_⟩
        show List.map _ _ = _
        rw [ez, List.filter_append, List.map_append, List.filter_cons, if_pos (show keep _ = true from decide_eq_true z)]
        rfl
      · refine iteN (fun y => by have := of_decide_eq_true y; omega) ?_
        refine hn _ s2 ?_
        show List.map _ _ = _
        rw [ez, List.filter_append, List.filter_cons, if_neg (show ¬ keep _ = true from fun y => z (of_decide_eq_true y))]
        simp
    · intro H1 sm hD1
      have hRl : RowAt K C H1 D (((as.zip ts).filter fun x => decide (0 < x.2)).map fun x => x.1) (Mi.rest ss ts) := by
        refine ⟨SqL.of ?_, kept_len as ss ts hR.len, fun j a s h1 h2 => ?_⟩
        · rw [hD1, List.take_of_length_le (by rw [List.length_zip]; omega), List.map_map]
          rfl
        · obtain ⟨i, g1, g2⟩ := kept_pair as ss ts j a s hR.len h1 h2
          exact (hR.at_ i a s g1 g2).same sm
      have wl : Mi.WS 7 (Mi.rest ss ts) := Mi.rest_ws ws
      have hrl : (Mi.rest ss ts).length ≤ 16 := by
        unfold Mi.rest
        rw [List.length_map]
        have h1 := List.length_filter_le (fun x => decide (0 < x.2)) (ss.zip ts)
        rw [List.length_zip] at h1
        omega
      refine ⟨_, rfl, _, rfl, p, D, _, _, rfl, p7, hRl, wl, ?_⟩
      let ns : List Nat := (Mi.rest ss ts).map fun s => Mi.closure (Mi.rest ss ts) p &&& Mi.endsOf s
      refine ⟨_, rfl, D, rfl, ⟨_, hRl.lst⟩, fun D2 hD2 => lc_gen (Mi.rest ss ts).length (fun i => (ns.take i).map vN) hD2 rfl (fun i => ?_) (fun i H2 hi s2 => ?_) (fun H2 s2 => ?_) ?_ ?_⟩
      · rw [List.length_map, List.length_take, List.length_map]
        omega
      · exact ⟨_, _, (hRl.same s2).lst, List.getElem?_eq_getElem (by rw [List.length_map, hRl.len]; exact hi)⟩
      · exact ⟨_, (hRl.same s2).lst, by rw [List.length_map, hRl.len]; exact Nat.le_refl _⟩
      · rintro i H2 x H3 Kp Kn hi s2 ⟨rfl, hx⟩ hk hn
        have hR2 := hRl.same s2
        have ex := hx _ hR2.lst
        obtain ⟨a, ha, hs⟩ := hR2.get hi
        rw [List.getElem?_map, ha] at ex
        have ex : V.ref a = x := Option.some.inj ex
        subst ex
        have hsi := Mi.getD_lt hi Vbcsag.street0
        have hm := wl _ (List.mem_of_getElem? hsi)
        refine ⟨rfl, ?_⟩
        refine ⟨_, rfl, _, rfl, a, _, rfl, hs, hm.1, hm.2, _, _, rfl, rfl, ?_⟩
        refine hk _ _ (fun _ _ h => h) ?_
        have en : ns[i]? = some (Mi.closure (Mi.rest ss ts) p &&& Mi.endsOf ((Mi.rest ss ts).getD i Vbcsag.street0)) := by
          show ((Mi.rest ss ts).map _)[i]? = _
          rw [List.getElem?_map, hsi]
          rfl
        simp only [take_snocV en, List.map_append, List.map_cons, List.map_nil]
      · intro H2 s2 hD3
        have hnl : ns.length = (Mi.rest ss ts).length := List.length_map ..
        refine ⟨D2, (ns.map fun (j : Nat) => (j : Int)), rfl, SqL.of (by rw [hD3, List.take_of_length_le (by omega), vN_map]), ?_⟩
        have e : Mi.canGo ss ts p = (ns.map fun (j : Nat) => (j : Int)).all fun z => z != 0 := by
          unfold Mi.canGo
          rw [List.all_map]
          show _ = ((Mi.rest ss ts).map _).all _
          rw [List.all_map]
          congr 1
          funext s
          by_cases z : Mi.closure (Mi.rest ss ts) p &&& Mi.endsOf s = 0
          · show decide (Mi.closure (Mi.rest ss ts) p &&& Mi.endsOf s ≠ 0) = (((Mi.closure (Mi.rest ss ts) p &&& Mi.endsOf s : Nat) : Int) != 0)
            rw [decide_eq_false (fun y => y z), z]
            rfl
          · show decide (Mi.closure (Mi.rest ss ts) p &&& Mi.endsOf s ≠ 0) = (((Mi.closure (Mi.rest ss ts) p &&& Mi.endsOf s : Nat) : Int) != 0)
            rw [decide_eq_true z, nzT z]
        have := k H2 (sm.trans s2)
        rw [e] at this
        exact this
def spFirstP (K : PySem.W.Frag) (C : Addr) : Sp := fun vs H Q _ => ∃ (l r : Addr) (as : List Addr) (ss : List Street) (ts : List Nat) (p : Nat), vs = [.ref l, .ref r, vN p] ∧ RowAt K C H l as ss ∧ Mi.WS 7 ss ∧ ss.length ≤ 16 ∧ SqL K H r (ts.map vN) ∧ ts.length = ss.length ∧ p < 7 ∧
  ∀ H', Same H H' → Q (optV (Mi.firstP ss ts p)) H'
theorem find_range {g : Nat → Bool} {n i : Nat} (hi : i < n) (hg : g i = true) (hb : ∀ j, j < i → g j = false) : (List.range n).find? g = some i := by
  have e : List.range n = List.range i ++ i :: (List.range n).drop (i + 1) := by
    have h1 : (List.range n)[i]? = some i := List.getElem?_range hi
    have h2 := List.take_append_drop i (List.range n)
    rw [List.take_range, Nat.min_eq_left (Nat.le_of_lt hi), List.drop_eq_getElem_cons (by rw [List.length_range]; exact hi), List.getElem_range] at h2
    exact h2.symm
  rw [e, List.find?_append, List.find?_eq_none.mpr (fun j hj => by rw [hb j (List.mem_range.mp hj)]; decide), List.find?_cons, hg]
  rfl
theorem df_first_possible (D : Dn K mg "first_possible" s_first_possible ["streets", "times", "place"]) (Dc : Df P w K mg base "can_go_on" ["streets", "times", "place"] 4 (spCanGo K C)) (De : Df P w K mg base "ends_of" ["street"] 2 (spStreetI C Mi.endsOf))
    (Ds : Df P w K mg base "set_of" ["place"] 1 spSetOf) (Db : Df P w K mg base "place_behind" ["street", "place"] 1 (spBehind C)) (ge : mg "enumerate" = none) : Df P w K mg base "first_possible" ["streets", "times", "place"] 5 (spFirstP K C) := by
  refine D.df sc_first_possible (fun vs H Q E h => ?_) (fun f cdv A outer s H vs Q E hr h => ?_)
  · obtain ⟨l, r, as, ss, ts, p, rfl, _⟩ := h
    rfl
  · obtain ⟨l, r, as, ss, ts, p, rfl, hR, ws, hl16, hq, htl, p7, k⟩ := h
    have nd := sc_first_possible.nd
    refine ⟨_, pss_cons (ps_for PassesOwn.never rfl (pi_enum (by rfl) ge (pa_cons (pv 0) pa_nil)) (pg_tup rfl (pgs_cons (pg_name (i := 3) nd rfl (.inl rfl)) (pgs_cons (pg_name (i := 4) nd rfl (.inl rfl)) pgs_nil)))
        (pss_one (ps_if (PW.pt (pw_and (pt_cmpR op_gt (pe_ix ix_list (pv 1) (pv 3) (fun _ _ => rfl)) pe_int (nomark _)) (pw_and1 (pt_int (pe_op op_andN (pe_df De (hr.mono (by decide)) (by rfl) (pa_cons (pv 4) pa_nil)) (pe_df Ds (hr.mono (by decide)) (by rfl) (pa_cons (pv 2) pa_nil)))))))
          (pss_cons (ps_set (i := 5) nd rfl (.inl rfl) (pe_op op_cat (pe_op op_cat (pe_slice sl_list (pv 1) po_none (po_some (pv 3))) (pe_lst (pa_cons (pe_op op_sub (pe_ix ix_list (pv 1) (pv 3) (fun _ _ => rfl)) pe_int) pa_nil))) (pe_slice sl_list (pv 1) (po_some (pe_op op_addN (pv 3) pe_int)) po_none)))
          (pss_one (ps_if (pt_val (pe_df Dc hr (by rfl) (pa_cons (pv 0) (pa_cons (pv 5) (pa_cons (pe_df Db (hr.mono (by decide)) (by rfl) (pa_cons (pv 4) (pa_cons (pv 2) pa_nil))) pa_nil))))) (pss_one (ps_ret (pv 3))) pss_nil))) pss_nil)))
      (pss_one (ps_ret pe_non)), ?_⟩
    refine ⟨_, rfl, l, _, rfl, hR.lst, ?_⟩
    refine for_gen ss.length (fun i σ H' => Same H H' ∧ (∀ j, j < i → Mi.goodAt ss ts p j = false) ∧ ∃ v3 v4 v5 : Option V, σ = [some (.ref l), some (.ref r), some (vN p), v3, v4, v5]) ⟨Same.refl H, fun j hj => by omega, none, none, none, rfl⟩ ?_ ?_ ?_ ?_
    · rintro i σ H' hi ⟨s1, _⟩
      exact ⟨_, _, (hR.same s1).lst, List.getElem?_eq_getElem (by rw [List.length_map, hR.len]; exact hi)⟩
    · rintro σ H' ⟨s1, _⟩
      exact ⟨_, (hR.same s1).lst, by rw [List.length_map, hR.len]; exact Nat.le_refl _⟩
    · rintro i σ H2 x H3 hi ⟨s1, hno, v3, v4, v5, rfl⟩ ⟨Tt, y, rfl, nT, rfl, hy⟩
      have ey := hy _ (hR.same s1).lst
      obtain ⟨a, ha, hsb⟩ := hR.get hi
      rw [List.getElem?_map, ha] at ey
      have ey : V.ref a = y := Option.some.inj ey
      subst ey
      have hsi := Mi.getD_lt hi Vbcsag.street0
      have hm := ws _ (List.mem_of_getElem? hsi)
      have s2 : Same H2 (upd H2 Tt (.tup [.int (i : Nat), V.ref a])) := same_upd nT
      have s12 := s1.trans s2
      have hit : i < ts.length := by omega
      have next : ∀ (H4 : Hp) (v : Option V), Same H H4 → Mi.goodAt ss ts p i = false → Same H H4 ∧ (∀ j, j < i + 1 → Mi.goodAt ss ts p j = false) ∧ ∃ v3 v4 v5 : Option V, [some (V.ref l), some (.ref r), some (vN p), some (vN i), some (.ref a), v] = [some (V.ref l), some (.ref r), some (vN p), v3, v4, v5] := fun H4 v s4 hb =>
        ⟨s4, fun j hj => by
          by_cases e : j = i
          · rw [e]; exact hb
          · exact hno j (by omega), _, _, _, rfl⟩
      have hget : (ts.map vN)[i]? = some (vN (ts.getD i 0)) := by rw [List.getElem?_map, Mi.getD_lt hit 0]; rfl
      refine ⟨Tt, _, rfl, .inl (.inl upd_same), rfl, _, _, rfl, _, _, rfl, rfl, ?_⟩
      refine ⟨_, rfl, _, rfl, r, _, _, vN (ts.getD i 0), rfl, rfl, s12.seq hq, atI_nat hget, _, _, rfl, rfl, _, rfl, ?_⟩
      by_cases z1 : 0 < ts.getD i 0
      · refine iteP (decide_eq_true (by omega)) ?_
        refine ⟨_, rfl, a, _, rfl, hsb.same s12, hm.1, hm.2, _, rfl, p, rfl, by omega, _, _, rfl, rfl, _, rfl, ?_⟩
        by_cases z2 : Mi.endsOf (ss.getD i Vbcsag.street0) &&& 2 ^ p = 0
        · refine iteN (nzF z2) ?_
          refine next _ v5 s12 ?_
          unfold Mi.goodAt
          rw [decide_eq_false (show ¬ (Mi.endsOf (ss.getD i Vbcsag.street0) &&& 2 ^ p ≠ 0) from fun y => y z2), Bool.false_and, Bool.and_false]
        · refine iteP (nzT z2) ?_
          -- left = times[:i] + [times[i] - 1] + times[i + 1:]
          refine ⟨_, rfl, _, rfl, (i : Int), rfl, r, _, rfl, s12.seq hq, fun q1 n1 => ?_⟩
          have s3 := same_upd (o := .lst (cutV (ts.map vN) none (some (i : Int)))) n1
          refine ⟨_, rfl, _, rfl, r, _, _, vN (ts.getD i 0), rfl, rfl, (s12.trans s3).seq hq, atI_nat hget, _, _, rfl, rfl, (by show 1 ≤ sizeLine; decide), fun q2 n2 => ?_⟩
          have s4 := same_upd (o := .lst [V.int (((ts.getD i 0 : Nat) : Int) - 1)]) n2
          refine ⟨q1, q2, _, _, rfl, rfl, s4 _ _ upd_same, upd_same, ?_, fun q3 n3 => ?_⟩
          · rw [cut_to, List.length_take, List.length_map]
            exact Nat.le_trans (show min i ts.length + 1 ≤ 17 by omega) (by decide)
          have s5 := same_upd (o := .lst (cutV (ts.map vN) none (some (i : Int)) ++ [V.int (((ts.getD i 0 : Nat) : Int) - 1)])) n3
          have s15 := ((s12.trans s3).trans s4).trans s5
          refine ⟨_, rfl, _, rfl, i, 1, rfl, rfl, ((i + 1 : Nat) : Int), rfl, r, _, rfl, s15.seq hq, fun q4 n4 => ?_⟩
          have s6 := same_upd (o := .lst (cutV (ts.map vN) (some ((i + 1 : Nat) : Int)) none)) n4
          refine ⟨q3, q4, _, _, rfl, rfl, s6 _ _ upd_same, upd_same, ?_, fun q5 n5 => ?_⟩
          · rw [cut_to, cut_from, List.length_append, List.length_take, List.length_drop, List.length_map]
            exact Nat.le_trans (show min i ts.length + 1 + (ts.length - (i + 1)) ≤ 17 by omega) (by decide)
          have s7 := same_upd (o := .lst (cutV (ts.map vN) none (some (i : Int)) ++ [V.int (((ts.getD i 0 : Nat) : Int) - 1)] ++ cutV (ts.map vN) (some ((i + 1 : Nat) : Int)) none)) n5
          have s17 := (s15.trans s6).trans s7
          have hleft : cutV (ts.map vN) none (some (i : Int)) ++ [V.int (((ts.getD i 0 : Nat) : Int) - 1)] ++ cutV (ts.map vN) (some ((i + 1 : Nat) : Int)) none = (Mi.dec ts i).map vN := by
            have e1 : V.int (((ts.getD i 0 : Nat) : Int) - 1) = vN (ts.getD i 0 - 1) := by
              show V.int _ = V.int _
              congr 1
              omega
            rw [cut_to, cut_from, e1, ← List.map_take, ← List.map_drop, Mi.dec, List.set_eq_take_append_cons_drop, if_pos hit, List.map_append, List.map_cons, List.append_assoc]
            rfl
          have b7 := Mi.behind_lt (p := p) hm.1 hm.2
          refine ⟨_, rfl, _, rfl, _, rfl, _, rfl, a, _, p, rfl, hsb.same s17, l, q5, as, ss, Mi.dec ts i, _, rfl, hR.same s17, ws, hl16, SqL.of (by rw [upd_same, hleft]), by rw [Mi.dec_len]; exact htl, b7, fun H8 s8 => ?_⟩
          refine ⟨_, rfl, ?_⟩
          have hga : Mi.goodAt ss ts p i = Mi.canGo ss (Mi.dec ts i) (Mi.behind (ss.getD i Vbcsag.street0) p) := by
            unfold Mi.goodAt
            rw [decide_eq_true z1, decide_eq_true (show Mi.endsOf (ss.getD i Vbcsag.street0) &&& 2 ^ p ≠ 0 from z2), Bool.true_and, Bool.true_and]
          cases hc : Mi.canGo ss (Mi.dec ts i) (Mi.behind (ss.getD i Vbcsag.street0) p) with
          | true =>
            refine iteP rfl ?_
            have := k H8 (s17.trans s8)
            rw [show Mi.firstP ss ts p = some i from find_range hi (hga.trans hc) hno] at this
            exact ⟨_, rfl, this⟩
          | false =>
            refine iteN (by decide) ?_
            exact next H8 _ (s17.trans s8) (hga.trans hc)
      · refine iteN (fun y => z1 (by have := of_decide_eq_true y; omega)) ?_
        refine iteN (by decide) ?_
        refine next _ v5 s12 ?_
        unfold Mi.goodAt
        rw [decide_eq_false z1, Bool.false_and]
    · rintro σ H2 ⟨s1, hno, v3, v4, v5, rfl⟩
      have := k H2 s1
      rw [show Mi.firstP ss ts p = none from List.find?_eq_none.mpr fun j hj => by rw [hno j (List.mem_range.mp hj)]; decide] at this
      exact this
def spWalk (K : PySem.W.Frag) (C : Addr) : Sp := fun vs H Q _ => ∃ (l : Addr) (as : List Addr) (m : Map) (q : Nat), vs = [.ref l, vN q] ∧ RowAt K C H l as m.streets ∧ Mi.WM m ∧ q < m.n ∧
  ∀ H' p, Same H H' → H p = none → H' p = some (.lst ((Vbcsag.walk m q).map vN)) → Q (.ref p) H'
def numV : V → Nat
  | .int i => i.toNat
  | _ => 0
def muT (tp : Addr) (H : Hp) : Nat := match H tp with
  | some (.lst xs) => (xs.map numV).sum
  | _ => 0
theorem muT_at {tp : Addr} {H : Hp} {ts : List Nat} (h : H tp = some (.lst (ts.map vN))) : muT tp H = ts.sum := by
  unfold muT
  rw [h]
  show ((ts.map vN).map numV).sum = ts.sum
  rw [List.map_map]
  have e : (numV ∘ vN) = fun (n : Nat) => n := by
    funext n
    exact Int.toNat_natCast n
  rw [e, List.map_id']
theorem walkM_len (ss : List Street) : ∀ (k : Nat) (ts : List Nat) (p : Nat), (Mi.walkM ss k ts p).length ≤ k
  | 0, _, _ => Nat.le_refl _
  | k + 1, ts, p => by
    unfold Mi.walkM
    cases Mi.firstP ss ts p with
    | none => exact Nat.zero_le _
    | some i => exact Nat.succ_le_succ (walkM_len ss k _ _)
theorem uses_sum {m : Map} (wm : Mi.WM m) : (Vbcsag.uses m).sum ≤ 64 := by
  have key : ∀ (z : List (Street × Bool)), (∀ x ∈ z, x.1.need ≤ 3) → ((z.map fun x => x.1.need + (if x.2 = true then 1 else 0)).sum) ≤ 4 * z.length := by
    intro z
    induction z with
    | nil => intro _; exact Nat.le_refl _
    | cons x z ih =>
      intro h
      have h1 := h x (List.mem_cons_self ..)
      have h2 := ih fun y hy => h y (List.mem_cons_of_mem _ hy)
      rw [List.map_cons, List.sum_cons, List.length_cons]
      split <;> omega
  have h := key (m.streets.zip (Vbcsag.extra m)) fun x hx => (wm.vals x.1 (List.of_mem_zip hx).1).2.2
  have hl := wm.len
  rw [List.length_zip] at h
  unfold Vbcsag.uses
  omega
theorem df_told_walk (D : Dn K mg "told_walk" s_told_walk ["streets", "begin"]) (Dt : Df P w K mg base "times_to_walk" ["streets"] 7 (spTimes K C)) (Df1 : Df P w K mg base "first_possible" ["streets", "times", "place"] 5 (spFirstP K C))
    (Db : Df P w K mg base "place_behind" ["street", "place"] 1 (spBehind C)) (gs : mg "sum" = none) : Df P w K mg base "told_walk" ["streets", "begin"] 8 (spWalk K C) := by
  refine D.df sc_told_walk (fun vs H Q E h => ?_) (fun f cdv A outer s H vs Q E hr h => ?_)
  · obtain ⟨l, as, m, q, rfl, _⟩ := h
    rfl
  · obtain ⟨l, as, m, q, rfl, hR, wm, hqn, k⟩ := h
    have nd := sc_told_walk.nd
    have hl16 := wm.len
    have hn7 := wm.n7
    have q7 : q < 7 := by omega
    refine ⟨_, pss_cons (ps_set (i := 2) nd rfl (.inl rfl) (pe_df Dt hr (by rfl) (pa_cons (pv 0) pa_nil)))
      (pss_cons (ps_set (i := 3) nd rfl (.inl rfl) (pv 1))
      (pss_cons (ps_set (i := 4) nd rfl (.inl rfl) (pe_lst pa_nil))
      (pss_cons (ps_while PassesOwn.never (pt_cmpR op_gt (pe_callB (cr_sum (by rfl)) (by rfl) gs (by decide +kernel) (pa_cons (pv 2) pa_nil)) pe_int (nomark _))
        (pss_cons (ps_set (i := 5) nd rfl (.inl rfl) (pe_df Df1 (hr.mono (by decide)) (by rfl) (pa_cons (pv 0) (pa_cons (pv 2) (pa_cons (pv 3) pa_nil)))))
        (pss_cons (ps_asg (pe_op op_sub (pe_ix ix_list (pv 2) (pv 5) (fun _ _ => rfl)) pe_int) (pg_sub (pv 2) (pv 5) set_list))
        (pss_cons (ps_expr (pe_bm PySem.F.plainAttrs_list PySem.F.slot_list_append PySem.F.type_list_append mt_append (pv 4) (pa_cons (pv 5) pa_nil)))
        (pss_one (ps_set (i := 3) nd rfl (.inl rfl) (pe_df Db (hr.mono (by decide)) (by rfl) (pa_cons (pe_ix ix_list (pv 0) (pv 5) (fun _ _ => rfl)) (pa_cons (pv 3) pa_nil)))))))))
      (pss_one (ps_ret (pv 4)))))), ?_⟩
    refine ⟨_, rfl, l, as, m, rfl, hR, wm, fun H1 tp sm ntp htp => ?_⟩
    refine ⟨_, rfl, Nat.zero_le _, fun wp nwp => ?_⟩
    have ntw : tp ≠ wp := ne_of_none htp nwp
    have nwH : H wp = none := none_back sm nwp
    have us := uses_sum wm
    refine while_by (fun σ H' => Same H H' ∧ ∃ (ts : List Nat) (p : Nat) (wk : List Nat) (v5 : Option V), H' tp = some (.lst (ts.map vN)) ∧ H' wp = some (.lst (wk.map vN)) ∧ Mi.Inv m.streets q ts p ∧ wk ++ Mi.walkM m.streets ts.sum ts p = Vbcsag.walk m q ∧ wk.length + ts.sum ≤ 64 ∧
      σ = [some (.ref l), some (vN q), some (.ref tp), some (vN p), some (.ref wp), v5]) (fun _ H' => muT tp H')
      ⟨sm.trans (same_upd nwp), Vbcsag.uses m, q, [], none, same_upd nwp _ _ htp, upd_same, Mi.inv_start wm hqn, ?_, ?_, rfl⟩ ?_ ?_
    · rw [Mi.walk_eq wm hqn]
      rfl
    · show 0 + _ ≤ 64
      omega
    · rintro σ H2 ⟨s2, ts, p, wk, v5, ht2, hw2, iv, heq, hlen, rfl⟩
      refine ⟨_, rfl, tp, (ts.map fun (j : Nat) => (j : Int)), rfl, SqL.of (by rw [ht2, vN_map]), _, _, rfl, rfl, _, rfl, ?_⟩
      rw [sum_vN]
      by_cases z : 0 < ts.sum
      · refine iteP (decide_eq_true (by omega)) ?_
        obtain ⟨i, hfi, hi, hat, hcan⟩ := Mi.first_there wm.ws7 q7 iv z
        have htl := iv.len
        have hdec := Mi.sum_dec hat.2.1
        refine ⟨_, rfl, _, rfl, _, rfl, l, tp, as, _, ts, p, rfl, hR.same s2, wm.ws7, hl16, SqL.of ht2, htl, iv.p7, fun H3 s3 => ?_⟩
        rw [hfi]
        have ht3 := s3 _ _ ht2
        have hw3 := s3 _ _ hw2
        have hit : i < ts.length := by omega
        refine ⟨_, rfl, _, rfl, tp, _, _, vN (ts.getD i 0), rfl, rfl, SqL.of ht3, atI_nat (j := i) (by rw [List.getElem?_map, Mi.getD_lt hit 0]; rfl), _, _, rfl, rfl, ?_⟩
        refine ⟨_, rfl, _, rfl, tp, _, (i : Int), i, rfl, rfl, ht3, ixN_ofNat (by rw [List.length_map]; exact hit), ?_⟩
        have e1 : V.int (((ts.getD i 0 : Nat) : Int) - 1) = vN (ts.getD i 0 - 1) := by
          show V.int _ = V.int _
          have := hat.2.1
          congr 1
          omega
        have hset : (ts.map vN).set i (V.int (((ts.getD i 0 : Nat) : Int) - 1)) = (Mi.dec ts i).map vN := by rw [e1, map_setN]; rfl
        have s4 := same_put (o := .lst ((ts.map vN).set i (V.int (((ts.getD i 0 : Nat) : Int) - 1)))) ntp (s2.trans s3)
        have hw4 : (upd H3 tp (.lst ((ts.map vN).set i (V.int (((ts.getD i 0 : Nat) : Int) - 1))))) wp = some (.lst (wk.map vN)) := by
          rw [upd_ne ntw.symm]
          exact hw3
        refine ⟨_, rfl, .inl ⟨rfl, _, SqL.of hw4⟩, _, rfl, wp, _, _, rfl, rfl, hw4, small1000 (by rw [List.length_map]; omega), ?_⟩
        have s5 := same_put (o := .lst (wk.map vN ++ [vN i])) nwH s4
        obtain ⟨a, ha, hsb⟩ := hR.get hi
        refine ⟨_, rfl, _, rfl, l, _, _, V.ref a, rfl, rfl, (hR.same s5).lst, atI_nat (j := i) (by rw [List.getElem?_map, ha]; rfl), _, rfl, a, _, p, rfl, hsb.same s5, ?_⟩
        have hnt : (upd (upd H3 tp (.lst ((ts.map vN).set i (V.int (((ts.getD i 0 : Nat) : Int) - 1))))) wp (.lst (wk.map vN ++ [vN i]))) tp = some (.lst ((Mi.dec ts i).map vN)) := by
          rw [upd_ne ntw, upd_same, hset]
        refine ⟨⟨s5, Mi.dec ts i, _, wk ++ [i], some (vN i), hnt, ?_, Mi.inv_next wm.ws7 q7 iv hat hcan, ?_, ?_, rfl⟩, ?_⟩
        · rw [upd_same, List.map_append]
          rfl
        · have hw : Mi.walkM m.streets ((Mi.dec ts i).sum + 1) ts p = i :: Mi.walkM m.streets (Mi.dec ts i).sum (Mi.dec ts i) (Mi.behind (m.streets.getD i Vbcsag.street0) p) := by
            show (match Mi.firstP m.streets ts p with
              | none => []
              | some i => i :: Mi.walkM m.streets (Mi.dec ts _).sum (Mi.dec ts i) (Mi.behind (m.streets.getD i Vbcsag.street0) p)) = _
            rw [hfi]
          rw [List.append_assoc, ← heq, ← hdec, hw]
          rfl
        · rw [List.length_append]
          show wk.length + 1 + _ ≤ 64
          omega
        · have m1 := muT_at hnt
          have m2 := muT_at ht2
          exact Nat.lt_of_lt_of_eq (Nat.lt_of_le_of_lt (Nat.le_of_eq m1) (by omega)) m2.symm
      · refine iteN (fun y => z (by have := of_decide_eq_true y; omega)) ?_
        have h0 : ts.sum = 0 := by omega
        rw [h0] at heq
        have heq : wk ++ [] = Vbcsag.walk m q := heq
        rw [List.append_nil] at heq
        refine ⟨_, rfl, k H2 wp s2 nwH ?_⟩
        rw [hw2, heq]
    · rintro σ H2 Q1 Q2 hq ⟨v, e1, a, ns, e2, e3, i, j, e4, e5, k1, e6, q1⟩
      exact ⟨v, e1, a, ns, e2, e3, i, j, e4, e5, k1, e6, hq _ _ q1⟩
end
end Rw

set_option Elab.async false
set_option linter.all false
set_option maxRecDepth 100000
set_option maxHeartbeats 2000000
namespace Rw
open PySem PySem.Spec PyProof.Rows L2
open Vbcsag (Street Map)
abbrev s_shares_of : Stmt := topS 66
theorem sc_shares_of : FnScope ["streets", "walk", "hours", "shares", "count", "length", "i"] ["streets", "walk", "hours"] (defScope s_shares_of) := ⟨rfl, rfl, rfl, by decide +kernel, rfl, by decide +kernel, by decide +kernel⟩
/-- a list of pairs, all tracked -/
structure PrsT (H : Hp) (l : Addr) (tas : List Addr) (prs : List (Nat × Nat)) : Prop where
  lst : H l = some (.lst (tas.map V.ref))
  len : tas.length = prs.length
  at_ : ∀ (i : Nat) (t : Addr) (x : Nat × Nat), tas[i]? = some t → prs[i]? = some x → H t = some (.tup [vN x.1, vN x.2])
theorem PrsT.same {H H' : Hp} {l : Addr} {tas : List Addr} {prs : List (Nat × Nat)} (h : PrsT H l tas prs) (s : Same H H') : PrsT H' l tas prs := ⟨s _ _ h.lst, h.len, fun i t x h1 h2 => s _ _ (h.at_ i t x h1 h2)⟩
/-- one more pair, at a new tuple t, appended -/
theorem PrsT.push {H : Hp} {l t : Addr} {tas : List Addr} {prs : List (Nat × Nat)} (h : PrsT H l tas prs) (x : Nat × Nat) (ht : H t = none) : PrsT (upd (upd H t (.tup [vN x.1, vN x.2])) l (.lst (tas.map V.ref ++ [.ref t]))) l (tas ++ [t]) (prs ++ [x]) := by
  have ntl : t ≠ l := (ne_of_none h.lst ht).symm
  refine ⟨?_, ?_, fun i t' y h1 h2 => ?_⟩
  · rw [upd_same, List.map_append]
    rfl
  · rw [List.length_append, List.length_append, h.len]
    rfl
  · by_cases hi : i < tas.length
    · rw [List.getElem?_append_left hi] at h1
      rw [List.getElem?_append_left (by rw [← h.len]; exact hi)] at h2
      have h3 := h.at_ i t' y h1 h2
      rw [upd_ne (ne_of h3 h.lst (by intro z; cases z)), upd_ne (ne_of_none h3 ht)]
      exact h3
    · rw [List.getElem?_append_right (by omega)] at h1
      rw [List.getElem?_append_right (by rw [← h.len]; omega), ← h.len] at h2
      cases hz : i - tas.length with
      | zero =>
        rw [hz] at h1 h2
        have e1 : t = t' := Option.some.inj h1
        have e2 : x = y := Option.some.inj h2
        subst e1 e2
        rw [upd_ne ntl, upd_same]
      | succ z =>
        rw [hz] at h1
        cases h1
section
variable {P : Program} {w : World} {K : PySem.W.Frag} {mg : Str → Option Value} {base : Heap} {C : Addr}
def spShares (K : PySem.W.Frag) (C : Addr) : Sp := fun vs H Q _ => ∃ (l r : Addr) (as : List Addr) (ss : List Street) (q : List Nat) (h : Nat), vs = [.ref l, .ref r, vN h] ∧ RowAt K C H l as ss ∧ SqL K H r (q.map vN) ∧ (∀ i ∈ q, i < ss.length) ∧ q.length ≤ 900 ∧
  ∀ H' p tas, Same H H' → H p = none → PrsT H' p tas (Mi.shM ss h q 0 0) → Q (.ref p) H'
theorem df_shares_of (T : Txt K mg C) (D : Dn K mg "shares_of" s_shares_of ["streets", "walk", "hours"]) : Df P w K mg base "shares_of" ["streets", "walk", "hours"] 1 (spShares K C) := by
  refine D.df sc_shares_of (fun vs H Q E h => ?_) (fun f cdv A outer s H vs Q E hr h => ?_)
  · obtain ⟨l, r, as, ss, q, h, rfl, _⟩ := h
    rfl
  · obtain ⟨l, r, as, ss, q, h, rfl, hR, hq, hlt, hlen, k⟩ := h
    have nd := sc_shares_of.nd
    refine ⟨_, pss_cons (ps_set (i := 3) nd rfl (.inl rfl) (pe_lst pa_nil))
      (pss_cons (ps_set (i := 4) nd rfl (.inl rfl) pe_int)
      (pss_cons (ps_set (i := 5) nd rfl (.inl rfl) pe_int)
      (pss_cons (ps_for PassesOwn.never rfl (pi_list (pv 1)) (pg_name (i := 6) nd rfl (.inl rfl))
        (pss_cons (ps_if (pt_cmpR op_gt (pe_op op_addN (pv 5) (pe_fld (pe_ix ix_list (pv 0) (pv 6) (fun _ _ => rfl)) rfl)) (pv 2) (nomark _))
          (pss_cons (ps_expr (pe_bm PySem.F.plainAttrs_list PySem.F.slot_list_append PySem.F.type_list_append mt_append (pv 3) (pa_cons (pe_tup (pa_cons (pv 4) (pa_cons (pv 5) pa_nil))) pa_nil)))
          (pss_cons (ps_set (i := 4) nd rfl (.inl rfl) pe_int) (pss_one (ps_set (i := 5) nd rfl (.inl rfl) pe_int)))) pss_nil)
        (pss_cons (ps_set (i := 4) nd rfl (.inl rfl) (pe_op op_addN (pv 4) pe_int))
        (pss_one (ps_set (i := 5) nd rfl (.inl rfl) (pe_op op_addN (pv 5) (pe_fld (pe_ix ix_list (pv 0) (pv 6) (fun _ _ => rfl)) rfl)))))))
      (pss_cons (ps_if (pt_cmpR op_gt (pv 4) pe_int (nomark _))
          (pss_one (ps_expr (pe_bm PySem.F.plainAttrs_list PySem.F.slot_list_append PySem.F.type_list_append mt_append (pv 3) (pa_cons (pe_tup (pa_cons (pv 4) (pa_cons (pv 5) pa_nil))) pa_nil)))) pss_nil)
      (pss_one (ps_ret (pv 3))))))), ?_⟩
    refine ⟨Nat.zero_le _, fun sp nsp => ?_⟩
    refine ⟨_, rfl, r, rfl, ⟨_, (same_upd nsp).seq hq⟩, ?_⟩
    refine for_gen q.length (fun i σ H' => Same H H' ∧ ∃ (tas : List Addr) (prs : List (Nat × Nat)) (c n : Nat) (v6 : Option V), PrsT H' sp tas prs ∧ prs.length ≤ i ∧ prs ++ Mi.shM ss h (q.drop i) c n = Mi.shM ss h q 0 0 ∧
      σ = [some (.ref l), some (.ref r), some (vN h), some (.ref sp), some (vN c), some (vN n), v6]) ⟨same_upd nsp, [], [], 0, 0, none, ⟨upd_same, rfl, by simp⟩, Nat.le_refl _, rfl, rfl⟩ ?_ ?_ ?_ ?_
    · rintro i σ H' hi ⟨s1, _⟩
      exact ⟨_, _, s1.seq hq, List.getElem?_eq_getElem (by rw [List.length_map]; exact hi)⟩
    · rintro σ H' ⟨s1, _⟩
      exact ⟨_, s1.seq hq, by rw [List.length_map]; exact Nat.le_refl _⟩
    · rintro i σ H1 x H2 hi ⟨s1, tas, prs, c, n, v6, hp, hpl, heq, rfl⟩ ⟨rfl, hx⟩
      have ex := hx _ (s1.seq hq)
      rw [List.getElem?_map, List.getElem?_eq_getElem hi] at ex
      have ex : vN q[i] = x := Option.some.inj ex
      subst ex
      have hj : q[i] < ss.length := hlt _ (List.getElem_mem hi)
      obtain ⟨a, ha, hsb⟩ := hR.get hj
      obtain ⟨dx, hs⟩ := hsb.same s1
      have hdr : q.drop i = q[i] :: q.drop (i + 1) := List.drop_eq_getElem_cons hi
      rw [hdr, Mi.shM] at heq
      refine ⟨_, rfl, _, rfl, _, rfl, l, _, _, V.ref a, rfl, rfl, (hR.same s1).lst, atI_nat (by rw [List.getElem?_map, ha]; rfl), a, C, dx, _, _, rfl, hs, T.cl, T.nL, rfl, n, _, rfl, rfl, _, rfl, _, _, rfl, rfl, _, rfl, ?_⟩
      by_cases z : h < n + (ss.getD q[i] Vbcsag.street0).long
      · refine iteP (decide_eq_true (show (h : Int) < ((n + (ss.getD q[i] Vbcsag.street0).long : Nat) : Int) by omega)) ?_
        rw [if_pos z] at heq
        refine ⟨_, rfl, .inl ⟨rfl, _, SqL.of hp.lst⟩, _, rfl, _, rfl, (by show 2 ≤ sizeLine; decide), fun t ht => ?_⟩
        have ntl := ne_of_none hp.lst ht
        refine ⟨sp, _, _, rfl, rfl, by rw [upd_ne ntl]; exact hp.lst, small1000 (by rw [List.length_map, hp.len]; omega), ?_⟩
        have s3 : Same H (upd (upd H2 t (.tup [vN c, vN n])) sp (.lst (tas.map V.ref ++ [.ref t]))) := same_put nsp (s1.trans (same_upd ht))
        obtain ⟨dx2, hs2⟩ := hsb.same s3
        refine ⟨_, rfl, 0, 1, rfl, rfl, ?_⟩
        refine ⟨_, rfl, _, rfl, _, rfl, l, _, _, V.ref a, rfl, rfl, (hR.same s3).lst, atI_nat (by rw [List.getElem?_map, ha]; rfl), a, C, dx2, _, _, rfl, hs2, T.cl, T.nL, rfl, 0, _, rfl, rfl, ?_⟩
        refine ⟨s3, tas ++ [t], prs ++ [(c, n)], 1, (ss.getD q[i] Vbcsag.street0).long, some (vN q[i]), hp.push (c, n) ht, ?_, ?_, ?_⟩
        · rw [List.length_append]
          show prs.length + 1 ≤ i + 1
          omega
        · rw [List.append_assoc]
          exact heq
        · show [some (V.ref l), some (.ref r), some (vN h), some (.ref sp), some (vN (0 + 1)), some (vN (0 + (ss.getD q[i] Vbcsag.street0).long)), some (vN q[i])] = _
          rw [Nat.zero_add, Nat.zero_add]
      · refine iteN (fun y => z (by have := of_decide_eq_true (p := (h : Int) < ((n + (ss.getD q[i] Vbcsag.street0).long : Nat) : Int)) y; omega)) ?_
        rw [if_neg z] at heq
        refine ⟨_, rfl, c, 1, rfl, rfl, ?_⟩
        refine ⟨_, rfl, _, rfl, _, rfl, l, _, _, V.ref a, rfl, rfl, (hR.same s1).lst, atI_nat (by rw [List.getElem?_map, ha]; rfl), a, C, dx, _, _, rfl, hs, T.cl, T.nL, rfl, n, _, rfl, rfl, ?_⟩
        exact ⟨s1, tas, prs, c + 1, n + (ss.getD q[i] Vbcsag.street0).long, some (vN q[i]), hp, by omega, heq, rfl⟩
    · rintro σ H1 ⟨s1, tas, prs, c, n, v6, hp, hpl, heq, rfl⟩
      rw [List.drop_length, Mi.shM] at heq
      refine ⟨_, rfl, _, _, rfl, rfl, _, rfl, ?_⟩
      by_cases z : 0 < c
      · refine iteP (decide_eq_true (by omega)) ?_
        rw [if_pos z] at heq
        refine ⟨_, rfl, .inl ⟨rfl, _, SqL.of hp.lst⟩, _, rfl, _, rfl, (by show 2 ≤ sizeLine; decide), fun t ht => ?_⟩
        have ntl := ne_of_none hp.lst ht
        refine ⟨sp, _, _, rfl, rfl, by rw [upd_ne ntl]; exact hp.lst, small1000 (by rw [List.length_map, hp.len]; omega), ?_⟩
        have s3 : Same H (upd (upd H1 t (.tup [vN c, vN n])) sp (.lst (tas.map V.ref ++ [.ref t]))) := same_put nsp (s1.trans (same_upd ht))
        refine ⟨_, rfl, k _ sp (tas ++ [t]) s3 nsp ?_⟩
        rw [← heq]
        exact hp.push (c, n) ht
      · refine iteN (fun y => z (by have := of_decide_eq_true y; omega)) ?_
        rw [if_neg z, List.append_nil] at heq
        refine ⟨_, rfl, k _ sp tas s1 nsp ?_⟩
        rw [← heq]
        exact hp
end
end Rw

set_option Elab.async false
set_option linter.all false
set_option maxRecDepth 100000
set_option maxHeartbeats 2000000
namespace Rw
open PySem PySem.Spec PyProof.Rows L2
open Vbcsag (Street Map)
abbrev s_refused : Stmt := topS 50
abbrev s_yes_or_no : Stmt := topS 69
abbrev s_all_below : Stmt := topS 70
abbrev s_answer_odd : Stmt := topS 72
abbrev s_answer_extra : Stmt := topS 73
abbrev s_answer_check : Stmt := topS 74
theorem sc_refused : FnScope ["why"] ["why"] (defScope s_refused) := ⟨rfl, rfl, rfl, by decide +kernel, rfl, by decide +kernel, by decide +kernel⟩
theorem sc_yes_or_no : FnScope ["holds"] ["holds"] (defScope s_yes_or_no) := ⟨rfl, rfl, rfl, by decide +kernel, rfl, by decide +kernel, by decide +kernel⟩
theorem sc_all_below : FnScope ["row", "bound", "number"] ["row", "bound"] (defScope s_all_below) := ⟨rfl, rfl, rfl, by decide +kernel, rfl, by decide +kernel, by decide +kernel⟩
theorem sc_answer_odd : FnScope ["desk", "call"] ["desk", "call"] (defScope s_answer_odd) := ⟨rfl, rfl, rfl, by decide +kernel, rfl, by decide +kernel, by decide +kernel⟩
theorem sc_answer_extra : FnScope ["desk", "call", "taken"] ["desk", "call"] (defScope s_answer_extra) := ⟨rfl, rfl, rfl, by decide +kernel, rfl, by decide +kernel, by decide +kernel⟩
theorem sc_answer_check : FnScope ["desk", "call", "taken", "suits"] ["desk", "call"] (defScope s_answer_check) := ⟨rfl, rfl, rfl, by decide +kernel, rfl, by decide +kernel, by decide +kernel⟩
/-! ### the desk and a call, on the heap -/
structure TxD (K : PySem.W.Frag) (CD : Addr) : Prop where
  cl : Cls K CD
  nP : PySem.W.findIn K (.ref CD) "places" = some none
  nS : PySem.W.findIn K (.ref CD) "streets" = some none
  nH : PySem.W.findIn K (.ref CD) "homes" = some none
structure TxC (K : PySem.W.Frag) (CC : Addr) : Prop where
  cl : Cls K CC
  nU : PySem.W.findIn K (.ref CC) "number" = some none
  nN : PySem.W.findIn K (.ref CC) "numbers" = some none
  nR : PySem.W.findIn K (.ref CC) "row" = some none
structure DeskAt (K : PySem.W.Frag) (C CD : Addr) (H : Hp) (dk dx : Addr) (fs : List (Str × V)) (m : Map) (l : Addr) (as : List Addr) : Prop where
  ob : H dk = some (.ins CD dx fs)
  pl : fs.lookup ("places" : Str) = some (vN m.n)
  st : fs.lookup ("streets" : Str) = some (.ref l)
  row : RowAt K C H l as m.streets
structure CallAt (CC : Addr) (H : Hp) (ca dx n1 r1 : Addr) (p : Nat) (nums row : List Int) : Prop where
  ob : H ca = some (.ins CC dx [("number", vN p), ("numbers", .ref n1), ("row", .ref r1)])
  nu : H n1 = some (.lst (nums.map V.int))
  ro : H r1 = some (.lst (row.map V.int))
theorem DeskAt.same {K : PySem.W.Frag} {C CD : Addr} {H H' : Hp} {dk dx : Addr} {fs : List (Str × V)} {m : Map} {l : Addr} {as : List Addr} (h : DeskAt K C CD H dk dx fs m l as) (s : Same H H') : DeskAt K C CD H' dk dx fs m l as := ⟨s _ _ h.ob, h.pl, h.st, h.row.same s⟩
theorem CallAt.same {CC : Addr} {H H' : Hp} {ca dx n1 r1 : Addr} {p : Nat} {nums row : List Int} (h : CallAt CC H ca dx n1 r1 p nums row) (s : Same H H') : CallAt CC H' ca dx n1 r1 p nums row := ⟨s _ _ h.ob, s _ _ h.nu, s _ _ h.ro⟩
/-- an answer that changes nothing -/
def spA (K : PySem.W.Frag) (C CD CC : Addr) (ok : List Int → List Int → Prop) (ans : Map → List Int → List Int → List Int) : Sp := fun vs H Q _ =>
  ∃ (dk dx : Addr) (fs : List (Str × V)) (m : Map) (l : Addr) (as : List Addr) (ca cx n1 r1 : Addr) (p : Nat) (nums row : List Int), vs = [.ref dk, .ref ca] ∧ DeskAt K C CD H dk dx fs m l as ∧ Mi.WM m ∧ CallAt CC H ca cx n1 r1 p nums row ∧ ok nums row ∧
    ∀ H' q, Same H H' → H q = none → H' q = some (.lst ((ans m nums row).map V.int)) → Q (.ref q) H'
section
variable {tk tk2 : Tok} {P : Program} {w : World} {K : PySem.W.Frag} {mg : Str → Option Value} {base : Heap} {C CD CC : Addr}
def spRefused : Sp := fun vs H Q _ => ∃ k : Int, vs = [.int k] ∧ ∀ H' p, Same H H' → H p = none → H' p = some (.lst [.int (-k)]) → Q (.ref p) H'
theorem df_refused (D : Dn K mg "refused" s_refused ["why"]) : Df P w K mg base "refused" ["why"] 1 spRefused := by
  refine D.df sc_refused (fun vs H Q E h => ?_) (fun f cdv A outer s H vs Q E hr h => ?_)
  · obtain ⟨n, rfl, _⟩ := h
    rfl
  · obtain ⟨n, rfl, k⟩ := h
    refine ⟨_, pss_one (ps_ret (pe_lst (pa_cons (pe_un un_neg (pv 0)) pa_nil))), ?_⟩
    exact ⟨_, rfl, n, rfl, (by show 1 ≤ sizeLine; decide), fun p np => k _ p (same_upd np) np upd_same⟩
def spYes : Sp := fun vs H Q _ => ∃ b : Bool, vs = [.bl b] ∧ Q (.int (Vbcsag.bit b)) H
theorem df_yes_or_no (D : Dn K mg "yes_or_no" s_yes_or_no ["holds"]) : Df P w K mg base "yes_or_no" ["holds"] 1 spYes := by
  refine D.df sc_yes_or_no (fun vs H Q E h => ?_) (fun f cdv A outer s H vs Q E hr h => ?_)
  · obtain ⟨b, rfl, _⟩ := h
    rfl
  · obtain ⟨b, rfl, q⟩ := h
    refine ⟨_, pss_one (ps_ret (pe_ifExp (pt_val (pv 0)) pe_int pe_int)), ?_⟩
    refine ⟨_, rfl, _, rfl, ?_⟩
    cases b with
    | true => exact iteP rfl q
    | false => exact iteN (by decide) q
def spBelow (K : PySem.W.Frag) : Sp := fun vs H Q _ => ∃ (r : Addr) (ns : List Int) (b : Int), vs = [.ref r, .int b] ∧ SqL K H r (ns.map V.int) ∧ ns.length ≤ 1000 ∧ ∀ H', Same H H' → Q (.bl (ns.all fun z => decide (z < b))) H'
theorem df_all_below (D : Dn K mg "all_below" s_all_below ["row", "bound"]) (ga : mg "all" = none) : Df P w K mg base "all_below" ["row", "bound"] 1 (spBelow K) := by
  refine D.df sc_all_below (fun vs H Q E h => ?_) (fun f cdv A outer s H vs Q E hr h => ?_)
  · obtain ⟨r, ns, b, rfl, _⟩ := h
    rfl
  · obtain ⟨r, ns, b, rfl, hq, hlen, k⟩ := h
    have nd := sc_all_below.nd
    refine ⟨_, pss_one (ps_ret (pe_callB (cr_all (by rfl)) (by rfl) ga (by decide +kernel) (pa_cons (pe_lc (own := [("number", 2)]) (g := gName 2) (tt := tYes) (by rfl) nd (pi_list (pv 0))
      (blkOk_by (N := ["row", "bound", "number"]) (sc := defScope s_all_below) (own := [("number", 2)]) (by decide +kernel))
      (fun _ _ _ _ _ => pg_name (i := 2) nd rfl (.inl rfl)) (fun _ _ _ _ _ => pts_nil)
      (fun _ _ _ _ _ => pe_cmpR op_lt (pv 2) (pv 1) (nomark _))) pa_nil))), ?_⟩
    refine ⟨_, rfl, r, rfl, ⟨_, hq⟩, fun D hD => lc_gen ns.length (fun i => (ns.take i).map fun z => V.bl (decide (z < b))) hD rfl (fun i => by rw [List.length_map, List.length_take]; omega) (fun i H1 hi sm => ?_) (fun H1 sm => ⟨_, sm.seq hq, by rw [List.length_map]; exact Nat.le_refl _⟩) ?_ ?_⟩
    · exact ⟨_, _, sm.seq hq, List.getElem?_eq_getElem (by rw [List.length_map]; exact hi)⟩
    · rintro i H1 x H2 Kp Kn hi sm ⟨rfl, hx⟩ hk hn
      have ex := hx _ (sm.seq hq)
      rw [List.getElem?_map, List.getElem?_eq_getElem hi] at ex
      have ex : V.int ns[i] = x := Option.some.inj ex
      subst ex
      refine ⟨rfl, ?_⟩
      refine ⟨_, rfl, _, rfl, _, _, rfl, rfl, hk _ _ (fun _ _ h => h) ?_⟩
      simp only [take_snocV (List.getElem?_eq_getElem hi), List.map_append, List.map_cons, List.map_nil]
    · intro H1 sm hD1
      refine ⟨D, (ns.map fun z => decide (z < b)), rfl, SqL.of (by rw [hD1, List.take_length, List.map_map]; rfl), ?_⟩
      have := k H1 sm
      rw [List.all_map]
      exact this
theorem vN_ints (q : List Nat) : q.map vN = (Vbcsag.ints q).map V.int := by
  unfold Vbcsag.ints
  rw [List.map_map]
  rfl
def ansOdd (m : Map) (nums row : List Int) : List Int := 0 :: Vbcsag.ints (Vbcsag.placesOf m.n (Vbcsag.odd m))
def ansExtra (m : Map) (nums row : List Int) : List Int := 0 :: (Vbcsag.longOf m.streets (Vbcsag.extra m) : Int) :: Vbcsag.ints ((List.range (Vbcsag.extra m).length).filter fun i => (Vbcsag.extra m).getD i false)
theorem df_answer_odd (TD : TxD K CD) (D : Dn K mg "answer_odd" s_answer_odd ["desk", "call"]) (Dp : Df P w K mg base "places_in" ["places"] 2 spPlacesIn) (Do : Df P w K mg base "odd_set" ["streets"] 3 (spOddSet K C)) :
    Df P w K mg base "answer_odd" ["desk", "call"] 4 (spA K C CD CC (fun _ _ => True) ansOdd) := by
  refine D.df sc_answer_odd (fun vs H Q E h => ?_) (fun f cdv A outer s H vs Q E hr h => ?_)
  · obtain ⟨dk, dx, fs, m, l, as, ca, cx, n1, r1, p, nums, row, rfl, _⟩ := h
    rfl
  · obtain ⟨dk, dx, fs, m, l, as, ca, cx, n1, r1, p, nums, row, rfl, hD, wm, hC, _, k⟩ := h
    refine ⟨_, pss_one (ps_ret (pe_op op_cat (pe_lst (pa_cons pe_int pa_nil)) (pe_df Dp (hr.mono (by decide)) (by rfl) (pa_cons (pe_df Do hr (by rfl) (pa_cons (pe_fld (pv 0) rfl) pa_nil)) pa_nil)))), ?_⟩
    refine ⟨(by show 1 ≤ sizeLine; decide), fun p1 np1 => ?_⟩
    have s1 := same_upd (o := .lst [V.int 0]) np1
    have hD1 := hD.same s1
    refine ⟨_, rfl, dk, CD, dx, _, _, rfl, hD1.ob, TD.cl, TD.nS, hD1.st, l, as, _, rfl, hD1.row, wm.ws7, _, rfl, fun H2 p2 s2 np2 hp2 => ?_⟩
    refine ⟨p1, p2, _, _, rfl, rfl, s2 _ _ upd_same, hp2, ?_, fun p3 np3 => ?_⟩
    · rw [List.length_map]
      have := List.length_filter_le (Vbcsag.oddOf m.streets).testBit (List.range 7)
      rw [List.length_range] at this
      exact Nat.le_trans (Nat.add_le_add_left this 1) (by decide)
    · refine k _ p3 (s1.trans (s2.trans (same_upd np3))) (none_back (s1.trans s2) np3) ?_
      unfold ansOdd
      rw [upd_same, Mi.places_eq wm.n7 (Mi.odd_lt wm), vN_ints]
      rfl
theorem df_answer_extra (TD : TxD K CD) (D : Dn K mg "answer_extra" s_answer_extra ["desk", "call"]) (Dm : Df P w K mg base "walked_once_more" ["streets"] 6 (spMore K C)) (Dl : Df P w K mg base "length_together" ["streets", "row"] 1 (spLenTog K C)) :
    Df P w K mg base "answer_extra" ["desk", "call"] 7 (spA K C CD CC (fun _ _ => True) ansExtra) := by
  refine D.df sc_answer_extra (fun vs H Q E h => ?_) (fun f cdv A outer s H vs Q E hr h => ?_)
  · obtain ⟨dk, dx, fs, m, l, as, ca, cx, n1, r1, p, nums, row, rfl, _⟩ := h
    rfl
  · obtain ⟨dk, dx, fs, m, l, as, ca, cx, n1, r1, p, nums, row, rfl, hD, wm, hC, _, k⟩ := h
    have nd := sc_answer_extra.nd
    have hl16 := wm.len
    refine ⟨_, pss_cons (ps_set (i := 2) nd rfl (.inl rfl) (pe_df Dm hr (by rfl) (pa_cons (pe_fld (pv 0) rfl) pa_nil)))
      (pss_one (ps_ret (pe_op op_cat (pe_lst (pa_cons pe_int (pa_cons (pe_df Dl (hr.mono (by decide)) (by rfl) (pa_cons (pe_fld (pv 0) rfl) (pa_cons (pv 2) pa_nil))) pa_nil))) (pv 2)))), ?_⟩
    refine ⟨_, rfl, dk, CD, dx, _, _, rfl, hD.ob, TD.cl, TD.nS, hD.st, l, as, _, rfl, hD.row, wm.ws7, by omega, fun H1 tp s1 ntp htp => ?_⟩
    have hD1 := hD.same s1
    unfold ansExtra at k
    have hF : Mi.fl m.streets 0 (Vbcsag.oddOf m.streets) = (List.range (Vbcsag.extra m).length).filter fun i => (Vbcsag.extra m).getD i false := Mi.extra_eq wm
    have hlong : ((Mi.fl m.streets 0 (Vbcsag.oddOf m.streets)).map fun i => (m.streets.getD i Vbcsag.street0).long).sum = Vbcsag.longOf m.streets (Vbcsag.extra m) := Mi.extra_long wm
    rw [hF] at htp hlong
    generalize hfl : ((List.range (Vbcsag.extra m).length).filter fun i => (Vbcsag.extra m).getD i false) = fl at htp hlong k
    have hlt : ∀ i ∈ fl, i < m.streets.length := fun i hi => by
      rw [← hfl] at hi
      have := List.mem_range.mp (List.mem_filter.mp hi).1
      rwa [Mi.extra_len] at this
    have hfl16 : fl.length ≤ 16 := by
      rw [← hfl]
      have := List.length_filter_le (fun i => (Vbcsag.extra m).getD i false) (List.range (Vbcsag.extra m).length)
      have e := Mi.extra_len m
      rw [List.length_range] at this
      omega
    refine ⟨_, rfl, dk, CD, dx, _, _, rfl, hD1.ob, TD.cl, TD.nS, hD1.st, _, rfl, l, tp, as, _, fl, rfl, hD1.row, SqL.of htp, hlt, by omega, fun H2 s2 => ?_⟩
    rw [hlong]
    refine ⟨(by show 2 ≤ sizeLine; decide), fun p1 np1 => ?_⟩
    have s3 := same_upd (o := .lst [V.int 0, vN (Vbcsag.longOf m.streets (Vbcsag.extra m))]) np1
    refine ⟨_, rfl, p1, tp, _, _, rfl, rfl, upd_same, s3 _ _ (s2 _ _ htp), ?_, fun p2 np2 => ?_⟩
    · rw [List.length_map]
      exact Nat.le_trans (Nat.add_le_add_left hfl16 2) (by decide)
    · refine k _ p2 (s1.trans (s2.trans (s3.trans (same_upd np2)))) (none_back (s1.trans (s2.trans s3)) np2) ?_
      rw [upd_same, vN_ints]
      rfl
def okCheck (nums row : List Int) : Prop := row.length ≤ 16 ∧ ∀ z ∈ row, 0 ≤ z ∧ z ≤ 15
def ansCheck (m : Map) (nums row : List Int) : List Int := if (row.any fun i => decide ((m.streets.length : Int) ≤ i)) = true then [-3] else [0, Vbcsag.bit (Vbcsag.oddBy m.streets (Vbcsag.chosen m row) == Vbcsag.odd m), (Vbcsag.longOf m.streets (Vbcsag.chosen m row) : Int)]
theorem below_any (row : List Int) (n : Int) : (!row.all fun z => decide (z < n)) = row.any fun i => decide (n ≤ i) := by
  induction row with
  | nil => rfl
  | cons z r ih =>
    rw [List.all_cons, List.any_cons, ← ih, Bool.not_and]
    congr 1
    by_cases h : z < n
    · rw [decide_eq_true h, decide_eq_false (by omega)]
      rfl
    · rw [decide_eq_false h, decide_eq_true (by omega)]
      rfl
theorem df_answer_check (TD : TxD K CD) (TC : TxC K CC) (D : Dn K mg "answer_check" s_answer_check ["desk", "call"]) (Da : Df P w K mg base "all_below" ["row", "bound"] 1 (spBelow K)) (Dr : Df P w K mg base "refused" ["why"] 1 spRefused)
    (Ds : Df P w K mg base "suited_set" ["streets", "taken"] 3 (spSuited K C)) (Do : Df P w K mg base "odd_set" ["streets"] 3 (spOddSet K C)) (Dy : Df P w K mg base "yes_or_no" ["holds"] 1 spYes) (Dl : Df P w K mg base "length_together" ["streets", "row"] 1 (spLenTog K C))
    (gN : mg "NO_SUCH" = some (.int 3 tk)) (gl : mg "len" = none) (gS : mg "sorted" = none) (gs : mg "set" = none) : Df P w K mg base "answer_check" ["desk", "call"] 4 (spA K C CD CC okCheck ansCheck) := by
  refine D.df sc_answer_check (fun vs H Q E h => ?_) (fun f cdv A outer s H vs Q E hr h => ?_)
  · obtain ⟨dk, dx, fs, m, l, as, ca, cx, n1, r1, p, nums, row, rfl, _⟩ := h
    rfl
  · obtain ⟨dk, dx, fs, m, l, as, ca, cx, n1, r1, p, nums, row, rfl, hD, wm, hC, hok, k⟩ := h
    have nd := sc_answer_check.nd
    have hl16 := wm.len
    refine ⟨_, pss_cons (ps_if (pt_not (pt_val (pe_df Da (hr.mono (by decide)) (by rfl) (pa_cons (pe_fld (pv 1) rfl) (pa_cons (pe_callB call_len_seq (by rfl) gl PySem.boot_len (pa_cons (pe_fld (pv 0) rfl) pa_nil)) pa_nil)))))
        (pss_one (ps_ret (pe_df Dr (hr.mono (by decide)) (by rfl) (pa_cons (pe_glob (v := .int 3) rfl gN ⟨_, rfl⟩) pa_nil)))) pss_nil)
      (pss_cons (ps_set (i := 2) nd rfl (.inl rfl) (pe_callB (cr_sortedSet (by rfl)) (by rfl) gS (by decide +kernel) (pa_cons (pe_callTy (cr_setL (by rfl)) (by rfl) gs (by decide +kernel) (pa_cons (pe_fld (pv 1) rfl) pa_nil)) pa_nil)))
      (pss_cons (ps_set (i := 3) nd rfl (.inl rfl) (pe_cmpR op_eq (pe_df Ds hr (by rfl) (pa_cons (pe_fld (pv 0) rfl) (pa_cons (pv 2) pa_nil))) (pe_df Do hr (by rfl) (pa_cons (pe_fld (pv 0) rfl) pa_nil)) (nomark _)))
      (pss_one (ps_ret (pe_lst (pa_cons pe_int (pa_cons (pe_df Dy (hr.mono (by decide)) (by rfl) (pa_cons (pv 3) pa_nil)) (pa_cons (pe_df Dl (hr.mono (by decide)) (by rfl) (pa_cons (pe_fld (pv 0) rfl) (pa_cons (pv 2) pa_nil))) pa_nil)))))))), ?_⟩
    refine ⟨_, rfl, ca, CC, cx, _, _, rfl, hC.ob, TC.cl, TC.nR, rfl, _, rfl, dk, CD, dx, _, _, rfl, hD.ob, TD.cl, TD.nS, hD.st, l, _, rfl, .inl hD.row.lst, r1, row, _, rfl, SqL.of hC.ro, by have := hok.1; omega, fun H1 s1 => ?_⟩
    rw [List.length_map, hD.row.len]
    refine ⟨_, rfl, ?_⟩
    unfold ansCheck at k
    cases hb : (row.any fun i => decide ((m.streets.length : Int) ≤ i)) with
    | true =>
      rw [hb, if_pos rfl] at k
      refine iteP ((below_any row _).trans hb) ?_
      exact ⟨3, rfl, fun H2 p2 s2 n2 h2 => k H2 p2 (s1.trans s2) (none_back s1 n2) h2⟩
    | false =>
      rw [hb, if_neg (by decide)] at k
      refine iteN (fun y => by rw [below_any, hb] at y; cases y) ?_
      have hin : ∀ y ∈ row, 0 ≤ y ∧ y < (m.streets.length : Int) := fun y hy => by
        refine ⟨(hok.2 y hy).1, ?_⟩
        have := List.any_eq_false.mp hb y hy
        simp only [decide_eq_true_eq] at this
        omega
      have hC1 := hC.same s1
      refine ⟨_, rfl, ca, CC, cx, _, _, rfl, hC1.ob, TC.cl, TC.nR, rfl, r1, row, rfl, SqL.of hC1.ro, by have := hok.1; omega, fun sp n nsp hn => ?_⟩
      refine ⟨sp, _, n, rfl, upd_same, by have := hok.1; omega, fun ns tp pw mem len ntp => ?_⟩
      have hns := Mi.taken_uniq pw (fun y => (mem y).trans (by simp)) hin
      have s2 := same_upd (o := SetO w sp (fun j => decide (j ∈ row)) n) nsp
      have s3 := same_upd (o := .lst (ns.map V.int)) ntp
      have s13 := s1.trans (s2.trans s3)
      have htp : (upd (upd H1 sp (SetO w sp (fun j => decide (j ∈ row)) n)) tp (.lst (ns.map V.int))) tp = some (.lst ((Mi.takenM m.streets.length row).map vN)) := by
        rw [upd_same, hns, List.map_map]
        rfl
      have hlt : ∀ i ∈ Mi.takenM m.streets.length row, i < m.streets.length := fun i hi => List.mem_range.mp (List.mem_filter.mp hi).1
      have htl : (Mi.takenM m.streets.length row).length ≤ 16 := by
        have := List.length_filter_le (fun (i : Nat) => row.contains (i : Int)) (List.range m.streets.length)
        rw [List.length_range] at this
        exact Nat.le_trans this hl16
      have hD3 := hD.same s13
      refine ⟨_, rfl, dk, CD, dx, _, _, rfl, hD3.ob, TD.cl, TD.nS, hD3.st, _, rfl, l, tp, as, _, _, rfl, hD3.row, wm.ws7, SqL.of htp, hlt, ?_⟩
      refine ⟨_, rfl, dk, CD, dx, _, _, rfl, hD3.ob, TD.cl, TD.nS, hD3.st, l, as, _, rfl, hD3.row, wm.ws7, rfl, ?_⟩
      refine ⟨_, rfl, _, rfl, ?_⟩
      refine ⟨_, rfl, dk, CD, dx, _, _, rfl, hD3.ob, TD.cl, TD.nS, hD3.st, _, rfl, l, tp, as, _, _, rfl, hD3.row, SqL.of htp, hlt, by omega, fun H4 s4 => ?_⟩
      rw [Mi.taken_long]
      refine ⟨(by show 3 ≤ sizeLine; decide), fun p5 np5 => k _ p5 (s13.trans (s4.trans (same_upd np5))) (none_back (s13.trans s4) np5) ?_⟩
      rw [upd_same, Mi.suit_eq wm row]
      have e : decide (vN (Vbcsag.oddBy m.streets (Vbcsag.chosen m row)) = vN (Vbcsag.oddOf m.streets)) = (Vbcsag.oddBy m.streets (Vbcsag.chosen m row) == Vbcsag.odd m) := by
        rw [Bool.eq_iff_iff, decide_eq_true_eq, beq_iff_eq]
        constructor
        · intro h
          injection h with h
          exact Int.ofNat.inj h
        · intro h
          show V.int _ = V.int _
          rw [h]
          rfl
      rw [e]
      rfl
end
end Rw

set_option Elab.async false
set_option linter.all false
set_option maxRecDepth 100000
set_option maxHeartbeats 2000000
namespace Rw
open PySem PySem.Spec PyProof.Rows L2
open Vbcsag (Street Map)
abbrev s_answer_cuts : Stmt := topS 75
abbrev s_answer_packs : Stmt := topS 76
abbrev s_answer_walk : Stmt := topS 77
abbrev s_answer_round : Stmt := topS 78
abbrev s_answer_share : Stmt := topS 79
abbrev s_answer_least : Stmt := topS 80
theorem sc_answer_cuts : FnScope ["desk", "call", "weights", "answer", "places", "weight"] ["desk", "call"] (defScope s_answer_cuts) := ⟨rfl, rfl, rfl, by decide +kernel, rfl, by decide +kernel, by decide +kernel⟩
theorem sc_answer_packs : FnScope ["desk", "call", "pairs", "good", "pair"] ["desk", "call"] (defScope s_answer_packs) := ⟨rfl, rfl, rfl, by decide +kernel, rfl, by decide +kernel, by decide +kernel⟩
theorem sc_answer_walk : FnScope ["desk", "call", "walk"] ["desk", "call"] (defScope s_answer_walk) := ⟨rfl, rfl, rfl, by decide +kernel, rfl, by decide +kernel, by decide +kernel⟩
theorem sc_answer_round : FnScope ["desk", "call", "good"] ["desk", "call"] (defScope s_answer_round) := ⟨rfl, rfl, rfl, by decide +kernel, rfl, by decide +kernel, by decide +kernel⟩
theorem sc_answer_share : FnScope ["desk", "call", "place", "hours", "shares", "answer", "share", "street"] ["desk", "call"] (defScope s_answer_share) := ⟨rfl, rfl, rfl, by decide +kernel, rfl, by decide +kernel, by decide +kernel⟩
theorem sc_answer_least : FnScope ["desk", "call", "wanted", "least"] ["desk", "call"] (defScope s_answer_least) := ⟨rfl, rfl, rfl, by decide +kernel, rfl, by decide +kernel, by decide +kernel⟩
section
variable {tk tk2 : Tok} {P : Program} {w : World} {K : PySem.W.Frag} {mg : Str → Option Value} {base : Heap} {C CD CC : Addr}
def flat2 (l : List (Nat × Nat)) : List Int := l.flatMap fun x => [(x.1 : Int), (x.2 : Int)]
def ansCuts (m : Map) (nums row : List Int) : List Int := 0 :: (Vbcsag.weightOf (Vbcsag.cuts m) : Int) :: flat2 (Vbcsag.cuts m)
theorem weightOf_sum (l : List (Nat × Nat)) : (l.map fun x => (x.2 : Int)).sum = ((Vbcsag.weightOf l : Nat) : Int) := by
  unfold Vbcsag.weightOf
  rw [Mi.vsum_eq, ← sum_vN, List.map_map]
  rfl
theorem flat2_snoc (l : List (Nat × Nat)) (x : Nat × Nat) : flat2 (l ++ [x]) = flat2 l ++ [(x.1 : Int), (x.2 : Int)] := by
  unfold flat2
  rw [List.flatMap_append]
  rfl
theorem flat2_len (l : List (Nat × Nat)) : (flat2 l).length = 2 * l.length := by
  induction l with
  | nil => rfl
  | cons x l ih =>
    show (flat2 l).length + 1 + 1 = 2 * (l.length + 1)
    omega
theorem df_answer_cuts (TD : TxD K CD) (D : Dn K mg "answer_cuts" s_answer_cuts ["desk", "call"]) (Dt : Df P w K mg base "told_cuts" ["streets", "places"] 7 (spCuts K C)) (gs : mg "sum" = none) : Df P w K mg base "answer_cuts" ["desk", "call"] 8 (spA K C CD CC (fun _ _ => True) ansCuts) := by
  refine D.df sc_answer_cuts (fun vs H Q E h => ?_) (fun f cdv A outer s H vs Q E hr h => ?_)
  · obtain ⟨dk, dx, fs, m, l, as, ca, cx, n1, r1, p, nums, row, rfl, _⟩ := h
    rfl
  · obtain ⟨dk, dx, fs, m, l, as, ca, cx, n1, r1, p, nums, row, rfl, hD, wm, hC, _, k⟩ := h
    have nd := sc_answer_cuts.nd
    refine ⟨_, pss_cons (ps_set (i := 2) nd rfl (.inl rfl) (pe_df Dt hr (by rfl) (pa_cons (pe_fld (pv 0) rfl) (pa_cons (pe_fld (pv 0) rfl) pa_nil))))
      (pss_cons (ps_set (i := 3) nd rfl (.inl rfl) (pe_lst (pa_cons pe_int (pa_cons (pe_sumVals (by rfl) (by rfl) gs (pv 2)) pa_nil))))
      (pss_cons (ps_lock (ps_for PassesOwn.never rfl (pi_items (pv 2)) (pg_tup rfl (pgs_cons (pg_name (i := 4) nd rfl (.inl rfl)) (pgs_cons (pg_name (i := 5) nd rfl (.inl rfl)) pgs_nil)))
        (pss_one (ps_expr (pe_bm PySem.F.plainAttrs_list PySem.F.slot_list_extend PySem.F.type_list_extend mt_extend (pv 3) (pa_cons (pe_lst (pa_cons (pv 4) (pa_cons (pv 5) pa_nil))) pa_nil))))))
      (pss_one (ps_ret (pv 3))))), ?_⟩
    refine ⟨_, rfl, dk, CD, dx, _, _, rfl, hD.ob, TD.cl, TD.nS, hD.st, _, rfl, dk, CD, dx, _, _, rfl, hD.ob, TD.cl, TD.nP, hD.pl, l, as, m, rfl, hD.row, wm, fun H1 wp s1 nwp hwp ok => ?_⟩
    refine ⟨_, rfl, wp, _, (Vbcsag.cuts m).map (fun x => (x.2 : Int)), rfl, hwp, ?_, ?_⟩
    · unfold kvsOf
      rw [List.map_map, List.map_map]
      rfl
    rw [weightOf_sum]
    refine ⟨(by show 2 ≤ sizeLine; decide), fun ap nap => ?_⟩
    have s2 := same_upd (o := .lst [V.int 0, vN (Vbcsag.weightOf (Vbcsag.cuts m))]) nap
    have nwa : wp ≠ ap := ne_of_none hwp nap
    have clen := ok.len
    refine ⟨wp, _, s2 _ _ hwp, trivial, fun od => ?_⟩
    refine ⟨_, rfl, wp, od, _, rfl, upd_same, ?_⟩
    refine for_gen (Vbcsag.cuts m).length (fun i σ H' => (∀ b o, b ≠ wp → H1 b = some o → H' b = some o) ∧ H' wp = some (.frz od (.dK (kvsOf (Vbcsag.cuts m)))) ∧ H' ap = some (.lst ((0 :: (Vbcsag.weightOf (Vbcsag.cuts m) : Int) :: flat2 ((Vbcsag.cuts m).take i)).map V.int)) ∧ ∃ v4 v5 : Option V, σ = [some (.ref dk), some (.ref ca), some (.ref wp), some (.ref ap), v4, v5])
      ⟨fun b o nb e => by rw [upd_ne nb]; exact s2 _ _ e, upd_same, by rw [upd_ne nwa.symm, upd_same]; rfl, none, none, rfl⟩ ?_ ?_ ?_ ?_
    · rintro i σ H' hi ⟨_, hw, _⟩
      exact ⟨hw, by unfold kvsOf; rw [List.length_map]; exact hi⟩
    · rintro σ H' ⟨_, hw, _⟩
      exact ⟨hw, by unfold kvsOf; rw [List.length_map]; exact Nat.le_refl _⟩
    · rintro i σ H2 x H3 hi ⟨hk2, hw2, ha2, v4, v5, rfl⟩ ⟨Tt, kk, vv, hkv, rfl, nT, rfl⟩
      have hkv2 : (kvsOf (Vbcsag.cuts m))[i]? = some (Sum.inl ((Vbcsag.cuts m)[i].1 : Int), vN (Vbcsag.cuts m)[i].2) := by
        unfold kvsOf
        rw [List.getElem?_map, List.getElem?_eq_getElem hi]
        rfl
      rw [hkv2] at hkv
      have e := Option.some.inj hkv
      cases e
      have nTw : wp ≠ Tt := ne_of_none hw2 nT
      have nTa : ap ≠ Tt := ne_of_none ha2 nT
      refine ⟨Tt, _, rfl, .inl (.inl upd_same), rfl, _, _, rfl, _, _, rfl, rfl, ?_⟩
      have ha3 : (upd H2 Tt (.tup [kV (Sum.inl ((Vbcsag.cuts m)[i].1 : Int)), vN (Vbcsag.cuts m)[i].2])) ap = some (.lst ((0 :: (Vbcsag.weightOf (Vbcsag.cuts m) : Int) :: flat2 ((Vbcsag.cuts m).take i)).map V.int)) := by
        rw [upd_ne nTa]
        exact ha2
      refine ⟨_, rfl, .inl ⟨rfl, _, SqL.of ha3⟩, _, rfl, _, rfl, (by show 2 ≤ sizeLine; decide), fun q1 n1 => ?_⟩
      have nqa : ap ≠ q1 := ne_of_none ha3 n1
      refine ⟨ap, q1, _, _, rfl, rfl, by rw [upd_ne nqa]; exact ha3, upd_same, ?_, ?_⟩
      · rw [List.length_map, List.length_cons, List.length_cons, flat2_len, List.length_take]
        exact Nat.le_trans (show 2 * min i (Vbcsag.cuts m).length + 1 + 1 + 2 ≤ 1000 by omega) (by decide)
      · have hw3 : (upd H2 Tt (.tup [kV (Sum.inl ((Vbcsag.cuts m)[i].1 : Int)), vN (Vbcsag.cuts m)[i].2])) wp = some (.frz od (.dK (kvsOf (Vbcsag.cuts m)))) := by
          rw [upd_ne nTw]
          exact hw2
        have nqw : wp ≠ q1 := ne_of_none hw3 n1
        refine ⟨fun b o nb e => ?_, ?_, ?_, _, _, rfl⟩
        · have e2 := hk2 b o nb e
          have e3 : (upd H2 Tt (.tup [kV (Sum.inl ((Vbcsag.cuts m)[i].1 : Int)), vN (Vbcsag.cuts m)[i].2])) b = some o := by
            rw [upd_ne (ne_of_none e2 nT)]
            exact e2
          rw [upd_ne (ne_of_none e nap), upd_ne (ne_of_none e3 n1)]
          exact e3
        · rw [upd_ne nwa, upd_ne nqw]
          exact hw3
        · rw [upd_same, take_snocV (List.getElem?_eq_getElem hi), flat2_snoc]
          simp only [List.map_cons, List.map_append, List.cons_append]
          rfl
    · rintro σ H2 ⟨hk2, hw2, ha2, v4, v5, rfl⟩
      rw [List.take_length] at ha2
      refine ⟨hw2, _, rfl, k _ ap (fun b o e => ?_) (none_back s1 nap) ?_⟩
      · have e1 := s1 _ _ e
        have nb : b ≠ wp := ne_of_none e nwp
        rw [upd_ne nb]
        exact hk2 b o nb e1
      · rw [upd_ne nwa.symm]
        exact ha2
def okPacks (nums row : List Int) : Prop := row.length ≤ 60 ∧ row.length % 2 = 0 ∧ ∀ z ∈ row, 0 ≤ z ∧ z ≤ 1000000
def ansPacks (m : Map) (nums row : List Int) : List Int := [0, Vbcsag.bit (Vbcsag.packs m (Vbcsag.cutsIn row)), (Vbcsag.weightOf (Vbcsag.cutsIn row) : Int)]
theorem df_answer_packs (TD : TxD K CD) (TC : TxC K CC) (D : Dn K mg "answer_packs" s_answer_packs ["desk", "call"]) (Dp : Df P w K mg base "pairs_from" ["row"] 1 (spPairs K)) (Da : Df P w K mg base "is_accepted" ["streets", "places", "pairs"] 4 (spAccepted K C))
    (Dy : Df P w K mg base "yes_or_no" ["holds"] 1 spYes) (gs : mg "sum" = none) : Df P w K mg base "answer_packs" ["desk", "call"] 5 (spA K C CD CC okPacks ansPacks) := by
  refine D.df sc_answer_packs (fun vs H Q E h => ?_) (fun f cdv A outer s H vs Q E hr h => ?_)
  · obtain ⟨dk, dx, fs, m, l, as, ca, cx, n1, r1, p, nums, row, rfl, _⟩ := h
    rfl
  · obtain ⟨dk, dx, fs, m, l, as, ca, cx, n1, r1, p, nums, row, rfl, hD, wm, hC, hok, k⟩ := h
    have nd := sc_answer_packs.nd
    have hrl := hok.1
    refine ⟨_, pss_cons (ps_set (i := 2) nd rfl (.inl rfl) (pe_df Dp (hr.mono (by decide)) (by rfl) (pa_cons (pe_fld (pv 1) rfl) pa_nil)))
      (pss_cons (ps_set (i := 3) nd rfl (.inl rfl) (pe_df Da hr (by rfl) (pa_cons (pe_fld (pv 0) rfl) (pa_cons (pe_fld (pv 0) rfl) (pa_cons (pv 2) pa_nil)))))
      (pss_one (ps_ret (pe_lst (pa_cons pe_int (pa_cons (pe_df Dy (hr.mono (by decide)) (by rfl) (pa_cons (pv 3) pa_nil)) (pa_cons (pe_callB (cr_sum (by rfl)) (by rfl) gs (by decide +kernel) (pa_cons (pe_lc (own := [("pair", 4)]) (g := gName 4) (tt := tYes) (by rfl) nd (pi_list (pv 2))
        (blkOk_by (N := ["desk", "call", "pairs", "good", "pair"]) (sc := defScope s_answer_packs) (own := [("pair", 4)]) (by decide +kernel))
        (fun _ _ _ _ _ => pg_name (i := 4) nd rfl (.inl rfl)) (fun _ _ _ _ _ => pts_nil) (fun _ _ _ _ _ => pe_ix (ix_tupK K) (pv 4) pe_int (fun _ _ => rfl))) pa_nil)) pa_nil))))))), ?_⟩
    refine ⟨_, rfl, ca, CC, cx, _, _, rfl, hC.ob, TC.cl, TC.nR, rfl, r1, row, rfl, SqL.of hC.ro, hok.2.1, by omega, fun z hz => (hok.2.2 z hz).1, fun H1 pp tas s1 hP => ?_⟩
    have hD1 := hD.same s1
    have hcl : (Vbcsag.cutsIn row).length ≤ 1000 := by rw [cutsIn_len]; omega
    refine ⟨_, rfl, dk, CD, dx, _, _, rfl, hD1.ob, TD.cl, TD.nS, hD1.st, _, rfl, dk, CD, dx, _, _, rfl, hD1.ob, TD.cl, TD.nP, hD1.pl, _, rfl, l, pp, as, _, m.n, tas, _, rfl, hD1.row, wm.ws7, wm.n7, hP, hcl, fun H2 s2 => ?_⟩
    refine ⟨_, rfl, _, rfl, ?_⟩
    have hP2 := hP.same s2
    generalize hcs : Vbcsag.cutsIn row = cs at hP2 hcl
    refine ⟨_, rfl, pp, rfl, ⟨_, hP2.lst⟩, fun D hD0 => lc_gen cs.length (fun i => (cs.take i).map fun x => vN x.2) hD0 rfl (fun i => by rw [List.length_map, List.length_take]; omega) (fun i H3 hi sm => ?_) (fun H3 sm => ?_) ?_ ?_⟩
    · exact ⟨_, _, (hP2.same sm).lst, List.getElem?_eq_getElem (by rw [List.length_map, hP2.len]; exact hi)⟩
    · exact ⟨_, (hP2.same sm).lst, by rw [List.length_map, hP2.len]; exact Nat.le_refl _⟩
    · rintro i H3 x H4 Kp Kn hi sm ⟨rfl, hx⟩ hk hn
      have hP3 := hP2.same sm
      have ex := hx _ hP3.lst
      obtain ⟨t, ht, hpr⟩ := hP3.get hi
      rw [List.getElem?_map, ht] at ex
      have ex : V.ref t = x := Option.some.inj ex
      subst ex
      refine ⟨rfl, ?_⟩
      refine ⟨_, rfl, t, _, _, vN cs[i].2, rfl, rfl, hpr, atI_nat (j := 1) rfl, hk _ _ (fun _ _ h => h) ?_⟩
      simp only [take_snocV (List.getElem?_eq_getElem hi), List.map_append, List.map_cons, List.map_nil]
    · intro H3 sm hD3
      refine ⟨D, (cs.map fun x => (x.2 : Int)), rfl, SqL.of (by rw [hD3, List.take_length, List.map_map]; rfl), ?_⟩
      refine ⟨(by show 3 ≤ sizeLine; decide), fun p5 np5 => k _ p5 (s1.trans (s2.trans (sm.trans (same_upd np5)))) (none_back (s1.trans (s2.trans sm)) np5) ?_⟩
      unfold ansPacks
      rw [upd_same, weightOf_sum, Mi.packs_eq wm, hcs]
      rfl
def okP (nums row : List Int) : Prop := ∃ p, nums = [p] ∧ 0 ≤ p ∧ p ≤ 6
def ansWalk (m : Map) (nums row : List Int) : List Int := if (m.n : Int) ≤ nums.headD 0 then [-3] else 0 :: (Vbcsag.walked m (Vbcsag.walk m (nums.headD 0).toNat) : Int) :: Vbcsag.ints (Vbcsag.walk m (nums.headD 0).toNat)
theorem walk_lt {m : Map} (wm : Mi.WM m) {q : Nat} (hq : q < m.n) : (∀ i ∈ Vbcsag.walk m q, i < m.streets.length) ∧ (Vbcsag.walk m q).length ≤ 64 := by
  rw [Mi.walk_eq wm hq]
  refine ⟨?_, Nat.le_trans (walkM_len _ _ _ _) (uses_sum wm)⟩
  have key : ∀ (k : Nat) (ts : List Nat) (p : Nat), ∀ i ∈ Mi.walkM m.streets k ts p, i < m.streets.length := by
    intro k
    induction k with
    | zero => intro ts p i h; cases h
    | succ k ih =>
      intro ts p i h
      unfold Mi.walkM at h
      cases hf : Mi.firstP m.streets ts p with
      | none => rw [hf] at h; cases h
      | some j =>
        rw [hf] at h
        rcases List.mem_cons.mp h with e | e
        · rw [e]
          exact List.mem_range.mp (List.mem_of_find?_eq_some hf)
        · exact ih _ _ i e
  exact key _ _ _
theorem df_answer_walk (TD : TxD K CD) (TC : TxC K CC) (D : Dn K mg "answer_walk" s_answer_walk ["desk", "call"]) (Dr : Df P w K mg base "refused" ["why"] 1 spRefused) (Dw : Df P w K mg base "told_walk" ["streets", "begin"] 8 (spWalk K C)) (Dl : Df P w K mg base "length_together" ["streets", "row"] 1 (spLenTog K C))
    (gN : mg "NO_SUCH" = some (.int 3 tk)) : Df P w K mg base "answer_walk" ["desk", "call"] 9 (spA K C CD CC okP ansWalk) := by
  refine D.df sc_answer_walk (fun vs H Q E h => ?_) (fun f cdv A outer s H vs Q E hr h => ?_)
  · obtain ⟨dk, dx, fs, m, l, as, ca, cx, n1, r1, p, nums, row, rfl, _⟩ := h
    rfl
  · obtain ⟨dk, dx, fs, m, l, as, ca, cx, n1, r1, p, nums, row, rfl, hD, wm, hC, ⟨z, rfl, hz0, hz6⟩, k⟩ := h
    have nd := sc_answer_walk.nd
    refine ⟨_, pss_cons (ps_if (pt_cmpR op_ge (pe_ix ix_list (pe_fld (pv 1) rfl) pe_int (fun _ _ => rfl)) (pe_fld (pv 0) rfl) (nomark _)) (pss_one (ps_ret (pe_df Dr (hr.mono (by decide)) (by rfl) (pa_cons (pe_glob (v := .int 3) rfl gN ⟨_, rfl⟩) pa_nil)))) pss_nil)
      (pss_cons (ps_set (i := 2) nd rfl (.inl rfl) (pe_df Dw hr (by rfl) (pa_cons (pe_fld (pv 0) rfl) (pa_cons (pe_ix ix_list (pe_fld (pv 1) rfl) pe_int (fun _ _ => rfl)) pa_nil))))
      (pss_one (ps_ret (pe_op op_cat (pe_lst (pa_cons pe_int (pa_cons (pe_df Dl (hr.mono (by decide)) (by rfl) (pa_cons (pe_fld (pv 0) rfl) (pa_cons (pv 2) pa_nil))) pa_nil))) (pv 2))))), ?_⟩
    obtain ⟨q, rfl⟩ : ∃ q : Nat, z = (q : Int) := ⟨z.toNat, by omega⟩
    refine ⟨_, rfl, ca, CC, cx, _, _, rfl, hC.ob, TC.cl, TC.nN, rfl, n1, _, _, V.int (q : Int), rfl, rfl, SqL.of hC.nu, atI_nat (j := 0) rfl, _, rfl, dk, CD, dx, _, _, rfl, hD.ob, TD.cl, TD.nP, hD.pl, _, _, rfl, rfl, _, rfl, ?_⟩
    unfold ansWalk at k
    by_cases hp : (m.n : Int) ≤ (q : Int)
    · refine iteP (decide_eq_true hp) ?_
      rw [List.headD_cons, if_pos hp] at k
      exact ⟨3, rfl, fun H2 p2 s2 n2 h2 => k H2 p2 s2 n2 h2⟩
    · refine iteN (fun y => hp (of_decide_eq_true y)) ?_
      rw [List.headD_cons, if_neg hp, Int.toNat_natCast] at k
      have hq : q < m.n := by omega
      have hwl := walk_lt wm hq
      refine ⟨_, rfl, dk, CD, dx, _, _, rfl, hD.ob, TD.cl, TD.nS, hD.st, _, rfl, ca, CC, cx, _, _, rfl, hC.ob, TC.cl, TC.nN, rfl, n1, _, _, V.int (q : Int), rfl, rfl, SqL.of hC.nu, atI_nat (j := 0) rfl, l, as, m, q, rfl, hD.row, wm, hq, fun H1 wp s1 nwp hwp => ?_⟩
      have hD1 := hD.same s1
      refine ⟨_, rfl, dk, CD, dx, _, _, rfl, hD1.ob, TD.cl, TD.nS, hD1.st, _, rfl, l, wp, as, _, _, rfl, hD1.row, SqL.of hwp, hwl.1, by omega, fun H2 s2 => ?_⟩
      rw [← Mi.walked_eq]
      refine ⟨(by show 2 ≤ sizeLine; decide), fun p1 np1 => ?_⟩
      have s3 := same_upd (o := .lst [V.int 0, vN (Vbcsag.walked m (Vbcsag.walk m q))]) np1
      refine ⟨_, rfl, p1, wp, _, _, rfl, rfl, upd_same, s3 _ _ (s2 _ _ hwp), ?_, fun p2 np2 => ?_⟩
      · rw [List.length_map]
        exact Nat.le_trans (Nat.add_le_add_left hwl.2 2) (by decide)
      · refine k _ p2 (s1.trans (s2.trans (s3.trans (same_upd np2)))) (none_back (s1.trans (s2.trans s3)) np2) ?_
        rw [upd_same, vN_ints]
        rfl
end
end Rw

set_option Elab.async false
set_option linter.all false
set_option maxRecDepth 100000
set_option maxHeartbeats 2000000
namespace Rw
open PySem PySem.Spec PyProof.Rows L2
open Vbcsag (Street Map)
section
variable {tk tk2 : Tok} {P : Program} {w : World} {K : PySem.W.Frag} {mg : Str → Option Value} {base : Heap} {C CD CC : Addr}
def okRound (nums row : List Int) : Prop := (∃ p, nums = [p] ∧ 0 ≤ p ∧ p ≤ 6) ∧ row.length ≤ 80 ∧ ∀ z ∈ row, 0 ≤ z ∧ z ≤ 15
def ansRound (m : Map) (nums row : List Int) : List Int := if (decide ((m.n : Int) ≤ nums.headD 0) || row.any fun i => decide ((m.streets.length : Int) ≤ i)) = true then [-3] else [0, Vbcsag.bit (Vbcsag.isRound m (nums.headD 0).toNat (Vbcsag.nats row)), (Vbcsag.walked m (Vbcsag.nats row) : Int)]
theorem nats_vN {row : List Int} (h : ∀ z ∈ row, 0 ≤ z) : row.map V.int = (Vbcsag.nats row).map vN := by
  unfold Vbcsag.nats
  rw [List.map_map]
  refine List.map_congr_left fun z hz => ?_
  show V.int z = V.int ((z.toNat : Nat) : Int)
  rw [Int.toNat_of_nonneg (h z hz)]
theorem df_answer_round (TD : TxD K CD) (TC : TxC K CC) (D : Dn K mg "answer_round" s_answer_round ["desk", "call"]) (Da : Df P w K mg base "all_below" ["row", "bound"] 1 (spBelow K)) (Dr : Df P w K mg base "refused" ["why"] 1 spRefused)
    (Di : Df P w K mg base "is_round" ["streets", "begin", "row"] 3 (spRound K C)) (Dy : Df P w K mg base "yes_or_no" ["holds"] 1 spYes) (Dl : Df P w K mg base "length_together" ["streets", "row"] 1 (spLenTog K C))
    (gN : mg "NO_SUCH" = some (.int 3 tk)) (gl : mg "len" = none) : Df P w K mg base "answer_round" ["desk", "call"] 4 (spA K C CD CC okRound ansRound) := by
  refine D.df sc_answer_round (fun vs H Q E h => ?_) (fun f cdv A outer s H vs Q E hr h => ?_)
  · obtain ⟨dk, dx, fs, m, l, as, ca, cx, n1, r1, p, nums, row, rfl, _⟩ := h
    rfl
  · obtain ⟨dk, dx, fs, m, l, as, ca, cx, n1, r1, p, nums, row, rfl, hD, wm, hC, ⟨⟨z, rfl, hz0, hz6⟩, hrl, hrz⟩, k⟩ := h
    have nd := sc_answer_round.nd
    have hn7 := wm.n7
    refine ⟨_, pss_cons (ps_if (PW.pt (pw_or (pt_cmpR op_ge (pe_ix ix_list (pe_fld (pv 1) rfl) pe_int (fun _ _ => rfl)) (pe_fld (pv 0) rfl) (nomark _))
          (pw_or1 (pt_not (pt_val (pe_df Da (hr.mono (by decide)) (by rfl) (pa_cons (pe_fld (pv 1) rfl) (pa_cons (pe_callB call_len_seq (by rfl) gl PySem.boot_len (pa_cons (pe_fld (pv 0) rfl) pa_nil)) pa_nil))))))))
        (pss_one (ps_ret (pe_df Dr (hr.mono (by decide)) (by rfl) (pa_cons (pe_glob (v := .int 3) rfl gN ⟨_, rfl⟩) pa_nil)))) pss_nil)
      (pss_cons (ps_set (i := 2) nd rfl (.inl rfl) (pe_df Di hr (by rfl) (pa_cons (pe_fld (pv 0) rfl) (pa_cons (pe_ix ix_list (pe_fld (pv 1) rfl) pe_int (fun _ _ => rfl)) (pa_cons (pe_fld (pv 1) rfl) pa_nil)))))
      (pss_one (ps_ret (pe_lst (pa_cons pe_int (pa_cons (pe_df Dy (hr.mono (by decide)) (by rfl) (pa_cons (pv 2) pa_nil)) (pa_cons (pe_df Dl (hr.mono (by decide)) (by rfl) (pa_cons (pe_fld (pv 0) rfl) (pa_cons (pe_fld (pv 1) rfl) pa_nil))) pa_nil))))))), ?_⟩
    obtain ⟨q, rfl⟩ : ∃ q : Nat, z = (q : Int) := ⟨z.toNat, by omega⟩
    refine ⟨_, rfl, ca, CC, cx, _, _, rfl, hC.ob, TC.cl, TC.nN, rfl, n1, _, _, V.int (q : Int), rfl, rfl, SqL.of hC.nu, atI_nat (j := 0) rfl, _, rfl, dk, CD, dx, _, _, rfl, hD.ob, TD.cl, TD.nP, hD.pl, _, _, rfl, rfl, _, rfl, ?_⟩
    unfold ansRound at k
    rw [List.headD_cons] at k
    by_cases hp : (m.n : Int) ≤ (q : Int)
    · refine iteP (decide_eq_true hp) ?_
      refine iteP rfl ?_
      rw [decide_eq_true hp, Bool.true_or, if_pos rfl] at k
      exact ⟨3, rfl, fun H2 p2 s2 n2 h2 => k H2 p2 s2 n2 h2⟩
    · refine iteN (fun y => hp (of_decide_eq_true y)) ?_
      rw [decide_eq_false hp, Bool.false_or] at k
      refine ⟨_, rfl, ca, CC, cx, _, _, rfl, hC.ob, TC.cl, TC.nR, rfl, _, rfl, dk, CD, dx, _, _, rfl, hD.ob, TD.cl, TD.nS, hD.st, l, _, rfl, .inl hD.row.lst, r1, row, _, rfl, SqL.of hC.ro, by omega, fun H1 s1 => ?_⟩
      rw [List.length_map, hD.row.len]
      refine ⟨_, rfl, ?_⟩
      cases hb : (row.any fun i => decide ((m.streets.length : Int) ≤ i)) with
      | true =>
        rw [hb, if_pos rfl] at k
        refine iteP ((below_any row _).trans hb) ?_
        exact ⟨3, rfl, fun H2 p2 s2 n2 h2 => k H2 p2 (s1.trans s2) (none_back s1 n2) h2⟩
      | false =>
        rw [hb, if_neg (by decide), Int.toNat_natCast] at k
        refine iteN (fun y => by rw [below_any, hb] at y; cases y) ?_
        have hin : ∀ i ∈ Vbcsag.nats row, i < m.streets.length := fun i hi => by
          obtain ⟨y, hy, rfl⟩ := List.mem_map.mp hi
          have := List.any_eq_false.mp hb y hy
          simp only [decide_eq_true_eq] at this
          have := (hrz y hy).1
          omega
        have hC1 := hC.same s1
        have hD1 := hD.same s1
        have hrow : H1 r1 = some (.lst ((Vbcsag.nats row).map vN)) := by rw [hC1.ro, nats_vN fun z hz => (hrz z hz).1]
        have hnl : (Vbcsag.nats row).length ≤ 80 := by
          unfold Vbcsag.nats
          rw [List.length_map]
          exact hrl
        refine ⟨_, rfl, dk, CD, dx, _, _, rfl, hD1.ob, TD.cl, TD.nS, hD1.st, _, rfl, ca, CC, cx, _, _, rfl, hC1.ob, TC.cl, TC.nN, rfl, n1, _, _, V.int (q : Int), rfl, rfl, SqL.of hC1.nu, atI_nat (j := 0) rfl, _, rfl, ca, CC, cx, _, _, rfl, hC1.ob, TC.cl, TC.nR, rfl, l, r1, q, as, _, _, rfl, hD1.row, wm.ws7, wm.len, by omega, SqL.of hrow, hin, fun H2 s2 => ?_⟩
        have hD2 := hD1.same s2
        have hC2 := hC1.same s2
        refine ⟨_, rfl, _, rfl, ?_⟩
        refine ⟨_, rfl, dk, CD, dx, _, _, rfl, hD2.ob, TD.cl, TD.nS, hD2.st, _, rfl, ca, CC, cx, _, _, rfl, hC2.ob, TC.cl, TC.nR, rfl, l, r1, as, _, _, rfl, hD2.row, SqL.of (s2 _ _ hrow), hin, by omega, fun H3 s3 => ?_⟩
        rw [← Mi.walked_eq]
        refine ⟨(by show 3 ≤ sizeLine; decide), fun p5 np5 => k _ p5 (s1.trans (s2.trans (s3.trans (same_upd np5)))) (none_back (s1.trans (s2.trans s3)) np5) ?_⟩
        rw [upd_same, Mi.isRound_eq m q _ hin]
        rfl
def okShare (nums row : List Int) : Prop := ∃ p h, nums = [p, h] ∧ (0 ≤ p ∧ p ≤ 6) ∧ 0 ≤ h ∧ h ≤ 100000
def ansShare (m : Map) (nums row : List Int) : List Int := if (m.n : Int) ≤ nums.headD 0 then [-3] else if (m.streets.any fun x => decide (nums.getD 1 0 < (x.long : Int))) = true then [-6] else
  0 :: ((Vbcsag.handOut m (nums.getD 1 0).toNat (Vbcsag.walk m (nums.headD 0).toNat) []).length : Int) :: (Vbcsag.handOut m (nums.getD 1 0).toNat (Vbcsag.walk m (nums.headD 0).toNat) []).flatMap fun x => [(x.length : Int), (Vbcsag.walked m x : Int)]
theorem shM_len (ss : List Street) (h : Nat) : ∀ (q : List Nat) (c n : Nat), (Mi.shM ss h q c n).length ≤ q.length + 1
  | [], c, n => by
    unfold Mi.shM
    split
    · exact Nat.le_refl _
    · exact Nat.zero_le _
  | i :: q, c, n => by
    unfold Mi.shM
    split
    · rw [List.length_cons]
      exact Nat.succ_le_succ (shM_len ss h q _ _)
    · exact Nat.le_succ_of_le (shM_len ss h q _ _)
theorem df_answer_share (T : Txt K mg C) (TD : TxD K CD) (TC : TxC K CC) (D : Dn K mg "answer_share" s_answer_share ["desk", "call"]) (Dr : Df P w K mg base "refused" ["why"] 1 spRefused) (Dw : Df P w K mg base "told_walk" ["streets", "begin"] 8 (spWalk K C))
    (Ds : Df P w K mg base "shares_of" ["streets", "walk", "hours"] 1 (spShares K C)) (gN : mg "NO_SUCH" = some (.int 3 tk)) (gT : mg "TOO_LONG" = some (.int 6 tk2)) (gy : mg "any" = none) (gl : mg "len" = none) : Df P w K mg base "answer_share" ["desk", "call"] 9 (spA K C CD CC okShare ansShare) := by
  refine D.df sc_answer_share (fun vs H Q E h => ?_) (fun f cdv A outer s H vs Q E hr h => ?_)
  · obtain ⟨dk, dx, fs, m, l, as, ca, cx, n1, r1, p, nums, row, rfl, _⟩ := h
    rfl
  · obtain ⟨dk, dx, fs, m, l, as, ca, cx, n1, r1, p, nums, row, rfl, hD, wm, hC, ⟨z, y, rfl, hz, hy0, hy1⟩, k⟩ := h
    have nd := sc_answer_share.nd
    have hn7 := wm.n7
    have hl16 := wm.len
    refine ⟨_, pss_cons (ps_set (i := 2) nd rfl (.inl rfl) (pe_ix ix_list (pe_fld (pv 1) rfl) pe_int (fun _ _ => rfl)))
      (pss_cons (ps_set (i := 3) nd rfl (.inr rfl) (pe_ix ix_list (pe_fld (pv 1) rfl) pe_int (fun _ _ => rfl)))
      (pss_cons (ps_if (pt_cmpR op_ge (pv 2) (pe_fld (pv 0) rfl) (nomark _)) (pss_one (ps_ret (pe_df Dr (hr.mono (by decide)) (by rfl) (pa_cons (pe_glob (v := .int 3) rfl gN ⟨_, rfl⟩) pa_nil)))) pss_nil)
      (pss_cons (ps_if (pt_val (pe_callB (cr_any (by rfl)) (by rfl) gy (by decide +kernel) (pa_cons (pe_lc (own := [("street", 7)]) (g := gName 7) (tt := tYes) (by rfl) nd (pi_list (pe_fld (pv 0) rfl))
          (blkOk_by (N := ["desk", "call", "place", "hours", "shares", "answer", "share", "street"]) (sc := defScope s_answer_share) (own := [("street", 7)]) (by decide +kernel))
          (fun _ _ _ _ _ => pg_name (i := 7) nd rfl (.inl rfl)) (fun _ _ _ _ _ => pts_nil) (fun _ _ _ _ _ => pe_cmpR op_gt (pe_fldK K (pv 7) rfl) (pv 3) (nomark _))) pa_nil)))
        (pss_one (ps_ret (pe_df Dr (hr.mono (by decide)) (by rfl) (pa_cons (pe_glob (v := .int 6) rfl gT ⟨_, rfl⟩) pa_nil)))) pss_nil)
      (pss_cons (ps_set (i := 4) nd rfl (.inl rfl) (pe_df Ds (hr.mono (by decide)) (by rfl) (pa_cons (pe_fld (pv 0) rfl) (pa_cons (pe_df Dw hr (by rfl) (pa_cons (pe_fld (pv 0) rfl) (pa_cons (pv 2) pa_nil))) (pa_cons (pv 3) pa_nil)))))
      (pss_cons (ps_set (i := 5) nd rfl (.inl rfl) (pe_lst (pa_cons pe_int (pa_cons (pe_callB call_len_seq (by rfl) gl PySem.boot_len (pa_cons (pv 4) pa_nil)) pa_nil))))
      (pss_cons (ps_for PassesOwn.never rfl (pi_list (pv 4)) (pg_name (i := 6) nd rfl (.inl rfl))
        (pss_one (ps_expr (pe_bm PySem.F.plainAttrs_list PySem.F.slot_list_extend PySem.F.type_list_extend mt_extT (pv 5) (pa_cons (pv 6) pa_nil)))))
      (pss_one (ps_ret (pv 5))))))))), ?_⟩
    obtain ⟨q, rfl⟩ : ∃ q : Nat, z = (q : Int) := ⟨z.toNat, by omega⟩
    obtain ⟨h, rfl⟩ : ∃ h : Nat, y = (h : Int) := ⟨y.toNat, by omega⟩
    refine ⟨_, rfl, ca, CC, cx, _, _, rfl, hC.ob, TC.cl, TC.nN, rfl, n1, _, _, V.int (q : Int), rfl, rfl, SqL.of hC.nu, atI_nat (j := 0) rfl, ?_⟩
    refine ⟨_, rfl, ca, CC, cx, _, _, rfl, hC.ob, TC.cl, TC.nN, rfl, n1, _, _, V.int (h : Int), rfl, rfl, SqL.of hC.nu, atI_nat (j := 1) rfl, ?_⟩
    refine ⟨_, rfl, _, rfl, dk, CD, dx, _, _, rfl, hD.ob, TD.cl, TD.nP, hD.pl, _, _, rfl, rfl, _, rfl, ?_⟩
    unfold ansShare at k
    rw [List.headD_cons, show ([(q : Int), (h : Int)] : List Int).getD 1 0 = (h : Int) from rfl] at k
    by_cases hp : (m.n : Int) ≤ (q : Int)
    · refine iteP (decide_eq_true hp) ?_
      rw [if_pos hp] at k
      exact ⟨3, rfl, fun H2 p2 s2 n2 h2 => k H2 p2 s2 n2 h2⟩
    · refine iteN (fun y => hp (of_decide_eq_true y)) ?_
      rw [if_neg hp, Int.toNat_natCast, Int.toNat_natCast] at k
      have hq : q < m.n := by omega
      have hwl := walk_lt wm hq
      refine ⟨_, rfl, dk, CD, dx, _, _, rfl, hD.ob, TD.cl, TD.nS, hD.st, l, rfl, ⟨_, hD.row.lst⟩, fun D hD0 => lc_gen m.streets.length (fun i => (m.streets.take i).map fun x => V.bl (decide ((h : Int) < (x.long : Int)))) hD0 rfl (fun i => by rw [List.length_map, List.length_take]; omega) (fun i H3 hi sm => ?_) (fun H3 sm => ?_) ?_ ?_⟩
      · exact ⟨_, _, (hD.row.same sm).lst, List.getElem?_eq_getElem (by rw [List.length_map, hD.row.len]; exact hi)⟩
      · exact ⟨_, (hD.row.same sm).lst, by rw [List.length_map, hD.row.len]; exact Nat.le_refl _⟩
      · rintro i H3 x H4 Kp Kn hi sm ⟨rfl, hx⟩ hk hn
        have hR3 := hD.row.same sm
        have ex := hx _ hR3.lst
        obtain ⟨a, ha, ⟨ax, hs⟩⟩ := hR3.get hi
        rw [List.getElem?_map, ha] at ex
        have ex : V.ref a = x := Option.some.inj ex
        subst ex
        refine ⟨rfl, ?_⟩
        refine ⟨_, rfl, a, C, ax, _, _, rfl, hs, T.cl, T.nL, rfl, _, rfl, _, _, rfl, rfl, hk _ _ (fun _ _ h => h) ?_⟩
        simp only [take_snocV (Mi.getD_lt hi Vbcsag.street0), List.map_append, List.map_cons, List.map_nil]
      · intro H1 s1 hD1
        refine ⟨D, (m.streets.map fun x => decide ((h : Int) < (x.long : Int))), rfl, SqL.of (by rw [hD1, List.take_length, List.map_map]; rfl), ?_⟩
        refine ⟨_, rfl, ?_⟩
        rw [List.any_map]
        cases hb : (m.streets.any fun x => decide ((h : Int) < (x.long : Int))) with
        | true =>
          rw [hb, if_pos rfl] at k
          refine iteP hb ?_
          exact ⟨6, rfl, fun H2 p2 s2 n2 h2 => k H2 p2 (s1.trans s2) (none_back s1 n2) h2⟩
        | false =>
          rw [hb, if_neg (by decide)] at k
          refine iteN (fun y => by rw [show (m.streets.any (id ∘ fun x => decide ((h : Int) < (x.long : Int)))) = false from hb] at y; cases y) ?_
          have hDk := hD.same s1
          refine ⟨_, rfl, dk, CD, dx, _, _, rfl, hDk.ob, TD.cl, TD.nS, hDk.st, _, rfl, dk, CD, dx, _, _, rfl, hDk.ob, TD.cl, TD.nS, hDk.st, _, rfl, l, as, m, q, rfl, hDk.row, wm, hq, fun H2 wp s2 nwp hwp => ?_⟩
          refine ⟨_, rfl, l, wp, as, _, _, h, rfl, hDk.row.same s2, SqL.of hwp, hwl.1, by omega, fun H3 sp tas s3 nsp hsp => ?_⟩
          have hsh := Mi.share_eq m h (Vbcsag.walk m q) []
          have hsh : Mi.shM m.streets h (Vbcsag.walk m q) 0 0 = (Vbcsag.handOut m h (Vbcsag.walk m q) []).map fun x => (x.length, Vbcsag.walked m x) := hsh.symm
          have hsl := shM_len m.streets h (Vbcsag.walk m q) 0 0
          generalize hprs : Mi.shM m.streets h (Vbcsag.walk m q) 0 0 = prs at hsp hsh hsl
          have hpl : prs.length ≤ 65 := by omega
          have hfl : flat2 prs = (Vbcsag.handOut m h (Vbcsag.walk m q) []).flatMap fun x => [(x.length : Int), (Vbcsag.walked m x : Int)] := by
            rw [hsh]
            unfold flat2
            rw [List.flatMap_map]
          have hpn : prs.length = (Vbcsag.handOut m h (Vbcsag.walk m q) []).length := by rw [hsh, List.length_map]
          rw [← hfl, ← hpn] at k
          refine ⟨_, rfl, sp, _, rfl, .inl (SqL.of hsp.lst), ?_⟩
          rw [List.length_map, hsp.len]
          refine ⟨(by show 2 ≤ sizeLine; decide), fun ap nap => ?_⟩
          have s4 := same_upd (o := .lst [V.int 0, V.int (prs.length : Int)]) nap
          refine ⟨_, rfl, sp, rfl, ⟨_, SqL.of (s4 _ _ hsp.lst)⟩, ?_⟩
          refine for_gen prs.length (fun i σ H' => Same H3 H' ∧ H' ap = some (.lst ((0 :: (prs.length : Int) :: flat2 (prs.take i)).map V.int)) ∧ ∃ v6 v7 : Option V, σ = [some (.ref dk), some (.ref ca), some (vN q), some (vN h), some (.ref sp), some (.ref ap), v6, v7])
            ⟨s4, by rw [upd_same]; rfl, none, none, rfl⟩ ?_ ?_ ?_ ?_
          · rintro i σ H' hi ⟨s5, _⟩
            exact ⟨_, _, SqL.of (hsp.same s5).lst, List.getElem?_eq_getElem (by rw [List.length_map, hsp.len]; exact hi)⟩
          · rintro σ H' ⟨s5, _⟩
            exact ⟨_, SqL.of (hsp.same s5).lst, by rw [List.length_map, hsp.len]; exact Nat.le_refl _⟩
          · rintro i σ H5 x H6 hi ⟨s5, hap, v6, v7, rfl⟩ ⟨rfl, hx⟩
            have hsp5 := hsp.same s5
            have ex := hx _ (SqL.of hsp5.lst)
            have hit : i < tas.length := by rw [hsp.len]; exact hi
            rw [List.getElem?_map, List.getElem?_eq_getElem hit] at ex
            have ex : V.ref tas[i] = x := Option.some.inj ex
            subst ex
            have htp := hsp5.at_ i _ _ (List.getElem?_eq_getElem hit) (List.getElem?_eq_getElem hi)
            refine ⟨_, rfl, .inl ⟨rfl, _, SqL.of hap⟩, _, rfl, ap, tas[i], _, _, rfl, rfl, hap, htp, ?_, ?_⟩
            · rw [List.length_map, List.length_cons, List.length_cons, flat2_len, List.length_take]
              exact Nat.le_trans (show 2 * min i prs.length + 1 + 1 + 2 ≤ 1000 by omega) (by decide)
            · refine ⟨same_put nap s5, ?_, _, v7, rfl⟩
              rw [upd_same, take_snocV (List.getElem?_eq_getElem hi), flat2_snoc]
              simp only [List.map_cons, List.map_append, List.cons_append]
              rfl
          · rintro σ H5 ⟨s5, hap, v6, v7, rfl⟩
            rw [List.take_length] at hap
            exact ⟨_, rfl, k H5 ap (s1.trans (s2.trans (s3.trans s5))) (none_back (s1.trans (s2.trans s3)) nap) hap⟩
def okLeast (nums row : List Int) : Prop := ∃ u, nums = [u] ∧ 0 ≤ u ∧ u ≤ 127
def ansLeast (m : Map) (nums row : List Int) : List Int := if (2 ^ m.n : Int) ≤ nums.headD 0 then [-3] else match Vbcsag.least m.n m.streets (nums.headD 0).toNat with
  | none => [0, 0]
  | some n => [0, 1, (n : Int)]
theorem df_answer_least (TD : TxD K CD) (TC : TxC K CC) (D : Dn K mg "answer_least" s_answer_least ["desk", "call"]) (Dr : Df P w K mg base "refused" ["why"] 1 spRefused) (Da : Df P w K mg base "all_places" ["places"] 1 spAllPlaces) (Dl : Df P w K mg base "leasts_of" ["streets"] 5 (spLeasts K C))
    (gN : mg "NO_SUCH" = some (.int 3 tk)) : Df P w K mg base "answer_least" ["desk", "call"] 6 (spA K C CD CC okLeast ansLeast) := by
  refine D.df sc_answer_least (fun vs H Q E h => ?_) (fun f cdv A outer s H vs Q E hr h => ?_)
  · obtain ⟨dk, dx, fs, m, l, as, ca, cx, n1, r1, p, nums, row, rfl, _⟩ := h
    rfl
  · obtain ⟨dk, dx, fs, m, l, as, ca, cx, n1, r1, p, nums, row, rfl, hD, wm, hC, ⟨z, rfl, hz0, hz1⟩, k⟩ := h
    have nd := sc_answer_least.nd
    have hn7 := wm.n7
    have hl16 := wm.len
    refine ⟨_, pss_cons (ps_set (i := 2) nd rfl (.inl rfl) (pe_ix ix_list (pe_fld (pv 1) rfl) pe_int (fun _ _ => rfl)))
      (pss_cons (ps_if (pt_cmpR op_gt (pv 2) (pe_df Da (hr.mono (by decide)) (by rfl) (pa_cons (pe_fld (pv 0) rfl) pa_nil)) (nomark _)) (pss_one (ps_ret (pe_df Dr (hr.mono (by decide)) (by rfl) (pa_cons (pe_glob (v := .int 3) rfl gN ⟨_, rfl⟩) pa_nil)))) pss_nil)
      (pss_cons (ps_set (i := 3) nd rfl (.inl rfl) (pe_ix ix_list (pe_df Dl hr (by rfl) (pa_cons (pe_fld (pv 0) rfl) pa_nil)) (pv 2) (fun _ _ => rfl)))
      (pss_cons (ps_if (pt_cmpR op_isN (pv 3) pe_non (nomark _)) (pss_one (ps_ret (pe_lst (pa_cons pe_int (pa_cons pe_int pa_nil))))) pss_nil)
      (pss_one (ps_ret (pe_lst (pa_cons pe_int (pa_cons pe_int (pa_cons (pv 3) pa_nil))))))))), ?_⟩
    obtain ⟨q, rfl⟩ : ∃ q : Nat, z = (q : Int) := ⟨z.toNat, by omega⟩
    refine ⟨_, rfl, ca, CC, cx, _, _, rfl, hC.ob, TC.cl, TC.nN, rfl, n1, _, _, V.int (q : Int), rfl, rfl, SqL.of hC.nu, atI_nat (j := 0) rfl, ?_⟩
    refine ⟨_, rfl, _, rfl, dk, CD, dx, _, _, rfl, hD.ob, TD.cl, TD.nP, hD.pl, m.n, rfl, by omega, _, _, rfl, rfl, _, rfl, ?_⟩
    unfold ansLeast at k
    rw [List.headD_cons] at k
    have hpos := Nat.two_pow_pos m.n
    have hpw : (2 ^ m.n : Int) = ((2 ^ m.n : Nat) : Int) := by rw [Int.natCast_pow]; rfl
    by_cases hp : 2 ^ m.n ≤ q
    · refine iteP (decide_eq_true (by omega)) ?_
      rw [if_pos (by rw [hpw]; omega)] at k
      exact ⟨3, rfl, fun H2 p2 s2 n2 h2 => k H2 p2 s2 n2 h2⟩
    · refine iteN (fun y => hp (by have := of_decide_eq_true y; omega)) ?_
      rw [if_neg (by rw [hpw]; omega), Int.toNat_natCast] at k
      have hq : q < 2 ^ m.n := by omega
      have h128 := Mi.lt128 wm.n7 hq
      refine ⟨_, rfl, dk, CD, dx, _, _, rfl, hD.ob, TD.cl, TD.nS, hD.st, l, as, _, rfl, hD.row, wm.ws7, by omega, fun H1 lp s1 hlp => ?_⟩
      have hrl : ((Vbcsag.rowsOf 7 m.streets).headD []).length = 128 := rows_len _ _ (rows_head_mem _)
      refine ⟨_, rfl, lp, _, _, _, rfl, rfl, SqL.of hlp, atI_nat (row_get (by rw [hrl]; exact h128)), ?_⟩
      rw [Mi.least_seven wm.n7 wm.ws hq] at k
      refine ⟨_, rfl, rfl, _, rfl, ?_⟩
      change ∀ H' q', Same H H' → H q' = none → H' q' = some (.lst ((match Vbcsag.rowAt ((Vbcsag.rowsOf 7 m.streets).headD []) q with
        | none => [0, 0]
        | some n => [0, 1, (n : Int)]).map V.int)) → Q (.ref q') H' at k
      cases e : Vbcsag.rowAt ((Vbcsag.rowsOf 7 m.streets).headD []) q with
      | none =>
        rw [e] at k
        refine iteP (decide_eq_true rfl) ?_
        exact ⟨(by show 2 ≤ sizeLine; decide), fun p5 np5 => k _ p5 (s1.trans (same_upd np5)) (none_back s1 np5) upd_same⟩
      | some x =>
        rw [e] at k
        refine iteN (fun y => by have y := of_decide_eq_true y; cases y) ?_
        exact ⟨_, rfl, (by show 3 ≤ sizeLine; decide), fun p5 np5 => k _ p5 (s1.trans (same_upd np5)) (none_back s1 np5) upd_same⟩
end
end Rw

set_option Elab.async false
set_option linter.all false
set_option maxRecDepth 100000
set_option maxHeartbeats 2000000
namespace Rw
open PySem PySem.Spec PyProof.Rows L2
open Vbcsag (Street Map)
/-! ### classes -/
def inCls (st : Stmt) (i : Nat) : Stmt := match st with
  | .ClassDef (body := body) .. => body.getD i (.Pass ⟨0, 0, 0, 0⟩)
  | _ => .Pass ⟨0, 0, 0, 0⟩
/-- the class of that name, made by an __init__ that keeps the promise -/
def Mc (P : Program) (w : World) (K : PySem.W.Frag) (mg : Str → Option Value) (base : Heap) (x : Str) (C : Addr) (ps : List Str) (k : Nat) (sp : Sp) : Prop :=
  ∃ (f : Addr) (fd : FuncData), Mk K C f ∧ FnOk P w K mg base CX0 k f fd ps sp ∧ Binds K fd ps [] ∧ mg x = some (.ref C)
section
variable {X : Cx} {x : Str} {C : Addr} {ps : List Str} {k : Nat} {sp : Sp} {e : Expr} {es : List Expr} {t : TA} {p pos : Pos}
theorem pe_mc (D : Mc X.prog X.w X.K X.mg X.base x C ps k sp) (hr : Room (k + 1) X.A) (hg : Gl X x) (ha : PA X (e :: es) t) (hdb : (x == ("__debug__" : Str)) = false := by decide)
    (he : starEach (e :: es) X.env = (false, eval e X.env) :: starEach es X.env := by rfl) (hpl : (backTo pos (starEach es X.env)).any (·.1) = false := by rfl) : PE X (.Call (.Name x p) (e :: es) [] pos) (tMake C sp [] E0 t) := by
  obtain ⟨f, fd, M, F, b, g⟩ := D
  exact pe_make M F hr hg g b .nil pass0 ha hdb he hpl
theorem pe_mc0 (D : Mc X.prog X.w X.K X.mg X.base x C ps k sp) (hr : Room (k + 1) X.A) (hg : Gl X x) (hdb : (x == ("__debug__" : Str)) = false := by decide) : PE X (.Call (.Name x p) [] [] pos) (tMake C sp [] E0 tNil) := by
  obtain ⟨f, fd, M, F, b, g⟩ := D
  exact pe_make0 M F hr hg g b .nil pass0 hdb
end
abbrev s_street_init : Stmt := inCls (topS 3) 0
abbrev s_call_init : Stmt := inCls (topS 56) 0
abbrev s_streets_from : Stmt := topS 5
theorem sc_street_init : FnScope ["self", "near", "far", "length", "often"] ["self", "near", "far", "length", "often"] (defScope s_street_init) := ⟨rfl, rfl, rfl, by decide +kernel, rfl, by decide +kernel, by decide +kernel⟩
theorem sc_call_init : FnScope ["self", "number", "numbers", "row"] ["self", "number", "numbers", "row"] (defScope s_call_init) := ⟨rfl, rfl, rfl, by decide +kernel, rfl, by decide +kernel, by decide +kernel⟩
theorem sc_streets_from : FnScope ["row", "streets", "at"] ["row"] (defScope s_streets_from) := ⟨rfl, rfl, rfl, by decide +kernel, rfl, by decide +kernel, by decide +kernel⟩
section
variable {P : Program} {w : World} {K : PySem.W.Frag} {mg : Str → Option Value} {base : Heap} {C CD CC : Addr}
def spInitS (C : Addr) : Sp := fun vs H Q _ => ∃ (x dx : Addr) (a b l o : V), vs = [.ref x, a, b, l, o] ∧ H x = some (.ins C dx []) ∧
  ∀ H', H' x = some (.ins C dx [("near", a), ("far", b), ("length", l), ("often", o)]) → (∀ c u, H c = some u → c ≠ x → H' c = some u) → Q .non H'
theorem ok_street_init {f : Addr} {fd : FuncData} (F : Fun K "__init__" "Street.__init__" s_street_init f fd) (T : Txt K mg C) : FnOk P w K mg base CX0 1 f fd ["self", "near", "far", "length", "often"] (spInitS C) := by
  refine F.ok sc_street_init (fun vs H Q E h => ?_) (fun cdv A outer s H vs Q E hr h => ?_)
  · obtain ⟨x, dx, a, b, l, o, rfl, _⟩ := h
    rfl
  · obtain ⟨x, dx, a, b, l, o, rfl, hx, k⟩ := h
    refine ⟨_, pss_cons (ps_fld (pv 0) (pv 1) rfl) (pss_cons (ps_fld (pv 0) (pv 2) rfl) (pss_cons (ps_fld (pv 0) (pv 3) rfl) (pss_one (ps_fld (pv 0) (pv 4) rfl)))), ?_⟩
    refine ⟨_, rfl, _, rfl, x, C, dx, _, rfl, hx, T.cl, T.nA, (by show 0 < 1000; decide), ?_⟩
    refine ⟨_, rfl, _, rfl, x, C, dx, _, rfl, upd_same, T.cl, T.nB, (by show 1 < 1000; decide), ?_⟩
    refine ⟨_, rfl, _, rfl, x, C, dx, _, rfl, upd_same, T.cl, T.nL, (by show 2 < 1000; decide), ?_⟩
    refine ⟨_, rfl, _, rfl, x, C, dx, _, rfl, upd_same, T.cl, T.nO, (by show 3 < 1000; decide), ?_⟩
    refine k _ upd_same fun c u e nc => ?_
    rw [upd_ne nc, upd_ne nc, upd_ne nc, upd_ne nc]
    exact e
def spInitC (CC : Addr) : Sp := fun vs H Q _ => ∃ (x dx : Addr) (a b l : V), vs = [.ref x, a, b, l] ∧ H x = some (.ins CC dx []) ∧
  ∀ H', H' x = some (.ins CC dx [("number", a), ("numbers", b), ("row", l)]) → (∀ c u, H c = some u → c ≠ x → H' c = some u) → Q .non H'
theorem ok_call_init {f : Addr} {fd : FuncData} (F : Fun K "__init__" "Call.__init__" s_call_init f fd) (T : TxC K CC) : FnOk P w K mg base CX0 1 f fd ["self", "number", "numbers", "row"] (spInitC CC) := by
  refine F.ok sc_call_init (fun vs H Q E h => ?_) (fun cdv A outer s H vs Q E hr h => ?_)
  · obtain ⟨x, dx, a, b, l, rfl, _⟩ := h
    rfl
  · obtain ⟨x, dx, a, b, l, rfl, hx, k⟩ := h
    refine ⟨_, pss_cons (ps_fld (pv 0) (pv 1) rfl) (pss_cons (ps_fld (pv 0) (pv 2) rfl) (pss_one (ps_fld (pv 0) (pv 3) rfl))), ?_⟩
    refine ⟨_, rfl, _, rfl, x, CC, dx, _, rfl, hx, T.cl, T.nU, (by show 0 < 1000; decide), ?_⟩
    refine ⟨_, rfl, _, rfl, x, CC, dx, _, rfl, upd_same, T.cl, T.nN, (by show 1 < 1000; decide), ?_⟩
    refine ⟨_, rfl, _, rfl, x, CC, dx, _, rfl, upd_same, T.cl, T.nR, (by show 2 < 1000; decide), ?_⟩
    refine k _ upd_same fun c u e nc => ?_
    rw [upd_ne nc, upd_ne nc, upd_ne nc]
    exact e
/-- what is tracked stays when an instance is made -/
theorem made_same {H H1 : Hp} {x dx D : Addr} (nx : H x = none) (nd : H dx = none) (k : ∀ b o, (upd (upd H dx (.own x)) x (.ins D dx [])) b = some o → b ≠ x → H1 b = some o) : Same H H1 := fun b o e =>
  k b o (by rw [upd_ne (ne_of_none e nx), upd_ne (ne_of_none e nd)]; exact e) (ne_of_none e nx)
/-- a list of streets that stand by themselves -/
structure RowM (C : Addr) (H : Hp) (l : Addr) (as : List Addr) (ss : List Street) : Prop where
  lst : H l = some (.lst (as.map V.ref))
  len : as.length = ss.length
  at_ : ∀ (i : Nat) (a : Addr) (s : Street), as[i]? = some a → ss[i]? = some s → StrAt C H a s
  nd : as.Nodup
theorem RowM.row {H : Hp} {l : Addr} {as : List Addr} {ss : List Street} (h : RowM C H l as ss) : RowAt K C H l as ss := ⟨SqL.of h.lst, h.len, h.at_⟩
theorem RowM.same {H H' : Hp} {l : Addr} {as : List Addr} {ss : List Street} (h : RowM C H l as ss) (k : Same H H') : RowM C H' l as ss := ⟨k _ _ h.lst, h.len, fun i a s h1 h2 => (h.at_ i a s h1 h2).same k, h.nd⟩
def strL : List Int → List Street
  | a :: b :: l :: o :: r => ⟨a.toNat, b.toNat, l.toNat, o.toNat⟩ :: strL r
  | _ => []
theorem strL_len : ∀ (ns : List Int), (strL ns).length = ns.length / 4
  | [] => rfl
  | [_] => by show 0 = 1 / 4; decide
  | [_, _] => by show 0 = 2 / 4; decide
  | [_, _, _] => by show 0 = 3 / 4; decide
  | a :: b :: l :: o :: r => by
    show (strL r).length + 1 = (r.length + 1 + 1 + 1 + 1) / 4
    rw [strL_len r]
    omega
theorem strL_get : ∀ (ns : List Int) (i : Nat) (h : 4 * i + 3 < ns.length), (strL ns)[i]? = some ⟨ns[4 * i].toNat, ns[4 * i + 1].toNat, ns[4 * i + 2].toNat, ns[4 * i + 3].toNat⟩
  | [], i, h => by simp at h
  | [_], i, h => by simp at h
  | [_, _], i, h => by simp at h; omega
  | [_, _, _], i, h => by simp at h; omega
  | a :: b :: l :: o :: r, 0, h => rfl
  | a :: b :: l :: o :: r, i + 1, h => by
    have := strL_get r i (by simp at h; omega)
    show (strL r)[i]? = _
    rw [this]
    rfl
def spStreets (K : PySem.W.Frag) (C : Addr) : Sp := fun vs H Q _ => ∃ (r : Addr) (ns : List Int), vs = [.ref r] ∧ SqL K H r (ns.map V.int) ∧ ns.length % 4 = 0 ∧ ns.length ≤ 1000 ∧ (∀ z ∈ ns, 0 ≤ z) ∧
  ∀ H' p as, Same H H' → H p = none → (∀ a ∈ as, H a = none) → RowM C H' p as (strL ns) → Q (.ref p) H'
theorem df_streets_from (D : Dn K mg "streets_from" s_streets_from ["row"]) (M : Mc P w K mg base "Street" C ["self", "near", "far", "length", "often"] 1 (spInitS C)) (gr : mg "range" = none) (gl : mg "len" = none) : Df P w K mg base "streets_from" ["row"] 3 (spStreets K C) := by
  refine D.df sc_streets_from (fun vs H Q E h => ?_) (fun f cdv A outer s H vs Q E hr h => ?_)
  · obtain ⟨r, ns, rfl, _⟩ := h
    rfl
  · obtain ⟨r, ns, rfl, hq, h4, hlen, hpos, k⟩ := h
    have nd := sc_streets_from.nd
    refine ⟨_, pss_cons (ps_set (i := 1) nd rfl (.inl rfl) (pe_lst pa_nil))
      (pss_cons (ps_for PassesOwn.never rfl (pi_range3 (by rfl) gr (pa_cons pe_int (pa_cons (pe_callB call_len_seq (by rfl) gl PySem.boot_len (pa_cons (pv 0) pa_nil)) (pa_cons pe_int pa_nil)))) (pg_name (i := 2) nd rfl (.inl rfl))
        (pss_one (ps_expr (pe_bm PySem.F.plainAttrs_list PySem.F.slot_list_append PySem.F.type_list_append mt_append (pv 1) (pa_cons (pe_mc M hr (by rfl) (pa_cons (pe_ix ix_list (pv 0) (pv 2) (fun _ _ => rfl))
          (pa_cons (pe_ix ix_list (pv 0) (pe_op op_addN (pv 2) pe_int) (fun _ _ => rfl)) (pa_cons (pe_ix ix_list (pv 0) (pe_op op_addN (pv 2) pe_int) (fun _ _ => rfl)) (pa_cons (pe_ix ix_list (pv 0) (pe_op op_addN (pv 2) pe_int) (fun _ _ => rfl)) pa_nil))))) pa_nil)))))
      (pss_one (ps_ret (pv 1)))), ?_⟩
    refine ⟨Nat.zero_le _, fun sp nsp => ?_⟩
    have hm : (ns.map V.int).length = 4 * (ns.length / 4) := by rw [List.length_map]; omega
    refine ⟨_, rfl, r, _, rfl, .inl ((same_upd nsp).seq hq), 0, _, 4, ns.length / 4, rfl, ?_, ?_⟩
    · rw [hm]
      exact rg_step (m := ns.length / 4) (c := 4) (by decide) (by decide) (by omega)
    refine for_gen (ns.length / 4) (fun i σ H' => Same H H' ∧ ∃ (as : List Addr) (v2 : Option V), (∀ a ∈ as, H a = none) ∧ RowM C H' sp as ((strL ns).take i) ∧ σ = [some (.ref r), some (.ref sp), v2])
      ⟨same_upd nsp, [], none, by simp, ⟨upd_same, rfl, by simp, List.nodup_nil⟩, rfl⟩ ?_ ?_ ?_ ?_
    · rintro i σ H' hi _
      exact hi
    · rintro σ H' _
      exact Nat.le_refl _
    · rintro i σ H1 x H2 hi ⟨s1, as, v2, hfr, hR, rfl⟩ ⟨rfl, rfl⟩
      have e0 : (0 : Int) + ((i : Nat) : Int) * 4 = ((4 * i : Nat) : Int) := by omega
      rw [e0]
      have h0 : 4 * i < ns.length := by omega
      have h1 : 4 * i + 1 < ns.length := by omega
      have h2 : 4 * i + 2 < ns.length := by omega
      have h3 : 4 * i + 3 < ns.length := by omega
      have hq1 := s1.seq hq
      have hsl : (strL ns).length = ns.length / 4 := strL_len ns
      refine ⟨_, rfl, .inl ⟨rfl, _, SqL.of hR.lst⟩, ?_⟩
      refine ⟨_, rfl, _, rfl, r, _, _, .int ns[4 * i], rfl, rfl, hq1, atI_nat (by rw [List.getElem?_map, List.getElem?_eq_getElem h0]; rfl), ?_⟩
      refine ⟨_, rfl, _, rfl, 4 * i, 1, rfl, rfl, r, _, _, .int ns[4 * i + 1], rfl, rfl, hq1, atI_nat (j := 4 * i + 1) (by rw [List.getElem?_map, List.getElem?_eq_getElem h1]; rfl), ?_⟩
      refine ⟨_, rfl, _, rfl, 4 * i, 2, rfl, rfl, r, _, _, .int ns[4 * i + 2], rfl, rfl, hq1, atI_nat (j := 4 * i + 2) (by rw [List.getElem?_map, List.getElem?_eq_getElem h2]; rfl), ?_⟩
      refine ⟨_, rfl, _, rfl, 4 * i, 3, rfl, rfl, r, _, _, .int ns[4 * i + 3], rfl, rfl, hq1, atI_nat (j := 4 * i + 3) (by rw [List.getElem?_map, List.getElem?_eq_getElem h3]; rfl), ?_⟩
      intro x dx nx ndx nex
      refine ⟨x, dx, _, _, _, _, rfl, upd_same, fun H3 hx3 k3 => ⟨rfl, ?_⟩⟩
      have s3 : Same H2 H3 := made_same nx ndx k3
      have hR3 := hR.same s3
      have nxs : x ≠ sp := (ne_of_none hR.lst nx).symm
      refine ⟨sp, _, _, rfl, rfl, hR3.lst, small1000 (by rw [List.length_map, hR.len, List.length_take]; omega), ?_⟩
      have nHx : H x = none := none_back s1 nx
      have es : (strL ns)[i]? = some ⟨ns[4 * i].toNat, ns[4 * i + 1].toNat, ns[4 * i + 2].toNat, ns[4 * i + 3].toNat⟩ := strL_get ns i h3
      have hal : as.length = i := by rw [hR.len, List.length_take]; omega
      have nin : x ∉ as := fun hx => by
        obtain ⟨j, hj⟩ := List.mem_iff_getElem?.mp hx
        have hjl := (List.getElem?_eq_some_iff.mp hj).1
        obtain ⟨ax, ha⟩ := hR.at_ j x _ hj (List.getElem?_eq_getElem (by rw [← hR.len]; exact hjl))
        rw [ha] at nx
        cases nx
      refine ⟨same_put nsp (s1.trans s3), as ++ [x], some (vN (4 * i)), fun a ha => ?_, ⟨?_, ?_, ?_, ?_⟩, rfl⟩
      · rcases List.mem_append.mp ha with h | h
        · exact hfr a h
        · rw [List.mem_singleton.mp h]
          exact nHx
      · rw [upd_same, List.map_append]
        rfl
      · rw [List.length_append, take_snocV es, List.length_append, hR.len]
        rfl
      · intro j a st g1 g2
        rw [take_snocV es] at g2
        by_cases hj : j < i
        · rw [List.getElem?_append_left (by omega)] at g1
          rw [List.getElem?_append_left (by rw [← hR.len]; omega)] at g2
          obtain ⟨ax, ha⟩ := hR3.at_ j a st g1 g2
          refine ⟨ax, ?_⟩
          rw [upd_ne (ne_of ha hR3.lst (by intro z; cases z))]
          exact ha
        · rw [List.getElem?_append_right (by omega), hal] at g1
          rw [List.getElem?_append_right (by rw [← hR.len]; omega), ← hR.len, hal] at g2
          cases hz : j - i with
          | zero =>
            rw [hz] at g1 g2
            have e1 : x = a := Option.some.inj g1
            have e2 : _ = st := Option.some.inj g2
            subst e1 e2
            refine ⟨dx, ?_⟩
            rw [upd_ne nxs, hx3]
            unfold sfs
            show _ = some (HO.ins C dx [("near", V.int ((ns[4 * i].toNat : Nat) : Int)), ("far", V.int ((ns[4 * i + 1].toNat : Nat) : Int)), ("length", V.int ((ns[4 * i + 2].toNat : Nat) : Int)), ("often", V.int ((ns[4 * i + 3].toNat : Nat) : Int))])
            rw [Int.toNat_of_nonneg (hpos _ (List.getElem_mem h0)), Int.toNat_of_nonneg (hpos _ (List.getElem_mem h1)), Int.toNat_of_nonneg (hpos _ (List.getElem_mem h2)), Int.toNat_of_nonneg (hpos _ (List.getElem_mem h3))]
          | succ z =>
            rw [hz] at g1
            cases g1
      · refine List.nodup_append.mpr ⟨hR.nd, by simp, fun a ha b hb e => ?_⟩
        rw [List.mem_singleton] at hb
        exact nin (hb ▸ e ▸ ha)
    · rintro σ H1 ⟨s1, as, v2, hfr, hR, rfl⟩
      rw [List.take_of_length_le (by rw [strL_len]; exact Nat.le_refl _)] at hR
      exact ⟨_, rfl, k H1 sp as s1 nsp hfr hR⟩
end
end Rw

set_option Elab.async false
set_option linter.all false
set_option maxRecDepth 100000
set_option maxHeartbeats 2000000
namespace Rw
open PySem PySem.Spec PyProof.Rows L2
/-! ### a dict of the module whose keys are whole numbers -/
/-- at d: a written dict with these entries, its keys whole numbers -/
structure KInt (K : PySem.W.Frag) (d : Addr) (es : List DictEntry) : Prop where
  at_ : ∃ n, K.lookup d = some ⟨.type "dict", none, .dict es.toArray n, #[]⟩
  keys : ∀ e ∈ es, ∃ i t, e.key = .int i t ∧ e.hash = hashInt i
  low : (d == sysModules) = false
def atKey (es : List DictEntry) (i : Int) : Option Value := (es.find? fun e => Value.isInt i e.key).map (·.val)
theorem KInt.map {K : PySem.W.Frag} {d : Addr} {es : List DictEntry} {prog : Program} {w : World} {h : Heap} (D : KInt K d es) (X : K.In h) : h.MapOf (intKind prog w) d (atKey es) := by
  obtain ⟨n, hl⟩ := D.at_
  refine ⟨_, es.toArray, n, X _ _ hl, ⟨rfl, rfl, rfl⟩, rfl, fun e he => ?_, fun k => ?_⟩
  · obtain ⟨i, t, e1, e2⟩ := D.keys e (List.mem_toArray.mp he)
    exact ⟨i, by rw [e1]; exact beq_self_eq_true i, e2⟩
  · unfold findBy atKey
    rw [List.find?_toArray]
    rfl
section
variable {X : Cx}
def rInK (K : PySem.W.Frag) : R2 := fun x y H Q => ∃ (i : Int) (d : Addr) (es : List DictEntry), x = .int i ∧ y = .ref d ∧ KInt K d es ∧ Q (.bl (atKey es i).isSome) H
theorem op_in_ki : OpR X (compareOp .In) (rInK X.K) := by
  intro pins s σ H x y v u Q I rx ry h
  obtain ⟨i, d, es, rfl, rfl, D, q⟩ := h
  obtain ⟨t, rfl⟩ := rx
  cases ry
  exact wpAny_in_of (knd := intKind X.prog X.w) (k := i) (beq_self_eq_true i) D.low (D.map I.kIn) ⟨.bl (atKey es i).isSome, H, I.tok _, rfl, q⟩
def rIxK (K : PySem.W.Frag) : R2 := fun x y H Q => ∃ (i : Int) (d : Addr) (es : List DictEntry) (u0 : Value) (v0 : V), x = .ref d ∧ y = .int i ∧ KInt K d es ∧ atKey es i = some u0 ∧ RelV v0 u0 ∧ Q v0 H
theorem ix_ki : IxR X (rIxK X.K) := by
  intro value slice pins s σ H x y v u Q I rx ry h hs
  obtain ⟨i, d, es, u0, v0, rfl, rfl, D, e, ru, q⟩ := h
  obtain rfl : v = Value.ref d := rx
  obtain ⟨t, rfl⟩ := ry
  have hm := D.map (prog := X.prog) (w := X.w) I.kIn
  exact tail_any hm.typeIs slot_dict_getitem.lookup (wpAny_getItem_of (knd := intKind X.prog X.w) (k := i) (beq_self_eq_true i) hm e ⟨v0, H, I.tok _, ru, q⟩) hs
end
end Rw

set_option Elab.async false
set_option linter.all false
set_option maxRecDepth 100000
set_option maxHeartbeats 2000000
namespace Rw
open PySem PySem.Spec PyProof.Rows L2
open Vbcsag (Street Map)
abbrev s_read_calls : Stmt := topS 57
abbrev s_fit : Stmt := topS 58
abbrev s_is_within : Stmt := topS 59
theorem sc_read_calls : FnScope ["calls", "told", "at", "number", "behind", "numbers", "row"] ["calls"] (defScope s_read_calls) := ⟨rfl, rfl, rfl, by decide +kernel, rfl, by decide +kernel, by decide +kernel⟩
theorem sc_fit : FnScope ["numbers", "most", "ranges", "at", "number", "bounds"] ["numbers", "most", "ranges"] (defScope s_fit) := ⟨rfl, rfl, rfl, by decide +kernel, rfl, by decide +kernel, by decide +kernel⟩
theorem sc_is_within : FnScope ["call", "ranges"] ["call"] (defScope s_is_within) := ⟨rfl, rfl, rfl, by decide +kernel, rfl, by decide +kernel, by decide +kernel⟩
/-! ### tables of ranges, as the top has written them -/
abbrev Rg := List (Int × Int)
def PairK (K : PySem.W.Frag) (v : V) (x : Int × Int) : Prop := ∃ a, v = .ref a ∧ ∀ H, SqT K H a [.int x.1, .int x.2]
def RowK (K : PySem.W.Frag) (v : V) (r : Rg) : Prop := ∃ (a : Addr) (vs : List V), v = .ref a ∧ (∀ H, SqT K H a vs) ∧ vs.length = r.length ∧ ∀ (i : Nat) (u : V) (x : Int × Int), vs[i]? = some u → r[i]? = some x → PairK K u x
def TabK (K : PySem.W.Frag) (a : Addr) (rows : List Rg) : Prop := ∃ vs : List V, (∀ H, SqT K H a vs) ∧ vs.length = rows.length ∧ ∀ (i : Nat) (u : V) (r : Rg), vs[i]? = some u → rows[i]? = some r → RowK K u r
def inRg (x : Int × Int) (z : Int) : Bool := decide (x.1 ≤ z) && decide (z ≤ x.2)
def fitM (ns : List Int) (most : Int) (rg : Rg) : Bool := ns.isEmpty || ((decide ((ns.length : Int) ≤ most) && decide (ns.length % rg.length = 0)) && (List.range ns.length).all fun i => inRg (rg.getD (i % rg.length) (0, 0)) (ns.getD i 0))
theorem fit_nil0 (most : Int) (rg : Rg) : fitM [] most rg = true := rfl
section
variable {P : Program} {w : World} {K : PySem.W.Frag} {mg : Str → Option Value} {base : Heap} {C CD CC : Addr}
def spFit (K : PySem.W.Frag) : Sp := fun vs H Q _ => ∃ (n : Addr) (ns : List Int) (most : Int) (v : V) (rg : Rg), vs = [.ref n, .int most, v] ∧ SqL K H n (ns.map V.int) ∧ RowK K v rg ∧ (ns ≠ [] → rg ≠ []) ∧ ∀ H', Same H H' → Q (.bl (fitM ns most rg)) H'
theorem df_fit (D : Dn K mg "fit" s_fit ["numbers", "most", "ranges"]) (gl : mg "len" = none) (ge : mg "enumerate" = none) : Df P w K mg base "fit" ["numbers", "most", "ranges"] 1 (spFit K) := by
  refine D.df sc_fit (fun vs H Q E h => ?_) (fun f cdv A outer s H vs Q E hr h => ?_)
  · obtain ⟨n, ns, most, v, rg, rfl, _⟩ := h
    rfl
  · obtain ⟨n, ns, most, v, rg, rfl, hq, ⟨ra, us, rfl, hra, hul, hux⟩, hne, k⟩ := h
    have nd := sc_fit.nd
    refine ⟨_, pss_cons (ps_if (pt_cmpR op_eq (pe_callB call_len_seq (by rfl) gl PySem.boot_len (pa_cons (pv 0) pa_nil)) pe_int (nomark _)) (pss_one (ps_ret pe_bl)) pss_nil)
      (pss_cons (ps_if (PW.pt (pw_or (pt_cmpR op_gt (pe_callB call_len_seq (by rfl) gl PySem.boot_len (pa_cons (pv 0) pa_nil)) (pv 1) (nomark _))
          (pw_or1 (pt_cmpR op_ne (pe_op op_modN (pe_callB call_len_seq (by rfl) gl PySem.boot_len (pa_cons (pv 0) pa_nil)) (pe_callB call_len_seq (by rfl) gl PySem.boot_len (pa_cons (pv 2) pa_nil))) pe_int (nomark _))))) (pss_one (ps_ret pe_bl)) pss_nil)
      (pss_cons (ps_for PassesOwn.never rfl (pi_enum (by rfl) ge (pa_cons (pv 0) pa_nil)) (pg_tup rfl (pgs_cons (pg_name (i := 3) nd rfl (.inl rfl)) (pgs_cons (pg_name (i := 4) nd rfl (.inl rfl)) pgs_nil)))
        (pss_cons (ps_set (i := 5) nd rfl (.inl rfl) (pe_ix ix_tup (pv 2) (pe_op op_modN (pv 3) (pe_callB call_len_seq (by rfl) gl PySem.boot_len (pa_cons (pv 2) pa_nil))) (fun _ _ => rfl)))
        (pss_one (ps_if (PW.pt (pw_or (pt_cmpR op_lt (pv 4) (pe_ix ix_tup (pv 5) pe_int (fun _ _ => rfl)) (nomark _)) (pw_or1 (pt_cmpR op_gt (pv 4) (pe_ix ix_tup (pv 5) pe_int (fun _ _ => rfl)) (nomark _))))) (pss_one (ps_ret pe_bl)) pss_nil))))
      (pss_one (ps_ret pe_bl)))), ?_⟩
    have hnl : (ns.map V.int).length = ns.length := List.length_map ..
    refine ⟨_, rfl, n, _, rfl, .inl hq, rfl, _, rfl, ?_⟩
    rw [hnl]
    by_cases z : ns.length = 0
    · refine iteP (int_eq (by omega)) ?_
      have e : ns = [] := List.length_eq_zero_iff.mp z
      have := k H (Same.refl H)
      rw [e] at this
      exact this
    · refine iteN (int_ne (by omega)) ?_
      have nne : ns ≠ [] := fun e => z (by rw [e]; rfl)
      have hrg := hne nne
      have hrl : 0 < rg.length := List.length_pos_iff.mpr hrg
      have hem : ns.isEmpty = false := by simpa using nne
      unfold fitM at k
      rw [hem, Bool.false_or] at k
      refine ⟨_, rfl, n, _, rfl, .inl hq, _, rfl, _, _, rfl, rfl, _, rfl, ?_⟩
      rw [hnl]
      by_cases z1 : (ns.length : Int) ≤ most
      · refine iteN (fun y => by have := of_decide_eq_true y; omega) ?_
        refine ⟨_, rfl, n, _, rfl, .inl hq, _, rfl, ra, _, rfl, .inr (hra H), _, _, rfl, rfl, by rw [hul]; omega, rfl, _, rfl, ?_⟩
        rw [hnl, hul]
        have em : ((ns.length : Int)).fmod (rg.length : Int) = ((ns.length % rg.length : Nat) : Int) := by
          rw [Int.fmod_eq_emod_of_nonneg _ (by omega), Int.natCast_emod]
        by_cases z2 : ns.length % rg.length = 0
        · refine iteN (show ¬ (!decide (V.int ((ns.length : Int).fmod (rg.length : Int)) = V.int 0)) = true by rw [em, z2]; decide) ?_
          rw [decide_eq_true z1, decide_eq_true z2, Bool.true_and, Bool.true_and] at k
          refine ⟨_, rfl, n, _, rfl, hq, ?_⟩
          refine for_gen ns.length (fun i σ H' => Same H H' ∧ (∀ j, j < i → inRg (rg.getD (j % rg.length) (0, 0)) (ns.getD j 0) = true) ∧ ∃ v3 v4 v5 : Option V, σ = [some (.ref n), some (.int most), some (.ref ra), v3, v4, v5]) ⟨Same.refl H, fun j hj => by omega, none, none, none, rfl⟩ ?_ ?_ ?_ ?_
          · rintro i σ H' hi ⟨s1, _⟩
            exact ⟨_, _, s1.seq hq, List.getElem?_eq_getElem (by rw [List.length_map]; exact hi)⟩
          · rintro σ H' ⟨s1, _⟩
            exact ⟨_, s1.seq hq, by rw [List.length_map]; exact Nat.le_refl _⟩
          · rintro i σ H1 x H2 hi ⟨s1, hall, v3, v4, v5, rfl⟩ ⟨Tt, y, rfl, nT, rfl, hy⟩
            have ey := hy _ (s1.seq hq)
            rw [List.getElem?_map, List.getElem?_eq_getElem hi] at ey
            have ey : V.int ns[i] = y := Option.some.inj ey
            subst ey
            have s2 : Same H1 (upd H1 Tt (.tup [.int (i : Nat), V.int ns[i]])) := same_upd nT
            have hmod : i % rg.length < rg.length := Nat.mod_lt _ hrl
            have hmu : i % rg.length < us.length := by omega
            obtain ⟨pa, hpa, hpt⟩ := hux _ _ _ (List.getElem?_eq_getElem hmu) (Mi.getD_lt hmod (0, 0))
            have eim : ((i : Int)).fmod (rg.length : Int) = ((i % rg.length : Nat) : Int) := by
              rw [Int.fmod_eq_emod_of_nonneg _ (by omega), Int.natCast_emod]
            refine ⟨Tt, _, rfl, .inl (.inl upd_same), rfl, _, _, rfl, _, _, rfl, rfl, ?_⟩
            refine ⟨_, rfl, _, rfl, _, rfl, ra, _, rfl, .inr (hra _), _, _, rfl, rfl, by rw [hul]; omega, ra, _, _, .ref pa, rfl, rfl, hra _, ?_, ?_⟩
            · rw [hul, eim]
              exact atI_nat (by rw [List.getElem?_eq_getElem hmu, hpa])
            have hgd : ns.getD i 0 = ns[i] := Mi.getD_of (List.getElem?_eq_getElem hi)
            have stop : ∀ H3, Same H1 H3 → inRg (rg.getD (i % rg.length) (0, 0)) ns[i] = false → Q (.bl false) H3 := fun H3 s3 hb => by
              have := k H3 (s1.trans s3)
              rw [show ((List.range ns.length).all fun i => inRg (rg.getD (i % rg.length) (0, 0)) (ns.getD i 0)) = false from List.all_eq_false.mpr ⟨i, List.mem_range.mpr hi, by rw [hgd, hb]; decide⟩] at this
              exact this
            refine ⟨_, rfl, _, rfl, pa, _, _, .int (rg.getD (i % rg.length) (0, 0)).1, rfl, rfl, hpt _, atI_nat (j := 0) rfl, _, _, rfl, rfl, _, rfl, ?_⟩
            by_cases y1 : ns[i] < (rg.getD (i % rg.length) (0, 0)).1
            · refine iteP (decide_eq_true y1) ?_
              refine iteP rfl ?_
              refine stop _ s2 ?_
              unfold inRg
              rw [decide_eq_false (by omega), Bool.false_and]
            · refine iteN (fun y => y1 (of_decide_eq_true y)) ?_
              refine ⟨_, rfl, _, rfl, pa, _, _, .int (rg.getD (i % rg.length) (0, 0)).2, rfl, rfl, hpt _, atI_nat (j := 1) rfl, _, _, rfl, rfl, _, rfl, ?_⟩
              by_cases y2 : (rg.getD (i % rg.length) (0, 0)).2 < ns[i]
              · refine iteP (decide_eq_true y2) ?_
                refine stop _ s2 ?_
                unfold inRg
                rw [decide_eq_false (show ¬ ns[i] ≤ (rg.getD (i % rg.length) (0, 0)).2 by omega), Bool.and_false]
              · refine iteN (fun y => y2 (of_decide_eq_true y)) ?_
                refine ⟨s1.trans s2, fun j hj => ?_, _, _, _, rfl⟩
                by_cases ej : j = i
                · rw [ej, hgd]
                  unfold inRg
                  rw [decide_eq_true (by omega), decide_eq_true (by omega)]
                  rfl
                · exact hall j (by omega)
          · rintro σ H1 ⟨s1, hall, v3, v4, v5, rfl⟩
            have := k H1 s1
            rw [show ((List.range ns.length).all fun i => inRg (rg.getD (i % rg.length) (0, 0)) (ns.getD i 0)) = true from List.all_eq_true.mpr fun j hj => hall j (List.mem_range.mp hj)] at this
            exact this
        · refine iteP (show (!decide (V.int ((ns.length : Int).fmod (rg.length : Int)) = V.int 0)) = true by rw [em]; exact nint_ne (by omega)) ?_
          rw [decide_eq_false z2, Bool.and_false, Bool.false_and] at k
          exact k H (Same.refl H)
      · refine iteP (decide_eq_true (by omega)) ?_
        refine iteP rfl ?_
        rw [decide_eq_false z1, Bool.false_and, Bool.false_and] at k
        exact k H (Same.refl H)
/-- the three tables, as is_within and read_calls read them; a call without a row has no ranges in RR -/
structure Tabs (K : PySem.W.Frag) (mg : Str → Option Value) (NR RR : List Rg) (RM : List Int) : Prop where
  nr : ∃ a, mg "NUMBER_RANGES" = some (.ref a) ∧ TabK K a NR
  rr : ∃ a es, mg "ROW_RANGES" = some (.ref a) ∧ KInt K a es ∧ ∀ p : Nat, p < NR.length → (RR.getD p [] = [] → atKey es (p : Int) = none) ∧ (RR.getD p [] ≠ [] → ∃ u v, atKey es (p : Int) = some u ∧ RelV v u ∧ RowK K v (RR.getD p []))
  rm : ∃ a es, mg "ROW_MOST" = some (.ref a) ∧ KInt K a es ∧ ∀ p : Nat, p < NR.length → RR.getD p [] ≠ [] → ∃ t, atKey es (p : Int) = some (.int (RM.getD p 0) t)
  hc : ∃ t, mg "HOME_CALL" = some (.int 11 t)
theorem TabK.get {a : Addr} {rows : List Rg} (h : TabK K a rows) {p : Nat} (hp : p < rows.length) : ∃ (vs : List V) (v : V), (∀ H, SqT K H a vs) ∧ vs[p]? = some v ∧ RowK K v (rows.getD p []) := by
  obtain ⟨vs, h1, h2, h3⟩ := h
  have hl : p < vs.length := by omega
  exact ⟨vs, vs[p], h1, List.getElem?_eq_getElem hl, h3 p _ _ (List.getElem?_eq_getElem hl) (Mi.getD_lt hp [])⟩
/-- a home's times stand in their order (any other call: true) -/
def homeOk (p : Nat) (nums : List Int) : Bool := !(decide (p = 11) && decide (nums.getD 2 0 < nums.getD 1 0))
def spWithin (K : PySem.W.Frag) (CC : Addr) (NR RR : List Rg) (RM : List Int) : Sp := fun vs H Q _ => ∃ (ca cx n1 r1 : Addr) (p : Nat) (nums row : List Int), vs = [.ref ca] ∧ CallAt CC H ca cx n1 r1 p nums row ∧ p < NR.length ∧ (nums ≠ [] → NR.getD p [] ≠ []) ∧ (row ≠ [] → RR.getD p [] ≠ []) ∧ (p = 11 → nums.length = 3) ∧
  ∀ H', Same H H' → Q (.bl (fitM nums (NR.getD p []).length (NR.getD p []) && (homeOk p nums && fitM row (RM.getD p 0) (RR.getD p [])))) H'
theorem df_is_within {NR RR : List Rg} {RM : List Int} (TC : TxC K CC) (TB : Tabs K mg NR RR RM) (D : Dn K mg "is_within" s_is_within ["call"]) (Dt : Df P w K mg base "fit" ["numbers", "most", "ranges"] 1 (spFit K)) (gl : mg "len" = none) : Df P w K mg base "is_within" ["call"] 2 (spWithin K CC NR RR RM) := by
  refine D.df sc_is_within (fun vs H Q E h => ?_) (fun f cdv A outer s H vs Q E hr h => ?_)
  · obtain ⟨ca, cx, n1, r1, p, nums, row, rfl, _⟩ := h
    rfl
  · obtain ⟨ca, cx, n1, r1, p, nums, row, rfl, hC, hp, hn, hrw, h11, k⟩ := h
    have nd := sc_is_within.nd
    obtain ⟨a1, g1, t1⟩ := TB.nr
    obtain ⟨a2, es2, g2, K2, t2⟩ := TB.rr
    obtain ⟨a3, es3, g3, K3, t3⟩ := TB.rm
    obtain ⟨tk, g4⟩ := TB.hc
    refine ⟨_, pss_cons (ps_set (i := 1) nd rfl (.inl rfl) (pe_ix ix_tup (pe_glob (v := .ref a1) rfl g1 rfl) (pe_fld (pv 0) rfl) (fun _ _ => rfl)))
      (pss_cons (ps_if (pt_not (pt_val (pe_df Dt hr (by rfl) (pa_cons (pe_fld (pv 0) rfl) (pa_cons (pe_callB call_len_seq (by rfl) gl PySem.boot_len (pa_cons (pv 1) pa_nil)) (pa_cons (pv 1) pa_nil)))))) (pss_one (ps_ret pe_bl)) pss_nil)
      (pss_cons (ps_if (PW.pt (pw_and (pt_cmpR op_eq (pe_fld (pv 0) rfl) (pe_glob (v := .int 11) rfl g4 ⟨_, rfl⟩) (nomark _)) (pw_and1 (pt_cmpR op_lt (pe_ix ix_list (pe_fld (pv 0) rfl) pe_int (fun _ _ => rfl)) (pe_ix ix_list (pe_fld (pv 0) rfl) pe_int (fun _ _ => rfl)) (nomark _))))) (pss_one (ps_ret pe_bl)) pss_nil)
      (pss_cons (ps_if (pt_cmpR op_in_ki (pe_fld (pv 0) rfl) (pe_glob (v := .ref a2) rfl g2 rfl) (by with_unfolding_all rfl))
        (pss_one (ps_ret (pe_df Dt hr (by rfl) (pa_cons (pe_fld (pv 0) rfl) (pa_cons (pe_ix ix_ki (pe_glob (v := .ref a3) rfl g3 rfl) (pe_fld (pv 0) rfl) (fun _ _ => rfl)) (pa_cons (pe_ix ix_ki (pe_glob (v := .ref a2) rfl g2 rfl) (pe_fld (pv 0) rfl) (fun _ _ => rfl)) pa_nil)))))) pss_nil)
      (pss_one (ps_ret pe_bl))))), ?_⟩
    obtain ⟨vs1, v1, hv1, e1, hr1⟩ := t1.get hp
    obtain ⟨ra, us, rfl, hra, hul, hux⟩ := id hr1
    refine ⟨_, rfl, ca, CC, cx, _, _, rfl, hC.ob, TC.cl, TC.nU, rfl, a1, _, _, _, rfl, rfl, hv1 H, atI_nat e1, ?_⟩
    refine ⟨_, rfl, ca, CC, cx, _, _, rfl, hC.ob, TC.cl, TC.nN, rfl, _, rfl, ra, _, rfl, .inr (hra H), _, rfl, n1, nums, _, _, _, rfl, SqL.of hC.nu, hr1, hn, fun H1 s1 => ?_⟩
    rw [hul]
    refine ⟨_, rfl, ?_⟩
    cases hf : fitM nums (NR.getD p []).length (NR.getD p []) with
    | false =>
      rw [hf, Bool.false_and] at k
      refine iteP (by rfl) ?_
      exact k H1 s1
    | true =>
      rw [hf, Bool.true_and] at k
      refine iteN (by decide) ?_
      have hC1 := hC.same s1
      have hgt : ∀ j, (h : j < nums.length) → (nums.map V.int)[j]? = some (V.int (nums.getD j 0)) := fun j h => by
        rw [List.getElem?_map, Mi.getD_lt h 0]
        rfl
      refine ⟨_, rfl, ca, CC, cx, _, _, rfl, hC1.ob, TC.cl, TC.nU, rfl, rfl, _, rfl, ?_⟩
      by_cases z11 : p = 11
      · have hl3 := h11 z11
        refine iteP (int_eq (by omega)) ?_
        refine ⟨_, rfl, ca, CC, cx, _, _, rfl, hC1.ob, TC.cl, TC.nN, rfl, n1, _, _, V.int (nums.getD 2 0), rfl, rfl, SqL.of hC1.nu, atI_nat (j := 2) (hgt 2 (by omega)), ?_⟩
        refine ⟨_, rfl, ca, CC, cx, _, _, rfl, hC1.ob, TC.cl, TC.nN, rfl, n1, _, _, V.int (nums.getD 1 0), rfl, rfl, SqL.of hC1.nu, atI_nat (j := 1) (hgt 1 (by omega)), _, _, rfl, rfl, _, rfl, ?_⟩
        by_cases y : nums.getD 2 0 < nums.getD 1 0
        · refine iteP (decide_eq_true y) ?_
          have hh : homeOk p nums = false := by
            unfold homeOk
            rw [decide_eq_true z11, decide_eq_true y]
            rfl
          rw [hh, Bool.false_and] at k
          exact k H1 s1
        · refine iteN (fun q => y (of_decide_eq_true q)) ?_
          have hh : homeOk p nums = true := by
            unfold homeOk
            rw [decide_eq_false y, Bool.and_false]
            rfl
          rw [hh, Bool.true_and] at k
          refine ⟨_, rfl, ca, CC, cx, _, _, rfl, hC1.ob, TC.cl, TC.nU, rfl, (p : Int), a2, es2, rfl, rfl, K2, _, rfl, ?_⟩
          by_cases z : RR.getD p [] = []
          · refine iteN (by rw [(t2 p hp).1 z]; decide) ?_
            have hre : row = [] := Classical.byContradiction fun y => hrw y z
            have := k H1 s1
            rw [hre, fit_nil0] at this
            exact this
          · obtain ⟨u, v, e, r, hrow⟩ := (t2 p hp).2 z
            obtain ⟨tm, e3⟩ := t3 p hp z
            refine iteP (by rw [e]; rfl) ?_
            refine ⟨_, rfl, ca, CC, cx, _, _, rfl, hC1.ob, TC.cl, TC.nR, rfl, _, rfl, ca, CC, cx, _, _, rfl, hC1.ob, TC.cl, TC.nU, rfl, (p : Int), a3, es3, _, .int (RM.getD p 0), rfl, rfl, K3, e3, ⟨_, rfl⟩, ?_⟩
            refine ⟨_, rfl, ca, CC, cx, _, _, rfl, hC1.ob, TC.cl, TC.nU, rfl, (p : Int), a2, es2, u, v, rfl, rfl, K2, e, r, r1, row, _, _, _, rfl, SqL.of hC1.ro, hrow, hrw, fun H2 s2 => k H2 (s1.trans s2)⟩
      · refine iteN (int_ne (by omega)) ?_
        refine iteN (by decide) ?_
        have hh : homeOk p nums = true := by
          unfold homeOk
          rw [decide_eq_false z11, Bool.false_and]
          rfl
        rw [hh, Bool.true_and] at k
        refine ⟨_, rfl, ca, CC, cx, _, _, rfl, hC1.ob, TC.cl, TC.nU, rfl, (p : Int), a2, es2, rfl, rfl, K2, _, rfl, ?_⟩
        by_cases z : RR.getD p [] = []
        · refine iteN (by rw [(t2 p hp).1 z]; decide) ?_
          have hre : row = [] := Classical.byContradiction fun y => hrw y z
          have := k H1 s1
          rw [hre, fit_nil0] at this
          exact this
        · obtain ⟨u, v, e, r, hrow⟩ := (t2 p hp).2 z
          obtain ⟨tm, e3⟩ := t3 p hp z
          refine iteP (by rw [e]; rfl) ?_
          refine ⟨_, rfl, ca, CC, cx, _, _, rfl, hC1.ob, TC.cl, TC.nR, rfl, _, rfl, ca, CC, cx, _, _, rfl, hC1.ob, TC.cl, TC.nU, rfl, (p : Int), a3, es3, _, .int (RM.getD p 0), rfl, rfl, K3, e3, ⟨_, rfl⟩, ?_⟩
          refine ⟨_, rfl, ca, CC, cx, _, _, rfl, hC1.ob, TC.cl, TC.nU, rfl, (p : Int), a2, es2, u, v, rfl, rfl, K2, e, r, r1, row, _, _, _, rfl, SqL.of hC1.ro, hrow, hrw, fun H2 s2 => k H2 (s1.trans s2)⟩
end
end Rw

set_option Elab.async false
set_option linter.all false
set_option maxRecDepth 100000
set_option maxHeartbeats 2000000
namespace Rw
open PySem PySem.Spec PyProof.Rows L2
open Vbcsag (Street Map)
def TabOk (NR RR : List Rg) : Prop := ∀ (z : Int) (n k : Nat), PyVbcsag.shape z = some (n, k) → ∃ p : Nat, z = (p : Int) ∧ p < NR.length ∧ (NR.getD p []).length = n ∧ ((k = 0 ∧ RR.getD p [] = []) ∨ (k = 1 ∧ RR.getD p [] ≠ []))
def RawIs (c : List (List Int)) (p : Nat) (nums row : List Int) : Prop := ∃ n k, PyVbcsag.shape (p : Int) = some (n, k) ∧ nums.length = n ∧ ((k = 0 ∧ c = [(p : Int) :: nums] ∧ row = []) ∨ (k = 1 ∧ c = [(p : Int) :: nums, row]))
structure CallsAt (CC : Addr) (F : Addr → Prop) (H : Hp) (l : Addr) (cas : List Addr) (raw : List (List (List Int))) : Prop where
  lst : H l = some (.lst (cas.map V.ref))
  len : cas.length = raw.length
  at_ : ∀ (i : Nat) (a : Addr) (c : List (List Int)), cas[i]? = some a → raw[i]? = some c → ∃ (dx n1 r1 : Addr) (p : Nat) (nums row : List Int), CallAt CC H a dx n1 r1 p nums row ∧ RawIs c p nums row ∧ F a ∧ F n1 ∧ F r1
theorem CallsAt.same {CC : Addr} {F : Addr → Prop} {H H' : Hp} {l : Addr} {cas : List Addr} {raw : List (List (List Int))} (h : CallsAt CC F H l cas raw) (s : Same H H') : CallsAt CC F H' l cas raw :=
  ⟨s _ _ h.lst, h.len, fun i a c h1 h2 => by
    obtain ⟨dx, n1, r1, p, nums, row, hC, hR, hF⟩ := h.at_ i a c h1 h2
    exact ⟨dx, n1, r1, p, nums, row, hC.same s, hR, hF⟩⟩
theorem cut_mid (xs : List V) {i j : Nat} (h : i ≤ j) (hj : j ≤ xs.length) : cutV xs (some (i : Int)) (some (j : Int)) = (xs.drop i).take (j - i) := by
  unfold cutV
  rw [HT.sIx_nat, HT.sIx_nat, Nat.min_eq_left (Nat.le_trans h hj), Nat.min_eq_left hj]
/-- one call read off: what stands where -/
structure Turn1 (ns : List Int) (at_ : Nat) (c : List (List Int)) (t : List Int) (p n : Nat) : Prop where
  num : ns[at_]? = some (p : Int)
  fits : at_ + 1 + n ≤ ns.length
  way : (PyVbcsag.shape (p : Int) = some (n, 0) ∧ c = [(p : Int) :: ((ns.drop (at_ + 1)).take n)] ∧ t = ns.drop (at_ + 1 + n)) ∨
    (PyVbcsag.shape (p : Int) = some (n, 1) ∧ ∃ q : Nat, ns[at_ + 1 + n]? = some (q : Int) ∧ at_ + 1 + n + 1 + q ≤ ns.length ∧ c = [(p : Int) :: ((ns.drop (at_ + 1)).take n), (ns.drop (at_ + 1 + n + 1)).take q] ∧ t = ns.drop (at_ + 1 + n + 1 + q))
theorem turn1 {NR RR : List Rg} (TK : TabOk NR RR) {ns : List Int} {at_ : Nat} (h : at_ < ns.length) {c : List (List Int)} {t : List Int} (hc : PyFlat.call PyVbcsag.shape (ns.drop at_) = some (c, t)) : ∃ p n, Turn1 ns at_ c t p n := by
  have hd : ns.drop at_ = ns[at_] :: ns.drop (at_ + 1) := List.drop_eq_getElem_cons h
  rw [hd] at hc
  unfold PyFlat.call at hc
  cases hs : PyVbcsag.shape ns[at_] with
  | none => simp only [hs] at hc; cases hc
  | some nk =>
    obtain ⟨n, k⟩ := nk
    simp only [hs] at hc
    obtain ⟨p, hp, _, _, hk⟩ := TK _ _ _ hs
    by_cases hl : (ns.drop (at_ + 1)).length < n
    · rw [if_pos hl] at hc
      cases hc
    · rw [if_neg hl] at hc
      rw [List.length_drop] at hl
      have hnum : ns[at_]? = some (p : Int) := by rw [List.getElem?_eq_getElem h, hp]
      rw [hp] at hs hc
      refine ⟨p, n, hnum, by omega, ?_⟩
      rcases hk with ⟨rfl, _⟩ | ⟨rfl, _⟩
      · left
        have hc : some ([(p : Int) :: (ns.drop (at_ + 1)).take n], (ns.drop (at_ + 1)).drop n) = some (c, t) := hc
        have hc := Option.some.inj hc
        have e1 : [(p : Int) :: (ns.drop (at_ + 1)).take n] = c := congrArg Prod.fst hc
        have e2 : (ns.drop (at_ + 1)).drop n = t := congrArg Prod.snd hc
        refine ⟨hs, e1.symm, ?_⟩
        rw [← e2]
        show (ns.drop (at_ + 1)).drop n = _
        rw [List.drop_drop]
      · right
        rw [List.drop_drop] at hc
        have e0 : at_ + 1 + n = at_ + 1 + n := rfl
        unfold PyFlat.rows at hc
        cases hr : PyFlat.row (ns.drop (at_ + 1 + n)) with
        | none => simp only [hr] at hc; cases hc
        | some xs =>
          obtain ⟨x, s⟩ := xs
          simp only [hr] at hc
          have hc : some ([(p : Int) :: (ns.drop (at_ + 1)).take n, x], s) = some (c, t) := hc
          have hc := Option.some.inj hc
          have e1 : [(p : Int) :: (ns.drop (at_ + 1)).take n, x] = c := congrArg Prod.fst hc
          have e2 : s = t := congrArg Prod.snd hc
          by_cases hb : at_ + 1 + n < ns.length
          · have hd2 : ns.drop (at_ + 1 + n) = ns[at_ + 1 + n] :: ns.drop (at_ + 1 + n + 1) := List.drop_eq_getElem_cons hb
            rw [hd2] at hr
            have hr : (if 0 ≤ ns[at_ + 1 + n] ∧ ns[at_ + 1 + n].toNat ≤ (ns.drop (at_ + 1 + n + 1)).length then some ((ns.drop (at_ + 1 + n + 1)).take ns[at_ + 1 + n].toNat, (ns.drop (at_ + 1 + n + 1)).drop ns[at_ + 1 + n].toNat) else none) = some (x, s) := hr
            by_cases hq : 0 ≤ ns[at_ + 1 + n] ∧ ns[at_ + 1 + n].toNat ≤ (ns.drop (at_ + 1 + n + 1)).length
            · rw [if_pos hq] at hr
              have hr := Option.some.inj hr
              have x1 : (ns.drop (at_ + 1 + n + 1)).take ns[at_ + 1 + n].toNat = x := congrArg Prod.fst hr
              have x2 : (ns.drop (at_ + 1 + n + 1)).drop ns[at_ + 1 + n].toNat = s := congrArg Prod.snd hr
              have hq2 := hq.2
              rw [List.length_drop] at hq2
              refine ⟨hs, ns[at_ + 1 + n].toNat, ?_, by omega, ?_, ?_⟩
              · rw [List.getElem?_eq_getElem hb, Int.toNat_of_nonneg hq.1]
              · rw [← e1, ← x1]
              · rw [← e2, ← x2]
                show (ns.drop (at_ + 1 + n + 1)).drop _ = _
                rw [List.drop_drop]
            · rw [if_neg hq] at hr
              cases hr
          · rw [List.drop_of_length_le (by omega)] at hr
            cases hr
def mu7 (L : Nat) : L2.St → Nat
  | [_, _, some (.int a), _, _, _, _] => L - a.toNat
  | _ => 0
section
variable {P : Program} {w : World} {K : PySem.W.Frag} {mg : Str → Option Value} {base : Heap} {C CD CC : Addr}
/-- calls with all their objects apart from the list itself -/
structure CallsM (CC : Addr) (F : Addr → Prop) (H : Hp) (l : Addr) (cas : List Addr) (raw : List (List (List Int))) : Prop where
  lst : H l = some (.lst (cas.map V.ref))
  len : cas.length = raw.length
  at_ : ∀ (i : Nat) (a : Addr) (c : List (List Int)), cas[i]? = some a → raw[i]? = some c → ∃ (dx n1 r1 : Addr) (p : Nat) (nums row : List Int), CallAt CC H a dx n1 r1 p nums row ∧ RawIs c p nums row ∧ (F a ∧ F n1 ∧ F r1) ∧ n1 ≠ l ∧ r1 ≠ l
theorem CallsM.calls {F : Addr → Prop} {H : Hp} {l : Addr} {cas : List Addr} {raw : List (List (List Int))} (h : CallsM CC F H l cas raw) : CallsAt CC F H l cas raw := ⟨h.lst, h.len, fun i a c h1 h2 => by
  obtain ⟨dx, n1, r1, p, nums, row, hC, hR, hF, _⟩ := h.at_ i a c h1 h2
  exact ⟨dx, n1, r1, p, nums, row, hC, hR, hF⟩⟩
theorem CallsM.same {F : Addr → Prop} {H H' : Hp} {l : Addr} {cas : List Addr} {raw : List (List (List Int))} (h : CallsM CC F H l cas raw) (s : Same H H') : CallsM CC F H' l cas raw := ⟨s _ _ h.lst, h.len, fun i a c h1 h2 => by
  obtain ⟨dx, n1, r1, p, nums, row, hC, hR, hF, h3, h4⟩ := h.at_ i a c h1 h2
  exact ⟨dx, n1, r1, p, nums, row, hC.same s, hR, hF, h3, h4⟩⟩
theorem CallsM.push {F : Addr → Prop} {H : Hp} {l x dx n1 r1 : Addr} {cas : List Addr} {raw : List (List (List Int))} {c : List (List Int)} {p : Nat} {nums row : List Int} (h : CallsM CC F H l cas raw) (hC : CallAt CC H x dx n1 r1 p nums row) (hR : RawIs c p nums row) (hF : F x ∧ F n1 ∧ F r1) (n1l : n1 ≠ l) (r1l : r1 ≠ l) :
    CallsM CC F (upd H l (.lst (cas.map V.ref ++ [.ref x]))) l (cas ++ [x]) (raw ++ [c]) := by
  have keep : ∀ {a dx n1 r1 : Addr} {p : Nat} {nums row : List Int}, CallAt CC H a dx n1 r1 p nums row → n1 ≠ l → r1 ≠ l → CallAt CC (upd H l (.lst (cas.map V.ref ++ [.ref x]))) a dx n1 r1 p nums row := fun hC h3 h4 =>
    ⟨by rw [upd_ne (ne_of hC.ob h.lst (by intro z; cases z))]; exact hC.ob, by rw [upd_ne h3]; exact hC.nu, by rw [upd_ne h4]; exact hC.ro⟩
  refine ⟨?_, ?_, fun i a u h1 h2 => ?_⟩
  · rw [upd_same, List.map_append]
    rfl
  · rw [List.length_append, List.length_append, h.len]
    rfl
  · by_cases hi : i < cas.length
    · rw [List.getElem?_append_left hi] at h1
      rw [List.getElem?_append_left (by rw [← h.len]; exact hi)] at h2
      obtain ⟨dx, n1, r1, p, nums, row, hC, hR, hF, h3, h4⟩ := h.at_ i a u h1 h2
      exact ⟨dx, n1, r1, p, nums, row, keep hC h3 h4, hR, hF, h3, h4⟩
    · rw [List.getElem?_append_right (by omega)] at h1
      rw [List.getElem?_append_right (by rw [← h.len]; omega), ← h.len] at h2
      cases hz : i - cas.length with
      | zero =>
        rw [hz] at h1 h2
        have e1 : x = a := Option.some.inj h1
        have e2 : c = u := Option.some.inj h2
        subst e1 e2
        exact ⟨dx, n1, r1, p, nums, row, keep hC n1l r1l, hR, hF, n1l, r1l⟩
      | succ z =>
        rw [hz] at h1
        cases h1
def spRead (K : PySem.W.Frag) (CC : Addr) : Sp := fun vs H Q _ => ∃ (r : Addr) (ns : List Int) (f : Nat) (raw : List (List (List Int))), vs = [.ref r] ∧ SqL K H r (ns.map V.int) ∧ PyFlat.calls PyVbcsag.shape f ns = some raw ∧ raw.length ≤ 900 ∧
  ∀ H' p cas, Same H H' → H p = none → CallsAt CC (fun b => H b = none) H' p cas raw → Q (.ref p) H'
theorem df_read_calls {NR RR : List Rg} {RM : List Int} (TB : Tabs K mg NR RR RM) (TK : TabOk NR RR) (D : Dn K mg "read_calls" s_read_calls ["calls"]) (M : Mc P w K mg base "Call" CC ["self", "number", "numbers", "row"] 1 (spInitC CC)) (gl : mg "len" = none) : Df P w K mg base "read_calls" ["calls"] 3 (spRead K CC) := by
  refine D.df sc_read_calls (fun vs H Q E h => ?_) (fun f cdv A outer s H vs Q E hr h => ?_)
  · obtain ⟨r, ns, fu, raw, rfl, _⟩ := h
    rfl
  · obtain ⟨r, ns, fu, raw, rfl, hq, hcalls, hraw, k⟩ := h
    have nd := sc_read_calls.nd
    obtain ⟨a1, g1, t1⟩ := TB.nr
    obtain ⟨a2, es2, g2, K2, t2⟩ := TB.rr
    have hnl : (ns.map V.int).length = ns.length := List.length_map ..
    refine ⟨_, pss_cons (ps_set (i := 1) nd rfl (.inl rfl) (pe_lst pa_nil))
      (pss_cons (ps_set (i := 2) nd rfl (.inl rfl) pe_int)
      (pss_cons (ps_while PassesOwn.never (pt_cmpR op_lt (pv 2) (pe_callB call_len_seq (by rfl) gl PySem.boot_len (pa_cons (pv 0) pa_nil)) (nomark _))
        (pss_cons (ps_set (i := 3) nd rfl (.inl rfl) (pe_ix ix_list (pv 0) (pv 2) (fun _ _ => rfl)))
        (pss_cons (ps_set (i := 4) nd rfl (.inl rfl) (pe_op op_addN (pe_op op_addN (pv 2) pe_int) (pe_callB call_len_seq (by rfl) gl PySem.boot_len (pa_cons (pe_ix ix_tup (pe_glob (v := .ref a1) rfl g1 rfl) (pv 3) (fun _ _ => rfl)) pa_nil))))
        (pss_cons (ps_set (i := 5) nd rfl (.inl rfl) (pe_slice sl_list (pv 0) (po_some (pe_op op_addN (pv 2) pe_int)) (po_some (pv 4))))
        (pss_cons (ps_set (i := 6) nd rfl (.inl rfl) (pe_lst pa_nil))
        (pss_cons (ps_set (i := 2) nd rfl (.inl rfl) (pv 4))
        (pss_cons (ps_if (pt_cmpR op_in_ki (pv 3) (pe_glob (v := .ref a2) rfl g2 rfl) (by with_unfolding_all rfl))
          (pss_cons (ps_set (i := 2) nd rfl (.inl rfl) (pe_op op_addN (pe_op op_addN (pv 4) pe_int) (pe_ix ix_list (pv 0) (pv 4) (fun _ _ => rfl))))
          (pss_one (ps_set (i := 6) nd rfl (.inl rfl) (pe_slice sl_list (pv 0) (po_some (pe_op op_addN (pv 4) pe_int)) (po_some (pv 2)))))) pss_nil)
        (pss_one (ps_expr (pe_bm PySem.F.plainAttrs_list PySem.F.slot_list_append PySem.F.type_list_append mt_append (pv 1) (pa_cons (pe_mc M hr (by rfl) (pa_cons (pv 3) (pa_cons (pv 5) (pa_cons (pv 6) pa_nil)))) pa_nil)))))))))))
      (pss_one (ps_ret (pv 1))))), ?_⟩
    refine ⟨Nat.zero_le _, fun tp ntp => ?_⟩
    refine while_by (fun σ H' => Same H H' ∧ ∃ (at_ f : Nat) (rest done : List (List (List Int))) (cas : List Addr) (v3 v4 v5 v6 : Option V), at_ ≤ ns.length ∧ PyFlat.calls PyVbcsag.shape f (ns.drop at_) = some rest ∧ done ++ rest = raw ∧ CallsM CC (fun b => H b = none) H' tp cas done ∧
      σ = [some (.ref r), some (.ref tp), some (vN at_), v3, v4, v5, v6]) (fun σ _ => mu7 ns.length σ) ⟨same_upd ntp, 0, fu, raw, [], [], none, none, none, none, Nat.zero_le _, hcalls, rfl, ⟨upd_same, rfl, by simp⟩, rfl⟩ ?_ ?_
    · rintro σ H1 ⟨s1, at_, f1, rest, done, cas, v3, v4, v5, v6, hat, hc1, hdone, hM, rfl⟩
      have hq1 := s1.seq hq
      refine ⟨_, rfl, _, rfl, r, _, rfl, .inl hq1, _, _, rfl, rfl, _, rfl, ?_⟩
      rw [hnl]
      by_cases z : at_ < ns.length
      · refine iteP (decide_eq_true (by omega)) ?_
        -- what is read
        have hd : ns.drop at_ = ns[at_] :: ns.drop (at_ + 1) := List.drop_eq_getElem_cons z
        obtain ⟨c, t, cs, f2, hcall, hrest, hcs⟩ : ∃ c t cs f2, PyFlat.call PyVbcsag.shape (ns.drop at_) = some (c, t) ∧ PyFlat.calls PyVbcsag.shape f2 t = some cs ∧ rest = c :: cs := by
          rw [hd] at hc1 ⊢
          cases f1 with
          | zero => cases hc1
          | succ f2 =>
            unfold PyFlat.calls at hc1
            cases hcl : PyFlat.call PyVbcsag.shape (ns[at_] :: ns.drop (at_ + 1)) with
            | none => simp only [hcl] at hc1; cases hc1
            | some ct =>
              obtain ⟨c, t⟩ := ct
              simp only [hcl] at hc1
              cases hcs : PyFlat.calls PyVbcsag.shape f2 t with
              | none => simp only [hcs] at hc1; cases hc1
              | some cs =>
                simp only [hcs] at hc1
                exact ⟨c, t, cs, f2, rfl, hcs, (Option.some.inj hc1).symm⟩
        subst hcs
        obtain ⟨p, n, T1⟩ := turn1 TK z hcall
        have hnum : (ns.map V.int)[at_]? = some (vN p) := by rw [List.getElem?_map, T1.num]; rfl
        have hsh : ∃ k, PyVbcsag.shape (p : Int) = some (n, k) := by
          rcases T1.way with ⟨h, _⟩ | ⟨h, _⟩
          · exact ⟨0, h⟩
          · exact ⟨1, h⟩
        obtain ⟨kk, hsh⟩ := hsh
        obtain ⟨p', hp', hpl, hpn, hpk⟩ := TK _ _ _ hsh
        obtain rfl : p = p' := by omega
        obtain ⟨vs1, w1, hv1, e1, hr1⟩ := t1.get hpl
        obtain ⟨ra, us, rfl, hra, hul, _⟩ := hr1
        have hfit := T1.fits
        refine ⟨_, rfl, _, rfl, r, _, _, _, rfl, rfl, hq1, atI_nat hnum, ?_⟩
        refine ⟨_, rfl, at_, 1, rfl, rfl, _, rfl, a1, _, _, _, rfl, rfl, hv1 _, atI_nat e1, ra, _, rfl, .inr (hra _), at_ + 1, n, rfl, ?_, ?_⟩
        · rw [hul, hpn]
        refine ⟨_, rfl, _, rfl, at_, 1, rfl, rfl, ((at_ + 1 : Nat) : Int), rfl, _, rfl, ((at_ + 1 + n : Nat) : Int), rfl, r, _, rfl, hq1, fun q1 n1 => ?_⟩
        have s2 := same_upd (o := .lst (cutV (ns.map V.int) (some ((at_ + 1 : Nat) : Int)) (some ((at_ + 1 + n : Nat) : Int)))) n1
        have hcut1 : cutV (ns.map V.int) (some ((at_ + 1 : Nat) : Int)) (some ((at_ + 1 + n : Nat) : Int)) = ((ns.drop (at_ + 1)).take n).map V.int := by
          rw [cut_mid _ (by omega) (by rw [hnl]; omega), List.map_take, List.map_drop]
          congr 1
          omega
        refine ⟨Nat.zero_le _, fun q2 n2 => ?_⟩
        have s3 := same_upd (o := .lst []) n2
        refine ⟨_, rfl, ?_⟩
        have s13 := s1.trans (s2.trans s3)
        have hq3 := s13.seq hq
        have hq1n : (upd (upd H1 q1 (.lst (cutV (ns.map V.int) (some ((at_ + 1 : Nat) : Int)) (some ((at_ + 1 + n : Nat) : Int))))) q2 (.lst [])) q1 = some (.lst (((ns.drop (at_ + 1)).take n).map V.int)) := s3 _ _ (by rw [upd_same, hcut1])
        have n1tp : q1 ≠ tp := (ne_of_none hM.lst n1).symm
        have n2tp : q2 ≠ tp := (ne_of_none (s2 _ _ hM.lst) n2).symm
        have hM3 := hM.same (s2.trans s3)
        have hdl : done.length + (cs.length + 1) = raw.length := by rw [← hdone, List.length_append, List.length_cons]
        have hnlen : ((ns.drop (at_ + 1)).take n).length = n := by rw [List.length_take, List.length_drop]; omega
        -- the call is made and appended
        have fin : ∀ (H4 H5 : Hp) (x dx rp : Addr) (row : List Int), Same H H4 → CallsM CC (fun b => H b = none) H4 tp cas done → H4 q1 = some (.lst (((ns.drop (at_ + 1)).take n).map V.int)) → H4 rp = some (.lst (row.map V.int)) → rp ≠ tp → RawIs c p ((ns.drop (at_ + 1)).take n) row → (H x = none ∧ H q1 = none ∧ H rp = none) →
            H5 x = some (.ins CC dx [("number", vN p), ("numbers", .ref q1), ("row", .ref rp)]) → Same H4 H5 → Same H (upd H5 tp (.lst (cas.map V.ref ++ [.ref x]))) ∧ CallsM CC (fun b => H b = none) (upd H5 tp (.lst (cas.map V.ref ++ [.ref x]))) tp (cas ++ [x]) (done ++ [c]) := fun H4 H5 x dx rp row s4 hM4 h1 h2 h3 hR hF hx s5 =>
          ⟨same_put ntp (s4.trans s5), (hM4.same s5).push ⟨hx, s5 _ _ h1, s5 _ _ h2⟩ hR hF n1tp h3⟩
        have hcasl : (cas.map V.ref).length ≤ 1000 := by rw [List.length_map, hM.len]; omega
        refine ⟨_, rfl, (p : Int), a2, es2, rfl, rfl, K2, _, rfl, ?_⟩
        rcases T1.way with ⟨hsh0, hc0, ht0⟩ | ⟨hsh1, q, hqv, hqf, hc0, ht0⟩
        · have hk0 : kk = 0 := by
            rw [hsh] at hsh0
            injection hsh0 with e
            injection e
          have hz2 : atKey es2 (p : Int) = none := by
            rcases hpk with ⟨_, e⟩ | ⟨e, _⟩
            · exact (t2 p hpl).1 e
            · omega
          refine iteN (by rw [hz2]; decide) ?_
          refine ⟨_, rfl, .inl ⟨rfl, _, SqL.of hM3.lst⟩, _, rfl, _, rfl, _, rfl, ?_⟩
          intro x dx nx ndx nex
          refine ⟨x, dx, _, _, _, rfl, upd_same, fun H5 hx5 k5 => ⟨rfl, ?_⟩⟩
          have s5 := made_same nx ndx k5
          refine ⟨tp, _, _, rfl, rfl, (hM3.same s5).lst, small1000 hcasl, ?_⟩
          obtain ⟨f1', f2'⟩ := fin _ H5 x dx q2 [] s13 hM3 hq1n upd_same n2tp ⟨n, 0, hsh0, hnlen, .inl ⟨rfl, hc0, rfl⟩⟩ ⟨none_back s13 nx, none_back s1 n1, none_back (s1.trans s2) n2⟩ hx5 s5
          refine ⟨⟨f1', at_ + 1 + n, f2, cs, done ++ [c], cas ++ [x], _, _, _, _, hfit, ht0 ▸ hrest, by rw [List.append_assoc]; exact hdone, f2', rfl⟩, ?_⟩
          show ns.length - ((at_ + 1 + n : Nat) : Int).toNat < ns.length - ((at_ : Nat) : Int).toNat
          omega
        · have hk1 : kk = 1 := by
            rw [hsh] at hsh1
            injection hsh1 with e
            injection e
          have hz2 : (atKey es2 (p : Int)).isSome = true := by
            rcases hpk with ⟨e, _⟩ | ⟨_, e⟩
            · omega
            · obtain ⟨u, v, h1, _⟩ := (t2 p hpl).2 e
              rw [h1]
              rfl
          refine iteP hz2 ?_
          have hqv2 : (ns.map V.int)[at_ + 1 + n]? = some (vN q) := by rw [List.getElem?_map, hqv]; rfl
          refine ⟨_, rfl, at_ + 1 + n, 1, rfl, rfl, _, rfl, _, rfl, r, _, _, _, rfl, rfl, hq3, atI_nat hqv2, at_ + 1 + n + 1, q, rfl, rfl, ?_⟩
          refine ⟨_, rfl, _, rfl, at_ + 1 + n, 1, rfl, rfl, ((at_ + 1 + n + 1 : Nat) : Int), rfl, _, rfl, ((at_ + 1 + n + 1 + q : Nat) : Int), rfl, r, _, rfl, hq3, fun q3 n3 => ?_⟩
          have s4 := same_upd (o := .lst (cutV (ns.map V.int) (some ((at_ + 1 + n + 1 : Nat) : Int)) (some ((at_ + 1 + n + 1 + q : Nat) : Int)))) n3
          have hcut3 : cutV (ns.map V.int) (some ((at_ + 1 + n + 1 : Nat) : Int)) (some ((at_ + 1 + n + 1 + q : Nat) : Int)) = ((ns.drop (at_ + 1 + n + 1)).take q).map V.int := by
            rw [cut_mid _ (by omega) (by rw [hnl]; omega), List.map_take, List.map_drop]
            congr 1
            omega
          have n3tp : q3 ≠ tp := (ne_of_none hM3.lst n3).symm
          have hM4 := hM3.same s4
          refine ⟨_, rfl, .inl ⟨rfl, _, SqL.of hM4.lst⟩, _, rfl, _, rfl, _, rfl, ?_⟩
          intro x dx nx ndx nex
          refine ⟨x, dx, _, _, _, rfl, upd_same, fun H5 hx5 k5 => ⟨rfl, ?_⟩⟩
          have s5 := made_same nx ndx k5
          refine ⟨tp, _, _, rfl, rfl, (hM4.same s5).lst, small1000 hcasl, ?_⟩
          obtain ⟨f1', f2'⟩ := fin _ H5 x dx q3 ((ns.drop (at_ + 1 + n + 1)).take q) (s13.trans s4) hM4 (s4 _ _ hq1n) (by rw [upd_same, hcut3]) n3tp ⟨n, 1, hsh1, hnlen, .inr ⟨rfl, hc0⟩⟩ ⟨none_back (s13.trans s4) nx, none_back s1 n1, none_back s13 n3⟩ hx5 s5
          refine ⟨⟨f1', at_ + 1 + n + 1 + q, f2, cs, done ++ [c], cas ++ [x], _, _, _, _, hqf, ht0 ▸ hrest, by rw [List.append_assoc]; exact hdone, f2', rfl⟩, ?_⟩
          show ns.length - ((at_ + 1 + n + 1 + q : Nat) : Int).toNat < ns.length - ((at_ : Nat) : Int).toNat
          omega
      · refine iteN (fun y => z (by have := of_decide_eq_true y; omega)) ?_
        have e : at_ = ns.length := by omega
        rw [e, List.drop_length] at hc1
        have hr : rest = [] := by
          cases f1 with
          | zero => exact (Option.some.inj hc1).symm
          | succ f2 => exact (Option.some.inj hc1).symm
        rw [hr, List.append_nil] at hdone
        subst hdone
        exact ⟨_, rfl, k H1 tp cas s1 ntp hM.calls⟩
    · rintro σ H2 Q1 Q2 hq ⟨v, e1, v2, e2, p, ys, e3, e4, i, j, e5, e6, k1, e7, q1⟩
      exact ⟨v, e1, v2, e2, p, ys, e3, e4, i, j, e5, e6, k1, e7, hq _ _ q1⟩
end
end Rw

set_option Elab.async false
set_option linter.all false
set_option maxRecDepth 100000
set_option maxHeartbeats 2000000
namespace Rw
open Vbcsag (Street Map)
/-! ### the ranges of the tables against the specification's own tests -/
theorem guarded_cons (s : Vbcsag.State) (x : Int) (b : Bool) (l : List (Int × Bool)) (k : Unit → Vbcsag.State × List Int) : Vbcsag.guarded s ((x, b) :: l) k = if b = true then (s, [x]) else Vbcsag.guarded s l k := by
  unfold Vbcsag.guarded
  rw [List.find?_cons]
  cases b <;> rfl
theorem guarded_nil (s : Vbcsag.State) (k : Unit → Vbcsag.State × List Int) : Vbcsag.guarded s [] k = k () := rfl
theorem inRg_inr (lo hi z : Int) : inRg (lo, hi) z = Vbcsag.inr z lo hi := rfl
theorem fit_nil (most : Int) (rg : Rg) : fitM [] most rg = true := rfl
theorem range_all_succ {n : Nat} {f : Nat → Bool} : (List.range (n + 1)).all f = (f 0 && (List.range n).all fun i => f (i + 1)) := by
  rw [List.range_succ_eq_map, List.all_cons, List.all_map]
  rfl
theorem fit_num1 (a : Int) (r : Int × Int) : fitM [a] (1 : Nat) [r] = Vbcsag.inr a r.1 r.2 := by
  show (false || ((decide ((1 : Int) ≤ 1) && decide (1 % 1 = 0)) && (List.range 1).all fun i => inRg ([r].getD (i % 1) (0, 0)) ([a].getD i 0))) = _
  simp [List.range_succ]
  rfl
theorem fit_num2 (a b : Int) (r s : Int × Int) : fitM [a, b] (2 : Nat) [r, s] = (Vbcsag.inr a r.1 r.2 && Vbcsag.inr b s.1 s.2) := by
  show (false || ((decide ((2 : Int) ≤ 2) && decide (2 % 2 = 0)) && (List.range 2).all fun i => inRg ([r, s].getD (i % 2) (0, 0)) ([a, b].getD i 0))) = _
  rw [range_all_succ, range_all_succ]
  simp
  rfl
theorem fit_num3 (a b c : Int) (r s t : Int × Int) : fitM [a, b, c] (3 : Nat) [r, s, t] = (Vbcsag.inr a r.1 r.2 && (Vbcsag.inr b s.1 s.2 && Vbcsag.inr c t.1 t.2)) := by
  show (false || ((decide ((3 : Int) ≤ 3) && decide (3 % 3 = 0)) && (List.range 3).all fun i => inRg ([r, s, t].getD (i % 3) (0, 0)) ([a, b, c].getD i 0))) = _
  rw [range_all_succ, range_all_succ, range_all_succ]
  simp
  rfl
theorem fit_num4 (a b c d : Int) (r s t u : Int × Int) : fitM [a, b, c, d] (4 : Nat) [r, s, t, u] = (Vbcsag.inr a r.1 r.2 && (Vbcsag.inr b s.1 s.2 && (Vbcsag.inr c t.1 t.2 && Vbcsag.inr d u.1 u.2))) := by
  show (false || ((decide ((4 : Int) ≤ 4) && decide (4 % 4 = 0)) && (List.range 4).all fun i => inRg ([r, s, t, u].getD (i % 4) (0, 0)) ([a, b, c, d].getD i 0))) = _
  rw [range_all_succ, range_all_succ, range_all_succ, range_all_succ]
  simp
  rfl
theorem fit_row1 (ns : List Int) (most : Nat) (r : Int × Int) : fitM ns (most : Int) [r] = (decide (ns.length ≤ most) && ns.all fun z => Vbcsag.inr z r.1 r.2) := by
  unfold fitM
  have e : ((List.range ns.length).all fun i => inRg ([r].getD (i % [r].length) (0, 0)) (ns.getD i 0)) = ns.all fun z => Vbcsag.inr z r.1 r.2 := by
    induction ns with
    | nil => rfl
    | cons z ns ih =>
      rw [List.length_cons, range_all_succ, List.all_cons, ← ih]
      congr 1
      congr 1
      funext i
      show inRg ([r].getD ((i + 1) % 1) (0, 0)) (ns.getD i 0) = inRg ([r].getD (i % 1) (0, 0)) (ns.getD i 0)
      rw [Nat.mod_one, Nat.mod_one]
  rw [e]
  cases ns with
  | nil => simp
  | cons z ns =>
    have e1 : ((z :: ns).length % [r].length) = 0 := Nat.mod_one _
    rw [decide_eq_true e1, Bool.and_true]
    have e2 : decide (((z :: ns).length : Int) ≤ (most : Int)) = decide ((z :: ns).length ≤ most) := by
      rw [decide_eq_decide]
      omega
    rw [e2]
    rfl
theorem fit_row2 (ns : List Int) (most : Nat) (r : Int × Int) : fitM ns (most : Int) [r, r] = (decide (ns.length ≤ most) && (ns.length % 2 == 0 && ns.all fun z => Vbcsag.inr z r.1 r.2)) := by
  unfold fitM
  have e : ((List.range ns.length).all fun i => inRg ([r, r].getD (i % [r, r].length) (0, 0)) (ns.getD i 0)) = ns.all fun z => Vbcsag.inr z r.1 r.2 := by
    have h : ∀ i : Nat, ([r, r] : Rg).getD (i % 2) (0, 0) = r := fun i => by
      rcases Nat.mod_two_eq_zero_or_one i with h | h <;> rw [h] <;> rfl
    have h2 : (fun i => inRg ([r, r].getD (i % [r, r].length) (0, 0)) (ns.getD i 0)) = fun i => inRg r (ns.getD i 0) := by
      funext i
      show inRg (([r, r] : Rg).getD (i % 2) (0, 0)) _ = _
      rw [h]
    rw [h2]
    clear h2
    induction ns with
    | nil => rfl
    | cons z ns ih =>
      rw [List.length_cons, range_all_succ, List.all_cons, ← ih]
      rfl
  rw [e]
  cases ns with
  | nil => simp
  | cons z ns =>
    have e2 : decide (((z :: ns).length : Int) ≤ (most : Int)) = decide ((z :: ns).length ≤ most) := by
      rw [decide_eq_decide]
      omega
    have e3 : decide ((z :: ns).length % [r, r].length = 0) = ((z :: ns).length % 2 == 0) := by
      rw [Bool.eq_iff_iff, decide_eq_true_eq, beq_iff_eq]
      exact Iff.rfl
    rw [e2, e3, Bool.and_assoc]
    rfl
def rg4 : Rg := [(0, 6), (0, 6), (1, 1000), (1, 3)]
theorem streets_in : ∀ ns : List Int, (Vbcsag.streetsIn ns).isSome = (decide (ns.length % 4 = 0) && (List.range ns.length).all fun i => inRg (rg4.getD (i % 4) (0, 0)) (ns.getD i 0))
  | [] => rfl
  | [_] => rfl
  | [_, _] => rfl
  | [_, _, _] => rfl
  | a :: b :: l :: k :: r => by
    have ih := streets_in r
    have e1 : (a :: b :: l :: k :: r).length = r.length + 1 + 1 + 1 + 1 := rfl
    have e2 : (r.length + 1 + 1 + 1 + 1) % 4 = r.length % 4 := by omega
    rw [e1, e2, range_all_succ, range_all_succ, range_all_succ, range_all_succ]
    have e3 : (fun i => inRg (rg4.getD ((i + 1 + 1 + 1 + 1) % 4) (0, 0)) ((a :: b :: l :: k :: r).getD (i + 1 + 1 + 1 + 1) 0)) = fun i => inRg (rg4.getD (i % 4) (0, 0)) (r.getD i 0) := by
      funext i
      have : (i + 1 + 1 + 1 + 1) % 4 = i % 4 := by omega
      rw [this]
      rfl
    rw [e3]
    show (Vbcsag.streetsIn (a :: b :: l :: k :: r)).isSome = (decide (r.length % 4 = 0) && (Vbcsag.inr a 0 6 && (Vbcsag.inr b 0 6 && (Vbcsag.inr l 1 1000 && (Vbcsag.inr k 1 3 && _)))))
    unfold Vbcsag.streetsIn
    cases h : (Vbcsag.inr a 0 6 && (Vbcsag.inr b 0 6 && (Vbcsag.inr l 1 1000 && Vbcsag.inr k 1 3))) with
    | true =>
      rw [if_pos rfl, Option.isSome_map, ih]
      simp only [Bool.and_eq_true] at h
      rw [h.1, h.2.1, h.2.2.1, h.2.2.2]
      simp
    | false =>
      rw [if_neg (by decide)]
      have : (Vbcsag.inr a 0 6 && (Vbcsag.inr b 0 6 && (Vbcsag.inr l 1 1000 && (Vbcsag.inr k 1 3 && ((List.range r.length).all fun i => inRg (rg4.getD (i % 4) (0, 0)) (r.getD i 0)))))) = false := by
        rw [← Bool.and_assoc, ← Bool.and_assoc, ← Bool.and_assoc]
        rw [← Bool.and_assoc, ← Bool.and_assoc] at h
        rw [h, Bool.false_and]
      rw [this, Bool.and_false]
      rfl
theorem fit_row4 (ns : List Int) (most : Nat) : fitM ns (most : Int) rg4 = (decide (ns.length ≤ most) && (Vbcsag.streetsIn ns).isSome) := by
  rw [streets_in]
  unfold fitM
  cases ns with
  | nil => simp
  | cons z ns =>
    have e2 : decide (((z :: ns).length : Int) ≤ (most : Int)) = decide ((z :: ns).length ≤ most) := by
      rw [decide_eq_decide]
      omega
    rw [e2, Bool.and_assoc]
    rfl
theorem streetsIn_strL : ∀ {ns : List Int} {q : List Street}, Vbcsag.streetsIn ns = some q → q = strL ns ∧ (∀ z ∈ ns, 0 ≤ z) ∧ (∀ s ∈ q, (s.a ≤ 6 ∧ s.b ≤ 6) ∧ (1 ≤ s.long ∧ s.long ≤ 1000) ∧ (1 ≤ s.need ∧ s.need ≤ 3)) ∧ ns.length % 4 = 0
  | [], q, h => by
    have e : [] = q := Option.some.inj h
    subst e
    exact ⟨rfl, by simp, by simp, rfl⟩
  | [_], q, h => by cases h
  | [_, _], q, h => by cases h
  | [_, _, _], q, h => by cases h
  | a :: b :: l :: k :: r, q, h => by
    unfold Vbcsag.streetsIn at h
    split at h
    · rename_i hc
      obtain ⟨q1, h1, rfl⟩ := Option.map_eq_some_iff.mp h
      obtain ⟨i1, i2, i3, i4⟩ := streetsIn_strL h1
      simp only [Vbcsag.inr, Bool.and_eq_true, decide_eq_true_eq] at hc
      refine ⟨by rw [i1]; rfl, fun z hz => ?_, fun s hs => ?_, ?_⟩
      · simp only [List.mem_cons] at hz
        rcases hz with e | e | e | e | e
        · omega
        · omega
        · omega
        · omega
        · exact i2 z e
      · rcases List.mem_cons.mp hs with e | e
        · rw [e]
          dsimp only
          omega
        · exact i3 s e
      · show (r.length + 1 + 1 + 1 + 1) % 4 = 0
        omega
    · cases h
/-! ### what the told walk passes, and how long it is -/
def posM (ss : List Street) : Nat → List Nat → List Nat
  | _, [] => []
  | p, i :: l => Mi.behind (ss.getD i Vbcsag.street0) p :: posM ss (Mi.behind (ss.getD i Vbcsag.street0) p) l
theorem posM_len (ss : List Street) : ∀ (l : List Nat) (p : Nat), (posM ss p l).length = l.length
  | [], _ => rfl
  | i :: l, p => by
    unfold posM
    rw [List.length_cons, List.length_cons, posM_len ss l]
theorem trail_walk (m : Map) : ∀ (k : Nat) (ts : List Nat) (p : Nat), Vbcsag.trail m p (Mi.walkM m.streets k ts p) = some (posM m.streets p (Mi.walkM m.streets k ts p))
  | 0, _, _ => rfl
  | k + 1, ts, p => by
    unfold Mi.walkM
    cases hf : Mi.firstP m.streets ts p with
    | none => rfl
    | some i =>
      have hg := List.find?_some hf
      have hi : i < m.streets.length := List.mem_range.mp (List.mem_of_find?_eq_some hf)
      have hat := ((Mi.goodAt_at hi).mp hg).1
      show Vbcsag.trail m p (i :: _) = some (Mi.behind (m.streets.getD i Vbcsag.street0) p :: posM m.streets _ _)
      unfold Vbcsag.trail
      rw [Mi.getD_lt hi Vbcsag.street0]
      show (match Vbcsag.other (m.streets.getD i Vbcsag.street0) p with
        | none => none
        | some q => (Vbcsag.trail m q _).map fun r => q :: r) = _
      rw [Mi.other_at, if_pos (Mi.ends_at.mpr hat.2.2)]
      show (Vbcsag.trail m (Mi.behind (m.streets.getD i Vbcsag.street0) p) _).map _ = _
      rw [trail_walk m k]
      rfl
def wsum (l : List Street) (ts : List Nat) : Nat := ((l.zip ts).map fun x => x.1.long * x.2).sum
theorem wsum_dec : ∀ {l : List Street} {ts : List Nat} {i : Nat} {s : Street}, l[i]? = some s → 0 < ts.getD i 0 → wsum l (Mi.dec ts i) + s.long = wsum l ts
  | s :: l, [], i, r, h, hp => by simp at hp
  | s :: l, t :: ts, 0, r, h, hp => by
    have e : s = r := Option.some.inj h
    subst e
    have hp' : 0 < t := hp
    show ((s.long * (t - 1)) :: _).sum + s.long = ((s.long * t) :: _).sum
    rw [List.sum_cons, List.sum_cons]
    have : s.long * t = s.long * (t - 1) + s.long := by
      have e : t = (t - 1) + 1 := by omega
      rw [e, Nat.mul_add, Nat.mul_one]
      simp
    omega
  | s :: l, t :: ts, i + 1, r, h, hp => by
    have ih := wsum_dec (l := l) (ts := ts) (i := i) h hp
    show ((s.long * t) :: _).sum + r.long = ((s.long * t) :: _).sum
    rw [List.sum_cons, List.sum_cons]
    unfold wsum at ih
    have ih : ((l.zip (Mi.dec ts i)).map fun x => x.1.long * x.2).sum + r.long = ((l.zip ts).map fun x => x.1.long * x.2).sum := ih
    show s.long * t + ((l.zip (Mi.dec ts i)).map fun x => x.1.long * x.2).sum + r.long = s.long * t + ((l.zip ts).map fun x => x.1.long * x.2).sum
    omega
theorem wsum_zero : ∀ (l : List Street) (ts : List Nat), ts.sum = 0 → wsum l ts = 0
  | [], _, _ => rfl
  | s :: l, [], _ => rfl
  | s :: l, t :: ts, h => by
    rw [List.sum_cons] at h
    have ih := wsum_zero l ts (by omega)
    have ht : t = 0 := by omega
    show ((s.long * t) :: _).sum = 0
    rw [List.sum_cons, ht, Nat.mul_zero, Nat.zero_add]
    exact ih
theorem walk_sum {l : List Street} {q : Nat} (w : Mi.WS 7 l) (q7 : q < 7) : ∀ (k : Nat) {ts : List Nat} {p : Nat}, Mi.Inv l q ts p → ts.sum = k → ((Mi.walkM l k ts p).map fun i => (l.getD i Vbcsag.street0).long).sum = wsum l ts
  | 0, ts, p, I, h => by
    rw [wsum_zero l ts h]
    rfl
  | k + 1, ts, p, I, h => by
    obtain ⟨i, hf, hi, hat, hcan⟩ := Mi.first_there w q7 I (by omega)
    have hd := Mi.sum_dec hat.2.1
    have ih := walk_sum w q7 k (Mi.inv_next w q7 I hat hcan) (by omega)
    have hw := wsum_dec (Mi.getD_lt hi Vbcsag.street0) hat.2.1
    unfold Mi.walkM
    rw [hf]
    show (((l.getD i Vbcsag.street0).long) :: _).sum = _
    rw [List.sum_cons]
    omega
theorem wsum_use : ∀ (l : List Street) (x : List Bool), x.length = l.length → wsum l (Mi.useL l x) = (l.map fun s => s.long * s.need).sum + ((l.zip x).map fun y => if y.2 = true then y.1.long else 0).sum
  | [], [], _ => rfl
  | s :: l, y :: x, h => by
    have ih := wsum_use l x (Nat.succ.inj h)
    show ((s.long * (s.need + (if y = true then 1 else 0))) :: _).sum = ((s.long * s.need) :: _).sum + ((if y = true then s.long else 0) :: ((l.zip x).map fun y => if y.2 = true then y.1.long else 0)).sum
    rw [List.sum_cons, List.sum_cons, List.sum_cons]
    unfold wsum at ih
    have ih : ((l.zip (Mi.useL l x)).map fun x => x.1.long * x.2).sum = (l.map fun s => s.long * s.need).sum + ((l.zip x).map fun y => if y.2 = true then y.1.long else 0).sum := ih
    show _ + ((l.zip (Mi.useL l x)).map fun x => x.1.long * x.2).sum = _
    rw [ih, Nat.mul_add]
    cases y with
    | true =>
      rw [if_pos rfl, if_pos rfl, Nat.mul_one]
      omega
    | false =>
      rw [if_neg (by decide), if_neg (by decide), Nat.mul_zero]
      omega
theorem total_walk {m : Map} (wm : Mi.WM m) {q : Nat} (hq : q < m.n) : Vbcsag.walked m (Vbcsag.walk m q) = Vbcsag.sum (m.streets.map fun x => x.long * x.need) + Vbcsag.longOf m.streets (Vbcsag.extra m) := by
  have h7 := wm.n7
  rw [Mi.walked_eq, Mi.walk_eq wm hq, walk_sum wm.ws7 (by omega) _ (Mi.inv_start wm hq) rfl]
  have h := wsum_use m.streets (Vbcsag.extra m) (Mi.extra_len m)
  unfold Vbcsag.longOf
  rw [Mi.vsum_eq, Mi.vsum_eq]
  exact h
end Rw

set_option Elab.async false
set_option linter.all false
set_option maxRecDepth 100000
set_option maxHeartbeats 2000000
namespace Rw
open PySem PySem.Spec PyProof.Rows L2
open Vbcsag (Street Map)
/-! ### what the top has written, read off K -/
theorem dn_mk {K : PySem.W.Frag} {mg : Str → Option Value} {h : Heap} {x : Str} {st : Stmt} {ps : List Str} {f : Addr} {oc kV dc pm cd ct : Value} {od an : Option Addr} {sl : Array (Option Value)} (X : K.In h) (G : h.Ns mainGlobals mg)
    (a : PySem.W.nsIn K mainGlobals x = some (some (.ref f))) (l : K.lookup f = some ⟨oc, od, .func (PySem.W.fnOf x x (defArgs st) (defBody st) (defScope st) .none kV dc pm an cd ct), sl⟩) (c : PySem.W.codeIn K cd x = true) (k : PySem.W.keepIn K (.ref f) = true)
    (hb : ∀ (kV doc pm : Value) (an : Option Addr) (cdv ct : Value) (us : List Value), us.length = ps.length → bindArgs (PySem.W.fnOf x x (defArgs st) (defBody st) (defScope st) .none kV doc pm an cdv ct) ⟨us, []⟩ = pure (ps.zip us)) : Dn K mg x st ps := by
  have F := fun_mk (st := st) l c k
  exact ⟨f, _, F, F.binds hb, PySem.W.mg_of X G a⟩
/-- a class with its __init__ -/
structure ClsK (K : PySem.W.Frag) (mg : Str → Option Value) (x qual : Str) (C : Addr) (st : Stmt) (ps : List Str) : Prop where
  g : mg x = some (.ref C)
  cl : Cls K C
  fn : ∃ (f : Addr) (fd : FuncData), Mk K C f ∧ Fun K "__init__" qual st f fd ∧ Binds K fd ps []
theorem cls_mk {K : PySem.W.Frag} {mg : Str → Option Value} {h : Heap} {x qual : Str} {st : Stmt} {ps : List Str} {C f : Addr} {oc kV dc pm cd ct : Value} {od an : Option Addr} {sl : Array (Option Value)} (X : K.In h) (G : h.Ns mainGlobals mg)
    (aC : PySem.W.nsIn K mainGlobals x = some (some (.ref C))) (pg : PySem.W.plainGet K C Str.empty = true) (hd : PySem.W.hasDictIn K C = true) (po : PySem.W.plainOver K C = true) (sa : PySem.W.findIn K (.ref C) "__setattr__" = some (some (.builtin "object.__setattr__")))
    (mk : PySem.W.makesIn K C = true) (a : PySem.W.findIn K (.ref C) "__init__" = some (some (.ref f))) (i : PySem.W.isFn K (.ref f) = true) (kc : PySem.W.keepIn K (.ref C) = true)
    (l : K.lookup f = some ⟨oc, od, .func (PySem.W.fnOf "__init__" qual (defArgs st) (defBody st) (defScope st) .none kV dc pm an cd ct), sl⟩) (c : PySem.W.codeIn K cd qual = true) (k : PySem.W.keepIn K (.ref f) = true)
    (hb : ∀ (kV doc pm : Value) (an : Option Addr) (cdv ct : Value) (us : List Value), us.length = ps.length → bindArgs (PySem.W.fnOf "__init__" qual (defArgs st) (defBody st) (defScope st) .none kV doc pm an cdv ct) ⟨us, []⟩ = pure (ps.zip us)) : ClsK K mg x qual C st ps := by
  have F := fun_mk (st := st) l c k
  exact ⟨PySem.W.mg_of X G aC, ⟨pg, hd, po, sa⟩, f, _, ⟨mk, a, i, kc⟩, F, F.binds hb⟩
def tupOf (K : PySem.W.Frag) : Value → Option (List Value)
  | .ref a => match K.lookup a with
    | some o => match o.cls, o.data with
      | .type "tuple", .seq its _ => if its.size ≤ 1000 then some its.toList else none
      | _, _ => none
    | none => none
  | _ => none
theorem tupOf_ok {K : PySem.W.Frag} {v : Value} {us : List Value} (h : tupOf K v = some us) : ∃ a, v = .ref a ∧ ∀ (xs : List V), Vals xs us → ∀ H, SqT K H a xs := by
  unfold tupOf at h
  split at h
  · rename_i a
    split at h
    · rename_i o ho
      split at h
      · rename_i its n hc hd
        split at h
        · rename_i hz
          refine ⟨a, rfl, fun xs r H => .inr ⟨o, its, n, ho, hc, hd, Nat.le_trans hz (by decide), ?_⟩⟩
          rw [Option.some.inj h]
          exact r
        · cases h
      · cases h
    · cases h
  · cases h
def pairOf (K : PySem.W.Frag) (v : Value) : Option (Int × Int) := match tupOf K v with
  | some [.int x _, .int y _] => some (x, y)
  | _ => none
/-- a value of a table, by its address -/
def refV : Value → V
  | .ref a => .ref a
  | _ => .non
theorem pairOf_ok {K : PySem.W.Frag} {v : Value} {x : Int × Int} (h : pairOf K v = some x) : RelV (refV v) v ∧ PairK K (refV v) x := by
  unfold pairOf at h
  split at h
  · rename_i x1 t1 y1 t2 ht
    have e := Option.some.inj h
    subst e
    obtain ⟨a, rfl, hq⟩ := tupOf_ok ht
    exact ⟨rfl, a, rfl, fun H => hq [.int x1, .int y1] (.cons ⟨_, rfl⟩ (.cons ⟨_, rfl⟩ .nil)) H⟩
  · cases h
def allOf {α : Type} (f : Value → Option α) : List Value → Option (List α)
  | [] => some []
  | v :: r => match f v, allOf f r with
    | some x, some xs => some (x :: xs)
    | _, _ => none
theorem allOf_ok {α : Type} {f : Value → Option α} {R : V → α → Prop} (hf : ∀ {v x}, f v = some x → RelV (refV v) v ∧ R (refV v) x) : ∀ {us : List Value} {xs : List α}, allOf f us = some xs → Vals (us.map refV) us ∧ (us.map refV).length = xs.length ∧ ∀ (i : Nat) (u : V) (x : α), (us.map refV)[i]? = some u → xs[i]? = some x → R u x
  | [], xs, h => by
    have e : [] = xs := Option.some.inj h
    subst e
    exact ⟨.nil, rfl, by simp⟩
  | v :: r, xs, h => by
    unfold allOf at h
    split at h
    · rename_i x xs' h1 h2
      have e := Option.some.inj h
      subst e
      obtain ⟨i1, i2, i3⟩ := allOf_ok hf h2
      obtain ⟨r1, r2⟩ := hf h1
      refine ⟨.cons r1 i1, by rw [List.map_cons, List.length_cons, List.length_cons, i2], fun i u y g1 g2 => ?_⟩
      cases i with
      | zero =>
        have e1 : refV v = u := Option.some.inj g1
        have e2 : x = y := Option.some.inj g2
        subst e1 e2
        exact r2
      | succ i => exact i3 i u y g1 g2
    · cases h
def rowOf (K : PySem.W.Frag) (v : Value) : Option Rg := match tupOf K v with
  | some us => allOf (pairOf K) us
  | none => none
theorem rowOf_ok {K : PySem.W.Frag} {v : Value} {r : Rg} (h : rowOf K v = some r) : RelV (refV v) v ∧ RowK K (refV v) r := by
  unfold rowOf at h
  split at h
  · rename_i us ht
    obtain ⟨a, rfl, hq⟩ := tupOf_ok ht
    obtain ⟨i1, i2, i3⟩ := allOf_ok (R := PairK K) pairOf_ok h
    exact ⟨rfl, a, _, rfl, fun H => hq _ i1 H, i2, i3⟩
  · cases h
def tabOf (K : PySem.W.Frag) (v : Value) : Option (List Rg) := match tupOf K v with
  | some us => allOf (rowOf K) us
  | none => none
theorem tabOf_ok {K : PySem.W.Frag} {a : Addr} {rows : List Rg} (h : tabOf K (.ref a) = some rows) : TabK K a rows := by
  unfold tabOf at h
  split at h
  · rename_i us ht
    obtain ⟨a', e, hq⟩ := tupOf_ok ht
    cases e
    obtain ⟨i1, i2, i3⟩ := allOf_ok (R := RowK K) rowOf_ok h
    exact ⟨_, fun H => hq _ i1 H, i2, i3⟩
  · cases h
def intOf : Value → Option Int
  | .int i _ => some i
  | _ => none
theorem intsOf_ok : ∀ {us : List Value} {xs : List Int}, allOf intOf us = some xs → Vals (xs.map V.int) us
  | [], xs, h => by
    have e : [] = xs := Option.some.inj h
    subst e
    exact .nil
  | v :: r, xs, h => by
    unfold allOf at h
    split at h
    · rename_i x xs' h1 h2
      have e := Option.some.inj h
      subst e
      refine .cons ?_ (intsOf_ok h2)
      unfold intOf at h1
      split at h1
      · rename_i i t
        have e := Option.some.inj h1
        subst e
        exact ⟨t, rfl⟩
      · cases h1
    · cases h
def numsOf1 (K : PySem.W.Frag) (v : Value) : Option (List Int) := match tupOf K v with
  | some us => allOf intOf us
  | none => none
theorem numsOf1_ok {K : PySem.W.Frag} {a : Addr} {ns : List Int} (h : numsOf1 K (.ref a) = some ns) : ∀ H, SqT K H a (ns.map V.int) := by
  unfold numsOf1 at h
  split at h
  · rename_i us ht
    obtain ⟨a', e, hq⟩ := tupOf_ok ht
    cases e
    exact fun H => hq _ (intsOf_ok h) H
  · cases h
def refOf : Value → Option Addr
  | .ref a => some a
  | _ => none
theorem refsOf_ok : ∀ {us : List Value} {xs : List Addr}, allOf refOf us = some xs → Vals (xs.map V.ref) us
  | [], xs, h => by
    have e : [] = xs := Option.some.inj h
    subst e
    exact .nil
  | v :: r, xs, h => by
    unfold allOf at h
    split at h
    · rename_i x xs' h1 h2
      have e := Option.some.inj h
      subst e
      refine .cons ?_ (refsOf_ok h2)
      unfold refOf at h1
      split at h1
      · have e := Option.some.inj h1
        subst e
        exact rfl
      · cases h1
    · cases h
def refsOf1 (K : PySem.W.Frag) (v : Value) : Option (List Addr) := match tupOf K v with
  | some us => allOf refOf us
  | none => none
theorem refsOf1_ok {K : PySem.W.Frag} {a : Addr} {fs : List Addr} (h : refsOf1 K (.ref a) = some fs) : ∀ H, SqT K H a (fs.map V.ref) := by
  unfold refsOf1 at h
  split at h
  · rename_i us ht
    obtain ⟨a', e, hq⟩ := tupOf_ok ht
    cases e
    exact fun H => hq _ (refsOf_ok h) H
  · cases h
end Rw

set_option Elab.async false
set_option linter.all false
set_option maxRecDepth 100000
set_option maxHeartbeats 2000000
namespace Rw
open PySem PySem.Spec PyProof.Rows L2
open Vbcsag (Street Map)
abbrev s_answers : Stmt := topS 95
theorem sc_answers : FnScope ["calls", "desk", "given", "call", "answer"] ["calls"] (defScope s_answers) := ⟨rfl, rfl, rfl, by decide +kernel, rfl, by decide +kernel, by decide +kernel⟩
/-! ### a machine played, call by call -/
abbrev nstep := VbcsagNeutral.step
def fin1 (s : Vbcsag.State) (cs : List (List (List Int))) : Vbcsag.State := cs.foldl (fun s c => (nstep s c).1) s
theorem played_snoc : ∀ (cs : List (List (List Int))) (s : Vbcsag.State) (c : List (List Int)), PyFlat.played nstep s (cs ++ [c]) = PyFlat.played nstep s cs ++ [(nstep (fin1 s cs) c).2]
  | [], s, c => rfl
  | d :: cs, s, c => by
    show (nstep s d).2 :: PyFlat.played nstep (nstep s d).1 (cs ++ [c]) = (nstep s d).2 :: (PyFlat.played nstep (nstep s d).1 cs ++ _)
    rw [played_snoc cs]
    rfl
theorem fin1_snoc (cs : List (List (List Int))) (s : Vbcsag.State) (c : List (List Int)) : fin1 s (cs ++ [c]) = (nstep (fin1 s cs) c).1 := by
  unfold fin1
  rw [List.foldl_append]
  rfl
theorem told_snoc (l : List (List Int)) (a : List Int) : PyFlat.told (l ++ [a]) = PyFlat.told l ++ ((a.length : Int) :: a) := by
  unfold PyFlat.told
  rw [List.flatMap_append]
  simp
theorem played_take (cs : List (List (List Int))) (s : Vbcsag.State) (i : Nat) : PyFlat.played nstep s (cs.take i) = (PyFlat.played nstep s cs).take i := by
  induction cs generalizing s i with
  | nil => cases i <;> rfl
  | cons c cs ih =>
    cases i with
    | zero => rfl
    | succ i =>
      show (nstep s c).2 :: PyFlat.played nstep (nstep s c).1 (cs.take i) = (nstep s c).2 :: (PyFlat.played nstep (nstep s c).1 cs).take i
      rw [ih]
theorem told_take_le (l : List (List Int)) (i : Nat) : (PyFlat.told (l.take i)).length ≤ (PyFlat.told l).length := by
  have h : PyFlat.told l = PyFlat.told (l.take i) ++ PyFlat.told (l.drop i) := by
    unfold PyFlat.told
    rw [← List.flatMap_append, List.take_append_drop]
  rw [h, List.length_append]
  omega
/-! ### the desk in a state, its objects apart from the others -/
abbrev DSp := List Addr → Hp → Vbcsag.State → Addr → Prop
def Keep (O : List Addr) (H H' : Hp) : Prop := ∀ b o, H b = some o → b ∉ O → H' b = some o
def spAC (CC : Addr) (DS : DSp) : Sp := fun vs H Q _ => ∃ (dk ca cx n1 r1 : Addr) (p : Nat) (nums row : List Int) (O : List Addr) (s : Vbcsag.State) (c : List (List Int)), vs = [.ref dk, .ref ca] ∧ DS O H s dk ∧ CallAt CC H ca cx n1 r1 p nums row ∧ RawIs c p nums row ∧ VbcsagNeutral.asked1 (PyVbcsag.whole c) = true ∧ (ca ∉ O ∧ n1 ∉ O ∧ r1 ∉ O) ∧
  ∀ H' O' q, Keep O H H' → (∀ b ∈ O', b ∈ O ∨ H b = none) → DS O' H' (nstep s (PyVbcsag.whole c)).1 dk → H' q = some (.lst ((nstep s (PyVbcsag.whole c)).2.map V.int)) → H q = none → Q (.ref q) H'
def spInitD (CD : Addr) (DS : DSp) : Sp := fun vs H Q _ => ∃ (x dx : Addr), vs = [.ref x] ∧ H x = some (.ins CD dx []) ∧ ∀ H' O, (∀ b o, H b = some o → b ≠ x → H' b = some o) → (∀ b ∈ O, b = x ∨ H b = none) → DS O H' none x → Q .non H'
section
variable {P : Program} {w : World} {K : PySem.W.Frag} {mg : Str → Option Value} {base : Heap} {C CD CC : Addr} {DS : DSp}
def spAnswers (K : PySem.W.Frag) : Sp := fun vs H Q _ => ∃ (r : Addr) (ns : List Int), vs = [.ref r] ∧ SqL K H r (ns.map V.int) ∧ PyVbcsag.answers_asked ns = true ∧ ∀ H' p, H' p = some (.lst ((PyVbcsag.answers ns).map V.int)) → Q (.ref p) H'
theorem ok_answers {kA : Nat} {f : Addr} {fd : FuncData} (hdep : ∀ O H H' s dk, DS O H s dk → (∀ b ∈ O, ∀ o, H b = some o → H' b = some o) → DS O H' s dk) (htr : ∀ O H s dk, DS O H s dk → ∀ b ∈ O, ∃ o, H b = some o) (F : Fun K "answers" "answers" s_answers f fd) (M : Mc P w K mg base "Desk" CD ["self"] 1 (spInitD CD DS)) (Dr : Df P w K mg base "read_calls" ["calls"] 3 (spRead K CC))
    (Da : Df P w K mg base "answer_call" ["desk", "call"] (kA + 3) (spAC CC DS)) (gl : mg "len" = none) : FnOk P w K mg base CX0 (kA + 4) f fd ["calls"] (spAnswers K) := by
  refine F.ok sc_answers (fun vs H Q E h => ?_) (fun cdv A outer s H vs Q E hr h => ?_)
  · obtain ⟨r, ns, rfl, _⟩ := h
    rfl
  · obtain ⟨r, ns, rfl, hq, hask, k⟩ := h
    have nd := sc_answers.nd
    refine ⟨_, pss_cons (ps_set (i := 1) nd rfl (.inl rfl) (pe_mc0 M (hr.mono (by omega)) (by rfl)))
      (pss_cons (ps_set (i := 2) nd rfl (.inl rfl) (pe_lst pa_nil))
      (pss_cons (ps_for PassesOwn.never rfl (pi_list (pe_df Dr (hr.mono (by omega)) (by rfl) (pa_cons (pv 0) pa_nil))) (pg_name (i := 3) nd rfl (.inl rfl))
        (pss_cons (ps_set (i := 4) nd rfl (.inl rfl) (pe_df Da hr (by rfl) (pa_cons (pv 1) (pa_cons (pv 3) pa_nil))))
        (pss_cons (ps_expr (pe_bm PySem.F.plainAttrs_list PySem.F.slot_list_append PySem.F.type_list_append mt_append (pv 2) (pa_cons (pe_callB call_len_seq (by rfl) gl PySem.boot_len (pa_cons (pv 4) pa_nil)) pa_nil)))
        (pss_one (ps_expr (pe_bm PySem.F.plainAttrs_list PySem.F.slot_list_extend PySem.F.type_list_extend mt_extend (pv 2) (pa_cons (pv 4) pa_nil)))))))
      (pss_one (ps_ret (pv 2))))), ?_⟩
    -- what is asked
    unfold PyVbcsag.answers_asked at hask
    cases hraw : PyFlat.calls PyVbcsag.shape ns.length ns with
    | none => rw [hraw] at hask; cases hask
    | some raw =>
      rw [hraw] at hask
      simp only [Bool.and_eq_true] at hask
      obtain ⟨⟨⟨⟨_, h60⟩, _⟩, hasked⟩, hshort⟩ := hask
      have h60 : raw.length ≤ 60 := of_decide_eq_true h60
      have hans : PyVbcsag.answers ns = PyFlat.told (PyFlat.played nstep none (raw.map PyVbcsag.whole)) := by
        unfold PyVbcsag.answers PyVbcsag.calls
        rw [hraw]
        rfl
      have hshort : (PyVbcsag.answers ns).length ≤ 10000000 := of_decide_eq_true hshort
      unfold VbcsagNeutral.asked at hasked
      rw [Bool.and_eq_true, List.all_eq_true] at hasked
      rw [hans] at k hshort
      have hk : ∀ c ∈ raw, VbcsagNeutral.asked1 (PyVbcsag.whole c) = true := fun c hc => hasked.1 _ (List.mem_map_of_mem hc)
      -- desk = Desk()
      intro dk dx ndk ndx nex
      refine ⟨dk, dx, rfl, upd_same, fun H1 O k1 hO hDS => ⟨rfl, ?_⟩⟩
      have s1 : Same H H1 := made_same ndk ndx k1
      -- given = []
      refine ⟨Nat.zero_le _, fun gp ngp => ?_⟩
      have s2 := same_upd (o := .lst []) ngp
      refine ⟨_, rfl, r, ns, _, raw, rfl, (s1.trans s2).seq hq, hraw, by omega, fun H2 cp cas s3 ncp hC => ?_⟩
      have gO : gp ∉ O := fun hg => by
        obtain ⟨o, e⟩ := htr _ _ _ _ hDS gp hg
        rw [e] at ngp
        cases ngp
      have frO : ∀ b, (upd H1 gp (.lst [])) b = none → b ∉ O := fun b e hb => by
        obtain ⟨o, eo⟩ := htr _ _ _ _ hDS b hb
        rw [s2 _ _ eo] at e
        cases e
      have frG : ∀ b, (upd H1 gp (.lst [])) b = none → b ≠ gp := fun b e hb => by
        rw [hb, upd_same] at e
        cases e
      refine ⟨cp, rfl, ⟨_, SqL.of hC.lst⟩, ?_⟩
      refine for_gen raw.length (fun i σ H' => ∃ (O : List Addr) (v3 v4 : Option V), DS O H' (fin1 none ((raw.map PyVbcsag.whole).take i)) dk ∧ gp ∉ O ∧ cp ∉ O ∧ H' gp = some (.lst ((PyFlat.told (PyFlat.played nstep none ((raw.map PyVbcsag.whole).take i))).map V.int)) ∧ CallsAt CC (fun b => b ∉ O ∧ b ≠ gp) H' cp cas raw ∧
        σ = [some (.ref r), some (.ref dk), some (.ref gp), v3, v4]) ⟨O, none, none, hdep _ _ _ _ _ hDS (fun b _ o e => s3 _ _ (s2 _ _ e)), gO, frO cp ncp, s3 _ _ upd_same, ⟨hC.lst, hC.len, fun i a c h1 h2 => ?_⟩, rfl⟩ ?_ ?_ ?_ ?_
      · obtain ⟨cx, n1, r1, p, nums, row, g1, g2, g3, g4, g5⟩ := hC.at_ i a c h1 h2
        exact ⟨cx, n1, r1, p, nums, row, g1, g2, ⟨frO _ g3, frG _ g3⟩, ⟨frO _ g4, frG _ g4⟩, ⟨frO _ g5, frG _ g5⟩⟩
      · rintro i σ H' hi ⟨O, v3, v4, _, _, _, _, hC', _⟩
        exact ⟨_, _, SqL.of hC'.lst, List.getElem?_eq_getElem (by rw [List.length_map, hC'.len]; exact hi)⟩
      · rintro σ H' ⟨O, v3, v4, _, _, _, _, hC', _⟩
        exact ⟨_, SqL.of hC'.lst, by rw [List.length_map, hC'.len]; exact Nat.le_refl _⟩
      · rintro i σ H3 x H4 hi ⟨O, v3, v4, hD, hgO, hcO, hg, hC', rfl⟩ ⟨rfl, hx⟩
        have hil : i < cas.length := by rw [hC'.len]; exact hi
        have ex := hx _ (SqL.of hC'.lst)
        rw [List.getElem?_map, List.getElem?_eq_getElem hil] at ex
        have ex : V.ref cas[i] = x := Option.some.inj ex
        subst ex
        obtain ⟨cx, n1, r1, p, nums, row, g1, g2, g3, g4, g5⟩ := hC'.at_ i _ _ (List.getElem?_eq_getElem hil) (List.getElem?_eq_getElem hi)
        have hkc := hk raw[i] (List.getElem_mem hi)
        have hwi : (raw.map PyVbcsag.whole)[i]? = some (PyVbcsag.whole raw[i]) := by rw [List.getElem?_map, List.getElem?_eq_getElem hi]; rfl
        have htk := take_snocV hwi
        generalize hs0 : fin1 none ((raw.map PyVbcsag.whole).take i) = s0 at hD
        refine ⟨_, rfl, _, rfl, dk, cas[i], cx, n1, r1, p, nums, row, O, s0, raw[i], rfl, hD, g1, g2, hkc, ⟨g3.1, g4.1, g5.1⟩, fun H5 O' q hK hO' hD5 hq5 nq => ?_⟩
        have notin : ∀ b, b ∉ O → (∃ o, H4 b = some o) → b ∉ O' := fun b h1 ⟨o, h2⟩ h3 => by
          rcases hO' b h3 with h | h
          · exact h1 h
          · rw [h2] at h
            cases h
        have hgp5 := hK _ _ hg hgO
        have ngq : gp ≠ q := ne_of_none hg nq
        have hgO' : gp ∉ O' := notin gp hgO ⟨_, hg⟩
        have hnext : PyFlat.told (PyFlat.played nstep none ((raw.map PyVbcsag.whole).take (i + 1))) = PyFlat.told (PyFlat.played nstep none ((raw.map PyVbcsag.whole).take i)) ++ (((nstep s0 (PyVbcsag.whole raw[i])).2.length : Int) :: (nstep s0 (PyVbcsag.whole raw[i])).2) := by
          rw [htk, played_snoc, told_snoc, hs0]
        have hlen : (PyFlat.told (PyFlat.played nstep none ((raw.map PyVbcsag.whole).take (i + 1)))).length ≤ 10000000 := by
          rw [played_take]
          exact Nat.le_trans (told_take_le _ _) hshort
        rw [hnext, List.length_append, List.length_cons] at hlen
        refine ⟨_, rfl, .inl ⟨rfl, _, SqL.of hgp5⟩, _, rfl, q, _, rfl, .inl (SqL.of hq5), gp, _, _, rfl, rfl, hgp5, ?_, ?_⟩
        · rw [List.length_map, sizeLine_eq]
          omega
        rw [List.length_map]
        refine ⟨_, rfl, .inl ⟨rfl, _, SqL.of upd_same⟩, _, rfl, gp, q, _, _, rfl, rfl, upd_same, by rw [upd_ne ngq.symm]; exact hq5, ?_, ?_⟩
        · rw [List.length_append, List.length_map, List.length_map, sizeLine_eq]
          show _ + 1 + _ ≤ _
          omega
        · refine ⟨O', some (.ref cas[i]), some (.ref q), ?_, hgO', notin cp hcO ⟨_, hC'.lst⟩, ?_, ⟨?_, hC'.len, fun j a c h1 h2 => ?_⟩, rfl⟩
          · rw [htk, fin1_snoc, hs0]
            refine hdep _ _ _ _ _ hD5 fun b hb o e => ?_
            have nb : b ≠ gp := fun z => hgO' (z ▸ hb)
            rw [upd_ne nb, upd_ne nb]
            exact e
          · rw [upd_same, hnext, List.map_append, List.map_cons, List.append_assoc]
            rfl
          · have ncg : cp ≠ gp := fun e => by
              have e1 := hC.lst
              rw [e] at ncp
              rw [upd_same] at ncp
              cases ncp
            rw [upd_ne ncg, upd_ne ncg]
            exact hK _ _ hC'.lst hcO
          · obtain ⟨cx', n1', r1', p', nums', row', f1, f2, f3, f4, f5⟩ := hC'.at_ j a c h1 h2
            have mv : ∀ b o (o1 o2 : HO), H4 b = some o → b ∉ O ∧ b ≠ gp → (upd (upd H5 gp o1) gp o2) b = some o := fun b o o1 o2 e hb => by
              rw [upd_ne hb.2, upd_ne hb.2]
              exact hK _ _ e hb.1
            exact ⟨cx', n1', r1', p', nums', row', ⟨mv _ _ _ _ f1.ob f3, mv _ _ _ _ f1.nu f4, mv _ _ _ _ f1.ro f5⟩, f2, ⟨notin _ f3.1 ⟨_, f1.ob⟩, f3.2⟩, ⟨notin _ f4.1 ⟨_, f1.nu⟩, f4.2⟩, ⟨notin _ f5.1 ⟨_, f1.ro⟩, f5.2⟩⟩
      · rintro σ H3 ⟨O, v3, v4, hD, hgO, hcO, hg, hC', rfl⟩
        rw [List.take_of_length_le (by rw [List.length_map]; exact Nat.le_refl _)] at hg
        exact ⟨_, rfl, k H3 gp hg⟩
end
end Rw

set_option Elab.async false
set_option linter.all false
set_option maxRecDepth 100000
set_option maxHeartbeats 2000000
namespace Rw
open Vbcsag (Street Map Home)
/-! ### each call's answer, by the specification; the refusals of every call -/
theorem inrF {z lo hi : Int} (h : ¬ (lo ≤ z ∧ z ≤ hi)) : Vbcsag.inr z lo hi = false := by
  unfold Vbcsag.inr
  by_cases h1 : lo ≤ z
  · rw [decide_eq_true h1, decide_eq_false (fun h2 => h ⟨h1, h2⟩)]
    rfl
  · rw [decide_eq_false h1]
    rfl
theorem inrT {z lo hi : Int} : Vbcsag.inr z lo hi = true ↔ lo ≤ z ∧ z ≤ hi := by
  unfold Vbcsag.inr
  rw [Bool.and_eq_true, decide_eq_true_eq, decide_eq_true_eq]
section
variable (s : Vbcsag.State) (m : Map)
/-- what step does where the first test fails -/
theorem step_out {s : Vbcsag.State} {b : Bool} {l : List (Int × Bool)} {k : Unit → Vbcsag.State × List Int} (h : b = false) : Vbcsag.guarded s ((-1, !b) :: l) k = (s, [-1]) := by
  rw [guarded_cons, h]
  rfl
theorem step_in {s : Vbcsag.State} {b : Bool} {l : List (Int × Bool)} {k : Unit → Vbcsag.State × List Int} (h : b = true) : Vbcsag.guarded s ((-1, !b) :: l) k = Vbcsag.guarded s l k := by
  rw [guarded_cons, h]
  rfl
theorem step_none {l : List (Int × Bool)} {k : Unit → Vbcsag.State × List Int} : Vbcsag.guarded none (Vbcsag.noMap none :: l) k = (none, [-2]) := by
  show Vbcsag.guarded none ((-2, true) :: l) k = _
  rw [guarded_cons]
  rfl
theorem step_map {m : Map} {l : List (Int × Bool)} {k : Unit → Vbcsag.State × List Int} : Vbcsag.guarded (some m) (Vbcsag.noMap (some m) :: l) k = Vbcsag.guarded (some m) l k := by
  show Vbcsag.guarded (some m) ((-2, false) :: l) k = _
  rw [guarded_cons]
  rfl
theorem eq_check (s : Vbcsag.State) (row : List Int) : nstep s [[3], row] = Vbcsag.step s (.check row) := rfl
theorem eq_packs (s : Vbcsag.State) (row : List Int) : nstep s [[5], row] = Vbcsag.step s (.packs row) := rfl
theorem eq_walk (s : Vbcsag.State) (p : Int) : nstep s [[6, p]] = Vbcsag.step s (.walk p) := rfl
theorem eq_round (s : Vbcsag.State) (p : Int) (row : List Int) : nstep s [[7, p], row] = Vbcsag.step s (.round p row) := rfl
theorem eq_share (s : Vbcsag.State) (p h0 : Int) : nstep s [[8, p, h0]] = Vbcsag.step s (.share p h0) := rfl
theorem eq_least (s : Vbcsag.State) (u : Int) : nstep s [[9, u]] = Vbcsag.step s (.least u) := rfl
theorem eq_found (s : Vbcsag.State) (p t : Int) : nstep s [[13, p, t]] = Vbcsag.step s (.found p t) := rfl
theorem eq_best (s : Vbcsag.State) (p t : Int) : nstep s [[14, p, t]] = Vbcsag.step s (.best p t) := rfl
theorem eq_street (s : Vbcsag.State) (i : Int) : nstep s [[15, i]] = Vbcsag.step s (.street i) := rfl
/-! calls without a range of their own -/
theorem st_odd (row : List Int) : nstep (some m) [[1]] = (some m, ansOdd m [] row) := rfl
theorem st_extra (row : List Int) : nstep (some m) [[2]] = (some m, ansExtra m [] row) := rfl
theorem st_cuts (row : List Int) : nstep (some m) [[4]] = (some m, ansCuts m [] row) := rfl
def ansHeights (m : Map) (nums row : List Int) : List Int := 0 :: (Vbcsag.heightsOf m ++ Vbcsag.peaksOf m)
theorem st_heights (row : List Int) : nstep (some m) [[10]] = (some m, ansHeights m [] row) := rfl
def ansHomes (m : Map) (nums row : List Int) : List Int := 0 :: m.homes.flatMap fun h => [(h.place : Int), (h.from_ : Int), (h.to_ : Int)]
theorem st_homes (row : List Int) : nstep (some m) [[12]] = (some m, ansHomes m [] row) := rfl
def ansTotal (m : Map) (nums row : List Int) : List Int := [0, (Vbcsag.sum (m.streets.map fun x => x.long * x.need) : Int), (Vbcsag.sum (m.streets.map fun x => x.long * x.need) + Vbcsag.longOf m.streets (Vbcsag.extra m) : Int)]
theorem st_total (row : List Int) : nstep (some m) [[18]] = (some m, ansTotal m [] row) := rfl
theorem st_sizes0 : nstep none [[19]] = (none, [0, 0, 0, 0]) := rfl
theorem st_sizes : nstep (some m) [[19]] = (some m, [0, (m.n : Int), (m.streets.length : Int), (m.homes.length : Int)]) := rfl
theorem no_map0 (p : Int) (h : p = 1 ∨ p = 2 ∨ p = 4 ∨ p = 10 ∨ p = 12 ∨ p = 18) : nstep none [[p]] = (none, [-2]) := by
  rcases h with h | h | h | h | h | h <;> rw [h] <;> rfl
/-! check, packs -/
theorem out_check {row : List Int} (h : fitM row 16 [(0, 15)] = false) : nstep s [[3], row] = (s, [-1]) := by
  rw [show (16 : Int) = ((16 : Nat) : Int) from rfl, fit_row1] at h
  rw [eq_check]
  unfold Vbcsag.step
  exact step_out h
theorem st_check {row : List Int} (h : fitM row 16 [(0, 15)] = true) : nstep (some m) [[3], row] = (some m, ansCheck m [] row) ∧ okCheck [] row ∧ nstep none [[3], row] = (none, [-2]) := by
  rw [show (16 : Int) = ((16 : Nat) : Int) from rfl, fit_row1] at h
  refine ⟨?_, ?_, by rw [eq_check]; unfold Vbcsag.step; exact (step_in h).trans step_none⟩
  · rw [eq_check]
    unfold Vbcsag.step
    refine (step_in h).trans (step_map.trans ?_)
    unfold ansCheck
    show Vbcsag.guarded (some m) [(-3, row.any fun i => decide ((m.streets.length : Int) ≤ i))] _ = _
    rw [guarded_cons]
    cases hb : (row.any fun i => decide ((m.streets.length : Int) ≤ i)) <;> rfl
  · rw [Bool.and_eq_true, decide_eq_true_eq, List.all_eq_true] at h
    exact ⟨h.1, fun z hz => inrT.mp (h.2 z hz)⟩
theorem out_packs {row : List Int} (h : fitM row 60 [(0, 1000000), (0, 1000000)] = false) : nstep s [[5], row] = (s, [-1]) := by
  rw [show (60 : Int) = ((60 : Nat) : Int) from rfl, fit_row2] at h
  rw [eq_packs]
  unfold Vbcsag.step
  exact step_out h
theorem st_packs {row : List Int} (h : fitM row 60 [(0, 1000000), (0, 1000000)] = true) : nstep (some m) [[5], row] = (some m, ansPacks m [] row) ∧ okPacks [] row ∧ nstep none [[5], row] = (none, [-2]) := by
  rw [show (60 : Int) = ((60 : Nat) : Int) from rfl, fit_row2] at h
  refine ⟨by rw [eq_packs]; unfold Vbcsag.step; exact (step_in h).trans step_map, ?_, by rw [eq_packs]; unfold Vbcsag.step; exact (step_in h).trans step_none⟩
  rw [Bool.and_eq_true, Bool.and_eq_true, decide_eq_true_eq, List.all_eq_true, beq_iff_eq] at h
  exact ⟨h.1, h.2.1, fun z hz => inrT.mp (h.2.2 z hz)⟩
/-! walk, round, share, least -/
theorem out_walk {p : Int} (h : fitM [p] (1 : Nat) [(0, 6)] = false) : nstep s [[6, p]] = (s, [-1]) := by
  rw [fit_num1] at h
  rw [eq_walk]
  unfold Vbcsag.step
  exact step_out h
theorem st_walk {p : Int} (h : fitM [p] (1 : Nat) [(0, 6)] = true) (row : List Int) : nstep (some m) [[6, p]] = (some m, ansWalk m [p] row) ∧ okP [p] row ∧ nstep none [[6, p]] = (none, [-2]) := by
  rw [fit_num1] at h
  refine ⟨?_, ⟨p, rfl, inrT.mp h⟩, by rw [eq_walk]; unfold Vbcsag.step; exact (step_in h).trans step_none⟩
  rw [eq_walk]
  unfold Vbcsag.step
  refine (step_in h).trans (step_map.trans ?_)
  unfold ansWalk
  show Vbcsag.guarded (some m) [(-3, decide ((m.n : Int) ≤ p))] _ = _
  rw [guarded_cons, List.headD_cons]
  by_cases hp : (m.n : Int) ≤ p
  · rw [if_pos (decide_eq_true hp), if_pos hp]
  · rw [if_neg (by simpa using hp), if_neg hp]
    rfl
theorem out_round {p : Int} {row : List Int} (h : (fitM [p] (1 : Nat) [(0, 6)] && fitM row 80 [(0, 15)]) = false) : nstep s [[7, p], row] = (s, [-1]) := by
  rw [fit_num1, show (80 : Int) = ((80 : Nat) : Int) from rfl, fit_row1] at h
  rw [eq_round]
  unfold Vbcsag.step
  exact step_out h
theorem st_round {p : Int} {row : List Int} (h : (fitM [p] (1 : Nat) [(0, 6)] && fitM row 80 [(0, 15)]) = true) : nstep (some m) [[7, p], row] = (some m, ansRound m [p] row) ∧ okRound [p] row ∧ nstep none [[7, p], row] = (none, [-2]) := by
  rw [fit_num1, show (80 : Int) = ((80 : Nat) : Int) from rfl, fit_row1] at h
  refine ⟨?_, ?_, by rw [eq_round]; unfold Vbcsag.step; exact (step_in h).trans step_none⟩
  · rw [eq_round]
    unfold Vbcsag.step
    refine (step_in h).trans (step_map.trans ?_)
    unfold ansRound
    show Vbcsag.guarded (some m) [(-3, decide ((m.n : Int) ≤ p) || row.any fun i => decide ((m.streets.length : Int) ≤ i))] _ = _
    rw [guarded_cons, List.headD_cons]
    cases hb : (decide ((m.n : Int) ≤ p) || row.any fun i => decide ((m.streets.length : Int) ≤ i)) <;> rfl
  · rw [Bool.and_eq_true, Bool.and_eq_true, decide_eq_true_eq, List.all_eq_true] at h
    exact ⟨⟨p, rfl, inrT.mp h.1⟩, h.2.1, fun z hz => inrT.mp (h.2.2 z hz)⟩
theorem out_share {p h0 : Int} (h : fitM [p, h0] (2 : Nat) [(0, 6), (0, 100000)] = false) : nstep s [[8, p, h0]] = (s, [-1]) := by
  rw [fit_num2] at h
  rw [eq_share]
  unfold Vbcsag.step
  exact step_out h
theorem st_share {p h0 : Int} (h : fitM [p, h0] (2 : Nat) [(0, 6), (0, 100000)] = true) (row : List Int) : nstep (some m) [[8, p, h0]] = (some m, ansShare m [p, h0] row) ∧ okShare [p, h0] row ∧ nstep none [[8, p, h0]] = (none, [-2]) := by
  rw [fit_num2] at h
  refine ⟨?_, ?_, by rw [eq_share]; unfold Vbcsag.step; exact (step_in h).trans step_none⟩
  · rw [eq_share]
    unfold Vbcsag.step
    refine (step_in h).trans (step_map.trans ?_)
    unfold ansShare
    show Vbcsag.guarded (some m) [(-3, decide ((m.n : Int) ≤ p)), (-6, m.streets.any fun x => decide (h0 < (x.long : Int)))] _ = _
    rw [guarded_cons, List.headD_cons, show ([p, h0] : List Int).getD 1 0 = h0 from rfl]
    by_cases hp : (m.n : Int) ≤ p
    · rw [if_pos (decide_eq_true hp), if_pos hp]
    · rw [if_neg (by simpa using hp), if_neg hp, guarded_cons]
      cases hb : (m.streets.any fun x => decide (h0 < (x.long : Int))) <;> rfl
  · rw [Bool.and_eq_true] at h
    exact ⟨p, h0, rfl, inrT.mp h.1, inrT.mp h.2⟩
theorem out_least {u : Int} (h : fitM [u] (1 : Nat) [(0, 127)] = false) : nstep s [[9, u]] = (s, [-1]) := by
  rw [fit_num1] at h
  rw [eq_least]
  unfold Vbcsag.step
  exact step_out h
theorem st_least {u : Int} (h : fitM [u] (1 : Nat) [(0, 127)] = true) (row : List Int) : nstep (some m) [[9, u]] = (some m, ansLeast m [u] row) ∧ okLeast [u] row ∧ nstep none [[9, u]] = (none, [-2]) := by
  rw [fit_num1] at h
  refine ⟨?_, ⟨u, rfl, inrT.mp h⟩, by rw [eq_least]; unfold Vbcsag.step; exact (step_in h).trans step_none⟩
  rw [eq_least]
  unfold Vbcsag.step
  refine (step_in h).trans (step_map.trans ?_)
  unfold ansLeast
  show Vbcsag.guarded (some m) [(-3, decide ((2 ^ m.n : Int) ≤ u))] (fun _ => match Vbcsag.least m.n m.streets u.toNat with
      | none => (some m, [0, 0])
      | some n => (some m, [0, 1, (n : Int)])) = _
  rw [guarded_cons, List.headD_cons]
  by_cases hp : (2 ^ m.n : Int) ≤ u
  · rw [if_pos (decide_eq_true hp), if_pos hp]
  · rw [if_neg (by simpa using hp), if_neg hp, guarded_nil]
    cases Vbcsag.least m.n m.streets u.toNat <;> rfl
/-! found, best, street -/
def ansFound (m : Map) (nums row : List Int) : List Int := if (m.n : Int) ≤ nums.headD 0 then [-3] else 0 :: Vbcsag.ints (Vbcsag.found m (nums.headD 0).toNat (nums.getD 1 0).toNat)
theorem out_found {p t : Int} (h : fitM [p, t] (2 : Nat) [(0, 6), (0, 100000)] = false) : nstep s [[13, p, t]] = (s, [-1]) := by
  rw [fit_num2] at h
  rw [eq_found]
  unfold Vbcsag.step
  exact step_out h
theorem st_found {p t : Int} (h : fitM [p, t] (2 : Nat) [(0, 6), (0, 100000)] = true) (row : List Int) : nstep (some m) [[13, p, t]] = (some m, ansFound m [p, t] row) ∧ okShare [p, t] row ∧ nstep none [[13, p, t]] = (none, [-2]) := by
  rw [fit_num2] at h
  refine ⟨?_, ?_, by rw [eq_found]; unfold Vbcsag.step; exact (step_in h).trans step_none⟩
  · rw [eq_found]
    unfold Vbcsag.step
    refine (step_in h).trans (step_map.trans ?_)
    unfold ansFound
    show Vbcsag.guarded (some m) [(-3, decide ((m.n : Int) ≤ p))] _ = _
    rw [guarded_cons, List.headD_cons, show ([p, t] : List Int).getD 1 0 = t from rfl]
    by_cases hp : (m.n : Int) ≤ p
    · rw [if_pos (decide_eq_true hp), if_pos hp]
    · rw [if_neg (by simpa using hp), if_neg hp]
      rfl
  · rw [Bool.and_eq_true] at h
    exact ⟨p, t, rfl, inrT.mp h.1, inrT.mp h.2⟩
def okBest (nums row : List Int) : Prop := ∃ p t, nums = [p, t] ∧ (0 ≤ p ∧ p ≤ 6) ∧ 0 ≤ t ∧ t ≤ 200
def ansBest (m : Map) (nums row : List Int) : List Int := if (m.n : Int) ≤ nums.headD 0 then [-3] else [0, ((Vbcsag.best m (nums.headD 0).toNat (nums.getD 1 0).toNat).1 : Int), ((Vbcsag.best m (nums.headD 0).toNat (nums.getD 1 0).toNat).2 : Int)]
theorem out_best {p t : Int} (h : fitM [p, t] (2 : Nat) [(0, 6), (0, 200)] = false) : nstep s [[14, p, t]] = (s, [-1]) := by
  rw [fit_num2] at h
  rw [eq_best]
  unfold Vbcsag.step
  exact step_out h
theorem st_best {p t : Int} (h : fitM [p, t] (2 : Nat) [(0, 6), (0, 200)] = true) (row : List Int) : nstep (some m) [[14, p, t]] = (some m, ansBest m [p, t] row) ∧ okBest [p, t] row ∧ nstep none [[14, p, t]] = (none, [-2]) := by
  rw [fit_num2] at h
  refine ⟨?_, ?_, by rw [eq_best]; unfold Vbcsag.step; exact (step_in h).trans step_none⟩
  · rw [eq_best]
    unfold Vbcsag.step
    refine (step_in h).trans (step_map.trans ?_)
    unfold ansBest
    show Vbcsag.guarded (some m) [(-3, decide ((m.n : Int) ≤ p))] _ = _
    rw [guarded_cons, List.headD_cons, show ([p, t] : List Int).getD 1 0 = t from rfl]
    by_cases hp : (m.n : Int) ≤ p
    · rw [if_pos (decide_eq_true hp), if_pos hp]
    · rw [if_neg (by simpa using hp), if_neg hp]
      rfl
  · rw [Bool.and_eq_true] at h
    exact ⟨p, t, rfl, inrT.mp h.1, inrT.mp h.2⟩
def okStreet (nums row : List Int) : Prop := ∃ i, nums = [i] ∧ 0 ≤ i ∧ i ≤ 15
def ansStreet (m : Map) (nums row : List Int) : List Int := if (m.streets.length : Int) ≤ nums.headD 0 then [-3] else [0, ((Vbcsag.streetAt m (nums.headD 0).toNat).a : Int), ((Vbcsag.streetAt m (nums.headD 0).toNat).b : Int), ((Vbcsag.streetAt m (nums.headD 0).toNat).long : Int), ((Vbcsag.streetAt m (nums.headD 0).toNat).need : Int)]
theorem out_street {i : Int} (h : fitM [i] (1 : Nat) [(0, 15)] = false) : nstep s [[15, i]] = (s, [-1]) := by
  rw [fit_num1] at h
  rw [eq_street]
  unfold Vbcsag.step
  exact step_out h
theorem st_street {i : Int} (h : fitM [i] (1 : Nat) [(0, 15)] = true) (row : List Int) : nstep (some m) [[15, i]] = (some m, ansStreet m [i] row) ∧ okStreet [i] row ∧ nstep none [[15, i]] = (none, [-2]) := by
  rw [fit_num1] at h
  refine ⟨?_, ⟨i, rfl, inrT.mp h⟩, by rw [eq_street]; unfold Vbcsag.step; exact (step_in h).trans step_none⟩
  rw [eq_street]
  unfold Vbcsag.step
  refine (step_in h).trans (step_map.trans ?_)
  unfold ansStreet
  show Vbcsag.guarded (some m) [(-3, decide ((m.streets.length : Int) ≤ i))] _ = _
  rw [guarded_cons, List.headD_cons]
  by_cases hp : (m.streets.length : Int) ≤ i
  · rw [if_pos (decide_eq_true hp), if_pos hp]
  · rw [if_neg (by simpa using hp), if_neg hp]
    rfl
end
end Rw

set_option Elab.async false
set_option linter.all false
set_option maxRecDepth 100000
set_option maxHeartbeats 2000000
namespace Rw
open Vbcsag (Street Map Home)
/-! ### maps stay maps -/
theorem connected_all {n : Nat} {l : List Street} (h1 : 1 ≤ n) (h7 : n ≤ 7) (w : Mi.WS n l) : Vbcsag.connected n l = true ↔ ∀ p, p < n → Mi.Conn l 0 p := by
  have w7 := w.mono h7
  rw [Mi.connected_iff h1 h7 w]
  constructor
  · intro e p hp
    refine (Mi.closure_iff w7 (by decide) p).mp ?_
    rw [e, Nat.testBit_two_pow_sub_one]
    exact decide_eq_true hp
  · intro h
    apply Nat.eq_of_testBit_eq
    intro i
    rw [Nat.testBit_two_pow_sub_one]
    by_cases hi : i < n
    · rw [(Mi.closure_iff w7 (by decide) i).mpr (h i hi), decide_eq_true hi]
    · rw [decide_eq_false hi]
      cases hb : (Mi.closure l 0).testBit i with
      | false => rfl
      | true => exact absurd (((Mi.closure_iff w7 (by decide) i).mp hb).lt w (by omega)) hi
theorem conn_like {l k : List Street} {p q : Nat} (h : Mi.Conn l p q) (hk : ∀ s ∈ l, ∃ t ∈ k, t.a = s.a ∧ t.b = s.b) : Mi.Conn k p q := by
  induction h with
  | refl => exact .refl
  | @fwd s _ hs ih =>
    obtain ⟨t, ht, e1, e2⟩ := hk s hs
    rw [← e2]
    exact .fwd (by rw [e1]; exact ih) ht
  | @bwd s _ hs ih =>
    obtain ⟨t, ht, e1, e2⟩ := hk s hs
    rw [← e1]
    exact .bwd (by rw [e2]; exact ih) ht
theorem wm_map {n : Nat} {l : List Int} {q : List Street} (h1 : 1 ≤ n) (h7 : n ≤ 7) (hl : l.length ≤ 64) (hq : Vbcsag.streetsIn l = some q) (hin : ∀ s ∈ q, s.a < n ∧ s.b < n) (hc : Vbcsag.connected n q = true) : Mi.WM ⟨n, q, []⟩ := by
  obtain ⟨e, _, hv, _⟩ := streetsIn_strL hq
  refine ⟨h1, h7, hin, ?_, hc, fun s hs => (hv s hs).2, Nat.zero_le _, by simp⟩
  show q.length ≤ 16
  rw [e, strL_len]
  omega
theorem wm_home {m : Map} (w : Mi.WM m) (hl : m.homes.length < 12) {h : Home} (hp : h.place < m.n) (hf : h.from_ ≤ 100000) (ht : h.to_ ≤ 100000) : Mi.WM { m with homes := m.homes ++ [h] } := by
  refine ⟨w.n1, w.n7, w.ws, w.len, w.con, w.vals, ?_, fun x hx => ?_⟩
  · show (m.homes ++ [h]).length ≤ 12
    rw [List.length_append]
    show m.homes.length + 1 ≤ 12
    omega
  · rcases List.mem_append.mp hx with e | e
    · exact w.hvals x e
    · rw [List.mem_singleton.mp e]
      exact ⟨hp, hf, ht⟩
theorem wm_add {m : Map} (w : Mi.WM m) (hl : m.streets.length < 16) {s : Street} (ha : s.a < m.n) (hb : s.b < m.n) (h1 : 1 ≤ s.long ∧ s.long ≤ 1000) (h2 : 1 ≤ s.need ∧ s.need ≤ 3) : Mi.WM { m with streets := m.streets ++ [s] } := by
  have ws : Mi.WS m.n (m.streets ++ [s]) := fun t ht => by
    rcases List.mem_append.mp ht with e | e
    · exact w.ws t e
    · rw [List.mem_singleton.mp e]
      exact ⟨ha, hb⟩
  refine ⟨w.n1, w.n7, ws, ?_, ?_, fun t ht => ?_, w.hlen, w.hvals⟩
  · show (m.streets ++ [s]).length ≤ 16
    rw [List.length_append]
    show m.streets.length + 1 ≤ 16
    omega
  · exact (connected_all w.n1 w.n7 ws).mpr fun p hp => (w.conn hp).mono fun t ht => List.mem_append_left _ ht
  · rcases List.mem_append.mp ht with e | e
    · exact w.vals t e
    · rw [List.mem_singleton.mp e]
      exact ⟨h1, h2⟩
theorem wm_change {m : Map} (w : Mi.WM m) {i l k : Nat} (hi : i < m.streets.length) (h1 : 1 ≤ l ∧ l ≤ 1000) (h2 : 1 ≤ k ∧ k ≤ 3) : Mi.WM { m with streets := m.streets.set i { Vbcsag.streetAt m i with long := l, need := k } } := by
  have hs : m.streets[i]? = some (Vbcsag.streetAt m i) := Mi.getD_lt hi Vbcsag.street0
  have hm : Vbcsag.streetAt m i ∈ m.streets := List.mem_of_getElem? hs
  have mem : ∀ t ∈ m.streets.set i { Vbcsag.streetAt m i with long := l, need := k }, t ∈ m.streets ∨ t = { Vbcsag.streetAt m i with long := l, need := k } := fun t ht => List.mem_or_eq_of_mem_set ht
  have ws : Mi.WS m.n (m.streets.set i { Vbcsag.streetAt m i with long := l, need := k }) := fun t ht => by
    rcases mem t ht with e | e
    · exact w.ws t e
    · rw [e]
      have := w.ws _ hm
      exact this
  refine ⟨w.n1, w.n7, ws, ?_, ?_, fun t ht => ?_, w.hlen, w.hvals⟩
  · show (m.streets.set i _).length ≤ 16
    rw [List.length_set]
    exact w.len
  · refine (connected_all w.n1 w.n7 ws).mpr fun p hp => conn_like (w.conn hp) fun t ht => ?_
    obtain ⟨j, hj⟩ := List.mem_iff_getElem?.mp ht
    by_cases e : i = j
    · subst e
      rw [hs] at hj
      have e2 : Vbcsag.streetAt m i = t := Option.some.inj hj
      exact ⟨{ Vbcsag.streetAt m i with long := l, need := k }, List.mem_of_getElem? (List.getElem?_set_self hi), by rw [e2], by rw [e2]⟩
    · exact ⟨t, List.mem_of_getElem? ((List.getElem?_set_ne e).trans hj), rfl, rfl⟩
  · rcases mem t ht with e | e
    · exact w.vals t e
    · rw [e]
      exact ⟨h1, h2⟩
/-! ### the calls that change the map -/
theorem eq_map (s : Vbcsag.State) (n : Int) (l : List Int) : nstep s [[0, n], l] = Vbcsag.step s (.map n l) := rfl
theorem eq_home (s : Vbcsag.State) (p a b : Int) : nstep s [[11, p, a, b]] = Vbcsag.step s (.home p a b) := rfl
theorem eq_change (s : Vbcsag.State) (i l k : Int) : nstep s [[16, i, l, k]] = Vbcsag.step s (.change i l k) := rfl
theorem eq_add (s : Vbcsag.State) (a b l k : Int) : nstep s [[17, a, b, l, k]] = Vbcsag.step s (.add a b l k) := rfl
theorem out_map (s : Vbcsag.State) {n : Int} {l : List Int} (h : (fitM [n] (1 : Nat) [(1, 7)] && fitM l 64 rg4) = false) : nstep s [[0, n], l] = (s, [-1]) := by
  rw [fit_num1, show (64 : Int) = ((64 : Nat) : Int) from rfl, fit_row4] at h
  rw [eq_map]
  unfold Vbcsag.step
  exact step_out h
/-- a map told within its ranges: what becomes of it -/
theorem st_map (s : Vbcsag.State) {n : Int} {l : List Int} (h : (fitM [n] (1 : Nat) [(1, 7)] && fitM l 64 rg4) = true) : ∃ (k : Nat), n = (k : Int) ∧ 1 ≤ k ∧ k ≤ 7 ∧ l.length ≤ 64 ∧ Vbcsag.streetsIn l = some (strL l) ∧
    nstep s [[0, n], l] = if ((strL l).any fun x => decide (k ≤ x.a) || decide (k ≤ x.b)) = true then (s, [-3]) else if Vbcsag.connected k (strL l) = true then (some ⟨k, strL l, []⟩, [0, ((strL l).length : Int)]) else (s, [-5]) := by
  rw [fit_num1, show (64 : Int) = ((64 : Nat) : Int) from rfl, fit_row4] at h
  have h2 := h
  rw [Bool.and_eq_true, Bool.and_eq_true, decide_eq_true_eq] at h2
  obtain ⟨hn, hl, hs⟩ := h2
  have hn := inrT.mp hn
  cases hq : Vbcsag.streetsIn l with
  | none => rw [hq] at hs; cases hs
  | some q =>
    obtain ⟨e, _⟩ := streetsIn_strL hq
    subst e
    refine ⟨n.toNat, by simp only at hn; omega, by simp only at hn; omega, by simp only at hn; omega, hl, rfl, ?_⟩
    rw [eq_map]
    unfold Vbcsag.step
    refine (step_in h).trans ?_
    rw [hq, guarded_cons]
    have e1 : (((some (strL l)).getD []).any fun x => decide (n ≤ (x.a : Int)) || decide (n ≤ (x.b : Int))) = ((strL l).any fun x => decide (n.toNat ≤ x.a) || decide (n.toNat ≤ x.b)) := by
      show (strL l).any _ = _
      congr 1
      funext x
      simp only at hn
      rw [show decide (n ≤ (x.a : Int)) = decide (n.toNat ≤ x.a) from by rw [decide_eq_decide]; omega, show decide (n ≤ (x.b : Int)) = decide (n.toNat ≤ x.b) from by rw [decide_eq_decide]; omega]
    rw [e1]
    cases hb : ((strL l).any fun x => decide (n.toNat ≤ x.a) || decide (n.toNat ≤ x.b)) with
    | true => rfl
    | false =>
      rw [if_neg (by decide), if_neg (by decide), guarded_cons]
      show (if (!Vbcsag.connected n.toNat (strL l)) = true then _ else _) = _
      cases hc : Vbcsag.connected n.toNat (strL l) <;> rfl
def inHome (p a b : Int) : Bool := Vbcsag.inr p 0 6 && (Vbcsag.inr a 0 100000 && (Vbcsag.inr b 0 100000 && decide (a ≤ b)))
theorem out_home (s : Vbcsag.State) {p a b : Int} (h : inHome p a b = false) : nstep s [[11, p, a, b]] = (s, [-1]) := by
  rw [eq_home]
  unfold Vbcsag.step
  exact step_out h
theorem st_home (m : Map) {p a b : Int} (h : inHome p a b = true) : nstep (some m) [[11, p, a, b]] = (if (m.n : Int) ≤ p then (some m, [-3]) else if 12 ≤ m.homes.length then (some m, [-4]) else (some { m with homes := m.homes ++ [⟨p.toNat, a.toNat, b.toNat⟩] }, [0, (m.homes.length : Int)])) ∧ nstep none [[11, p, a, b]] = (none, [-2]) := by
  refine ⟨?_, by rw [eq_home]; unfold Vbcsag.step; exact (step_in h).trans step_none⟩
  rw [eq_home]
  unfold Vbcsag.step
  refine (step_in h).trans (step_map.trans ?_)
  show Vbcsag.guarded (some m) [(-3, decide ((m.n : Int) ≤ p)), (-4, decide (12 ≤ m.homes.length))] _ = _
  rw [guarded_cons]
  by_cases hp : (m.n : Int) ≤ p
  · rw [if_pos (decide_eq_true hp), if_pos hp]
  · rw [if_neg (by simpa using hp), if_neg hp, guarded_cons]
    by_cases hh : 12 ≤ m.homes.length
    · rw [if_pos (decide_eq_true hh), if_pos hh]
    · rw [if_neg (by simpa using hh), if_neg hh]
      rfl
theorem out_change (s : Vbcsag.State) {i l k : Int} (h : fitM [i, l, k] (3 : Nat) [(0, 15), (1, 1000), (1, 3)] = false) : nstep s [[16, i, l, k]] = (s, [-1]) := by
  rw [fit_num3] at h
  rw [eq_change]
  unfold Vbcsag.step
  exact step_out h
theorem st_change (m : Map) {i l k : Int} (h : fitM [i, l, k] (3 : Nat) [(0, 15), (1, 1000), (1, 3)] = true) : ((0 ≤ i ∧ i ≤ 15) ∧ (1 ≤ l ∧ l ≤ 1000) ∧ (1 ≤ k ∧ k ≤ 3)) ∧
    nstep (some m) [[16, i, l, k]] = (if (m.streets.length : Int) ≤ i then (some m, [-3]) else (some { m with streets := m.streets.set i.toNat { Vbcsag.streetAt m i.toNat with long := l.toNat, need := k.toNat } }, [0])) ∧ nstep none [[16, i, l, k]] = (none, [-2]) := by
  rw [fit_num3] at h
  refine ⟨?_, ?_, by rw [eq_change]; unfold Vbcsag.step; exact (step_in h).trans step_none⟩
  · rw [Bool.and_eq_true, Bool.and_eq_true] at h
    exact ⟨inrT.mp h.1, inrT.mp h.2.1, inrT.mp h.2.2⟩
  rw [eq_change]
  unfold Vbcsag.step
  refine (step_in h).trans (step_map.trans ?_)
  show Vbcsag.guarded (some m) [(-3, decide ((m.streets.length : Int) ≤ i))] _ = _
  rw [guarded_cons]
  by_cases hp : (m.streets.length : Int) ≤ i
  · rw [if_pos (decide_eq_true hp), if_pos hp]
  · rw [if_neg (by simpa using hp), if_neg hp]
    rfl
theorem out_add (s : Vbcsag.State) {a b l k : Int} (h : fitM [a, b, l, k] (4 : Nat) [(0, 6), (0, 6), (1, 1000), (1, 3)] = false) : nstep s [[17, a, b, l, k]] = (s, [-1]) := by
  rw [fit_num4] at h
  rw [eq_add]
  unfold Vbcsag.step
  exact step_out h
theorem st_add (m : Map) {a b l k : Int} (h : fitM [a, b, l, k] (4 : Nat) [(0, 6), (0, 6), (1, 1000), (1, 3)] = true) : ((0 ≤ a ∧ a ≤ 6) ∧ (0 ≤ b ∧ b ≤ 6) ∧ (1 ≤ l ∧ l ≤ 1000) ∧ (1 ≤ k ∧ k ≤ 3)) ∧
    nstep (some m) [[17, a, b, l, k]] = (if (decide ((m.n : Int) ≤ a) || decide ((m.n : Int) ≤ b)) = true then (some m, [-3]) else if 16 ≤ m.streets.length then (some m, [-4]) else (some { m with streets := m.streets ++ [⟨a.toNat, b.toNat, l.toNat, k.toNat⟩] }, [0, (m.streets.length : Int)])) ∧ nstep none [[17, a, b, l, k]] = (none, [-2]) := by
  rw [fit_num4] at h
  refine ⟨?_, ?_, by rw [eq_add]; unfold Vbcsag.step; exact (step_in h).trans step_none⟩
  · rw [Bool.and_eq_true, Bool.and_eq_true, Bool.and_eq_true] at h
    exact ⟨inrT.mp h.1, inrT.mp h.2.1, inrT.mp h.2.2.1, inrT.mp h.2.2.2⟩
  rw [eq_add]
  unfold Vbcsag.step
  refine (step_in h).trans (step_map.trans ?_)
  show Vbcsag.guarded (some m) [(-3, decide ((m.n : Int) ≤ a) || decide ((m.n : Int) ≤ b)), (-4, decide (16 ≤ m.streets.length))] _ = _
  rw [guarded_cons]
  cases hp : (decide ((m.n : Int) ≤ a) || decide ((m.n : Int) ≤ b)) with
  | true => rfl
  | false =>
    rw [if_neg (by decide), if_neg (by decide), guarded_cons]
    by_cases hh : 16 ≤ m.streets.length
    · rw [if_pos (decide_eq_true hh), if_pos hh]
    · rw [if_neg (by simpa using hh), if_neg hh]
      rfl
/-! ### what a walk passes, who is found -/
theorem passes_eq {m : Map} (w : Mi.WM m) {q : Nat} (hq : q < m.n) : Vbcsag.passes m q = (List.range ((Vbcsag.walk m q).length + 1)).map fun k => ((q :: posM m.streets q (Vbcsag.walk m q)).getD k 0, Vbcsag.walked m ((Vbcsag.walk m q).take k)) := by
  have ht : Vbcsag.trail m q (Vbcsag.walk m q) = some (posM m.streets q (Vbcsag.walk m q)) := by
    rw [Mi.walk_eq w hq]
    exact trail_walk m _ _ _
  unfold Vbcsag.passes
  simp only [ht, Option.getD_some, List.length_cons, posM_len]
end Rw

set_option Elab.async false
set_option linter.all false
set_option maxRecDepth 100000
set_option maxHeartbeats 2000000
namespace Rw
open PySem PySem.Spec PyProof.Rows L2
open Vbcsag (Street Map Home)
abbrev s_home_init : Stmt := inCls (topS 38) 0
abbrev s_desk_init : Stmt := inCls (topS 4) 0
abbrev s_passed_places : Stmt := topS 39
abbrev s_is_found : Stmt := topS 40
abbrev s_found_homes : Stmt := topS 41
abbrev s_best_start : Stmt := topS 42
theorem sc_home_init : FnScope ["self", "place", "begin", "finish"] ["self", "place", "begin", "finish"] (defScope s_home_init) := ⟨rfl, rfl, rfl, by decide +kernel, rfl, by decide +kernel, by decide +kernel⟩
theorem sc_desk_init : FnScope ["self"] ["self"] (defScope s_desk_init) := ⟨rfl, rfl, rfl, by decide +kernel, rfl, by decide +kernel, by decide +kernel⟩
theorem sc_passed_places : FnScope ["streets", "walk", "first", "place", "later", "passed", "i"] ["streets", "walk", "first"] (defScope s_passed_places) := ⟨rfl, rfl, rfl, by decide +kernel, rfl, by decide +kernel, by decide +kernel⟩
theorem sc_is_found : FnScope ["home", "passed", "start", "place", "later"] ["home", "passed", "start"] (defScope s_is_found) := ⟨rfl, rfl, rfl, by decide +kernel, rfl, by decide +kernel, by decide +kernel⟩
theorem sc_found_homes : FnScope ["homes", "passed", "start", "number", "home"] ["homes", "passed", "start"] (defScope s_found_homes) := ⟨rfl, rfl, rfl, by decide +kernel, rfl, by decide +kernel, by decide +kernel⟩
theorem sc_best_start : FnScope ["homes", "passed", "last", "best", "most", "start", "many"] ["homes", "passed", "last"] (defScope s_best_start) := ⟨rfl, rfl, rfl, by decide +kernel, rfl, by decide +kernel, by decide +kernel⟩
/-! ### homes on the heap -/
abbrev hfs (h : Home) : List (Str × V) := [("place", .int (h.place : Int)), ("begin", .int (h.from_ : Int)), ("finish", .int (h.to_ : Int))]
def HomAt (CH : Addr) (H : Hp) (a : Addr) (h : Home) : Prop := ∃ dx, H a = some (.ins CH dx (hfs h))
structure HomM (CH : Addr) (H : Hp) (l : Addr) (bs : List Addr) (hs : List Home) : Prop where
  lst : H l = some (.lst (bs.map V.ref))
  len : bs.length = hs.length
  at_ : ∀ (i : Nat) (a : Addr) (h : Home), bs[i]? = some a → hs[i]? = some h → HomAt CH H a h
theorem HomM.same {CH : Addr} {H H' : Hp} {l : Addr} {bs : List Addr} {hs : List Home} (h : HomM CH H l bs hs) (k : Same H H') : HomM CH H' l bs hs := ⟨k _ _ h.lst, h.len, fun i a s h1 h2 => by
  obtain ⟨dx, e⟩ := h.at_ i a s h1 h2
  exact ⟨dx, k _ _ e⟩⟩
structure TxH (K : PySem.W.Frag) (CH : Addr) : Prop where
  cl : Cls K CH
  nP : PySem.W.findIn K (.ref CH) "place" = some none
  nB : PySem.W.findIn K (.ref CH) "begin" = some none
  nF : PySem.W.findIn K (.ref CH) "finish" = some none
/-! ### what a walk passes -/
def passM (ss : List Street) : Nat → Nat → List Nat → List (Nat × Nat)
  | _, _, [] => []
  | p, t, i :: l => (Mi.behind (ss.getD i Vbcsag.street0) p, t + (ss.getD i Vbcsag.street0).long) :: passM ss (Mi.behind (ss.getD i Vbcsag.street0) p) (t + (ss.getD i Vbcsag.street0).long) l
theorem passM_len (ss : List Street) : ∀ (l : List Nat) (p t : Nat), (passM ss p t l).length = l.length
  | [], _, _ => rfl
  | i :: l, p, t => by
    unfold passM
    rw [List.length_cons, List.length_cons, passM_len ss l]
theorem pass_range (ss : List Street) : ∀ (l : List Nat) (p t : Nat), ((List.range (l.length + 1)).map fun k => ((p :: posM ss p l).getD k 0, t + ((l.take k).map fun i => (ss.getD i Vbcsag.street0).long).sum)) = (p, t) :: passM ss p t l
  | [], p, t => rfl
  | i :: l, p, t => by
    rw [List.range_succ_eq_map, List.map_cons, List.map_map, passM, ← pass_range ss l]
    congr 1
    refine List.map_congr_left fun k _ => ?_
    show ((posM ss p (i :: l)).getD k 0, t + ((((ss.getD i Vbcsag.street0).long) :: ((l.take k).map fun i => (ss.getD i Vbcsag.street0).long))).sum) = _
    rw [List.sum_cons, Nat.add_assoc]
    rfl
theorem passes_passM {m : Map} (w : Mi.WM m) {q : Nat} (hq : q < m.n) : Vbcsag.passes m q = (q, 0) :: passM m.streets q 0 (Vbcsag.walk m q) := by
  rw [passes_eq w hq, ← pass_range]
  refine List.map_congr_left fun k _ => ?_
  rw [Mi.walked_eq, Nat.zero_add]
section
variable {P : Program} {w : World} {K : PySem.W.Frag} {mg : Str → Option Value} {base : Heap} {C CD CC CH : Addr}
def spInitH (CH : Addr) : Sp := fun vs H Q _ => ∃ (x dx : Addr) (a b l : V), vs = [.ref x, a, b, l] ∧ H x = some (.ins CH dx []) ∧
  ∀ H', H' x = some (.ins CH dx [("place", a), ("begin", b), ("finish", l)]) → (∀ c u, H c = some u → c ≠ x → H' c = some u) → Q .non H'
theorem ok_home_init {f : Addr} {fd : FuncData} (F : Fun K "__init__" "Home.__init__" s_home_init f fd) (T : TxH K CH) : FnOk P w K mg base CX0 1 f fd ["self", "place", "begin", "finish"] (spInitH CH) := by
  refine F.ok sc_home_init (fun vs H Q E h => ?_) (fun cdv A outer s H vs Q E hr h => ?_)
  · obtain ⟨x, dx, a, b, l, rfl, _⟩ := h
    rfl
  · obtain ⟨x, dx, a, b, l, rfl, hx, k⟩ := h
    refine ⟨_, pss_cons (ps_fld (pv 0) (pv 1) rfl) (pss_cons (ps_fld (pv 0) (pv 2) rfl) (pss_one (ps_fld (pv 0) (pv 3) rfl))), ?_⟩
    refine ⟨_, rfl, _, rfl, x, CH, dx, _, rfl, hx, T.cl, T.nP, (by show 0 < 1000; decide), ?_⟩
    refine ⟨_, rfl, _, rfl, x, CH, dx, _, rfl, upd_same, T.cl, T.nB, (by show 1 < 1000; decide), ?_⟩
    refine ⟨_, rfl, _, rfl, x, CH, dx, _, rfl, upd_same, T.cl, T.nF, (by show 2 < 1000; decide), ?_⟩
    refine k _ upd_same fun c u e nc => ?_
    rw [upd_ne nc, upd_ne nc, upd_ne nc]
    exact e
def spPassed (K : PySem.W.Frag) (C : Addr) : Sp := fun vs H Q _ => ∃ (l r : Addr) (as : List Addr) (ss : List Street) (q : List Nat) (p : Nat), vs = [.ref l, .ref r, vN p] ∧ RowAt K C H l as ss ∧ SqL K H r (q.map vN) ∧ (∀ i ∈ q, i < ss.length) ∧ q.length ≤ 900 ∧
  ∀ H' pp tas, Same H H' → H pp = none → PrsT H' pp tas ((p, 0) :: passM ss p 0 q) → Q (.ref pp) H'
theorem df_passed_places (T : Txt K mg C) (D : Dn K mg "passed_places" s_passed_places ["streets", "walk", "first"]) (Db : Df P w K mg base "place_behind" ["street", "place"] 1 (spBehind C)) : Df P w K mg base "passed_places" ["streets", "walk", "first"] 2 (spPassed K C) := by
  refine D.df sc_passed_places (fun vs H Q E h => ?_) (fun f cdv A outer s H vs Q E hr h => ?_)
  · obtain ⟨l, r, as, ss, q, p, rfl, _⟩ := h
    rfl
  · obtain ⟨l, r, as, ss, q, p, rfl, hR, hq, hlt, hlen, k⟩ := h
    have nd := sc_passed_places.nd
    refine ⟨_, pss_cons (ps_set (i := 3) nd rfl (.inl rfl) (pv 2))
      (pss_cons (ps_set (i := 4) nd rfl (.inl rfl) pe_int)
      (pss_cons (ps_set (i := 5) nd rfl (.inl rfl) (pe_lst (pa_cons (pe_tup (pa_cons (pv 3) (pa_cons (pv 4) pa_nil))) pa_nil)))
      (pss_cons (ps_for PassesOwn.never rfl (pi_list (pv 1)) (pg_name (i := 6) nd rfl (.inl rfl))
        (pss_cons (ps_set (i := 3) nd rfl (.inl rfl) (pe_df Db hr (by rfl) (pa_cons (pe_ix ix_list (pv 0) (pv 6) (fun _ _ => rfl)) (pa_cons (pv 3) pa_nil))))
        (pss_cons (ps_set (i := 4) nd rfl (.inl rfl) (pe_op op_addN (pv 4) (pe_fld (pe_ix ix_list (pv 0) (pv 6) (fun _ _ => rfl)) rfl)))
        (pss_one (ps_expr (pe_bm PySem.F.plainAttrs_list PySem.F.slot_list_append PySem.F.type_list_append mt_append (pv 5) (pa_cons (pe_tup (pa_cons (pv 3) (pa_cons (pv 4) pa_nil))) pa_nil)))))))
      (pss_one (ps_ret (pv 5)))))), ?_⟩
    refine ⟨_, rfl, ?_⟩
    refine ⟨_, rfl, _, rfl, (by show 2 ≤ sizeLine; decide), fun t0 nt0 => ?_⟩
    have s0 := same_upd (o := .tup [vN p, vN 0]) nt0
    refine ⟨(by show 1 ≤ sizeLine; decide), fun sp nsp => ?_⟩
    have s00 := same_upd (o := .lst [V.ref t0]) nsp
    have nspH : H sp = none := none_back s0 nsp
    have hp0 : PrsT (upd (upd H t0 (.tup [vN p, vN 0])) sp (.lst [V.ref t0])) sp [t0] [(p, 0)] := by
      refine ⟨upd_same, rfl, fun i t x h1 h2 => ?_⟩
      cases i with
      | zero =>
        have e1 : t0 = t := Option.some.inj h1
        have e2 : (p, 0) = x := Option.some.inj h2
        subst e1 e2
        exact s00 _ _ upd_same
      | succ i => cases h1
    refine ⟨_, rfl, r, rfl, ⟨_, (s0.trans s00).seq hq⟩, ?_⟩
    refine for_gen q.length (fun i σ H' => Same H H' ∧ ∃ (tas : List Addr) (prs : List (Nat × Nat)) (c n : Nat) (v6 : Option V), PrsT H' sp tas prs ∧ prs.length ≤ i + 1 ∧ prs ++ passM ss c n (q.drop i) = (p, 0) :: passM ss p 0 q ∧
      σ = [some (.ref l), some (.ref r), some (vN p), some (vN c), some (vN n), some (.ref sp), v6]) ⟨s0.trans s00, [t0], [(p, 0)], p, 0, none, hp0, Nat.le_refl _, rfl, rfl⟩ ?_ ?_ ?_ ?_
    · rintro i σ H' hi ⟨s1, _⟩
      exact ⟨_, _, s1.seq hq, List.getElem?_eq_getElem (by rw [List.length_map]; exact hi)⟩
    · rintro σ H' ⟨s1, _⟩
      exact ⟨_, s1.seq hq, by rw [List.length_map]; exact Nat.le_refl _⟩
    · rintro i σ H1 x H2 hi ⟨s1, tas, prs, c, n, v6, hp, hpl, heq, rfl⟩ ⟨rfl, hx⟩
      have ex := hx _ (s1.seq hq)
      rw [List.getElem?_map, List.getElem?_eq_getElem hi] at ex
      have ex : vN q[i] = x := Option.some.inj ex
      subst ex
      have hj : q[i] < ss.length := hlt _ (List.getElem_mem hi)
      obtain ⟨a, ha, hsb⟩ := hR.get hj
      have hsb1 := hsb.same s1
      obtain ⟨dx, hs⟩ := id hsb1
      have hdr : q.drop i = q[i] :: q.drop (i + 1) := List.drop_eq_getElem_cons hi
      rw [hdr, passM] at heq
      refine ⟨_, rfl, _, rfl, l, _, _, V.ref a, rfl, rfl, (hR.same s1).lst, atI_nat (by rw [List.getElem?_map, ha]; rfl), _, rfl, a, _, c, rfl, hsb1, ?_⟩
      refine ⟨_, rfl, _, rfl, _, rfl, l, _, _, V.ref a, rfl, rfl, (hR.same s1).lst, atI_nat (by rw [List.getElem?_map, ha]; rfl), a, C, dx, _, _, rfl, hs, T.cl, T.nL, rfl, n, _, rfl, rfl, ?_⟩
      refine ⟨_, rfl, .inl ⟨rfl, _, SqL.of hp.lst⟩, _, rfl, _, rfl, (by show 2 ≤ sizeLine; decide), fun t ht => ?_⟩
      have ntl := ne_of_none hp.lst ht
      refine ⟨sp, _, _, rfl, rfl, by rw [upd_ne ntl]; exact hp.lst, small1000 (by rw [List.length_map, hp.len]; omega), ?_⟩
      refine ⟨same_put nspH (s1.trans (same_upd ht)), tas ++ [t], prs ++ [(Mi.behind (ss.getD q[i] Vbcsag.street0) c, n + (ss.getD q[i] Vbcsag.street0).long)], _, _, some (vN q[i]), hp.push (Mi.behind (ss.getD q[i] Vbcsag.street0) c, n + (ss.getD q[i] Vbcsag.street0).long) ht, ?_, ?_, rfl⟩
      · rw [List.length_append]
        show prs.length + 1 ≤ i + 1 + 1
        omega
      · rw [List.append_assoc]
        exact heq
    · rintro σ H1 ⟨s1, tas, prs, c, n, v6, hp, hpl, heq, rfl⟩
      rw [List.drop_length, passM, List.append_nil] at heq
      refine ⟨_, rfl, k _ sp tas s1 nspH ?_⟩
      rw [← heq]
      exact hp
/-! ### who is found -/
def hit (h : Home) (t : Nat) (x : Nat × Nat) : Bool := x.1 == h.place && (decide (h.from_ ≤ t + x.2) && decide (t + x.2 ≤ h.to_))
def spIsFound (CH : Addr) : Sp := fun vs H Q _ => ∃ (a pp : Addr) (tas : List Addr) (h : Home) (prs : List (Nat × Nat)) (t : Nat), vs = [.ref a, .ref pp, vN t] ∧ HomAt CH H a h ∧ PrsT H pp tas prs ∧ Q (.bl (prs.any (hit h t))) H
theorem df_is_found (T : TxH K CH) (D : Dn K mg "is_found" s_is_found ["home", "passed", "start"]) : Df P w K mg base "is_found" ["home", "passed", "start"] 1 (spIsFound CH) := by
  refine D.df sc_is_found (fun vs H Q E h => ?_) (fun f cdv A outer s H vs Q E hr h => ?_)
  · obtain ⟨a, pp, tas, h, prs, t, rfl, _⟩ := h
    rfl
  · obtain ⟨a, pp, tas, h, prs, t, rfl, ⟨dx, ha⟩, hp, k⟩ := h
    have nd := sc_is_found.nd
    refine ⟨_, pss_cons (ps_for PassesOwn.never rfl (pi_list (pv 1)) (pg_tup rfl (pgs_cons (pg_name (i := 3) nd rfl (.inl rfl)) (pgs_cons (pg_name (i := 4) nd rfl (.inl rfl)) pgs_nil)))
        (pss_one (ps_if (PW.pt (pw_and (pt_cmpR op_eq (pv 3) (pe_fld (pv 0) rfl) (nomark _)) (pw_and (pt_cmpR op_le (pe_fld (pv 0) rfl) (pe_op op_addN (pv 2) (pv 4)) (nomark _)) (pw_and1 (pt_cmpR op_le (pe_op op_addN (pv 2) (pv 4)) (pe_fld (pv 0) rfl) (nomark _)))))) (pss_one (ps_ret pe_bl)) pss_nil)))
      (pss_one (ps_ret pe_bl)), ?_⟩
    refine ⟨_, rfl, pp, rfl, ⟨_, SqL.of hp.lst⟩, ?_⟩
    refine for_gen prs.length (fun i σ H' => H' = H ∧ (∀ j, j < i → hit h t (prs.getD j (0, 0)) = false) ∧ ∃ (v3 v4 : Option V), σ = [some (.ref a), some (.ref pp), some (vN t), v3, v4]) ⟨rfl, fun j hj => by omega, none, none, rfl⟩ ?_ ?_ ?_ ?_
    · rintro i σ H' hi ⟨rfl, _⟩
      exact ⟨_, _, SqL.of hp.lst, List.getElem?_eq_getElem (by rw [List.length_map, hp.len]; exact hi)⟩
    · rintro σ H' ⟨rfl, _⟩
      exact ⟨_, SqL.of hp.lst, by rw [List.length_map, hp.len]; exact Nat.le_refl _⟩
    · rintro i σ H1 x H2 hi ⟨rfl, hall, v3, v4, rfl⟩ ⟨rfl, hx⟩
      have hit' : i < tas.length := by rw [hp.len]; exact hi
      have ex := hx _ (SqL.of hp.lst)
      rw [List.getElem?_map, List.getElem?_eq_getElem hit'] at ex
      have ex : V.ref tas[i] = x := Option.some.inj ex
      subst ex
      have htp := hp.at_ i _ _ (List.getElem?_eq_getElem hit') (List.getElem?_eq_getElem hi)
      have hgd : prs.getD i (0, 0) = prs[i] := Mi.getD_of (List.getElem?_eq_getElem hi)
      have next : hit h t prs[i] = false → ∀ j, j < i + 1 → hit h t (prs.getD j (0, 0)) = false := fun hb j hj => by
        by_cases ej : j = i
        · rw [ej, hgd]
          exact hb
        · exact hall j (by omega)
      refine ⟨tas[i], _, rfl, SqT.of htp, rfl, _, _, rfl, _, _, rfl, rfl, ?_⟩
      refine ⟨_, rfl, _, rfl, a, CH, dx, _, _, rfl, ha, T.cl, T.nP, rfl, rfl, _, rfl, ?_⟩
      by_cases z1 : prs[i].1 = h.place
      · refine iteP (int_eq (by omega)) ?_
        refine ⟨_, rfl, a, CH, dx, _, _, rfl, ha, T.cl, T.nB, rfl, _, rfl, _, rfl, t, _, rfl, rfl, _, _, rfl, rfl, _, rfl, ?_⟩
        by_cases z2 : h.from_ ≤ t + prs[i].2
        · refine iteP (decide_eq_true (show (h.from_ : Int) ≤ ((t + prs[i].2 : Nat) : Int) by omega)) ?_
          refine ⟨_, rfl, _, rfl, t, _, rfl, rfl, _, rfl, a, CH, dx, _, _, rfl, ha, T.cl, T.nF, rfl, _, _, rfl, rfl, _, rfl, ?_⟩
          by_cases z3 : t + prs[i].2 ≤ h.to_
          · refine iteP (decide_eq_true (show ((t + prs[i].2 : Nat) : Int) ≤ (h.to_ : Int) by omega)) ?_
            have e : prs.any (hit h t) = true := by
              refine List.any_eq_true.mpr ⟨prs[i], List.getElem_mem hi, ?_⟩
              unfold hit
              rw [decide_eq_true z2, decide_eq_true z3, z1, beq_self_eq_true]
              rfl
            rw [e] at k
            exact k
          · refine iteN (fun y => z3 (by have := of_decide_eq_true (p := ((t + prs[i].2 : Nat) : Int) ≤ (h.to_ : Int)) y; omega)) ?_
            refine ⟨rfl, next ?_, _, _, rfl⟩
            unfold hit
            rw [decide_eq_false z3, Bool.and_false, Bool.and_false]
        · refine iteN (fun y => z2 (by have := of_decide_eq_true (p := (h.from_ : Int) ≤ ((t + prs[i].2 : Nat) : Int)) y; omega)) ?_
          refine iteN (by decide) ?_
          refine ⟨rfl, next ?_, _, _, rfl⟩
          unfold hit
          rw [decide_eq_false z2, Bool.false_and, Bool.and_false]
      · refine iteN (int_ne (by omega)) ?_
        refine iteN (by decide) ?_
        refine ⟨rfl, next ?_, _, _, rfl⟩
        unfold hit
        rw [beq_eq_false_iff_ne.mpr z1, Bool.false_and]
    · rintro σ H1 ⟨rfl, hall, v3, v4, rfl⟩
      have e : prs.any (hit h t) = false := by
        refine List.any_eq_false.mpr fun x hx => ?_
        obtain ⟨j, hj, rfl⟩ := List.getElem_of_mem hx
        have := hall j hj
        rw [Mi.getD_of (List.getElem?_eq_getElem hj)] at this
        rw [this]
        decide
      rw [e] at k
      exact k
/-! ### all who are found -/
def foundM (hs : List Home) (prs : List (Nat × Nat)) (t : Nat) : List Nat := (List.range hs.length).filter fun i => (hs[i]?).any fun h => prs.any (hit h t)
theorem foundBy_eq (m : Map) (prs : List (Nat × Nat)) (t : Nat) : Vbcsag.foundBy m prs t = foundM m.homes prs t := rfl
theorem foundM_len (hs : List Home) (prs : List (Nat × Nat)) (t : Nat) : (foundM hs prs t).length ≤ hs.length := by
  have := List.length_filter_le (fun i => (hs[i]?).any fun h => prs.any (hit h t)) (List.range hs.length)
  rw [List.length_range] at this
  exact this
def spFound (CH : Addr) : Sp := fun vs H Q _ => ∃ (hl pp : Addr) (bs tas : List Addr) (hs : List Home) (prs : List (Nat × Nat)) (t : Nat), vs = [.ref hl, .ref pp, vN t] ∧ HomM CH H hl bs hs ∧ hs.length ≤ 12 ∧ PrsT H pp tas prs ∧
  ∀ H' p, Same H H' → H p = none → H' p = some (.lst ((foundM hs prs t).map vN)) → Q (.ref p) H'
theorem df_found_homes (D : Dn K mg "found_homes" s_found_homes ["homes", "passed", "start"]) (Df1 : Df P w K mg base "is_found" ["home", "passed", "start"] 1 (spIsFound CH)) (ge : mg "enumerate" = none) : Df P w K mg base "found_homes" ["homes", "passed", "start"] 2 (spFound CH) := by
  refine D.df sc_found_homes (fun vs H Q E h => ?_) (fun f cdv A outer s H vs Q E hr h => ?_)
  · obtain ⟨hl, pp, bs, tas, hs, prs, t, rfl, _⟩ := h
    rfl
  · obtain ⟨hl, pp, bs, tas, hs, prs, t, rfl, hh, h12, hp, k⟩ := h
    have nd := sc_found_homes.nd
    refine ⟨_, pss_one (ps_ret (pe_lc (own := [("number", 3), ("home", 4)]) (by rfl) nd (pi_enum (by rfl) ge (pa_cons (pv 0) pa_nil))
      (blkOk_by (N := ["homes", "passed", "start", "number", "home"]) (sc := defScope s_found_homes) (own := [("number", 3), ("home", 4)]) (by decide +kernel))
      (fun _ _ _ _ _ => pg_tupK (n := 2) K rfl (pgs_cons (pg_name (i := 3) nd rfl (.inl rfl)) (pgs_cons (pg_name (i := 4) nd rfl (.inl rfl)) pgs_nil)))
      (fun _ _ _ _ _ => pts_one (pt_val (pe_df Df1 hr (by rfl) (pa_cons (pv 4) (pa_cons (pv 1) (pa_cons (pv 2) pa_nil))))))
      (fun _ _ _ _ _ => pv 3))), ?_⟩
    let keep : Nat → Bool := fun i => (hs[i]?).any fun h => prs.any (hit h t)
    refine ⟨_, rfl, hl, _, rfl, SqL.of hh.lst, fun D hD => lc_gen hs.length (fun i => ((List.range (min i hs.length)).filter keep).map vN) hD rfl (fun i => ?_) (fun i H1 hi sm => ?_) (fun H1 sm => ?_) ?_ ?_⟩
    · have := len_filter_le keep (min i hs.length)
      omega
    · exact ⟨_, _, SqL.of (hh.same sm).lst, List.getElem?_eq_getElem (by rw [List.length_map, hh.len]; exact hi)⟩
    · exact ⟨_, SqL.of (hh.same sm).lst, by rw [List.length_map, hh.len]; exact Nat.le_refl _⟩
    · rintro i H2 x H3 Kp Kn hi sm ⟨Tt, y, rfl, nT, rfl, hy⟩ hk hn
      have hh2 := hh.same sm
      have ey := hy _ (SqL.of hh2.lst)
      have hib : i < bs.length := by rw [hh.len]; exact hi
      rw [List.getElem?_map, List.getElem?_eq_getElem hib] at ey
      have ey : V.ref bs[i] = y := Option.some.inj ey
      subst ey
      have hat := hh2.at_ i _ _ (List.getElem?_eq_getElem hib) (List.getElem?_eq_getElem hi)
      have s2 : Same H2 (upd H2 Tt (.tup [.int (i : Nat), V.ref bs[i]])) := same_upd nT
      have ek : keep i = prs.any (hit hs[i] t) := by
        show (hs[i]?).any _ = _
        rw [List.getElem?_eq_getElem hi]
        rfl
      obtain ⟨dx, ha⟩ := hat
      have m1 : min (i + 1) hs.length = i + 1 := by omega
      have m2 : min i hs.length = i := by omega
      refine ⟨Tt, _, rfl, .inl (.inl upd_same), rfl, _, _, rfl, _, _, rfl, rfl, rfl, ?_⟩
      refine ⟨_, rfl, _, rfl, _, rfl, bs[i], pp, tas, hs[i], prs, t, rfl, ⟨dx, s2 _ _ ha⟩, (hp.same sm).same s2, _, rfl, ?_⟩
      rw [← ek]
      cases hb : keep i with
      | true =>
        refine iteP rfl ?_
        refine ⟨_, rfl, hk _ _ s2 ?_⟩
        simp only [m1, m2]
        rw [List.range_succ, List.filter_append, List.map_append, List.filter_cons, if_pos hb]
        rfl
      | false =>
        refine iteN (by decide) ?_
        refine hn _ s2 ?_
        simp only [m1, m2]
        rw [List.range_succ, List.filter_append, List.filter_cons, if_neg (by rw [hb]; decide)]
        simp
    · intro H1 sm hD1
      rw [Nat.min_self] at hD1
      exact k H1 D sm hD hD1
/-! ### the best start -/
def bestM (hs : List Home) (prs : List (Nat × Nat)) (n : Nat) : Nat × Nat := (List.range n).foldl (fun (b : Nat × Nat) t => if b.2 < (foundM hs prs t).length then (t, (foundM hs prs t).length) else b) (0, 0)
theorem bestM_succ (hs : List Home) (prs : List (Nat × Nat)) (n : Nat) : bestM hs prs (n + 1) = if (bestM hs prs n).2 < (foundM hs prs n).length then (n, (foundM hs prs n).length) else bestM hs prs n := by
  unfold bestM
  rw [List.range_succ, List.foldl_append]
  rfl
theorem best_gen (c : Nat → Nat) (h : Nat) : (List.range (h + 1)).foldl (fun (b : Nat × Nat) t => if b.2 < c t then (t, c t) else b) (0, c 0) = (List.range (h + 1)).foldl (fun (b : Nat × Nat) t => if b.2 < c t then (t, c t) else b) (0, 0) := by
  rw [List.range_succ_eq_map, List.foldl_cons, List.foldl_cons]
  congr 1
  show (if c 0 < c 0 then (0, c 0) else (0, c 0)) = if 0 < c 0 then (0, c 0) else (0, 0)
  rw [if_neg (Nat.lt_irrefl _)]
  by_cases z : 0 < c 0
  · rw [if_pos z]
  · rw [if_neg z]
    have : c 0 = 0 := by omega
    rw [this]
theorem best_eq (m : Map) (q h : Nat) : Vbcsag.best m q h = bestM m.homes (Vbcsag.passes m q) (h + 1) := best_gen (fun t => (foundM m.homes (Vbcsag.passes m q) t).length) h
def spBest (CH : Addr) : Sp := fun vs H Q _ => ∃ (hl pp : Addr) (bs tas : List Addr) (hs : List Home) (prs : List (Nat × Nat)) (t : Nat), vs = [.ref hl, .ref pp, vN t] ∧ HomM CH H hl bs hs ∧ hs.length ≤ 12 ∧ PrsT H pp tas prs ∧ t ≤ 200 ∧
  ∀ H' p, Same H H' → H p = none → H' p = some (.lst [vN (bestM hs prs (t + 1)).1, vN (bestM hs prs (t + 1)).2]) → Q (.ref p) H'
theorem df_best_start (D : Dn K mg "best_start" s_best_start ["homes", "passed", "last"]) (Df1 : Df P w K mg base "found_homes" ["homes", "passed", "start"] 2 (spFound CH)) (gr : mg "range" = none) (gl : mg "len" = none) : Df P w K mg base "best_start" ["homes", "passed", "last"] 3 (spBest CH) := by
  refine D.df sc_best_start (fun vs H Q E h => ?_) (fun f cdv A outer s H vs Q E hr h => ?_)
  · obtain ⟨hl, pp, bs, tas, hs, prs, t, rfl, _⟩ := h
    rfl
  · obtain ⟨hl, pp, bs, tas, hs, prs, t, rfl, hh, h12, hp, t200, k⟩ := h
    have nd := sc_best_start.nd
    refine ⟨_, pss_cons (ps_set (i := 3) nd rfl (.inl rfl) pe_int)
      (pss_cons (ps_set (i := 4) nd rfl (.inl rfl) pe_int)
      (pss_cons (ps_for PassesOwn.never rfl (pi_range1 (by rfl) gr (pa_cons (pe_op op_addN (pv 2) pe_int) pa_nil)) (pg_name (i := 5) nd rfl (.inl rfl))
        (pss_cons (ps_set (i := 6) nd rfl (.inl rfl) (pe_callB call_len_seq (by rfl) gl PySem.boot_len (pa_cons (pe_df Df1 hr (by rfl) (pa_cons (pv 0) (pa_cons (pv 1) (pa_cons (pv 5) pa_nil)))) pa_nil)))
        (pss_one (ps_if (pt_cmpR op_gt (pv 6) (pv 4) (nomark _)) (pss_cons (ps_set (i := 3) nd rfl (.inl rfl) (pv 5)) (pss_one (ps_set (i := 4) nd rfl (.inl rfl) (pv 6)))) pss_nil))))
      (pss_one (ps_ret (pe_lst (pa_cons (pv 3) (pa_cons (pv 4) pa_nil))))))), ?_⟩
    refine ⟨_, rfl, t, 1, rfl, rfl, ((t + 1 : Nat) : Int), rfl, by omega, by omega, ?_⟩
    refine for_gen (t + 1) (fun i σ H' => Same H H' ∧ ∃ (v5 v6 : Option V), σ = [some (.ref hl), some (.ref pp), some (vN t), some (vN (bestM hs prs i).1), some (vN (bestM hs prs i).2), v5, v6]) ⟨Same.refl H, none, none, rfl⟩ ?_ ?_ ?_ ?_
    · rintro i σ H' hi _
      exact hi
    · rintro σ H' _
      exact Nat.le_refl _
    · rintro i σ H1 x H2 hi ⟨s1, v5, v6, rfl⟩ ⟨rfl, rfl⟩
      rw [Int.zero_add]
      refine ⟨_, rfl, _, rfl, _, rfl, hl, pp, bs, tas, hs, prs, i, rfl, hh.same s1, h12, hp.same s1, fun H3 fp s3 nfp hfp => ?_⟩
      refine ⟨fp, _, rfl, .inl (SqL.of hfp), ?_⟩
      rw [List.length_map]
      refine ⟨_, rfl, _, rfl, _, _, rfl, rfl, _, rfl, ?_⟩
      have hsu := bestM_succ hs prs i
      by_cases z : (bestM hs prs i).2 < (foundM hs prs i).length
      · refine iteP (decide_eq_true (by omega)) ?_
        rw [if_pos z] at hsu
        refine ⟨_, rfl, _, rfl, s1.trans s3, some (vN i), some (vN (foundM hs prs i).length), ?_⟩
        rw [hsu]
        rfl
      · refine iteN (fun y => z (by have := of_decide_eq_true y; omega)) ?_
        rw [if_neg z] at hsu
        refine ⟨s1.trans s3, some (vN i), some (vN (foundM hs prs i).length), ?_⟩
        rw [hsu]
        rfl
    · rintro σ H1 ⟨s1, v5, v6, rfl⟩
      refine ⟨_, rfl, _, rfl, (by show 2 ≤ sizeLine; decide), fun p np => ?_⟩
      exact k _ p (s1.trans (same_upd np)) (none_back s1 np) upd_same
end
end Rw

set_option Elab.async false
set_option linter.all false
set_option maxRecDepth 100000
set_option maxHeartbeats 2000000
namespace Rw
open PySem PySem.Spec PyProof.Rows L2
open Vbcsag (Street Map Home)
abbrev s_answer_heights : Stmt := topS 81
abbrev s_answer_homes : Stmt := topS 83
abbrev s_passed_from : Stmt := topS 84
abbrev s_answer_found : Stmt := topS 85
abbrev s_answer_best : Stmt := topS 86
abbrev s_answer_street : Stmt := topS 87
abbrev s_answer_total : Stmt := topS 90
abbrev s_answer_sizes : Stmt := topS 91
theorem sc_answer_heights : FnScope ["desk", "call"] ["desk", "call"] (defScope s_answer_heights) := ⟨rfl, rfl, rfl, by decide +kernel, rfl, by decide +kernel, by decide +kernel⟩
theorem sc_answer_homes : FnScope ["desk", "call", "answer", "home"] ["desk", "call"] (defScope s_answer_homes) := ⟨rfl, rfl, rfl, by decide +kernel, rfl, by decide +kernel, by decide +kernel⟩
theorem sc_passed_from : FnScope ["desk", "place"] ["desk", "place"] (defScope s_passed_from) := ⟨rfl, rfl, rfl, by decide +kernel, rfl, by decide +kernel, by decide +kernel⟩
theorem sc_answer_found : FnScope ["desk", "call", "place"] ["desk", "call"] (defScope s_answer_found) := ⟨rfl, rfl, rfl, by decide +kernel, rfl, by decide +kernel, by decide +kernel⟩
theorem sc_answer_best : FnScope ["desk", "call", "place"] ["desk", "call"] (defScope s_answer_best) := ⟨rfl, rfl, rfl, by decide +kernel, rfl, by decide +kernel, by decide +kernel⟩
theorem sc_answer_street : FnScope ["desk", "call", "street"] ["desk", "call"] (defScope s_answer_street) := ⟨rfl, rfl, rfl, by decide +kernel, rfl, by decide +kernel, by decide +kernel⟩
theorem sc_answer_total : FnScope ["desk", "call", "must", "street"] ["desk", "call"] (defScope s_answer_total) := ⟨rfl, rfl, rfl, by decide +kernel, rfl, by decide +kernel, by decide +kernel⟩
theorem sc_answer_sizes : FnScope ["desk", "call"] ["desk", "call"] (defScope s_answer_sizes) := ⟨rfl, rfl, rfl, by decide +kernel, rfl, by decide +kernel, by decide +kernel⟩
/-- an answer that reads the homes, and changes nothing -/
def spAH (K : PySem.W.Frag) (C CD CC CH : Addr) (ok : List Int → List Int → Prop) (ans : Map → List Int → List Int → List Int) : Sp := fun vs H Q _ =>
  ∃ (dk dx : Addr) (fs : List (Str × V)) (m : Map) (l : Addr) (as : List Addr) (hl : Addr) (bs : List Addr) (ca cx n1 r1 : Addr) (p : Nat) (nums row : List Int), vs = [.ref dk, .ref ca] ∧ DeskAt K C CD H dk dx fs m l as ∧ fs.lookup ("homes" : Str) = some (.ref hl) ∧ HomM CH H hl bs m.homes ∧ Mi.WM m ∧ CallAt CC H ca cx n1 r1 p nums row ∧ ok nums row ∧
    ∀ H' q, Same H H' → H q = none → H' q = some (.lst ((ans m nums row).map V.int)) → Q (.ref q) H'
section
variable {tk tk2 : Tok} {P : Program} {w : World} {K : PySem.W.Frag} {mg : Str → Option Value} {base : Heap} {C CD CC CH : Addr}
theorem df_answer_heights (TD : TxD K CD) (D : Dn K mg "answer_heights" s_answer_heights ["desk", "call"]) (Dh : Df P w K mg base "heights_of" ["streets", "places"] 6 (spHeights K C)) (Dp : Df P w K mg base "peaks_of" ["streets"] 6 (spPeaks K C)) :
    Df P w K mg base "answer_heights" ["desk", "call"] 7 (spA K C CD CC (fun _ _ => True) ansHeights) := by
  refine D.df sc_answer_heights (fun vs H Q E h => ?_) (fun f cdv A outer s H vs Q E hr h => ?_)
  · obtain ⟨dk, dx, fs, m, l, as, ca, cx, n1, r1, p, nums, row, rfl, _⟩ := h
    rfl
  · obtain ⟨dk, dx, fs, m, l, as, ca, cx, n1, r1, p, nums, row, rfl, hD, wm, hC, _, k⟩ := h
    have hn7 := wm.n7
    have hl16 := wm.len
    have hhl : (Vbcsag.heightsOf m).length = m.n := by rw [Mi.heights_eq wm, List.length_map, List.length_range]
    have hpl : (Vbcsag.peaksOf m).length = m.streets.length := by rw [Mi.peaks_eq wm, List.length_map, List.length_range]
    refine ⟨_, pss_one (ps_ret (pe_op op_cat (pe_op op_cat (pe_lst (pa_cons pe_int pa_nil)) (pe_df Dh hr (by rfl) (pa_cons (pe_fld (pv 0) rfl) (pa_cons (pe_fld (pv 0) rfl) pa_nil)))) (pe_df Dp hr (by rfl) (pa_cons (pe_fld (pv 0) rfl) pa_nil)))), ?_⟩
    refine ⟨(by show 1 ≤ sizeLine; decide), fun p1 np1 => ?_⟩
    have s1 := same_upd (o := .lst [V.int 0]) np1
    have hD1 := hD.same s1
    refine ⟨_, rfl, dk, CD, dx, _, _, rfl, hD1.ob, TD.cl, TD.nS, hD1.st, _, rfl, dk, CD, dx, _, _, rfl, hD1.ob, TD.cl, TD.nP, hD1.pl, l, as, m, rfl, hD1.row, wm, fun H2 hp s2 nhp hhp => ?_⟩
    refine ⟨p1, hp, _, _, rfl, rfl, s2 _ _ upd_same, hhp, ?_, fun p2 np2 => ?_⟩
    · rw [List.length_map, hhl]
      exact Nat.le_trans (Nat.add_le_add_left hn7 1) (by decide)
    have s3 := same_upd (o := .lst ([V.int 0] ++ (Vbcsag.heightsOf m).map V.int)) np2
    have s13 := s1.trans (s2.trans s3)
    have hD3 := hD.same s13
    refine ⟨_, rfl, dk, CD, dx, _, _, rfl, hD3.ob, TD.cl, TD.nS, hD3.st, l, as, m, rfl, hD3.row, wm, fun H4 pp s4 npp hpp => ?_⟩
    refine ⟨p2, pp, _, _, rfl, rfl, s4 _ _ upd_same, hpp, ?_, fun p3 np3 => ?_⟩
    · rw [List.length_append, List.length_map, List.length_map, hhl, hpl]
      show 1 + m.n + m.streets.length ≤ _
      exact Nat.le_trans (show 1 + m.n + m.streets.length ≤ 1000 by omega) (by decide)
    · refine k _ p3 (s13.trans (s4.trans (same_upd np3))) (none_back (s13.trans s4) np3) ?_
      unfold ansHeights
      rw [upd_same, List.map_cons, List.map_append]
      rfl
theorem df_answer_street (T : Txt K mg C) (TD : TxD K CD) (TC : TxC K CC) (D : Dn K mg "answer_street" s_answer_street ["desk", "call"]) (Dr : Df P w K mg base "refused" ["why"] 1 spRefused) (gN : mg "NO_SUCH" = some (.int 3 tk)) (gl : mg "len" = none) :
    Df P w K mg base "answer_street" ["desk", "call"] 2 (spA K C CD CC okStreet ansStreet) := by
  refine D.df sc_answer_street (fun vs H Q E h => ?_) (fun f cdv A outer s H vs Q E hr h => ?_)
  · obtain ⟨dk, dx, fs, m, l, as, ca, cx, n1, r1, p, nums, row, rfl, _⟩ := h
    rfl
  · obtain ⟨dk, dx, fs, m, l, as, ca, cx, n1, r1, p, nums, row, rfl, hD, wm, hC, ⟨z, rfl, hz0, hz1⟩, k⟩ := h
    have nd := sc_answer_street.nd
    refine ⟨_, pss_cons (ps_if (pt_cmpR op_ge (pe_ix ix_list (pe_fld (pv 1) rfl) pe_int (fun _ _ => rfl)) (pe_callB call_len_seq (by rfl) gl PySem.boot_len (pa_cons (pe_fld (pv 0) rfl) pa_nil)) (nomark _)) (pss_one (ps_ret (pe_df Dr hr (by rfl) (pa_cons (pe_glob (v := .int 3) rfl gN ⟨_, rfl⟩) pa_nil)))) pss_nil)
      (pss_cons (ps_set (i := 2) nd rfl (.inl rfl) (pe_ix ix_list (pe_fld (pv 0) rfl) (pe_ix ix_list (pe_fld (pv 1) rfl) pe_int (fun _ _ => rfl)) (fun _ _ => rfl)))
      (pss_one (ps_ret (pe_lst (pa_cons pe_int (pa_cons (pe_fld (pv 2) rfl) (pa_cons (pe_fld (pv 2) rfl) (pa_cons (pe_fld (pv 2) rfl) (pa_cons (pe_fld (pv 2) rfl) pa_nil))))))))), ?_⟩
    obtain ⟨q, rfl⟩ : ∃ q : Nat, z = (q : Int) := ⟨z.toNat, by omega⟩
    refine ⟨_, rfl, ca, CC, cx, _, _, rfl, hC.ob, TC.cl, TC.nN, rfl, n1, _, _, V.int (q : Int), rfl, rfl, SqL.of hC.nu, atI_nat (j := 0) rfl, _, rfl, dk, CD, dx, _, _, rfl, hD.ob, TD.cl, TD.nS, hD.st, l, _, rfl, .inl hD.row.lst, _, _, rfl, rfl, _, rfl, ?_⟩
    rw [List.length_map, hD.row.len]
    unfold ansStreet at k
    rw [List.headD_cons] at k
    by_cases hp : (m.streets.length : Int) ≤ (q : Int)
    · refine iteP (decide_eq_true hp) ?_
      rw [if_pos hp] at k
      exact ⟨3, rfl, fun H2 p2 s2 n2 h2 => k H2 p2 s2 n2 h2⟩
    · refine iteN (fun y => hp (of_decide_eq_true y)) ?_
      rw [if_neg hp, Int.toNat_natCast] at k
      have hq : q < m.streets.length := by omega
      obtain ⟨a, ha, ⟨ax, hs⟩⟩ := hD.row.get hq
      refine ⟨_, rfl, dk, CD, dx, _, _, rfl, hD.ob, TD.cl, TD.nS, hD.st, _, rfl, ca, CC, cx, _, _, rfl, hC.ob, TC.cl, TC.nN, rfl, n1, _, _, V.int (q : Int), rfl, rfl, SqL.of hC.nu, atI_nat (j := 0) rfl, l, _, _, V.ref a, rfl, rfl, hD.row.lst, atI_nat (by rw [List.getElem?_map, ha]; rfl), ?_⟩
      refine ⟨_, rfl, a, C, ax, _, _, rfl, hs, T.cl, T.nA, rfl, _, rfl, a, C, ax, _, _, rfl, hs, T.cl, T.nB, rfl, _, rfl, a, C, ax, _, _, rfl, hs, T.cl, T.nL, rfl, _, rfl, a, C, ax, _, _, rfl, hs, T.cl, T.nO, rfl, (by show 5 ≤ sizeLine; decide), fun p1 np1 => ?_⟩
      exact k _ p1 (same_upd np1) np1 upd_same
theorem sum_need (l : List Street) : (l.map fun x => ((x.long : Int) * (x.need : Int))).sum = ((Vbcsag.sum (l.map fun x => x.long * x.need) : Nat) : Int) := by
  rw [Mi.vsum_eq, ← sum_vN, List.map_map]
  congr 1
theorem df_answer_total (T : Txt K mg C) (TD : TxD K CD) (D : Dn K mg "answer_total" s_answer_total ["desk", "call"]) (Dw : Df P w K mg base "told_walk" ["streets", "begin"] 8 (spWalk K C)) (Dl : Df P w K mg base "length_together" ["streets", "row"] 1 (spLenTog K C)) (gs : mg "sum" = none) :
    Df P w K mg base "answer_total" ["desk", "call"] 9 (spA K C CD CC (fun _ _ => True) ansTotal) := by
  refine D.df sc_answer_total (fun vs H Q E h => ?_) (fun f cdv A outer s H vs Q E hr h => ?_)
  · obtain ⟨dk, dx, fs, m, l, as, ca, cx, n1, r1, p, nums, row, rfl, _⟩ := h
    rfl
  · obtain ⟨dk, dx, fs, m, l, as, ca, cx, n1, r1, p, nums, row, rfl, hD, wm, hC, _, k⟩ := h
    have nd := sc_answer_total.nd
    have hn1 := wm.n1
    have hl16 := wm.len
    have hwl := walk_lt wm (show 0 < m.n by omega)
    refine ⟨_, pss_cons (ps_set (i := 2) nd rfl (.inl rfl) (pe_callB (cr_sum (by rfl)) (by rfl) gs (by decide +kernel) (pa_cons (pe_lc (own := [("street", 3)]) (g := gName 3) (tt := tYes) (by rfl) nd (pi_list (pe_fld (pv 0) rfl))
        (blkOk_by (N := ["desk", "call", "must", "street"]) (sc := defScope s_answer_total) (own := [("street", 3)]) (by decide +kernel))
        (fun _ _ _ _ _ => pg_name (i := 3) nd rfl (.inl rfl)) (fun _ _ _ _ _ => pts_nil) (fun _ _ _ _ _ => pe_op op_mul (pe_fldK K (pv 3) rfl) (pe_fldK K (pv 3) rfl))) pa_nil)))
      (pss_one (ps_ret (pe_lst (pa_cons pe_int (pa_cons (pv 2) (pa_cons (pe_df Dl (hr.mono (by decide)) (by rfl) (pa_cons (pe_fld (pv 0) rfl) (pa_cons (pe_df Dw hr (by rfl) (pa_cons (pe_fld (pv 0) rfl) (pa_cons pe_int pa_nil))) pa_nil))) pa_nil)))))), ?_⟩
    refine ⟨_, rfl, dk, CD, dx, _, _, rfl, hD.ob, TD.cl, TD.nS, hD.st, l, rfl, ⟨_, hD.row.lst⟩, fun D hD0 => lc_gen m.streets.length (fun i => (m.streets.take i).map fun x => V.int ((x.long : Int) * (x.need : Int))) hD0 rfl (fun i => by rw [List.length_map, List.length_take]; omega) (fun i H3 hi sm => ?_) (fun H3 sm => ?_) ?_ ?_⟩
    · exact ⟨_, _, (hD.row.same sm).lst, List.getElem?_eq_getElem (by rw [List.length_map, hD.row.len]; exact hi)⟩
    · exact ⟨_, (hD.row.same sm).lst, by rw [List.length_map, hD.row.len]; exact Nat.le_refl _⟩
    · rintro i H3 x H4 Kp Kn hi sm ⟨rfl, hx⟩ hk hn
      have hR3 := hD.row.same sm
      have ex := hx _ hR3.lst
      obtain ⟨a, ha, ⟨ax, hs⟩⟩ := hR3.get hi
      rw [List.getElem?_map, ha] at ex
      have ex : V.ref a = x := Option.some.inj ex
      subst ex
      have hv := wm.vals _ (List.mem_of_getElem? (Mi.getD_lt hi Vbcsag.street0))
      refine ⟨rfl, ?_⟩
      refine ⟨_, rfl, a, C, ax, _, _, rfl, hs, T.cl, T.nL, rfl, _, rfl, a, C, ax, _, _, rfl, hs, T.cl, T.nO, rfl, _, _, rfl, rfl, .inl ⟨by omega, by omega⟩, hk _ _ (fun _ _ h => h) ?_⟩
      simp only [take_snocV (Mi.getD_lt hi Vbcsag.street0), List.map_append, List.map_cons, List.map_nil]
    · intro H1 s1 hD1
      refine ⟨D, (m.streets.map fun x => (x.long : Int) * (x.need : Int)), rfl, SqL.of (by rw [hD1, List.take_length, List.map_map]; rfl), ?_⟩
      have hDk := hD.same s1
      refine ⟨_, rfl, _, rfl, dk, CD, dx, _, _, rfl, hDk.ob, TD.cl, TD.nS, hDk.st, _, rfl, dk, CD, dx, _, _, rfl, hDk.ob, TD.cl, TD.nS, hDk.st, l, as, m, 0, rfl, hDk.row, wm, by omega, fun H2 wp s2 nwp hwp => ?_⟩
      have hD2 := hDk.same s2
      refine ⟨l, wp, as, _, _, rfl, hD2.row, SqL.of hwp, hwl.1, by omega, fun H3 s3 => ?_⟩
      rw [← Mi.walked_eq, total_walk wm (show 0 < m.n by omega), sum_need]
      refine ⟨(by show 3 ≤ sizeLine; decide), fun p1 np1 => ?_⟩
      refine k _ p1 (s1.trans (s2.trans (s3.trans (same_upd np1)))) (none_back (s1.trans (s2.trans s3)) np1) ?_
      unfold ansTotal
      rw [upd_same]
      simp only [List.map_cons, List.map_nil]
      rw [← Int.natCast_add]
def spPassedFrom (K : PySem.W.Frag) (C CD : Addr) : Sp := fun vs H Q _ => ∃ (dk dx : Addr) (fs : List (Str × V)) (m : Map) (l : Addr) (as : List Addr) (q : Nat), vs = [.ref dk, vN q] ∧ DeskAt K C CD H dk dx fs m l as ∧ Mi.WM m ∧ q < m.n ∧
  ∀ H' pp tas, Same H H' → H pp = none → PrsT H' pp tas (Vbcsag.passes m q) → Q (.ref pp) H'
theorem df_passed_from (TD : TxD K CD) (D : Dn K mg "passed_from" s_passed_from ["desk", "place"]) (Dp : Df P w K mg base "passed_places" ["streets", "walk", "first"] 2 (spPassed K C)) (Dw : Df P w K mg base "told_walk" ["streets", "begin"] 8 (spWalk K C)) :
    Df P w K mg base "passed_from" ["desk", "place"] 9 (spPassedFrom K C CD) := by
  refine D.df sc_passed_from (fun vs H Q E h => ?_) (fun f cdv A outer s H vs Q E hr h => ?_)
  · obtain ⟨dk, dx, fs, m, l, as, q, rfl, _⟩ := h
    rfl
  · obtain ⟨dk, dx, fs, m, l, as, q, rfl, hD, wm, hq, k⟩ := h
    have hwl := walk_lt wm hq
    refine ⟨_, pss_one (ps_ret (pe_df Dp (hr.mono (by decide)) (by rfl) (pa_cons (pe_fld (pv 0) rfl) (pa_cons (pe_df Dw hr (by rfl) (pa_cons (pe_fld (pv 0) rfl) (pa_cons (pv 1) pa_nil))) (pa_cons (pv 1) pa_nil))))), ?_⟩
    refine ⟨_, rfl, dk, CD, dx, _, _, rfl, hD.ob, TD.cl, TD.nS, hD.st, _, rfl, dk, CD, dx, _, _, rfl, hD.ob, TD.cl, TD.nS, hD.st, _, rfl, l, as, m, q, rfl, hD.row, wm, hq, fun H2 wp s2 nwp hwp => ?_⟩
    have hD2 := hD.same s2
    refine ⟨_, rfl, l, wp, as, _, _, q, rfl, hD2.row, SqL.of hwp, hwl.1, by omega, fun H3 pp tas s3 npp hpp => ?_⟩
    refine k H3 pp tas (s2.trans s3) (none_back s2 npp) ?_
    rw [passes_passM wm hq]
    exact hpp
theorem df_answer_found (TD : TxD K CD) (TC : TxC K CC) (D : Dn K mg "answer_found" s_answer_found ["desk", "call"]) (Dr : Df P w K mg base "refused" ["why"] 1 spRefused) (Dh : Df P w K mg base "found_homes" ["homes", "passed", "start"] 2 (spFound CH)) (Dp : Df P w K mg base "passed_from" ["desk", "place"] 9 (spPassedFrom K C CD)) (gN : mg "NO_SUCH" = some (.int 3 tk)) :
    Df P w K mg base "answer_found" ["desk", "call"] 10 (spAH K C CD CC CH okShare ansFound) := by
  refine D.df sc_answer_found (fun vs H Q E h => ?_) (fun f cdv A outer s H vs Q E hr h => ?_)
  · obtain ⟨dk, dx, fs, m, l, as, hl, bs, ca, cx, n1, r1, p, nums, row, rfl, _⟩ := h
    rfl
  · obtain ⟨dk, dx, fs, m, l, as, hl, bs, ca, cx, n1, r1, p, nums, row, rfl, hD, hhl, hM, wm, hC, ⟨z, y, rfl, hz, hy0, hy1⟩, k⟩ := h
    have nd := sc_answer_found.nd
    have h12 := wm.hlen
    refine ⟨_, pss_cons (ps_set (i := 2) nd rfl (.inl rfl) (pe_ix ix_list (pe_fld (pv 1) rfl) pe_int (fun _ _ => rfl)))
      (pss_cons (ps_if (pt_cmpR op_ge (pv 2) (pe_fld (pv 0) rfl) (nomark _)) (pss_one (ps_ret (pe_df Dr (hr.mono (by decide)) (by rfl) (pa_cons (pe_glob (v := .int 3) rfl gN ⟨_, rfl⟩) pa_nil)))) pss_nil)
      (pss_one (ps_ret (pe_op op_cat (pe_lst (pa_cons pe_int pa_nil)) (pe_df Dh (hr.mono (by decide)) (by rfl) (pa_cons (pe_fld (pv 0) rfl) (pa_cons (pe_df Dp hr (by rfl) (pa_cons (pv 0) (pa_cons (pv 2) pa_nil))) (pa_cons (pe_ix ix_list (pe_fld (pv 1) rfl) pe_int (fun _ _ => rfl)) pa_nil)))))))), ?_⟩
    obtain ⟨q, rfl⟩ : ∃ q : Nat, z = (q : Int) := ⟨z.toNat, by omega⟩
    obtain ⟨t, rfl⟩ : ∃ t : Nat, y = (t : Int) := ⟨y.toNat, by omega⟩
    refine ⟨_, rfl, ca, CC, cx, _, _, rfl, hC.ob, TC.cl, TC.nN, rfl, n1, _, _, V.int (q : Int), rfl, rfl, SqL.of hC.nu, atI_nat (j := 0) rfl, ?_⟩
    refine ⟨_, rfl, _, rfl, dk, CD, dx, _, _, rfl, hD.ob, TD.cl, TD.nP, hD.pl, _, _, rfl, rfl, _, rfl, ?_⟩
    unfold ansFound at k
    rw [List.headD_cons, show ([(q : Int), (t : Int)] : List Int).getD 1 0 = (t : Int) from rfl] at k
    by_cases hp : (m.n : Int) ≤ (q : Int)
    · refine iteP (decide_eq_true hp) ?_
      rw [if_pos hp] at k
      exact ⟨3, rfl, fun H2 p2 s2 n2 h2 => k H2 p2 s2 n2 h2⟩
    · refine iteN (fun y => hp (of_decide_eq_true y)) ?_
      rw [if_neg hp, Int.toNat_natCast, Int.toNat_natCast] at k
      have hq : q < m.n := by omega
      refine ⟨(by show 1 ≤ sizeLine; decide), fun p1 np1 => ?_⟩
      have s1 := same_upd (o := .lst [V.int 0]) np1
      have hD1 := hD.same s1
      refine ⟨_, rfl, dk, CD, dx, _, _, rfl, hD1.ob, TD.cl, TD.nH, hhl, _, rfl, _, rfl, dk, dx, fs, m, l, as, q, rfl, hD1, wm, hq, fun H2 pp tas s2 npp hpp => ?_⟩
      have s12 := s1.trans s2
      have hC2 := hC.same s12
      refine ⟨_, rfl, ca, CC, cx, _, _, rfl, hC2.ob, TC.cl, TC.nN, rfl, n1, _, _, V.int (t : Int), rfl, rfl, SqL.of hC2.nu, atI_nat (j := 1) rfl, hl, pp, bs, tas, _, _, t, rfl, hM.same s12, h12, hpp, fun H3 fp s3 nfp hfp => ?_⟩
      refine ⟨p1, fp, _, _, rfl, rfl, s3 _ _ (s2 _ _ upd_same), hfp, ?_, fun p3 np3 => ?_⟩
      · rw [List.length_map]
        have := foundM_len m.homes (Vbcsag.passes m q) t
        exact Nat.le_trans (show 1 + (foundM m.homes (Vbcsag.passes m q) t).length ≤ 1000 by omega) (by decide)
      · refine k _ p3 (s12.trans (s3.trans (same_upd np3))) (none_back (s12.trans s3) np3) ?_
        rw [upd_same, vN_ints]
        rfl
theorem df_answer_best (TD : TxD K CD) (TC : TxC K CC) (D : Dn K mg "answer_best" s_answer_best ["desk", "call"]) (Dr : Df P w K mg base "refused" ["why"] 1 spRefused) (Dh : Df P w K mg base "best_start" ["homes", "passed", "last"] 3 (spBest CH)) (Dp : Df P w K mg base "passed_from" ["desk", "place"] 9 (spPassedFrom K C CD)) (gN : mg "NO_SUCH" = some (.int 3 tk)) :
    Df P w K mg base "answer_best" ["desk", "call"] 10 (spAH K C CD CC CH okBest ansBest) := by
  refine D.df sc_answer_best (fun vs H Q E h => ?_) (fun f cdv A outer s H vs Q E hr h => ?_)
  · obtain ⟨dk, dx, fs, m, l, as, hl, bs, ca, cx, n1, r1, p, nums, row, rfl, _⟩ := h
    rfl
  · obtain ⟨dk, dx, fs, m, l, as, hl, bs, ca, cx, n1, r1, p, nums, row, rfl, hD, hhl, hM, wm, hC, ⟨z, y, rfl, hz, hy0, hy1⟩, k⟩ := h
    have nd := sc_answer_best.nd
    have h12 := wm.hlen
    refine ⟨_, pss_cons (ps_set (i := 2) nd rfl (.inl rfl) (pe_ix ix_list (pe_fld (pv 1) rfl) pe_int (fun _ _ => rfl)))
      (pss_cons (ps_if (pt_cmpR op_ge (pv 2) (pe_fld (pv 0) rfl) (nomark _)) (pss_one (ps_ret (pe_df Dr (hr.mono (by decide)) (by rfl) (pa_cons (pe_glob (v := .int 3) rfl gN ⟨_, rfl⟩) pa_nil)))) pss_nil)
      (pss_one (ps_ret (pe_op op_cat (pe_lst (pa_cons pe_int pa_nil)) (pe_df Dh (hr.mono (by decide)) (by rfl) (pa_cons (pe_fld (pv 0) rfl) (pa_cons (pe_df Dp hr (by rfl) (pa_cons (pv 0) (pa_cons (pv 2) pa_nil))) (pa_cons (pe_ix ix_list (pe_fld (pv 1) rfl) pe_int (fun _ _ => rfl)) pa_nil)))))))), ?_⟩
    obtain ⟨q, rfl⟩ : ∃ q : Nat, z = (q : Int) := ⟨z.toNat, by omega⟩
    obtain ⟨t, rfl⟩ : ∃ t : Nat, y = (t : Int) := ⟨y.toNat, by omega⟩
    refine ⟨_, rfl, ca, CC, cx, _, _, rfl, hC.ob, TC.cl, TC.nN, rfl, n1, _, _, V.int (q : Int), rfl, rfl, SqL.of hC.nu, atI_nat (j := 0) rfl, ?_⟩
    refine ⟨_, rfl, _, rfl, dk, CD, dx, _, _, rfl, hD.ob, TD.cl, TD.nP, hD.pl, _, _, rfl, rfl, _, rfl, ?_⟩
    unfold ansBest at k
    rw [List.headD_cons, show ([(q : Int), (t : Int)] : List Int).getD 1 0 = (t : Int) from rfl] at k
    by_cases hp : (m.n : Int) ≤ (q : Int)
    · refine iteP (decide_eq_true hp) ?_
      rw [if_pos hp] at k
      exact ⟨3, rfl, fun H2 p2 s2 n2 h2 => k H2 p2 s2 n2 h2⟩
    · refine iteN (fun y => hp (of_decide_eq_true y)) ?_
      rw [if_neg hp, Int.toNat_natCast, Int.toNat_natCast, best_eq] at k
      have hq : q < m.n := by omega
      refine ⟨(by show 1 ≤ sizeLine; decide), fun p1 np1 => ?_⟩
      have s1 := same_upd (o := .lst [V.int 0]) np1
      have hD1 := hD.same s1
      refine ⟨_, rfl, dk, CD, dx, _, _, rfl, hD1.ob, TD.cl, TD.nH, hhl, _, rfl, _, rfl, dk, dx, fs, m, l, as, q, rfl, hD1, wm, hq, fun H2 pp tas s2 npp hpp => ?_⟩
      have s12 := s1.trans s2
      have hC2 := hC.same s12
      refine ⟨_, rfl, ca, CC, cx, _, _, rfl, hC2.ob, TC.cl, TC.nN, rfl, n1, _, _, V.int (t : Int), rfl, rfl, SqL.of hC2.nu, atI_nat (j := 1) rfl, hl, pp, bs, tas, _, _, t, rfl, hM.same s12, h12, hpp, by omega, fun H3 fp s3 nfp hfp => ?_⟩
      refine ⟨p1, fp, _, _, rfl, rfl, s3 _ _ (s2 _ _ upd_same), hfp, (by show 3 ≤ sizeLine; decide), fun p3 np3 => ?_⟩
      refine k _ p3 (s12.trans (s3.trans (same_upd np3))) (none_back (s12.trans s3) np3) ?_
      rw [upd_same]
      rfl
/-! ### all homes -/
def flat3 (l : List Home) : List Int := l.flatMap fun h => [(h.place : Int), (h.from_ : Int), (h.to_ : Int)]
theorem flat3_snoc (l : List Home) (x : Home) : flat3 (l ++ [x]) = flat3 l ++ [(x.place : Int), (x.from_ : Int), (x.to_ : Int)] := by
  unfold flat3
  rw [List.flatMap_append]
  rfl
theorem flat3_len (l : List Home) : (flat3 l).length = 3 * l.length := by
  induction l with
  | nil => rfl
  | cons x l ih =>
    show (flat3 l).length + 1 + 1 + 1 = 3 * (l.length + 1)
    omega
theorem df_answer_homes (TD : TxD K CD) (TH : TxH K CH) (D : Dn K mg "answer_homes" s_answer_homes ["desk", "call"]) : Df P w K mg base "answer_homes" ["desk", "call"] 1 (spAH K C CD CC CH (fun _ _ => True) ansHomes) := by
  refine D.df sc_answer_homes (fun vs H Q E h => ?_) (fun f cdv A outer s H vs Q E hr h => ?_)
  · obtain ⟨dk, dx, fs, m, l, as, hl, bs, ca, cx, n1, r1, p, nums, row, rfl, _⟩ := h
    rfl
  · obtain ⟨dk, dx, fs, m, l, as, hl, bs, ca, cx, n1, r1, p, nums, row, rfl, hD, hhl, hM, wm, hC, _, k⟩ := h
    have nd := sc_answer_homes.nd
    have h12 := wm.hlen
    refine ⟨_, pss_cons (ps_set (i := 2) nd rfl (.inl rfl) (pe_lst (pa_cons pe_int pa_nil)))
      (pss_cons (ps_for PassesOwn.never rfl (pi_list (pe_fld (pv 0) rfl)) (pg_name (i := 3) nd rfl (.inl rfl))
        (pss_one (ps_expr (pe_bm PySem.F.plainAttrs_list PySem.F.slot_list_extend PySem.F.type_list_extend mt_extend (pv 2) (pa_cons (pe_lst (pa_cons (pe_fld (pv 3) rfl) (pa_cons (pe_fld (pv 3) rfl) (pa_cons (pe_fld (pv 3) rfl) pa_nil)))) pa_nil)))))
      (pss_one (ps_ret (pv 2)))), ?_⟩
    refine ⟨(by show 1 ≤ sizeLine; decide), fun ap nap => ?_⟩
    have s1 := same_upd (o := .lst [V.int 0]) nap
    have hD1 := hD.same s1
    refine ⟨_, rfl, dk, CD, dx, _, _, rfl, hD1.ob, TD.cl, TD.nH, hhl, hl, rfl, ⟨_, SqL.of (hM.same s1).lst⟩, ?_⟩
    refine for_gen m.homes.length (fun i σ H' => Same H H' ∧ H' ap = some (.lst ((0 :: flat3 (m.homes.take i)).map V.int)) ∧ ∃ v3 : Option V, σ = [some (.ref dk), some (.ref ca), some (.ref ap), v3])
      ⟨s1, by rw [upd_same]; rfl, none, rfl⟩ ?_ ?_ ?_ ?_
    · rintro i σ H' hi ⟨s5, _⟩
      exact ⟨_, _, SqL.of (hM.same s5).lst, List.getElem?_eq_getElem (by rw [List.length_map, hM.len]; exact hi)⟩
    · rintro σ H' ⟨s5, _⟩
      exact ⟨_, SqL.of (hM.same s5).lst, by rw [List.length_map, hM.len]; exact Nat.le_refl _⟩
    · rintro i σ H5 x H6 hi ⟨s5, hap, v3, rfl⟩ ⟨rfl, hx⟩
      have hM5 := hM.same s5
      have ex := hx _ (SqL.of hM5.lst)
      have hit : i < bs.length := by rw [hM.len]; exact hi
      rw [List.getElem?_map, List.getElem?_eq_getElem hit] at ex
      have ex : V.ref bs[i] = x := Option.some.inj ex
      subst ex
      obtain ⟨bx, hb⟩ := hM5.at_ i _ _ (List.getElem?_eq_getElem hit) (List.getElem?_eq_getElem hi)
      refine ⟨_, rfl, .inl ⟨rfl, _, SqL.of hap⟩, _, rfl, bs[i], CH, bx, _, _, rfl, hb, TH.cl, TH.nP, rfl, _, rfl, bs[i], CH, bx, _, _, rfl, hb, TH.cl, TH.nB, rfl, _, rfl, bs[i], CH, bx, _, _, rfl, hb, TH.cl, TH.nF, rfl, (by show 3 ≤ sizeLine; decide), fun tp ntp => ?_⟩
      have nta := ne_of_none hap ntp
      refine ⟨ap, tp, _, _, rfl, rfl, by rw [upd_ne nta]; exact hap, upd_same, ?_, ?_⟩
      · rw [List.length_map, List.length_cons, flat3_len, List.length_take]
        show 3 * min i m.homes.length + 1 + 3 ≤ _
        exact Nat.le_trans (show 3 * min i m.homes.length + 1 + 3 ≤ 1000 by omega) (by decide)
      · refine ⟨same_put nap (s5.trans (same_upd ntp)), ?_, _, rfl⟩
        rw [upd_same, take_snocV (List.getElem?_eq_getElem hi), flat3_snoc]
        simp only [List.map_cons, List.map_append, List.cons_append]
        rfl
    · rintro σ H5 ⟨s5, hap, v3, rfl⟩
      rw [List.take_length] at hap
      exact ⟨_, rfl, k H5 ap s5 nap hap⟩
end
end Rw

set_option Elab.async false
set_option linter.all false
set_option maxRecDepth 100000
set_option maxHeartbeats 2000000
namespace Rw
open PySem PySem.Spec PyProof.Rows L2
open Vbcsag (Street Map Home)
abbrev s_answer_map : Stmt := topS 71
abbrev s_answer_home : Stmt := topS 82
abbrev s_answer_change : Stmt := topS 88
abbrev s_answer_add : Stmt := topS 89
theorem sc_answer_map : FnScope ["desk", "call", "places", "streets", "street"] ["desk", "call"] (defScope s_answer_map) := ⟨rfl, rfl, rfl, by decide +kernel, rfl, by decide +kernel, by decide +kernel⟩
theorem sc_answer_home : FnScope ["desk", "call", "place"] ["desk", "call"] (defScope s_answer_home) := ⟨rfl, rfl, rfl, by decide +kernel, rfl, by decide +kernel, by decide +kernel⟩
theorem sc_answer_change : FnScope ["desk", "call", "street"] ["desk", "call"] (defScope s_answer_change) := ⟨rfl, rfl, rfl, by decide +kernel, rfl, by decide +kernel, by decide +kernel⟩
theorem sc_answer_add : FnScope ["desk", "call", "near", "far"] ["desk", "call"] (defScope s_answer_add) := ⟨rfl, rfl, rfl, by decide +kernel, rfl, by decide +kernel, by decide +kernel⟩
/-! ### the desk in a state -/
def nOf : Vbcsag.State → Nat
  | none => 0
  | some m => m.n
def ssOf : Vbcsag.State → List Street
  | none => []
  | some m => m.streets
def hsOf : Vbcsag.State → List Home
  | none => []
  | some m => m.homes
abbrev dfs (n : Nat) (l hl : Addr) : List (Str × V) := [("places", .int (n : Int)), ("streets", .ref l), ("homes", .ref hl)]
structure DSx (C CD CH : Addr) (O : List Addr) (H : Hp) (s : Vbcsag.State) (dk dx l hl : Addr) (as bs : List Addr) : Prop where
  ob : H dk = some (.ins CD dx (dfs (nOf s) l hl))
  row : RowM C H l as (ssOf s)
  hom : HomM CH H hl bs (hsOf s)
  o : O = dk :: l :: hl :: (as ++ bs)
  nd : O.Nodup
  wm : ∀ m, s = some m → Mi.WM m
def DSd (C CD CH : Addr) : DSp := fun O H s dk => ∃ (dx l hl : Addr) (as bs : List Addr), DSx C CD CH O H s dk dx l hl as bs
section
variable {C CD CH : Addr} {O : List Addr} {H H' : Hp} {s : Vbcsag.State} {dk dx l hl : Addr} {as bs : List Addr}
theorem DSx.dep (h : DSx C CD CH O H s dk dx l hl as bs) (k : ∀ b ∈ O, ∀ o, H b = some o → H' b = some o) : DSx C CD CH O H' s dk dx l hl as bs := by
  have ho := h.o
  refine ⟨k _ (by rw [ho]; simp) _ h.ob, ⟨k _ (by rw [ho]; simp) _ h.row.lst, h.row.len, fun i a s h1 h2 => ?_, h.row.nd⟩, ⟨k _ (by rw [ho]; simp) _ h.hom.lst, h.hom.len, fun i a s h1 h2 => ?_⟩, ho, h.nd, h.wm⟩
  · obtain ⟨ax, e⟩ := h.row.at_ i a s h1 h2
    exact ⟨ax, k _ (by rw [ho]; simp [List.mem_of_getElem? h1]) _ e⟩
  · obtain ⟨ax, e⟩ := h.hom.at_ i a s h1 h2
    exact ⟨ax, k _ (by rw [ho]; simp [List.mem_of_getElem? h1]) _ e⟩
theorem DSx.tr (h : DSx C CD CH O H s dk dx l hl as bs) : ∀ b ∈ O, ∃ o, H b = some o := fun b hb => by
  rw [h.o] at hb
  simp only [List.mem_cons, List.mem_append] at hb
  rcases hb with e | e | e | e | e
  · exact ⟨_, e ▸ h.ob⟩
  · exact ⟨_, e ▸ h.row.lst⟩
  · exact ⟨_, e ▸ h.hom.lst⟩
  · obtain ⟨i, hi⟩ := List.mem_iff_getElem?.mp e
    have hl := (List.getElem?_eq_some_iff.mp hi).1
    obtain ⟨ax, e2⟩ := h.row.at_ i b _ hi (List.getElem?_eq_getElem (by rw [← h.row.len]; exact hl))
    exact ⟨_, e2⟩
  · obtain ⟨i, hi⟩ := List.mem_iff_getElem?.mp e
    have hl := (List.getElem?_eq_some_iff.mp hi).1
    obtain ⟨ax, e2⟩ := h.hom.at_ i b _ hi (List.getElem?_eq_getElem (by rw [← h.hom.len]; exact hl))
    exact ⟨_, e2⟩
theorem ds_dep : ∀ O H H' s dk, DSd C CD CH O H s dk → (∀ b ∈ O, ∀ o, H b = some o → H' b = some o) → DSd C CD CH O H' s dk := fun O H H' s dk ⟨dx, l, hl, as, bs, h⟩ k => ⟨dx, l, hl, as, bs, h.dep k⟩
theorem ds_tr : ∀ O H s dk, DSd C CD CH O H s dk → ∀ b ∈ O, ∃ o, H b = some o := fun O H s dk ⟨dx, l, hl, as, bs, h⟩ => h.tr
theorem DSx.desk {K : PySem.W.Frag} {m : Map} (h : DSx C CD CH O H (some m) dk dx l hl as bs) : DeskAt K C CD H dk dx (dfs m.n l hl) m l as := ⟨h.ob, rfl, rfl, h.row.row⟩
/-- the parts stand apart -/
theorem DSx.apart (h : DSx C CD CH O H s dk dx l hl as bs) : (dk ≠ l ∧ dk ≠ hl ∧ l ≠ hl) ∧ (∀ a ∈ as, a ≠ dk ∧ a ≠ l ∧ a ≠ hl ∧ a ∉ bs) ∧ (∀ b ∈ bs, b ≠ dk ∧ b ≠ l ∧ b ≠ hl ∧ b ∉ as) ∧ as.Nodup ∧ bs.Nodup := by
  have nd := h.nd
  rw [h.o] at nd
  simp only [List.nodup_cons, List.mem_cons, List.mem_append, not_or, List.nodup_append] at nd
  obtain ⟨⟨d1, d2, d3, d4⟩, ⟨l1, l2, l3⟩, ⟨h1, h2⟩, n1, n2, n3⟩ := nd
  refine ⟨⟨d1, d2, l1⟩, fun a ha => ⟨fun e => d3 (e ▸ ha), fun e => l2 (e ▸ ha), fun e => h1 (e ▸ ha), fun hb => n3 a ha a hb rfl⟩, fun b hb => ⟨fun e => d4 (e ▸ hb), fun e => l3 (e ▸ hb), fun e => h2 (e ▸ hb), fun ha => n3 b ha b hb rfl⟩, n1, n2⟩
end
/-- an answer that may change the desk -/
def spCh (C CD CC CH : Addr) (ok : Vbcsag.State → List Int → List Int → Prop) (res : Vbcsag.State → List Int → List Int → Vbcsag.State × List Int) : Sp := fun vs H Q _ =>
  ∃ (dk ca cx n1 r1 : Addr) (p : Nat) (nums row : List Int) (O : List Addr) (s : Vbcsag.State), vs = [.ref dk, .ref ca] ∧ DSd C CD CH O H s dk ∧ CallAt CC H ca cx n1 r1 p nums row ∧ ok s nums row ∧ (ca ∉ O ∧ n1 ∉ O ∧ r1 ∉ O) ∧
    ∀ H' O' q, Keep O H H' → (∀ b ∈ O', b ∈ O ∨ H b = none) → DSd C CD CH O' H' (res s nums row).1 dk → H' q = some (.lst ((res s nums row).2.map V.int)) → H q = none → Q (.ref q) H'
theorem Keep.of_same {O : List Addr} {H H' : Hp} (h : Same H H') : Keep O H H' := fun b o e _ => h b o e
/-- a refusal, or any other answer that changes nothing -/
theorem stay_ch {C CD CH : Addr} {O : List Addr} {H H' : Hp} {s : Vbcsag.State} {dk q : Addr} {a : List Int} {r : Vbcsag.State × List Int} {Q : VK} (hD : DSd C CD CH O H s dk)
    (k : ∀ H' O' q, Keep O H H' → (∀ b ∈ O', b ∈ O ∨ H b = none) → DSd C CD CH O' H' r.1 dk → H' q = some (.lst (r.2.map V.int)) → H q = none → Q (.ref q) H')
    (hr : r = (s, a)) (sm : Same H H') (nq : H q = none) (hq : H' q = some (.lst (a.map V.int))) : Q (.ref q) H' := by
  subst hr
  exact k H' O q (Keep.of_same sm) (fun b hb => .inl hb) (ds_dep _ _ _ _ _ hD fun b _ o e => sm b o e) hq nq
section
variable {tk tk2 : Tok} {P : Program} {w : World} {K : PySem.W.Frag} {mg : Str → Option Value} {base : Heap} {C CD CC CH : Addr}
theorem ok_desk_init {f : Addr} {fd : FuncData} (F : Fun K "__init__" "Desk.__init__" s_desk_init f fd) (T : TxD K CD) : FnOk P w K mg base CX0 1 f fd ["self"] (spInitD CD (DSd C CD CH)) := by
  refine F.ok sc_desk_init (fun vs H Q E h => ?_) (fun cdv A outer s H vs Q E hr h => ?_)
  · obtain ⟨x, dx, rfl, _⟩ := h
    rfl
  · obtain ⟨x, dx, rfl, hx, k⟩ := h
    refine ⟨_, pss_cons (ps_fld (pv 0) pe_int rfl) (pss_cons (ps_fld (pv 0) (pe_lst pa_nil) rfl) (pss_one (ps_fld (pv 0) (pe_lst pa_nil) rfl))), ?_⟩
    refine ⟨_, rfl, x, CD, dx, _, rfl, hx, T.cl, T.nP, (by show 0 < 1000; decide), ?_⟩
    refine ⟨Nat.zero_le _, fun l nl => ?_⟩
    have nlx : x ≠ l := fun e => by rw [e, upd_same] at nl; cases nl
    have nl0 : H l = none := by rw [upd_ne nlx.symm] at nl; exact nl
    refine ⟨_, rfl, x, CD, dx, _, rfl, by rw [upd_ne nlx]; exact upd_same, T.cl, T.nS, (by show 1 < 1000; decide), ?_⟩
    refine ⟨Nat.zero_le _, fun hl nhl => ?_⟩
    have nhx : x ≠ hl := fun e => by rw [e, upd_same] at nhl; cases nhl
    rw [upd_ne nhx.symm] at nhl
    have nhl' : l ≠ hl := fun e => by rw [e, upd_same] at nhl; cases nhl
    rw [upd_ne nhl'.symm, upd_ne nhx.symm] at nhl
    refine ⟨_, rfl, x, CD, dx, _, rfl, by rw [upd_ne nhx]; exact upd_same, T.cl, T.nH, (by show 2 < 1000; decide), ?_⟩
    refine k _ [x, l, hl] (fun b o e nb => ?_) (fun b hb => ?_) ⟨dx, l, hl, [], [], ?_, ⟨?_, rfl, by simp, List.nodup_nil⟩, ⟨?_, rfl, by simp⟩, rfl, ?_, by simp⟩
    · rw [upd_ne nb, upd_ne (ne_of_none e nhl), upd_ne nb, upd_ne (ne_of_none e nl0), upd_ne nb]
      exact e
    · simp only [List.mem_cons, List.not_mem_nil, or_false] at hb
      rcases hb with e | e | e
      · exact .inl e
      · exact .inr (e ▸ nl0)
      · exact .inr (e ▸ nhl)
    · exact upd_same
    · rw [upd_ne nlx.symm, upd_ne nhl', upd_ne nlx.symm]
      exact upd_same
    · rw [upd_ne nhx.symm]
      exact upd_same
    · simp [nlx, nhx, nhl']
/-! ### map -/
def okMap (s : Vbcsag.State) (nums row : List Int) : Prop := ∃ n, nums = [n] ∧ (fitM [n] (1 : Nat) [(1, 7)] && fitM row 64 rg4) = true
def resMap (s : Vbcsag.State) (nums row : List Int) : Vbcsag.State × List Int := nstep s [[0, nums.headD 0], row]
theorem df_answer_map (T : Txt K mg C) (TD : TxD K CD) (TC : TxC K CC) (D : Dn K mg "answer_map" s_answer_map ["desk", "call"]) (Dr : Df P w K mg base "refused" ["why"] 1 spRefused) (Ds : Df P w K mg base "streets_from" ["row"] 3 (spStreets K C)) (De : Df P w K mg base "reached" ["place", "streets"] 3 (spReached K C)) (Da : Df P w K mg base "all_places" ["places"] 1 spAllPlaces)
    (gN : mg "NO_SUCH" = some (.int 3 tk)) (gJ : mg "NOT_JOINED" = some (.int 5 tk2)) (gl : mg "len" = none) : Df P w K mg base "answer_map" ["desk", "call"] 4 (spCh C CD CC CH okMap resMap) := by
  refine D.df sc_answer_map (fun vs H Q E h => ?_) (fun f cdv A outer s H vs Q E hr h => ?_)
  · obtain ⟨dk, ca, cx, n1, r1, p, nums, row, O, st, rfl, _⟩ := h
    rfl
  · obtain ⟨dk, ca, cx, n1, r1, p, nums, row, O, st, rfl, hDS, hC, ⟨z, rfl, hz⟩, hni, k⟩ := h
    have nd := sc_answer_map.nd
    refine ⟨_, pss_cons (ps_set (i := 2) nd rfl (.inl rfl) (pe_ix ix_list (pe_fld (pv 1) rfl) pe_int (fun _ _ => rfl)))
      (pss_cons (ps_set (i := 3) nd rfl (.inl rfl) (pe_df Ds hr (by rfl) (pa_cons (pe_fld (pv 1) rfl) pa_nil)))
      (pss_cons (ps_for PassesOwn.never rfl (pi_list (pv 3)) (pg_name (i := 4) nd rfl (.inl rfl))
        (pss_one (ps_if (PW.pt (pw_or (pt_cmpR op_ge (pe_fld (pv 4) rfl) (pv 2) (nomark _)) (pw_or1 (pt_cmpR op_ge (pe_fld (pv 4) rfl) (pv 2) (nomark _))))) (pss_one (ps_ret (pe_df Dr (hr.mono (by decide)) (by rfl) (pa_cons (pe_glob (v := .int 3) rfl gN ⟨_, rfl⟩) pa_nil)))) pss_nil)))
      (pss_cons (ps_if (pt_cmpR op_ne (pe_df De hr (by rfl) (pa_cons pe_int (pa_cons (pv 3) pa_nil))) (pe_df Da (hr.mono (by decide)) (by rfl) (pa_cons (pv 2) pa_nil)) (nomark _)) (pss_one (ps_ret (pe_df Dr (hr.mono (by decide)) (by rfl) (pa_cons (pe_glob (v := .int 5) rfl gJ ⟨_, rfl⟩) pa_nil)))) pss_nil)
      (pss_cons (ps_fld (pv 0) (pv 2) rfl)
      (pss_cons (ps_fld (pv 0) (pv 3) rfl)
      (pss_cons (ps_fld (pv 0) (pe_lst pa_nil) rfl)
      (pss_one (ps_ret (pe_lst (pa_cons pe_int (pa_cons (pe_callB call_len_seq (by rfl) gl PySem.boot_len (pa_cons (pv 3) pa_nil)) pa_nil))))))))))), ?_⟩
    obtain ⟨n, rfl, h1, h7, hl64, hin, hst⟩ := st_map st hz
    obtain ⟨_, hpos, hvals, h4⟩ := streetsIn_strL hin
    unfold resMap at k
    rw [List.headD_cons, hst] at k
    generalize hss : strL row = ss at k hin hst hvals
    refine ⟨_, rfl, ca, CC, cx, _, _, rfl, hC.ob, TC.cl, TC.nN, rfl, n1, _, _, V.int (n : Int), rfl, rfl, SqL.of hC.nu, atI_nat (j := 0) rfl, ?_⟩
    refine ⟨_, rfl, ca, CC, cx, _, _, rfl, hC.ob, TC.cl, TC.nR, rfl, r1, row, rfl, SqL.of hC.ro, h4, by omega, hpos, fun H1 sp as s1 nsp has hR => ?_⟩
    rw [hss] at hR
    refine ⟨_, rfl, sp, rfl, ⟨_, SqL.of hR.lst⟩, ?_⟩
    refine for_gen ss.length (fun i σ H' => H' = H1 ∧ (∀ j, (h : j < ss.length) → j < i → ss[j].a < n ∧ ss[j].b < n) ∧ ∃ v4 : Option V, σ = [some (.ref dk), some (.ref ca), some (vN n), some (.ref sp), v4]) ⟨rfl, fun j _ hj => by omega, none, rfl⟩ ?_ ?_ ?_ ?_
    · rintro i σ H' hi ⟨rfl, _⟩
      exact ⟨_, _, SqL.of hR.lst, List.getElem?_eq_getElem (by rw [List.length_map, hR.len]; exact hi)⟩
    · rintro σ H' ⟨rfl, _⟩
      exact ⟨_, SqL.of hR.lst, by rw [List.length_map, hR.len]; exact Nat.le_refl _⟩
    · rintro i σ H2 x H3 hi ⟨rfl, hall, v4, rfl⟩ ⟨rfl, hx⟩
      have hia : i < as.length := by rw [hR.len]; exact hi
      have ex := hx _ (SqL.of hR.lst)
      rw [List.getElem?_map, List.getElem?_eq_getElem hia] at ex
      have ex : V.ref as[i] = x := Option.some.inj ex
      subst ex
      obtain ⟨ax, ha⟩ := hR.at_ i _ _ (List.getElem?_eq_getElem hia) (List.getElem?_eq_getElem hi)
      have bad : ¬ (ss[i].a < n ∧ ss[i].b < n) → ∀ H4 q, Same _ H4 → H3 q = none → H4 q = some (.lst [.int (-3)]) → Q (.ref q) H4 := fun hb H4 q s4 nq hq4 => by
        rw [if_pos (List.any_eq_true.mpr ⟨ss[i], List.getElem_mem hi, by
          simp only [Bool.or_eq_true, decide_eq_true_eq]
          omega⟩)] at k
        exact stay_ch hDS k rfl (s1.trans s4) (none_back s1 nq) hq4
      refine ⟨_, rfl, as[i], C, ax, _, _, rfl, ha, T.cl, T.nA, rfl, _, rfl, _, _, rfl, rfl, _, rfl, ?_⟩
      by_cases z1 : n ≤ ss[i].a
      · refine iteP (decide_eq_true (by omega)) ?_
        refine iteP rfl ?_
        exact ⟨3, rfl, fun H4 q s4 nq hq4 => bad (by omega) H4 q s4 nq hq4⟩
      · refine iteN (fun y => z1 (by have := of_decide_eq_true y; omega)) ?_
        refine ⟨_, rfl, as[i], C, ax, _, _, rfl, ha, T.cl, T.nB, rfl, _, rfl, _, _, rfl, rfl, _, rfl, ?_⟩
        by_cases z2 : n ≤ ss[i].b
        · refine iteP (decide_eq_true (by omega)) ?_
          exact ⟨3, rfl, fun H4 q s4 nq hq4 => bad (by omega) H4 q s4 nq hq4⟩
        · refine iteN (fun y => z2 (by have := of_decide_eq_true y; omega)) ?_
          refine ⟨rfl, fun j hj hji => ?_, _, rfl⟩
          by_cases ej : j = i
          · subst ej
            exact ⟨by omega, by omega⟩
          · exact hall j hj (by omega)
    · rintro σ H2 ⟨rfl, hall, v4, rfl⟩
      have ws : Mi.WS n ss := fun t ht => by
        obtain ⟨j, hj, rfl⟩ := List.getElem_of_mem ht
        exact hall j hj hj
      have hno : (ss.any fun x => decide (n ≤ x.a) || decide (n ≤ x.b)) = false := List.any_eq_false.mpr fun x hx => by
        have := ws x hx
        simp only [Bool.or_eq_true, decide_eq_true_eq]
        omega
      rw [hno, if_neg (by decide)] at k
      refine ⟨_, rfl, 0, sp, as, ss, rfl, by decide, hR.row, ws.mono h7, _, rfl, n, rfl, by omega, rfl, _, rfl, ?_⟩
      by_cases zc : Vbcsag.connected n ss = true
      · have ec := (Mi.connected_iff h1 h7 ws).mp zc
        refine iteN (by rw [ec]; simp) ?_
        rw [if_pos zc] at k
        have hD1 : DSd C CD CH O H2 st dk := ds_dep _ _ _ _ _ hDS fun b _ o e => s1 b o e
        obtain ⟨dx, l, hl, as0, bs0, hX⟩ := hD1
        obtain ⟨dx0, l0, hl0, as1, bs1, hX0⟩ := id hDS
        refine ⟨_, rfl, _, rfl, dk, CD, dx, _, rfl, hX.ob, TD.cl, TD.nP, (by show 3 < 1000; decide), ?_⟩
        refine ⟨_, rfl, _, rfl, dk, CD, dx, _, rfl, upd_same, TD.cl, TD.nS, (by show 3 < 1000; decide), ?_⟩
        refine ⟨Nat.zero_le _, fun hp nhp => ?_⟩
        have nhd : hp ≠ dk := fun e => by rw [e, upd_same] at nhp; cases nhp
        have nhp2 : H2 hp = none := by rw [upd_ne nhd, upd_ne nhd] at nhp; exact nhp
        refine ⟨_, rfl, dk, CD, dx, _, rfl, by rw [upd_ne nhd.symm]; exact upd_same, TD.cl, TD.nH, (by show 3 < 1000; decide), ?_⟩
        have nsd : sp ≠ dk := ne_of hR.lst hX.ob (by intro y; cases y)
        have nsh : sp ≠ hp := ne_of_none hR.lst nhp2
        refine ⟨_, rfl, sp, as.map V.ref, rfl, .inl (SqL.of ?_), (by show 2 ≤ sizeLine; decide), fun q nq => ?_⟩
        · rw [upd_ne nsd, upd_ne nsh, upd_ne nsd, upd_ne nsd]
          exact hR.lst
        have nqd : q ≠ dk := fun e => by rw [e, upd_same] at nq; cases nq
        rw [upd_ne nqd] at nq
        have nqh : q ≠ hp := fun e => by rw [e, upd_same] at nq; cases nq
        rw [upd_ne nqh, upd_ne nqd, upd_ne nqd] at nq
        have back : ∀ b o (o1 o2 o3 o4 o5 : HO), H2 b = some o → b ≠ dk → (upd (upd (upd (upd (upd H2 dk o1) dk o2) hp o3) dk o4) q o5) b = some o := fun b o o1 o2 o3 o4 o5 e nb => by
          rw [upd_ne (ne_of_none e nq), upd_ne nb, upd_ne (ne_of_none e nhp2), upd_ne nb, upd_ne nb]
          exact e
        have hdH : ∃ o, H dk = some o := ⟨_, hX0.ob⟩
        have asn : ∀ a ∈ as, a ≠ dk ∧ a ≠ sp ∧ a ≠ hp := fun a ha => by
          obtain ⟨i, hi⟩ := List.mem_iff_getElem?.mp ha
          have hil := (List.getElem?_eq_some_iff.mp hi).1
          obtain ⟨ax, e⟩ := hR.at_ i a _ hi (List.getElem?_eq_getElem (by rw [← hR.len]; exact hil))
          obtain ⟨o, eo⟩ := hdH
          refine ⟨(ne_of_none eo (has a ha)).symm, ne_of e hR.lst (by intro y; cases y), ne_of_none e nhp2⟩
        rw [List.length_map, hR.len]
        refine k _ (dk :: sp :: hp :: (as ++ [])) q (fun b o e nb => ?_) (fun b hb => ?_) ⟨dx, sp, hp, as, [], ?_, ⟨?_, hR.len, fun i a t g1 g2 => ?_, hR.nd⟩, ⟨?_, rfl, by intro i a t g1; simp at g1⟩, rfl, ?_, fun m e => ?_⟩ ?_ (none_back s1 nq)
        · refine back b o _ _ _ _ _ (s1 _ _ e) fun eb => nb ?_
          rw [hX0.o, eb]
          simp
        · simp only [List.mem_cons, List.mem_append, List.not_mem_nil, or_false] at hb
          rcases hb with e | e | e | e
          · left
            rw [hX0.o, e]
            simp
          · exact .inr (e ▸ nsp)
          · exact .inr (e ▸ none_back s1 nhp2)
          · exact .inr (has b e)
        · rw [upd_ne nqd.symm]
          exact upd_same
        · exact back _ _ _ _ _ _ _ hR.lst nsd
        · obtain ⟨ax, e⟩ := hR.at_ i a t g1 g2
          exact ⟨ax, back _ _ _ _ _ _ _ e (asn a (List.mem_of_getElem? g1)).1⟩
        · rw [upd_ne nqh.symm, upd_ne nhd]
          exact upd_same
        · rw [List.append_nil, List.nodup_cons, List.nodup_cons, List.nodup_cons]
          simp only [List.mem_cons, not_or]
          exact ⟨⟨nsd.symm, nhd.symm, fun h => (asn _ h).1 rfl⟩, ⟨nsh, fun h => (asn _ h).2.1 rfl⟩, fun h => (asn _ h).2.2 rfl, hR.nd⟩
        · cases e
          exact wm_map h1 h7 hl64 hin ws zc
        · rw [upd_same]
          rfl
      · refine iteP (by
          have ne : Mi.closure ss 0 ≠ 2 ^ n - 1 := fun e => zc ((Mi.connected_iff h1 h7 ws).mpr e)
          exact nint_ne (by omega)) ?_
        rw [if_neg zc] at k
        exact ⟨5, rfl, fun H4 q s4 nq hq4 => stay_ch hDS k rfl (s1.trans s4) (none_back s1 nq) hq4⟩
end
end Rw

set_option Elab.async false
set_option linter.all false
set_option maxRecDepth 100000
set_option maxHeartbeats 2000000
namespace Rw
open PySem PySem.Spec PyProof.Rows L2
open Vbcsag (Street Map Home)
theorem HomM.push {CH : Addr} {H H' : Hp} {l x : Addr} {bs : List Addr} {hs : List Home} {e : Home} (h : HomM CH H l bs hs) (hb : ∀ b ∈ bs, ∀ o, H b = some o → H' b = some o) (hl : H' l = some (.lst (bs.map V.ref ++ [.ref x]))) (hx : HomAt CH H' x e) : HomM CH H' l (bs ++ [x]) (hs ++ [e]) := by
  refine ⟨by rw [hl, List.map_append]; rfl, by rw [List.length_append, List.length_append, h.len]; rfl, fun i a t h1 h2 => ?_⟩
  by_cases hi : i < bs.length
  · rw [List.getElem?_append_left hi] at h1
    rw [List.getElem?_append_left (by rw [← h.len]; exact hi)] at h2
    obtain ⟨ax, e1⟩ := h.at_ i a t h1 h2
    exact ⟨ax, hb a (List.mem_of_getElem? h1) _ e1⟩
  · rw [List.getElem?_append_right (by omega)] at h1
    rw [List.getElem?_append_right (by rw [← h.len]; omega), ← h.len] at h2
    cases hz : i - bs.length with
    | zero =>
      rw [hz] at h1 h2
      have e1 : x = a := Option.some.inj h1
      have e2 : e = t := Option.some.inj h2
      subst e1 e2
      exact hx
    | succ z =>
      rw [hz] at h1
      cases h1
theorem RowM.push {C : Addr} {H H' : Hp} {l x : Addr} {as : List Addr} {ss : List Street} {e : Street} (h : RowM C H l as ss) (hb : ∀ b ∈ as, ∀ o, H b = some o → H' b = some o) (hl : H' l = some (.lst (as.map V.ref ++ [.ref x]))) (hx : StrAt C H' x e) (nx : x ∉ as) : RowM C H' l (as ++ [x]) (ss ++ [e]) := by
  refine ⟨by rw [hl, List.map_append]; rfl, by rw [List.length_append, List.length_append, h.len]; rfl, fun i a t h1 h2 => ?_, ?_⟩
  · by_cases hi : i < as.length
    · rw [List.getElem?_append_left hi] at h1
      rw [List.getElem?_append_left (by rw [← h.len]; exact hi)] at h2
      obtain ⟨ax, e1⟩ := h.at_ i a t h1 h2
      exact ⟨ax, hb a (List.mem_of_getElem? h1) _ e1⟩
    · rw [List.getElem?_append_right (by omega)] at h1
      rw [List.getElem?_append_right (by rw [← h.len]; omega), ← h.len] at h2
      cases hz : i - as.length with
      | zero =>
        rw [hz] at h1 h2
        have e1 : x = a := Option.some.inj h1
        have e2 : e = t := Option.some.inj h2
        subst e1 e2
        exact hx
      | succ z =>
        rw [hz] at h1
        cases h1
  · refine List.nodup_append.mpr ⟨h.nd, by simp, fun a ha b hb e => ?_⟩
    rw [List.mem_singleton] at hb
    exact nx (hb ▸ e ▸ ha)
section
variable {tk tk2 tk3 : Tok} {P : Program} {w : World} {K : PySem.W.Frag} {mg : Str → Option Value} {base : Heap} {C CD CC CH : Addr}
/-! ### home -/
def okHome (s : Vbcsag.State) (nums row : List Int) : Prop := ∃ m p a b, s = some m ∧ nums = [p, a, b] ∧ inHome p a b = true
def resHome (s : Vbcsag.State) (nums row : List Int) : Vbcsag.State × List Int := nstep s [[11, nums.headD 0, nums.getD 1 0, nums.getD 2 0]]
theorem df_answer_home (TD : TxD K CD) (TC : TxC K CC) (D : Dn K mg "answer_home" s_answer_home ["desk", "call"]) (Dr : Df P w K mg base "refused" ["why"] 1 spRefused) (M : Mc P w K mg base "Home" CH ["self", "place", "begin", "finish"] 1 (spInitH CH))
    (gN : mg "NO_SUCH" = some (.int 3 tk)) (gR : mg "NO_ROOM" = some (.int 4 tk2)) (gM : mg "MOST_HOMES" = some (.int 12 tk3)) (gl : mg "len" = none) : Df P w K mg base "answer_home" ["desk", "call"] 3 (spCh C CD CC CH okHome resHome) := by
  refine D.df sc_answer_home (fun vs H Q E h => ?_) (fun f cdv A outer s H vs Q E hr h => ?_)
  · obtain ⟨dk, ca, cx, n1, r1, p, nums, row, O, st, rfl, _⟩ := h
    rfl
  · obtain ⟨dk, ca, cx, n1, r1, p, nums, row, O, st, rfl, hDS, hC, ⟨m, zp, za, zb, rfl, rfl, hz⟩, hni, k⟩ := h
    have nd := sc_answer_home.nd
    refine ⟨_, pss_cons (ps_set (i := 2) nd rfl (.inl rfl) (pe_ix ix_list (pe_fld (pv 1) rfl) pe_int (fun _ _ => rfl)))
      (pss_cons (ps_if (pt_cmpR op_ge (pv 2) (pe_fld (pv 0) rfl) (nomark _)) (pss_one (ps_ret (pe_df Dr (hr.mono (by decide)) (by rfl) (pa_cons (pe_glob (v := .int 3) rfl gN ⟨_, rfl⟩) pa_nil)))) pss_nil)
      (pss_cons (ps_if (pt_cmpR op_ge (pe_callB call_len_seq (by rfl) gl PySem.boot_len (pa_cons (pe_fld (pv 0) rfl) pa_nil)) (pe_glob (v := .int 12) rfl gM ⟨_, rfl⟩) (nomark _)) (pss_one (ps_ret (pe_df Dr (hr.mono (by decide)) (by rfl) (pa_cons (pe_glob (v := .int 4) rfl gR ⟨_, rfl⟩) pa_nil)))) pss_nil)
      (pss_cons (ps_expr (pe_bm PySem.F.plainAttrs_list PySem.F.slot_list_append PySem.F.type_list_append mt_append (pe_fld (pv 0) rfl) (pa_cons (pe_mc M hr (by rfl) (pa_cons (pv 2) (pa_cons (pe_ix ix_list (pe_fld (pv 1) rfl) pe_int (fun _ _ => rfl)) (pa_cons (pe_ix ix_list (pe_fld (pv 1) rfl) pe_int (fun _ _ => rfl)) pa_nil)))) pa_nil)))
      (pss_one (ps_ret (pe_lst (pa_cons pe_int (pa_cons (pe_op op_sub (pe_callB call_len_seq (by rfl) gl PySem.boot_len (pa_cons (pe_fld (pv 0) rfl) pa_nil)) pe_int) pa_nil)))))))), ?_⟩
    have hzz := hz
    unfold inHome at hzz
    simp only [Bool.and_eq_true, inrT, decide_eq_true_eq] at hzz
    obtain ⟨q, rfl⟩ : ∃ q : Nat, zp = (q : Int) := ⟨zp.toNat, by omega⟩
    obtain ⟨ta, rfl⟩ : ∃ q : Nat, za = (q : Int) := ⟨za.toNat, by omega⟩
    obtain ⟨tb, rfl⟩ : ∃ q : Nat, zb = (q : Int) := ⟨zb.toNat, by omega⟩
    have hst := (st_home m hz).1
    unfold resHome at k
    rw [List.headD_cons, show ([(q : Int), (ta : Int), (tb : Int)] : List Int).getD 1 0 = (ta : Int) from rfl, show ([(q : Int), (ta : Int), (tb : Int)] : List Int).getD 2 0 = (tb : Int) from rfl, hst] at k
    obtain ⟨dx, l, hl, as, bs, hX⟩ := id hDS
    obtain ⟨⟨ndl, ndh, nlh⟩, hap, hbp, ndas, ndbs⟩ := hX.apart
    have wm := hX.wm m rfl
    have h12 := wm.hlen
    have hbl : bs.length = m.homes.length := hX.hom.len
    refine ⟨_, rfl, ca, CC, cx, _, _, rfl, hC.ob, TC.cl, TC.nN, rfl, n1, _, _, V.int (q : Int), rfl, rfl, SqL.of hC.nu, atI_nat (j := 0) rfl, ?_⟩
    refine ⟨_, rfl, _, rfl, dk, CD, dx, _, _, rfl, hX.ob, TD.cl, TD.nP, rfl, _, _, rfl, rfl, _, rfl, ?_⟩
    by_cases hp : (m.n : Int) ≤ (q : Int)
    · refine iteP (decide_eq_true hp) ?_
      rw [if_pos hp] at k
      exact ⟨3, rfl, fun H4 q s4 nq hq4 => stay_ch hDS k rfl s4 nq hq4⟩
    · refine iteN (fun y => hp (of_decide_eq_true y)) ?_
      rw [if_neg hp] at k
      refine ⟨_, rfl, dk, CD, dx, _, _, rfl, hX.ob, TD.cl, TD.nH, rfl, hl, _, rfl, .inl (SqL.of hX.hom.lst), _, _, rfl, rfl, _, rfl, ?_⟩
      rw [List.length_map, hbl]
      by_cases hh : 12 ≤ m.homes.length
      · refine iteP (decide_eq_true (by omega)) ?_
        rw [if_pos hh] at k
        exact ⟨4, rfl, fun H4 q s4 nq hq4 => stay_ch hDS k rfl s4 nq hq4⟩
      · refine iteN (fun y => hh (by have := of_decide_eq_true y; omega)) ?_
        rw [if_neg hh, Int.toNat_natCast, Int.toNat_natCast, Int.toNat_natCast] at k
        refine ⟨_, rfl, dk, CD, dx, _, _, rfl, hX.ob, TD.cl, TD.nH, rfl, .inl ⟨rfl, _, SqL.of hX.hom.lst⟩, ?_⟩
        refine ⟨_, rfl, _, rfl, ca, CC, cx, _, _, rfl, hC.ob, TC.cl, TC.nN, rfl, n1, _, _, V.int (ta : Int), rfl, rfl, SqL.of hC.nu, atI_nat (j := 1) rfl, ?_⟩
        refine ⟨_, rfl, ca, CC, cx, _, _, rfl, hC.ob, TC.cl, TC.nN, rfl, n1, _, _, V.int (tb : Int), rfl, rfl, SqL.of hC.nu, atI_nat (j := 2) rfl, ?_⟩
        intro x xx nx nxx nex
        refine ⟨x, xx, _, _, _, rfl, upd_same, fun H1 hx1 k1 => ⟨rfl, ?_⟩⟩
        have s1 : Same H H1 := made_same nx nxx k1
        have xO : x ∉ O := fun e => by
          obtain ⟨o, eo⟩ := hX.tr x e
          rw [eo] at nx
          cases nx
        have xne : x ≠ dk ∧ x ≠ l ∧ x ≠ hl ∧ x ∉ as ∧ x ∉ bs := by
          rw [hX.o] at xO
          simpa [not_or] using xO
        refine ⟨hl, _, _, rfl, rfl, s1 _ _ hX.hom.lst, small1000 (by rw [List.length_map, hbl]; omega), ?_⟩
        have ob2 : (upd H1 hl (.lst (bs.map V.ref ++ [.ref x]))) dk = some (.ins CD dx (dfs m.n l hl)) := by
          rw [upd_ne ndh]
          exact s1 _ _ hX.ob
        refine ⟨_, rfl, dk, CD, dx, _, _, rfl, ob2, TD.cl, TD.nH, rfl, hl, _, rfl, .inl (SqL.of upd_same), _, _, rfl, rfl, (by show 2 ≤ sizeLine; decide), fun q2 nq => ?_⟩
        have nqh : q2 ≠ hl := fun e => by rw [e, upd_same] at nq; cases nq
        rw [upd_ne nqh] at nq
        have back : ∀ b o (o1 o2 : HO), H1 b = some o → b ≠ hl → (upd (upd H1 hl o1) q2 o2) b = some o := fun b o o1 o2 e nb => by
          rw [upd_ne (ne_of_none e nq), upd_ne nb]
          exact e
        have hx3 : ∀ (o1 o2 : HO), HomAt CH (upd (upd H1 hl o1) q2 o2) x ⟨q, ta, tb⟩ := fun o1 o2 => ⟨xx, back _ _ _ _ hx1 xne.2.2.1⟩
        refine k _ (dk :: l :: hl :: (as ++ (bs ++ [x]))) q2 (fun b o e nb => ?_) (fun b hb => ?_) ⟨dx, l, hl, as, bs ++ [x], ?_, ⟨?_, hX.row.len, fun i a t g1 g2 => ?_, ndas⟩, ?_, rfl, ?_, fun m' e => ?_⟩ ?_ (none_back s1 nq)
        · refine back b o _ _ (s1 _ _ e) fun eb => nb ?_
          rw [hX.o, eb]
          simp
        · rw [hX.o]
          simp only [List.mem_cons, List.mem_append, List.not_mem_nil, or_false] at hb ⊢
          rcases hb with e | e | e | e | e | e
          · exact .inl (.inl e)
          · exact .inl (.inr (.inl e))
          · exact .inl (.inr (.inr (.inl e)))
          · exact .inl (.inr (.inr (.inr (.inl e))))
          · exact .inl (.inr (.inr (.inr (.inr e))))
          · exact .inr (e ▸ nx)
        · exact back _ _ _ _ (s1 _ _ hX.ob) ndh
        · exact back _ _ _ _ (s1 _ _ hX.row.lst) nlh
        · obtain ⟨ax, e⟩ := hX.row.at_ i a t g1 g2
          exact ⟨ax, back _ _ _ _ (s1 _ _ e) (hap a (List.mem_of_getElem? g1)).2.2.1⟩
        · refine hX.hom.push (fun b hb o e => back _ _ _ _ (s1 _ _ e) (hbp b hb).2.2.1) ?_ (hx3 _ _)
          rw [upd_ne nqh.symm]
          exact upd_same
        · have e : dk :: l :: hl :: (as ++ (bs ++ [x])) = O ++ [x] := by rw [hX.o]; simp
          rw [e]
          refine List.nodup_append.mpr ⟨hX.nd, by simp, fun a ha b hb e => ?_⟩
          rw [List.mem_singleton] at hb
          exact xO (hb ▸ e ▸ ha)
        · have e' := Option.some.inj e
          rw [← e']
          exact wm_home wm (by omega) (show q < m.n by omega) (by show ta ≤ 100000; omega) (by show tb ≤ 100000; omega)
        · rw [upd_same, List.length_append, List.length_map, hbl]
          show some (HO.lst [V.int 0, V.int (((m.homes.length + 1 : Nat) : Int) - 1)]) = some (HO.lst [V.int 0, V.int (m.homes.length : Int)])
          rw [show ((m.homes.length + 1 : Nat) : Int) - 1 = (m.homes.length : Int) by omega]
/-! ### add -/
def okAdd (s : Vbcsag.State) (nums row : List Int) : Prop := ∃ m a b l o, s = some m ∧ nums = [a, b, l, o] ∧ fitM [a, b, l, o] (4 : Nat) [(0, 6), (0, 6), (1, 1000), (1, 3)] = true
def resAdd (s : Vbcsag.State) (nums row : List Int) : Vbcsag.State × List Int := nstep s [[17, nums.headD 0, nums.getD 1 0, nums.getD 2 0, nums.getD 3 0]]
theorem df_answer_add (TD : TxD K CD) (TC : TxC K CC) (D : Dn K mg "answer_add" s_answer_add ["desk", "call"]) (Dr : Df P w K mg base "refused" ["why"] 1 spRefused) (M : Mc P w K mg base "Street" C ["self", "near", "far", "length", "often"] 1 (spInitS C))
    (gN : mg "NO_SUCH" = some (.int 3 tk)) (gR : mg "NO_ROOM" = some (.int 4 tk2)) (gM : mg "MOST_STREETS" = some (.int 16 tk3)) (gl : mg "len" = none) : Df P w K mg base "answer_add" ["desk", "call"] 3 (spCh C CD CC CH okAdd resAdd) := by
  refine D.df sc_answer_add (fun vs H Q E h => ?_) (fun f cdv A outer s H vs Q E hr h => ?_)
  · obtain ⟨dk, ca, cx, n1, r1, p, nums, row, O, st, rfl, _⟩ := h
    rfl
  · obtain ⟨dk, ca, cx, n1, r1, p, nums, row, O, st, rfl, hDS, hC, ⟨m, za, zb, zl, zo, rfl, rfl, hz⟩, hni, k⟩ := h
    have nd := sc_answer_add.nd
    refine ⟨_, pss_cons (ps_set (i := 2) nd rfl (.inl rfl) (pe_ix ix_list (pe_fld (pv 1) rfl) pe_int (fun _ _ => rfl)))
      (pss_cons (ps_set (i := 3) nd rfl (.inl rfl) (pe_ix ix_list (pe_fld (pv 1) rfl) pe_int (fun _ _ => rfl)))
      (pss_cons (ps_if (PW.pt (pw_or (pt_cmpR op_ge (pv 2) (pe_fld (pv 0) rfl) (nomark _)) (pw_or1 (pt_cmpR op_ge (pv 3) (pe_fld (pv 0) rfl) (nomark _))))) (pss_one (ps_ret (pe_df Dr (hr.mono (by decide)) (by rfl) (pa_cons (pe_glob (v := .int 3) rfl gN ⟨_, rfl⟩) pa_nil)))) pss_nil)
      (pss_cons (ps_if (pt_cmpR op_ge (pe_callB call_len_seq (by rfl) gl PySem.boot_len (pa_cons (pe_fld (pv 0) rfl) pa_nil)) (pe_glob (v := .int 16) rfl gM ⟨_, rfl⟩) (nomark _)) (pss_one (ps_ret (pe_df Dr (hr.mono (by decide)) (by rfl) (pa_cons (pe_glob (v := .int 4) rfl gR ⟨_, rfl⟩) pa_nil)))) pss_nil)
      (pss_cons (ps_expr (pe_bm PySem.F.plainAttrs_list PySem.F.slot_list_append PySem.F.type_list_append mt_append (pe_fld (pv 0) rfl) (pa_cons (pe_mc M hr (by rfl) (pa_cons (pv 2) (pa_cons (pv 3) (pa_cons (pe_ix ix_list (pe_fld (pv 1) rfl) pe_int (fun _ _ => rfl)) (pa_cons (pe_ix ix_list (pe_fld (pv 1) rfl) pe_int (fun _ _ => rfl)) pa_nil))))) pa_nil)))
      (pss_one (ps_ret (pe_lst (pa_cons pe_int (pa_cons (pe_op op_sub (pe_callB call_len_seq (by rfl) gl PySem.boot_len (pa_cons (pe_fld (pv 0) rfl) pa_nil)) pe_int) pa_nil))))))))), ?_⟩
    obtain ⟨hzz, hst, _⟩ := st_add m hz
    obtain ⟨va, rfl⟩ : ∃ q : Nat, za = (q : Int) := ⟨za.toNat, by omega⟩
    obtain ⟨vb, rfl⟩ : ∃ q : Nat, zb = (q : Int) := ⟨zb.toNat, by omega⟩
    obtain ⟨vl, rfl⟩ : ∃ q : Nat, zl = (q : Int) := ⟨zl.toNat, by omega⟩
    obtain ⟨vo, rfl⟩ : ∃ q : Nat, zo = (q : Int) := ⟨zo.toNat, by omega⟩
    unfold resAdd at k
    rw [List.headD_cons, show ([(va : Int), (vb : Int), (vl : Int), (vo : Int)] : List Int).getD 1 0 = (vb : Int) from rfl, show ([(va : Int), (vb : Int), (vl : Int), (vo : Int)] : List Int).getD 2 0 = (vl : Int) from rfl, show ([(va : Int), (vb : Int), (vl : Int), (vo : Int)] : List Int).getD 3 0 = (vo : Int) from rfl, hst] at k
    obtain ⟨dx, l, hl, as, bs, hX⟩ := id hDS
    obtain ⟨⟨ndl, ndh, nlh⟩, hap, hbp, ndas, ndbs⟩ := hX.apart
    have wm := hX.wm m rfl
    have h16 := wm.len
    have hal : as.length = m.streets.length := hX.row.len
    refine ⟨_, rfl, ca, CC, cx, _, _, rfl, hC.ob, TC.cl, TC.nN, rfl, n1, _, _, V.int (va : Int), rfl, rfl, SqL.of hC.nu, atI_nat (j := 0) rfl, ?_⟩
    refine ⟨_, rfl, ca, CC, cx, _, _, rfl, hC.ob, TC.cl, TC.nN, rfl, n1, _, _, V.int (vb : Int), rfl, rfl, SqL.of hC.nu, atI_nat (j := 1) rfl, ?_⟩
    have bad : ((m.n : Int) ≤ (va : Int) ∨ (m.n : Int) ≤ (vb : Int)) → ∀ H4 q, Same H H4 → H q = none → H4 q = some (.lst [.int (-3)]) → Q (.ref q) H4 := fun hb H4 q s4 nq hq4 => by
      rw [if_pos (by simp only [Bool.or_eq_true, decide_eq_true_eq]; exact hb)] at k
      exact stay_ch hDS k rfl s4 nq hq4
    refine ⟨_, rfl, _, rfl, dk, CD, dx, _, _, rfl, hX.ob, TD.cl, TD.nP, rfl, _, _, rfl, rfl, _, rfl, ?_⟩
    by_cases hp : (m.n : Int) ≤ (va : Int)
    · refine iteP (decide_eq_true hp) ?_
      refine iteP rfl ?_
      exact ⟨3, rfl, fun H4 q s4 nq hq4 => bad (.inl hp) H4 q s4 nq hq4⟩
    · refine iteN (fun y => hp (of_decide_eq_true y)) ?_
      refine ⟨_, rfl, _, rfl, dk, CD, dx, _, _, rfl, hX.ob, TD.cl, TD.nP, rfl, _, _, rfl, rfl, _, rfl, ?_⟩
      by_cases hp2 : (m.n : Int) ≤ (vb : Int)
      · refine iteP (decide_eq_true hp2) ?_
        exact ⟨3, rfl, fun H4 q s4 nq hq4 => bad (.inr hp2) H4 q s4 nq hq4⟩
      · refine iteN (fun y => hp2 (of_decide_eq_true y)) ?_
        rw [if_neg (by simp only [Bool.or_eq_true, decide_eq_true_eq]; omega)] at k
        refine ⟨_, rfl, dk, CD, dx, _, _, rfl, hX.ob, TD.cl, TD.nS, rfl, l, _, rfl, .inl (SqL.of hX.row.lst), _, _, rfl, rfl, _, rfl, ?_⟩
        rw [List.length_map, hal]
        by_cases hh : 16 ≤ m.streets.length
        · refine iteP (decide_eq_true (by omega)) ?_
          rw [if_pos hh] at k
          exact ⟨4, rfl, fun H4 q s4 nq hq4 => stay_ch hDS k rfl s4 nq hq4⟩
        · refine iteN (fun y => hh (by have := of_decide_eq_true y; omega)) ?_
          rw [if_neg hh, Int.toNat_natCast, Int.toNat_natCast, Int.toNat_natCast, Int.toNat_natCast] at k
          refine ⟨_, rfl, dk, CD, dx, _, _, rfl, hX.ob, TD.cl, TD.nS, rfl, .inl ⟨rfl, _, SqL.of hX.row.lst⟩, ?_⟩
          refine ⟨_, rfl, _, rfl, _, rfl, ca, CC, cx, _, _, rfl, hC.ob, TC.cl, TC.nN, rfl, n1, _, _, V.int (vl : Int), rfl, rfl, SqL.of hC.nu, atI_nat (j := 2) rfl, ?_⟩
          refine ⟨_, rfl, ca, CC, cx, _, _, rfl, hC.ob, TC.cl, TC.nN, rfl, n1, _, _, V.int (vo : Int), rfl, rfl, SqL.of hC.nu, atI_nat (j := 3) rfl, ?_⟩
          intro x xx nx nxx nex
          refine ⟨x, xx, _, _, _, _, rfl, upd_same, fun H1 hx1 k1 => ⟨rfl, ?_⟩⟩
          have s1 : Same H H1 := made_same nx nxx k1
          have xO : x ∉ O := fun e => by
            obtain ⟨o, eo⟩ := hX.tr x e
            rw [eo] at nx
            cases nx
          have xne : x ≠ dk ∧ x ≠ l ∧ x ≠ hl ∧ x ∉ as ∧ x ∉ bs := by
            rw [hX.o] at xO
            simpa [not_or] using xO
          refine ⟨l, _, _, rfl, rfl, s1 _ _ hX.row.lst, small1000 (by rw [List.length_map, hal]; omega), ?_⟩
          have ob2 : (upd H1 l (.lst (as.map V.ref ++ [.ref x]))) dk = some (.ins CD dx (dfs m.n l hl)) := by
            rw [upd_ne ndl]
            exact s1 _ _ hX.ob
          refine ⟨_, rfl, dk, CD, dx, _, _, rfl, ob2, TD.cl, TD.nS, rfl, l, _, rfl, .inl (SqL.of upd_same), _, _, rfl, rfl, (by show 2 ≤ sizeLine; decide), fun q2 nq => ?_⟩
          have nqh : q2 ≠ l := fun e => by rw [e, upd_same] at nq; cases nq
          rw [upd_ne nqh] at nq
          have back : ∀ b o (o1 o2 : HO), H1 b = some o → b ≠ l → (upd (upd H1 l o1) q2 o2) b = some o := fun b o o1 o2 e nb => by
            rw [upd_ne (ne_of_none e nq), upd_ne nb]
            exact e
          have hx3 : ∀ (o1 o2 : HO), StrAt C (upd (upd H1 l o1) q2 o2) x ⟨va, vb, vl, vo⟩ := fun o1 o2 => ⟨xx, back _ _ _ _ hx1 xne.2.1⟩
          refine k _ (dk :: l :: hl :: ((as ++ [x]) ++ bs)) q2 (fun b o e nb => ?_) (fun b hb => ?_) ⟨dx, l, hl, as ++ [x], bs, ?_, ?_, ⟨?_, hX.hom.len, fun i a t g1 g2 => ?_⟩, rfl, ?_, fun m' e => ?_⟩ ?_ (none_back s1 nq)
          · refine back b o _ _ (s1 _ _ e) fun eb => nb ?_
            rw [hX.o, eb]
            simp
          · rw [hX.o]
            simp only [List.mem_cons, List.mem_append, List.not_mem_nil, or_false] at hb ⊢
            rcases hb with e | e | e | (e | e) | e
            · exact .inl (.inl e)
            · exact .inl (.inr (.inl e))
            · exact .inl (.inr (.inr (.inl e)))
            · exact .inl (.inr (.inr (.inr (.inl e))))
            · exact .inr (e ▸ nx)
            · exact .inl (.inr (.inr (.inr (.inr e))))
          · exact back _ _ _ _ (s1 _ _ hX.ob) ndl
          · refine hX.row.push (fun b hb o e => back _ _ _ _ (s1 _ _ e) (hap b hb).2.1) ?_ (hx3 _ _) xne.2.2.2.1
            rw [upd_ne nqh.symm]
            exact upd_same
          · exact back _ _ _ _ (s1 _ _ hX.hom.lst) nlh.symm
          · obtain ⟨ax, e⟩ := hX.hom.at_ i a t g1 g2
            exact ⟨ax, back _ _ _ _ (s1 _ _ e) (hbp a (List.mem_of_getElem? g1)).2.1⟩
          · have nd0 := hX.nd
            rw [hX.o] at nd0
            simp only [List.nodup_cons, List.mem_cons, List.mem_append, not_or, List.nodup_append, List.not_mem_nil, or_false] at nd0 ⊢
            obtain ⟨⟨d1, d2, d3, d4⟩, ⟨l1, l2, l3⟩, ⟨h1, h2⟩, n1', n2', n3'⟩ := nd0
            refine ⟨⟨d1, d2, ⟨d3, fun e => xne.1 e.symm⟩, d4⟩, ⟨l1, ⟨l2, fun e => xne.2.1 e.symm⟩, l3⟩, ⟨⟨h1, fun e => xne.2.2.1 e.symm⟩, h2⟩, ⟨n1', ⟨by simp, by simp⟩, fun a ha b hb e => ?_⟩, n2', fun a ha b hb e => ?_⟩
            · exact xne.2.2.2.1 (hb ▸ e ▸ ha)
            · rcases ha with ha | ha
              · exact n3' a ha b hb e
              · exact xne.2.2.2.2 (ha ▸ e ▸ hb)
          · have e' := Option.some.inj e
            rw [← e']
            exact wm_add wm (by omega) (show va < m.n by omega) (show vb < m.n by omega) (by show 1 ≤ vl ∧ vl ≤ 1000; omega) (by show 1 ≤ vo ∧ vo ≤ 3; omega)
          · rw [upd_same, List.length_append, List.length_map, hal]
            show some (HO.lst [V.int 0, V.int (((m.streets.length + 1 : Nat) : Int) - 1)]) = some (HO.lst [V.int 0, V.int (m.streets.length : Int)])
            rw [show ((m.streets.length + 1 : Nat) : Int) - 1 = (m.streets.length : Int) by omega]
/-! ### change -/
def okChange (s : Vbcsag.State) (nums row : List Int) : Prop := ∃ m i l o, s = some m ∧ nums = [i, l, o] ∧ fitM [i, l, o] (3 : Nat) [(0, 15), (1, 1000), (1, 3)] = true
def resChange (s : Vbcsag.State) (nums row : List Int) : Vbcsag.State × List Int := nstep s [[16, nums.headD 0, nums.getD 1 0, nums.getD 2 0]]
theorem df_answer_change (T : Txt K mg C) (TD : TxD K CD) (TC : TxC K CC) (D : Dn K mg "answer_change" s_answer_change ["desk", "call"]) (Dr : Df P w K mg base "refused" ["why"] 1 spRefused)
    (gN : mg "NO_SUCH" = some (.int 3 tk)) (gl : mg "len" = none) : Df P w K mg base "answer_change" ["desk", "call"] 2 (spCh C CD CC CH okChange resChange) := by
  refine D.df sc_answer_change (fun vs H Q E h => ?_) (fun f cdv A outer s H vs Q E hr h => ?_)
  · obtain ⟨dk, ca, cx, n1, r1, p, nums, row, O, st, rfl, _⟩ := h
    rfl
  · obtain ⟨dk, ca, cx, n1, r1, p, nums, row, O, st, rfl, hDS, hC, ⟨m, zi, zl, zo, rfl, rfl, hz⟩, hni, k⟩ := h
    have nd := sc_answer_change.nd
    refine ⟨_, pss_cons (ps_if (pt_cmpR op_ge (pe_ix ix_list (pe_fld (pv 1) rfl) pe_int (fun _ _ => rfl)) (pe_callB call_len_seq (by rfl) gl PySem.boot_len (pa_cons (pe_fld (pv 0) rfl) pa_nil)) (nomark _)) (pss_one (ps_ret (pe_df Dr hr (by rfl) (pa_cons (pe_glob (v := .int 3) rfl gN ⟨_, rfl⟩) pa_nil)))) pss_nil)
      (pss_cons (ps_set (i := 2) nd rfl (.inl rfl) (pe_ix ix_list (pe_fld (pv 0) rfl) (pe_ix ix_list (pe_fld (pv 1) rfl) pe_int (fun _ _ => rfl)) (fun _ _ => rfl)))
      (pss_cons (ps_fld (pv 2) (pe_ix ix_list (pe_fld (pv 1) rfl) pe_int (fun _ _ => rfl)) rfl)
      (pss_cons (ps_fld (pv 2) (pe_ix ix_list (pe_fld (pv 1) rfl) pe_int (fun _ _ => rfl)) rfl)
      (pss_one (ps_ret (pe_lst (pa_cons pe_int pa_nil))))))), ?_⟩
    obtain ⟨hzz, hst, _⟩ := st_change m hz
    obtain ⟨q, rfl⟩ : ∃ q : Nat, zi = (q : Int) := ⟨zi.toNat, by omega⟩
    obtain ⟨vl, rfl⟩ : ∃ q : Nat, zl = (q : Int) := ⟨zl.toNat, by omega⟩
    obtain ⟨vo, rfl⟩ : ∃ q : Nat, zo = (q : Int) := ⟨zo.toNat, by omega⟩
    unfold resChange at k
    rw [List.headD_cons, show ([(q : Int), (vl : Int), (vo : Int)] : List Int).getD 1 0 = (vl : Int) from rfl, show ([(q : Int), (vl : Int), (vo : Int)] : List Int).getD 2 0 = (vo : Int) from rfl, hst] at k
    obtain ⟨dx, l, hl, as, bs, hX⟩ := id hDS
    obtain ⟨⟨ndl, ndh, nlh⟩, hap, hbp, ndas, ndbs⟩ := hX.apart
    have wm := hX.wm m rfl
    have hal : as.length = m.streets.length := hX.row.len
    refine ⟨_, rfl, ca, CC, cx, _, _, rfl, hC.ob, TC.cl, TC.nN, rfl, n1, _, _, V.int (q : Int), rfl, rfl, SqL.of hC.nu, atI_nat (j := 0) rfl, _, rfl, dk, CD, dx, _, _, rfl, hX.ob, TD.cl, TD.nS, rfl, l, _, rfl, .inl (SqL.of hX.row.lst), _, _, rfl, rfl, _, rfl, ?_⟩
    rw [List.length_map, hal]
    by_cases hp : (m.streets.length : Int) ≤ (q : Int)
    · refine iteP (decide_eq_true hp) ?_
      rw [if_pos hp] at k
      exact ⟨3, rfl, fun H4 q s4 nq hq4 => stay_ch hDS k rfl s4 nq hq4⟩
    · refine iteN (fun y => hp (of_decide_eq_true y)) ?_
      rw [if_neg hp, Int.toNat_natCast, Int.toNat_natCast, Int.toNat_natCast] at k
      have hq : q < m.streets.length := by omega
      have hqa : q < as.length := by omega
      have ea : as[q]? = some as[q] := List.getElem?_eq_getElem hqa
      have es : m.streets[q]? = some (Vbcsag.streetAt m q) := Mi.getD_lt hq Vbcsag.street0
      have ma : as[q] ∈ as := List.getElem_mem hqa
      obtain ⟨ax, hs⟩ := hX.row.at_ q _ _ ea es
      obtain ⟨a1, a2, a3, a4⟩ := hap _ ma
      have aO : as[q] ∈ O := by rw [hX.o]; simp [ma]
      have nca : ca ≠ as[q] := fun e => hni.1 (e ▸ aO)
      have nn1 : n1 ≠ as[q] := fun e => hni.2.1 (e ▸ aO)
      generalize as[q] = a at *
      refine ⟨_, rfl, dk, CD, dx, _, _, rfl, hX.ob, TD.cl, TD.nS, rfl, _, rfl, ca, CC, cx, _, _, rfl, hC.ob, TC.cl, TC.nN, rfl, n1, _, _, V.int (q : Int), rfl, rfl, SqL.of hC.nu, atI_nat (j := 0) rfl, l, _, _, V.ref a, rfl, rfl, SqL.of hX.row.lst, atI_nat (by rw [List.getElem?_map, ea]; rfl), ?_⟩
      refine ⟨_, rfl, ca, CC, cx, _, _, rfl, hC.ob, TC.cl, TC.nN, rfl, n1, _, _, V.int (vl : Int), rfl, rfl, SqL.of hC.nu, atI_nat (j := 1) rfl, _, rfl, a, C, ax, _, rfl, hs, T.cl, T.nL, (by show 4 < 1000; decide), ?_⟩
      refine ⟨_, rfl, ca, CC, cx, _, _, rfl, by rw [upd_ne nca]; exact hC.ob, TC.cl, TC.nN, rfl, n1, _, _, V.int (vo : Int), rfl, rfl, SqL.of (by rw [upd_ne nn1]; exact hC.nu), atI_nat (j := 2) rfl, _, rfl, a, C, ax, _, rfl, upd_same, T.cl, T.nO, (by show 4 < 1000; decide), ?_⟩
      refine ⟨(by show 1 ≤ sizeLine; decide), fun q2 nq => ?_⟩
      have nqa : q2 ≠ a := fun e => by rw [e, upd_same] at nq; cases nq
      rw [upd_ne nqa, upd_ne nqa] at nq
      have back : ∀ b o (o1 o2 o3 : HO), H b = some o → b ≠ a → (upd (upd (upd H a o1) a o2) q2 o3) b = some o := fun b o o1 o2 o3 e nb => by
        rw [upd_ne (ne_of_none e nq), upd_ne nb, upd_ne nb]
        exact e
      refine k _ O q2 (fun b o e nb => ?_) (fun b hb => .inl hb) ⟨dx, l, hl, as, bs, ?_, ⟨?_, ?_, fun i b t g1 g2 => ?_, ndas⟩, ⟨?_, hX.hom.len, fun i b t g1 g2 => ?_⟩, hX.o, hX.nd, fun m' e => ?_⟩ ?_ nq
      · exact back b o _ _ _ e fun eb => nb (eb ▸ aO)
      · exact back _ _ _ _ _ hX.ob a1.symm
      · exact back _ _ _ _ _ hX.row.lst a2.symm
      · show as.length = (m.streets.set q _).length
        rw [List.length_set]
        exact hal
      · have g2 : (m.streets.set q { Vbcsag.streetAt m q with long := vl, need := vo })[i]? = some t := g2
        by_cases ei : q = i
        · subst ei
          rw [ea] at g1
          have e1 : a = b := Option.some.inj g1
          subst e1
          rw [List.getElem?_set_self hq] at g2
          have e2 := Option.some.inj g2
          subst e2
          refine ⟨ax, ?_⟩
          rw [upd_ne nqa.symm]
          exact upd_same
        · rw [List.getElem?_set_ne ei] at g2
          have nb : b ≠ a := fun e => by
            subst e
            have hi := (List.getElem?_eq_some_iff.mp g1).1
            exact ei ((List.getElem?_inj hqa ndas).mp (ea.trans g1.symm))
          obtain ⟨bx, e⟩ := hX.row.at_ i b t g1 g2
          exact ⟨bx, back _ _ _ _ _ e nb⟩
      · exact back _ _ _ _ _ hX.hom.lst a3.symm
      · obtain ⟨bx, e⟩ := hX.hom.at_ i b t g1 g2
        exact ⟨bx, back _ _ _ _ _ e fun eb => a4 (eb ▸ List.mem_of_getElem? g1)⟩
      · have e' := Option.some.inj e
        rw [← e']
        exact wm_change wm hq (by omega) (by omega)
      · rw [upd_same]
        rfl
/-! ### sizes -/
def resSizes (s : Vbcsag.State) (nums row : List Int) : Vbcsag.State × List Int := nstep s [[19]]
theorem df_answer_sizes (TD : TxD K CD) (D : Dn K mg "answer_sizes" s_answer_sizes ["desk", "call"]) (gl : mg "len" = none) : Df P w K mg base "answer_sizes" ["desk", "call"] 1 (spCh C CD CC CH (fun _ _ _ => True) resSizes) := by
  refine D.df sc_answer_sizes (fun vs H Q E h => ?_) (fun f cdv A outer s H vs Q E hr h => ?_)
  · obtain ⟨dk, ca, cx, n1, r1, p, nums, row, O, st, rfl, _⟩ := h
    rfl
  · obtain ⟨dk, ca, cx, n1, r1, p, nums, row, O, st, rfl, hDS, hC, _, hni, k⟩ := h
    obtain ⟨dx, l, hl, as, bs, hX⟩ := id hDS
    refine ⟨_, pss_one (ps_ret (pe_lst (pa_cons pe_int (pa_cons (pe_fld (pv 0) rfl) (pa_cons (pe_callB call_len_seq (by rfl) gl PySem.boot_len (pa_cons (pe_fld (pv 0) rfl) pa_nil)) (pa_cons (pe_callB call_len_seq (by rfl) gl PySem.boot_len (pa_cons (pe_fld (pv 0) rfl) pa_nil)) pa_nil)))))), ?_⟩
    refine ⟨_, rfl, dk, CD, dx, _, _, rfl, hX.ob, TD.cl, TD.nP, rfl, _, rfl, dk, CD, dx, _, _, rfl, hX.ob, TD.cl, TD.nS, rfl, l, _, rfl, .inl (SqL.of hX.row.lst), _, rfl, dk, CD, dx, _, _, rfl, hX.ob, TD.cl, TD.nH, rfl, hl, _, rfl, .inl (SqL.of hX.hom.lst), (by show 4 ≤ sizeLine; decide), fun q nq => ?_⟩
    rw [List.length_map, List.length_map, hX.row.len, hX.hom.len]
    refine stay_ch (a := [0, (nOf st : Int), ((ssOf st).length : Int), ((hsOf st).length : Int)]) hDS k ?_ (same_upd nq) nq upd_same
    cases st <;> rfl
end
end Rw

set_option Elab.async false
set_option linter.all false
set_option maxRecDepth 100000
set_option maxHeartbeats 2000000
namespace Rw
open PySem PySem.Spec PyProof.Rows L2
open Vbcsag (Street Map Home)
abbrev s_answer_call : Stmt := topS 93
theorem sc_answer_call : FnScope ["desk", "call"] ["desk", "call"] (defScope s_answer_call) := ⟨rfl, rfl, rfl, by decide +kernel, rfl, by decide +kernel, by decide +kernel⟩
/-! ### the tables as they stand -/
def NRt : List Rg := [[(1, 7)], [], [], [], [], [], [(0, 6)], [(0, 6)], [(0, 6), (0, 100000)], [(0, 127)], [], [(0, 6), (0, 100000), (0, 100000)], [], [(0, 6), (0, 100000)], [(0, 6), (0, 200)], [(0, 15)], [(0, 15), (1, 1000), (1, 3)], [(0, 6), (0, 6), (1, 1000), (1, 3)], [], []]
def RRt : List Rg := [rg4, [], [], [(0, 15)], [], [(0, 1000000), (0, 1000000)], [], [(0, 15)], [], [], [], [], [], [], [], [], [], [], [], []]
def RMt : List Int := [64, 0, 0, 16, 0, 60, 0, 80, 0, 0, 0, 0, 0, 0, 0, 0, 0, 0, 0, 0]
theorem shape_in {z : Int} {r : Nat × Nat} (h : PyVbcsag.shape z = some r) : 0 ≤ z ∧ z < 20 := by
  refine Classical.byContradiction fun hc => ?_
  unfold PyVbcsag.shape at h
  iterate 20 rw [if_neg (by omega)] at h
  cases h
def tabChk (p : Nat) : Bool := match PyVbcsag.shape (p : Int) with
  | some (n, k) => (NRt.getD p []).length == n && ((k == 0 && (RRt.getD p []).isEmpty) || (k == 1 && !(RRt.getD p []).isEmpty))
  | none => true
theorem tab_chk : ∀ p : Fin 20, tabChk p.val = true := by decide +kernel
theorem tabOk_t : TabOk NRt RRt := fun z n k h => by
  obtain ⟨h0, h1⟩ := shape_in h
  obtain ⟨p, rfl⟩ : ∃ p : Nat, z = (p : Int) := ⟨z.toNat, by omega⟩
  have hp : p < 20 := by omega
  have hc := tab_chk ⟨p, hp⟩
  unfold tabChk at hc
  rw [h] at hc
  simp only [Bool.and_eq_true, Bool.or_eq_true, beq_iff_eq, Bool.not_eq_true', List.isEmpty_eq_false_iff, List.isEmpty_iff] at hc
  exact ⟨p, rfl, hp, hc.1, hc.2⟩
def inB (p : Nat) (nums row : List Int) : Bool := fitM nums (NRt.getD p []).length (NRt.getD p []) && (homeOk p nums && fitM row (RMt.getD p 0) (RRt.getD p []))
/-! ### the twenty calls -/
inductive Kind : List (List Int) → Nat → List Int → List Int → Prop where
  | map (x : Int) (row : List Int) : Kind [[0, x], row] 0 [x] row
  | odd : Kind [[1]] 1 [] []
  | extra : Kind [[2]] 2 [] []
  | check (row : List Int) : Kind [[3], row] 3 [] row
  | cuts : Kind [[4]] 4 [] []
  | packs (row : List Int) : Kind [[5], row] 5 [] row
  | walk (x : Int) : Kind [[6, x]] 6 [x] []
  | round (x : Int) (row : List Int) : Kind [[7, x], row] 7 [x] row
  | share (x y : Int) : Kind [[8, x, y]] 8 [x, y] []
  | least (x : Int) : Kind [[9, x]] 9 [x] []
  | heights : Kind [[10]] 10 [] []
  | home (x y u : Int) : Kind [[11, x, y, u]] 11 [x, y, u] []
  | homes : Kind [[12]] 12 [] []
  | found (x y : Int) : Kind [[13, x, y]] 13 [x, y] []
  | best (x y : Int) : Kind [[14, x, y]] 14 [x, y] []
  | street (x : Int) : Kind [[15, x]] 15 [x] []
  | change (x y u : Int) : Kind [[16, x, y, u]] 16 [x, y, u] []
  | add (x y u v : Int) : Kind [[17, x, y, u, v]] 17 [x, y, u, v] []
  | total : Kind [[18]] 18 [] []
  | sizes : Kind [[19]] 19 [] []
theorem raw_kind {c : List (List Int)} {p : Nat} {nums row : List Int} (h : RawIs c p nums row) : Kind c p nums row := by
  obtain ⟨n, k, hs, hl, hw⟩ := h
  have hp : p < 20 := by have := shape_in hs; omega
  match p, hp with
  | 0, _ =>
    have e : some (1, 1) = some (n, k) := hs
    cases e
    rcases hw with ⟨h, _⟩ | ⟨_, rfl⟩
    · cases h
    · match nums, hl with
      | [x], _ => exact .map x row
  | 1, _ =>
    have e : some (0, 0) = some (n, k) := hs
    cases e
    rcases hw with ⟨_, rfl, rfl⟩ | ⟨h, _⟩
    · match nums, hl with
      | [], _ => exact .odd
    · cases h
  | 2, _ =>
    have e : some (0, 0) = some (n, k) := hs
    cases e
    rcases hw with ⟨_, rfl, rfl⟩ | ⟨h, _⟩
    · match nums, hl with
      | [], _ => exact .extra
    · cases h
  | 3, _ =>
    have e : some (0, 1) = some (n, k) := hs
    cases e
    rcases hw with ⟨h, _⟩ | ⟨_, rfl⟩
    · cases h
    · match nums, hl with
      | [], _ => exact .check row
  | 4, _ =>
    have e : some (0, 0) = some (n, k) := hs
    cases e
    rcases hw with ⟨_, rfl, rfl⟩ | ⟨h, _⟩
    · match nums, hl with
      | [], _ => exact .cuts
    · cases h
  | 5, _ =>
    have e : some (0, 1) = some (n, k) := hs
    cases e
    rcases hw with ⟨h, _⟩ | ⟨_, rfl⟩
    · cases h
    · match nums, hl with
      | [], _ => exact .packs row
  | 6, _ =>
    have e : some (1, 0) = some (n, k) := hs
    cases e
    rcases hw with ⟨_, rfl, rfl⟩ | ⟨h, _⟩
    · match nums, hl with
      | [x], _ => exact .walk x
    · cases h
  | 7, _ =>
    have e : some (1, 1) = some (n, k) := hs
    cases e
    rcases hw with ⟨h, _⟩ | ⟨_, rfl⟩
    · cases h
    · match nums, hl with
      | [x], _ => exact .round x row
  | 8, _ =>
    have e : some (2, 0) = some (n, k) := hs
    cases e
    rcases hw with ⟨_, rfl, rfl⟩ | ⟨h, _⟩
    · match nums, hl with
      | [x, y], _ => exact .share x y
    · cases h
  | 9, _ =>
    have e : some (1, 0) = some (n, k) := hs
    cases e
    rcases hw with ⟨_, rfl, rfl⟩ | ⟨h, _⟩
    · match nums, hl with
      | [x], _ => exact .least x
    · cases h
  | 10, _ =>
    have e : some (0, 0) = some (n, k) := hs
    cases e
    rcases hw with ⟨_, rfl, rfl⟩ | ⟨h, _⟩
    · match nums, hl with
      | [], _ => exact .heights
    · cases h
  | 11, _ =>
    have e : some (3, 0) = some (n, k) := hs
    cases e
    rcases hw with ⟨_, rfl, rfl⟩ | ⟨h, _⟩
    · match nums, hl with
      | [x, y, u], _ => exact .home x y u
    · cases h
  | 12, _ =>
    have e : some (0, 0) = some (n, k) := hs
    cases e
    rcases hw with ⟨_, rfl, rfl⟩ | ⟨h, _⟩
    · match nums, hl with
      | [], _ => exact .homes
    · cases h
  | 13, _ =>
    have e : some (2, 0) = some (n, k) := hs
    cases e
    rcases hw with ⟨_, rfl, rfl⟩ | ⟨h, _⟩
    · match nums, hl with
      | [x, y], _ => exact .found x y
    · cases h
  | 14, _ =>
    have e : some (2, 0) = some (n, k) := hs
    cases e
    rcases hw with ⟨_, rfl, rfl⟩ | ⟨h, _⟩
    · match nums, hl with
      | [x, y], _ => exact .best x y
    · cases h
  | 15, _ =>
    have e : some (1, 0) = some (n, k) := hs
    cases e
    rcases hw with ⟨_, rfl, rfl⟩ | ⟨h, _⟩
    · match nums, hl with
      | [x], _ => exact .street x
    · cases h
  | 16, _ =>
    have e : some (3, 0) = some (n, k) := hs
    cases e
    rcases hw with ⟨_, rfl, rfl⟩ | ⟨h, _⟩
    · match nums, hl with
      | [x, y, u], _ => exact .change x y u
    · cases h
  | 17, _ =>
    have e : some (4, 0) = some (n, k) := hs
    cases e
    rcases hw with ⟨_, rfl, rfl⟩ | ⟨h, _⟩
    · match nums, hl with
      | [x, y, u, v], _ => exact .add x y u v
    · cases h
  | 18, _ =>
    have e : some (0, 0) = some (n, k) := hs
    cases e
    rcases hw with ⟨_, rfl, rfl⟩ | ⟨h, _⟩
    · match nums, hl with
      | [], _ => exact .total
    · cases h
  | 19, _ =>
    have e : some (0, 0) = some (n, k) := hs
    cases e
    rcases hw with ⟨_, rfl, rfl⟩ | ⟨h, _⟩
    · match nums, hl with
      | [], _ => exact .sizes
    · cases h
theorem kind_whole {c : List (List Int)} {p : Nat} {nums row : List Int} (h : Kind c p nums row) : PyVbcsag.whole c = c := by
  cases h <;> rfl
theorem home_in (x y u : Int) : inB 11 [x, y, u] [] = inHome x y u := by
  show (fitM [x, y, u] (3 : Nat) [(0, 6), (0, 100000), (0, 100000)] && (homeOk 11 [x, y, u] && true)) = _
  rw [fit_num3, Bool.and_true]
  have e : homeOk 11 [x, y, u] = decide (y ≤ u) := by
    show (!(true && decide (u < y))) = _
    rw [Bool.true_and]
    by_cases h : u < y
    · rw [decide_eq_true h, decide_eq_false (by omega)]
      rfl
    · rw [decide_eq_false h, decide_eq_true (by omega)]
      rfl
  rw [e]
  unfold inHome
  rw [Bool.and_assoc, Bool.and_assoc]
theorem andT {a : Bool} {b : Bool} (h : (a && true) = b) : a = b := by rw [← h, Bool.and_true]
theorem out_all (s : Vbcsag.State) {c : List (List Int)} {p : Nat} {nums row : List Int} (h : Kind c p nums row) (hb : inB p nums row = false) : nstep s (PyVbcsag.whole c) = (s, [-1]) := by
  rw [kind_whole h]
  cases h with
  | map x row => exact out_map s hb
  | odd => exact absurd hb (by decide)
  | extra => exact absurd hb (by decide)
  | check row => exact out_check s hb
  | cuts => exact absurd hb (by decide)
  | packs row => exact out_packs s hb
  | walk x => exact out_walk s (andT hb)
  | round x row => exact out_round s hb
  | share x y => exact out_share s (andT hb)
  | least x => exact out_least s (andT hb)
  | heights => exact absurd hb (by decide)
  | home x y u => exact out_home s ((home_in x y u).symm.trans hb)
  | homes => exact absurd hb (by decide)
  | found x y => exact out_found s (andT hb)
  | best x y => exact out_best s (andT hb)
  | street x => exact out_street s (andT hb)
  | change x y u => exact out_change s (andT hb)
  | add x y u v => exact out_add s (andT hb)
  | total => exact absurd hb (by decide)
  | sizes => exact absurd hb (by decide)
theorem none_all {c : List (List Int)} {p : Nat} {nums row : List Int} (h : Kind c p nums row) (hb : inB p nums row = true) (h0 : p ≠ 0) (h19 : p ≠ 19) : nstep none (PyVbcsag.whole c) = (none, [-2]) := by
  rw [kind_whole h]
  have m : Map := ⟨1, [], []⟩
  cases h with
  | map x row => exact absurd rfl h0
  | odd => rfl
  | extra => rfl
  | check row => exact (st_check m hb).2.2
  | cuts => rfl
  | packs row => exact (st_packs m hb).2.2
  | walk x => exact (st_walk m (andT hb) []).2.2
  | round x row => exact (st_round m hb).2.2
  | share x y => exact (st_share m (andT hb) []).2.2
  | least x => exact (st_least m (andT hb) []).2.2
  | heights => rfl
  | home x y u => exact (st_home m ((home_in x y u).symm.trans hb)).2
  | homes => rfl
  | found x y => exact (st_found m (andT hb) []).2.2
  | best x y => exact (st_best m (andT hb) []).2.2
  | street x => exact (st_street m (andT hb) []).2.2
  | change x y u => exact (st_change m (andT hb)).2.2
  | add x y u v => exact (st_add m (andT hb)).2.2
  | total => rfl
  | sizes => exact absurd rfl h19
/-! ### all answers -/
section
variable {P : Program} {w : World} {K : PySem.W.Frag} {mg : Str → Option Value} {base : Heap} {C CD CC CH : Addr}
structure Alls (P : Program) (w : World) (K : PySem.W.Frag) (mg : Str → Option Value) (base : Heap) (C CD CC CH : Addr) : Prop where
  a0 : Df P w K mg base "answer_map" ["desk", "call"] 4 (spCh C CD CC CH okMap resMap)
  a1 : Df P w K mg base "answer_odd" ["desk", "call"] 4 (spA K C CD CC (fun _ _ => True) ansOdd)
  a2 : Df P w K mg base "answer_extra" ["desk", "call"] 7 (spA K C CD CC (fun _ _ => True) ansExtra)
  a3 : Df P w K mg base "answer_check" ["desk", "call"] 4 (spA K C CD CC okCheck ansCheck)
  a4 : Df P w K mg base "answer_cuts" ["desk", "call"] 8 (spA K C CD CC (fun _ _ => True) ansCuts)
  a5 : Df P w K mg base "answer_packs" ["desk", "call"] 5 (spA K C CD CC okPacks ansPacks)
  a6 : Df P w K mg base "answer_walk" ["desk", "call"] 9 (spA K C CD CC okP ansWalk)
  a7 : Df P w K mg base "answer_round" ["desk", "call"] 4 (spA K C CD CC okRound ansRound)
  a8 : Df P w K mg base "answer_share" ["desk", "call"] 9 (spA K C CD CC okShare ansShare)
  a9 : Df P w K mg base "answer_least" ["desk", "call"] 6 (spA K C CD CC okLeast ansLeast)
  a10 : Df P w K mg base "answer_heights" ["desk", "call"] 7 (spA K C CD CC (fun _ _ => True) ansHeights)
  a11 : Df P w K mg base "answer_home" ["desk", "call"] 3 (spCh C CD CC CH okHome resHome)
  a12 : Df P w K mg base "answer_homes" ["desk", "call"] 1 (spAH K C CD CC CH (fun _ _ => True) ansHomes)
  a13 : Df P w K mg base "answer_found" ["desk", "call"] 10 (spAH K C CD CC CH okShare ansFound)
  a14 : Df P w K mg base "answer_best" ["desk", "call"] 10 (spAH K C CD CC CH okBest ansBest)
  a15 : Df P w K mg base "answer_street" ["desk", "call"] 2 (spA K C CD CC okStreet ansStreet)
  a16 : Df P w K mg base "answer_change" ["desk", "call"] 2 (spCh C CD CC CH okChange resChange)
  a17 : Df P w K mg base "answer_add" ["desk", "call"] 3 (spCh C CD CC CH okAdd resAdd)
  a18 : Df P w K mg base "answer_total" ["desk", "call"] 9 (spA K C CD CC (fun _ _ => True) ansTotal)
  a19 : Df P w K mg base "answer_sizes" ["desk", "call"] 1 (spCh C CD CC CH (fun _ _ _ => True) resSizes)
def ansNames : List Str := ["answer_map", "answer_odd", "answer_extra", "answer_check", "answer_cuts", "answer_packs", "answer_walk", "answer_round", "answer_share", "answer_least", "answer_heights", "answer_home", "answer_homes", "answer_found", "answer_best", "answer_street", "answer_change", "answer_add", "answer_total", "answer_sizes"]
/-- what spAC hands on -/
def Next (C CD CH : Addr) (O : List Addr) (H : Hp) (r : Vbcsag.State × List Int) (dk : Addr) (Q : VK) : Prop :=
  ∀ H' O' q, Keep O H H' → (∀ b ∈ O', b ∈ O ∨ H b = none) → DSd C CD CH O' H' r.1 dk → H' q = some (.lst (r.2.map V.int)) → H q = none → Q (.ref q) H'
theorem of_spA {ok : List Int → List Int → Prop} {ans : Map → List Int → List Int → List Int} {O : List Addr} {H : Hp} {m : Map} {dk ca cx n1 r1 : Addr} {p : Nat} {nums row : List Int} {r : Vbcsag.State × List Int} {Q : VK} {E : XK} (hD : DSd C CD CH O H (some m) dk) (hC : CallAt CC H ca cx n1 r1 p nums row) (k : Next C CD CH O H r dk Q)
    (ho : ok nums row) (hr : r = (some m, ans m nums row)) : spA K C CD CC ok ans [.ref dk, .ref ca] H Q E := by
  obtain ⟨dx, l, hl, as, bs, hX⟩ := id hD
  exact ⟨dk, dx, _, m, l, as, ca, cx, n1, r1, p, nums, row, rfl, hX.desk, hX.wm m rfl, hC, ho, fun H' q sm nq hq => stay_ch hD k hr sm nq hq⟩
theorem of_spAH {ok : List Int → List Int → Prop} {ans : Map → List Int → List Int → List Int} {O : List Addr} {H : Hp} {m : Map} {dk ca cx n1 r1 : Addr} {p : Nat} {nums row : List Int} {r : Vbcsag.State × List Int} {Q : VK} {E : XK} (hD : DSd C CD CH O H (some m) dk) (hC : CallAt CC H ca cx n1 r1 p nums row) (k : Next C CD CH O H r dk Q)
    (ho : ok nums row) (hr : r = (some m, ans m nums row)) : spAH K C CD CC CH ok ans [.ref dk, .ref ca] H Q E := by
  obtain ⟨dx, l, hl, as, bs, hX⟩ := id hD
  exact ⟨dk, dx, _, m, l, as, hl, bs, ca, cx, n1, r1, p, nums, row, rfl, hX.desk, rfl, hX.hom, hX.wm m rfl, hC, ho, fun H' q sm nq hq => stay_ch hD k hr sm nq hq⟩
theorem of_spCh {ok : Vbcsag.State → List Int → List Int → Prop} {res : Vbcsag.State → List Int → List Int → Vbcsag.State × List Int} {O : List Addr} {H : Hp} {s : Vbcsag.State} {dk ca cx n1 r1 : Addr} {p : Nat} {nums row : List Int} {r : Vbcsag.State × List Int} {Q : VK} {E : XK} (hD : DSd C CD CH O H s dk) (hC : CallAt CC H ca cx n1 r1 p nums row) (hni : ca ∉ O ∧ n1 ∉ O ∧ r1 ∉ O) (k : Next C CD CH O H r dk Q)
    (ho : ok s nums row) (hr : res s nums row = r) : spCh C CD CC CH ok res [.ref dk, .ref ca] H Q E := by
  subst hr
  exact ⟨dk, ca, cx, n1, r1, p, nums, row, O, s, rfl, hD, hC, ho, hni, k⟩
theorem disp_all (AL : Alls P w K mg base C CD CC CH) {O : List Addr} {H : Hp} {s : Vbcsag.State} {dk ca cx n1 r1 : Addr} {p : Nat} {nums row : List Int} {c : List (List Int)} {Q : VK} {E : XK} (hk : Kind c p nums row) (hb : inB p nums row = true) (hs : s = none → p = 0 ∨ p = 19)
    (hD : DSd C CD CH O H s dk) (hC : CallAt CC H ca cx n1 r1 p nums row) (hni : ca ∉ O ∧ n1 ∉ O ∧ r1 ∉ O) (k : Next C CD CH O H (nstep s (PyVbcsag.whole c)) dk Q) :
    ∃ (x : Str) (j : Nat) (sp : Sp), ansNames[p]? = some x ∧ Df P w K mg base x ["desk", "call"] j sp ∧ j ≤ 10 ∧ sp [.ref dk, .ref ca] H Q E := by
  rw [kind_whole hk] at k
  cases s with
  | none =>
    cases hk with
    | map x row => exact ⟨_, _, _, rfl, AL.a0, by decide, of_spCh hD hC hni k ⟨x, rfl, hb⟩ rfl⟩
    | sizes => exact ⟨_, _, _, rfl, AL.a19, by decide, of_spCh hD hC hni k trivial rfl⟩
    | odd => exact absurd (hs rfl) (by decide)
    | extra => exact absurd (hs rfl) (by decide)
    | check row => exact absurd (hs rfl) (by decide)
    | cuts => exact absurd (hs rfl) (by decide)
    | packs row => exact absurd (hs rfl) (by decide)
    | walk x => exact absurd (hs rfl) (by decide)
    | round x row => exact absurd (hs rfl) (by decide)
    | share x y => exact absurd (hs rfl) (by decide)
    | least x => exact absurd (hs rfl) (by decide)
    | heights => exact absurd (hs rfl) (by decide)
    | home x y u => exact absurd (hs rfl) (by decide)
    | homes => exact absurd (hs rfl) (by decide)
    | found x y => exact absurd (hs rfl) (by decide)
    | best x y => exact absurd (hs rfl) (by decide)
    | street x => exact absurd (hs rfl) (by decide)
    | change x y u => exact absurd (hs rfl) (by decide)
    | add x y u v => exact absurd (hs rfl) (by decide)
    | total => exact absurd (hs rfl) (by decide)
  | some m =>
    cases hk with
    | map x row => exact ⟨_, _, _, rfl, AL.a0, by decide, of_spCh hD hC hni k ⟨x, rfl, hb⟩ rfl⟩
    | odd => exact ⟨_, _, _, rfl, AL.a1, by decide, of_spA hD hC k trivial (st_odd m [])⟩
    | extra => exact ⟨_, _, _, rfl, AL.a2, by decide, of_spA hD hC k trivial (st_extra m [])⟩
    | check row => exact ⟨_, _, _, rfl, AL.a3, by decide, of_spA hD hC k (st_check m hb).2.1 (st_check m hb).1⟩
    | cuts => exact ⟨_, _, _, rfl, AL.a4, by decide, of_spA hD hC k trivial (st_cuts m [])⟩
    | packs row => exact ⟨_, _, _, rfl, AL.a5, by decide, of_spA hD hC k (st_packs m hb).2.1 (st_packs m hb).1⟩
    | walk x => exact ⟨_, _, _, rfl, AL.a6, by decide, of_spA hD hC k (st_walk m (andT hb) []).2.1 (st_walk m (andT hb) []).1⟩
    | round x row => exact ⟨_, _, _, rfl, AL.a7, by decide, of_spA hD hC k (st_round m hb).2.1 (st_round m hb).1⟩
    | share x y => exact ⟨_, _, _, rfl, AL.a8, by decide, of_spA hD hC k (st_share m (andT hb) []).2.1 (st_share m (andT hb) []).1⟩
    | least x => exact ⟨_, _, _, rfl, AL.a9, by decide, of_spA hD hC k (st_least m (andT hb) []).2.1 (st_least m (andT hb) []).1⟩
    | heights => exact ⟨_, _, _, rfl, AL.a10, by decide, of_spA hD hC k trivial (st_heights m [])⟩
    | home x y u => exact ⟨_, _, _, rfl, AL.a11, by decide, of_spCh hD hC hni k ⟨m, x, y, u, rfl, rfl, (home_in x y u).symm.trans hb⟩ rfl⟩
    | homes => exact ⟨_, _, _, rfl, AL.a12, by decide, of_spAH hD hC k trivial (st_homes m [])⟩
    | found x y => exact ⟨_, _, _, rfl, AL.a13, by decide, of_spAH hD hC k (st_found m (andT hb) []).2.1 (st_found m (andT hb) []).1⟩
    | best x y => exact ⟨_, _, _, rfl, AL.a14, by decide, of_spAH hD hC k (st_best m (andT hb) []).2.1 (st_best m (andT hb) []).1⟩
    | street x => exact ⟨_, _, _, rfl, AL.a15, by decide, of_spA hD hC k (st_street m (andT hb) []).2.1 (st_street m (andT hb) []).1⟩
    | change x y u => exact ⟨_, _, _, rfl, AL.a16, by decide, of_spCh hD hC hni k ⟨m, x, y, u, rfl, rfl, andT hb⟩ rfl⟩
    | add x y u v => exact ⟨_, _, _, rfl, AL.a17, by decide, of_spCh hD hC hni k ⟨m, x, y, u, v, rfl, rfl, andT hb⟩ rfl⟩
    | total => exact ⟨_, _, _, rfl, AL.a18, by decide, of_spA hD hC k trivial (st_total m [])⟩
    | sizes => exact ⟨_, _, _, rfl, AL.a19, by decide, of_spCh hD hC hni k trivial rfl⟩
/-! ### one call answered -/
structure Ansr (K : PySem.W.Frag) (mg : Str → Option Value) : Prop where
  tab : ∃ a vs, mg "ANSWERERS" = some (.ref a) ∧ (∀ H, SqT K H a vs) ∧ ∀ (i : Nat) (x : Str), ansNames[i]? = some x → ∃ f, vs[i]? = some (.ref f) ∧ mg x = some (.ref f)
  wo : ∃ a, mg "WITHOUT_MAP" = some (.ref a) ∧ ∀ H, SqT K H a [.int 0, .int 19]
theorem without (p : Nat) : inV (vN p) [.int 0, .int 19] = (decide (p = 0) || decide (p = 19)) := by
  have e : ∀ j : Nat, eqV (.int (j : Int)) (vN p) = decide (p = j) := fun j => by
    show ((j : Int) == (p : Int)) = _
    by_cases h : p = j
    · rw [h, decide_eq_true rfl]
      exact beq_self_eq_true _
    · rw [decide_eq_false h]
      exact beq_eq_false_iff_ne.mpr (by omega)
  show (eqV (.int ((0 : Nat) : Int)) (vN p) || (eqV (.int ((19 : Nat) : Int)) (vN p) || false)) = _
  rw [e 0, e 19, Bool.or_false]
theorem df_answer_call {tk tk2 : Tok} (TD : TxD K CD) (TC : TxC K CC) (AN : Ansr K mg) (AL : Alls P w K mg base C CD CC CH) (D : Dn K mg "answer_call" s_answer_call ["desk", "call"]) (Dw : Df P w K mg base "is_within" ["call"] 2 (spWithin K CC NRt RRt RMt)) (Dr : Df P w K mg base "refused" ["why"] 1 spRefused)
    (gO : mg "OUT_OF_RANGE" = some (.int 1 tk)) (gM : mg "NO_MAP" = some (.int 2 tk2)) : Df P w K mg base "answer_call" ["desk", "call"] 11 (spAC CC (DSd C CD CH)) := by
  refine D.df sc_answer_call (fun vs H Q E h => ?_) (fun f cdv A outer s H vs Q E hr h => ?_)
  · obtain ⟨dk, ca, cx, n1, r1, p, nums, row, O, st, c, rfl, _⟩ := h
    rfl
  · obtain ⟨dk, ca, cx, n1, r1, p, nums, row, O, st, c, rfl, hDS, hC, hRaw, hask, hni, k⟩ := h
    obtain ⟨aT, vs, gT, hT, hAt⟩ := AN.tab
    obtain ⟨aW, gW, hW⟩ := AN.wo
    have hk := raw_kind hRaw
    obtain ⟨n, kk, hs, hl, hw⟩ := hRaw
    obtain ⟨p', hp', hp20, hnl, hrr⟩ := tabOk_t _ _ _ hs
    obtain rfl : p = p' := by omega
    refine ⟨_, pss_cons (ps_if (pt_not (pt_val (pe_df Dw (hr.mono (by decide)) (by rfl) (pa_cons (pv 1) pa_nil)))) (pss_one (ps_ret (pe_df Dr (hr.mono (by decide)) (by rfl) (pa_cons (pe_glob (v := .int 1) rfl gO ⟨_, rfl⟩) pa_nil)))) pss_nil)
      (pss_cons (ps_if (PW.pt (pw_and (pt_cmpR op_notIn_seq (pe_fld (pv 1) rfl) (pe_glob (v := .ref aW) rfl gW rfl) (by with_unfolding_all rfl)) (pw_and1 (pt_cmpR op_eq (pe_fld (pv 0) rfl) pe_int (nomark _))))) (pss_one (ps_ret (pe_df Dr (hr.mono (by decide)) (by rfl) (pa_cons (pe_glob (v := .int 2) rfl gM ⟨_, rfl⟩) pa_nil)))) pss_nil)
      (pss_one (ps_ret (pe_callE (pe_ix ix_tup (pe_glob (v := .ref aT) rfl gT rfl) (pe_fld (pv 1) rfl) (fun _ _ => rfl)) (pa_cons (pv 0) (pa_cons (pv 1) pa_nil)))))), ?_⟩
    refine ⟨_, rfl, ca, cx, n1, r1, p, nums, row, rfl, hC, hp20, fun hn e => ?_, fun hn e => ?_, fun e => ?_, fun H1 s1 => ?_⟩
    · rw [e] at hnl
      have hz : nums.length = 0 := by rw [hl, ← hnl]; rfl
      exact hn (List.length_eq_zero_iff.mp hz)
    · rcases hw with ⟨_, _, h⟩ | ⟨h1, _⟩
      · exact hn h
      · rcases hrr with ⟨h2, _⟩ | ⟨_, h2⟩
        · omega
        · exact h2 e
    · rw [hl, ← hnl, e]
      rfl
    have hD1 : DSd C CD CH O H1 st dk := ds_dep _ _ _ _ _ hDS fun b _ o e => s1 b o e
    have hC1 := hC.same s1
    have k1 : Next C CD CH O H1 (nstep st (PyVbcsag.whole c)) dk Q := fun H' O' q hK hO hd hq nq => k H' O' q (fun b o e nb => hK b o (s1 _ _ e) nb) (fun b hb => (hO b hb).imp id (none_back s1)) hd hq (none_back s1 nq)
    refine ⟨_, rfl, ?_⟩
    show if (!inB p nums row) = true then _ else _
    cases hb : inB p nums row with
    | false =>
      refine iteP rfl ?_
      exact ⟨1, rfl, fun H4 q s4 nq hq4 => stay_ch hD1 k1 (out_all st hk hb) s4 nq hq4⟩
    | true =>
      refine iteN (by decide) ?_
      obtain ⟨dx, l, hl', as, bs, hX⟩ := id hD1
      refine ⟨_, rfl, ca, CC, cx, _, _, rfl, hC1.ob, TC.cl, TC.nU, rfl, aW, _, rfl, .inr (hW H1), rfl, rfl, _, rfl, ?_⟩
      have go : ∀ (hs0 : st = none → p = 0 ∨ p = 19), ∃ f, vs[p]? = some (.ref f) ∧ ∃ (fd : FuncData) (j : Nat) (sp : Sp), FnOk P w K mg base CX0 j f fd ["desk", "call"] sp ∧ j ≤ 10 ∧ PySem.W.keepIn K (.ref f) = true ∧ Binds K fd ["desk", "call"] [] ∧ sp [.ref dk, .ref ca] H1 Q E0 := fun hs0 => by
        obtain ⟨x, j, sp, hx, ⟨f, fd, F, b, g, kp⟩, hj, hsp⟩ := disp_all AL (E := E0) hk hb hs0 hD1 hC1 hni k1
        obtain ⟨f', hf, gx⟩ := hAt p x hx
        rw [g] at gx
        cases gx
        exact ⟨f, hf, fd, j, sp, F, hj, kp, b, hsp⟩
      have hin : (!inV (vN p) [.int 0, .int 19]) = !(decide (p = 0) || decide (p = 19)) := by rw [without]
      by_cases z : p = 0 ∨ p = 19
      · refine iteN (show ¬ (!inV (vN p) [.int 0, .int 19]) = true by rw [hin]; rcases z with e | e <;> rw [e] <;> decide) ?_
        refine iteN (by decide) ?_
        obtain ⟨f, hf, fd, j, sp, F, hj, kp, b, hsp⟩ := go (fun _ => z)
        exact ⟨_, rfl, ca, CC, cx, _, _, rfl, hC1.ob, TC.cl, TC.nU, rfl, aT, _, _, V.ref f, rfl, rfl, hT H1, atI_nat hf, f, fd, _, j, sp, rfl, F, hr.mono hj, kp, b, _, rfl, _, rfl, hsp⟩
      · refine iteP (show (!inV (vN p) [.int 0, .int 19]) = true by rw [hin]; simpa using z) ?_
        refine ⟨_, rfl, dk, CD, dx, _, _, rfl, hX.ob, TD.cl, TD.nP, rfl, rfl, _, rfl, ?_⟩
        cases st with
        | none =>
          refine iteP (int_eq rfl) ?_
          exact ⟨2, rfl, fun H4 q s4 nq hq4 => stay_ch hD1 k1 (none_all hk hb (fun e => z (.inl e)) (fun e => z (.inr e))) s4 nq hq4⟩
        | some m =>
          have hn1 := (hX.wm m rfl).n1
          refine iteN (int_ne (show (m.n : Int) ≠ 0 by omega)) ?_
          obtain ⟨f, hf, fd, j, sp, F, hj, kp, b, hsp⟩ := go (fun e => by cases e)
          exact ⟨_, rfl, ca, CC, cx, _, _, rfl, hC1.ob, TC.cl, TC.nU, rfl, aT, _, _, V.ref f, rfl, rfl, hT H1, atI_nat hf, f, fd, _, j, sp, rfl, F, hr.mono hj, kp, b, _, rfl, _, rfl, hsp⟩
end
end Rw

set_option Elab.async false
set_option linter.all false
set_option maxRecDepth 100000
set_option maxHeartbeats 2000000
namespace Rw
open PySem PySem.Spec PyProof.Rows L2
open Vbcsag (Street Map Home)
/-! ### dicts of the module, read off K -/
def keyChk (e : DictEntry) : Bool := match e.key with
  | .int i _ => e.hash == hashInt i
  | _ => false
theorem keyChk_ok {e : DictEntry} (h : keyChk e = true) : ∃ i t, e.key = .int i t ∧ e.hash = hashInt i := by
  unfold keyChk at h
  split at h
  · rename_i i t hk
    exact ⟨i, t, hk, beq_iff_eq.mp h⟩
  · cases h
def dictOf (K : PySem.W.Frag) (a : Addr) : Option (List DictEntry) := match K.lookup a with
  | some ⟨.type "dict", none, .dict es _, ⟨[]⟩⟩ => if (es.toList.all keyChk && !(a == sysModules)) = true then some es.toList else none
  | _ => none
theorem dictOf_ok {K : PySem.W.Frag} {a : Addr} {es : List DictEntry} (h : dictOf K a = some es) : KInt K a es := by
  unfold dictOf at h
  split at h
  · rename_i es' n hl
    split at h
    · rename_i hc
      have e := Option.some.inj h
      subst e
      rw [Bool.and_eq_true, List.all_eq_true, Bool.not_eq_true'] at hc
      exact ⟨⟨n, hl⟩, fun e he => keyChk_ok (hc.1 e he), hc.2⟩
    · cases h
  · cases h
def rowsChk (K : PySem.W.Frag) (es : List DictEntry) (p : Nat) : Bool := match atKey es (p : Int) with
  | none => (RRt.getD p []).isEmpty
  | some u => !(RRt.getD p []).isEmpty && decide (rowOf K u = some (RRt.getD p []))
def mostChk (es : List DictEntry) (p : Nat) : Bool := (RRt.getD p []).isEmpty || match atKey es (p : Int) with
  | some (.int i _) => i == RMt.getD p 0
  | _ => false
theorem all20 {f : Nat → Bool} (h : (List.range 20).all f = true) : ∀ p : Nat, p < NRt.length → f p = true := fun p hp => List.all_eq_true.mp h p (List.mem_range.mpr hp)
theorem tabs_mk {K : PySem.W.Frag} {mg : Str → Option Value} {h : Heap} {a1 a2 a3 : Addr} {es2 es3 : List DictEntry} {tk : Tok} (X : K.In h) (G : h.Ns mainGlobals mg)
    (g1 : PySem.W.nsIn K mainGlobals "NUMBER_RANGES" = some (some (.ref a1))) (t1 : tabOf K (.ref a1) = some NRt) (g2 : PySem.W.nsIn K mainGlobals "ROW_RANGES" = some (some (.ref a2))) (t2 : dictOf K a2 = some es2) (c2 : (List.range 20).all (rowsChk K es2) = true)
    (g3 : PySem.W.nsIn K mainGlobals "ROW_MOST" = some (some (.ref a3))) (t3 : dictOf K a3 = some es3) (c3 : (List.range 20).all (mostChk es3) = true) (g4 : PySem.W.nsIn K mainGlobals "HOME_CALL" = some (some (.int 11 tk))) : Tabs K mg NRt RRt RMt := by
  refine ⟨⟨a1, PySem.W.mg_of X G g1, tabOf_ok t1⟩, ⟨a2, es2, PySem.W.mg_of X G g2, dictOf_ok t2, fun p hp => ?_⟩, ⟨a3, es3, PySem.W.mg_of X G g3, dictOf_ok t3, fun p hp hne => ?_⟩, ⟨tk, PySem.W.mg_of X G g4⟩⟩
  · have hc := all20 c2 p hp
    unfold rowsChk at hc
    split at hc
    · rename_i e
      exact ⟨fun _ => e, fun hn => absurd (List.isEmpty_iff.mp hc) hn⟩
    · rename_i u e
      rw [Bool.and_eq_true, Bool.not_eq_true', List.isEmpty_eq_false_iff, decide_eq_true_eq] at hc
      refine ⟨fun hn => absurd hn hc.1, fun _ => ?_⟩
      obtain ⟨r1, r2⟩ := rowOf_ok hc.2
      exact ⟨u, refV u, e, r1, r2⟩
  · have hc := all20 c3 p hp
    unfold mostChk at hc
    rw [Bool.or_eq_true] at hc
    rcases hc with hc | hc
    · exact absurd (List.isEmpty_iff.mp hc) hne
    · split at hc
      · rename_i i t e
        exact ⟨t, by rw [e, beq_iff_eq.mp hc]⟩
      · cases hc
/-- the tuple of the answerers, name by name -/
def ansChk (K : PySem.W.Frag) : List Str → List Addr → Bool
  | [], [] => true
  | x :: xs, f :: fs => (match PySem.W.nsIn K mainGlobals x with
    | some (some (.ref g)) => g == f
    | _ => false) && ansChk K xs fs
  | _, _ => false
theorem ansChk_ok {K : PySem.W.Frag} : ∀ {xs : List Str} {fs : List Addr}, ansChk K xs fs = true → ∀ (i : Nat) (x : Str), xs[i]? = some x → ∃ f, fs[i]? = some f ∧ PySem.W.nsIn K mainGlobals x = some (some (.ref f))
  | [], [], _, i, x, h => by simp at h
  | [], _ :: _, h, _, _, _ => by cases h
  | _ :: _, [], h, _, _, _ => by cases h
  | y :: xs, g :: fs, h, i, x, hx => by
    unfold ansChk at h
    rw [Bool.and_eq_true] at h
    cases i with
    | zero =>
      have e : y = x := Option.some.inj hx
      subst e
      obtain ⟨h1, _⟩ := h
      split at h1
      · rename_i g' e
        exact ⟨g, rfl, by rw [e, beq_iff_eq.mp h1]⟩
      · cases h1
    | succ i => exact ansChk_ok h.2 i x hx
theorem ansr_mk {K : PySem.W.Frag} {mg : Str → Option Value} {h : Heap} {a b : Addr} {us : List Value} {fs : List Addr} (X : K.In h) (G : h.Ns mainGlobals mg)
    (g1 : PySem.W.nsIn K mainGlobals "ANSWERERS" = some (some (.ref a))) (t1 : refsOf1 K (.ref a) = some fs) (c1 : ansChk K ansNames fs = true) (g2 : PySem.W.nsIn K mainGlobals "WITHOUT_MAP" = some (some (.ref b))) (t2 : numsOf1 K (.ref b) = some [0, 19]) : Ansr K mg := by
  refine ⟨⟨a, fs.map V.ref, PySem.W.mg_of X G g1, refsOf1_ok t1, fun i x hx => ?_⟩, ⟨b, PySem.W.mg_of X G g2, numsOf1_ok t2⟩⟩
  obtain ⟨f, hf, hn⟩ := ansChk_ok c1 i x hx
  exact ⟨f, by rw [List.getElem?_map, hf]; rfl, PySem.W.mg_of X G hn⟩
/-! ### all that the top has written -/
structure Top (K : PySem.W.Frag) (mg : Str → Option Value) (C CD CC CH : Addr) : Prop where
  D_streets_from : Dn K mg "streets_from" s_streets_from ["row"]
  D_set_of : Dn K mg "set_of" s_set_of ["place"]
  D_all_places : Dn K mg "all_places" s_all_places ["places"]
  D_places_in : Dn K mg "places_in" s_places_in ["places"]
  D_ends_of : Dn K mg "ends_of" s_ends_of ["street"]
  D_odd_ends : Dn K mg "odd_ends" s_odd_ends ["street"]
  D_place_behind : Dn K mg "place_behind" s_place_behind ["street", "place"]
  D_length_together : Dn K mg "length_together" s_length_together ["streets", "row"]
  D_reached : Dn K mg "reached" s_reached ["place", "streets"]
  D_odd_set : Dn K mg "odd_set" s_odd_set ["streets"]
  D_suited_set : Dn K mg "suited_set" s_suited_set ["streets", "taken"]
  D_lesser : Dn K mg "lesser" s_lesser ["left", "taken", "length"]
  D_with_street : Dn K mg "with_street" s_with_street ["street", "leasts"]
  D_leasts_by_street : Dn K mg "leasts_by_street" s_leasts_by_street ["streets"]
  D_leasts_of : Dn K mg "leasts_of" s_leasts_of ["streets"]
  D_first_least : Dn K mg "first_least" s_first_least ["streets", "wanted"]
  D_walked_once_more : Dn K mg "walked_once_more" s_walked_once_more ["streets"]
  D_pairs_from : Dn K mg "pairs_from" s_pairs_from ["row"]
  D_weight_across : Dn K mg "weight_across" s_weight_across ["street", "pairs"]
  D_is_accepted : Dn K mg "is_accepted" s_is_accepted ["streets", "places", "pairs"]
  D_changed : Dn K mg "changed" s_changed ["odd", "place"]
  D_heights_of : Dn K mg "heights_of" s_heights_of ["streets", "places"]
  D_height_from : Dn K mg "height_from" s_height_from ["least", "base"]
  D_peak_from : Dn K mg "peak_from" s_peak_from ["length", "near", "far"]
  D_peaks_of : Dn K mg "peaks_of" s_peaks_of ["streets"]
  D_levels_of : Dn K mg "levels_of" s_levels_of ["streets", "heights", "peaks"]
  D_groups_at : Dn K mg "groups_at" s_groups_at ["level", "streets", "heights", "peaks"]
  D_told_cuts : Dn K mg "told_cuts" s_told_cuts ["streets", "places"]
  D_passed_places : Dn K mg "passed_places" s_passed_places ["streets", "walk", "first"]
  D_is_found : Dn K mg "is_found" s_is_found ["home", "passed", "start"]
  D_found_homes : Dn K mg "found_homes" s_found_homes ["homes", "passed", "start"]
  D_best_start : Dn K mg "best_start" s_best_start ["homes", "passed", "last"]
  D_refused : Dn K mg "refused" s_refused ["why"]
  D_read_calls : Dn K mg "read_calls" s_read_calls ["calls"]
  D_fit : Dn K mg "fit" s_fit ["numbers", "most", "ranges"]
  D_is_within : Dn K mg "is_within" s_is_within ["call"]
  D_is_round : Dn K mg "is_round" s_is_round ["streets", "begin", "row"]
  D_times_to_walk : Dn K mg "times_to_walk" s_times_to_walk ["streets"]
  D_can_go_on : Dn K mg "can_go_on" s_can_go_on ["streets", "times", "place"]
  D_first_possible : Dn K mg "first_possible" s_first_possible ["streets", "times", "place"]
  D_told_walk : Dn K mg "told_walk" s_told_walk ["streets", "begin"]
  D_shares_of : Dn K mg "shares_of" s_shares_of ["streets", "walk", "hours"]
  D_yes_or_no : Dn K mg "yes_or_no" s_yes_or_no ["holds"]
  D_all_below : Dn K mg "all_below" s_all_below ["row", "bound"]
  D_answer_map : Dn K mg "answer_map" s_answer_map ["desk", "call"]
  D_answer_odd : Dn K mg "answer_odd" s_answer_odd ["desk", "call"]
  D_answer_extra : Dn K mg "answer_extra" s_answer_extra ["desk", "call"]
  D_answer_check : Dn K mg "answer_check" s_answer_check ["desk", "call"]
  D_answer_cuts : Dn K mg "answer_cuts" s_answer_cuts ["desk", "call"]
  D_answer_packs : Dn K mg "answer_packs" s_answer_packs ["desk", "call"]
  D_answer_walk : Dn K mg "answer_walk" s_answer_walk ["desk", "call"]
  D_answer_round : Dn K mg "answer_round" s_answer_round ["desk", "call"]
  D_answer_share : Dn K mg "answer_share" s_answer_share ["desk", "call"]
  D_answer_least : Dn K mg "answer_least" s_answer_least ["desk", "call"]
  D_answer_heights : Dn K mg "answer_heights" s_answer_heights ["desk", "call"]
  D_answer_home : Dn K mg "answer_home" s_answer_home ["desk", "call"]
  D_answer_homes : Dn K mg "answer_homes" s_answer_homes ["desk", "call"]
  D_passed_from : Dn K mg "passed_from" s_passed_from ["desk", "place"]
  D_answer_found : Dn K mg "answer_found" s_answer_found ["desk", "call"]
  D_answer_best : Dn K mg "answer_best" s_answer_best ["desk", "call"]
  D_answer_street : Dn K mg "answer_street" s_answer_street ["desk", "call"]
  D_answer_change : Dn K mg "answer_change" s_answer_change ["desk", "call"]
  D_answer_add : Dn K mg "answer_add" s_answer_add ["desk", "call"]
  D_answer_total : Dn K mg "answer_total" s_answer_total ["desk", "call"]
  D_answer_sizes : Dn K mg "answer_sizes" s_answer_sizes ["desk", "call"]
  D_answer_call : Dn K mg "answer_call" s_answer_call ["desk", "call"]
  g_MOST_PLACES : ∃ tk, mg "MOST_PLACES" = some (.int 7 tk)
  g_range : mg "range" = none
  g_sum : mg "sum" = none
  g_min : mg "min" = none
  g_ALL_SETS : ∃ tk, mg "ALL_SETS" = some (.int 128 tk)
  g_reversed : mg "reversed" = none
  g_enumerate : mg "enumerate" = none
  g_len : mg "len" = none
  g_zip : mg "zip" = none
  g_sorted : mg "sorted" = none
  g_set : mg "set" = none
  g_all : mg "all" = none
  g_NO_SUCH : ∃ tk, mg "NO_SUCH" = some (.int 3 tk)
  g_TOO_LONG : ∃ tk, mg "TOO_LONG" = some (.int 6 tk)
  g_any : mg "any" = none
  g_NOT_JOINED : ∃ tk, mg "NOT_JOINED" = some (.int 5 tk)
  g_NO_ROOM : ∃ tk, mg "NO_ROOM" = some (.int 4 tk)
  g_MOST_HOMES : ∃ tk, mg "MOST_HOMES" = some (.int 12 tk)
  g_MOST_STREETS : ∃ tk, mg "MOST_STREETS" = some (.int 16 tk)
  g_OUT_OF_RANGE : ∃ tk, mg "OUT_OF_RANGE" = some (.int 1 tk)
  g_NO_MAP : ∃ tk, mg "NO_MAP" = some (.int 2 tk)
  c_Street : ClsK K mg "Street" "Street.__init__" C s_street_init ["self", "near", "far", "length", "often"]
  c_Desk : ClsK K mg "Desk" "Desk.__init__" CD s_desk_init ["self"]
  c_Call : ClsK K mg "Call" "Call.__init__" CC s_call_init ["self", "number", "numbers", "row"]
  c_Home : ClsK K mg "Home" "Home.__init__" CH s_home_init ["self", "place", "begin", "finish"]
  f_Street_near : PySem.W.findIn K (.ref C) "near" = some none
  f_Street_far : PySem.W.findIn K (.ref C) "far" = some none
  f_Street_length : PySem.W.findIn K (.ref C) "length" = some none
  f_Street_often : PySem.W.findIn K (.ref C) "often" = some none
  f_Desk_places : PySem.W.findIn K (.ref CD) "places" = some none
  f_Desk_streets : PySem.W.findIn K (.ref CD) "streets" = some none
  f_Desk_homes : PySem.W.findIn K (.ref CD) "homes" = some none
  f_Call_number : PySem.W.findIn K (.ref CC) "number" = some none
  f_Call_numbers : PySem.W.findIn K (.ref CC) "numbers" = some none
  f_Call_row : PySem.W.findIn K (.ref CC) "row" = some none
  f_Home_place : PySem.W.findIn K (.ref CH) "place" = some none
  f_Home_begin : PySem.W.findIn K (.ref CH) "begin" = some none
  f_Home_finish : PySem.W.findIn K (.ref CH) "finish" = some none
  TB : Tabs K mg NRt RRt RMt
  AN : Ansr K mg
theorem assemble {P : Program} {w : World} {K : PySem.W.Frag} {mg : Str → Option Value} {base : Heap} {C CD CC CH : Addr} {f : Addr} {fd : FuncData} (T : Top K mg C CD CC CH) (F : Fun K "answers" "answers" s_answers f fd) : FnOk P w K mg base CX0 12 f fd ["calls"] (spAnswers K) := by
  have TS : Txt K mg C := ⟨T.c_Street.cl, T.f_Street_near, T.f_Street_far, T.f_Street_length, T.f_Street_often⟩
  have TD : TxD K CD := ⟨T.c_Desk.cl, T.f_Desk_places, T.f_Desk_streets, T.f_Desk_homes⟩
  have TC : TxC K CC := ⟨T.c_Call.cl, T.f_Call_number, T.f_Call_numbers, T.f_Call_row⟩
  have TH : TxH K CH := ⟨T.c_Home.cl, T.f_Home_place, T.f_Home_begin, T.f_Home_finish⟩
  obtain ⟨tk_MOST_PLACES, g_MOST_PLACES⟩ := T.g_MOST_PLACES
  obtain ⟨tk_ALL_SETS, g_ALL_SETS⟩ := T.g_ALL_SETS
  obtain ⟨tk_NO_SUCH, g_NO_SUCH⟩ := T.g_NO_SUCH
  obtain ⟨tk_TOO_LONG, g_TOO_LONG⟩ := T.g_TOO_LONG
  obtain ⟨tk_NOT_JOINED, g_NOT_JOINED⟩ := T.g_NOT_JOINED
  obtain ⟨tk_NO_ROOM, g_NO_ROOM⟩ := T.g_NO_ROOM
  obtain ⟨tk_MOST_HOMES, g_MOST_HOMES⟩ := T.g_MOST_HOMES
  obtain ⟨tk_MOST_STREETS, g_MOST_STREETS⟩ := T.g_MOST_STREETS
  obtain ⟨tk_OUT_OF_RANGE, g_OUT_OF_RANGE⟩ := T.g_OUT_OF_RANGE
  obtain ⟨tk_NO_MAP, g_NO_MAP⟩ := T.g_NO_MAP
  have M_Street : Mc P w K mg base "Street" C ["self", "near", "far", "length", "often"] 1 (spInitS C) := by
    obtain ⟨f, fd, mk, F, b⟩ := T.c_Street.fn
    exact ⟨f, fd, mk, ok_street_init F TS, b, T.c_Street.g⟩
  have M_Desk : Mc P w K mg base "Desk" CD ["self"] 1 (spInitD CD (DSd C CD CH)) := by
    obtain ⟨f, fd, mk, F, b⟩ := T.c_Desk.fn
    exact ⟨f, fd, mk, ok_desk_init F TD, b, T.c_Desk.g⟩
  have M_Call : Mc P w K mg base "Call" CC ["self", "number", "numbers", "row"] 1 (spInitC CC) := by
    obtain ⟨f, fd, mk, F, b⟩ := T.c_Call.fn
    exact ⟨f, fd, mk, ok_call_init F TC, b, T.c_Call.g⟩
  have M_Home : Mc P w K mg base "Home" CH ["self", "place", "begin", "finish"] 1 (spInitH CH) := by
    obtain ⟨f, fd, mk, F, b⟩ := T.c_Home.fn
    exact ⟨f, fd, mk, ok_home_init F TH, b, T.c_Home.g⟩
  have F_set_of : Df P w K mg base "set_of" ["place"] 1 spSetOf := df_set_of T.D_set_of
  have F_all_places : Df P w K mg base "all_places" ["places"] 1 spAllPlaces := df_all_places T.D_all_places
  have F_ends_of : Df P w K mg base "ends_of" ["street"] 2 (spStreetI C Mi.endsOf) := df_ends_of TS T.D_ends_of F_set_of
  have F_odd_ends : Df P w K mg base "odd_ends" ["street"] 2 (spStreetI C Mi.oddEnds) := df_odd_ends TS T.D_odd_ends F_set_of
  have F_place_behind : Df P w K mg base "place_behind" ["street", "place"] 1 (spBehind C) := df_place_behind TS T.D_place_behind
  have F_places_in : Df P w K mg base "places_in" ["places"] 2 spPlacesIn := df_places_in T.D_places_in F_set_of g_MOST_PLACES T.g_range
  have F_length_together : Df P w K mg base "length_together" ["streets", "row"] 1 (spLenTog K C) := df_length_together TS T.D_length_together T.g_sum
  have F_reached : Df P w K mg base "reached" ["place", "streets"] 3 (spReached K C) := df_reached T.D_reached F_set_of F_ends_of
  have F_odd_set : Df P w K mg base "odd_set" ["streets"] 3 (spOddSet K C) := df_odd_set TS T.D_odd_set F_odd_ends
  have F_suited_set : Df P w K mg base "suited_set" ["streets", "taken"] 3 (spSuited K C) := df_suited_set TS T.D_suited_set F_odd_ends
  have F_lesser : Df P w K mg base "lesser" ["left", "taken", "length"] 1 spLesser := df_lesser T.D_lesser T.g_min
  have F_with_street : Df P w K mg base "with_street" ["street", "leasts"] 3 (spWith K C) := df_with_street TS T.D_with_street F_odd_ends F_lesser g_ALL_SETS T.g_range
  have F_leasts_by_street : Df P w K mg base "leasts_by_street" ["streets"] 4 (spRows K C) := df_leasts_by_street T.D_leasts_by_street F_with_street g_ALL_SETS T.g_reversed
  have F_leasts_of : Df P w K mg base "leasts_of" ["streets"] 5 (spLeasts K C) := df_leasts_of T.D_leasts_of F_leasts_by_street
  have F_first_least : Df P w K mg base "first_least" ["streets", "wanted"] 5 (spFirst K C) := df_first_least T.D_first_least F_leasts_by_street F_odd_ends T.g_enumerate
  have F_walked_once_more : Df P w K mg base "walked_once_more" ["streets"] 6 (spMore K C) := df_walked_once_more T.D_walked_once_more F_first_least F_odd_set
  have F_pairs_from : Df P w K mg base "pairs_from" ["row"] 1 (spPairs K) := df_pairs_from T.D_pairs_from T.g_range T.g_len
  have F_weight_across : Df P w K mg base "weight_across" ["street", "pairs"] 3 (spAcross K C) := df_weight_across T.D_weight_across F_odd_ends F_places_in T.g_sum T.g_len
  have F_is_accepted : Df P w K mg base "is_accepted" ["streets", "places", "pairs"] 4 (spAccepted K C) := df_is_accepted TS T.D_is_accepted F_odd_set F_all_places F_places_in F_weight_across T.g_len
  have F_changed : Df P w K mg base "changed" ["odd", "place"] 2 spChanged := df_changed T.D_changed F_set_of
  have F_height_from : Df P w K mg base "height_from" ["least", "base"] 1 spHeightFrom := df_height_from T.D_height_from
  have F_peak_from : Df P w K mg base "peak_from" ["length", "near", "far"] 1 spPeakFrom := df_peak_from T.D_peak_from T.g_min
  have F_heights_of : Df P w K mg base "heights_of" ["streets", "places"] 6 (spHeights K C) := df_heights_of T.D_heights_of F_odd_set F_leasts_of F_changed T.g_range
  have F_peaks_of : Df P w K mg base "peaks_of" ["streets"] 6 (spPeaks K C) := df_peaks_of TS T.D_peaks_of F_odd_set F_leasts_of F_changed F_height_from F_peak_from T.g_enumerate
  have F_levels_of : Df P w K mg base "levels_of" ["streets", "heights", "peaks"] 1 (spLevels K C) := df_levels_of TS T.D_levels_of T.g_zip T.g_sorted T.g_set
  have F_groups_at : Df P w K mg base "groups_at" ["level", "streets", "heights", "peaks"] 4 (spGroups K C) := df_groups_at T.D_groups_at F_reached F_set_of T.g_zip T.g_enumerate
  have F_told_cuts : Df P w K mg base "told_cuts" ["streets", "places"] 7 (spCuts K C) := df_told_cuts T.D_told_cuts F_heights_of F_peaks_of F_levels_of F_groups_at T.g_zip
  have F_is_round : Df P w K mg base "is_round" ["streets", "begin", "row"] 3 (spRound K C) := df_is_round TS T.D_is_round F_ends_of F_set_of F_place_behind T.g_all T.g_enumerate
  have F_times_to_walk : Df P w K mg base "times_to_walk" ["streets"] 7 (spTimes K C) := df_times_to_walk TS T.D_times_to_walk F_walked_once_more
  have F_can_go_on : Df P w K mg base "can_go_on" ["streets", "times", "place"] 4 (spCanGo K C) := df_can_go_on T.D_can_go_on F_reached F_ends_of T.g_zip T.g_all
  have F_first_possible : Df P w K mg base "first_possible" ["streets", "times", "place"] 5 (spFirstP K C) := df_first_possible T.D_first_possible F_can_go_on F_ends_of F_set_of F_place_behind T.g_enumerate
  have F_told_walk : Df P w K mg base "told_walk" ["streets", "begin"] 8 (spWalk K C) := df_told_walk T.D_told_walk F_times_to_walk F_first_possible F_place_behind T.g_sum
  have F_shares_of : Df P w K mg base "shares_of" ["streets", "walk", "hours"] 1 (spShares K C) := df_shares_of TS T.D_shares_of
  have F_refused : Df P w K mg base "refused" ["why"] 1 spRefused := df_refused T.D_refused
  have F_yes_or_no : Df P w K mg base "yes_or_no" ["holds"] 1 spYes := df_yes_or_no T.D_yes_or_no
  have F_all_below : Df P w K mg base "all_below" ["row", "bound"] 1 (spBelow K) := df_all_below T.D_all_below T.g_all
  have F_answer_odd : Df P w K mg base "answer_odd" ["desk", "call"] 4 (spA K C CD CC (fun _ _ => True) ansOdd) := df_answer_odd TD T.D_answer_odd F_places_in F_odd_set
  have F_answer_extra : Df P w K mg base "answer_extra" ["desk", "call"] 7 (spA K C CD CC (fun _ _ => True) ansExtra) := df_answer_extra TD T.D_answer_extra F_walked_once_more F_length_together
  have F_answer_check : Df P w K mg base "answer_check" ["desk", "call"] 4 (spA K C CD CC okCheck ansCheck) := df_answer_check TD TC T.D_answer_check F_all_below F_refused F_suited_set F_odd_set F_yes_or_no F_length_together g_NO_SUCH T.g_len T.g_sorted T.g_set
  have F_answer_cuts : Df P w K mg base "answer_cuts" ["desk", "call"] 8 (spA K C CD CC (fun _ _ => True) ansCuts) := df_answer_cuts TD T.D_answer_cuts F_told_cuts T.g_sum
  have F_answer_packs : Df P w K mg base "answer_packs" ["desk", "call"] 5 (spA K C CD CC okPacks ansPacks) := df_answer_packs TD TC T.D_answer_packs F_pairs_from F_is_accepted F_yes_or_no T.g_sum
  have F_answer_walk : Df P w K mg base "answer_walk" ["desk", "call"] 9 (spA K C CD CC okP ansWalk) := df_answer_walk TD TC T.D_answer_walk F_refused F_told_walk F_length_together g_NO_SUCH
  have F_answer_round : Df P w K mg base "answer_round" ["desk", "call"] 4 (spA K C CD CC okRound ansRound) := df_answer_round TD TC T.D_answer_round F_all_below F_refused F_is_round F_yes_or_no F_length_together g_NO_SUCH T.g_len
  have F_answer_share : Df P w K mg base "answer_share" ["desk", "call"] 9 (spA K C CD CC okShare ansShare) := df_answer_share TS TD TC T.D_answer_share F_refused F_told_walk F_shares_of g_NO_SUCH g_TOO_LONG T.g_any T.g_len
  have F_answer_least : Df P w K mg base "answer_least" ["desk", "call"] 6 (spA K C CD CC okLeast ansLeast) := df_answer_least TD TC T.D_answer_least F_refused F_all_places F_leasts_of g_NO_SUCH
  have F_streets_from : Df P w K mg base "streets_from" ["row"] 3 (spStreets K C) := df_streets_from T.D_streets_from M_Street T.g_range T.g_len
  have F_fit : Df P w K mg base "fit" ["numbers", "most", "ranges"] 1 (spFit K) := df_fit T.D_fit T.g_len T.g_enumerate
  have F_is_within : Df P w K mg base "is_within" ["call"] 2 (spWithin K CC NRt RRt RMt) := df_is_within TC T.TB T.D_is_within F_fit T.g_len
  have F_read_calls : Df P w K mg base "read_calls" ["calls"] 3 (spRead K CC) := df_read_calls T.TB tabOk_t T.D_read_calls M_Call T.g_len
  have F_passed_places : Df P w K mg base "passed_places" ["streets", "walk", "first"] 2 (spPassed K C) := df_passed_places TS T.D_passed_places F_place_behind
  have F_is_found : Df P w K mg base "is_found" ["home", "passed", "start"] 1 (spIsFound CH) := df_is_found TH T.D_is_found
  have F_found_homes : Df P w K mg base "found_homes" ["homes", "passed", "start"] 2 (spFound CH) := df_found_homes T.D_found_homes F_is_found T.g_enumerate
  have F_best_start : Df P w K mg base "best_start" ["homes", "passed", "last"] 3 (spBest CH) := df_best_start T.D_best_start F_found_homes T.g_range T.g_len
  have F_answer_heights : Df P w K mg base "answer_heights" ["desk", "call"] 7 (spA K C CD CC (fun _ _ => True) ansHeights) := df_answer_heights TD T.D_answer_heights F_heights_of F_peaks_of
  have F_answer_street : Df P w K mg base "answer_street" ["desk", "call"] 2 (spA K C CD CC okStreet ansStreet) := df_answer_street TS TD TC T.D_answer_street F_refused g_NO_SUCH T.g_len
  have F_answer_total : Df P w K mg base "answer_total" ["desk", "call"] 9 (spA K C CD CC (fun _ _ => True) ansTotal) := df_answer_total TS TD T.D_answer_total F_told_walk F_length_together T.g_sum
  have F_passed_from : Df P w K mg base "passed_from" ["desk", "place"] 9 (spPassedFrom K C CD) := df_passed_from TD T.D_passed_from F_passed_places F_told_walk
  have F_answer_found : Df P w K mg base "answer_found" ["desk", "call"] 10 (spAH K C CD CC CH okShare ansFound) := df_answer_found TD TC T.D_answer_found F_refused F_found_homes F_passed_from g_NO_SUCH
  have F_answer_best : Df P w K mg base "answer_best" ["desk", "call"] 10 (spAH K C CD CC CH okBest ansBest) := df_answer_best TD TC T.D_answer_best F_refused F_best_start F_passed_from g_NO_SUCH
  have F_answer_homes : Df P w K mg base "answer_homes" ["desk", "call"] 1 (spAH K C CD CC CH (fun _ _ => True) ansHomes) := df_answer_homes TD TH T.D_answer_homes
  have F_answer_map : Df P w K mg base "answer_map" ["desk", "call"] 4 (spCh C CD CC CH okMap resMap) := df_answer_map TS TD TC T.D_answer_map F_refused F_streets_from F_reached F_all_places g_NO_SUCH g_NOT_JOINED T.g_len
  have F_answer_home : Df P w K mg base "answer_home" ["desk", "call"] 3 (spCh C CD CC CH okHome resHome) := df_answer_home TD TC T.D_answer_home F_refused M_Home g_NO_SUCH g_NO_ROOM g_MOST_HOMES T.g_len
  have F_answer_add : Df P w K mg base "answer_add" ["desk", "call"] 3 (spCh C CD CC CH okAdd resAdd) := df_answer_add TD TC T.D_answer_add F_refused M_Street g_NO_SUCH g_NO_ROOM g_MOST_STREETS T.g_len
  have F_answer_change : Df P w K mg base "answer_change" ["desk", "call"] 2 (spCh C CD CC CH okChange resChange) := df_answer_change TS TD TC T.D_answer_change F_refused g_NO_SUCH T.g_len
  have F_answer_sizes : Df P w K mg base "answer_sizes" ["desk", "call"] 1 (spCh C CD CC CH (fun _ _ _ => True) resSizes) := df_answer_sizes TD T.D_answer_sizes T.g_len
  have AL : Alls P w K mg base C CD CC CH := ⟨F_answer_map, F_answer_odd, F_answer_extra, F_answer_check, F_answer_cuts, F_answer_packs, F_answer_walk, F_answer_round, F_answer_share, F_answer_least, F_answer_heights, F_answer_home, F_answer_homes, F_answer_found, F_answer_best, F_answer_street, F_answer_change, F_answer_add, F_answer_total, F_answer_sizes⟩
  have F_answer_call : Df P w K mg base "answer_call" ["desk", "call"] 11 (spAC CC (DSd C CD CH)) := df_answer_call TD TC T.AN AL T.D_answer_call F_is_within F_refused g_OUT_OF_RANGE g_NO_MAP
  exact ok_answers (kA := 8) (DS := DSd C CD CH) ds_dep ds_tr F M_Desk F_read_calls F_answer_call T.g_len
theorem end_mk {P : Program} {w : World} {K : PySem.W.Frag} {mg : Str → Option Value} {h : Heap} {fa f C CD CC CH : Addr} {oc kV dc pm cd ct : Value} {od an : Option Addr} {sl : Array (Option Value)} (X : K.In h) (G : h.Ns mainGlobals mg) (hfa : mg "answers" = some (.ref fa)) (T : Top K mg C CD CC CH)
    (a : PySem.W.nsIn K mainGlobals "answers" = some (some (.ref f))) (l : K.lookup f = some ⟨oc, od, .func (PySem.W.fnOf "answers" "answers" (defArgs s_answers) (defBody s_answers) (defScope s_answers) .none kV dc pm an cd ct), sl⟩) (c : PySem.W.codeIn K cd "answers" = true) (k : PySem.W.keepIn K (.ref f) = true) :
    ∃ fd : FuncData, (∀ (s : Shared) (us : List Value), us.length = (["calls"] : List Str).length → BindsTo s fd ⟨us, []⟩ ((["calls"] : List Str).zip us)) ∧ ∀ base : Heap, K.In base → base.Ns mainGlobals mg → FnOk P w K mg base CX0 12 fa fd ["calls"] (spAnswers K) := by
  have e := hfa.symm.trans (PySem.W.mg_of X G a)
  cases e
  exact ⟨_, fun s us hu => match us, hu with | [_], _ => .of_eq rfl, fun base _ _ => assemble T (fun_mk (st := s_answers) l c k)⟩
end Rw

set_option Elab.async false
set_option linter.all false
open PySem PySem.W PyProof.Rows
set_option maxRecDepth 100000 in
set_option maxHeartbeats 0 in
theorem PySem.Challenge.cw_streetroundsdesk_s01_answers_holds : PySem.Challenge.rw_streetroundsdesk_s01_answers.Holds := by
  w_on; k_headS; (case hw => exact ⟨[.list [.int 1]], by decide +kernel, by decide +kernel⟩)
  k_fillS
  refine L2.walk_specK (r := PySem.Challenge.rw_streetroundsdesk_s01_answers) (k := 12) (CX := L2.CX0) (ps := ["calls"]) (sp := Rw.spAnswers) (by decide +kernel) rfl rfl ⟨rfl, by decide, by decide⟩ (fun w h Y => PySem.W.kIn_of Y) ?F ?S (fun _ _ _ _ z => z)
  case F =>
    intro w mg fa h Y KX G hmg
    have D_streets_from := Rw.dn_mk (x := "streets_from") (st := Rw.s_streets_from) (ps := ["row"]) KX G (by rfl) (by rfl) (by rfl) (by rfl) (fun _ _ _ _ _ _ us hl => match us, hl with | [_], _ => rfl)
    have D_set_of := Rw.dn_mk (x := "set_of") (st := Rw.s_set_of) (ps := ["place"]) KX G (by rfl) (by rfl) (by rfl) (by rfl) (fun _ _ _ _ _ _ us hl => match us, hl with | [_], _ => rfl)
    have D_all_places := Rw.dn_mk (x := "all_places") (st := Rw.s_all_places) (ps := ["places"]) KX G (by rfl) (by rfl) (by rfl) (by rfl) (fun _ _ _ _ _ _ us hl => match us, hl with | [_], _ => rfl)
    have D_places_in := Rw.dn_mk (x := "places_in") (st := Rw.s_places_in) (ps := ["places"]) KX G (by rfl) (by rfl) (by rfl) (by rfl) (fun _ _ _ _ _ _ us hl => match us, hl with | [_], _ => rfl)
    have D_ends_of := Rw.dn_mk (x := "ends_of") (st := Rw.s_ends_of) (ps := ["street"]) KX G (by rfl) (by rfl) (by rfl) (by rfl) (fun _ _ _ _ _ _ us hl => match us, hl with | [_], _ => rfl)
    have D_odd_ends := Rw.dn_mk (x := "odd_ends") (st := Rw.s_odd_ends) (ps := ["street"]) KX G (by rfl) (by rfl) (by rfl) (by rfl) (fun _ _ _ _ _ _ us hl => match us, hl with | [_], _ => rfl)
    have D_place_behind := Rw.dn_mk (x := "place_behind") (st := Rw.s_place_behind) (ps := ["street", "place"]) KX G (by rfl) (by rfl) (by rfl) (by rfl) (fun _ _ _ _ _ _ us hl => match us, hl with | [_, _], _ => rfl)
    have D_length_together := Rw.dn_mk (x := "length_together") (st := Rw.s_length_together) (ps := ["streets", "row"]) KX G (by rfl) (by rfl) (by rfl) (by rfl) (fun _ _ _ _ _ _ us hl => match us, hl with | [_, _], _ => rfl)
    have D_reached := Rw.dn_mk (x := "reached") (st := Rw.s_reached) (ps := ["place", "streets"]) KX G (by rfl) (by rfl) (by rfl) (by rfl) (fun _ _ _ _ _ _ us hl => match us, hl with | [_, _], _ => rfl)
    have D_odd_set := Rw.dn_mk (x := "odd_set") (st := Rw.s_odd_set) (ps := ["streets"]) KX G (by rfl) (by rfl) (by rfl) (by rfl) (fun _ _ _ _ _ _ us hl => match us, hl with | [_], _ => rfl)
    have D_suited_set := Rw.dn_mk (x := "suited_set") (st := Rw.s_suited_set) (ps := ["streets", "taken"]) KX G (by rfl) (by rfl) (by rfl) (by rfl) (fun _ _ _ _ _ _ us hl => match us, hl with | [_, _], _ => rfl)
    have D_lesser := Rw.dn_mk (x := "lesser") (st := Rw.s_lesser) (ps := ["left", "taken", "length"]) KX G (by rfl) (by rfl) (by rfl) (by rfl) (fun _ _ _ _ _ _ us hl => match us, hl with | [_, _, _], _ => rfl)
    have D_with_street := Rw.dn_mk (x := "with_street") (st := Rw.s_with_street) (ps := ["street", "leasts"]) KX G (by rfl) (by rfl) (by rfl) (by rfl) (fun _ _ _ _ _ _ us hl => match us, hl with | [_, _], _ => rfl)
    have D_leasts_by_street := Rw.dn_mk (x := "leasts_by_street") (st := Rw.s_leasts_by_street) (ps := ["streets"]) KX G (by rfl) (by rfl) (by rfl) (by rfl) (fun _ _ _ _ _ _ us hl => match us, hl with | [_], _ => rfl)
    have D_leasts_of := Rw.dn_mk (x := "leasts_of") (st := Rw.s_leasts_of) (ps := ["streets"]) KX G (by rfl) (by rfl) (by rfl) (by rfl) (fun _ _ _ _ _ _ us hl => match us, hl with | [_], _ => rfl)
    have D_first_least := Rw.dn_mk (x := "first_least") (st := Rw.s_first_least) (ps := ["streets", "wanted"]) KX G (by rfl) (by rfl) (by rfl) (by rfl) (fun _ _ _ _ _ _ us hl => match us, hl with | [_, _], _ => rfl)
    have D_walked_once_more := Rw.dn_mk (x := "walked_once_more") (st := Rw.s_walked_once_more) (ps := ["streets"]) KX G (by rfl) (by rfl) (by rfl) (by rfl) (fun _ _ _ _ _ _ us hl => match us, hl with | [_], _ => rfl)
    have D_pairs_from := Rw.dn_mk (x := "pairs_from") (st := Rw.s_pairs_from) (ps := ["row"]) KX G (by rfl) (by rfl) (by rfl) (by rfl) (fun _ _ _ _ _ _ us hl => match us, hl with | [_], _ => rfl)
    have D_weight_across := Rw.dn_mk (x := "weight_across") (st := Rw.s_weight_across) (ps := ["street", "pairs"]) KX G (by rfl) (by rfl) (by rfl) (by rfl) (fun _ _ _ _ _ _ us hl => match us, hl with | [_, _], _ => rfl)
    have D_is_accepted := Rw.dn_mk (x := "is_accepted") (st := Rw.s_is_accepted) (ps := ["streets", "places", "pairs"]) KX G (by rfl) (by rfl) (by rfl) (by rfl) (fun _ _ _ _ _ _ us hl => match us, hl with | [_, _, _], _ => rfl)
    have D_changed := Rw.dn_mk (x := "changed") (st := Rw.s_changed) (ps := ["odd", "place"]) KX G (by rfl) (by rfl) (by rfl) (by rfl) (fun _ _ _ _ _ _ us hl => match us, hl with | [_, _], _ => rfl)
    have D_heights_of := Rw.dn_mk (x := "heights_of") (st := Rw.s_heights_of) (ps := ["streets", "places"]) KX G (by rfl) (by rfl) (by rfl) (by rfl) (fun _ _ _ _ _ _ us hl => match us, hl with | [_, _], _ => rfl)
    have D_height_from := Rw.dn_mk (x := "height_from") (st := Rw.s_height_from) (ps := ["least", "base"]) KX G (by rfl) (by rfl) (by rfl) (by rfl) (fun _ _ _ _ _ _ us hl => match us, hl with | [_, _], _ => rfl)
    have D_peak_from := Rw.dn_mk (x := "peak_from") (st := Rw.s_peak_from) (ps := ["length", "near", "far"]) KX G (by rfl) (by rfl) (by rfl) (by rfl) (fun _ _ _ _ _ _ us hl => match us, hl with | [_, _, _], _ => rfl)
    have D_peaks_of := Rw.dn_mk (x := "peaks_of") (st := Rw.s_peaks_of) (ps := ["streets"]) KX G (by rfl) (by rfl) (by rfl) (by rfl) (fun _ _ _ _ _ _ us hl => match us, hl with | [_], _ => rfl)
    have D_levels_of := Rw.dn_mk (x := "levels_of") (st := Rw.s_levels_of) (ps := ["streets", "heights", "peaks"]) KX G (by rfl) (by rfl) (by rfl) (by rfl) (fun _ _ _ _ _ _ us hl => match us, hl with | [_, _, _], _ => rfl)
    have D_groups_at := Rw.dn_mk (x := "groups_at") (st := Rw.s_groups_at) (ps := ["level", "streets", "heights", "peaks"]) KX G (by rfl) (by rfl) (by rfl) (by rfl) (fun _ _ _ _ _ _ us hl => match us, hl with | [_, _, _, _], _ => rfl)
    have D_told_cuts := Rw.dn_mk (x := "told_cuts") (st := Rw.s_told_cuts) (ps := ["streets", "places"]) KX G (by rfl) (by rfl) (by rfl) (by rfl) (fun _ _ _ _ _ _ us hl => match us, hl with | [_, _], _ => rfl)
    have D_passed_places := Rw.dn_mk (x := "passed_places") (st := Rw.s_passed_places) (ps := ["streets", "walk", "first"]) KX G (by rfl) (by rfl) (by rfl) (by rfl) (fun _ _ _ _ _ _ us hl => match us, hl with | [_, _, _], _ => rfl)
    have D_is_found := Rw.dn_mk (x := "is_found") (st := Rw.s_is_found) (ps := ["home", "passed", "start"]) KX G (by rfl) (by rfl) (by rfl) (by rfl) (fun _ _ _ _ _ _ us hl => match us, hl with | [_, _, _], _ => rfl)
    have D_found_homes := Rw.dn_mk (x := "found_homes") (st := Rw.s_found_homes) (ps := ["homes", "passed", "start"]) KX G (by rfl) (by rfl) (by rfl) (by rfl) (fun _ _ _ _ _ _ us hl => match us, hl with | [_, _, _], _ => rfl)
    have D_best_start := Rw.dn_mk (x := "best_start") (st := Rw.s_best_start) (ps := ["homes", "passed", "last"]) KX G (by rfl) (by rfl) (by rfl) (by rfl) (fun _ _ _ _ _ _ us hl => match us, hl with | [_, _, _], _ => rfl)
    have D_refused := Rw.dn_mk (x := "refused") (st := Rw.s_refused) (ps := ["why"]) KX G (by rfl) (by rfl) (by rfl) (by rfl) (fun _ _ _ _ _ _ us hl => match us, hl with | [_], _ => rfl)
    have D_read_calls := Rw.dn_mk (x := "read_calls") (st := Rw.s_read_calls) (ps := ["calls"]) KX G (by rfl) (by rfl) (by rfl) (by rfl) (fun _ _ _ _ _ _ us hl => match us, hl with | [_], _ => rfl)
    have D_fit := Rw.dn_mk (x := "fit") (st := Rw.s_fit) (ps := ["numbers", "most", "ranges"]) KX G (by rfl) (by rfl) (by rfl) (by rfl) (fun _ _ _ _ _ _ us hl => match us, hl with | [_, _, _], _ => rfl)
    have D_is_within := Rw.dn_mk (x := "is_within") (st := Rw.s_is_within) (ps := ["call"]) KX G (by rfl) (by rfl) (by rfl) (by rfl) (fun _ _ _ _ _ _ us hl => match us, hl with | [_], _ => rfl)
    have D_is_round := Rw.dn_mk (x := "is_round") (st := Rw.s_is_round) (ps := ["streets", "begin", "row"]) KX G (by rfl) (by rfl) (by rfl) (by rfl) (fun _ _ _ _ _ _ us hl => match us, hl with | [_, _, _], _ => rfl)
    have D_times_to_walk := Rw.dn_mk (x := "times_to_walk") (st := Rw.s_times_to_walk) (ps := ["streets"]) KX G (by rfl) (by rfl) (by rfl) (by rfl) (fun _ _ _ _ _ _ us hl => match us, hl with | [_], _ => rfl)
    have D_can_go_on := Rw.dn_mk (x := "can_go_on") (st := Rw.s_can_go_on) (ps := ["streets", "times", "place"]) KX G (by rfl) (by rfl) (by rfl) (by rfl) (fun _ _ _ _ _ _ us hl => match us, hl with | [_, _, _], _ => rfl)
    have D_first_possible := Rw.dn_mk (x := "first_possible") (st := Rw.s_first_possible) (ps := ["streets", "times", "place"]) KX G (by rfl) (by rfl) (by rfl) (by rfl) (fun _ _ _ _ _ _ us hl => match us, hl with | [_, _, _], _ => rfl)
    have D_told_walk := Rw.dn_mk (x := "told_walk") (st := Rw.s_told_walk) (ps := ["streets", "begin"]) KX G (by rfl) (by rfl) (by rfl) (by rfl) (fun _ _ _ _ _ _ us hl => match us, hl with | [_, _], _ => rfl)
    have D_shares_of := Rw.dn_mk (x := "shares_of") (st := Rw.s_shares_of) (ps := ["streets", "walk", "hours"]) KX G (by rfl) (by rfl) (by rfl) (by rfl) (fun _ _ _ _ _ _ us hl => match us, hl with | [_, _, _], _ => rfl)
    have D_yes_or_no := Rw.dn_mk (x := "yes_or_no") (st := Rw.s_yes_or_no) (ps := ["holds"]) KX G (by rfl) (by rfl) (by rfl) (by rfl) (fun _ _ _ _ _ _ us hl => match us, hl with | [_], _ => rfl)
    have D_all_below := Rw.dn_mk (x := "all_below") (st := Rw.s_all_below) (ps := ["row", "bound"]) KX G (by rfl) (by rfl) (by rfl) (by rfl) (fun _ _ _ _ _ _ us hl => match us, hl with | [_, _], _ => rfl)
    have D_answer_map := Rw.dn_mk (x := "answer_map") (st := Rw.s_answer_map) (ps := ["desk", "call"]) KX G (by rfl) (by rfl) (by rfl) (by rfl) (fun _ _ _ _ _ _ us hl => match us, hl with | [_, _], _ => rfl)
    have D_answer_odd := Rw.dn_mk (x := "answer_odd") (st := Rw.s_answer_odd) (ps := ["desk", "call"]) KX G (by rfl) (by rfl) (by rfl) (by rfl) (fun _ _ _ _ _ _ us hl => match us, hl with | [_, _], _ => rfl)
    have D_answer_extra := Rw.dn_mk (x := "answer_extra") (st := Rw.s_answer_extra) (ps := ["desk", "call"]) KX G (by rfl) (by rfl) (by rfl) (by rfl) (fun _ _ _ _ _ _ us hl => match us, hl with | [_, _], _ => rfl)
    have D_answer_check := Rw.dn_mk (x := "answer_check") (st := Rw.s_answer_check) (ps := ["desk", "call"]) KX G (by rfl) (by rfl) (by rfl) (by rfl) (fun _ _ _ _ _ _ us hl => match us, hl with | [_, _], _ => rfl)
    have D_answer_cuts := Rw.dn_mk (x := "answer_cuts") (st := Rw.s_answer_cuts) (ps := ["desk", "call"]) KX G (by rfl) (by rfl) (by rfl) (by rfl) (fun _ _ _ _ _ _ us hl => match us, hl with | [_, _], _ => rfl)
    have D_answer_packs := Rw.dn_mk (x := "answer_packs") (st := Rw.s_answer_packs) (ps := ["desk", "call"]) KX G (by rfl) (by rfl) (by rfl) (by rfl) (fun _ _ _ _ _ _ us hl => match us, hl with | [_, _], _ => rfl)
    have D_answer_walk := Rw.dn_mk (x := "answer_walk") (st := Rw.s_answer_walk) (ps := ["desk", "call"]) KX G (by rfl) (by rfl) (by rfl) (by rfl) (fun _ _ _ _ _ _ us hl => match us, hl with | [_, _], _ => rfl)
    have D_answer_round := Rw.dn_mk (x := "answer_round") (st := Rw.s_answer_round) (ps := ["desk", "call"]) KX G (by rfl) (by rfl) (by rfl) (by rfl) (fun _ _ _ _ _ _ us hl => match us, hl with | [_, _], _ => rfl)
    have D_answer_share := Rw.dn_mk (x := "answer_share") (st := Rw.s_answer_share) (ps := ["desk", "call"]) KX G (by rfl) (by rfl) (by rfl) (by rfl) (fun _ _ _ _ _ _ us hl => match us, hl with | [_, _], _ => rfl)
    have D_answer_least := Rw.dn_mk (x := "answer_least") (st := Rw.s_answer_least) (ps := ["desk", "call"]) KX G (by rfl) (by rfl) (by rfl) (by rfl) (fun _ _ _ _ _ _ us hl => match us, hl with | [_, _], _ => rfl)
    have D_answer_heights := Rw.dn_mk (x := "answer_heights") (st := Rw.s_answer_heights) (ps := ["desk", "call"]) KX G (by rfl) (by rfl) (by rfl) (by rfl) (fun _ _ _ _ _ _ us hl => match us, hl with | [_, _], _ => rfl)
    have D_answer_home := Rw.dn_mk (x := "answer_home") (st := Rw.s_answer_home) (ps := ["desk", "call"]) KX G (by rfl) (by rfl) (by rfl) (by rfl) (fun _ _ _ _ _ _ us hl => match us, hl with | [_, _], _ => rfl)
    have D_answer_homes := Rw.dn_mk (x := "answer_homes") (st := Rw.s_answer_homes) (ps := ["desk", "call"]) KX G (by rfl) (by rfl) (by rfl) (by rfl) (fun _ _ _ _ _ _ us hl => match us, hl with | [_, _], _ => rfl)
    have D_passed_from := Rw.dn_mk (x := "passed_from") (st := Rw.s_passed_from) (ps := ["desk", "place"]) KX G (by rfl) (by rfl) (by rfl) (by rfl) (fun _ _ _ _ _ _ us hl => match us, hl with | [_, _], _ => rfl)
    have D_answer_found := Rw.dn_mk (x := "answer_found") (st := Rw.s_answer_found) (ps := ["desk", "call"]) KX G (by rfl) (by rfl) (by rfl) (by rfl) (fun _ _ _ _ _ _ us hl => match us, hl with | [_, _], _ => rfl)
    have D_answer_best := Rw.dn_mk (x := "answer_best") (st := Rw.s_answer_best) (ps := ["desk", "call"]) KX G (by rfl) (by rfl) (by rfl) (by rfl) (fun _ _ _ _ _ _ us hl => match us, hl with | [_, _], _ => rfl)
    have D_answer_street := Rw.dn_mk (x := "answer_street") (st := Rw.s_answer_street) (ps := ["desk", "call"]) KX G (by rfl) (by rfl) (by rfl) (by rfl) (fun _ _ _ _ _ _ us hl => match us, hl with | [_, _], _ => rfl)
    have D_answer_change := Rw.dn_mk (x := "answer_change") (st := Rw.s_answer_change) (ps := ["desk", "call"]) KX G (by rfl) (by rfl) (by rfl) (by rfl) (fun _ _ _ _ _ _ us hl => match us, hl with | [_, _], _ => rfl)
    have D_answer_add := Rw.dn_mk (x := "answer_add") (st := Rw.s_answer_add) (ps := ["desk", "call"]) KX G (by rfl) (by rfl) (by rfl) (by rfl) (fun _ _ _ _ _ _ us hl => match us, hl with | [_, _], _ => rfl)
    have D_answer_total := Rw.dn_mk (x := "answer_total") (st := Rw.s_answer_total) (ps := ["desk", "call"]) KX G (by rfl) (by rfl) (by rfl) (by rfl) (fun _ _ _ _ _ _ us hl => match us, hl with | [_, _], _ => rfl)
    have D_answer_sizes := Rw.dn_mk (x := "answer_sizes") (st := Rw.s_answer_sizes) (ps := ["desk", "call"]) KX G (by rfl) (by rfl) (by rfl) (by rfl) (fun _ _ _ _ _ _ us hl => match us, hl with | [_, _], _ => rfl)
    have D_answer_call := Rw.dn_mk (x := "answer_call") (st := Rw.s_answer_call) (ps := ["desk", "call"]) KX G (by rfl) (by rfl) (by rfl) (by rfl) (fun _ _ _ _ _ _ us hl => match us, hl with | [_, _], _ => rfl)
    have g_MOST_PLACES : ∃ tk, mg "MOST_PLACES" = some (.int 7 tk) := ⟨_, PySem.W.mg_of KX G (by rfl)⟩
    have g_range : mg "range" = none := PySem.W.mg_none_of KX G (by rfl)
    have g_sum : mg "sum" = none := PySem.W.mg_none_of KX G (by rfl)
    have g_min : mg "min" = none := PySem.W.mg_none_of KX G (by rfl)
    have g_ALL_SETS : ∃ tk, mg "ALL_SETS" = some (.int 128 tk) := ⟨_, PySem.W.mg_of KX G (by rfl)⟩
    have g_reversed : mg "reversed" = none := PySem.W.mg_none_of KX G (by rfl)
    have g_enumerate : mg "enumerate" = none := PySem.W.mg_none_of KX G (by rfl)
    have g_len : mg "len" = none := PySem.W.mg_none_of KX G (by rfl)
    have g_zip : mg "zip" = none := PySem.W.mg_none_of KX G (by rfl)
    have g_sorted : mg "sorted" = none := PySem.W.mg_none_of KX G (by rfl)
    have g_set : mg "set" = none := PySem.W.mg_none_of KX G (by rfl)
    have g_all : mg "all" = none := PySem.W.mg_none_of KX G (by rfl)
    have g_NO_SUCH : ∃ tk, mg "NO_SUCH" = some (.int 3 tk) := ⟨_, PySem.W.mg_of KX G (by rfl)⟩
    have g_TOO_LONG : ∃ tk, mg "TOO_LONG" = some (.int 6 tk) := ⟨_, PySem.W.mg_of KX G (by rfl)⟩
    have g_any : mg "any" = none := PySem.W.mg_none_of KX G (by rfl)
    have g_NOT_JOINED : ∃ tk, mg "NOT_JOINED" = some (.int 5 tk) := ⟨_, PySem.W.mg_of KX G (by rfl)⟩
    have g_NO_ROOM : ∃ tk, mg "NO_ROOM" = some (.int 4 tk) := ⟨_, PySem.W.mg_of KX G (by rfl)⟩
    have g_MOST_HOMES : ∃ tk, mg "MOST_HOMES" = some (.int 12 tk) := ⟨_, PySem.W.mg_of KX G (by rfl)⟩
    have g_MOST_STREETS : ∃ tk, mg "MOST_STREETS" = some (.int 16 tk) := ⟨_, PySem.W.mg_of KX G (by rfl)⟩
    have g_OUT_OF_RANGE : ∃ tk, mg "OUT_OF_RANGE" = some (.int 1 tk) := ⟨_, PySem.W.mg_of KX G (by rfl)⟩
    have g_NO_MAP : ∃ tk, mg "NO_MAP" = some (.int 2 tk) := ⟨_, PySem.W.mg_of KX G (by rfl)⟩
    have c_Street := Rw.cls_mk (x := "Street") (qual := "Street.__init__") (st := Rw.s_street_init) (ps := ["self", "near", "far", "length", "often"]) KX G (by rfl) (by rfl) (by rfl) (by rfl) (by rfl) (by rfl) (by rfl) (by rfl) (by rfl) (by rfl) (by rfl) (by rfl) (fun _ _ _ _ _ _ us hl => match us, hl with | [_, _, _, _, _], _ => rfl)
    have c_Desk := Rw.cls_mk (x := "Desk") (qual := "Desk.__init__") (st := Rw.s_desk_init) (ps := ["self"]) KX G (by rfl) (by rfl) (by rfl) (by rfl) (by rfl) (by rfl) (by rfl) (by rfl) (by rfl) (by rfl) (by rfl) (by rfl) (fun _ _ _ _ _ _ us hl => match us, hl with | [_], _ => rfl)
    have c_Call := Rw.cls_mk (x := "Call") (qual := "Call.__init__") (st := Rw.s_call_init) (ps := ["self", "number", "numbers", "row"]) KX G (by rfl) (by rfl) (by rfl) (by rfl) (by rfl) (by rfl) (by rfl) (by rfl) (by rfl) (by rfl) (by rfl) (by rfl) (fun _ _ _ _ _ _ us hl => match us, hl with | [_, _, _, _], _ => rfl)
    have c_Home := Rw.cls_mk (x := "Home") (qual := "Home.__init__") (st := Rw.s_home_init) (ps := ["self", "place", "begin", "finish"]) KX G (by rfl) (by rfl) (by rfl) (by rfl) (by rfl) (by rfl) (by rfl) (by rfl) (by rfl) (by rfl) (by rfl) (by rfl) (fun _ _ _ _ _ _ us hl => match us, hl with | [_, _, _, _], _ => rfl)
    have TB := Rw.tabs_mk KX G (by rfl) (by rfl) (by rfl) (by rfl) (by rfl) (by rfl) (by rfl) (by rfl) (by rfl)
    have AN := Rw.ansr_mk (us := []) KX G (by rfl) (by rfl) (by rfl) (by rfl) (by rfl)
    have T := Rw.Top.mk D_streets_from D_set_of D_all_places D_places_in D_ends_of D_odd_ends D_place_behind D_length_together D_reached D_odd_set D_suited_set D_lesser D_with_street D_leasts_by_street D_leasts_of D_first_least D_walked_once_more D_pairs_from D_weight_across D_is_accepted D_changed D_heights_of D_height_from D_peak_from D_peaks_of D_levels_of D_groups_at D_told_cuts D_passed_places D_is_found D_found_homes D_best_start D_refused D_read_calls D_fit D_is_within D_is_round D_times_to_walk D_can_go_on D_first_possible D_told_walk D_shares_of D_yes_or_no D_all_below D_answer_map D_answer_odd D_answer_extra D_answer_check D_answer_cuts D_answer_packs D_answer_walk D_answer_round D_answer_share D_answer_least D_answer_heights D_answer_home D_answer_homes D_passed_from D_answer_found D_answer_best D_answer_street D_answer_change D_answer_add D_answer_total D_answer_sizes D_answer_call g_MOST_PLACES g_range g_sum g_min g_ALL_SETS g_reversed g_enumerate g_len g_zip g_sorted g_set g_all g_NO_SUCH g_TOO_LONG g_any g_NOT_JOINED g_NO_ROOM g_MOST_HOMES g_MOST_STREETS g_OUT_OF_RANGE g_NO_MAP c_Street c_Desk c_Call c_Home (by rfl) (by rfl) (by rfl) (by rfl) (by rfl) (by rfl) (by rfl) (by rfl) (by rfl) (by rfl) (by rfl) (by rfl) (by rfl) TB AN
    exact Rw.end_mk KX G hmg T (by rfl) (by rfl) (by rfl) (by rfl)
  case S =>
    intro K H xs a hO hwi hask hx
    cases hx with
    | cons h1 h2 =>
      cases h2
      cases h1 with
      | lst hs ha =>
        have e := L2.ints_dw a.1 _ ha
        subst e
        exact ⟨_, a.1, rfl, hs, hask, fun H' p hp => .lst (L2.SqL.of hp) (L2.dw_ints _)⟩
#print axioms PySem.Challenge.cw_streetroundsdesk_s01_answers_holds

