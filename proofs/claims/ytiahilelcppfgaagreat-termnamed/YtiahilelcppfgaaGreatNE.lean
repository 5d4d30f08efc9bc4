
/- Lists of texts held against one another; a noun about a term, and a name. -/

import Derived.Test.YtiahilelcppfgaaGreatND

import Derived.Laws.Cover1

namespace Go.Proofs.YtiahilelcppfgaaGreat

open Go.RowKit

set_option linter.unusedVariables false

/-- A slice that reads as texts. -/
def Sx (W : World) (o : Option Addr) (l : List (List UInt8)) : Prop := 0 < l.length → ∃ g, o = some ⟨g, 0, none⟩ ∧ Sr W g l
theorem Sx.below {W V : World} {o : Option Addr} {l : List (List UInt8)} (h : Sx W o l) (b : Below W.heap.size W V) : Sx V o l := fun h0 => by
  obtain ⟨g, e, s⟩ := h h0
  exact ⟨g, e, s.below b⟩
theorem bless : ∀ {a b : List UInt8}, a < b → Op.bytesLess a b = true
  | _, [], h => absurd h (List.not_lt_nil _)
  | [], _ :: _, _ => rfl
  | x :: a, y :: b, h => by
    rw [Op.bytesLess]
    rcases List.cons_lt_cons_iff.1 h with q | ⟨q, r⟩
    · simp [q]
    · simp [q, bless r]
theorem getD_ext {a b : List (List UInt8)} (hl : a.length = b.length) (h : ∀ k, k < a.length → a.getD k [] = b.getD k []) : a = b := by
  apply List.ext_getElem hl
  intro i h1 h2
  have := h i h1
  simpa [List.getD, h1, h2] using this
set_option linter.unusedSimpArgs false in
set_option maxHeartbeats 1000000 in
theorem texts_any (a b : List (List UInt8)) (ao bo : Option Addr) (ac bc : Nat) (w : World) (ha : Sx w ao a) (hb : Sx w bo b) (la : a.length ≤ 5000) (lb : b.length ≤ 5000) :
    Calls Tryz.prog 18 #[.slice ao a.length ac, .slice bo b.length bc] w fun e w' => e = .returned (.bool (decide (a = b))) ∧ ∃ q, w' = w.drewN q := by
  have HE : Hid (∀ h : a.length = b.length, (∀ k, k < a.length → a.getD k [] = b.getD k []) → decide (a = b) = true) := fun hl h => by simp; exact getD_ext hl h
  have HN : Hid (∀ k, a.getD k [] ≠ b.getD k [] → decide (a = b) = false) := fun k h => by simp; intro e; exact h (by rw [e])
  have HZ : Hid (a.length ≠ b.length → decide (a = b) = false) := fun h => by simp; intro e; exact h (by rw [e])
  obtain ⟨D, hD⟩ : ∃ D, D = decide (a = b) := ⟨_, rfl⟩
  rw [← hD] at HE HN HZ ⊢
  clear hD
  have ha' : Hid (∀ k, k < a.length → ∃ g, ao = some ⟨g, 0, none⟩ ∧ w.cell? ⟨g, k, none⟩ = some (.string ⟨(a.getD k []).toArray⟩)) := fun k hk => by
    obtain ⟨g, e, s⟩ := ha (by omega)
    exact ⟨g, e, (s.cells k hk).1⟩
  have hb' : Hid (∀ k, k < b.length → ∃ g, bo = some ⟨g, 0, none⟩ ∧ w.cell? ⟨g, k, none⟩ = some (.string ⟨(b.getD k []).toArray⟩)) := fun k hk => by
    obtain ⟨g, e, s⟩ := hb (by omega)
    exact ⟨g, e, (s.cells k hk).1⟩
  clear ha hb
  generalize hn : a.length = n at *
  generalize hm : b.length = m at *
  by_cases hnm : n = m
  · subst hnm
    have e0 : ((n : Int) != (n : Int)) = false := by simp
    go_enter Tryz.func18, Tryz.ntmps18
    go_wp2
    go_loopw [5] (fun i wr => ∃ k : Nat, k ≤ n ∧ i = .int .i64 (k : Nat) ∧ (∀ j, j < k → a.getD j [] = b.getD j []) ∧ ∃ q, wr = w.drewN q) (fun i _ => n - (intOf i).toNat)
    case atStart => exact ⟨0, Nat.zero_le _, rfl, fun j hj => by omega, 0, rfl⟩
    case round =>
      obtain ⟨k, hk, rfl, hz, q, rfl⟩ := hrel
      by_cases hlt : k < n
      · obtain ⟨g, rfl, c1⟩ := ha'.out k hlt
        obtain ⟨g2, rfl, c2⟩ := hb'.out k hlt
        have HZ' : Hid (∀ j, j < k → a.getD j [] = b.getD j []) := hz
        clear hz
        have t3 : decide ((k : Int) < (n : Int)) = true := by simp; omega
        by_cases he : a.getD k [] = b.getD k []
        · have HK : Hid (a.getD k [] = b.getD k []) := he
          rw [← he] at c2
          clear he
          generalize (⟨(a.getD k []).toArray⟩ : ByteArray) = sa at *
          have hne : (sa.toList == sa.toList) = true := by simp
          go_wp2
          go_quiet (fail)
          go_wp2
          go_roundw
          case rel => exact ⟨k + 1, by omega, by go_num, fun j hj => by by_cases e : j = k; (· subst e; exact HK.out); exact HZ'.out j (by omega), _, rfl⟩
          case measure => simp [intOf]; omega
        · have HK : Hid (a.getD k [] ≠ b.getD k []) := he
          have hne : ((⟨(a.getD k []).toArray⟩ : ByteArray).toList == (⟨(b.getD k []).toArray⟩ : ByteArray).toList) = false := by
            rw [ByteArray.toList_mk, ByteArray.toList_mk]; simpa using he
          clear he
          generalize (⟨(a.getD k []).toArray⟩ : ByteArray) = sa at *
          generalize (⟨(b.getD k []).toArray⟩ : ByteArray) = sb at *
          go_wp2
          go_quiet (fail)
          go_wp2
          go_ret
          exact ⟨ret_bool (HN.out k HK.out).symm, q + nq, by simp⟩
      · obtain rfl : k = n := by omega
        have t3 : decide ((k : Int) < (k : Int)) = false := by simp
        have HZ' : Hid (∀ j, j < k → a.getD j [] = b.getD j []) := hz
        clear hz
        go_wp2
        go_ret
        exact ⟨ret_bool (HE.out (by first | rfl | trivial) HZ'.out).symm, _, rfl⟩
  · have hnm' : ((n : Int) != (m : Int)) = true := by simp; omega
    have HNM : Hid (n ≠ m) := hnm
    clear hnm
    go_enter Tryz.func18, Tryz.ntmps18
    go_wp2
    go_ret
    exact ⟨ret_bool (HZ.out HNM.out).symm, 0, rfl⟩
/-- A name; a monad of a term and a name. -/
def nameT (d : Nat) (t : ByteArray) : Tr (d + 1) := Tr.mk ⟨2, t, 0, [], []⟩ []
def monT (d : Nat) (x : Tr (d + 1)) (t : ByteArray) : Tr (d + 2) := Tr.mk ⟨3, ⟨#[]⟩, 0, [], []⟩ [x, nameT d t]
theorem gat_mon (d : Nat) (x : Tr (d + 1)) (t : ByteArray) : gat (d + 2) (monT d x t) = gat (d + 1) x ++ [t] := by
  have e : gat (d + 1) (nameT d t) = [t] := rfl
  show [] ++ (([] ++ gat (d + 1) x) ++ gat (d + 1) (nameT d t)) = _
  rw [e]; simp
theorem nds_mon (d : Nat) (x : Tr (d + 1)) (t : ByteArray) : nds (d + 2) (monT d x t) = nds (d + 1) x + 2 := by
  have e : nds (d + 1) (nameT d t) = 1 := rfl
  show 1 + ((0 + nds (d + 1) x) + nds (d + 1) (nameT d t)) = _
  rw [e]; omega
theorem dep_mon (d : Nat) (x : Tr (d + 1)) (t : ByteArray) : dep (d + 2) (monT d x t) = dep (d + 1) x + 1 := by
  have e : dep (d + 1) (nameT d t) = 1 := rfl
  have h : 1 ≤ dep (d + 1) x := Nat.le_add_right _ _
  show 1 + max (max 0 (dep (d + 1) x)) (dep (d + 1) (nameT d t)) = _
  rw [e]; omega
theorem sl_nil : Sl none 0 0 := ⟨fun _ => ⟨rfl, rfl⟩, Nat.le_refl _, by omega⟩
theorem tv_name (W : World) (d : Nat) (t : ByteArray) (ht : t.size ≤ 140737488355328) : Tv W (d + 1) (nameT d t) [.int .i64 2, .string t, .int .i64 0, .slice none 0 0, .slice none 0 0, .slice none 0 0] :=
  ⟨⟨none, 0, 0, none, 0, 0, none, 0, rfl, Rd.nil _, sl_nil, Rd.nil _, sl_nil, ⟨by show 0 * 104 ≤ _; omega, fun h => absurd h (Nat.lt_irrefl 0)⟩, sl_nil⟩, ⟨by show (-9223372036854775808 : Int) ≤ 2; omega, by show (2 : Int) ≤ _; omega⟩, ⟨by show (-9223372036854775808 : Int) ≤ 0; omega, by show (0 : Int) ≤ _; omega⟩, ht⟩
theorem tv_mon {W V : World} {d g : Nat} {x : Tr (d + 1)} {t : ByteArray} {c0 c1 c2 c3 c4 c5 : Value} (h : Tv V (d + 1) x [c0, c1, c2, c3, c4, c5]) (ht : t.size ≤ 140737488355328) (hr : V.heap[g]? = some (.cells #[c0, c1, c2, c3, c4, c5, .int .i64 2, .string t, .int .i64 0, .slice none 0 0, .slice none 0 0, .slice none 0 0] 31 (0, 0))) :
    Tv V (d + 2) (monT d x t) [.int .i64 3, .string ⟨#[]⟩, .int .i64 0, .slice none 0 0, .slice none 0 0, .slice (some ⟨g, 0, none⟩) 2 2] := by
  have cc : ∀ k, V.cell? ⟨g, k, none⟩ = _ := fun k => cell_of_row V g k _ _ _ hr
  refine ⟨⟨none, 0, 0, none, 0, 0, some ⟨g, 0, none⟩, 2, rfl, Rd.nil _, sl_nil, Rd.nil _, sl_nil, ⟨by show 2 * 104 ≤ _; omega, fun _ => ⟨g, 0, rfl, (Array.getElem?_eq_some_iff.1 hr).1, fun i y hy => ?_⟩⟩, ⟨fun e => (by cases e), Nat.le_refl _, by show 2 ≤ _; omega⟩⟩, ⟨by show (-9223372036854775808 : Int) ≤ 3; omega, by show (3 : Int) ≤ _; omega⟩, ⟨by show (-9223372036854775808 : Int) ≤ 0; omega, by show (0 : Int) ≤ _; omega⟩, by show 0 ≤ _; omega⟩
  match i with
  | 0 => cases hy; exact ⟨c0, c1, c2, c3, c4, c5, h, (cc 0).trans rfl, (cc 1).trans rfl, (cc 2).trans rfl, (cc 3).trans rfl, (cc 4).trans rfl, (cc 5).trans rfl⟩
  | 1 => cases hy; exact ⟨_, _, _, _, _, _, tv_name V d t ht, (cc 6).trans rfl, (cc 7).trans rfl, (cc 8).trans rfl, (cc 9).trans rfl, (cc 10).trans rfl, (cc 11).trans rfl⟩
  | i + 2 => cases hy
/-- The next of those that are kept. -/
theorem filt_at (p : List UInt8 → Bool) : ∀ (m : List (List UInt8)) (j : Nat), j < m.length → p (m.getD j []) = true → (m.filter p).getD ((m.take j).filter p).length [] = m.getD j [] ∧ ((m.take j).filter p).length < (m.filter p).length
  | [], j, h, _ => absurd h (Nat.not_lt_zero _)
  | y :: m, 0, _, hp => by
    have hp' : p y = true := hp
    simp [hp']
  | y :: m, j + 1, h, hp => by
    have ih := filt_at p m j (by simpa using h) (by simpa [List.getD] using hp)
    cases hy : p y
    · simp only [List.take_succ_cons, List.filter_cons, hy, Bool.false_eq_true, if_false]
      simpa [List.getD] using ih
    · simp only [List.take_succ_cons, List.filter_cons, hy, if_true, List.length_cons]
      refine ⟨?_, by omega⟩
      simpa [List.getD] using ih.1
theorem filt_yes (p : List UInt8 → Bool) (m : List (List UInt8)) (j : Nat) (h : j < m.length) (hp : p (m.getD j []) = true) : ((m.take (j + 1)).filter p).length = ((m.take j).filter p).length + 1 := by
  rw [List.take_succ_eq_append_getElem h, List.filter_append, List.length_append]
  have e : p m[j] = true := by rw [← hp]; simp [List.getD, h]
  simp [e]
theorem filt_no (p : List UInt8 → Bool) (m : List (List UInt8)) (j : Nat) (h : j < m.length) (hp : p (m.getD j []) = false) : ((m.take (j + 1)).filter p).length = ((m.take j).filter p).length := by
  rw [List.take_succ_eq_append_getElem h, List.filter_append, List.length_append]
  have e : p m[j] = false := by rw [← hp]; simp [List.getD, h]
  simp [e]
end Go.Proofs.YtiahilelcppfgaaGreat
