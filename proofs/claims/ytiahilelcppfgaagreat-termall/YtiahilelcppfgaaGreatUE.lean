
/- TermAll: the walk. -/

import Derived.Test.YtiahilelcppfgaaGreatSA

import Derived.Laws.Cover1

import Derived.Test.YtiahilelcppfgaaGreatUA

import Derived.Test.YtiahilelcppfgaaGreatSV

import Derived.Test.YtiahilelcppfgaaGreatUB

import Derived.Test.YtiahilelcppfgaaGreatTZ

namespace Go.Proofs.YtiahilelcppfgaaGreat

open Go.RowKit

set_option linter.unusedVariables false

/-- A slice that reads as texts. -/
def Sx (W : World) (o : Option Addr) (l : List (List UInt8)) : Prop := 0 < l.length → ∃ g, o = some ⟨g, 0, none⟩ ∧ Sr W g l
theorem Sx.below {W V : World} {o : Option Addr} {l : List (List UInt8)} (h : Sx W o l) (b : Below W.heap.size W V) : Sx V o l := fun h0 => by
  obtain ⟨g, e, s⟩ := h h0
  exact ⟨g, e, s.below b⟩
theorem getD_ext {a b : List (List UInt8)} (hl : a.length = b.length) (h : ∀ k, k < a.length → a.getD k [] = b.getD k []) : a = b := by
  apply List.ext_getElem hl
  intro i h1 h2
  have := h i h1
  simpa [List.getD, h1, h2] using this
set_option linter.unusedSimpArgs false in
set_option maxHeartbeats 1000000 in
theorem texts_any (a b : List (List UInt8)) (ao bo : Option Addr) (ac bc : Nat) (w : World) (ha : Sx w ao a) (hb : Sx w bo b) (la : a.length ≤ 5000) (lb : b.length ≤ 5000) :
    Calls Tryz.prog 18 #[.slice ao a.length ac, .slice bo b.length bc] w fun e w' => e = .returned (.bool (decide (a = b))) ∧ ∃ q, w' = w.drewN q := by
  have HE : Hid (∀ h : a.length = b.length, (∀ k, k < a.length → a.getD k [] = b.getD k []) → decide (a = b) = true) := fun hl h => by simp; exact getD_ext hl h
  have HN : Hid (∀ k, a.getD k [] ≠ b.getD k [] → decide (a = b) = false) := fun k h => by simp; intro e; exact h (by rw [e])
  have HZ : Hid (a.length ≠ b.length → decide (a = b) = false) := fun h => by simp; intro e; exact h (by rw [e])
  obtain ⟨D, hD⟩ : ∃ D, D = decide (a = b) := ⟨_, rfl⟩
  rw [← hD] at HE HN HZ ⊢
  clear hD
  have ha' : Hid (∀ k, k < a.length → ∃ g, ao = some ⟨g, 0, none⟩ ∧ w.cell? ⟨g, k, none⟩ = some (.string ⟨(a.getD k []).toArray⟩)) := fun k hk => by
    obtain ⟨g, e, s⟩ := ha (by omega)
    exact ⟨g, e, (s.cells k hk).1⟩
  have hb' : Hid (∀ k, k < b.length → ∃ g, bo = some ⟨g, 0, none⟩ ∧ w.cell? ⟨g, k, none⟩ = some (.string ⟨(b.getD k []).toArray⟩)) := fun k hk => by
    obtain ⟨g, e, s⟩ := hb (by omega)
    exact ⟨g, e, (s.cells k hk).1⟩
  clear ha hb
  generalize hn : a.length = n at *
  generalize hm : b.length = m at *
  by_cases hnm : n = m
  · subst hnm
    have e0 : ((n : Int) != (n : Int)) = false := by simp
    go_enter Tryz.func18, Tryz.ntmps18
    go_wp2
    go_loopw [5] (fun i wr => ∃ k : Nat, k ≤ n ∧ i = .int .i64 (k : Nat) ∧ (∀ j, j < k → a.getD j [] = b.getD j []) ∧ ∃ q, wr = w.drewN q) (fun i _ => n - (intOf i).toNat)
    case atStart => exact ⟨0, Nat.zero_le _, rfl, fun j hj => by omega, 0, rfl⟩
    case round =>
      obtain ⟨k, hk, rfl, hz, q, rfl⟩ := hrel
      by_cases hlt : k < n
      · obtain ⟨g, rfl, c1⟩ := ha'.out k hlt
        obtain ⟨g2, rfl, c2⟩ := hb'.out k hlt
        have HZ' : Hid (∀ j, j < k → a.getD j [] = b.getD j []) := hz
        clear hz
        have t3 : decide ((k : Int) < (n : Int)) = true := by simp; omega
        by_cases he : a.getD k [] = b.getD k []
        · have HK : Hid (a.getD k [] = b.getD k []) := he
          rw [← he] at c2
          clear he
          generalize (⟨(a.getD k []).toArray⟩ : ByteArray) = sa at *
          have hne : (sa.toList == sa.toList) = true := by simp
          go_wp2
          go_quiet (fail)
          go_wp2
          go_roundw
          case rel => exact ⟨k + 1, by omega, by go_num, fun j hj => by by_cases e : j = k; (· subst e; exact HK.out); exact HZ'.out j (by omega), _, rfl⟩
          case measure => simp [intOf]; omega
        · have HK : Hid (a.getD k [] ≠ b.getD k []) := he
          have hne : ((⟨(a.getD k []).toArray⟩ : ByteArray).toList == (⟨(b.getD k []).toArray⟩ : ByteArray).toList) = false := by
            rw [ByteArray.toList_mk, ByteArray.toList_mk]; simpa using he
          clear he
          generalize (⟨(a.getD k []).toArray⟩ : ByteArray) = sa at *
          generalize (⟨(b.getD k []).toArray⟩ : ByteArray) = sb at *
          go_wp2
          go_quiet (fail)
          go_wp2
          go_ret
          exact ⟨ret_bool (HN.out k HK.out).symm, q + nq, by simp⟩
      · obtain rfl : k = n := by omega
        have t3 : decide ((k : Int) < (k : Int)) = false := by simp
        have HZ' : Hid (∀ j, j < k → a.getD j [] = b.getD j []) := hz
        clear hz
        go_wp2
        go_ret
        exact ⟨ret_bool (HE.out (by first | rfl | trivial) HZ'.out).symm, _, rfl⟩
  · have hnm' : ((n : Int) != (m : Int)) = true := by simp; omega
    have HNM : Hid (n ≠ m) := hnm
    clear hnm
    go_enter Tryz.func18, Tryz.ntmps18
    go_wp2
    go_ret
    exact ⟨ret_bool (HZ.out HNM.out).symm, 0, rfl⟩
end Go.Proofs.YtiahilelcppfgaaGreat

namespace Go.Proofs.YtiahilelcppfgaaGreat

open Go.RowKit

set_option linter.unusedVariables false

theorem nmT_len (d : Nat) (x : Tr d) : (nmT d x).length ≤ 4096 := by
  unfold nmT
  cases ho : szO d x
  · exact Nat.zero_le _
  · have hd := of_decide_eq_true (show decide (nds d x ≤ 4096 ∧ dep d x ≤ 256) = true from ho)
    refine Nat.le_trans (compact_le _) ?_
    rw [List.length_mergeSort]
    have := gat_len d x
    simp only [bys, List.length_map]
    omega
set_option linter.unusedSimpArgs false in
set_option maxRecDepth 100000 in
set_option maxHeartbeats 4000000 in
theorem play_5 (d e : Nat) (x : Tr (d + 1)) (y : Tr (e + 1)) (k1 n1 k2 n2 c : Int) (t1 t2 : ByteArray) (so1 ao1 uo1 so2 ao2 uo2 : Option Addr) (sn1 sc1 an1 ac1 un1 uc1 sn2 sc2 an2 ac2 un2 uc2 : Nat) (w : World) (hT : Tv w (d + 1) x [.int .i64 k1, .string t1, .int .i64 n1, .slice so1 sn1 sc1, .slice ao1 an1 ac1, .slice uo1 un1 uc1]) (hU : Tv w (e + 1) y [.int .i64 k2, .string t2, .int .i64 n2, .slice so2 sn2 sc2, .slice ao2 an2 ac2, .slice uo2 un2 uc2]) :
    Calls Tryz.prog 10 #[.agg #[.int .i64 5, .int .i64 k1, .string t1, .int .i64 n1, .slice so1 sn1 sc1, .slice ao1 an1 ac1, .slice uo1 un1 uc1, .int .i64 k2, .string t2, .int .i64 n2, .slice so2 sn2 sc2, .slice ao2 an2 ac2, .slice uo2 un2 uc2, .int .i64 c]] w fun e w' => e = .returned (.bool true) ∧ Below w.heap.size w w' := by
  have k0 := box_below w (.cells #[.int .i64 5, .int .i64 k1, .string t1, .int .i64 n1, .slice so1 sn1 sc1, .slice ao1 an1 ac1, .slice uo1 un1 uc1, .int .i64 k2, .string t2, .int .i64 n2, .slice so2 sn2 sc2, .slice ao2 an2 ac2, .slice uo2 un2 uc2, .int .i64 c] 33)
  have box := allocNew w (.cells #[.int .i64 5, .int .i64 k1, .string t1, .int .i64 n1, .slice so1 sn1 sc1, .slice ao1 an1 ac1, .slice uo1 un1 uc1, .int .i64 k2, .string t2, .int .i64 n2, .slice so2 sn2 sc2, .slice ao2 an2 ac2, .slice uo2 un2 uc2, .int .i64 c] 33)
  have HS : Hid (∀ V, Below (w.alloc (.cells #[.int .i64 5, .int .i64 k1, .string t1, .int .i64 n1, .slice so1 sn1 sc1, .slice ao1 an1 ac1, .slice uo1 un1 uc1, .int .i64 k2, .string t2, .int .i64 n2, .slice so2 sn2 sc2, .slice ao2 an2 ac2, .slice uo2 un2 uc2, .int .i64 c] 33)).heap.size (w.alloc (.cells #[.int .i64 5, .int .i64 k1, .string t1, .int .i64 n1, .slice so1 sn1 sc1, .slice ao1 an1 ac1, .slice uo1 un1 uc1, .int .i64 k2, .string t2, .int .i64 n2, .slice so2 sn2 sc2, .slice ao2 an2 ac2, .slice uo2 un2 uc2, .int .i64 c] 33)) V → V.cell? ⟨w.heap.size, 0, none⟩ = some (.int .i64 5) ∧ V.cell? ⟨w.heap.size, 1, none⟩ = some (.int .i64 k1) ∧ V.cell? ⟨w.heap.size, 2, none⟩ = some (.string t1) ∧ V.cell? ⟨w.heap.size, 3, none⟩ = some (.int .i64 n1) ∧ V.cell? ⟨w.heap.size, 4, none⟩ = some (.slice so1 sn1 sc1) ∧ V.cell? ⟨w.heap.size, 5, none⟩ = some (.slice ao1 an1 ac1) ∧ V.cell? ⟨w.heap.size, 6, none⟩ = some (.slice uo1 un1 uc1) ∧ V.cell? ⟨w.heap.size, 7, none⟩ = some (.int .i64 k2) ∧ V.cell? ⟨w.heap.size, 8, none⟩ = some (.string t2) ∧ V.cell? ⟨w.heap.size, 9, none⟩ = some (.int .i64 n2) ∧ V.cell? ⟨w.heap.size, 10, none⟩ = some (.slice so2 sn2 sc2) ∧ V.cell? ⟨w.heap.size, 11, none⟩ = some (.slice ao2 an2 ac2) ∧ V.cell? ⟨w.heap.size, 12, none⟩ = some (.slice uo2 un2 uc2) ∧ V.cell? ⟨w.heap.size, 13, none⟩ = some (.int .i64 c)) := fun V hV => box14 ((hV.block w.heap.size (by simp)).trans box)
  obtain ⟨q0, q1, q2, q3, q4, q5, q6, q7, q8, q9, q10, q11, q12, q13⟩ := HS.out _ (Below.refl _ _)
  have hc1 := fun V (hV : Below w.heap.size w V) => names_any (d + 1) x _ _ _ _ _ _ V (Tv.below hV (Nat.le_refl _) _ _ _ hT)
  have hc2 := fun V (hV : Below w.heap.size w V) => rnames_any d x _ _ _ _ _ _ V (Tv.below hV (Nat.le_refl _) _ _ _ hT)
  have HL : Hid ((nmT (d + 1) x).length ≤ 5000) := Nat.le_trans (nmT_len _ _) (by omega)
  generalize nmT (d + 1) x = R at *
  go_enter Tryz.func10, Tryz.ntmps10
  go_upto_region 13 with fail
  generalize hW : (w.alloc (.cells #[.int .i64 5, .int .i64 k1, .string t1, .int .i64 n1, .slice so1 sn1 sc1, .slice ao1 an1 ac1, .slice uo1 un1 uc1, .int .i64 k2, .string t2, .int .i64 n2, .slice so2 sn2 sc2, .slice ao2 an2 ac2, .slice uo2 un2 uc2, .int .i64 c] 33)) = W at *
  clear hW box
  clear hT hU
  go_wp2_with (first
    | (go_at_call 17; (with_reducible refine (hc1 _ k0).mono ?_); rintro e w5 ⟨o1, p1, rfl, b5, s1⟩; obtain ⟨r0, r1, r2, r3, r4, r5, r6, r7, r8, r9, r10, r11, r12, r13⟩ := HS.out w5 b5)
    | (go_at_call 32; (with_reducible refine (hc2 _ (k0.trans (b5.mono k0.size))).mono ?_); rintro e w6 ⟨o2, p2, rfl, b6, s2⟩
       have ht := texts_any R R o1 o2 p1 p2 w6 (fun h0 => by obtain ⟨g, e, _, s⟩ := s1 h0; exact ⟨g, e, s.below b6⟩) (fun h0 => by obtain ⟨g, e, _, s⟩ := s2 h0; exact ⟨g, e, s⟩) HL.out HL.out
       clear s1 s2)
    | (go_at_call 18; (with_reducible refine ht.mono ?_); rintro e w7 ⟨rfl, qq, hw⟩; have b7 : Below w6.heap.size w6 (w6.drewN qq) := below_drewN (Below.refl _ _) _))
  go_ret
  exact ⟨ret_bool (by simp), k0.trans ((b5.trans ((b6.trans (b7.mono b6.size)).mono b5.size)).mono k0.size)⟩
end Go.Proofs.YtiahilelcppfgaaGreat

namespace Go.Proofs.YtiahilelcppfgaaGreat

open Go.RowKit

set_option linter.unusedVariables false

theorem plays_any (k : Int) (d e : Nat) (x : Tr d) (y : Tr e) (k1 n1 k2 n2 c : Int) (t1 t2 : ByteArray) (so1 ao1 uo1 so2 ao2 uo2 : Option Addr) (sn1 sc1 an1 ac1 un1 uc1 sn2 sc2 an2 ac2 un2 uc2 : Nat) (w : World) (hT : Tv w d x [.int .i64 k1, .string t1, .int .i64 n1, .slice so1 sn1 sc1, .slice ao1 an1 ac1, .slice uo1 un1 uc1]) (hU : Tv w e y [.int .i64 k2, .string t2, .int .i64 n2, .slice so2 sn2 sc2, .slice ao2 an2 ac2, .slice uo2 un2 uc2]) :
    Calls Tryz.prog 10 #[.agg #[.int .i64 k, .int .i64 k1, .string t1, .int .i64 n1, .slice so1 sn1 sc1, .slice ao1 an1 ac1, .slice uo1 un1 uc1, .int .i64 k2, .string t2, .int .i64 n2, .slice so2 sn2 sc2, .slice ao2 an2 ac2, .slice uo2 un2 uc2, .int .i64 c]] w fun e w' => e = .returned (.bool true) ∧ Below w.heap.size w w' := by
  cases d with
  | zero => exact hT.elim
  | succ d =>
    cases e with
    | zero => exact hU.elim
    | succ e =>
      by_cases h1 : k = 1
      · subst h1; exact play_1 d e x y k1 n1 k2 n2 c t1 t2 so1 ao1 uo1 so2 ao2 uo2 sn1 sc1 an1 ac1 un1 uc1 sn2 sc2 an2 ac2 un2 uc2 w hT hU
      by_cases h2 : k = 2
      · subst h2; exact play_2 d e x y k1 n1 k2 n2 c t1 t2 so1 ao1 uo1 so2 ao2 uo2 sn1 sc1 an1 ac1 un1 uc1 sn2 sc2 an2 ac2 un2 uc2 w hT hU
      by_cases h3 : k = 3
      · subst h3; exact play_3 d e x y k1 n1 k2 n2 c t1 t2 so1 ao1 uo1 so2 ao2 uo2 sn1 sc1 an1 ac1 un1 uc1 sn2 sc2 an2 ac2 un2 uc2 w hT hU
      by_cases h4 : k = 4
      · subst h4; exact play_4 d e x y k1 n1 k2 n2 c t1 t2 so1 ao1 uo1 so2 ao2 uo2 sn1 sc1 an1 ac1 un1 uc1 sn2 sc2 an2 ac2 un2 uc2 w hT hU
      by_cases h5 : k = 5
      · subst h5; exact play_5 d e x y k1 n1 k2 n2 c t1 t2 so1 ao1 uo1 so2 ao2 uo2 sn1 sc1 an1 ac1 un1 uc1 sn2 sc2 an2 ac2 un2 uc2 w hT hU
      by_cases h6 : k = 6
      · subst h6; exact play_6 d e x y k1 n1 k2 n2 c t1 t2 so1 ao1 uo1 so2 ao2 uo2 sn1 sc1 an1 ac1 un1 uc1 sn2 sc2 an2 ac2 un2 uc2 w hT hU
      exact play_0 k ⟨h1, h2, h3, h4, h5, h6⟩ k1 n1 k2 n2 c t1 t2 so1 ao1 uo1 so2 ao2 uo2 sn1 sc1 an1 ac1 un1 uc1 sn2 sc2 an2 ac2 un2 uc2 w
end Go.Proofs.YtiahilelcppfgaaGreat

namespace Go.Proofs.YtiahilelcppfgaaGreat

open Go.RowKit

set_option linter.unusedVariables false

/-- An entry of the script. -/
structure OpQ where
  K : Int
  k1 : Int
  t1 : ByteArray
  n1 : Int
  so1 : Option Addr
  sn1 : Nat
  sc1 : Nat
  ao1 : Option Addr
  an1 : Nat
  ac1 : Nat
  uo1 : Option Addr
  un1 : Nat
  uc1 : Nat
  k2 : Int
  t2 : ByteArray
  n2 : Int
  so2 : Option Addr
  sn2 : Nat
  sc2 : Nat
  ao2 : Option Addr
  an2 : Nat
  ac2 : Nat
  uo2 : Option Addr
  un2 : Nat
  uc2 : Nat
  c : Int
/-- Its two terms are read. -/
def OkQ (w : World) (q : OpQ) : Prop := (∃ d, ∃ x : Tr d, Tv w d x [.int .i64 q.k1, .string q.t1, .int .i64 q.n1, .slice q.so1 q.sn1 q.sc1, .slice q.ao1 q.an1 q.ac1, .slice q.uo1 q.un1 q.uc1]) ∧ ∃ e, ∃ y : Tr e, Tv w e y [.int .i64 q.k2, .string q.t2, .int .i64 q.n2, .slice q.so2 q.sn2 q.sc2, .slice q.ao2 q.an2 q.ac2, .slice q.uo2 q.un2 q.uc2]
set_option linter.unusedSimpArgs false in
set_option maxHeartbeats 8000000 in
set_option maxRecDepth 100000 in
theorem allT_walk (b off len cap : Nat) (q : Nat → OpQ) (w : World) (hb : b < w.heap.size) (hlen : len ≤ 9223372036854775807)
    (hc : ∀ i, i < len → w.cell? ⟨b, off + i * 14, none⟩ = some (.int .i64 (q i).K) ∧ w.cell? ⟨b, off + i * 14 + 1, none⟩ = some (.int .i64 (q i).k1) ∧ w.cell? ⟨b, off + i * 14 + 2, none⟩ = some (.string (q i).t1) ∧ w.cell? ⟨b, off + i * 14 + 3, none⟩ = some (.int .i64 (q i).n1) ∧ w.cell? ⟨b, off + i * 14 + 4, none⟩ = some (.slice (q i).so1 (q i).sn1 (q i).sc1) ∧ w.cell? ⟨b, off + i * 14 + 5, none⟩ = some (.slice (q i).ao1 (q i).an1 (q i).ac1) ∧ w.cell? ⟨b, off + i * 14 + 6, none⟩ = some (.slice (q i).uo1 (q i).un1 (q i).uc1) ∧ w.cell? ⟨b, off + i * 14 + 7, none⟩ = some (.int .i64 (q i).k2) ∧ w.cell? ⟨b, off + i * 14 + 8, none⟩ = some (.string (q i).t2) ∧ w.cell? ⟨b, off + i * 14 + 9, none⟩ = some (.int .i64 (q i).n2) ∧ w.cell? ⟨b, off + i * 14 + 10, none⟩ = some (.slice (q i).so2 (q i).sn2 (q i).sc2) ∧ w.cell? ⟨b, off + i * 14 + 11, none⟩ = some (.slice (q i).ao2 (q i).an2 (q i).ac2) ∧ w.cell? ⟨b, off + i * 14 + 12, none⟩ = some (.slice (q i).uo2 (q i).un2 (q i).uc2) ∧ w.cell? ⟨b, off + i * 14 + 13, none⟩ = some (.int .i64 (q i).c)) (hr : ∀ i, i < len → OkQ w (q i)) :
    Calls Tryz.prog 3 #[.slice (some ⟨b, off, none⟩) len cap] w fun e w' => e = .returned (.bool true) ∧ Below w.heap.size w w' := by
  go_enter Tryz.func3, Tryz.ntmps3
  go_wp2_with (go_at_call 9; (with_reducible refine (begun13_any _).mono ?_); rintro e w1 ⟨rfl, b1⟩)
  go_loopw [3] (fun i V => ∃ k : Nat, k ≤ len ∧ i = .int .i64 (k : Nat) ∧ Below w.heap.size w V) (fun i _ => len - (intOf i).toNat)
  case atStart => exact ⟨0, Nat.zero_le _, rfl, b1⟩
  case round =>
    obtain ⟨k, hk, rfl, BV⟩ := hrel
    clear b1
    by_cases hlt : k < len
    · have hck := hc k hlt
      have Ok := hr k hlt
      clear hc hr
      generalize q k = x at *
      obtain ⟨K, k1, t1, n1, so1, sn1, sc1, ao1, an1, ac1, uo1, un1, uc1, k2, t2, n2, so2, sn2, sc2, ao2, an2, ac2, uo2, un2, uc2, c⟩ := x
      obtain ⟨h0, h1, h2, h3, h4, h5, h6, h7, h8, h9, h10, h11, h12, h13⟩ := hck
      obtain ⟨⟨d, x, hT⟩, e, y, hU⟩ := Ok
      dsimp only at h0 h1 h2 h3 h4 h5 h6 h7 h8 h9 h10 h11 h12 h13 hT hU
      rw [← BV.cell (p := ⟨b, _, none⟩) hb] at h0 h1 h2 h3 h4 h5 h6 h7 h8 h9 h10 h11 h12 h13
      have hp := plays_any K d e x y k1 n1 k2 n2 c t1 t2 so1 ao1 uo1 so2 ao2 uo2 sn1 sc1 an1 ac1 un1 uc1 sn2 sc2 an2 ac2 un2 uc2 _ (Tv.below BV (Nat.le_refl _) _ _ _ hT) (Tv.below BV (Nat.le_refl _) _ _ _ hU)
      have hlt' : decide ((k : Int) < (len : Nat)) = true := by simp; omega
      clear hT hU
      go_wp2_with (go_at_call 10; (with_reducible refine hp.mono ?_); rintro e w2 ⟨rfl, b2⟩)
      go_roundw
      case rel => exact ⟨k + 1, by omega, by go_num, BV.trans (b2.mono BV.size)⟩
      case measure => simp [intOf]; omega
    · go_wp2
      go_returns
      exact ⟨rfl, BV⟩
theorem allT_empty (a : Option Addr) (cap : Nat) (w : World) :
    Calls Tryz.prog 3 #[.slice a 0 cap] w fun e w' => e = .returned (.bool true) ∧ Below w.heap.size w w' := by
  go_enter Tryz.func3, Tryz.ntmps3
  go_wp2_with (go_at_call 9; (with_reducible refine (begun13_any _).mono ?_); rintro e w1 ⟨rfl, b1⟩)
  refine wp_loop_rounds 1 ?_
  rw [rounds_succ]
  go_wp2
  go_returns
  exact ⟨rfl, b1⟩
end Go.Proofs.YtiahilelcppfgaaGreat
