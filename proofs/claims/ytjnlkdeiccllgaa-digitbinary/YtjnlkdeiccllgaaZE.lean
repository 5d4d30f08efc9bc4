
/- Contract of package digit: how many items some numbers ask for. -/

import Derived.Test.YtjnlkdeiccllgaaZD
import Derived.WalkMore


namespace Go.Proofs.Ytjnlkdeiccllgaa

open Go.RowKit

set_option linter.unusedVariables false

theorem neg1_any (x : Int) (w : World) : Calls Try.prog 52 #[.int .i64 x] w fun e w' => e = .returned (.bool (decide (x < 0))) ∧ w' = w := by
  go_enter Try.func52, Try.ntmps52
  go_wp2
  go_ret
  exact ⟨rfl, rfl⟩

set_option maxHeartbeats 1000000 in
theorem indexNeg_any (ao : Option Addr) (n cap : Nat) (zs : List Int) (w : World) (h : Rd w ao n zs) (hn : n ≤ 4096) :
    Calls Try.prog 62 #[.slice ao n cap, .func (.func 52) #[] #[]] w fun e w' => ∃ i : Int, e = .returned (.int .i64 i) ∧ (0 ≤ i ↔ ∃ k, k < n ∧ nth zs k < 0) ∧ w' = w := by
  have hc1 := fun x V => neg1_any x V
  go_enter Try.func62, Try.ntmps62
  go_wp2
  go_loopw [8] (fun i V => ∃ k : Nat, k ≤ n ∧ i = .int .i64 (k : Nat) ∧ (∀ j, j < k → 0 ≤ nth zs j) ∧ V = w) (fun i _ => n - (intOf i).toNat)
  case atStart => exact ⟨0, Nat.zero_le _, rfl, fun j hj => by omega, rfl⟩
  case round =>
    obtain ⟨k, hk, rfl, hz, rfl⟩ := hrel
    have HZ : Hid (∀ j, j < k → 0 ≤ nth zs j) := hz
    clear hz
    by_cases hlt : k < n
    · obtain ⟨b, off, rfl, hb, hc⟩ := h.cells (by omega)
      have c1 := hc k hlt
      have t1 : decide ((k : Int) < (n : Int)) = true := by simp; omega
      have bk : (k : Int) < (n : Int) := by omega
      clear hc
      by_cases hx : nth zs k < 0
      · have HX : Hid (nth zs k < 0) := hx
        have tx : decide (nth zs k < 0) = true := by simpa using hx
        have c2 := hc1 (nth zs k) wr
        rw [tx] at c2
        clear hx tx
        generalize hy : nth zs k = x at *
        have HY : Hid (nth zs k = x) := hy
        clear hy
        go_wp2_with (go_at_call 52; (with_reducible refine c2.mono ?_); rintro e w1 ⟨rfl, hw⟩; rw [hw]; clear hw w1)
        go_ret
        exact ⟨_, rfl, ⟨fun _ => ⟨k, hlt, by rw [HY.out]; exact HX.out⟩, fun _ => by omega⟩, rfl⟩
      · have tx : decide (nth zs k < 0) = false := by simpa using hx
        have HX : Hid (0 ≤ nth zs k) := by show _ ≤ _; omega
        have c2 := hc1 (nth zs k) wr
        rw [tx] at c2
        clear hx tx
        generalize hy : nth zs k = x at *
        have HY : Hid (nth zs k = x) := hy
        clear hy
        go_wp2_with (go_at_call 52; (with_reducible refine c2.mono ?_); rintro e w1 ⟨rfl, hw⟩; rw [hw]; clear hw w1)
        go_roundw
        case rel => exact ⟨k + 1, by omega, by go_num, fun j hj => by rcases Nat.lt_succ_iff_lt_or_eq.1 hj with h | h; (· exact HZ.out j h); rw [h, HY.out]; exact HX.out, (by first | trivial | rfl)⟩
        case measure => simp [intOf]; omega
    · obtain rfl : k = n := by omega
      have t1 : decide ((k : Int) < (k : Int)) = false := by simp
      go_wp2
      go_ret
      exact ⟨-1, rfl, ⟨fun h => by omega, fun ⟨j, h1, h2⟩ => by have := HZ.out j h1; omega⟩, rfl⟩
theorem containsNeg_any (ao : Option Addr) (n cap : Nat) (zs : List Int) (B : Bool) (hB : B = true ↔ ∃ k, k < n ∧ nth zs k < 0) (w : World) (h : Rd w ao n zs) (hn : n ≤ 4096) :
    Calls Try.prog 51 #[.slice ao n cap, .func (.func 52) #[] #[]] w fun e w' => e = .returned (.bool B) ∧ w' = w := by
  have hi := indexNeg_any ao n cap zs w h hn
  have HB : Hid (B = true ↔ ∃ k, k < n ∧ nth zs k < 0) := hB
  clear hB
  go_enter Try.func51, Try.ntmps51
  go_wp2_with (go_at_call 62; (with_reducible refine hi.mono ?_); rintro e w1 ⟨i, rfl, hI, hw⟩; rw [hw]; clear hw w1; have HI : Hid (0 ≤ i ↔ ∃ k, k < n ∧ nth zs k < 0) := hI; clear hI)
  go_ret
  refine ⟨?_, rfl⟩
  apply ret_bool
  have a := HI.out
  have b := HB.out
  by_cases e : ∃ k, k < n ∧ nth zs k < 0
  · rw [b.2 e]; simpa using a.2 e
  · have : B = false := by
      cases B
      · rfl
      · exact absurd (b.1 rfl) e
    rw [this]
    simp only [decide_eq_false_iff_not]
    exact fun h => e (a.1 h)

/-- All numbers together. -/
def sm (zs : List Int) : Int := zs.foldl (fun p z => p + z) 0
theorem sm_snoc (l : List Int) (z : Int) : sm (l ++ [z]) = sm l + z := by simp [sm, List.foldl_append]
theorem sm_up {zs : List Int} (h : ∀ k, k < zs.length → 0 ≤ nth zs k) : ∀ m, m ≤ zs.length → ∀ i, i ≤ m → 0 ≤ sm (zs.take i) ∧ sm (zs.take i) ≤ sm (zs.take m)
  | 0, _, i, hi => by obtain rfl : i = 0 := by omega
                      simp [sm]
  | m + 1, hm, i, hi => by
    by_cases e : i = m + 1
    · subst e
      refine ⟨?_, Int.le_refl _⟩
      rw [take_nth (by omega), sm_snoc]
      have := (sm_up h m (by omega) m (Nat.le_refl _)).1
      have := h m (by omega)
      omega
    · obtain ⟨a, b⟩ := sm_up h m (by omega) i (by omega)
      rw [take_nth (k := m) (by omega), sm_snoc]
      have := h m (by omega)
      omega
set_option maxHeartbeats 1000000 in
theorem inAll_neg (ao : Option Addr) (n cap r : Nat) (zs : List Int) (w : World) (h : Rd w ao n zs) (hn : n ≤ 4096) (hg : ∃ k, k < n ∧ nth zs k < 0) :
    Calls Try.prog 32 #[.slice ao n cap, .int .i64 (r : Nat)] w fun e w' => e = .returned (.tuple #[.int .i64 0, .int .i64 10]) ∧ w' = w := by
  have hc := containsNeg_any ao n cap zs true ⟨fun _ => hg, fun _ => rfl⟩ w h hn
  clear hg
  go_enter Try.func32, Try.ntmps32
  go_wp2
  go_step3
  go_wp2_with (go_at_call 51; (refine hc.mono ?_); rintro e w1 ⟨rfl, hw⟩; rw [hw]; clear hw w1)
  try rw [Exit.noGoto_ret]
  go_ret2
  exact ⟨rfl, rfl⟩
/-- What inAll tells of numbers of which none is below 0. -/
def iaE (T : Int) : Int := if 4096 < T then 17 else 0
def iaN (T : Int) : Int := if 4096 < T then 0 else T
set_option maxHeartbeats 4000000 in
set_option maxRecDepth 20000 in
theorem inAll_any (ao : Option Addr) (n cap r : Nat) (zs : List Int) (w : World) (h : Rd w ao n zs) (hn : n ≤ 4096) (hr : r ≤ 4096) (hg : ∀ k, k < n → 0 ≤ nth zs k) :
    Calls Try.prog 32 #[.slice ao n cap, .int .i64 (r : Nat)] w fun e w' => e = .returned (.tuple #[.int .i64 (iaN ((r : Int) * sm zs)), .int .i64 (iaE ((r : Int) * sm zs))]) ∧ w' = w := by
  have hc := containsNeg_any ao n cap zs false ⟨fun e => (by cases e), fun ⟨k, h1, h2⟩ => (by have := hg k h1; omega)⟩ w h hn
  have HL : Hid (zs.length = n) := h.len
  have HG : Hid (∀ k, k < n → 0 ≤ nth zs k) := hg
  have hup : Hid (∀ k, k ≤ n → 0 ≤ sm (zs.take k) ∧ sm (zs.take k) ≤ sm zs) := fun k hk => by
    have := sm_up (zs := zs) (fun j hj => hg j (by rw [← HL.out]; exact hj)) n (by rw [HL.out]; exact Nat.le_refl _) k hk
    rwa [List.take_of_length_le (l := zs) (i := n) (by rw [HL.out]; exact Nat.le_refl _)] at this
  have HS : Hid (∀ k, k < n → sm (zs.take (k + 1)) = sm (zs.take k) + nth zs k) := fun k hk => by rw [take_nth (by rw [HL.out]; exact hk), sm_snoc]
  have HT : Hid (sm (zs.take n) = sm zs) := by show _ = _; rw [List.take_of_length_le (by rw [HL.out]; exact Nat.le_refl _)]
  have hS0 : 0 ≤ sm zs := by have := (hup.out n (Nat.le_refl _)).1; rwa [HT.out] at this
  have hsm0 : sm (zs.take 0) = 0 := rfl
  obtain ⟨S, hS⟩ : ∃ S, S = sm zs := ⟨_, rfl⟩
  rw [← hS] at hup HT hS0 ⊢
  obtain ⟨f, hf⟩ : ∃ f : Nat → Int, f = fun k => sm (zs.take k) := ⟨_, rfl⟩
  have hup' : Hid (∀ k, k ≤ n → 0 ≤ f k ∧ f k ≤ S) := by rw [hf]; exact hup
  have HS' : Hid (∀ k, k < n → f (k + 1) = f k + nth zs k) := by rw [hf]; exact HS
  have HT' : Hid (f n = S) := by rw [hf]; exact HT
  have H0 : Hid (f 0 = 0) := by rw [hf]; exact hsm0
  have HM : Hid (∀ i : Nat, i < r → ((i + 1 : Nat) : Int) * S = (i : Int) * S + S ∧ (i : Int) * S + S ≤ (r : Int) * S ∧ 0 ≤ (i : Int) * S) := fun i hi => by
    have e : ((i + 1 : Nat) : Int) * S = (i : Int) * S + S := by rw [Int.natCast_add, Int.add_mul]; omega
    refine ⟨e, ?_, Int.mul_nonneg (by omega) hS0⟩
    rw [← e]
    exact Int.mul_le_mul_of_nonneg_right (by omega) hS0
  clear hf hS hsm0 HS hup HT
  have HS0 : Hid (0 ≤ S) := hS0
  clear hS0 hg
  generalize hRS : (r : Int) * S = RS at *
  have HRS : Hid ((r : Int) * S = RS) := hRS
  clear hRS
  go_enter Try.func32, Try.ntmps32
  go_wp2
  go_step3
  go_wp2_with (go_at_call 51; (refine hc.mono ?_); rintro e w1 ⟨rfl, hw⟩; rw [hw]; clear hw w1)
  clear hc
  go_step3
  go_wp2
  go_loopw [6, 7, 13] (fun t z i V => ∃ (k : Nat) (T : Int), k ≤ r ∧ z = .int .i64 0 ∧ i = .int .i64 (k : Nat) ∧ t = .int .i64 T ∧ T = (k : Int) * S ∧ 0 ≤ T ∧ T ≤ 4096 ∧ V = w) (fun _ _ i _ => r - (intOf i).toNat)
  case atStart => exact ⟨0, 0, Nat.zero_le _, rfl, rfl, rfl, by simp, by omega, by omega, rfl⟩
  case round =>
    obtain ⟨k, T, hk, rfl, rfl, rfl, hT, hT0, hT4, rfl⟩ := hrel
    have HTk : Hid (T = (k : Int) * S) := hT
    clear hT
    by_cases hlt : k < r
    · have t1 : decide ((k : Int) < (r : Int)) = true := by simp; omega
      have HMk : Hid (_) := HM.out k hlt
      go_wp2
      go_loopw [6, 7, 17] (fun t z i V => ∃ (j : Nat) (U : Int), j ≤ n ∧ z = .int .i64 0 ∧ i = .int .i64 (j : Nat) ∧ t = .int .i64 U ∧ U = T + f j ∧ 0 ≤ U ∧ U ≤ 4096 ∧ V = wr) (fun _ _ i _ => n - (intOf i).toNat)
      case atStart => exact ⟨0, T, Nat.zero_le _, rfl, rfl, rfl, by rw [H0.out, Int.add_zero], hT0, hT4, rfl⟩
      case round =>
        obtain ⟨j, U, hj, rfl, rfl, rfl, hU, hU0, hU4, rfl⟩ := hrel
        have HU : Hid (U = T + f j) := hU
        clear hU
        by_cases hlt2 : j < n
        · have t2 : decide ((j : Int) < (n : Int)) = true := by simp; omega
          have bj : (j : Int) < (n : Int) := by omega
          obtain ⟨b, off, rfl, hb, hcs⟩ := h.cells (by omega)
          have c1 := hcs j hlt2
          have hx0 := HG.out j hlt2
          have w1 : IntKind.i64.wrap (4096 - U) = 4096 - U := wrZ (by omega) (by omega)
          have HSj : Hid (_) := HS'.out j hlt2
          clear hcs
          have hnum := h.num j hlt2
          generalize nth zs j = x at *
          by_cases hbig : 4096 - U < x
          · have t3 : decide (4096 - U < x) = true := by simpa using hbig
            have HBB : Hid (4096 - U < x) := hbig
            clear hbig
            go_wp2
            try rw [Exit.noGoto_ret]
            go_ret2
            have e4 : 4096 < RS := by
              have a1 := HSj.out
              have a2 := (hup'.out (j + 1) (by omega)).2
              have a3 := HMk.out.2.1
              have a4 := HBB.out
              have a5 := HU.out
              have a6 := HTk.out
              omega
            exact ⟨ret_two (by unfold iaN; rw [if_pos e4]) (by unfold iaE; rw [if_pos e4]), rfl⟩
          · have t3 : decide (4096 - U < x) = false := by simp; omega
            have w2 : IntKind.i64.wrap (U + x) = U + x := wrZ (by omega) (by omega)
            have HBB : Hid (¬ 4096 - U < x) := hbig
            clear hbig
            go_wp2
            go_roundw
            case rel => exact ⟨j + 1, U + x, by omega, rfl, by go_num, rfl, by have := HSj.out; have := HU.out; omega, by omega, by have := HBB.out; omega, (by first | trivial | rfl)⟩
            case measure => simp [intOf]; omega
        · obtain rfl : j = n := by omega
          have t2 : decide ((j : Int) < (j : Int)) = false := by simp
          go_wp2
          go_roundw
          case rel => exact ⟨k + 1, U, by omega, rfl, by go_num, rfl, by have a1 := HMk.out.1; have a2 := HU.out; have a3 := HT'.out; have a4 := HTk.out; rw [a1]; omega, hU0, hU4, (by first | trivial | rfl)⟩
          case measure => simp [intOf]; omega
    · obtain rfl : k = r := by omega
      have t1 : decide ((k : Int) < (k : Int)) = false := by simp
      go_wp2
      try rw [Exit.noGoto_ret]
      go_returns
      have e4 : T = RS := by rw [HTk.out, HRS.out]
      have e5 : ¬ 4096 < RS := by omega
      exact ⟨ret_two (by unfold iaN; rw [if_neg e5]; exact e4) (by unfold iaE; rw [if_neg e5]), rfl⟩
end Go.Proofs.Ytjnlkdeiccllgaa
