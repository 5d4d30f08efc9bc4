/- The walk of the law ShapeCuts. -/
import Derived.Test.YtedidfjonkepoaaJoin
namespace Go.Proofs.Ytedidfjonkepoaa
open Go.RowKit
set_option linter.unusedVariables false

theorem eq_true (W : World) (co : Option Addr) (k c1 : Nat) (eo : Option Addr) (j c2 : Nat) (l : List Int) (a1 : Rd W co k l) (a2 : Rd W eo j l) :
    Calls Try.prog 16 #[.slice co k c1, .slice eo j c2] W fun e w' => e = .returned (.bool true) ∧ Below W.heap.size W w' :=
  (eqInts_any co eo k j c1 c2 l l W a1 a2).mono fun e w' ⟨e1, q, e2⟩ => ⟨by rw [e1, eqB_refl], by rw [e2]; exact below_drewN (Below.refl _ _) q⟩

set_option maxHeartbeats 20000000 in
set_option maxRecDepth 20000 in
theorem cuts_any (ao bo : Option Addr) (n m cap cap' : Nat) (zs ys : List Int) (r : Int) (w : World) (h : Rd w ao n zs) (hs : Sl ao n cap) (g : Rd w bo m ys) (gs : Sl bo m cap') (h1 : -9223372036854775808 ≤ r) (h2 : r ≤ 9223372036854775807) :
    Calls Try.prog 6 #[.slice ao n cap, .int .i64 r, .slice bo m cap'] w fun e w' => e = .returned (.bool true) ∧ Below w.heap.size w w' := by
  have hroom := h.room
  have groom := g.room
  have HL : Hid (zs.length = n) := h.len
  have GL : Hid (ys.length = m) := g.len
  have hsp := fun W (hW : Rd W ao n zs) => split_any ao n cap zs r W hW hs h1 h2
  have hrk := rankF_le n r
  obtain ⟨c, hc⟩ : ∃ c, rankF n r = c := ⟨_, rfl⟩
  rw [hc] at hsp hrk
  have hw : (0 ≤ r ∧ (n : Int) ≤ r ∧ (c : Int) ≤ r ∧ ((c : Int) != (n : Int)) = false) ∨ (0 ≤ r ∧ r < n ∧ (c : Int) ≤ r) ∨ (r < 0 ∧ -1000000 < r ∧ 0 < (n : Int) + r ∧ ((c : Int) != (n : Int) + r) = false) ∨ (r < 0 ∧ -1000000 < r ∧ (n : Int) + r ≤ 0 ∧ ((c : Int) != 0) = false) ∨ r ≤ -1000000 := by
    unfold rankF at hc
    by_cases c0 : 0 ≤ r
    · rw [if_pos c0] at hc
      by_cases c1 : (n : Int) ≤ r
      · exact .inl ⟨c0, c1, by omega, by simp; omega⟩
      · exact .inr (.inl ⟨c0, by omega, by omega⟩)
    · rw [if_neg c0] at hc
      by_cases c1 : -1000000 < r
      · by_cases c2 : 0 < (n : Int) + r
        · exact .inr (.inr (.inl ⟨by omega, c1, c2, by simp; omega⟩))
        · exact .inr (.inr (.inr (.inl ⟨by omega, c1, by omega, by simp; omega⟩)))
      · exact .inr (.inr (.inr (.inr (by omega))))
  clear hc
  have hn1 : n - c + c = n := by omega
  have hz1 : zs.take (n - c) ++ zs.drop (n - c) = zs := List.take_append_drop _ _
  have HN : Hid (n - c + c = n) := hn1
  have HZ : Hid (zs.take (n - c) ++ zs.drop (n - c) = zs) := hz1
  clear hn1 hz1
  have p1 := agr_pre zs (n - c) (by have := HL.out; omega)
  have p2 := agr_post zs (n - c) (by have := HL.out; omega)
  have hA1 : ∀ W fo fc, Rd W fo (n - c) (zs.take (n - c)) → Rd W ao n zs → Sl fo (n - c) fc → Calls Try.prog 25 #[.slice fo (n - c) fc, .slice ao n cap] W fun e w' => ∃ co k c, e = .returned (.tuple #[.slice co k c, .int .i64 0]) ∧ Rd w' co k zs ∧ Below W.heap.size W w' := fun W fo fc a1 a2 a3 =>
    (agree_any fo ao (n - c) n fc cap _ _ W a1 a2 a3 hs).mono fun e w' ⟨co, k, c, e1, e2, e3⟩ => ⟨co, k, c, by rw [e1, p1.1], by have := e2.rd; rwa [p1.2] at this, e3⟩
  have hA2 : ∀ W fo fc, Rd W fo (n - c) (zs.take (n - c)) → Rd W ao n zs → Sl fo (n - c) fc → Calls Try.prog 25 #[.slice ao n cap, .slice fo (n - c) fc] W fun e w' => ∃ co k c, e = .returned (.tuple #[.slice co k c, .int .i64 0]) ∧ Rd w' co k zs ∧ Below W.heap.size W w' := fun W fo fc a1 a2 a3 =>
    (agree_any ao fo n (n - c) cap fc _ _ W a2 a1 hs a3).mono fun e w' ⟨co, k, c, e1, e2, e3⟩ => ⟨co, k, c, by rw [e1, p2.1], by have := e2.rd; rwa [p2.2] at this, e3⟩
  have hA3 : ∀ W, Rd W ao n zs → Rd W bo m ys → _ := fun W a1 a2 => agree_any ao bo n m cap cap' _ _ W a1 a2 hs gs
  have hA4 : ∀ W, Rd W ao n zs → Rd W bo m ys → Calls Try.prog 25 #[.slice bo m cap', .slice ao n cap] W fun e w' => ∃ co k c, e = .returned (.tuple #[.slice co k c, .int .i64 (agrE zs ys)]) ∧ Fr w' W.heap.size co k c (agrL zs ys) ∧ Below W.heap.size W w' := fun W a1 a2 => by
    rw [agrE_comm, agrL_comm]; exact agree_any bo ao m n cap' cap _ _ W a2 a1 gs hs
  clear p1 p2
  have hE1 : ∀ W co k c1, Rd W co k zs → Rd W ao n zs → Calls Try.prog 16 #[.slice co k c1, .slice ao n cap] W fun e w' => e = .returned (.bool true) ∧ Below W.heap.size W w' := fun W co k c1 a1 a2 =>
    (eqInts_any co ao k n c1 cap zs zs W a1 a2).mono fun e w' ⟨e1, q, e2⟩ => ⟨by rw [e1, eqB_refl], by rw [e2]; exact below_drewN (Below.refl _ _) q⟩
  rcases hw with ⟨g1, g2, g3, g4⟩ | ⟨g1, g2, g3⟩ | ⟨g1, g2, g3, g4⟩ | ⟨g1, g2, g3, g4⟩ | g1
  all_goals
    go_enter Try.func6, Try.ntmps6
    go_wp2_with (first
      | (go_at_call 8; refine (begun_any _).mono ?_; rintro e w1 ⟨rfl, hb1⟩; have rs := h.below hb1 (Nat.le_refl _); have ro := g.below hb1 (Nat.le_refl _))
      | (go_at_call 24; refine (hsp _ rs).mono ?_; clear hsp; rintro e w2 ⟨fo, fc, co, cc, rfl, hf, hd, hap, hb2⟩; replace rs := rs.below hb2 (Nat.le_refl _); replace ro := ro.below hb2 (Nat.le_refl _); have sf := hf.sl; have sd := hd.sl; have rf := hf.rd; have rd := hd.rd)
      | (at_builtin; refine wpList_copy rfl _ _ rfl _ _ _ _ rfl rfl rf ?_; intro ao3 cap3 w3 hf3 hb3; have rd3 := rd.below hb3 (Nat.le_refl _); have hsz3 := hb3.size)
      | (at_builtin; refine wpList_join rfl _ _ rfl _ _ _ _ _ _ _ _ _ rfl rfl hf3 rd3 sd (by omega) hsz3 ?_; intro ao4 cap4 w4 hf4 hb4; rw [HZ.out] at hf4; have rj := hf4.rd; rw [HN.out] at rj; replace hb4 := hb3.trans hb4; clear hb3 rd3 hf3 rd hd hf hap hsz3 hf4; replace rs := rs.below hb4 (Nat.le_refl _); replace ro := ro.below hb4 (Nat.le_refl _); replace rf := rf.below hb4 (Nat.le_refl _))
      | (go_at_call 16; (with_reducible refine (hE1 _ _ _ _ rj rs).mono ?_); clear rj; rintro e w5 ⟨rfl, hb5⟩; replace rs := rs.below hb5 (Nat.le_refl _); replace ro := ro.below hb5 (Nat.le_refl _); replace rf := rf.below hb5 (Nat.le_refl _))
      | (go_at_call 25; (with_reducible refine (hA1 _ _ _ rf rs sf).mono ?_); clear hA1; rintro e w6 ⟨co6, k6, c6, rfl, ra, hb6⟩; replace rs := rs.below hb6 (Nat.le_refl _); replace ro := ro.below hb6 (Nat.le_refl _); replace rf := rf.below hb6 (Nat.le_refl _))
      | (go_at_call 25; (with_reducible refine (hA2 _ _ _ rf rs sf).mono ?_); clear hA2; rintro e w7 ⟨co7, k7, c7, rfl, rb, hb7⟩; replace rs := rs.below hb7 (Nat.le_refl _); replace ro := ro.below hb7 (Nat.le_refl _); replace ra := ra.below hb7 (Nat.le_refl _))
      | (go_at_call 16; (with_reducible refine (hE1 _ _ _ _ ra rs).mono ?_); clear ra; rintro e w8 ⟨rfl, hb8⟩; replace rs := rs.below hb8 (Nat.le_refl _); replace ro := ro.below hb8 (Nat.le_refl _); replace rb := rb.below hb8 (Nat.le_refl _))
      | (go_at_call 16; (with_reducible refine (hE1 _ _ _ _ rb rs).mono ?_); clear rb; rintro e w9 ⟨rfl, hb9⟩; replace rs := rs.below hb9 (Nat.le_refl _); replace ro := ro.below hb9 (Nat.le_refl _))
      | (go_at_call 25; (with_reducible refine (hA3 _ rs ro).mono ?_); clear hA3; rintro e w10 ⟨co10, k10, c10, rfl, hf10, hb10⟩; replace rs := rs.below hb10 (Nat.le_refl _); replace ro := ro.below hb10 (Nat.le_refl _)))
    have bw : Below w.heap.size w w10 := by
      have hb := hb1
      replace hb := bt hb hb2 hb.size
      replace hb := bt hb hb4 hb.size
      replace hb := bt hb hb5 hb.size
      replace hb := bt hb hb6 hb.size
      replace hb := bt hb hb7 hb.size
      replace hb := bt hb hb8 hb.size
      replace hb := bt hb hb9 hb.size
      exact bt hb hb10 hb.size
    clear hb1 hb2 hb4 hb5 hb6 hb7 hb8 hb9 hb10 hE1 rf sf
    have hcl := hf10.rd.len
    have hcs := hf10.sl
    have rc := hf10.rd
    by_cases hb : agrB zs ys = true
    · have f1 : (agrE zs ys != 0) = false := by unfold agrE; rw [if_pos hb]; rfl
      obtain ⟨t1, t2, t3⟩ := agr_true hb
      rw [HL.out] at t1
      rw [GL.out] at t2
      rw [HL.out, GL.out] at t3
      rw [hcl] at t3
      clear hb
      have T1 : Hid ((agrL zs ys).take n = zs) := t1
      have T2 : Hid ((agrL zs ys).take m = ys) := t2
      clear t1 t2 hcl
      by_cases hnm : n < m
      · obtain rfl : k10 = m := by rw [t3]; exact Nat.max_eq_right (by omega)
        clear t3
        obtain ⟨a, rfl⟩ : ∃ a, co10 = some a := by
          obtain ⟨b, off, e, _⟩ := rc.cells (by omega)
          exact ⟨_, e⟩
        have hle := hcs.le
        have hmx := hcs.max
        go_wp2_with (first
          | (go_at_call 25; (with_reducible refine (hA4 _ rs ro).mono ?_); clear hA4; rintro e w11 ⟨co11, k11, c11, rfl, hf11, hb11⟩; replace rs := rs.below hb11 (Nat.le_refl _); replace ro := ro.below hb11 (Nat.le_refl _); replace rc := rc.below hb11 (Nat.le_refl _); have rd11 := hf11.rd)
          | (go_at_call 16; (with_reducible refine (eq_true _ _ _ _ _ _ _ _ rc rd11).mono ?_); clear rd11; rintro e w12 ⟨rfl, hb12⟩; replace rs := rs.below hb12 (Nat.le_refl _); replace ro := ro.below hb12 (Nat.le_refl _); replace rc := rc.below hb12 (Nat.le_refl _); have rc1 := rc.take n (by omega); rw [T1.out] at rc1)
          | (go_at_call 16; (with_reducible refine (eq_true _ _ _ _ _ _ _ _ rc1 rs).mono ?_); clear rc1; rintro e w13 ⟨rfl, hb13⟩; replace ro := ro.below hb13 (Nat.le_refl _); replace rc := rc.below hb13 (Nat.le_refl _); have rc2 := rc.take _ (Nat.le_refl _); rw [T2.out] at rc2)
          | (go_at_call 16; (with_reducible refine (eq_true _ _ _ _ _ _ _ _ rc2 ro).mono ?_); rintro e w14 ⟨rfl, hb14⟩))
        go_ret
        refine ⟨rfl, ?_⟩
        replace bw := bt bw hb11 bw.size
        replace bw := bt bw hb12 bw.size
        replace bw := bt bw hb13 bw.size
        exact bt bw hb14 bw.size
      · obtain rfl : k10 = n := by rw [t3]; exact Nat.max_eq_left (by omega)
        clear t3
        have hco : (co10 = none ∧ k10 = 0 ∧ c10 = 0 ∧ m = 0) ∨ ∃ a, co10 = some a := by
          cases co10 with
          | none => have := hcs.nil rfl; exact .inl ⟨rfl, this.1, this.2, by omega⟩
          | some a => exact .inr ⟨a, rfl⟩
        have hle := hcs.le
        have hmx := hcs.max
        rcases hco with ⟨rfl, rfl, rfl, rfl⟩ | ⟨a, rfl⟩
        all_goals
          go_wp2_with (first
            | (go_at_call 25; (with_reducible refine (hA4 _ rs ro).mono ?_); clear hA4; rintro e w11 ⟨co11, k11, c11, rfl, hf11, hb11⟩; replace rs := rs.below hb11 (Nat.le_refl _); replace ro := ro.below hb11 (Nat.le_refl _); replace rc := rc.below hb11 (Nat.le_refl _); have rd11 := hf11.rd)
            | (go_at_call 16; (with_reducible refine (eq_true _ _ _ _ _ _ _ _ rc rd11).mono ?_); clear rd11; rintro e w12 ⟨rfl, hb12⟩; replace rs := rs.below hb12 (Nat.le_refl _); replace ro := ro.below hb12 (Nat.le_refl _); replace rc := rc.below hb12 (Nat.le_refl _); have rc1 := rc.take _ (Nat.le_refl _); rw [T1.out] at rc1)
            | (go_at_call 16; (with_reducible refine (eq_true _ _ _ _ _ _ _ _ rc1 rs).mono ?_); clear rc1; rintro e w13 ⟨rfl, hb13⟩; replace ro := ro.below hb13 (Nat.le_refl _); replace rc := rc.below hb13 (Nat.le_refl _); have rc2 := rc.take _ (show _ ≤ _ from Nat.le_of_not_lt hnm); rw [T2.out] at rc2)
            | (go_at_call 16; (with_reducible refine (eq_true _ _ _ _ _ _ _ _ rc2 ro).mono ?_); rintro e w14 ⟨rfl, hb14⟩))
          go_ret
          refine ⟨rfl, ?_⟩
          replace bw := bt bw hb11 bw.size
          replace bw := bt bw hb12 bw.size
          replace bw := bt bw hb13 bw.size
          exact bt bw hb14 bw.size
    · have f1 : (agrE zs ys != 0) = true := by unfold agrE; rw [if_neg hb]; rfl
      have f2 : (agrE zs ys == 11) = true := by unfold agrE; rw [if_neg hb]; rfl
      have e0 : agrL zs ys = [] := by unfold agrL; rw [if_neg hb]
      rw [e0] at hcl
      obtain rfl : k10 = 0 := hcl.symm
      clear hb e0
      go_wp2_with (first
        | (go_at_call 25; (with_reducible refine (hA4 _ rs ro).mono ?_); clear hA4; rintro e w11 ⟨co11, k11, c11, rfl, hf11, hb11⟩; replace rc := rc.below hb11 (Nat.le_refl _); have rd11 := hf11.rd)
        | (go_at_call 16; (with_reducible refine (eq_true _ _ _ _ _ _ _ _ rc rd11).mono ?_); clear rd11; rintro e w12 ⟨rfl, hb12⟩))
      go_ret
      refine ⟨rfl, ?_⟩
      replace bw := bt bw hb11 bw.size
      exact bt bw hb12 bw.size
end Go.Proofs.Ytedidfjonkepoaa
