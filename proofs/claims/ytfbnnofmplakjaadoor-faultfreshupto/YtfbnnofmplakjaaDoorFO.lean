
/- A step more: the other ways. -/

import Derived.Test.YtfbnnofmplakjaaDoorFN

namespace Go.Proofs.YtfbnnofmplakjaaDoor

open Go.RowKit Go.Extern.Stop Go.Stop Go.Extern

set_option linter.unusedVariables false

theorem Only.below {w W W' : World} (h : Only w.heap.size (w.heap.size + 1 + 1) W W') (g : Below w.heap.size w W) : Below w.heap.size w W' :=
  ⟨h.os.trans g.os, h.tape.trans g.tape, h.output.trans g.output, by rw [h.size]; exact g.size, fun k hk => (h.block k (by omega) (by omega)).trans (g.block k hk)⟩

set_option maxHeartbeats 2000000 in
theorem more_out (w : World) (e : Value) (na : Option Addr) (nn nc : Nat) (ls : List Lk) (b : Bs) (c p : Int) (t nm : List UInt8) (h : Ch w e ls b) (ht : t.length ≤ 1152921504606846976) :
    Calls Tryd.prog 11 #[e, .agg #[.bool true, .int .i64 c, .int .i64 p, .slice na nn nc, .string ⟨t.toArray⟩], .agg #[.int .i64 2, .string ⟨nm.toArray⟩]] w fun r w' => ∃ e', r = .returned (.tuple #[e', .agg #[.bool true, .int .i64 c, .int .i64 p, .slice na nn nc, .string ⟨(wOut ++ t).toArray⟩]]) ∧ Ch w' e' (none :: ls) b ∧ Below w.heap.size w w' := by
  have X0 := bx_new w true c p (.slice na nn nc) t 2 nm
  have k0 : Below w.heap.size w _ := ((box_below w (.cells #[.bool true, .int .i64 c, .int .i64 p, (.slice na nn nc), .string ⟨t.toArray⟩] 29)).alloc (by simp) (.cells #[.int .i64 2, .string ⟨nm.toArray⟩] 35)).alloc (by simp; omega) (.cells #[.bool false, .int .i64 0, .int .i64 0, .slice none 0 0, .string ⟨#[]⟩] 29)
  have h0 := Ch.below k0 (Nat.le_refl _) h
  obtain ⟨te, ve, rfl⟩ := h.iface
  have q1 : ¬ 9223372036854775807 < 9 + t.length := by omega
  clear h ht
  go_enter Tryd.func11, Tryd.ntmps11
  go_upto_region 8 with fail
  have bO := box_below (((w.alloc (.cells #[.bool true, .int .i64 c, .int .i64 p, .slice na nn nc, .string ⟨t.toArray⟩] 29)).alloc (.cells #[.int .i64 2, .string ⟨nm.toArray⟩] 35)).alloc (.cells #[.bool false, .int .i64 0, .int .i64 0, .slice none 0 0, .string ⟨#[]⟩] 29)) (.cells #[.iface te ve] 54)
  have nb := new_blk (((w.alloc (.cells #[.bool true, .int .i64 c, .int .i64 p, .slice na nn nc, .string ⟨t.toArray⟩] 29)).alloc (.cells #[.int .i64 2, .string ⟨nm.toArray⟩] 35)).alloc (.cells #[.bool false, .int .i64 0, .int .i64 0, .slice none 0 0, .string ⟨#[]⟩] 29)) (.cells #[.iface te ve] 54)
  have X1 := X0.below bO
  have K1 := k0.trans (bO.mono k0.size)
  have hc1 : Ch _ (.iface 52 (.pointer (some ⟨w.heap.size + 1 + 1 + 1, 0, none⟩))) (none :: ls) b := ⟨w.heap.size + 1 + 1 + 1, .iface te ve, rfl, by simpa using nb, Ch.below bO (Nat.le_refl _) h0⟩
  clear nb bO X0 k0 h0
  generalize (((w.alloc (.cells #[.bool true, .int .i64 c, .int .i64 p, .slice na nn nc, .string ⟨t.toArray⟩] 29)).alloc (.cells #[.int .i64 2, .string ⟨nm.toArray⟩] 35)).alloc (.cells #[.bool false, .int .i64 0, .int .i64 0, .slice none 0 0, .string ⟨#[]⟩] 29)).alloc (.cells #[.iface te ve] 54) = w2 at *
  obtain ⟨z0, z3, z4, y0, y1⟩ := X1.c
  have f4 := X1.f 4
  go_upto_region 9 with fail
  rw [show (⟨#[111, 117, 116, 101, 114, 32, 111, 102, 32]⟩ : ByteArray) ++ ⟨t.toArray⟩ = ⟨(wOut ++ t).toArray⟩ from bs_app wOut t]
  have X4 := X1.set4 (wOut ++ t)
  have O4 := (Only.refl w.heap.size (w.heap.size + 1 + 1) w2).set ⟨w.heap.size, 4, none⟩ (.string ⟨(wOut ++ t).toArray⟩) (.inl rfl)
  have B0 := X1.b0
  have B2 := X1.b2
  generalize w2.setCell ⟨w.heap.size, 4, none⟩ (.string ⟨(wOut ++ t).toArray⟩) = W4 at *
  clear z0 z3 z4 y0 y1 f4 X1
  obtain ⟨⟨a0, a1, a2, a3, a4⟩, ⟨d0, d1, d2, d3, d4⟩, df⟩ := X4.out
  go_region
  go_wp2
  refine bodyPost_ret (v := .tuple #[.iface 52 (.pointer (some ⟨w.heap.size + 1 + 1 + 1, 0, none⟩)), .agg #[.bool true, .int .i64 c, .int .i64 p, .slice na nn nc, .string ⟨(wOut ++ t).toArray⟩]]) (by rw [results_tmp_cell rfl]; go_simp) rfl ?_
  have OO := (((((O4.set ⟨w.heap.size + 1 + 1, 0, none⟩ (.bool true) (.inr rfl)).set ⟨w.heap.size + 1 + 1, 1, none⟩ (.int .i64 c) (.inr rfl)).set ⟨w.heap.size + 1 + 1, 2, none⟩ (.int .i64 p) (.inr rfl)).set ⟨w.heap.size + 1 + 1, 3, none⟩ (.slice na nn nc) (.inr rfl)).set ⟨w.heap.size + 1 + 1, 4, none⟩ (.string ⟨(wOut ++ t).toArray⟩) (.inr rfl)).drew
  exact ⟨_, rfl, OO.ch B0 B2 hc1, OO.below K1⟩

set_option maxHeartbeats 2000000 in
theorem more_idle (w : World) (te : TypeId) (ve : Value) (na : Option Addr) (nn nc : Nat) (c p : Int) (t nm : List UInt8) (k : Int) (hk1 : k ≠ 1) (hk2 : k ≠ 2) :
    Calls Tryd.prog 11 #[.iface te ve, .agg #[.bool true, .int .i64 c, .int .i64 p, .slice na nn nc, .string ⟨t.toArray⟩], .agg #[.int .i64 k, .string ⟨nm.toArray⟩]] w fun r w' => r = .returned (.tuple #[.iface te ve, .agg #[.bool true, .int .i64 c, .int .i64 p, .slice na nn nc, .string ⟨t.toArray⟩]]) ∧ Below w.heap.size w w' := by
  have X0 := bx_new w true c p (.slice na nn nc) t k nm
  have k0 : Below w.heap.size w _ := ((box_below w (.cells #[.bool true, .int .i64 c, .int .i64 p, (.slice na nn nc), .string ⟨t.toArray⟩] 29)).alloc (by simp) (.cells #[.int .i64 k, .string ⟨nm.toArray⟩] 35)).alloc (by simp; omega) (.cells #[.bool false, .int .i64 0, .int .i64 0, .slice none 0 0, .string ⟨#[]⟩] 29)
  have t1 : (k == 1) = false := by simp [hk1]
  have t2 : (k == 2) = false := by simp [hk2]
  clear hk1 hk2
  go_enter Tryd.func11, Tryd.ntmps11
  go_upto_region 9 with fail
  have X4 := X0
  have O4 := Only.refl w.heap.size (w.heap.size + 1 + 1) (((w.alloc (.cells #[.bool true, .int .i64 c, .int .i64 p, .slice na nn nc, .string ⟨t.toArray⟩] 29)).alloc (.cells #[.int .i64 k, .string ⟨nm.toArray⟩] 35)).alloc (.cells #[.bool false, .int .i64 0, .int .i64 0, .slice none 0 0, .string ⟨#[]⟩] 29))
  generalize ((w.alloc (.cells #[.bool true, .int .i64 c, .int .i64 p, .slice na nn nc, .string ⟨t.toArray⟩] 29)).alloc (.cells #[.int .i64 k, .string ⟨nm.toArray⟩] 35)).alloc (.cells #[.bool false, .int .i64 0, .int .i64 0, .slice none 0 0, .string ⟨#[]⟩] 29) = W4 at *
  obtain ⟨⟨a0, a1, a2, a3, a4⟩, ⟨d0, d1, d2, d3, d4⟩, df⟩ := X4.out
  go_region
  go_wp2
  refine bodyPost_ret (v := .tuple #[.iface te ve, .agg #[.bool true, .int .i64 c, .int .i64 p, .slice na nn nc, .string ⟨t.toArray⟩]]) (by rw [results_tmp_cell rfl]; go_simp) rfl ?_
  have OO := (((((O4.set ⟨w.heap.size + 1 + 1, 0, none⟩ (.bool true) (.inr rfl)).set ⟨w.heap.size + 1 + 1, 1, none⟩ (.int .i64 c) (.inr rfl)).set ⟨w.heap.size + 1 + 1, 2, none⟩ (.int .i64 p) (.inr rfl)).set ⟨w.heap.size + 1 + 1, 3, none⟩ (.slice na nn nc) (.inr rfl)).set ⟨w.heap.size + 1 + 1, 4, none⟩ (.string ⟨t.toArray⟩) (.inr rfl)).drew
  exact ⟨rfl, OO.below k0⟩

set_option maxHeartbeats 2000000 in
theorem more_dead (w : World) (na : Option Addr) (nn nc : Nat) (c p : Int) (t nm : List UInt8) (k : Int) (hk1 : k ≠ 1) (hk2 : k ≠ 2) :
    Calls Tryd.prog 11 #[.nilIface, .agg #[.bool false, .int .i64 c, .int .i64 p, .slice na nn nc, .string ⟨t.toArray⟩], .agg #[.int .i64 k, .string ⟨nm.toArray⟩]] w fun r w' => r = .returned (.tuple #[.nilIface, .agg #[.bool false, .int .i64 c, .int .i64 p, .slice na nn nc, .string ⟨t.toArray⟩]]) ∧ Below w.heap.size w w' := by
  have X0 := bx_new w false c p (.slice na nn nc) t k nm
  have k0 : Below w.heap.size w _ := ((box_below w (.cells #[.bool false, .int .i64 c, .int .i64 p, (.slice na nn nc), .string ⟨t.toArray⟩] 29)).alloc (by simp) (.cells #[.int .i64 k, .string ⟨nm.toArray⟩] 35)).alloc (by simp; omega) (.cells #[.bool false, .int .i64 0, .int .i64 0, .slice none 0 0, .string ⟨#[]⟩] 29)
  have t1 : (k == 1) = false := by simp [hk1]
  have t2 : (k == 2) = false := by simp [hk2]
  clear hk1 hk2
  go_enter Tryd.func11, Tryd.ntmps11
  go_upto_region 9 with fail
  have X4 := X0
  have O4 := Only.refl w.heap.size (w.heap.size + 1 + 1) (((w.alloc (.cells #[.bool false, .int .i64 c, .int .i64 p, .slice na nn nc, .string ⟨t.toArray⟩] 29)).alloc (.cells #[.int .i64 k, .string ⟨nm.toArray⟩] 35)).alloc (.cells #[.bool false, .int .i64 0, .int .i64 0, .slice none 0 0, .string ⟨#[]⟩] 29))
  generalize ((w.alloc (.cells #[.bool false, .int .i64 c, .int .i64 p, .slice na nn nc, .string ⟨t.toArray⟩] 29)).alloc (.cells #[.int .i64 k, .string ⟨nm.toArray⟩] 35)).alloc (.cells #[.bool false, .int .i64 0, .int .i64 0, .slice none 0 0, .string ⟨#[]⟩] 29) = W4 at *
  obtain ⟨⟨a0, a1, a2, a3, a4⟩, ⟨d0, d1, d2, d3, d4⟩, df⟩ := X4.out
  go_region
  go_wp2
  refine bodyPost_ret (v := .tuple #[.nilIface, .agg #[.bool false, .int .i64 c, .int .i64 p, .slice na nn nc, .string ⟨t.toArray⟩]]) (by rw [results_tmp_cell rfl]; go_simp) rfl ?_
  have OO := (((((O4.set ⟨w.heap.size + 1 + 1, 0, none⟩ (.bool false) (.inr rfl)).set ⟨w.heap.size + 1 + 1, 1, none⟩ (.int .i64 c) (.inr rfl)).set ⟨w.heap.size + 1 + 1, 2, none⟩ (.int .i64 p) (.inr rfl)).set ⟨w.heap.size + 1 + 1, 3, none⟩ (.slice na nn nc) (.inr rfl)).set ⟨w.heap.size + 1 + 1, 4, none⟩ (.string ⟨t.toArray⟩) (.inr rfl)).drew
  exact ⟨rfl, OO.below k0⟩

set_option maxHeartbeats 2000000 in
theorem more_dead1 (w : World) (na : Option Addr) (nn nc : Nat) (c p : Int) (t nm : List UInt8) :
    Calls Tryd.prog 11 #[.nilIface, .agg #[.bool false, .int .i64 c, .int .i64 p, .slice na nn nc, .string ⟨t.toArray⟩], .agg #[.int .i64 1, .string ⟨nm.toArray⟩]] w fun r w' => r = .returned (.tuple #[.nilIface, .agg #[.bool false, .int .i64 c, .int .i64 p, .slice na nn nc, .string ⟨t.toArray⟩]]) ∧ Below w.heap.size w w' := by
  have X0 := bx_new w false c p (.slice na nn nc) t 1 nm
  have k0 : Below w.heap.size w _ := ((box_below w (.cells #[.bool false, .int .i64 c, .int .i64 p, (.slice na nn nc), .string ⟨t.toArray⟩] 29)).alloc (by simp) (.cells #[.int .i64 1, .string ⟨nm.toArray⟩] 35)).alloc (by simp; omega) (.cells #[.bool false, .int .i64 0, .int .i64 0, .slice none 0 0, .string ⟨#[]⟩] 29)
  have cN := in_nil ⟨nm.toArray⟩
  go_enter Tryd.func11, Tryd.ntmps11
  go_upto_region 9 with (go_at_call 13; (with_reducible refine (cN _).mono ?_); rintro e w1 ⟨rfl, rfl⟩)
  have X4 := X0
  have O4 := Only.refl w.heap.size (w.heap.size + 1 + 1) (((w.alloc (.cells #[.bool false, .int .i64 c, .int .i64 p, .slice na nn nc, .string ⟨t.toArray⟩] 29)).alloc (.cells #[.int .i64 1, .string ⟨nm.toArray⟩] 35)).alloc (.cells #[.bool false, .int .i64 0, .int .i64 0, .slice none 0 0, .string ⟨#[]⟩] 29))
  generalize ((w.alloc (.cells #[.bool false, .int .i64 c, .int .i64 p, .slice na nn nc, .string ⟨t.toArray⟩] 29)).alloc (.cells #[.int .i64 1, .string ⟨nm.toArray⟩] 35)).alloc (.cells #[.bool false, .int .i64 0, .int .i64 0, .slice none 0 0, .string ⟨#[]⟩] 29) = W4 at *
  obtain ⟨⟨a0, a1, a2, a3, a4⟩, ⟨d0, d1, d2, d3, d4⟩, df⟩ := X4.out
  go_region
  go_wp2
  refine bodyPost_ret (v := .tuple #[.nilIface, .agg #[.bool false, .int .i64 c, .int .i64 p, .slice na nn nc, .string ⟨t.toArray⟩]]) (by rw [results_tmp_cell rfl]; go_simp) rfl ?_
  have OO := (((((O4.set ⟨w.heap.size + 1 + 1, 0, none⟩ (.bool false) (.inr rfl)).set ⟨w.heap.size + 1 + 1, 1, none⟩ (.int .i64 c) (.inr rfl)).set ⟨w.heap.size + 1 + 1, 2, none⟩ (.int .i64 p) (.inr rfl)).set ⟨w.heap.size + 1 + 1, 3, none⟩ (.slice na nn nc) (.inr rfl)).set ⟨w.heap.size + 1 + 1, 4, none⟩ (.string ⟨t.toArray⟩) (.inr rfl)).drew
  exact ⟨rfl, OO.below k0⟩

set_option maxHeartbeats 2000000 in
theorem more_dead2 (w : World) (na : Option Addr) (nn nc : Nat) (c p : Int) (t nm : List UInt8) :
    Calls Tryd.prog 11 #[.nilIface, .agg #[.bool false, .int .i64 c, .int .i64 p, .slice na nn nc, .string ⟨t.toArray⟩], .agg #[.int .i64 2, .string ⟨nm.toArray⟩]] w fun r w' => r = .returned (.tuple #[.nilIface, .agg #[.bool false, .int .i64 c, .int .i64 p, .slice na nn nc, .string ⟨t.toArray⟩]]) ∧ Below w.heap.size w w' := by
  have X0 := bx_new w false c p (.slice na nn nc) t 2 nm
  have k0 : Below w.heap.size w _ := ((box_below w (.cells #[.bool false, .int .i64 c, .int .i64 p, (.slice na nn nc), .string ⟨t.toArray⟩] 29)).alloc (by simp) (.cells #[.int .i64 2, .string ⟨nm.toArray⟩] 35)).alloc (by simp; omega) (.cells #[.bool false, .int .i64 0, .int .i64 0, .slice none 0 0, .string ⟨#[]⟩] 29)
  go_enter Tryd.func11, Tryd.ntmps11
  go_upto_region 9 with fail
  have X4 := X0
  have O4 := Only.refl w.heap.size (w.heap.size + 1 + 1) (((w.alloc (.cells #[.bool false, .int .i64 c, .int .i64 p, .slice na nn nc, .string ⟨t.toArray⟩] 29)).alloc (.cells #[.int .i64 2, .string ⟨nm.toArray⟩] 35)).alloc (.cells #[.bool false, .int .i64 0, .int .i64 0, .slice none 0 0, .string ⟨#[]⟩] 29))
  generalize ((w.alloc (.cells #[.bool false, .int .i64 c, .int .i64 p, .slice na nn nc, .string ⟨t.toArray⟩] 29)).alloc (.cells #[.int .i64 2, .string ⟨nm.toArray⟩] 35)).alloc (.cells #[.bool false, .int .i64 0, .int .i64 0, .slice none 0 0, .string ⟨#[]⟩] 29) = W4 at *
  obtain ⟨⟨a0, a1, a2, a3, a4⟩, ⟨d0, d1, d2, d3, d4⟩, df⟩ := X4.out
  go_region
  go_wp2
  refine bodyPost_ret (v := .tuple #[.nilIface, .agg #[.bool false, .int .i64 c, .int .i64 p, .slice na nn nc, .string ⟨t.toArray⟩]]) (by rw [results_tmp_cell rfl]; go_simp) rfl ?_
  have OO := (((((O4.set ⟨w.heap.size + 1 + 1, 0, none⟩ (.bool false) (.inr rfl)).set ⟨w.heap.size + 1 + 1, 1, none⟩ (.int .i64 c) (.inr rfl)).set ⟨w.heap.size + 1 + 1, 2, none⟩ (.int .i64 p) (.inr rfl)).set ⟨w.heap.size + 1 + 1, 3, none⟩ (.slice na nn nc) (.inr rfl)).set ⟨w.heap.size + 1 + 1, 4, none⟩ (.string ⟨t.toArray⟩) (.inr rfl)).drew
  exact ⟨rfl, OO.below k0⟩

end Go.Proofs.YtfbnnofmplakjaaDoor
