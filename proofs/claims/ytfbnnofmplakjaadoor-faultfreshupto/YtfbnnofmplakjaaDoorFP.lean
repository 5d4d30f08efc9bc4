
/- What an error begins with; one error told. -/

import Derived.Test.YtfbnnofmplakjaaDoorFO

namespace Go.Proofs.YtfbnnofmplakjaaDoor

open Go.RowKit Go.Extern.Stop Go.Stop Go.Extern

set_option linter.unusedVariables false

def Bg (kind c p : Int) (t : List UInt8) : Option Bs :=
  if kind = 1 then (if c = 0 then none else some ⟨1, c, p, []⟩) else if kind = 2 then some ⟨2, 39, -1, t⟩ else if kind = 3 then some ⟨3, c, -1, []⟩ else none

/-- A book in its box. -/
theorem book_ret {w V : World} {q : Nat} {cs : Array Value} (h : V.heap[q]? = some (.cells cs 29 (0, 0))) : True := trivial

/-- The box of the answer. -/
def Qb (V : World) (q : Nat) : Prop := V.heap[q]? = some (.cells #[.bool false, .int .i64 0, .int .i64 0, .slice none 0 0, .string ⟨#[]⟩] 29 (0, 0))
theorem Qb.below {V V' : World} {q : Nat} (h : Qb V q) (k : Below V.heap.size V V') : Qb V' q := heap_at h k (Nat.le_refl _)
theorem Qb.c {V : World} {q : Nat} (h : Qb V q) :
    (V.cell? ⟨q, 0, none⟩ = some (.bool false) ∧ V.cell? ⟨q, 1, none⟩ = some (.int .i64 0) ∧ V.cell? ⟨q, 2, none⟩ = some (.int .i64 0) ∧ V.cell? ⟨q, 3, none⟩ = some (.slice none 0 0) ∧ V.cell? ⟨q, 4, none⟩ = some (.string ⟨#[]⟩)) ∧ (∀ j, V.frozen? ⟨q, j, none⟩ = false) :=
  ⟨⟨cell_of h rfl, cell_of h rfl, cell_of h rfl, cell_of h rfl, cell_of h rfl⟩, fun j => own_cell h j⟩
/-- A book is written into the box of the answer. -/
abbrev wr5 (V : World) (q : Nat) (x0 x1 x2 x3 x4 : Value) : World :=
  ((((V.setCell ⟨q, 0, none⟩ x0).setCell ⟨q, 1, none⟩ x1).setCell ⟨q, 2, none⟩ x2).setCell ⟨q, 3, none⟩ x3).setCell ⟨q, 4, none⟩ x4
theorem wr5_ch {w V : World} {e : Value} {ls : List Lk} {b : Bs} {q : Nat} (hq : Qb V q) (x0 x1 x2 x3 x4 : Value) (h : Ch V e ls b) : Ch (wr5 V q x0 x1 x2 x3 x4) e ls b := by
  have O := (((((Only.refl q q V).set ⟨q, 0, none⟩ x0 (.inl rfl)).set ⟨q, 1, none⟩ x1 (.inl rfl)).set ⟨q, 2, none⟩ x2 (.inl rfl)).set ⟨q, 3, none⟩ x3 (.inl rfl)).set ⟨q, 4, none⟩ x4 (.inl rfl)
  exact O.ch hq hq h
theorem wr5_below {B : Nat} {w V : World} {q : Nat} (x0 x1 x2 x3 x4 : Value) (h : Below B w V) (hq : B ≤ q) : Below B w (wr5 V q x0 x1 x2 x3 x4) :=
  ((((h.setCell (p := ⟨q, 0, none⟩) hq x0).setCell (p := ⟨q, 1, none⟩) hq x1).setCell (p := ⟨q, 2, none⟩) hq x2).setCell (p := ⟨q, 3, none⟩) hq x3).setCell (p := ⟨q, 4, none⟩) hq x4

set_option maxHeartbeats 2000000 in
theorem begun1 (c p : Int) (s : ByteArray) (w : World) (hc : c ≠ 0) (h0 : -9223372036854775808 ≤ c ∧ c ≤ 9223372036854775807) (h1 : -9223372036854775808 ≤ p ∧ p ≤ 9223372036854775807) (T : Tb w) :
    Calls Tryd.prog 9 #[.int .i64 1, .int .i64 c, .int .i64 p, .string s] w fun r w' => ∃ e, r = .returned (.tuple #[e, .agg #[.bool true, .int .i64 c, .int .i64 p, .slice none 0 0, .string ⟨(wErr ++ Lib.itoa c ++ wAt ++ Lib.itoa p).toArray⟩]]) ∧ Ch w' e [] ⟨1, c, p, []⟩ ∧ Below w.heap.size w w' := by
  have bw := box_below w (.cells #[.bool false, .int .i64 0, .int .i64 0, .slice none 0 0, .string ⟨#[]⟩] 29)
  have qb : Qb (w.alloc (.cells #[.bool false, .int .i64 0, .int .i64 0, .slice none 0 0, .string ⟨#[]⟩] 29)) w.heap.size := new_blk _ _
  obtain ⟨⟨d0, d1, d2, d3, d4⟩, df⟩ := qb.c
  have cN := newF_any c p (w.alloc (.cells #[.bool false, .int .i64 0, .int .i64 0, .slice none 0 0, .string ⟨#[]⟩] 29)) hc h0 h1
  have t : (c == 0) = false := by simp [hc]
  have t' : (c != 0) = true := by simp [hc]
  have T0 := T.below bw
  have cC : ∀ V, Tb V → _ := fun V hV => itoa_any c V h0 hV
  have cP : ∀ V, Tb V → _ := fun V hV => itoa_any p V h1 hV
  have hl0 := itoa_le c h0
  have hl1 := itoa_le p h1
  generalize Lib.itoa c = x at *
  generalize Lib.itoa p = y at *
  have q1 : ¬ 9223372036854775807 < 6 + x.length := by omega
  have q2 : ¬ 9223372036854775807 < 6 + x.length + 4 := by omega
  have q3 : ¬ 9223372036854775807 < 6 + x.length + 4 + y.length := by omega
  clear hl0 hl1 hc T
  go_enter Tryd.func9, Tryd.ntmps9
  go_wp2_with (first
    | (go_at_call 17; (with_reducible refine cN.mono ?_); rintro e w1 ⟨v1, rfl, hc1, b1⟩; have K1 := bw.trans (b1.mono bw.size); have T1 := T0.below b1; have Q1 := qb.below b1; have cC1 := cC _ T1)
    | (go_at_call 16; (with_reducible refine cC1.mono ?_); rintro e w2 ⟨rfl, b2⟩; have K2 := K1.trans (b2.mono K1.size); have T2 := T1.below b2; have Q2 := Q1.below b2; have hc2 := Ch.below b2 (Nat.le_refl _) hc1; have cP2 := cP _ T2)
    | (go_at_call 16; (with_reducible refine cP2.mono ?_); rintro e w3 ⟨rfl, b3⟩; have K3 := K2.trans (b3.mono K2.size); have Q3 := Q2.below b3; have hc3 := Ch.below b3 (Nat.le_refl _) hc2; obtain ⟨⟨e0, e1, e2, e3, e4⟩, ef⟩ := Q3.c))
  have hstr : ((⟨#[101, 114, 114, 111, 114, 32]⟩ : ByteArray) ++ ⟨x.toArray⟩ ++ ⟨#[32, 97, 116, 32]⟩ ++ ⟨y.toArray⟩) = ⟨(wErr ++ x ++ wAt ++ y).toArray⟩ := by
    rw [show (⟨#[101, 114, 114, 111, 114, 32]⟩ : ByteArray) = ⟨wErr.toArray⟩ from rfl, show (⟨#[32, 97, 116, 32]⟩ : ByteArray) = ⟨wAt.toArray⟩ from rfl, bs_app, bs_app, bs_app]
  rw [hstr]
  refine bodyPost_ret (v := .tuple #[v1, .agg #[.bool true, .int .i64 c, .int .i64 p, .slice none 0 0, .string ⟨(wErr ++ x ++ wAt ++ y).toArray⟩]]) (by rw [results_tmp_cell rfl]; go_simp) rfl ?_
  exact ⟨_, rfl, wr5_ch (w := w) Q3 _ _ _ _ _ hc3, wr5_below _ _ _ _ _ K3 (Nat.le_refl _)⟩
set_option maxHeartbeats 2000000 in
theorem begun1z (p : Int) (s : ByteArray) (w : World) (h1 : -9223372036854775808 ≤ p ∧ p ≤ 9223372036854775807) (T : Tb w) :
    Calls Tryd.prog 9 #[.int .i64 1, .int .i64 0, .int .i64 p, .string s] w fun r w' => ∃ c q dt, r = .returned (.tuple #[.nilIface, .agg #[.bool false, .int .i64 c, .int .i64 q, .slice none 0 0, .string ⟨(dt).toArray⟩]]) ∧ (dt : List UInt8).length ≤ 60 ∧ Below w.heap.size w w' := by
  have bw := box_below w (.cells #[.bool false, .int .i64 0, .int .i64 0, .slice none 0 0, .string ⟨#[]⟩] 29)
  have qb : Qb (w.alloc (.cells #[.bool false, .int .i64 0, .int .i64 0, .slice none 0 0, .string ⟨#[]⟩] 29)) w.heap.size := new_blk _ _
  obtain ⟨⟨d0, d1, d2, d3, d4⟩, df⟩ := qb.c
  have cN := newF_zero p (w.alloc (.cells #[.bool false, .int .i64 0, .int .i64 0, .slice none 0 0, .string ⟨#[]⟩] 29))
  have h0 : -9223372036854775808 ≤ (0 : Int) ∧ (0 : Int) ≤ 9223372036854775807 := by omega
  have T0 := T.below bw
  have cC : ∀ V, Tb V → _ := fun V hV => itoa_any 0 V h0 hV
  have cP : ∀ V, Tb V → _ := fun V hV => itoa_any p V h1 hV
  have hl0 := itoa_le 0 h0
  have hl1 := itoa_le p h1
  generalize Lib.itoa 0 = x at *
  generalize Lib.itoa p = y at *
  have q1 : ¬ 9223372036854775807 < 6 + x.length := by omega
  have q2 : ¬ 9223372036854775807 < 6 + x.length + 4 := by omega
  have q3 : ¬ 9223372036854775807 < 6 + x.length + 4 + y.length := by omega
  have HL : Hid ((wErr ++ x ++ wAt ++ y).length ≤ 60) := by show _ ≤ _; simp [wErr, wAt]; omega
  clear hl0 hl1 T h0
  go_enter Tryd.func9, Tryd.ntmps9
  go_wp2_with (first
    | (go_at_call 17; (with_reducible refine cN.mono ?_); rintro e w1 ⟨rfl, rfl⟩; have K1 := bw; have T1 := T0; have Q1 := qb; have cC1 := cC _ T1)
    | (go_at_call 16; (with_reducible refine cC1.mono ?_); rintro e w2 ⟨rfl, b2⟩; have K2 := K1.trans (b2.mono K1.size); have T2 := T1.below b2; have Q2 := Q1.below b2; have cP2 := cP _ T2)
    | (go_at_call 16; (with_reducible refine cP2.mono ?_); rintro e w3 ⟨rfl, b3⟩; have K3 := K2.trans (b3.mono K2.size); have Q3 := Q2.below b3; obtain ⟨⟨e0, e1, e2, e3, e4⟩, ef⟩ := Q3.c))
  have hstr : ((⟨#[101, 114, 114, 111, 114, 32]⟩ : ByteArray) ++ ⟨x.toArray⟩ ++ ⟨#[32, 97, 116, 32]⟩ ++ ⟨y.toArray⟩) = ⟨(wErr ++ x ++ wAt ++ y).toArray⟩ := by
    rw [show (⟨#[101, 114, 114, 111, 114, 32]⟩ : ByteArray) = ⟨wErr.toArray⟩ from rfl, show (⟨#[32, 97, 116, 32]⟩ : ByteArray) = ⟨wAt.toArray⟩ from rfl, bs_app, bs_app, bs_app]
  rw [hstr]
  refine bodyPost_ret (v := .tuple #[.nilIface, .agg #[.bool false, .int .i64 0, .int .i64 p, .slice none 0 0, .string ⟨(wErr ++ x ++ wAt ++ y).toArray⟩]]) (by rw [results_tmp_cell rfl]; go_simp) rfl ?_
  exact ⟨_, _, _, rfl, HL.out, wr5_below _ _ _ _ _ K3 (Nat.le_refl _)⟩
set_option maxHeartbeats 2000000 in
theorem begun2 (c p : Int) (s : List UInt8) (w : World) :
    Calls Tryd.prog 9 #[.int .i64 2, .int .i64 c, .int .i64 p, .string ⟨s.toArray⟩] w fun r w' => ∃ e, r = .returned (.tuple #[e, .agg #[.bool true, .int .i64 39, .int .i64 (-1), .slice none 0 0, .string ⟨(s).toArray⟩]]) ∧ Ch w' e [] ⟨2, 39, -1, s⟩ ∧ Below w.heap.size w w' := by
  have bw := box_below w (.cells #[.bool false, .int .i64 0, .int .i64 0, .slice none 0 0, .string ⟨#[]⟩] 29)
  have qb : Qb (w.alloc (.cells #[.bool false, .int .i64 0, .int .i64 0, .slice none 0 0, .string ⟨#[]⟩] 29)) w.heap.size := new_blk _ _
  obtain ⟨⟨d0, d1, d2, d3, d4⟩, df⟩ := qb.c
  have cN := newE_any s (w.alloc (.cells #[.bool false, .int .i64 0, .int .i64 0, .slice none 0 0, .string ⟨#[]⟩] 29))
  go_enter Tryd.func9, Tryd.ntmps9
  go_wp2_with (go_at_call 19; (with_reducible refine cN.mono ?_); rintro e w1 ⟨v1, rfl, hc1, b1⟩; have K1 := bw.trans (b1.mono bw.size); have Q1 := qb.below b1; obtain ⟨⟨e0, e1, e2, e3, e4⟩, ef⟩ := Q1.c)
  refine bodyPost_ret (v := .tuple #[v1, .agg #[.bool true, .int .i64 39, .int .i64 (-1), .slice none 0 0, .string ⟨(s).toArray⟩]]) (by rw [results_tmp_cell rfl]; go_simp) rfl ?_
  exact ⟨_, rfl, wr5_ch (w := w) Q1 _ _ _ _ _ hc1, wr5_below _ _ _ _ _ K1 (Nat.le_refl _)⟩
set_option maxHeartbeats 2000000 in
theorem begun3 (c p : Int) (s : ByteArray) (w : World) (h0 : -9223372036854775808 ≤ c ∧ c ≤ 9223372036854775807) (T : Tb w) :
    Calls Tryd.prog 9 #[.int .i64 3, .int .i64 c, .int .i64 p, .string s] w fun r w' => ∃ e, r = .returned (.tuple #[e, .agg #[.bool true, .int .i64 c, .int .i64 (-1), .slice none 0 0, .string ⟨(wErr ++ Lib.itoa c).toArray⟩]]) ∧ Ch w' e [] ⟨3, c, -1, []⟩ ∧ Below w.heap.size w w' := by
  have bw := box_below w (.cells #[.bool false, .int .i64 0, .int .i64 0, .slice none 0 0, .string ⟨#[]⟩] 29)
  have qb : Qb (w.alloc (.cells #[.bool false, .int .i64 0, .int .i64 0, .slice none 0 0, .string ⟨#[]⟩] 29)) w.heap.size := new_blk _ _
  obtain ⟨⟨d0, d1, d2, d3, d4⟩, df⟩ := qb.c
  have cC := itoa_any c (w.alloc (.cells #[.bool false, .int .i64 0, .int .i64 0, .slice none 0 0, .string ⟨#[]⟩] 29)) h0 (T.below bw)
  have hl0 := itoa_le c h0
  generalize Lib.itoa c = x at *
  have q1 : ¬ 9223372036854775807 < 6 + x.length := by omega
  clear hl0 T
  go_enter Tryd.func9, Tryd.ntmps9
  go_wp2_with (go_at_call 16; (with_reducible refine cC.mono ?_); rintro e w1 ⟨rfl, b1⟩; have K1 := bw.trans (b1.mono bw.size); have Q1 := qb.below b1; obtain ⟨⟨e0, e1, e2, e3, e4⟩, ef⟩ := Q1.c)
  rw [show (⟨#[101, 114, 114, 111, 114, 32]⟩ : ByteArray) ++ ⟨x.toArray⟩ = ⟨(wErr ++ x).toArray⟩ from bs_app wErr x]
  refine bodyPost_ret (v := .tuple #[.iface 22 (.int .i64 c), .agg #[.bool true, .int .i64 c, .int .i64 (-1), .slice none 0 0, .string ⟨(wErr ++ x).toArray⟩]]) (by rw [results_tmp_cell rfl]; go_simp) rfl ?_
  exact ⟨_, rfl, ⟨⟨h0, by dsimp only; omega⟩, .inr (.inr ⟨rfl, rfl⟩)⟩, wr5_below _ _ _ _ _ K1 (Nat.le_refl _)⟩
set_option maxHeartbeats 2000000 in
theorem begun0 (k c p : Int) (s : ByteArray) (w : World) (hk1 : k ≠ 1) (hk2 : k ≠ 2) (hk3 : k ≠ 3) :
    Calls Tryd.prog 9 #[.int .i64 k, .int .i64 c, .int .i64 p, .string s] w fun r w' => ∃ c q dt, r = .returned (.tuple #[.nilIface, .agg #[.bool false, .int .i64 c, .int .i64 q, .slice none 0 0, .string ⟨(dt).toArray⟩]]) ∧ (dt : List UInt8).length ≤ 60 ∧ Below w.heap.size w w' := by
  have bw := box_below w (.cells #[.bool false, .int .i64 0, .int .i64 0, .slice none 0 0, .string ⟨#[]⟩] 29)
  have qb : Qb (w.alloc (.cells #[.bool false, .int .i64 0, .int .i64 0, .slice none 0 0, .string ⟨#[]⟩] 29)) w.heap.size := new_blk _ _
  obtain ⟨⟨d0, d1, d2, d3, d4⟩, df⟩ := qb.c
  have t1 : (k == 1) = false := by simp [hk1]
  have t2 : (k == 2) = false := by simp [hk2]
  have t3 : (k == 3) = false := by simp [hk3]
  clear hk1 hk2 hk3
  go_enter Tryd.func9, Tryd.ntmps9
  go_wp2
  refine bodyPost_ret (v := .tuple #[.nilIface, .agg #[.bool false, .int .i64 0, .int .i64 0, .slice none 0 0, .string ⟨([]).toArray⟩]]) (by rw [results_tmp_cell rfl]; go_simp) rfl ?_
  exact ⟨_, _, [], rfl, by simp, bw⟩

theorem tx_mean : tx [some [77, 101, 97, 110]] ⟨1, 10, -1, []⟩ = [77, 101, 97, 110, 58, 32, 101, 114, 114, 111, 114, 32, 49, 48, 32, 97, 116, 32, 45, 49] := by
  have h1 : Lib.itoa 10 = [49, 48] := by simp [Lib.itoa, Lib.decDigits]
  have h2 : Lib.itoa (-1) = [45, 49] := by simp [Lib.itoa, Lib.decDigits]
  simp [tx, txB, h1, h2, wErr, wAt, wCol]
set_option maxHeartbeats 2000000 in
theorem awake_any (w : World) (T : Tb w) : Calls Tryd.prog 8 #[] w fun r w' => r = .returned (.bool true) ∧ Below w.heap.size w w' := by
  have cN := newF_any 10 (-1) w (by decide) (by decide) (by decide)
  have cI : ∀ V v, Ch V v [] ⟨1, 10, -1, []⟩ → _ := fun V v h => in_any [77, 101, 97, 110] V v [] _ h
  have cS : ∀ V v, Ch V v [some [77, 101, 97, 110]] ⟨1, 10, -1, []⟩ → Tb V → _ := fun V v h hT => sy_any _ 1 _ v V (by simp) h hT (by rw [tx_mean]; simp)
  rw [tx_mean] at cS
  have cC : ∀ V v, Ch V v [some [77, 101, 97, 110]] ⟨1, 10, -1, []⟩ → Tb V → _ := fun V v h hT => code_any V v _ _ h hT
  rw [show cdE ⟨1, 10, -1, []⟩ = 10 from rfl] at cC
  go_enter Tryd.func8, Tryd.ntmps8
  go_upto_region 2 with (first
    | (go_at_call 17; (with_reducible refine cN.mono ?_); rintro e w1 ⟨v1, rfl, hc1, b1⟩; have cI1 := cI _ _ hc1)
    | (go_at_call 13; (with_reducible refine cI1.mono ?_); rintro e w2 ⟨v2, rfl, hc2, b2⟩))
  have K2 := b1.trans (b2.mono b1.size)
  have T2 := T.below K2
  have S2 := cS _ _ hc2 T2
  obtain ⟨g, i, rfl, hg, hi⟩ := hc2
  rcases S2 with ⟨v, hv, c⟩ | ⟨v, hv, c⟩ | ⟨v, hv, c⟩ | ⟨v, hv, c⟩ | ⟨v, hv, c⟩
  rotate_left 1
  · cases hv
  · cases hv
  · cases hv
  · cases hv
  obtain rfl : .pointer (some ⟨g, 0, none⟩) = v := by injection hv
  have m1 := me_N (.pointer (some ⟨g, 0, none⟩))
  replace c := c w2 (Below.refl _ _)
  have cC2 : ∀ V, Below w2.heap.size w2 V → _ := fun V hV => cC V (.iface 59 (.pointer (some ⟨g, 0, none⟩))) (Ch.below hV (Nat.le_refl _) ⟨g, i, rfl, hg, hi⟩) (T2.below hV)
  clear hv cC cS cI cN cI1 hc1 hg hi
  go_wp2_with (first
    | (go_at_call 73; (with_reducible refine c.mono ?_); rintro e w3 ⟨rfl, b3⟩; have cC3 := cC2 _ b3)
    | (go_at_call 18; (with_reducible refine cC3.mono ?_); rintro e w4 ⟨rfl, b4⟩))
  go_ret
  exact ⟨rfl, K2.trans ((b3.trans (b4.mono b3.size)).mono K2.size)⟩
end Go.Proofs.YtfbnnofmplakjaaDoor
