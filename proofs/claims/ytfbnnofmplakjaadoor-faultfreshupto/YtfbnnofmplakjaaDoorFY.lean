
/- An error's place and its names. -/

import Derived.Test.YtfbnnofmplakjaaDoorFQ

import Derived.Deep.LoopGhost

namespace Go.Proofs.YtfbnnofmplakjaaDoor

open Go.RowKit Go.Extern.Stop Go.Stop Go.Extern

set_option linter.unusedVariables false

theorem place_nil (w : World) : Calls Tryd.prog 20 #[.nilIface] w fun x w' => x = .returned (.int .i64 (-1)) ∧ w' = w := by
  go_enter Tryd.func20, Tryd.ntmps20
  go_wp2
  refine wp_loop_rounds 1 ?_
  rw [rounds_succ]
  go_wp2
  go_ret
  exact ⟨rfl, rfl⟩
def Pl (w : World) (b : Bs) (k : Nat) (e r : Value) (wr : World) : Prop :=
  r = .int .i64 0 ∧ Below w.heap.size w wr ∧ ((∃ ls, k = ls.length + 1 ∧ Ch wr e ls b) ∨ (k = 0 ∧ e = .nilIface ∧ b.k ≠ 1))
theorem nwB_no {e : Value} (h : ∀ v, e ≠ .iface 76 v) : nwP e = .pointer none ∧ nwB e = false := by
  cases e with
  | iface t v =>
    have ht : t ≠ 76 := fun x => h v (by rw [x])
    unfold nwP nwB
    simp [ht]
  | _ => exact ⟨rfl, rfl⟩

set_option maxHeartbeats 4000000 in
theorem place_any (w : World) (e : Value) (ls : List Lk) (b : Bs) (h : Ch w e ls b) :
    Calls Tryd.prog 20 #[e] w fun x w' => x = .returned (.int .i64 (plc b)) ∧ Below w.heap.size w w' := by
  obtain ⟨te, ve, rfl⟩ := h.iface
  go_enter Tryd.func20, Tryd.ntmps20
  go_wp2
  go_loopg [0, 2] (ls.length + 1) (fun k s0 s2 wr => Pl w b k s0 s2 wr)
  case atStart => exact ⟨rfl, Below.refl _ _, .inl ⟨ls, rfl, h⟩⟩
  case round =>
    clear h
    obtain ⟨rfl, hb, ⟨ls', hk, hc⟩ | ⟨hk, rfl, hb1⟩⟩ := hrel
    · have HK : Hid (gk = ls'.length + 1) := hk
      clear hk
      by_cases hbase : ls' = [] ∧ b.k = 1
      · obtain ⟨rfl, hk1⟩ := hbase
        have HP : Hid (plc b = b.p) := if_pos hk1
        have kO := ofNew_any wr _ _ _ hc wr
        obtain ⟨h0, ⟨_, hnz, g, rfl, hg⟩ | ⟨hk2, g, rfl, hg⟩ | ⟨hk3, rfl⟩⟩ := hc
        rotate_left 1
        · omega
        · omega
        rw [show nwP (.iface 76 (.pointer (some ⟨g, 0, none⟩))) = .pointer (some ⟨g, 0, none⟩) from rfl, show nwB (.iface 76 (.pointer (some ⟨g, 0, none⟩))) = true from rfl] at kO
        have c1 : wr.cell? ⟨g, 1, none⟩ = some (.int .i64 b.p) := cell_of hg rfl
        clear hg hk1 hnz h0
        go_wp2_with (go_at_call 33; (with_reducible refine kO.mono ?_); rintro e w1 ⟨rfl, rfl⟩)
        (try simp only [Exit.inBlock, Exit.then])
        go_ret
        exact ⟨by rw [HP.out]; rfl, hb⟩
      · have hno : ∀ v, u0 ≠ .iface 76 v := by
          intro v hv
          cases ls' with
          | nil =>
            obtain ⟨_, ⟨hk1, _, g, rfl, hg⟩ | ⟨hk2, g, rfl, hg⟩ | ⟨hk3, rfl⟩⟩ := hc
            · exact hbase ⟨rfl, hk1⟩
            · cases hv
            · cases hv
          | cons x r =>
            cases x with
            | none => obtain ⟨_, _, rfl, _⟩ := hc; cases hv
            | some nm' => obtain ⟨_, _, rfl, _⟩ := hc; cases hv
        have kO := ofNew_any wr _ _ _ hc wr
        rw [(nwB_no hno).1, (nwB_no hno).2] at kO
        have kN := next_any wr _ _ _ hc
        have HC : Hid (Ch wr u0 ls' b) := hc
        have HB : Hid (¬ (ls' = [] ∧ b.k = 1)) := hbase
        obtain ⟨ti, vi, rfl⟩ := hc.iface
        clear hc hno hbase
        go_wp2_with (first
          | (go_at_call 33; (with_reducible refine kO.mono ?_); rintro e w1 ⟨rfl, rfl⟩)
          | (go_at_call 27; (with_reducible refine kN.mono ?_); rintro e w2 ⟨r, rfl, hN, b2⟩))
        go_roundg ls'.length
        case measure => rw [HK.out]; omega
        case rel =>
          refine ⟨rfl, hb.trans (b2.mono hb.size), ?_⟩
          rcases Nx.ch HC.out hN with ⟨x, ls2, rfl, hc2⟩ | ⟨h1, h2, _⟩ | ⟨h1, h2, h3⟩
          · exact .inl ⟨ls2, rfl, Ch.below b2 (Nat.le_refl _) hc2⟩
          · exact absurd ⟨h1, h2⟩ HB.out
          · exact .inr ⟨by rw [h1]; rfl, h3, h2⟩
    · have HP : Hid (plc b = -1) := if_neg hb1
      clear hk hb1
      go_wp2
      (try simp only [Exit.inBlock, Exit.then])
      go_ret
      exact ⟨by rw [HP.out]; rfl, hb⟩

theorem reverse_any (w : World) (B : Nat) (v : Value) (l : List (List UInt8)) (h : St w B v l) (hl : l.length ≤ 8796093022000) :
    Calls Tryd.prog 29 #[v] w fun x w' => x = .returned (.tuple #[]) ∧ St w' B v l.reverse ∧ Below B w w' := by
  by_cases hv : v = .slice none 0 0
  · subst hv
    have hl0 : l = [] := by
      rcases h.2 with ⟨_, h0⟩ | ⟨g, cap, cur, e, _⟩
      · exact List.length_eq_zero_iff.1 h0
      · cases e
    subst hl0
    refine (Tryd.slices_Reverse_string_empty none 0 w).mono ?_
    rintro x w' ⟨rfl, rfl⟩
    exact ⟨rfl, h, Below.refl _ _⟩
  · obtain ⟨g, cap, rfl, hb, hg, hn, hm, hlen, hH⟩ := Lib.holds_of_ownsRow h hv
    refine (Tryd.slices_Reverse_string g 0 cap l w hH (by omega)).mono ?_
    rintro x w' ⟨rfl, n, rfl⟩
    refine ⟨rfl, ?_, Lib.below_putRow (Below.refl _ _) hb⟩
    have := Lib.ownsRow_putRow (q := n) (k := l.length) (ys := l.reverse) h (by simp) (Nat.le_refl _)
    rw [List.take_of_length_le (by simp)] at this
    unfold St
    rw [List.length_reverse]
    exact this
theorem lk_no {e : Value} (h : ∀ v, e ≠ .iface 59 v) : lkP e = .pointer none ∧ lkB e = false := by
  cases e with
  | iface t v =>
    have ht : t ≠ 59 := fun x => h v (by rw [x])
    unfold lkP lkB
    simp [ht]
  | _ => exact ⟨rfl, rfl⟩
/-- The names met so far, and those to come. -/
def Tl (w : World) (all : List (List UInt8)) (k : Nat) (e v : Value) (wr : World) : Prop :=
  Below w.heap.size w wr ∧ ∃ ns, St wr w.heap.size v ns ∧ ((∃ ls b, k = rk ls b + 1 ∧ Ch wr e ls b ∧ ns ++ ls.filterMap id = all) ∨ (k = 0 ∧ e = .nilIface ∧ ns = all))

set_option maxHeartbeats 4000000 in
theorem trail_any (w : World) (e : Value) (ls : List Lk) (b : Bs) (h : Ch w e ls b) (hl : ls.length ≤ 8796093022000) :
    Calls Tryd.prog 15 #[e] w fun x w' => ∃ na nn nc, x = .returned (.slice na nn nc) ∧ St w' w.heap.size (.slice na nn nc) (nms ls) ∧ Below w.heap.size w w' := by
  have HR : Hid ((ls.filterMap id).reverse = nms ls) := rfl
  have HL : Hid ((ls.filterMap id).length ≤ 8796093022000) := by show _ ≤ _; exact Nat.le_trans (List.length_filterMap_le _ _) hl
  obtain ⟨te, ve, rfl⟩ := h.iface
  generalize hall : ls.filterMap id = all at *
  have HA : Hid (ls.filterMap id = all) := hall
  clear hall hl
  go_enter Tryd.func15, Tryd.ntmps15
  go_wp2
  go_loopg [0, 3] (rk ls b + 1) (fun k s0 s3 wr => Tl w all k s0 s3 wr)
  case atStart => exact ⟨Below.refl _ _, [], World.ownsRow_nil _ _ _ _, .inl ⟨ls, b, rfl, h, HA.out⟩⟩
  case round =>
    clear h
    obtain ⟨hb, ns, hst, ⟨ls', b', hk, hc, hns⟩ | ⟨hk, rfl, hns⟩⟩ := hrel
    · have HK : Hid (gk = rk ls' b' + 1) := hk
      have HN : Hid (ns ++ ls'.filterMap id = all) := hns
      clear hk hns
      obtain ⟨vo, vc, rfl⟩ := own_slice hst
      have kO := ofIn_any wr _ _ _ hc wr
      have HC : Hid (Ch wr u0 ls' b') := hc
      by_cases hsome : ∃ nm r, ls' = some nm :: r
      · obtain ⟨nm, ls2, rfl⟩ := hsome
        obtain ⟨g, i, rfl, hg, hi⟩ := hc
        rw [lk_some.1, lk_some.2] at kO
        have c1 : wr.cell? ⟨g, 1, none⟩ = some (.string ⟨nm.toArray⟩) := cell_of hg rfl
        have bx := box_below wr (.cells #[.string ⟨nm.toArray⟩] 9)
        have hst1 := own_below hst bx
        have hlen : ns.length ≤ 8796093022000 := by
          have := HL.out
          rw [← HN.out, List.length_append] at this
          omega
        have hBa : w.heap.size ≤ (wr.alloc (.cells #[.string ⟨nm.toArray⟩] 9)).heap.size := Nat.le_trans hb.size bx.size
        have hca := Ch.below bx (Nat.le_refl _) HC.out
        clear hg
        go_wp2_with (first
          | (go_at_call 28; (with_reducible refine kO.mono ?_); rintro e w1 ⟨rfl, hVV⟩; rw [hVV]; clear hVV)
          | (at_builtin; refine wpList_app1 rfl _ _ rfl w.heap.size _ ns nm wr.heap.size rfl hst1 rfl (by simp) hlen hBa ?_; intro v2 w2 S2 G2 hv2; obtain ⟨xa, xn, xc, rfl⟩ := hv2; have hc2 := hca.grown G2 hst1; have kN := next_any w2 _ _ _ hc2)
          | (go_at_call 27; (with_reducible refine kN.mono ?_); rintro e w3 ⟨r, rfl, hN3, b3⟩))
        go_roundg (rk ls2 b' + 1)
        case measure => rw [HK.out]; simp only [rk, List.length_cons]; omega
        case rel =>
          have K2 : Below w.heap.size w w2 := (hb.trans (bx.mono hb.size)).grown G2 hBa fun j hj => (hst1.lt j hj).1
          refine ⟨K2.trans (b3.mono K2.size), ns ++ [nm], own_below S2 b3, .inl ⟨ls2, b', rfl, Ch.below b3 (Nat.le_refl _) hN3, ?_⟩⟩
          rw [← HN.out]; simp
      · have hno : ∀ v, u0 ≠ .iface 59 v := by
          intro v hv
          cases ls' with
          | nil => obtain ⟨_, ⟨_, _, g, rfl, _⟩ | ⟨_, g, rfl, _⟩ | ⟨_, rfl⟩⟩ := hc <;> cases hv
          | cons x r =>
            cases x with
            | none => obtain ⟨_, _, rfl, _⟩ := hc; cases hv
            | some nm' => exact hsome ⟨_, _, rfl⟩
        rw [(lk_no hno).1, (lk_no hno).2] at kO
        have kN := next_any wr _ _ _ hc
        have HS : Hid (¬ ∃ nm r, ls' = some nm :: r) := hsome
        obtain ⟨ti, vi, rfl⟩ := hc.iface
        clear hc hno hsome
        go_wp2_with (first
          | (go_at_call 28; (with_reducible refine kO.mono ?_); rintro e w1 ⟨rfl, hVV⟩; rw [hVV]; clear hVV)
          | (go_at_call 27; (with_reducible refine kN.mono ?_); rintro e w2 ⟨r, rfl, hN, b2⟩))
        rcases Nx.ch HC.out hN with ⟨x, ls2, rfl, hc2⟩ | ⟨h1, h2, hc2⟩ | ⟨h1, h2, rfl⟩
        · go_roundg (rk ls2 b' + 1)
          case measure => rw [HK.out]; simp only [rk, List.length_cons]; omega
          case rel =>
            refine ⟨hb.trans (b2.mono hb.size), ns, own_below hst b2, .inl ⟨ls2, b', rfl, Ch.below b2 (Nat.le_refl _) hc2, ?_⟩⟩
            rw [← HN.out]
            cases x with
            | none => simp
            | some nm => exact absurd ⟨nm, ls2, rfl⟩ HS.out
        · go_roundg (rk [] ⟨3, b'.c, -1, []⟩ + 1)
          case measure => rw [HK.out]; simp [rk, h1, h2]
          case rel =>
            refine ⟨hb.trans (b2.mono hb.size), ns, own_below hst b2, .inl ⟨[], ⟨3, b'.c, -1, []⟩, rfl, Ch.below b2 (Nat.le_refl _) hc2, ?_⟩⟩
            rw [← HN.out, h1]
        · go_roundg 0
          case measure => rw [HK.out]; omega
          case rel =>
            refine ⟨hb.trans (b2.mono hb.size), ns, own_below hst b2, .inr ⟨rfl, rfl, ?_⟩⟩
            rw [← HN.out, h1]; simp
    · have HN : Hid (ns = all) := hns
      obtain ⟨vo, vc, rfl⟩ := own_slice hst
      have cR := reverse_any wr w.heap.size _ ns hst (by rw [HN.out]; exact HL.out)
      clear hk hns
      go_wp2_with (go_at_call 29; (with_reducible refine cR.mono ?_); rintro e w2 ⟨rfl, S2, b2⟩)
      (try simp only [Exit.inBlock, Exit.then])
      go_ret
      exact ⟨_, _, _, rfl, by rw [← HR.out, ← HN.out]; exact S2, hb.trans b2⟩
theorem trail_nil (w : World) : Calls Tryd.prog 15 #[.nilIface] w fun x w' => x = .returned (.slice none 0 0) ∧ w' = w := by
  have cR := Tryd.slices_Reverse_string_empty none 0 w
  go_enter Tryd.func15, Tryd.ntmps15
  go_wp2
  refine wp_loop_rounds 1 ?_
  rw [rounds_succ]
  go_wp2_with (go_at_call 29; (with_reducible refine cR.mono ?_); rintro e w2 ⟨rfl, rfl⟩)
  go_ret
  exact ⟨rfl, rfl⟩
end Go.Proofs.YtfbnnofmplakjaaDoor
