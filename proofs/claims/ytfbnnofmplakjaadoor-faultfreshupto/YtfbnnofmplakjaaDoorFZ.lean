
/- Are number, place, names and text as they must be? -/

import Derived.Test.YtfbnnofmplakjaaDoorFY

import Derived.Deep.DeepCutAuto

import Derived.Deep.CutRange

import Derived.Deep.RegionHeld3

namespace Go.Proofs.YtfbnnofmplakjaaDoor

open Go.RowKit Go.Extern.Stop Go.Stop Go.Extern

set_option linter.unusedVariables false

/-- The book's box, behind w4. -/
structure Tq (w4 V : World) (s : Nat) (c p : Int) (na : Option Addr) (n nc : Nat) (t : List UInt8) : Prop where
  bl : Below w4.heap.size w4 V
  bx : V.heap[s]? = some (.cells #[.bool true, .int .i64 c, .int .i64 p, .slice na n nc, .string ⟨t.toArray⟩] 29 (0, 0))
theorem Tq.go {w4 V V' : World} {s : Nat} {c p : Int} {na : Option Addr} {n nc : Nat} {t : List UInt8} (h : Tq w4 V s c p na n nc t) (k : Below V.heap.size V V') : Tq w4 V' s c p na n nc t :=
  ⟨h.bl.trans (k.mono h.bl.size), heap_at h.bx k (Nat.le_refl _)⟩
theorem Tq.drew {w4 V : World} {s : Nat} {c p : Int} {na : Option Addr} {n nc : Nat} {t : List UInt8} (h : Tq w4 V s c p na n nc t) : Tq w4 V.drew s c p na n nc t := h.go ((Below.refl _ _).drew)
theorem Tq.all {w4 V : World} {s : Nat} {c p : Int} {na : Option Addr} {n nc : Nat} {t : List UInt8} (h : Tq w4 V s c p na n nc t) :
    V.cell? ⟨s, 1, none⟩ = some (.int .i64 c) ∧ V.cell? ⟨s, 2, none⟩ = some (.int .i64 p) ∧ V.cell? ⟨s, 3, none⟩ = some (.slice na n nc) ∧ V.cell? ⟨s, 4, none⟩ = some (.string ⟨t.toArray⟩) ∧ Tq w4 V s c p na n nc t :=
  ⟨cell_of h.bx rfl, cell_of h.bx rfl, cell_of h.bx rfl, cell_of h.bx rfl, h⟩
/-- A row of texts, cell by cell. -/
theorem st_cells {w : World} {B : Nat} {a : Option Addr} {n c : Nat} {l : List (List UInt8)} (h : w.ownsRow B 9 1 (.slice a n c) l.length (l.map encStr)) (k : Nat) (hk : k < l.length) : ∃ g, a = some ⟨g, 0, none⟩ ∧ ∀ j, j < l.length → w.cell? ⟨g, j, none⟩ = some (.string ⟨(l.getD j []).toArray⟩) := by
  rcases h.2 with ⟨e, h0⟩ | ⟨g, cap, cur, e, hb, hg, hn, hm, hs, ht⟩
  · omega
  · injection e with e1 e2 e3
    subst e1 e2 e3
    refine ⟨g, rfl, fun j hj => ?_⟩
    have := h.cellAt j (by omega)
    rw [this, List.getElem?_map, List.getElem?_eq_getElem hj]
    simp [encStr, List.getD, hj]

set_option maxHeartbeats 4000000 in
theorem told_core (w : World) (B : Nat) (te : TypeId) (ve : Value) (na : Option Addr) (nc : Nat) (cc pp : Int) (l : List (List UInt8)) (t : List UInt8) (hr : St w B (.slice na l.length nc) l) (hln : l.length ≤ 8796093022000)
    (cC : ∀ V, Below w.heap.size w V → Calls Tryd.prog 18 #[.iface te ve] V fun x V' => x = .returned (.int .i64 cc) ∧ Below V.heap.size V V')
    (cP : ∀ V, Below w.heap.size w V → Calls Tryd.prog 20 #[.iface te ve] V fun x V' => x = .returned (.int .i64 pp) ∧ Below V.heap.size V V')
    (cT : ∀ V, Below w.heap.size w V → Calls Tryd.prog 15 #[.iface te ve] V fun x V' => ∃ na nn nc, x = .returned (.slice na nn nc) ∧ St V' V.heap.size (.slice na nn nc) l ∧ Below V.heap.size V V')
    (cS : ∀ V, Below w.heap.size w V → Sy V (.iface te ve) t) :
    Calls Tryd.prog 10 #[.iface te ve, .agg #[.bool true, .int .i64 cc, .int .i64 pp, .slice na l.length nc, .string ⟨t.toArray⟩]] w fun r w' => r = .returned (.bool true) ∧ Below w.heap.size w w' := by
  have bw := box_below w (.cells #[.bool true, .int .i64 cc, .int .i64 pp, .slice na l.length nc, .string ⟨t.toArray⟩] 29)
  have nb := new_blk w (.cells #[.bool true, .int .i64 cc, .int .i64 pp, .slice na l.length nc, .string ⟨t.toArray⟩] 29)
  have w0c : (w.alloc (.cells #[.bool true, .int .i64 cc, .int .i64 pp, .slice na l.length nc, .string ⟨t.toArray⟩] 29)).cell? ⟨w.heap.size, 0, none⟩ = some (.bool true) := cell_of nb rfl
  have K1 := bw.drew
  have nb1 : (w.alloc (.cells #[.bool true, .int .i64 cc, .int .i64 pp, .slice na l.length nc, .string ⟨t.toArray⟩] 29)).drew.heap[w.heap.size]? = some (.cells #[.bool true, .int .i64 cc, .int .i64 pp, .slice na l.length nc, .string ⟨t.toArray⟩] 29 (0, 0)) := nb
  have cC0 := cC _ K1
  go_enter Tryd.func10, Tryd.ntmps10
  go_upto_region 1 with fail
  go_region
  clear bw nb w0c
  generalize (w.alloc (.cells #[.bool true, .int .i64 cc, .int .i64 pp, .slice na l.length nc, .string ⟨t.toArray⟩] 29)).drew = w1 at *
  go_upto_region 8 with (first
    | (go_at_call 18; (with_reducible refine cC0.mono ?_); rintro e w2 ⟨rfl, b2⟩; have K2 := K1.trans (b2.mono K1.size); have nb2 := heap_at nb1 b2 (Nat.le_refl _); have cP0 := cP _ K2)
    | (go_at_call 20; (with_reducible refine cP0.mono ?_); rintro e w3 ⟨rfl, b3⟩; have K3 := K2.trans (b3.mono K2.size); have nb3 := heap_at nb2 b3 (Nat.le_refl _); have cT0 := cT _ K3)
    | (go_at_call 15; (with_reducible refine cT0.mono ?_); rintro e w4 ⟨xa, xn, xc, rfl, S4, b4⟩; have K4 := K3.trans (b4.mono K3.size); have nb4 := heap_at nb3 b4 (Nat.le_refl _)))
  obtain ⟨ya, yc, hxs⟩ := own_slice S4
  injection hxs with hy1 hy2 hy3
  subst hy1 hy2 hy3
  have hS := cS _ K4
  have Q4 : Tq w4 w4 w.heap.size cc pp na l.length nc t := ⟨Below.refl _ _, nb4⟩
  clear cC cP cT cS cC0 cP0 cT0 b2 b3 b4 K1 K2 K3 nb1 nb2 nb3
  go_cut [57] from 33 to 57 (fun s57 V => s57 = .bool false ∧ Tq w4 V w.heap.size cc pp na l.length nc t)
  case first =>
    rcases hS with ⟨v, hv, c⟩ | ⟨v, hv, c⟩ | ⟨v, hv, c⟩ | ⟨v, hv, c⟩ | ⟨v, hv, c⟩
    all_goals
      cases hv
      have m1 := me_N ve
      have m2 := me_O ve
      have m3 := me_P ve
      have m4 := me_S ve
      have m5 := me_E ve
      have kE : ∀ V, (V.cell? ⟨w.heap.size, 1, none⟩ = some (.int .i64 cc) ∧ V.cell? ⟨w.heap.size, 2, none⟩ = some (.int .i64 pp) ∧ V.cell? ⟨w.heap.size, 3, none⟩ = some (.slice na l.length nc) ∧ V.cell? ⟨w.heap.size, 4, none⟩ = some (.string ⟨t.toArray⟩) ∧ Tq w4 V w.heap.size cc pp na l.length nc t) → _ := fun V hV => c V hV.2.2.2.2.bl
      go_region_held3 (fun V => V.cell? ⟨w.heap.size, 1, none⟩ = some (.int .i64 cc) ∧ V.cell? ⟨w.heap.size, 2, none⟩ = some (.int .i64 pp) ∧ V.cell? ⟨w.heap.size, 3, none⟩ = some (.slice na l.length nc) ∧ V.cell? ⟨w.heap.size, 4, none⟩ = some (.string ⟨t.toArray⟩) ∧ Tq w4 V w.heap.size cc pp na l.length nc t) (first | exact Tq.all (by assumption) | exact Tq.all (Tq.drew (by assumption)))
        (first
          | (go_at_call 73; (with_reducible refine (kE _ (by assumption)).mono ?_); rintro e w5 ⟨rfl, b5⟩; have Q5 := (‹_ ∧ _ ∧ _ ∧ _ ∧ Tq w4 _ w.heap.size cc pp na l.length nc t›).2.2.2.2.go b5)
          | (go_at_call 71; (with_reducible refine (kE _ (by assumption)).mono ?_); rintro e w5 ⟨rfl, b5⟩; have Q5 := (‹_ ∧ _ ∧ _ ∧ _ ∧ Tq w4 _ w.heap.size cc pp na l.length nc t›).2.2.2.2.go b5)
          | (go_at_call 84; (with_reducible refine (kE _ (by assumption)).mono ?_); rintro e w5 ⟨rfl, b5⟩; have Q5 := (‹_ ∧ _ ∧ _ ∧ _ ∧ Tq w4 _ w.heap.size cc pp na l.length nc t›).2.2.2.2.go b5)
          | (go_at_call 86; (with_reducible refine (kE _ (by assumption)).mono ?_); rintro e w5 ⟨rfl, b5⟩; have Q5 := (‹_ ∧ _ ∧ _ ∧ _ ∧ Tq w4 _ w.heap.size cc pp na l.length nc t›).2.2.2.2.go b5)
          | (go_at_call 70; (with_reducible refine (kE _ (by assumption)).mono ?_); rintro e w5 ⟨rfl, b5⟩; have Q5 := (‹_ ∧ _ ∧ _ ∧ _ ∧ Tq w4 _ w.heap.size cc pp na l.length nc t›).2.2.2.2.go b5))
      go_wp2
      go_meet
      case rel => exact ⟨rfl, Q5⟩
  case rest =>
    obtain ⟨rfl, Qc⟩ := hcut
    obtain ⟨W, hW⟩ : ∃ W, W = wc := ⟨_, rfl⟩
    subst hW
    have Sl := own_below S4 Qc.bl
    have KW := K4.trans (Qc.bl.mono K4.size)
    have Sn := own_below hr KW
    have HL : l.length ≤ 8796093022000 := hln
    clear hr S4 K4 nb4 Q4 hS hln
    go_wp2
    go_loopg [8] l.length (fun g s8 wr => ∃ k : Nat, k ≤ l.length ∧ g = l.length - k ∧ s8 = .int .i64 (k : Nat) ∧ Below W.heap.size W wr)
    case atStart => exact ⟨0, Nat.zero_le _, rfl, rfl, Below.refl _ _⟩
    case round =>
      obtain ⟨k, hk, rfl, rfl, hbr⟩ := hrel
      by_cases hlt : k < l.length
      · obtain ⟨g1, hg1, hc1⟩ := st_cells (own_below Sl hbr) k hlt
        obtain ⟨g2, hg2, hc2⟩ := st_cells (own_below Sn hbr) k hlt
        have x1 := hc1 k hlt
        have x2 := hc2 k hlt
        have x3 : wr.cell? ⟨w.heap.size, 3, none⟩ = some (.slice na l.length nc) := cell_of (heap_at Qc.bx hbr (Nat.le_refl _)) rfl
        have t1 : decide ((k : Int) < (l.length : Int)) = true := by simp [hlt]
        clear hc1 hc2
        subst hg1 hg2
        generalize l.getD k [] = y at *
        generalize hN : l.length = N at *
        have BB : Hid (N ≤ 8796093022000) := HL
        have HN : Hid (l.length = N) := hN
        clear HL hN
        have t2 : (k : Int) < (N : Int) := by omega
        have t3 : (0 : Int) ≤ (k : Int) := by omega
        go_upto_region 13 with fail
        go_region
        go_wp2
        go_roundg (N - (k + 1))
        case measure => omega
        case rel => exact ⟨k + 1, by omega, rfl, (by have h1 := BB.out; refine congrArg (Value.int .i64) ?_; unfold wrap64; omega), hbr.drew⟩
      · obtain rfl : k = l.length := by omega
        have t1 : decide ((l.length : Int) < (l.length : Int)) = false := by simp
        clear hlt
        go_wp2
        (try simp only [Exit.inBlock, Exit.then])
        go_ret
        exact ⟨rfl, KW.trans (hbr.mono KW.size)⟩

theorem told_live (w : World) (B : Nat) (e : Value) (na : Option Addr) (nc : Nat) (ls : List Lk) (b : Bs) (h : Ch w e ls b) (hr : St w B (.slice na (nms ls).length nc) (nms ls)) (hl : ls.length ≤ 8796093022000) (ht : (tx ls b).length ≤ 140737488355328) (T : Tb w) :
    Calls Tryd.prog 10 #[e, bk b na (nms ls).length nc (tx ls b)] w fun r w' => r = .returned (.bool true) ∧ Below w.heap.size w w' := by
  obtain ⟨te, ve, rfl⟩ := h.iface
  exact told_core w B te ve na nc (cdE b) (plc b) (nms ls) (tx ls b) hr (Nat.le_trans (nms_len ls) hl) (fun V hV => code_any V _ ls b (Ch.below hV (Nat.le_refl _) h) (T.below hV)) (fun V hV => place_any V _ ls b (Ch.below hV (Nat.le_refl _) h))
    (fun V hV => trail_any V _ ls b (Ch.below hV (Nat.le_refl _) h) hl) (fun V hV => sy_any b ls.length ls _ V (Nat.le_refl _) (Ch.below hV (Nat.le_refl _) h) (T.below hV) ht)
set_option maxHeartbeats 2000000 in
theorem told_none (w : World) (c p : Int) (t : List UInt8) :
    Calls Tryd.prog 10 #[.nilIface, .agg #[.bool false, .int .i64 c, .int .i64 p, .slice none 0 0, .string ⟨t.toArray⟩]] w fun r w' => r = .returned (.bool true) ∧ Below w.heap.size w w' := by
  have bw := box_below w (.cells #[.bool false, .int .i64 c, .int .i64 p, .slice none 0 0, .string ⟨t.toArray⟩] 29)
  have nb := new_blk w (.cells #[.bool false, .int .i64 c, .int .i64 p, .slice none 0 0, .string ⟨t.toArray⟩] 29)
  have w0c : (w.alloc (.cells #[.bool false, .int .i64 c, .int .i64 p, .slice none 0 0, .string ⟨t.toArray⟩] 29)).cell? ⟨w.heap.size, 0, none⟩ = some (.bool false) := cell_of nb rfl
  have K1 := bw.drew
  go_enter Tryd.func10, Tryd.ntmps10
  go_upto_region 1 with fail
  go_region
  clear bw nb w0c
  generalize (w.alloc (.cells #[.bool false, .int .i64 c, .int .i64 p, .slice none 0 0, .string ⟨t.toArray⟩] 29)).drew = w1 at *
  have cC0 := code_nil w1
  go_wp2_with (first
    | (go_at_call 18; (with_reducible refine cC0.mono ?_); rintro e w2 ⟨rfl, b2⟩; have cP0 := place_nil w2; have cT0 := trail_nil w2; have K2 := K1.trans (b2.mono K1.size))
    | (go_at_call 20; (with_reducible refine cP0.mono ?_); rintro e w3 ⟨rfl, hVV⟩; rw [hVV]; clear hVV)
    | (go_at_call 15; (with_reducible refine cT0.mono ?_); rintro e w4 ⟨rfl, hVV⟩; rw [hVV]; clear hVV))
  (try simp only [Exit.inBlock, Exit.then])
  go_ret
  exact ⟨rfl, K2⟩
end Go.Proofs.YtfbnnofmplakjaaDoor
