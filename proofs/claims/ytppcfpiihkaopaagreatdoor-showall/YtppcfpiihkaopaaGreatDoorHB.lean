
/- The hand of layer 4: an array laid into it. -/

import Derived.Test.YtppcfpiihkaopaaGreatDoorHA

namespace Go.Proofs.YtppcfpiihkaopaaGreatDoor

open Go.RowKit

set_option linter.unusedVariables false

/-- What is of another kind is as it was. -/
def Kin (w w' : World) (hb : Nat) : Prop := w.heap.size ≤ w'.heap.size ∧ ∀ (j : Nat) (cs : Array Value) (t : TypeId), w.heap[j]? = some (.cells cs t (0, 0)) → t ≠ 3 → t ≠ 2 → j ≠ hb → w'.heap[j]? = w.heap[j]?
theorem Kin.trans {a b c : World} {hb : Nat} (h : Kin a b hb) (k : Kin b c hb) : Kin a c hb :=
  ⟨Nat.le_trans h.1 k.1, fun j cs t hj h1 h2 h3 => (k.2 j cs t ((h.2 j cs t hj h1 h2 h3).trans hj) h1 h2 h3).trans (h.2 j cs t hj h1 h2 h3)⟩
theorem Kin.of {a b : World} {hb : Nat} (k : Below a.heap.size a b) : Kin a b hb := ⟨k.size, fun j _ _ hj _ _ _ => k.block j (Array.getElem?_eq_some_iff.1 hj).1⟩
/-- Both lists of an array in the hand, marks behind them. -/
structure Laid (w w' : World) (B hb : Nat) (sn : Nat) (S : List Int) (g c : Nat) (n : Nat) (A : List Int) (g2 c2 : Nat) : Prop where
  room : sn + 2 ≤ c
  room2 : n + 2 ≤ c2
  base : B ≤ g ∧ B ≤ g2 ∧ B ≤ hb
  ne : g ≠ hb ∧ g2 ≠ hb
  row : PRow w' g c c (marked S sn)
  row2 : PRowA w' g2 c2 c2 (markedA A n)
  cell : w'.cell? ⟨hb, 0, none⟩ = some (.slice (some ⟨g, 0, none⟩) c c) ∧ w'.frozen? ⟨hb, 0, none⟩ = false
  cell2 : w'.cell? ⟨hb, 1, none⟩ = some (.slice (some ⟨g2, 0, none⟩) c2 c2) ∧ w'.frozen? ⟨hb, 1, none⟩ = false
  bel : Below B w w'
  kin : Kin w w' hb
theorem PRow.no {w : World} {g c m j : Nat} {f : Nat → Int} {cs : Array Value} {t : TypeId} (h : PRow w g c m f) (hj : w.heap[j]? = some (.cells cs t (0, 0))) (ht : t ≠ 3) : j ≠ g := by
  rintro rfl
  obtain ⟨cur, h1, _⟩ := h.blk
  rw [hj] at h1
  injection h1 with h1
  injection h1 with _ h2
  exact ht h2
theorem PRowA.no {w : World} {g c m j : Nat} {f : Nat → Int} {cs : Array Value} {t : TypeId} (h : PRowA w g c m f) (hj : w.heap[j]? = some (.cells cs t (0, 0))) (ht : t ≠ 2) : j ≠ g := by
  rintro rfl
  obtain ⟨cur, h1, _⟩ := h.blk
  rw [hj] at h1
  injection h1 with h1
  injection h1 with _ h2
  exact ht h2
theorem Hd.no {w : World} {B j gn : Nat} {p : Addr} {go : Option Addr} {cs : Array Value} {t : TypeId} (h : Hd w B p go gn) (hj : w.heap[j]? = some (.cells cs t (0, 0))) (ht : t ≠ 3) : some j ≠ (Value.slice go 0 0).ownBlock := by
  rcases h.row with ⟨e, _⟩ | ⟨g, e, _, _, hp⟩
  · subst e; simp [Value.ownBlock]
  · subst e
    intro h
    exact hp.no hj ht (Option.some.inj h)
theorem HdA.no {w : World} {B j tn : Nat} {p : Addr} {go : Option Addr} {cs : Array Value} {t : TypeId} (h : HdA w B p go tn) (hj : w.heap[j]? = some (.cells cs t (0, 0))) (ht : t ≠ 2) : some j ≠ (Value.slice go 0 tn).ownBlock := by
  rcases h.row with ⟨e, _⟩ | ⟨g, e, _, _, hp⟩
  · subst e; simp [Value.ownBlock]
  · subst e
    intro h
    exact hp.no hj ht (Option.some.inj h)
theorem Rd.low {w W : World} {B : Nat} {so : Option Addr} {sn : Nat} {S : List Int} (h : Rd w so sn S) (lb : 0 < sn → ∀ b off, so = some ⟨b, off, none⟩ → b < B) (k : Below B w W) : Rd W so sn S := by
  rcases Nat.eq_zero_or_pos sn with e | e
  · subst e
    have : S = [] := List.eq_nil_of_length_eq_zero h.len
    subst this
    exact Rd.empty _ _
  · refine ⟨h.len, h.room, h.num, fun h0 => ?_⟩
    obtain ⟨b, off, eo, hl, hc⟩ := h.cells h0
    have hb := lb e b off eo
    exact ⟨b, off, eo, Nat.lt_of_lt_of_le hl k.size, fun j hj => (k.cell (p := ⟨b, _, none⟩) hb).trans (hc j hj)⟩
theorem row_ne {W : World} {g g2 c c2 m m2 : Nat} {f f2 : Nat → Int} (h : PRow W g c m f) (h2 : PRowA W g2 c2 m2 f2) : g ≠ g2 := by
  intro e
  subst e
  obtain ⟨cur, h1, _⟩ := h.blk
  obtain ⟨cur2, h3, _⟩ := h2.blk
  rw [h1] at h3
  injection h3 with h3
  injection h3 with _ h3
  exact absurd h3 (by decide)
set_option maxHeartbeats 16000000 in
set_option maxRecDepth 20000 in
theorem array_small (hb B : Nat) (go : Option Addr) (gn : Nat) (to' : Option Addr) (tn : Nat) (so lo : Option Addr) (sn sc n cap : Nat) (S A : List Int) (w : World) (hi : Hd w B ⟨hb, 0, none⟩ go gn) (ha : HdA w B ⟨hb, 1, none⟩ to' tn)
    (hS : Rd w so sn S) (sS : Sl so sn sc) (h : Rd w lo n A) (hs : Sl lo n cap) (lbS : 0 < sn → ∀ b off, so = some ⟨b, off, none⟩ → b < B) (lbA : 0 < n → ∀ b off, lo = some ⟨b, off, none⟩ → b < B) (hsm : sn ≤ 100000000) (hnm : n ≤ 100000000) (hB : B ≤ w.heap.size) (hgn : tn ≤ n + 70000) :
    Calls Tryz.prog 13 #[.pointer (some ⟨hb, 0, none⟩), .agg #[.slice so sn sc, .slice lo n cap]] w fun e w' => ∃ g c g2 c2, e = .returned (.agg #[.slice (some ⟨g, 0, none⟩) sn c, .slice (some ⟨g2, 0, none⟩) n c2]) ∧ Laid w w' B hb sn S g c n A g2 c2 := by
  have k0 := box_below w (.cells #[.slice so sn sc, .slice lo n cap] 36)
  have z0 := allocNew w (.cells #[.slice so sn sc, .slice lo n cap] 36)
  have hroom := h.room
  have hbB : B ≤ hb := hi.base
  have hbw : hb < w.heap.size := World.block_lt_of_cell? w _ hi.cell
  have hc : (w.alloc (.cells #[.slice so sn sc, .slice lo n cap] 36)).cell? ⟨hb, 1, none⟩ = some (.slice to' tn tn) := (k0.cell (p := ⟨hb, 1, none⟩) hbw).trans ha.cell
  have hz : (w.alloc (.cells #[.slice so sn sc, .slice lo n cap] 36)).frozen? ⟨hb, 1, none⟩ = false := (World.frozen?_of_block (a := ⟨hb, 1, none⟩) (k0.block hb hbw)).trans ha.frozen
  have hF := ha.ft.below k0 (Nat.le_refl _)
  have h0 := h.below k0 (Nat.le_refl _)
  obtain ⟨y0, y1, y2, y3⟩ := box2 z0
  have hle : tn ≤ 9223372036854775807 := by
    rcases ha.row with h | ⟨g, e, _, _, p⟩
    · omega
    · exact p.le
  have HL : Hid (A.length = n) := h.len
  have k1 := box_below (w.alloc (.cells #[.slice so sn sc, .slice lo n cap] 36)) (.cells #[.slice none 0 0, .slice none 0 0] 36)
  have z1 := allocNew (w.alloc (.cells #[.slice so sn sc, .slice lo n cap] 36)) (.cells #[.slice none 0 0, .slice none 0 0] 36)
  have hs1 : (w.alloc (.cells #[.slice so sn sc, .slice lo n cap] 36)).heap.size = w.heap.size + 1 := World.size_alloc _ _
  have hs2 : ((w.alloc (.cells #[.slice so sn sc, .slice lo n cap] 36)).alloc (.cells #[.slice none 0 0, .slice none 0 0] 36)).heap.size = w.heap.size + 2 := by simp
  rw [hs1] at z1
  have ZA := (k1.block w.heap.size (by rw [hs1]; omega)).trans z0
  have KW := k0.trans (k1.mono k0.size)
  have hc1 := (k1.cell (p := ⟨hb, 1, none⟩) (by rw [hs1]; show hb < _; omega)).trans hc
  have hz1 := (World.frozen?_of_block (a := ⟨hb, 1, none⟩) (k1.block hb (by rw [hs1]; omega))).trans hz
  have hF1 := hF.below k1 (Nat.le_refl _)
  have h1 := h0.below k1 (Nat.le_refl _)
  have hB1 : B ≤ ((w.alloc (.cells #[.slice so sn sc, .slice lo n cap] 36)).alloc (.cells #[.slice none 0 0, .slice none 0 0] 36)).heap.size := by rw [hs2]; omega
  have hsl : (to' = none ∧ tn = 0) ∨ ∃ g, to' = some ⟨g, 0, none⟩ ∧ g ≠ hb ∧ g < w.heap.size := by
    rcases ha.row with h | ⟨g, e, _, hn, p⟩
    · exact .inl h
    · exact .inr ⟨g, e, hn, p.lt⟩
  have c0W := (World.cell?_of_block (a := ⟨hb, 0, none⟩) (KW.block hb hbw)).trans hi.cell
  have f0W := (World.frozen?_of_block (a := ⟨hb, 0, none⟩) (KW.block hb hbw)).trans hi.frozen
  have HKW : Hid (∀ j, j < w.heap.size → j ≠ hb → ((w.alloc (.cells #[.slice so sn sc, .slice lo n cap] 36)).alloc (.cells #[.slice none 0 0, .slice none 0 0] 36)).heap[j]? = w.heap[j]?) := fun j hj _ => KW.block j hj
  have tg : decide ((n : Int) + 70000 < (tn : Int)) = false := by simp; omega
  have hneB : some hb ≠ (Value.slice to' 0 tn).ownBlock := by
    rcases hsl with ⟨rfl, rfl⟩ | ⟨t0, rfl, hne0, hlt0⟩
    · simp [Value.ownBlock]
    · simp [Value.ownBlock]; exact fun e => hne0 e.symm
  have hneP : some w.heap.size ≠ (Value.slice to' 0 tn).ownBlock := by
    rcases hsl with ⟨rfl, rfl⟩ | ⟨t0, rfl, hne0, hlt0⟩
    · simp [Value.ownBlock]
    · simp [Value.ownBlock]; omega
  have hneR : some (w.heap.size + 1) ≠ (Value.slice to' 0 tn).ownBlock := by
    rcases hsl with ⟨rfl, rfl⟩ | ⟨t0, rfl, hne0, hlt0⟩
    · simp [Value.ownBlock]
    · simp [Value.ownBlock]; omega
  have HNE : Hid (some hb ≠ (Value.slice to' 0 tn).ownBlock ∧ some w.heap.size ≠ (Value.slice to' 0 tn).ownBlock ∧ some (w.heap.size + 1) ≠ (Value.slice to' 0 tn).ownBlock) := ⟨hneB, hneP, hneR⟩
  clear hsl hneB hneP hneR
  go_enter Tryz.func13, Tryz.ntmps13
  go_upto_region 4 with fail
  generalize (w.alloc (.cells #[.slice so sn sc, .slice lo n cap] 36)).alloc (.cells #[.slice none 0 0, .slice none 0 0] 36) = W1 at *
  obtain ⟨a0, a1, a2, a3⟩ := box2 ZA
  obtain ⟨r0, r1, r2, r3⟩ := box2 z1
  have Dr : Below W1.heap.size W1 W1.drew := (Below.refl _ W1).drew
  have hFd := hF1.below Dr (Nat.le_refl _)
  have h1d := h1.below Dr (Nat.le_refl _)
  have KB : Below B w W1 := KW.mono (by omega)
  have KD : Below B w W1.drew := KB.trans (Dr.mono hB1)
  clear hs1 k1 k0 z0 y0 y1 y2 y3 hF h0
  go_region_held3 (fun V => V.cell? ⟨hb, 1, none⟩ = some (.slice to' tn tn) ∧ V.cell? ⟨w.heap.size, 1, none⟩ = some (.slice lo n cap) ∧ Below B w V) (first | assumption | exact ⟨hc1, a1, KB⟩ | exact ⟨hc1, a1, KD⟩)
    (first
      | (refine step_joinW tyL rfl _ _ rfl B n _ _ _ _ _ _ _ _ (Nat.zero_add n) rfl rfl hFd h1d hs (by omega) hB1 ?_; intro co3 c3 w3 hf3 hg3 hat3; rw [List.nil_append] at hf3; have hw3 := join_whereA hFd hf3 hat3; have S3 : w3.cell? ⟨hb, 1, none⟩ = some (.slice to' tn tn) ∧ w3.cell? ⟨w.heap.size, 1, none⟩ = some (.slice lo n cap) ∧ Below B w w3 := ⟨hg3.cell hc1 HNE.out.1, hg3.cell a1 HNE.out.2.1, KD.trans (hFd.growsBelow hg3 hB1)⟩))
  have hsD : W1.drew.heap.size = w.heap.size + 2 := hs2
  have ka := box_below w3 (.cells #[.int .i64 0, .int .i64 0] 2)
  have hf4 := hf3.below ka (Nat.le_refl _)
  have FV : Ft 2 (w3.alloc (.cells #[.int .i64 0, .int .i64 0] 2)) w3.heap.size (some ⟨w3.heap.size, 0, none⟩) 2 2 [0, 0] := ft_new 2 w3 [0, 0] (by simp) (fun q hq => by
    match q, hq with
    | 0, _ => exact ⟨by decide, by decide⟩
    | 1, _ => exact ⟨by decide, by decide⟩
    | q + 2, hq => exact absurd hq (by simp))
  have hsz3 := hg3.size
  have hB4 : B ≤ (w3.alloc (.cells #[.int .i64 0, .int .i64 0] 2)).heap.size := by have := ka.size; omega
  obtain ⟨S3a, S3b, S3c⟩ := S3
  go_upto_region 6 with (at_builtin; refine wpList_joinGA rfl _ _ rfl B _ _ _ _ _ _ _ _ rfl rfl hf4 FV.rd FV.sl (by omega) hB4 ?_; intro co5 c5 w5 hf5 hg5 hw5)
  obtain ⟨g5, e5, hB5, hl5⟩ : ∃ g5, co5 = some ⟨g5, 0, none⟩ ∧ B ≤ g5 ∧ g5 < w5.heap.size := by
    rcases hf5.own.2 with ⟨_, h0⟩ | ⟨g, c1, cur, e, hb1, hg1, _⟩
    · omega
    · injection e with e1; exact ⟨g, e1, hb1, (Array.getElem?_eq_some_iff.1 hg1).1⟩
  subst e5
  obtain ⟨hk5, hfr5⟩ := ints_keep hg3 hw3 hg5 hw5
  have hn5 : n + 2 ≤ c5 := hf5.sl.le
  have hm5 : c5 ≤ 9223372036854775807 := hf5.sl.max
  have hpr : PRowA w5 g5 c5 n (markedA A n) := by
    rcases hf5.own.2 with ⟨e, _⟩ | ⟨g', c', cur, e, _, hg, _, _, hcs, ht⟩
    · cases e
    · cases e
      refine ⟨⟨cur, hg, by omega, fun k hk => ?_⟩, hm5⟩
      have h2 : (cur.toList.take ((n + 2) * 1))[k]? = some (.int .i64 (nth A k)) := by
        rw [ht, List.map_append, List.getElem?_append_left (by rw [List.length_map, HL.out]; exact hk)]
        exact nth_map (by rw [HL.out]; exact hk)
      rw [List.getElem?_take_of_lt (by omega)] at h2
      unfold markedA; rw [if_pos hk]
      simpa using h2
  have hg5b : g5 ≠ hb ∧ g5 ≠ w.heap.size ∧ g5 ≠ w.heap.size + 1 := by
    rcases hfr5 with e | e
    · have h1 := HNE.out
      subst e
      simp only [Value.ownBlock, ne_eq, Option.some.injEq] at h1
      exact ⟨fun e => h1.1 e.symm, fun e => h1.2.1 e.symm, fun e => h1.2.2 e.symm⟩
    · rw [hsD] at e; omega
  have HI : Hid (∀ g, go = some ⟨g, 0, none⟩ → some g ≠ (Value.slice to' 0 tn).ownBlock ∧ g ≠ g5 ∧ g < w.heap.size ∧ g ≠ hb ∧ B ≤ g) := fun g e => by
    rcases hi.row with ⟨e1, _⟩ | ⟨g', e1, hBg, hng, hp⟩
    · rw [e1] at e; cases e
    · rw [e1] at e
      injection e with e
      injection e with e
      subst e
      have hne : some g' ≠ (Value.slice to' 0 tn).ownBlock := by
        rcases ha.row with ⟨e2, _⟩ | ⟨t0, e2, _, _, hq⟩
        · subst e2; simp [Value.ownBlock]
        · subst e2
          intro h
          exact row_ne hp hq (Option.some.inj h)
      refine ⟨hne, ?_, hp.lt, hng, hBg⟩
      rcases hfr5 with e2 | e2
      · subst e2
        exact fun h => hne (by rw [h]; rfl)
      · have := hp.lt; rw [hsD] at e2; omega
  have KB5 : Below B w w5 := KD.trans (hk5.below (by rw [hsD]; omega) (fun j hj e => by
    rcases ha.row with ⟨e2, _⟩ | ⟨t0, e2, hBt, _, hq⟩
    · subst e2; cases e
    · subst e2; have := Option.some.inj e; have h3 : t0 = j := this.symm; omega))
  have HJ : Hid (∀ j, j < w.heap.size → some j ≠ (Value.slice to' 0 tn).ownBlock → j ≠ g5) := fun j hj hne => by
    rcases hfr5 with e2 | e2
    · subst e2
      exact fun h => hne (by rw [h]; rfl)
    · rw [hsD] at e2; omega
  have HK5 : Hid (Keep W1.drew w5 (fun b => some b = (Value.slice to' 0 tn).ownBlock)) := hk5
  have HG5 : Hid (g5 ≠ hb ∧ g5 ≠ w.heap.size ∧ g5 ≠ w.heap.size + 1) := hg5b
  clear hg5b hf5 hf4 hf3 hg3 hg5 hw3 hw5 FV S3a S3b hFd h1d
  have hmark := fun i w h => markA_any i w h
  have hcp : w5.heap[hb]? = W1.drew.heap[hb]? := hk5.block hb (by rw [hsD]; omega) HNE.out.1
  have hcA : w5.heap[w.heap.size]? = W1.drew.heap[w.heap.size]? := hk5.block _ (by rw [hsD]; omega) HNE.out.2.1
  have hcR : w5.heap[w.heap.size + 1]? = W1.drew.heap[w.heap.size + 1]? := hk5.block _ (by rw [hsD]; omega) HNE.out.2.2
  have HD5 : Hid (W1.drew.heap.size ≤ w5.heap.size) := hk5.size
  go_wp2
  go_loopw [7] (fun i wr => ∃ k : Nat, n ≤ k ∧ k ≤ c5 ∧ i = .int .i64 (k : Nat) ∧ PRowA wr g5 c5 k (markedA A n) ∧ w5.grownBy wr (some g5)) (fun i _ => c5 - (intOf i).toNat)
  case atStart => exact ⟨n, Nat.le_refl _, by omega, rfl, hpr, ⟨rfl, rfl, rfl, Nat.le_refl _, fun _ _ _ => rfl⟩⟩
  case round =>
    obtain ⟨k, hk1, hk2, rfl, hpk, hgk⟩ := hrel
    by_cases hlt : k < c5
    · obtain ⟨v0, cv⟩ := hpk.is hlt
      have zv := hpk.frozen k
      obtain ⟨s1, s2⟩ := hpk.set hlt (mkA k) (by unfold markedA; rw [if_neg (by omega)])
      go_wp2_with (go_at_call 27; refine (hmark k _ (by omega)).mono ?_; rintro e w' ⟨rfl, hw⟩; rw [hw]; clear hw w')
      go_roundw
      case rel => exact ⟨k + 1, by omega, by omega, by go_num, s1, grown_transH hgk s2⟩
      case measure => simp [intOf]; omega
    · obtain rfl : c5 = k := by omega
      have hcr : wr.heap[hb]? = W1.drew.heap[hb]? := (hgk.block hb (by have := HD5.out; omega) (some_ne (Ne.symm HG5.out.1))).trans hcp
      have hcrA : wr.heap[w.heap.size]? = W1.drew.heap[w.heap.size]? := (hgk.block _ (by have := HD5.out; omega) (some_ne (Ne.symm HG5.out.2.1))).trans hcA
      have hcrR : wr.heap[w.heap.size + 1]? = W1.drew.heap[w.heap.size + 1]? := (hgk.block _ (by have := HD5.out; omega) (some_ne (Ne.symm HG5.out.2.2))).trans hcR
      have cp : wr.cell? ⟨hb, 1, none⟩ = some (.slice to' tn tn) := (World.cell?_of_block (a := ⟨hb, 1, none⟩) hcr).trans hc1
      have zp : wr.frozen? ⟨hb, 1, none⟩ = false := (World.frozen?_of_block (a := ⟨hb, 1, none⟩) hcr).trans hz1
      have ZAr := hcrA.trans ZA
      have ZRr := hcrR.trans z1
      clear hpr hcp hcA hcR hk5 ka hB4 hsz3
      have G6 := grown_set wr hb 1 (.slice (some ⟨g5, 0, none⟩) c5 c5)
      have KBr : Below B w wr := KB5.grown hgk (by have := KB5.size; omega) (fun k e => by have := Option.some.inj e; omega)
      have KB6 : Below B w (wr.setCell ⟨hb, 1, none⟩ (.slice (some ⟨g5, 0, none⟩) c5 c5)) := KBr.setCell (p := ⟨hb, 1, none⟩) hbB _
      have hw5r : w5.heap.size ≤ wr.heap.size := hgk.size
      have hs6 : wr.heap.size ≤ (wr.setCell ⟨hb, 1, none⟩ (.slice (some ⟨g5, 0, none⟩) c5 c5)).heap.size := G6.size
      have hsz : w.heap.size + 2 ≤ (wr.setCell ⟨hb, 1, none⟩ (.slice (some ⟨g5, 0, none⟩) c5 c5)).heap.size := by have := HD5.out; omega
      have c6 : (wr.setCell ⟨hb, 1, none⟩ (.slice (some ⟨g5, 0, none⟩) c5 c5)).cell? ⟨hb, 0, none⟩ = some (.slice go gn gn) := (set_other _ hb 1 0 _ (by decide)).trans ((World.cell?_of_block (a := ⟨hb, 0, none⟩) hcr).trans c0W)
      have z6 : (wr.setCell ⟨hb, 1, none⟩ (.slice (some ⟨g5, 0, none⟩) c5 c5)).frozen? ⟨hb, 0, none⟩ = false := by rw [World.frozen?_setCell]; exact (World.frozen?_of_block (a := ⟨hb, 0, none⟩) hcr).trans f0W
      have e6 : (wr.setCell ⟨hb, 1, none⟩ (.slice (some ⟨g5, 0, none⟩) c5 c5)).cell? ⟨hb, 1, none⟩ = some (.slice (some ⟨g5, 0, none⟩) c5 c5) := World.cell?_setCell_same' _ _ _ (by rw [cp]; rfl)
      have f6 : (wr.setCell ⟨hb, 1, none⟩ (.slice (some ⟨g5, 0, none⟩) c5 c5)).frozen? ⟨hb, 1, none⟩ = false := by rw [World.frozen?_setCell]; exact zp
      have r6 : PRowA (wr.setCell ⟨hb, 1, none⟩ (.slice (some ⟨g5, 0, none⟩) c5 c5)) g5 c5 c5 (markedA A n) := hpk.kept G6 (some_ne HG5.out.1)
      have ZA6 := (G6.block w.heap.size (by have := HD5.out; omega) (some_ne (by omega))).trans ZAr
      have ZR6 := (G6.block (w.heap.size + 1) (by have := HD5.out; omega) (some_ne (by omega))).trans ZRr
      have hrow6 : (go = none ∧ gn = 0) ∨ ∃ g, go = some ⟨g, 0, none⟩ ∧ B ≤ g ∧ g ≠ hb ∧ PRow (wr.setCell ⟨hb, 1, none⟩ (.slice (some ⟨g5, 0, none⟩) c5 c5)) g gn 0 (fun _ => 0) := by
        rcases hi.row with h | ⟨g, e, h1, h2, hp⟩
        · exact .inl h
        · obtain ⟨q1, q2, q3, q4, q5⟩ := HI.out g e
          refine .inr ⟨g, e, h1, h2, ?_⟩
          have p1 : PRow W1.drew g gn 0 (fun _ => 0) := by
            obtain ⟨cur, x1, x2, x3⟩ := hp.blk
            exact ⟨⟨cur, (HKW.out g q3 q4).trans x1, x2, x3⟩, hp.le⟩
          have p2 : PRow w5 g gn 0 (fun _ => 0) := by
            obtain ⟨cur, x1, x2, x3⟩ := p1.blk
            exact ⟨⟨cur, (HK5.out.block g p1.lt q1).trans x1, x2, x3⟩, p1.le⟩
          exact (p2.kept hgk (some_ne q2)).kept G6 (some_ne q4)
      have hd6 : Hd (wr.setCell ⟨hb, 1, none⟩ (.slice (some ⟨g5, 0, none⟩) c5 c5)) B ⟨hb, 0, none⟩ go gn := ⟨c6, z6, hbB, hrow6⟩
      have HHD : Hid (Hd (wr.setCell ⟨hb, 1, none⟩ (.slice (some ⟨g5, 0, none⟩) c5 c5)).drew B ⟨hb, 0, none⟩ go gn) := by
        refine ⟨c6, z6, hbB, ?_⟩
        rcases hrow6 with h | ⟨g, e, h1, h2, hp⟩
        · exact .inl h
        · obtain ⟨cur, x1, x2, x3⟩ := hp.blk
          exact .inr ⟨g, e, h1, h2, ⟨⟨cur, x1, x2, x3⟩, hp.le⟩⟩
      have HR6 : Hid (∀ j, j < w.heap.size → j ≠ hb → some j ≠ (Value.slice to' 0 tn).ownBlock → (wr.setCell ⟨hb, 1, none⟩ (.slice (some ⟨g5, 0, none⟩) c5 c5)).heap[j]? = w.heap[j]?) := fun j hj hne hno =>
        ((G6.block j (by have := HD5.out; omega) (some_ne hne)).trans (hgk.block j (by have := HD5.out; omega) (some_ne (HJ.out j hj hno)))).trans ((HK5.out.block j (by rw [hsD]; omega) hno).trans (HKW.out j hj hne))
      go_upto_region 12 with fail
      clear hcr hcrA hcrR ZAr ZRr KBr hpk G6 hgk c6 z6 hrow6 hd6 cp zp hle
      generalize wr.setCell ⟨hb, 1, none⟩ (.slice (some ⟨g5, 0, none⟩) c5 c5) = W6 at *
      have D6 : Below W6.heap.size W6 W6.drew := (Below.refl _ W6).drew
      have KD6 : Below B w W6.drew := KB6.trans (D6.mono (by omega))
      obtain ⟨x0, x1, x2, x3⟩ := box2 ZA6
      have hB6 : B ≤ W6.drew.heap.size := by show B ≤ W6.heap.size; omega
      have cI := ints_any hb 0 B go gn so sn sc S W6.drew HHD.out (hS.low lbS KD6) sS (fun h0 b off e => by have := lbS h0 b off e; omega) hsm hB6
      go_region_held3 (fun V => V.cell? ⟨w.heap.size, 0, none⟩ = some (.slice so sn sc) ∧ Below B w V) (first | assumption | exact ⟨x0, KB6⟩ | exact ⟨x0, KD6⟩)
        (first
          | (go_at_call 28; (with_reducible refine cI.mono ?_); rintro e w7 ⟨g7, c7, rfl, H7⟩
             have hI7 := HI.out
             have hgo : ∀ j, (j = hb ∨ some j = (Value.slice go 0 0).ownBlock) → B ≤ j ∧ j < w.heap.size := (fun j e => (by
               rcases e with e | e
               · subst e; exact ⟨hbB, hbw⟩
               · cases hgo : go with
                 | none => rw [hgo] at e; cases e
                 | some a =>
                   rcases hi.row with ⟨e1, _⟩ | ⟨g, e1, _, _, hp⟩
                   · rw [hgo] at e1; cases e1
                   · rw [e1] at e
                     have e2 : j = g := Option.some.inj e
                     obtain ⟨_, _, q3, _, q5⟩ := hI7 g e1
                     rw [e2]; exact ⟨q5, q3⟩))
             have ZA7 := (H7.keep.block w.heap.size (by show w.heap.size < W6.heap.size; omega) (fun e => by have := (hgo _ e).2; omega)).trans ZA6
             have ZR7 := (H7.keep.block (w.heap.size + 1) (by show w.heap.size + 1 < W6.heap.size; omega) (fun e => by have := (hgo _ e).2; omega)).trans ZR6
             have K7 : Below B w w7 := KD6.trans (H7.keep.below hB6 (fun j hj e => by have := (hgo j e).1; omega))
             obtain ⟨y0, y1, y2, y3⟩ := box2 ZR7
             obtain ⟨v0, v1, v2, v3⟩ := box2 ZA7
             have S7 : w7.cell? ⟨w.heap.size, 0, none⟩ = some (.slice so sn sc) ∧ Below B w w7 := ⟨v0, K7⟩
             have G8 := set2 w7 (w.heap.size + 1) 0 1 (.slice (some ⟨g7, 0, none⟩) sn c7) (.slice (some ⟨g5, 0, none⟩) n c5)
             have S8 : ((w7.setCell ⟨w.heap.size + 1, 0, none⟩ (.slice (some ⟨g7, 0, none⟩) sn c7)).setCell ⟨w.heap.size + 1, 1, none⟩ (.slice (some ⟨g5, 0, none⟩) n c5)).cell? ⟨w.heap.size, 0, none⟩ = some (.slice so sn sc) ∧ Below B w ((w7.setCell ⟨w.heap.size + 1, 0, none⟩ (.slice (some ⟨g7, 0, none⟩) sn c7)).setCell ⟨w.heap.size + 1, 1, none⟩ (.slice (some ⟨g5, 0, none⟩) n c5)) := ⟨G8.cell v0 (some_ne (by show w.heap.size ≠ w.heap.size + 1; omega)), K7.grown G8 (by have := K7.size; omega) (fun k e => (by have := Option.some.inj e; omega))⟩))
      have hg7 : g7 ≠ w.heap.size + 1 := by
        rcases H7.fresh with e | e
        · have := (HI.out g7 e).2.2.1; omega
        · have e' : W6.heap.size ≤ g7 := e
          omega
      have hg57 : g5 ≠ hb ∧ ¬ some g5 = (Value.slice go 0 0).ownBlock := by
        refine ⟨HG5.out.1, fun e => ?_⟩
        cases hgo2 : go with
        | none => rw [hgo2] at e; cases e
        | some a =>
          rcases hi.row with ⟨e1, _⟩ | ⟨g, e1, _, _, hp⟩
          · rw [hgo2] at e1; cases e1
          · rw [e1] at e
            exact (HI.out g e1).2.1 (Option.some.inj e).symm
      have r7 : PRowA w7 g5 c5 c5 (markedA A n) := by
        obtain ⟨cur, x1, x2, x3⟩ := r6.blk
        exact ⟨⟨cur, (H7.keep.block g5 (Nat.lt_of_lt_of_le (Array.getElem?_eq_some_iff.1 x1).1 (Nat.le_refl _)) (fun e => e.elim hg57.1 hg57.2)).trans x1, x2, x3⟩, r6.le⟩
      have o7 := H7.others 1 (by decide)
      have HE : Hid (g7 ≠ w.heap.size + 1) := hg7
      have HO : Hid (w7.cell? ⟨hb, 1, none⟩ = some (.slice (some ⟨g5, 0, none⟩) c5 c5) ∧ w7.frozen? ⟨hb, 1, none⟩ = false) := ⟨o7.1.trans e6, o7.2.trans f6⟩
      have HY : Hid (((w7.setCell ⟨w.heap.size + 1, 0, none⟩ (.slice (some ⟨g7, 0, none⟩) sn c7)).setCell ⟨w.heap.size + 1, 1, none⟩ (.slice (some ⟨g5, 0, none⟩) n c5)).heap[w.heap.size + 1]? = some (.cells #[.slice (some ⟨g7, 0, none⟩) sn c7, .slice (some ⟨g5, 0, none⟩) n c5] 36 (0, 0))) := by
        show _ = _
        rw [heap_setCell_same _ (w.heap.size + 1) 1 _ _ _ (heap_setCell_same w7 (w.heap.size + 1) 0 _ _ _ ZR7)]
        rfl
      generalize hW8 : (w7.setCell ⟨w.heap.size + 1, 0, none⟩ (.slice (some ⟨g7, 0, none⟩) sn c7)).setCell ⟨w.heap.size + 1, 1, none⟩ (.slice (some ⟨g5, 0, none⟩) n c5) = W8 at *
      obtain ⟨t0, t1, t2, t3⟩ := box2 HY.out
      go_wp2
      refine bodyPost_ret (v := .agg #[.slice (some ⟨g7, 0, none⟩) sn c7, .slice (some ⟨g5, 0, none⟩) n c5]) (by simp [results, Tryz.results13]; go_simp) rfl ?_
      refine ⟨g7, c7, g5, c5, rfl, ⟨H7.room, hn5, ⟨H7.base, hB5, hbB⟩, ⟨H7.ne, HG5.out.1⟩, H7.row.kept G8 (some_ne HE.out), r7.kept G8 (some_ne HG5.out.2.2), ⟨G8.cell H7.cell (some_ne (by show hb ≠ w.heap.size + 1; omega)), ?_⟩, ⟨G8.cell HO.out.1 (some_ne (by show hb ≠ w.heap.size + 1; omega)), ?_⟩, S8.2, ?_, ?_⟩⟩
      · exact (World.frozen?_of_block (a := ⟨hb, 0, none⟩) (G8.block hb (by have := K7.size; omega) (some_ne (by omega)))).trans H7.frozen
      · exact (World.frozen?_of_block (a := ⟨hb, 1, none⟩) (G8.block hb (by have := K7.size; omega) (some_ne (by omega)))).trans HO.out.2
      · have := K7.size
        have := G8.size
        omega
      · intro j cs t hj t1 t2 hne
        have hjl := (Array.getElem?_eq_some_iff.1 hj).1
        exact ((G8.block j (by have := K7.size; omega) (some_ne (by omega))).trans (H7.keep.block j (by show j < W6.heap.size; omega) (fun e => e.elim hne (hi.no hj t1)))).trans (HR6.out j hjl hne (ha.no hj t2))
set_option maxHeartbeats 16000000 in
set_option maxRecDepth 20000 in
theorem array_big (hb B : Nat) (go : Option Addr) (gn : Nat) (to' : Option Addr) (tn : Nat) (so lo : Option Addr) (sn sc n cap : Nat) (S A : List Int) (w : World) (hi : Hd w B ⟨hb, 0, none⟩ go gn) (ha : HdA w B ⟨hb, 1, none⟩ to' tn)
    (hS : Rd w so sn S) (sS : Sl so sn sc) (h : Rd w lo n A) (hs : Sl lo n cap) (lbS : 0 < sn → ∀ b off, so = some ⟨b, off, none⟩ → b < B) (lbA : 0 < n → ∀ b off, lo = some ⟨b, off, none⟩ → b < B) (hsm : sn ≤ 100000000) (hnm : n ≤ 100000000) (hB : B ≤ w.heap.size) (hgn : n + 70000 < tn) :
    Calls Tryz.prog 13 #[.pointer (some ⟨hb, 0, none⟩), .agg #[.slice so sn sc, .slice lo n cap]] w fun e w' => ∃ g c g2 c2, e = .returned (.agg #[.slice (some ⟨g, 0, none⟩) sn c, .slice (some ⟨g2, 0, none⟩) n c2]) ∧ Laid w w' B hb sn S g c n A g2 c2 := by
  have k0 := box_below w (.cells #[.slice so sn sc, .slice lo n cap] 36)
  have z0 := allocNew w (.cells #[.slice so sn sc, .slice lo n cap] 36)
  have hroom := h.room
  have hbB : B ≤ hb := hi.base
  have hbw : hb < w.heap.size := World.block_lt_of_cell? w _ hi.cell
  have hc : (w.alloc (.cells #[.slice so sn sc, .slice lo n cap] 36)).cell? ⟨hb, 1, none⟩ = some (.slice to' tn tn) := (k0.cell (p := ⟨hb, 1, none⟩) hbw).trans ha.cell
  have hz : (w.alloc (.cells #[.slice so sn sc, .slice lo n cap] 36)).frozen? ⟨hb, 1, none⟩ = false := (World.frozen?_of_block (a := ⟨hb, 1, none⟩) (k0.block hb hbw)).trans ha.frozen
  have hF := ha.ft.below k0 (Nat.le_refl _)
  have h0 := h.below k0 (Nat.le_refl _)
  obtain ⟨y0, y1, y2, y3⟩ := box2 z0
  have hle : tn ≤ 9223372036854775807 := by
    rcases ha.row with h | ⟨g, e, _, _, p⟩
    · omega
    · exact p.le
  have HL : Hid (A.length = n) := h.len
  have k1 := box_below (w.alloc (.cells #[.slice so sn sc, .slice lo n cap] 36)) (.cells #[.slice none 0 0, .slice none 0 0] 36)
  have z1 := allocNew (w.alloc (.cells #[.slice so sn sc, .slice lo n cap] 36)) (.cells #[.slice none 0 0, .slice none 0 0] 36)
  have hs1 : (w.alloc (.cells #[.slice so sn sc, .slice lo n cap] 36)).heap.size = w.heap.size + 1 := World.size_alloc _ _
  have hs2 : ((w.alloc (.cells #[.slice so sn sc, .slice lo n cap] 36)).alloc (.cells #[.slice none 0 0, .slice none 0 0] 36)).heap.size = w.heap.size + 2 := by simp
  rw [hs1] at z1
  have ZA := (k1.block w.heap.size (by rw [hs1]; omega)).trans z0
  have KW := k0.trans (k1.mono k0.size)
  have hc1 := (k1.cell (p := ⟨hb, 1, none⟩) (by rw [hs1]; show hb < _; omega)).trans hc
  have hz1 := (World.frozen?_of_block (a := ⟨hb, 1, none⟩) (k1.block hb (by rw [hs1]; omega))).trans hz
  have hF1 := hF.below k1 (Nat.le_refl _)
  have h1 := h0.below k1 (Nat.le_refl _)
  have hB1 : B ≤ ((w.alloc (.cells #[.slice so sn sc, .slice lo n cap] 36)).alloc (.cells #[.slice none 0 0, .slice none 0 0] 36)).heap.size := by rw [hs2]; omega
  have hsl : (to' = none ∧ tn = 0) ∨ ∃ g, to' = some ⟨g, 0, none⟩ ∧ g ≠ hb ∧ g < w.heap.size := by
    rcases ha.row with h | ⟨g, e, _, hn, p⟩
    · exact .inl h
    · exact .inr ⟨g, e, hn, p.lt⟩
  have tg : decide ((n : Int) + 70000 < (tn : Int)) = true := by simp; omega
  have G0 := grown_set ((w.alloc (.cells #[.slice so sn sc, .slice lo n cap] 36)).alloc (.cells #[.slice none 0 0, .slice none 0 0] 36)) hb 1 (.slice none 0 0)
  have ZA := (G0.block w.heap.size (by rw [hs2]; omega) (some_ne (by omega))).trans ZA
  have z1 := (G0.block (w.heap.size + 1) (by rw [hs2]; omega) (some_ne (by omega))).trans z1
  have hcS : (((w.alloc (.cells #[.slice so sn sc, .slice lo n cap] 36)).alloc (.cells #[.slice none 0 0, .slice none 0 0] 36)).setCell ⟨hb, 1, none⟩ (.slice none 0 0)).cell? ⟨hb, 1, none⟩ = some (.slice none 0 0) := World.cell?_setCell_same' _ _ _ (by rw [hc1]; rfl)
  have hzS : (((w.alloc (.cells #[.slice so sn sc, .slice lo n cap] 36)).alloc (.cells #[.slice none 0 0, .slice none 0 0] 36)).setCell ⟨hb, 1, none⟩ (.slice none 0 0)).frozen? ⟨hb, 1, none⟩ = false := by rw [World.frozen?_setCell]; exact hz1
  have h1 := h1.kept0 G0 (fun h0 b off e => some_ne (by have := lbA h0 b off e; omega))
  have hF1 : Ft 2 (((w.alloc (.cells #[.slice so sn sc, .slice lo n cap] 36)).alloc (.cells #[.slice none 0 0, .slice none 0 0] 36)).setCell ⟨hb, 1, none⟩ (.slice none 0 0)) B none 0 0 [] := Ft.nil _ _ _
  have KB : Below B w (((w.alloc (.cells #[.slice so sn sc, .slice lo n cap] 36)).alloc (.cells #[.slice none 0 0, .slice none 0 0] 36)).setCell ⟨hb, 1, none⟩ (.slice none 0 0)) := (KW.mono (by omega)).setCell (p := ⟨hb, 1, none⟩) hbB _
  have c0W : (((w.alloc (.cells #[.slice so sn sc, .slice lo n cap] 36)).alloc (.cells #[.slice none 0 0, .slice none 0 0] 36)).setCell ⟨hb, 1, none⟩ (.slice none 0 0)).cell? ⟨hb, 0, none⟩ = some (.slice go gn gn) := (set_other _ hb 1 0 _ (by decide)).trans ((World.cell?_of_block (a := ⟨hb, 0, none⟩) (KW.block hb hbw)).trans hi.cell)
  have f0W : (((w.alloc (.cells #[.slice so sn sc, .slice lo n cap] 36)).alloc (.cells #[.slice none 0 0, .slice none 0 0] 36)).setCell ⟨hb, 1, none⟩ (.slice none 0 0)).frozen? ⟨hb, 0, none⟩ = false := by rw [World.frozen?_setCell]; exact (World.frozen?_of_block (a := ⟨hb, 0, none⟩) (KW.block hb hbw)).trans hi.frozen
  have HKW : Hid (∀ j, j < w.heap.size → j ≠ hb → (((w.alloc (.cells #[.slice so sn sc, .slice lo n cap] 36)).alloc (.cells #[.slice none 0 0, .slice none 0 0] 36)).setCell ⟨hb, 1, none⟩ (.slice none 0 0)).heap[j]? = w.heap[j]?) := fun j hj hne => (G0.block j (by rw [hs2]; omega) (some_ne hne)).trans (KW.block j hj)
  have hs2' : (((w.alloc (.cells #[.slice so sn sc, .slice lo n cap] 36)).alloc (.cells #[.slice none 0 0, .slice none 0 0] 36)).setCell ⟨hb, 1, none⟩ (.slice none 0 0)).heap.size = w.heap.size + 2 := by simp
  have hB1 : B ≤ (((w.alloc (.cells #[.slice so sn sc, .slice lo n cap] 36)).alloc (.cells #[.slice none 0 0, .slice none 0 0] 36)).setCell ⟨hb, 1, none⟩ (.slice none 0 0)).heap.size := by rw [hs2']; omega
  have HNE : Hid (some hb ≠ (Value.slice none 0 0).ownBlock ∧ some w.heap.size ≠ (Value.slice none 0 0).ownBlock ∧ some (w.heap.size + 1) ≠ (Value.slice none 0 0).ownBlock) := ⟨by simp [Value.ownBlock], by simp [Value.ownBlock], by simp [Value.ownBlock]⟩
  have hcomm : (((w.alloc (.cells #[.slice so sn sc, .slice lo n cap] 36)).alloc (.cells #[.slice none 0 0, .slice none 0 0] 36)).setCell ⟨hb, 1, none⟩ (.slice none 0 0)) = (((w.setCell ⟨hb, 1, none⟩ (.slice none 0 0)).alloc (.cells #[.slice so sn sc, .slice lo n cap] 36)).alloc (.cells #[.slice none 0 0, .slice none 0 0] 36)) := by
    rw [World.setCell_alloc_past _ _ _ _ (by rw [World.size_alloc]; omega), World.setCell_alloc_past _ _ _ _ hbw]
  rw [hcomm] at hcS hzS h1 hF1 KB c0W f0W HKW hs2' hB1 ZA z1
  clear hcomm
  go_enter Tryz.func13, Tryz.ntmps13
  go_upto_region 4 with fail
  clear hc1 hz1 hs2 G0 KW
  have hc1 := hcS
  have hz1 := hzS
  have hs2 := hs2'
  clear hcS hzS hs2'
  generalize (((w.setCell ⟨hb, 1, none⟩ (.slice none 0 0)).alloc (.cells #[.slice so sn sc, .slice lo n cap] 36)).alloc (.cells #[.slice none 0 0, .slice none 0 0] 36)) = W1 at *
  obtain ⟨a0, a1, a2, a3⟩ := box2 ZA
  obtain ⟨r0, r1, r2, r3⟩ := box2 z1
  have Dr : Below W1.heap.size W1 W1.drew := (Below.refl _ W1).drew
  have hFd := hF1.below Dr (Nat.le_refl _)
  have h1d := h1.below Dr (Nat.le_refl _)
  have KD : Below B w W1.drew := KB.trans (Dr.mono hB1)
  clear hs1 k1 k0 z0 y0 y1 y2 y3 hF h0
  go_region_held3 (fun V => V.cell? ⟨hb, 1, none⟩ = some (.slice none 0 0) ∧ V.cell? ⟨w.heap.size, 1, none⟩ = some (.slice lo n cap) ∧ Below B w V) (first | assumption | exact ⟨hc1, a1, KB⟩ | exact ⟨hc1, a1, KD⟩)
    (first
      | (refine step_joinW tyL rfl _ _ rfl B n _ _ _ _ _ _ _ _ (Nat.zero_add n) rfl rfl hFd h1d hs (by omega) hB1 ?_; intro co3 c3 w3 hf3 hg3 hat3; rw [List.nil_append] at hf3; have hw3 := join_whereA hFd hf3 hat3; have S3 : w3.cell? ⟨hb, 1, none⟩ = some (.slice none 0 0) ∧ w3.cell? ⟨w.heap.size, 1, none⟩ = some (.slice lo n cap) ∧ Below B w w3 := ⟨hg3.cell hc1 HNE.out.1, hg3.cell a1 HNE.out.2.1, KD.trans (hFd.growsBelow hg3 hB1)⟩))
  have hsD : W1.drew.heap.size = w.heap.size + 2 := hs2
  have ka := box_below w3 (.cells #[.int .i64 0, .int .i64 0] 2)
  have hf4 := hf3.below ka (Nat.le_refl _)
  have FV : Ft 2 (w3.alloc (.cells #[.int .i64 0, .int .i64 0] 2)) w3.heap.size (some ⟨w3.heap.size, 0, none⟩) 2 2 [0, 0] := ft_new 2 w3 [0, 0] (by simp) (fun q hq => by
    match q, hq with
    | 0, _ => exact ⟨by decide, by decide⟩
    | 1, _ => exact ⟨by decide, by decide⟩
    | q + 2, hq => exact absurd hq (by simp))
  have hsz3 := hg3.size
  have hB4 : B ≤ (w3.alloc (.cells #[.int .i64 0, .int .i64 0] 2)).heap.size := by have := ka.size; omega
  obtain ⟨S3a, S3b, S3c⟩ := S3
  go_upto_region 6 with (at_builtin; refine wpList_joinGA rfl _ _ rfl B _ _ _ _ _ _ _ _ rfl rfl hf4 FV.rd FV.sl (by omega) hB4 ?_; intro co5 c5 w5 hf5 hg5 hw5)
  obtain ⟨g5, e5, hB5, hl5⟩ : ∃ g5, co5 = some ⟨g5, 0, none⟩ ∧ B ≤ g5 ∧ g5 < w5.heap.size := by
    rcases hf5.own.2 with ⟨_, h0⟩ | ⟨g, c1, cur, e, hb1, hg1, _⟩
    · omega
    · injection e with e1; exact ⟨g, e1, hb1, (Array.getElem?_eq_some_iff.1 hg1).1⟩
  subst e5
  obtain ⟨hk5, hfr5⟩ := ints_keep hg3 hw3 hg5 hw5
  have hn5 : n + 2 ≤ c5 := hf5.sl.le
  have hm5 : c5 ≤ 9223372036854775807 := hf5.sl.max
  have hpr : PRowA w5 g5 c5 n (markedA A n) := by
    rcases hf5.own.2 with ⟨e, _⟩ | ⟨g', c', cur, e, _, hg, _, _, hcs, ht⟩
    · cases e
    · cases e
      refine ⟨⟨cur, hg, by omega, fun k hk => ?_⟩, hm5⟩
      have h2 : (cur.toList.take ((n + 2) * 1))[k]? = some (.int .i64 (nth A k)) := by
        rw [ht, List.map_append, List.getElem?_append_left (by rw [List.length_map, HL.out]; exact hk)]
        exact nth_map (by rw [HL.out]; exact hk)
      rw [List.getElem?_take_of_lt (by omega)] at h2
      unfold markedA; rw [if_pos hk]
      simpa using h2
  have hg5b : g5 ≠ hb ∧ g5 ≠ w.heap.size ∧ g5 ≠ w.heap.size + 1 := by
    rcases hfr5 with e | e
    · cases e
    · rw [hsD] at e; omega
  have HI : Hid (∀ g, go = some ⟨g, 0, none⟩ → some g ≠ (Value.slice none 0 0).ownBlock ∧ g ≠ g5 ∧ g < w.heap.size ∧ g ≠ hb ∧ B ≤ g) := fun g e => by
    rcases hi.row with ⟨e1, _⟩ | ⟨g', e1, hBg, hng, hp⟩
    · rw [e1] at e; cases e
    · rw [e1] at e
      injection e with e
      injection e with e
      subst e
      have hne : some g' ≠ (Value.slice none 0 0).ownBlock := by simp [Value.ownBlock]
      refine ⟨hne, ?_, hp.lt, hng, hBg⟩
      rcases hfr5 with e2 | e2
      · cases e2
      · have := hp.lt; rw [hsD] at e2; omega
  have KB5 : Below B w w5 := KD.trans (hk5.below (by rw [hsD]; omega) (fun j hj e => by cases e))
  have HJ : Hid (∀ j, j < w.heap.size → some j ≠ (Value.slice none 0 0).ownBlock → j ≠ g5) := fun j hj hne => by
    rcases hfr5 with e2 | e2
    · cases e2
    · rw [hsD] at e2; omega
  have HK5 : Hid (Keep W1.drew w5 (fun b => some b = (Value.slice none 0 0).ownBlock)) := hk5
  have HG5 : Hid (g5 ≠ hb ∧ g5 ≠ w.heap.size ∧ g5 ≠ w.heap.size + 1) := hg5b
  clear hg5b hf5 hf4 hf3 hg3 hg5 hw3 hw5 FV S3a S3b hFd h1d
  have hmark := fun i w h => markA_any i w h
  have hcp : w5.heap[hb]? = W1.drew.heap[hb]? := hk5.block hb (by rw [hsD]; omega) HNE.out.1
  have hcA : w5.heap[w.heap.size]? = W1.drew.heap[w.heap.size]? := hk5.block _ (by rw [hsD]; omega) HNE.out.2.1
  have hcR : w5.heap[w.heap.size + 1]? = W1.drew.heap[w.heap.size + 1]? := hk5.block _ (by rw [hsD]; omega) HNE.out.2.2
  have HD5 : Hid (W1.drew.heap.size ≤ w5.heap.size) := hk5.size
  go_wp2
  go_loopw [7] (fun i wr => ∃ k : Nat, n ≤ k ∧ k ≤ c5 ∧ i = .int .i64 (k : Nat) ∧ PRowA wr g5 c5 k (markedA A n) ∧ w5.grownBy wr (some g5)) (fun i _ => c5 - (intOf i).toNat)
  case atStart => exact ⟨n, Nat.le_refl _, by omega, rfl, hpr, ⟨rfl, rfl, rfl, Nat.le_refl _, fun _ _ _ => rfl⟩⟩
  case round =>
    obtain ⟨k, hk1, hk2, rfl, hpk, hgk⟩ := hrel
    by_cases hlt : k < c5
    · obtain ⟨v0, cv⟩ := hpk.is hlt
      have zv := hpk.frozen k
      obtain ⟨s1, s2⟩ := hpk.set hlt (mkA k) (by unfold markedA; rw [if_neg (by omega)])
      go_wp2_with (go_at_call 27; refine (hmark k _ (by omega)).mono ?_; rintro e w' ⟨rfl, hw⟩; rw [hw]; clear hw w')
      go_roundw
      case rel => exact ⟨k + 1, by omega, by omega, by go_num, s1, grown_transH hgk s2⟩
      case measure => simp [intOf]; omega
    · obtain rfl : c5 = k := by omega
      have hcr : wr.heap[hb]? = W1.drew.heap[hb]? := (hgk.block hb (by have := HD5.out; omega) (some_ne (Ne.symm HG5.out.1))).trans hcp
      have hcrA : wr.heap[w.heap.size]? = W1.drew.heap[w.heap.size]? := (hgk.block _ (by have := HD5.out; omega) (some_ne (Ne.symm HG5.out.2.1))).trans hcA
      have hcrR : wr.heap[w.heap.size + 1]? = W1.drew.heap[w.heap.size + 1]? := (hgk.block _ (by have := HD5.out; omega) (some_ne (Ne.symm HG5.out.2.2))).trans hcR
      have cp : wr.cell? ⟨hb, 1, none⟩ = some (.slice none 0 0) := (World.cell?_of_block (a := ⟨hb, 1, none⟩) hcr).trans hc1
      have zp : wr.frozen? ⟨hb, 1, none⟩ = false := (World.frozen?_of_block (a := ⟨hb, 1, none⟩) hcr).trans hz1
      have ZAr := hcrA.trans ZA
      have ZRr := hcrR.trans z1
      clear hpr hcp hcA hcR hk5 ka hB4 hsz3
      have G6 := grown_set wr hb 1 (.slice (some ⟨g5, 0, none⟩) c5 c5)
      have KBr : Below B w wr := KB5.grown hgk (by have := KB5.size; omega) (fun k e => by have := Option.some.inj e; omega)
      have KB6 : Below B w (wr.setCell ⟨hb, 1, none⟩ (.slice (some ⟨g5, 0, none⟩) c5 c5)) := KBr.setCell (p := ⟨hb, 1, none⟩) hbB _
      have hw5r : w5.heap.size ≤ wr.heap.size := hgk.size
      have hs6 : wr.heap.size ≤ (wr.setCell ⟨hb, 1, none⟩ (.slice (some ⟨g5, 0, none⟩) c5 c5)).heap.size := G6.size
      have hsz : w.heap.size + 2 ≤ (wr.setCell ⟨hb, 1, none⟩ (.slice (some ⟨g5, 0, none⟩) c5 c5)).heap.size := by have := HD5.out; omega
      have c6 : (wr.setCell ⟨hb, 1, none⟩ (.slice (some ⟨g5, 0, none⟩) c5 c5)).cell? ⟨hb, 0, none⟩ = some (.slice go gn gn) := (set_other _ hb 1 0 _ (by decide)).trans ((World.cell?_of_block (a := ⟨hb, 0, none⟩) hcr).trans c0W)
      have z6 : (wr.setCell ⟨hb, 1, none⟩ (.slice (some ⟨g5, 0, none⟩) c5 c5)).frozen? ⟨hb, 0, none⟩ = false := by rw [World.frozen?_setCell]; exact (World.frozen?_of_block (a := ⟨hb, 0, none⟩) hcr).trans f0W
      have e6 : (wr.setCell ⟨hb, 1, none⟩ (.slice (some ⟨g5, 0, none⟩) c5 c5)).cell? ⟨hb, 1, none⟩ = some (.slice (some ⟨g5, 0, none⟩) c5 c5) := World.cell?_setCell_same' _ _ _ (by rw [cp]; rfl)
      have f6 : (wr.setCell ⟨hb, 1, none⟩ (.slice (some ⟨g5, 0, none⟩) c5 c5)).frozen? ⟨hb, 1, none⟩ = false := by rw [World.frozen?_setCell]; exact zp
      have r6 : PRowA (wr.setCell ⟨hb, 1, none⟩ (.slice (some ⟨g5, 0, none⟩) c5 c5)) g5 c5 c5 (markedA A n) := hpk.kept G6 (some_ne HG5.out.1)
      have ZA6 := (G6.block w.heap.size (by have := HD5.out; omega) (some_ne (by omega))).trans ZAr
      have ZR6 := (G6.block (w.heap.size + 1) (by have := HD5.out; omega) (some_ne (by omega))).trans ZRr
      have hrow6 : (go = none ∧ gn = 0) ∨ ∃ g, go = some ⟨g, 0, none⟩ ∧ B ≤ g ∧ g ≠ hb ∧ PRow (wr.setCell ⟨hb, 1, none⟩ (.slice (some ⟨g5, 0, none⟩) c5 c5)) g gn 0 (fun _ => 0) := by
        rcases hi.row with h | ⟨g, e, h1, h2, hp⟩
        · exact .inl h
        · obtain ⟨q1, q2, q3, q4, q5⟩ := HI.out g e
          refine .inr ⟨g, e, h1, h2, ?_⟩
          have p1 : PRow W1.drew g gn 0 (fun _ => 0) := by
            obtain ⟨cur, x1, x2, x3⟩ := hp.blk
            exact ⟨⟨cur, (HKW.out g q3 q4).trans x1, x2, x3⟩, hp.le⟩
          have p2 : PRow w5 g gn 0 (fun _ => 0) := by
            obtain ⟨cur, x1, x2, x3⟩ := p1.blk
            exact ⟨⟨cur, (HK5.out.block g p1.lt q1).trans x1, x2, x3⟩, p1.le⟩
          exact (p2.kept hgk (some_ne q2)).kept G6 (some_ne q4)
      have hd6 : Hd (wr.setCell ⟨hb, 1, none⟩ (.slice (some ⟨g5, 0, none⟩) c5 c5)) B ⟨hb, 0, none⟩ go gn := ⟨c6, z6, hbB, hrow6⟩
      have HHD : Hid (Hd (wr.setCell ⟨hb, 1, none⟩ (.slice (some ⟨g5, 0, none⟩) c5 c5)).drew B ⟨hb, 0, none⟩ go gn) := by
        refine ⟨c6, z6, hbB, ?_⟩
        rcases hrow6 with h | ⟨g, e, h1, h2, hp⟩
        · exact .inl h
        · obtain ⟨cur, x1, x2, x3⟩ := hp.blk
          exact .inr ⟨g, e, h1, h2, ⟨⟨cur, x1, x2, x3⟩, hp.le⟩⟩
      have HR6 : Hid (∀ j, j < w.heap.size → j ≠ hb → some j ≠ (Value.slice none 0 0).ownBlock → (wr.setCell ⟨hb, 1, none⟩ (.slice (some ⟨g5, 0, none⟩) c5 c5)).heap[j]? = w.heap[j]?) := fun j hj hne hno =>
        ((G6.block j (by have := HD5.out; omega) (some_ne hne)).trans (hgk.block j (by have := HD5.out; omega) (some_ne (HJ.out j hj hno)))).trans ((HK5.out.block j (by rw [hsD]; omega) hno).trans (HKW.out j hj hne))
      go_upto_region 12 with fail
      clear hcr hcrA hcrR ZAr ZRr KBr hpk G6 hgk c6 z6 hrow6 hd6 cp zp hle
      generalize wr.setCell ⟨hb, 1, none⟩ (.slice (some ⟨g5, 0, none⟩) c5 c5) = W6 at *
      have D6 : Below W6.heap.size W6 W6.drew := (Below.refl _ W6).drew
      have KD6 : Below B w W6.drew := KB6.trans (D6.mono (by omega))
      obtain ⟨x0, x1, x2, x3⟩ := box2 ZA6
      have hB6 : B ≤ W6.drew.heap.size := by show B ≤ W6.heap.size; omega
      have cI := ints_any hb 0 B go gn so sn sc S W6.drew HHD.out (hS.low lbS KD6) sS (fun h0 b off e => by have := lbS h0 b off e; omega) hsm hB6
      go_region_held3 (fun V => V.cell? ⟨w.heap.size, 0, none⟩ = some (.slice so sn sc) ∧ Below B w V) (first | assumption | exact ⟨x0, KB6⟩ | exact ⟨x0, KD6⟩)
        (first
          | (go_at_call 28; (with_reducible refine cI.mono ?_); rintro e w7 ⟨g7, c7, rfl, H7⟩
             have hI7 := HI.out
             have hgo : ∀ j, (j = hb ∨ some j = (Value.slice go 0 0).ownBlock) → B ≤ j ∧ j < w.heap.size := (fun j e => (by
               rcases e with e | e
               · subst e; exact ⟨hbB, hbw⟩
               · cases hgo : go with
                 | none => rw [hgo] at e; cases e
                 | some a =>
                   rcases hi.row with ⟨e1, _⟩ | ⟨g, e1, _, _, hp⟩
                   · rw [hgo] at e1; cases e1
                   · rw [e1] at e
                     have e2 : j = g := Option.some.inj e
                     obtain ⟨_, _, q3, _, q5⟩ := hI7 g e1
                     rw [e2]; exact ⟨q5, q3⟩))
             have ZA7 := (H7.keep.block w.heap.size (by show w.heap.size < W6.heap.size; omega) (fun e => by have := (hgo _ e).2; omega)).trans ZA6
             have ZR7 := (H7.keep.block (w.heap.size + 1) (by show w.heap.size + 1 < W6.heap.size; omega) (fun e => by have := (hgo _ e).2; omega)).trans ZR6
             have K7 : Below B w w7 := KD6.trans (H7.keep.below hB6 (fun j hj e => by have := (hgo j e).1; omega))
             obtain ⟨y0, y1, y2, y3⟩ := box2 ZR7
             obtain ⟨v0, v1, v2, v3⟩ := box2 ZA7
             have S7 : w7.cell? ⟨w.heap.size, 0, none⟩ = some (.slice so sn sc) ∧ Below B w w7 := ⟨v0, K7⟩
             have G8 := set2 w7 (w.heap.size + 1) 0 1 (.slice (some ⟨g7, 0, none⟩) sn c7) (.slice (some ⟨g5, 0, none⟩) n c5)
             have S8 : ((w7.setCell ⟨w.heap.size + 1, 0, none⟩ (.slice (some ⟨g7, 0, none⟩) sn c7)).setCell ⟨w.heap.size + 1, 1, none⟩ (.slice (some ⟨g5, 0, none⟩) n c5)).cell? ⟨w.heap.size, 0, none⟩ = some (.slice so sn sc) ∧ Below B w ((w7.setCell ⟨w.heap.size + 1, 0, none⟩ (.slice (some ⟨g7, 0, none⟩) sn c7)).setCell ⟨w.heap.size + 1, 1, none⟩ (.slice (some ⟨g5, 0, none⟩) n c5)) := ⟨G8.cell v0 (some_ne (by show w.heap.size ≠ w.heap.size + 1; omega)), K7.grown G8 (by have := K7.size; omega) (fun k e => (by have := Option.some.inj e; omega))⟩))
      have hg7 : g7 ≠ w.heap.size + 1 := by
        rcases H7.fresh with e | e
        · have := (HI.out g7 e).2.2.1; omega
        · have e' : W6.heap.size ≤ g7 := e
          omega
      have hg57 : g5 ≠ hb ∧ ¬ some g5 = (Value.slice go 0 0).ownBlock := by
        refine ⟨HG5.out.1, fun e => ?_⟩
        cases hgo2 : go with
        | none => rw [hgo2] at e; cases e
        | some a =>
          rcases hi.row with ⟨e1, _⟩ | ⟨g, e1, _, _, hp⟩
          · rw [hgo2] at e1; cases e1
          · rw [e1] at e
            exact (HI.out g e1).2.1 (Option.some.inj e).symm
      have r7 : PRowA w7 g5 c5 c5 (markedA A n) := by
        obtain ⟨cur, x1, x2, x3⟩ := r6.blk
        exact ⟨⟨cur, (H7.keep.block g5 (Nat.lt_of_lt_of_le (Array.getElem?_eq_some_iff.1 x1).1 (Nat.le_refl _)) (fun e => e.elim hg57.1 hg57.2)).trans x1, x2, x3⟩, r6.le⟩
      have o7 := H7.others 1 (by decide)
      have HE : Hid (g7 ≠ w.heap.size + 1) := hg7
      have HO : Hid (w7.cell? ⟨hb, 1, none⟩ = some (.slice (some ⟨g5, 0, none⟩) c5 c5) ∧ w7.frozen? ⟨hb, 1, none⟩ = false) := ⟨o7.1.trans e6, o7.2.trans f6⟩
      have HY : Hid (((w7.setCell ⟨w.heap.size + 1, 0, none⟩ (.slice (some ⟨g7, 0, none⟩) sn c7)).setCell ⟨w.heap.size + 1, 1, none⟩ (.slice (some ⟨g5, 0, none⟩) n c5)).heap[w.heap.size + 1]? = some (.cells #[.slice (some ⟨g7, 0, none⟩) sn c7, .slice (some ⟨g5, 0, none⟩) n c5] 36 (0, 0))) := by
        show _ = _
        rw [heap_setCell_same _ (w.heap.size + 1) 1 _ _ _ (heap_setCell_same w7 (w.heap.size + 1) 0 _ _ _ ZR7)]
        rfl
      generalize hW8 : (w7.setCell ⟨w.heap.size + 1, 0, none⟩ (.slice (some ⟨g7, 0, none⟩) sn c7)).setCell ⟨w.heap.size + 1, 1, none⟩ (.slice (some ⟨g5, 0, none⟩) n c5) = W8 at *
      obtain ⟨t0, t1, t2, t3⟩ := box2 HY.out
      go_wp2
      refine bodyPost_ret (v := .agg #[.slice (some ⟨g7, 0, none⟩) sn c7, .slice (some ⟨g5, 0, none⟩) n c5]) (by simp [results, Tryz.results13]; go_simp) rfl ?_
      refine ⟨g7, c7, g5, c5, rfl, ⟨H7.room, hn5, ⟨H7.base, hB5, hbB⟩, ⟨H7.ne, HG5.out.1⟩, H7.row.kept G8 (some_ne HE.out), r7.kept G8 (some_ne HG5.out.2.2), ⟨G8.cell H7.cell (some_ne (by show hb ≠ w.heap.size + 1; omega)), ?_⟩, ⟨G8.cell HO.out.1 (some_ne (by show hb ≠ w.heap.size + 1; omega)), ?_⟩, S8.2, ?_, ?_⟩⟩
      · exact (World.frozen?_of_block (a := ⟨hb, 0, none⟩) (G8.block hb (by have := K7.size; omega) (some_ne (by omega)))).trans H7.frozen
      · exact (World.frozen?_of_block (a := ⟨hb, 1, none⟩) (G8.block hb (by have := K7.size; omega) (some_ne (by omega)))).trans HO.out.2
      · have := K7.size
        have := G8.size
        omega
      · intro j cs t hj t1 t2 hne
        have hjl := (Array.getElem?_eq_some_iff.1 hj).1
        exact ((G8.block j (by have := K7.size; omega) (some_ne (by omega))).trans (H7.keep.block j (by show j < W6.heap.size; omega) (fun e => e.elim hne (hi.no hj t1)))).trans (HR6.out j hjl hne (by simp [Value.ownBlock]))
theorem array_any (hb B : Nat) (go : Option Addr) (gn : Nat) (to' : Option Addr) (tn : Nat) (so lo : Option Addr) (sn sc n cap : Nat) (S A : List Int) (w : World) (hi : Hd w B ⟨hb, 0, none⟩ go gn) (ha : HdA w B ⟨hb, 1, none⟩ to' tn)
    (hS : Rd w so sn S) (sS : Sl so sn sc) (h : Rd w lo n A) (hs : Sl lo n cap) (lbS : 0 < sn → ∀ b off, so = some ⟨b, off, none⟩ → b < B) (lbA : 0 < n → ∀ b off, lo = some ⟨b, off, none⟩ → b < B) (hsm : sn ≤ 100000000) (hnm : n ≤ 100000000) (hB : B ≤ w.heap.size) :
    Calls Tryz.prog 13 #[.pointer (some ⟨hb, 0, none⟩), .agg #[.slice so sn sc, .slice lo n cap]] w fun e w' => ∃ g c g2 c2, e = .returned (.agg #[.slice (some ⟨g, 0, none⟩) sn c, .slice (some ⟨g2, 0, none⟩) n c2]) ∧ Laid w w' B hb sn S g c n A g2 c2 := by
  rcases Nat.lt_or_ge (n + 70000) tn with hlt | hle
  · exact array_big hb B go gn to' tn so lo sn sc n cap S A w hi ha hS sS h hs lbS lbA hsm hnm hB hlt
  · exact array_small hb B go gn to' tn so lo sn sc n cap S A w hi ha hS sS h hs lbS lbA hsm hnm hB hle
end Go.Proofs.YtppcfpiihkaopaaGreatDoor
