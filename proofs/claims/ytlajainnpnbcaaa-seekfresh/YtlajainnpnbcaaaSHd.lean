
/- A shelf's end. -/

import Derived.Test.YtlajainnpnbcaaaSHc

import Derived.Test.YtlajainnpnbcaaaQ0

namespace Go.Proofs.Ytlajainnpnbcaaa

open Go.RowKit

set_option linter.unusedVariables false

/-- What is left of a shelf from its array i on, outside of F. -/
structure Er (W : World) (F : Nat → Prop) (sb : Nat) (lo wo : Option Addr) (n lc wc : Nat) (sz : Int) (xs ws : List (Value × Value)) (zs : List (List Int × List Int)) (i : Nat) : Prop where
  box : W.heap[sb]? = some (.cells #[.slice lo n lc, .slice wo n wc, .int .i64 sz] 32 (0, 0))
  all : W.ownsRow 0 36 2 (.slice lo n lc) n (fltH xs)
  wer : W.ownsRow 0 36 2 (.slice wo n wc) n (fltH ws)
  rx : ∀ (j : Nat) (x : Value × Value), i ≤ j → xs[j]? = some x → ∃ z, zs[j]? = some z ∧ Arw W x z
  rw : ∀ (j : Nat) (x : Value × Value), ws[j]? = some x → ∃ z, zs[j]? = some z ∧ Arw W x z
  nb : ¬ F sb
  nl : ∀ g, (Value.slice lo n lc).ownBlock = some g → ¬ F g
  nw : ∀ g, (Value.slice wo n wc).ownBlock = some g → ¬ F g
  nx : ∀ (j : Nat) (x : Value × Value), i ≤ j → xs[j]? = some x → Inn (fun g => ¬ F g) x
  ny : ∀ (j : Nat) (x : Value × Value), ws[j]? = some x → Inn (fun g => ¬ F g) x
section

variable {W W' : World} {F F' T : Nat → Prop} {sb : Nat} {lo wo : Option Addr} {n lc wc : Nat} {sz : Int} {xs ws : List (Value × Value)} {zs : List (List Int × List Int)} {i : Nat}

theorem Er.chg (h : Er W F sb lo wo n lc wc sz xs ws zs i) (k : Chg F W W') : Er W' F sb lo wo n lc wc sz xs ws zs i :=
  ⟨k.at h.box h.nb, k.own h.all h.nl, k.own h.wer h.nw, fun j x hj hx => by obtain ⟨z, h1, h2⟩ := h.rx j x hj hx; exact ⟨z, h1, h2.chg k (h.nx j x hj hx)⟩, fun j x hx => by obtain ⟨z, h1, h2⟩ := h.rw j x hx; exact ⟨z, h1, h2.chg k (h.ny j x hx)⟩, h.nb, h.nl, h.nw, h.nx, h.ny⟩
theorem Er.below (h : Er W F sb lo wo n lc wc sz xs ws zs i) (k : Below W.heap.size W W') : Er W' F sb lo wo n lc wc sz xs ws zs i := h.chg (Chg.of_below k (Nat.le_refl _) _)
/-- Array i is given away. -/
theorem Er.next {x : Value × Value} {z : List Int × List Int} (h : Er W F sb lo wo n lc wc sz xs ws zs i) (hx : xs[i]? = some x) (hz : Arw W x z) (hT : ∀ g, T g → F g ∨ W.heap.size ≤ g ∨ x.1.ownBlock = some g ∨ x.2.ownBlock = some g) (k : Chg T W W')
    (ap : ∀ (i j : Nat) (x y : Value × Value), xs[i]? = some x → xs[j]? = some y → i ≠ j → Apt x y) (aw : ∀ (i j : Nat) (x y : Value × Value), xs[i]? = some x → ws[j]? = some y → Apt x y) : Er W' T sb lo wo n lc wc sz xs ws zs (i + 1) := by
  have key : ∀ {g : Nat} {e : TypeId} {cs : Array Value}, W.heap[g]? = some (.cells cs e (0, 0)) → e ≠ 3 → e ≠ 2 → ¬ F g → ¬ T g := by
    intro g e cs hg h1 h2 hF ht
    rcases hT g ht with hh | hh | hh | hh
    · exact hF hh
    · have := (Array.getElem?_eq_some_iff.1 hg).1; omega
    · obtain ⟨cs', hc⟩ := hz.kinds.1 g hh; exact h1 (kindB hg hc)
    · obtain ⟨cs', hc⟩ := hz.kinds.2 g hh; exact h2 (kindB hg hc)
  have key2 : ∀ {y : Value × Value} {zy : List Int × List Int}, Arw W y zy → Inn (fun g => ¬ F g) y → Apt x y → Inn (fun g => ¬ T g) y := by
    intro y zy hy hF ha
    refine ⟨fun g hg ht => ?_, fun g hg ht => ?_⟩
    · rcases hT g ht with hh | hh | hh | hh
      · exact hF.1 g hg hh
      · have := hy.lt.1 g hg; omega
      · exact ha.1 g hh hg
      · obtain ⟨cs, c1⟩ := hy.kinds.1 g hg; obtain ⟨cs', c2⟩ := hz.kinds.2 g hh; exact absurd (kindB c1 c2) (by decide)
    · rcases hT g ht with hh | hh | hh | hh
      · exact hF.2 g hg hh
      · have := hy.lt.2 g hg; omega
      · obtain ⟨cs, c1⟩ := hy.kinds.2 g hg; obtain ⟨cs', c2⟩ := hz.kinds.1 g hh; exact absurd (kindB c1 c2) (by decide)
      · exact ha.2 g hh hg
  have nb := key h.box (by decide) (by decide) h.nb
  have nl : ∀ g, (Value.slice lo n lc).ownBlock = some g → ¬ T g := fun g hg => by obtain ⟨cs, hc⟩ := ownB h.all hg; exact key hc (by decide) (by decide) (h.nl g hg)
  have nw : ∀ g, (Value.slice wo n wc).ownBlock = some g → ¬ T g := fun g hg => by obtain ⟨cs, hc⟩ := ownB h.wer hg; exact key hc (by decide) (by decide) (h.nw g hg)
  have nx : ∀ (j : Nat) (y : Value × Value), i + 1 ≤ j → xs[j]? = some y → Inn (fun g => ¬ T g) y := fun j y hj hy => by obtain ⟨zy, _, h2⟩ := h.rx j y (by omega) hy; exact key2 h2 (h.nx j y (by omega) hy) (ap i j x y hx hy (by omega))
  have ny : ∀ (j : Nat) (y : Value × Value), ws[j]? = some y → Inn (fun g => ¬ T g) y := fun j y hy => by obtain ⟨zy, _, h2⟩ := h.rw j y hy; exact key2 h2 (h.ny j y hy) (aw i j x y hx hy)
  exact ⟨k.at h.box nb, k.own h.all nl, k.own h.wer nw, fun j y hj hy => by obtain ⟨zy, h1, h2⟩ := h.rx j y (by omega) hy; exact ⟨zy, h1, h2.chg k (nx j y hj hy)⟩, fun j y hy => by obtain ⟨zy, h1, h2⟩ := h.rw j y hy; exact ⟨zy, h1, h2.chg k (ny j y hy)⟩, nb, nl, nw, nx, ny⟩
theorem Er.mono (h : Er W F sb lo wo n lc wc sz xs ws zs i) (hF : ∀ g, F' g → F g) : Er W F' sb lo wo n lc wc sz xs ws zs i :=
  ⟨h.box, h.all, h.wer, h.rx, h.rw, fun e => h.nb (hF _ e), fun g hg e => h.nl g hg (hF g e), fun g hg e => h.nw g hg (hF g e), fun j x hj hx => (h.nx j x hj hx).mono fun g hg e => hg (hF g e), fun j x hx => (h.ny j x hx).mono fun g hg e => hg (hF g e)⟩
theorem Er.grow (h : Er W F sb lo wo n lc wc sz xs ws zs i) (hF : ∀ g, F' g → F g ∨ W.heap.size ≤ g) : Er W F' sb lo wo n lc wc sz xs ws zs i := by
  have key : ∀ g, g < W.heap.size → ¬ F g → ¬ F' g := fun g hg h1 h2 => by rcases hF g h2 with h2 | h2; (· exact h1 h2); (· omega)
  exact ⟨h.box, h.all, h.wer, h.rx, h.rw, key _ (Array.getElem?_eq_some_iff.1 h.box).1 h.nb, fun g hg => key g (h.all.lt g hg).2 (h.nl g hg), fun g hg => key g (h.wer.lt g hg).2 (h.nw g hg),
    fun j x hj hx => by obtain ⟨z, _, h2⟩ := h.rx j x hj hx; exact ⟨fun g hg => key g (h2.lt.1 g hg) ((h.nx j x hj hx).1 g hg), fun g hg => key g (h2.lt.2 g hg) ((h.nx j x hj hx).2 g hg)⟩,
    fun j x hx => by obtain ⟨z, _, h2⟩ := h.rw j x hx; exact ⟨fun g hg => key g (h2.lt.1 g hg) ((h.ny j x hx).1 g hg), fun g hg => key g (h2.lt.2 g hg) ((h.ny j x hx).2 g hg)⟩⟩
/-- Two arrays of one content, side by side. -/
theorem Er.both {lg wg : Nat} (h : Er W F sb (some ⟨lg, 0, none⟩) (some ⟨wg, 0, none⟩) n lc wc sz xs ws zs i) {k : Nat} (hk : i ≤ k) {x y : Value × Value} (hx : xs[k]? = some x) (hy : ws[k]? = some y) (hl : xs.length = n) (hw : ws.length = n) :
    (W.cell? ⟨sb, 0, none⟩ = some (.slice (some ⟨lg, 0, none⟩) n lc) ∧ W.cell? ⟨sb, 1, none⟩ = some (.slice (some ⟨wg, 0, none⟩) n wc) ∧ W.cell? ⟨lg, k * 2, none⟩ = some x.1 ∧ W.cell? ⟨lg, k * 2 + 1, none⟩ = some x.2 ∧ W.cell? ⟨wg, k * 2, none⟩ = some y.1 ∧ W.cell? ⟨wg, k * 2 + 1, none⟩ = some y.2) ∧ ∃ z, Arw W x z ∧ Arw W y z := by
  obtain ⟨z, h1, h2⟩ := h.rx k x hk hx
  obtain ⟨z', h3, h4⟩ := h.rw k y hy
  obtain rfl := Option.some.inj (h1.symm.trans h3)
  have hlt := (List.getElem?_eq_some_iff.1 hx).1
  obtain ⟨a1, a2⟩ := flt_at hx
  obtain ⟨a3, a4⟩ := flt_at hy
  obtain ⟨⟨b0, b1, b2⟩, _⟩ := box3 h.box
  exact ⟨⟨b0, b1, (h.all.cellAt (k * 2) (by omega)).trans a1, (h.all.cellAt (k * 2 + 1) (by omega)).trans a2, (h.wer.cellAt (k * 2) (by omega)).trans a3, (h.wer.cellAt (k * 2 + 1) (by omega)).trans a4⟩, z, h2, h4⟩
end

theorem own_lo2 {W : World} {e : TypeId} {s n c : Nat} {lo : Option Addr} {xs : List Value} (h : W.ownsRow 0 e s (.slice lo n c) n xs) (hn : n ≠ 0) : ∃ g, lo = some ⟨g, 0, none⟩ := by
  rcases h.2 with ⟨_, h0⟩ | ⟨g, cap, cur, e, _⟩
  · exact absurd h0 hn
  · injection e with e1; exact ⟨g, e1⟩
/-- Between two rounds of the second loop. -/
def Mq (w : World) (S : Nat → Prop) (bb sb : Nat) (lo wo : Option Addr) (n lc vc : Nat) (sz : Int) (xs ws : List (Value × Value)) (zs : List (List Int × List Int)) (i : Nat) (W : World) : Prop :=
  ∃ F so ao m sc ac bsz vs us, Bk W F bb so ao m m sc ac bsz vs us ∧ Er W F sb lo wo n lc vc sz xs ws zs i ∧ (∀ g, F g → S g ∨ w.heap.size ≤ g) ∧ Chg (fun g => S g ∨ w.heap.size ≤ g) w W
/-- Two arrays of one content are the same. -/
theorem arw_eq {W : World} {x y : Value × Value} {z : List Int × List Int} (hx : Arw W x z) (hy : Arw W y z) : Calls Try.prog 10 #[.agg #[x.1, x.2], .agg #[y.1, y.2]] W fun e w' => e = .returned (.bool true) ∧ Below W.heap.size W w' := by
  obtain ⟨so, sn, sc, ao, an, ac, rfl, h1, h2⟩ := hx
  obtain ⟨to', tn, tc, bo, bn, bc, rfl, h3, h4⟩ := hy
  exact eq_same W so ao to' bo sn sc an ac tn tc bn bc z.1 z.2 h1.rd h2.rd h3.rd h4.rd

set_option maxRecDepth 20000 in
set_option maxHeartbeats 8000000 in
theorem ends_any (sb : Nat) (S : Nat → Prop) (lo wo : Option Addr) (n lc vc : Nat) (sz : Int) (xs ws : List (Value × Value)) (zs : List (List Int × List Int)) (w : World) (h : Sh w S sb lo wo n n lc vc sz xs ws zs) :
    Calls Try.prog 11 #[.pointer (some ⟨sb, 0, none⟩)] w fun e w' => e = .returned (.bool true) ∧ Chg (fun g => S g ∨ w.heap.size ≤ g) w w' := by
  have E0 : Er w (fun _ => False) sb lo wo n lc vc sz xs ws zs 0 := ⟨h.box, h.all, h.wer, fun j x _ hx => h.rx j x hx, fun j x hx => h.rw j x hx, fun e => e, fun _ _ e => e, fun _ _ e => e, fun _ _ _ _ => ⟨fun _ _ e => e, fun _ _ e => e⟩, fun _ _ _ => ⟨fun _ _ e => e, fun _ _ e => e⟩⟩
  have HH : Hid (Sh w S sb lo wo n n lc vc sz xs ws zs) := h
  have hn : n ≤ 41944 := h.hk.1
  clear h
  go_enter Try.func11, Try.ntmps11
  go_upto_block 0 with fail
  go_cut [3] from 6 to 30 (fun s3 V => Er V (fun _ => False) sb lo wo n lc vc sz xs ws zs 0 ∧ Below w.heap.size w V)
  case first =>
    go_wp2_with fail
    go_loopg [3] n (fun g s3 wr => ∃ I : Nat, I ≤ n ∧ g = n - I ∧ s3 = .int .i64 (I : Nat) ∧ Er wr (fun _ => False) sb lo wo n lc vc sz xs ws zs 0 ∧ Below w.heap.size w wr)
    case atStart => exact ⟨0, Nat.zero_le _, rfl, rfl, E0, Below.refl _ _⟩
    case round =>
      clear E0
      obtain ⟨I, hI, rfl, rfl, hE, hB⟩ := hrel
      obtain ⟨⟨b0, b1, b2⟩, _⟩ := box3 hE.box
      by_cases hlt : I < n
      · have t1 : decide ((I : Int) < (n : Int)) = true := by simp [hlt]
        have t1' : (I : Int) < (n : Int) := by omega
        obtain ⟨lg, hlg⟩ := own_lo2 HH.out.all (by omega)
        obtain ⟨wg, hwg⟩ := own_lo2 HH.out.wer (by omega)
        subst hlg hwg
        obtain ⟨⟨x1, x2⟩, hx⟩ : ∃ x, xs[I]? = some x := ⟨_, List.getElem?_eq_getElem (by rw [HH.out.xl]; exact hlt)⟩
        obtain ⟨⟨y1, y2⟩, hy⟩ : ∃ y, ws[I]? = some y := ⟨_, List.getElem?_eq_getElem (by rw [HH.out.wl]; exact hlt)⟩
        have HIk : Hid (0 ≤ I ∧ xs[I]? = some (x1, x2) ∧ ws[I]? = some (y1, y2) ∧ xs.length = n ∧ ws.length = n) := ⟨Nat.zero_le _, hx, hy, HH.out.xl, HH.out.wl⟩
        have hEd := hE.below (Below.refl _ _).drew
        obtain ⟨HS0, z, hzx, hzy⟩ := hEd.both (Nat.zero_le I) hx hy HH.out.xl HH.out.wl
        have cE := arw_eq hzx hzy
        have HE : Hid (Er wr.drew (fun _ => False) sb (some ⟨lg, 0, none⟩) (some ⟨wg, 0, none⟩) n lc vc sz xs ws zs 0) := hEd
        clear hx hy hEd hzx hzy b2
        go_upto_region 4 with fail
        refine wp_region_R (fun V => V.cell? ⟨sb, 0, none⟩ = some (.slice (some ⟨lg, 0, none⟩) n lc) ∧ V.cell? ⟨sb, 1, none⟩ = some (.slice (some ⟨wg, 0, none⟩) n vc) ∧ V.cell? ⟨lg, I * 2, none⟩ = some x1 ∧ V.cell? ⟨lg, I * 2 + 1, none⟩ = some x2 ∧ V.cell? ⟨wg, I * 2, none⟩ = some y1 ∧ V.cell? ⟨wg, I * 2 + 1, none⟩ = some y2) (fun _ => true) (by kernel_rfl) ?_
        refine wpAnyR_take (i := 0) (v := .pointer (some ⟨sb, 0, none⟩)) rfl (by kernel_rfl) (by kernel_rfl) (by kernel_rfl) (by kernel_rfl) (fun _ _ _ h => h) (Or.inl ⟨by rfl, fun V hV => ?_⟩) ?_ ?_
        · obtain ⟨g0, g1, g2, g3, g4, g5⟩ := hV
          go_simp
        · exact HS0
        conv => arg 9; simp [Act.put]
        refine wpAnyR_take (i := 1) (v := .pointer (some ⟨sb, 0, none⟩)) rfl (by kernel_rfl) (by kernel_rfl) (by kernel_rfl) (by kernel_rfl) (fun _ _ _ h => h) (Or.inl ⟨by rfl, fun V hV => ?_⟩) ?_ ?_
        · obtain ⟨g0, g1, g2, g3, g4, g5⟩ := hV
          go_simp
        · exact HS0
        conv => arg 9; simp [Act.put]
        refine wpAnyR_take (i := 2) (v := .pointer (some ⟨sb, 0, none⟩)) rfl (by kernel_rfl) (by kernel_rfl) (by kernel_rfl) (by kernel_rfl) (fun _ _ _ h => h) (Or.inl ⟨by rfl, fun V hV => ?_⟩) ?_ ?_
        · obtain ⟨g0, g1, g2, g3, g4, g5⟩ := hV
          go_simp
        · exact HS0
        conv => arg 9; simp [Act.put]
        refine wpAnyR_take (i := 3) (v := .slice (some ⟨lg, 0, none⟩) n lc) rfl (by kernel_rfl) (by kernel_rfl) (by kernel_rfl) (by kernel_rfl) (fun _ _ _ h => h) (Or.inl ⟨by rfl, fun V hV => ?_⟩) ?_ ?_
        · obtain ⟨g0, g1, g2, g3, g4, g5⟩ := hV
          go_simp
        · exact HS0
        conv => arg 9; simp [Act.put]
        refine wpAnyR_take (i := 4) (v := .int .i64 (I : Int)) rfl (by kernel_rfl) (by kernel_rfl) (by kernel_rfl) (by kernel_rfl) (fun _ _ _ h => h) (Or.inl ⟨by rfl, fun V hV => ?_⟩) ?_ ?_
        · obtain ⟨g0, g1, g2, g3, g4, g5⟩ := hV
          go_simp
        · exact HS0
        conv => arg 9; simp [Act.put]
        refine wpAnyR_take (i := 5) (v := .pointer (some ⟨lg, I * 2, none⟩)) rfl (by kernel_rfl) (by kernel_rfl) (by kernel_rfl) (by kernel_rfl) (fun _ _ _ h => h) (Or.inl ⟨by rfl, fun V hV => ?_⟩) ?_ ?_
        · obtain ⟨g0, g1, g2, g3, g4, g5⟩ := hV
          go_simp
        · exact HS0
        conv => arg 9; simp [Act.put]
        refine wpAnyR_take (i := 6) (v := .agg #[x1, x2]) rfl (by kernel_rfl) (by kernel_rfl) (by kernel_rfl) (by kernel_rfl) (fun _ _ _ h => h) (Or.inl ⟨by rfl, fun V hV => ?_⟩) ?_ ?_
        · obtain ⟨g0, g1, g2, g3, g4, g5⟩ := hV
          go_simp
        · exact HS0
        conv => arg 9; simp [Act.put]
        refine wpAnyR_take (i := 7) (v := .pointer (some ⟨sb, 0, none⟩)) rfl (by kernel_rfl) (by kernel_rfl) (by kernel_rfl) (by kernel_rfl) (fun _ _ _ h => h) (Or.inl ⟨by rfl, fun V hV => ?_⟩) ?_ ?_
        · obtain ⟨g0, g1, g2, g3, g4, g5⟩ := hV
          go_simp
        · exact HS0
        conv => arg 9; simp [Act.put]
        refine wpAnyR_take (i := 8) (v := .pointer (some ⟨sb, 0, none⟩)) rfl (by kernel_rfl) (by kernel_rfl) (by kernel_rfl) (by kernel_rfl) (fun _ _ _ h => h) (Or.inl ⟨by rfl, fun V hV => ?_⟩) ?_ ?_
        · obtain ⟨g0, g1, g2, g3, g4, g5⟩ := hV
          go_simp
        · exact HS0
        conv => arg 9; simp [Act.put]
        refine wpAnyR_take (i := 9) (v := .pointer (some ⟨sb, 1, none⟩)) rfl (by kernel_rfl) (by kernel_rfl) (by kernel_rfl) (by kernel_rfl) (fun _ _ _ h => h) (Or.inl ⟨by rfl, fun V hV => ?_⟩) ?_ ?_
        · obtain ⟨g0, g1, g2, g3, g4, g5⟩ := hV
          go_simp
        · exact HS0
        conv => arg 9; simp [Act.put]
        refine wpAnyR_take (i := 10) (v := .slice (some ⟨wg, 0, none⟩) n vc) rfl (by kernel_rfl) (by kernel_rfl) (by kernel_rfl) (by kernel_rfl) (fun _ _ _ h => h) (Or.inl ⟨by rfl, fun V hV => ?_⟩) ?_ ?_
        · obtain ⟨g0, g1, g2, g3, g4, g5⟩ := hV
          go_simp
        · exact HS0
        conv => arg 9; simp [Act.put]
        refine wpAnyR_take (i := 11) (v := .int .i64 (I : Int)) rfl (by kernel_rfl) (by kernel_rfl) (by kernel_rfl) (by kernel_rfl) (fun _ _ _ h => h) (Or.inl ⟨by rfl, fun V hV => ?_⟩) ?_ ?_
        · obtain ⟨g0, g1, g2, g3, g4, g5⟩ := hV
          go_simp
        · exact HS0
        conv => arg 9; simp [Act.put]
        refine wpAnyR_take (i := 12) (v := .pointer (some ⟨wg, I * 2, none⟩)) rfl (by kernel_rfl) (by kernel_rfl) (by kernel_rfl) (by kernel_rfl) (fun _ _ _ h => h) (Or.inl ⟨by rfl, fun V hV => ?_⟩) ?_ ?_
        · obtain ⟨g0, g1, g2, g3, g4, g5⟩ := hV
          go_simp
        · exact HS0
        conv => arg 9; simp [Act.put]
        refine wpAnyR_take (i := 13) (v := .agg #[y1, y2]) rfl (by kernel_rfl) (by kernel_rfl) (by kernel_rfl) (by kernel_rfl) (fun _ _ _ h => h) (Or.inl ⟨by rfl, fun V hV => ?_⟩) ?_ ?_
        · obtain ⟨g0, g1, g2, g3, g4, g5⟩ := hV
          go_simp
        · exact HS0
        conv => arg 9; simp [Act.put]
        refine wpAnyR_one (i := 14) (by kernel_rfl) rfl (fun K hK => ?_)
        go_simp
        go_at_call 10
        refine cE.mono ?_
        rintro e W2 ⟨rfl, b2⟩
        have E2 := HE.out.below b2
        have HS2 := (E2.both HIk.out.1 HIk.out.2.1 HIk.out.2.2.1 HIk.out.2.2.2.1 HIk.out.2.2.2.2).1
        refine hK _ _ ⟨fun _ => HS2, ?_⟩
        clear hK
        conv => arg 9; simp [Act.put]
        refine wpAnyR_take (i := 15) (v := .bool false) rfl (by kernel_rfl) (by kernel_rfl) (by kernel_rfl) (by kernel_rfl) (fun _ _ _ h => h) (Or.inl ⟨by rfl, fun V hV => ?_⟩) ?_ ?_
        · obtain ⟨g0, g1, g2, g3, g4, g5⟩ := hV
          go_simp
        · exact HS2
        conv => arg 9; simp [Act.put]
        refine wpAnyR_done (by kernel_rfl) ?_ _
        go_wp2
        go_roundg (n - (I + 1))
        case measure => omega
        case rel => exact ⟨I + 1, by omega, rfl, (by first | go_num | (refine congrArg (Value.int .i64) ?_; unfold wrap64; omega)), E2, hB.trans ((Below.refl wr.heap.size wr).drew.trans b2 |>.mono hB.size)⟩
      · obtain rfl : I = n := by omega
        have t1 : decide ((I : Int) < (I : Int)) = false := by simp
        clear hlt
        go_wp2
        go_meet
        case rel => exact ⟨hE, hB⟩
  case rest =>
  clear E0
  obtain ⟨W1, hW1⟩ : ∃ W, W = wc := ⟨_, rfl⟩
  subst hW1
  obtain ⟨hE1, hB1⟩ := hcut
  have bN := box_below W1 (.cells #[.slice none 0 0, .slice none 0 0, .int .i64 0] 28)
  have nN := allocNew W1 (.cells #[.slice none 0 0, .slice none 0 0, .int .i64 0] 28)
  have E3 := (hE1.grow (F' := fun g => g = W1.heap.size) fun g e => .inr (by omega)).below bN
  have B3 : Bk (W1.alloc (.cells #[.slice none 0 0, .slice none 0 0, .int .i64 0] 28)) (fun g => g = W1.heap.size) W1.heap.size none none 0 0 0 0 0 [] [] :=
    ⟨nN, rfl, rfl, World.ownsRow_nil _ _ _ _, World.ownsRow_nil _ _ _ _, ⟨fun i v hi => by simp at hi, fun i j v u g hi => by simp at hi⟩, ⟨fun i v hi => by simp at hi, fun i j v u g hi => by simp at hi⟩, rfl, fun g hg => by simp [Value.ownBlock] at hg, fun g hg => by simp [Value.ownBlock] at hg, fun i v g hi => by simp at hi, fun i v g hi => by simp at hi, by simp, by simp, by simp⟩
  have C3 : Chg (fun g => S g ∨ w.heap.size ≤ g) w (W1.alloc (.cells #[.slice none 0 0, .slice none 0 0, .int .i64 0] 28)) := (Chg.of_below hB1 (Nat.le_refl _) _).trans (Chg.of_below bN (Nat.le_refl _) _)
  have M0 : Mq w S W1.heap.size sb lo wo n lc vc sz xs ws zs 0 (W1.alloc (.cells #[.slice none 0 0, .slice none 0 0, .int .i64 0] 28)) := ⟨_, _, _, _, _, _, _, _, _, B3, E3, fun g e => .inr (by have := hB1.size; omega), C3⟩
  clear hE1 hB1 bN nN E3 B3 C3
  go_upto_block 4 with fail
  generalize W1.heap.size = bb at *
  generalize W1.alloc (.cells #[.slice none 0 0, .slice none 0 0, .int .i64 0] 28) = W3 at *
  go_wp2_with fail
  go_loopg [5] n (fun g s5 wr => ∃ I : Nat, I ≤ n ∧ g = n - I ∧ s5 = .int .i64 (I : Nat) ∧ Mq w S bb sb lo wo n lc vc sz xs ws zs I wr)
  case atStart => exact ⟨0, Nat.zero_le _, rfl, rfl, M0⟩
  case round =>
    clear M0
    obtain ⟨I, hI, rfl, rfl, F, so, ao, m, bsc, bac, bsz, vs, us, hBk, hE, hF, hC⟩ := hrel
    obtain ⟨⟨b0, b1, b2⟩, _⟩ := box3 hE.box
    by_cases hlt : I < n
    · have t1 : decide ((I : Int) < (n : Int)) = true := by simp [hlt]
      have t1' : (I : Int) < (n : Int) := by omega
      obtain ⟨lg, hlg⟩ := own_lo2 HH.out.all (by omega)
      obtain ⟨wg, hwg⟩ := own_lo2 HH.out.wer (by omega)
      subst hlg hwg
      obtain ⟨⟨x1, x2⟩, hx⟩ : ∃ x, xs[I]? = some x := ⟨_, List.getElem?_eq_getElem (by rw [HH.out.xl]; exact hlt)⟩
      obtain ⟨⟨y1, y2⟩, hy⟩ : ∃ y, ws[I]? = some y := ⟨_, List.getElem?_eq_getElem (by rw [HH.out.wl]; exact hlt)⟩
      have HIk : Hid (I ≤ I ∧ xs[I]? = some (x1, x2) ∧ ws[I]? = some (y1, y2) ∧ xs.length = n ∧ ws.length = n) := ⟨Nat.le_refl _, hx, hy, HH.out.xl, HH.out.wl⟩
      have hEd := hE.below (Below.refl _ _).drew
      obtain ⟨HS0, z, hzx, hzy⟩ := hEd.both (Nat.le_refl I) hx hy HH.out.xl HH.out.wl
      have cE := arw_eq hzx hzy
      have HE : Hid (Er wr.drew F sb (some ⟨lg, 0, none⟩) (some ⟨wg, 0, none⟩) n lc vc sz xs ws zs I) := hEd
      have HBk : Hid (Bk wr F bb so ao m m bsc bac bsz vs us ∧ (∀ g, F g → S g ∨ w.heap.size ≤ g) ∧ Chg (fun g => S g ∨ w.heap.size ≤ g) w wr) := ⟨hBk, hF, hC⟩
      clear hx hy hEd hzx hzy b2 hBk hF hC hE
      go_upto_region 10 with fail
      refine wp_region_R (fun V => V.cell? ⟨sb, 0, none⟩ = some (.slice (some ⟨lg, 0, none⟩) n lc) ∧ V.cell? ⟨sb, 1, none⟩ = some (.slice (some ⟨wg, 0, none⟩) n vc) ∧ V.cell? ⟨lg, I * 2, none⟩ = some x1 ∧ V.cell? ⟨lg, I * 2 + 1, none⟩ = some x2 ∧ V.cell? ⟨wg, I * 2, none⟩ = some y1 ∧ V.cell? ⟨wg, I * 2 + 1, none⟩ = some y2) (fun _ => true) (by kernel_rfl) ?_
      refine wpAnyR_take (i := 0) (v := .pointer (some ⟨sb, 0, none⟩)) rfl (by kernel_rfl) (by kernel_rfl) (by kernel_rfl) (by kernel_rfl) (fun _ _ _ h => h) (Or.inl ⟨by rfl, fun V hV => ?_⟩) ?_ ?_
      · obtain ⟨g0, g1, g2, g3, g4, g5⟩ := hV
        go_simp
      · exact HS0
      conv => arg 9; simp [Act.put]
      refine wpAnyR_take (i := 1) (v := .pointer (some ⟨sb, 0, none⟩)) rfl (by kernel_rfl) (by kernel_rfl) (by kernel_rfl) (by kernel_rfl) (fun _ _ _ h => h) (Or.inl ⟨by rfl, fun V hV => ?_⟩) ?_ ?_
      · obtain ⟨g0, g1, g2, g3, g4, g5⟩ := hV
        go_simp
      · exact HS0
      conv => arg 9; simp [Act.put]
      refine wpAnyR_take (i := 2) (v := .pointer (some ⟨sb, 0, none⟩)) rfl (by kernel_rfl) (by kernel_rfl) (by kernel_rfl) (by kernel_rfl) (fun _ _ _ h => h) (Or.inl ⟨by rfl, fun V hV => ?_⟩) ?_ ?_
      · obtain ⟨g0, g1, g2, g3, g4, g5⟩ := hV
        go_simp
      · exact HS0
      conv => arg 9; simp [Act.put]
      refine wpAnyR_take (i := 3) (v := .slice (some ⟨lg, 0, none⟩) n lc) rfl (by kernel_rfl) (by kernel_rfl) (by kernel_rfl) (by kernel_rfl) (fun _ _ _ h => h) (Or.inl ⟨by rfl, fun V hV => ?_⟩) ?_ ?_
      · obtain ⟨g0, g1, g2, g3, g4, g5⟩ := hV
        go_simp
      · exact HS0
      conv => arg 9; simp [Act.put]
      refine wpAnyR_take (i := 4) (v := .int .i64 (I : Int)) rfl (by kernel_rfl) (by kernel_rfl) (by kernel_rfl) (by kernel_rfl) (fun _ _ _ h => h) (Or.inl ⟨by rfl, fun V hV => ?_⟩) ?_ ?_
      · obtain ⟨g0, g1, g2, g3, g4, g5⟩ := hV
        go_simp
      · exact HS0
      conv => arg 9; simp [Act.put]
      refine wpAnyR_take (i := 5) (v := .pointer (some ⟨lg, I * 2, none⟩)) rfl (by kernel_rfl) (by kernel_rfl) (by kernel_rfl) (by kernel_rfl) (fun _ _ _ h => h) (Or.inl ⟨by rfl, fun V hV => ?_⟩) ?_ ?_
      · obtain ⟨g0, g1, g2, g3, g4, g5⟩ := hV
        go_simp
      · exact HS0
      conv => arg 9; simp [Act.put]
      refine wpAnyR_take (i := 6) (v := .agg #[x1, x2]) rfl (by kernel_rfl) (by kernel_rfl) (by kernel_rfl) (by kernel_rfl) (fun _ _ _ h => h) (Or.inl ⟨by rfl, fun V hV => ?_⟩) ?_ ?_
      · obtain ⟨g0, g1, g2, g3, g4, g5⟩ := hV
        go_simp
      · exact HS0
      conv => arg 9; simp [Act.put]
      refine wpAnyR_take (i := 7) (v := .pointer (some ⟨sb, 0, none⟩)) rfl (by kernel_rfl) (by kernel_rfl) (by kernel_rfl) (by kernel_rfl) (fun _ _ _ h => h) (Or.inl ⟨by rfl, fun V hV => ?_⟩) ?_ ?_
      · obtain ⟨g0, g1, g2, g3, g4, g5⟩ := hV
        go_simp
      · exact HS0
      conv => arg 9; simp [Act.put]
      refine wpAnyR_take (i := 8) (v := .pointer (some ⟨sb, 0, none⟩)) rfl (by kernel_rfl) (by kernel_rfl) (by kernel_rfl) (by kernel_rfl) (fun _ _ _ h => h) (Or.inl ⟨by rfl, fun V hV => ?_⟩) ?_ ?_
      · obtain ⟨g0, g1, g2, g3, g4, g5⟩ := hV
        go_simp
      · exact HS0
      conv => arg 9; simp [Act.put]
      refine wpAnyR_take (i := 9) (v := .pointer (some ⟨sb, 1, none⟩)) rfl (by kernel_rfl) (by kernel_rfl) (by kernel_rfl) (by kernel_rfl) (fun _ _ _ h => h) (Or.inl ⟨by rfl, fun V hV => ?_⟩) ?_ ?_
      · obtain ⟨g0, g1, g2, g3, g4, g5⟩ := hV
        go_simp
      · exact HS0
      conv => arg 9; simp [Act.put]
      refine wpAnyR_take (i := 10) (v := .slice (some ⟨wg, 0, none⟩) n vc) rfl (by kernel_rfl) (by kernel_rfl) (by kernel_rfl) (by kernel_rfl) (fun _ _ _ h => h) (Or.inl ⟨by rfl, fun V hV => ?_⟩) ?_ ?_
      · obtain ⟨g0, g1, g2, g3, g4, g5⟩ := hV
        go_simp
      · exact HS0
      conv => arg 9; simp [Act.put]
      refine wpAnyR_take (i := 11) (v := .int .i64 (I : Int)) rfl (by kernel_rfl) (by kernel_rfl) (by kernel_rfl) (by kernel_rfl) (fun _ _ _ h => h) (Or.inl ⟨by rfl, fun V hV => ?_⟩) ?_ ?_
      · obtain ⟨g0, g1, g2, g3, g4, g5⟩ := hV
        go_simp
      · exact HS0
      conv => arg 9; simp [Act.put]
      refine wpAnyR_take (i := 12) (v := .pointer (some ⟨wg, I * 2, none⟩)) rfl (by kernel_rfl) (by kernel_rfl) (by kernel_rfl) (by kernel_rfl) (fun _ _ _ h => h) (Or.inl ⟨by rfl, fun V hV => ?_⟩) ?_ ?_
      · obtain ⟨g0, g1, g2, g3, g4, g5⟩ := hV
        go_simp
      · exact HS0
      conv => arg 9; simp [Act.put]
      refine wpAnyR_take (i := 13) (v := .agg #[y1, y2]) rfl (by kernel_rfl) (by kernel_rfl) (by kernel_rfl) (by kernel_rfl) (fun _ _ _ h => h) (Or.inl ⟨by rfl, fun V hV => ?_⟩) ?_ ?_
      · obtain ⟨g0, g1, g2, g3, g4, g5⟩ := hV
        go_simp
      · exact HS0
      conv => arg 9; simp [Act.put]
      refine wpAnyR_one (i := 14) (by kernel_rfl) rfl (fun K hK => ?_)
      go_simp
      go_at_call 10
      refine cE.mono ?_
      rintro e W2 ⟨rfl, b2⟩
      have E2 := HE.out.below b2
      have HS2 := (E2.both HIk.out.1 HIk.out.2.1 HIk.out.2.2.1 HIk.out.2.2.2.1 HIk.out.2.2.2.2).1
      refine hK _ _ ⟨fun _ => HS2, ?_⟩
      clear hK
      conv => arg 9; simp [Act.put]
      refine wpAnyR_take (i := 15) (v := .bool false) rfl (by kernel_rfl) (by kernel_rfl) (by kernel_rfl) (by kernel_rfl) (fun _ _ _ h => h) (Or.inl ⟨by rfl, fun V hV => ?_⟩) ?_ ?_
      · obtain ⟨g0, g1, g2, g3, g4, g5⟩ := hV
        go_simp
      · exact HS2
      conv => arg 9; simp [Act.put]
      refine wpAnyR_done (by kernel_rfl) ?_ _
      have bw : Below wr.heap.size wr W2 := (Below.refl wr.heap.size wr).drew.trans b2
      obtain ⟨hBk0, hF, hC0⟩ := HBk.out
      have hBk2 := hBk0.below bw
      have hC2 := hC0.trans (Chg.of_below bw (Nat.le_refl _) _)
      obtain ⟨z2, _, hz2⟩ := E2.rx I _ (Nat.le_refl _) HIk.out.2.1
      have bA := box_below W2 (.cells #[x1, x2] 36)
      have nA := allocNew W2 (.cells #[x1, x2] 36)
      have EA := E2.below bA
      have BA := hBk2.below bA
      have hCA := hC2.trans (Chg.of_below bA (Nat.le_refl _) _)
      have zA := hz2.chg (Chg.of_below bA (Nat.le_refl _) (fun _ => False)) ⟨fun _ _ e => e, fun _ _ e => e⟩
      obtain ⟨xo, xn, xc, yo, yn, yc, e', f1, f2⟩ := zA
      injection e' with e1 e2
      subst e1 e2
      have ss1 := f1.sl
      have ss2 := f2.sl
      have cT := take_any bb W2.heap.size so ao xo yo m bsc bac xn xc yn yc bsz vs us z2.1 z2.2 F (fun g => F g ∨ (W2.alloc (.cells #[.slice xo xn xc, .slice yo yn yc] 36)).heap.size ≤ g ∨ (Value.slice xo xn xc).ownBlock = some g ∨ (Value.slice yo yn yc).ownBlock = some g) _ BA nA f1.own f1.rd.len f2.own f2.rd.len f1.rd.room f2.rd.room (by have := ss1.3; omega) (by have := ss2.3; omega) (EA.nx I _ (Nat.le_refl _) HIk.out.2.1).1 (EA.nx I _ (Nat.le_refl _) HIk.out.2.1).2 (fun g hg => .inl hg) (fun g hg => .inr (.inl hg)) (fun g hg => .inr (.inr (.inl hg))) (fun g hg => .inr (.inr (.inr hg)))
      have HT : Hid (Er (W2.alloc (.cells #[.slice xo xn xc, .slice yo yn yc] 36)) F sb (some ⟨lg, 0, none⟩) (some ⟨wg, 0, none⟩) n lc vc sz xs ws zs I ∧ Arw (W2.alloc (.cells #[.slice xo xn xc, .slice yo yn yc] 36)) (.slice xo xn xc, .slice yo yn yc) z2 ∧ (∀ g, F g → S g ∨ w.heap.size ≤ g) ∧ Chg (fun g => S g ∨ w.heap.size ≤ g) w (W2.alloc (.cells #[.slice xo xn xc, .slice yo yn yc] 36))) := ⟨EA, ⟨_, _, _, _, _, _, rfl, f1, f2⟩, hF, hCA⟩
      obtain ⟨g0, g1, g2, g3, _, _⟩ := HS2
      clear HS0 cE HE HBk E2 bw hBk0 hF hC0 hBk2 hC2 hz2 bA nA EA BA hCA f1 f2 ss1 ss2 b2
      go_wp2_with (go_at_call 9; refine cT.mono ?_; rintro e W7 ⟨rfl, ⟨so', ao', m', sc', ac', sz', vs', us', B7⟩, K7⟩)
      go_roundg (n - (I + 1))
      case measure => omega
      case rel =>
        obtain ⟨q1, q2, q3, q4⟩ := HT.out
        have hin : ∀ g, (F g ∨ (W2.alloc (.cells #[.slice xo xn xc, .slice yo yn yc] 36)).heap.size ≤ g ∨ (Value.slice xo xn xc).ownBlock = some g ∨ (Value.slice yo yn yc).ownBlock = some g) → S g ∨ w.heap.size ≤ g := fun g hg => by
          rcases hg with hg | hg | hg | hg
          · exact q3 g hg
          · exact .inr (Nat.le_trans q4.size hg)
          · exact .inl ((HH.out.fx I _ HIk.out.2.1).1 g hg)
          · exact .inl ((HH.out.fx I _ HIk.out.2.1).2 g hg)
        exact ⟨I + 1, by omega, rfl, (by first | go_num | (refine congrArg (Value.int .i64) ?_; unfold wrap64; omega)), _, _, _, _, _, _, _, _, _, B7.trim, (q1.next HIk.out.2.1 q2 (fun g hg => hg) K7 HH.out.ap HH.out.aw).mono fun g hg => hg.1, fun g hg => hin g hg.1, q4.trans (K7.mono fun g _ hg => hin g hg)⟩
    · obtain rfl : I = n := by omega
      have t1 : decide ((I : Int) < (I : Int)) = false := by simp
      have cW := whole_any bb so ao m bsc bac bsz vs us F wr hBk
      clear hlt
      go_wp2_with (go_at_call 12; (with_reducible refine cW.mono ?_); rintro e W7 ⟨rfl, hVV⟩; rw [hVV]; clear hVV)
      go_ret
      exact ⟨rfl, hC⟩
end Go.Proofs.Ytlajainnpnbcaaa
