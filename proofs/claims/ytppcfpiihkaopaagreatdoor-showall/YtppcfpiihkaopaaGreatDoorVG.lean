
/- Contract of take. -/

import Derived.Test.YtppcfpiihkaopaaGreatDoorVF

namespace Go.Proofs.YtppcfpiihkaopaaGreatDoor

open Go.RowKit

set_option linter.unusedVariables false

theorem parse_below {w w' : World} (h : w' = w ∨ ∃ t, w' = Lib.bytesWorld w 5 t) : Below w.heap.size w w' := by
  rcases h with rfl | ⟨t, rfl⟩
  · exact Below.refl _ _
  · exact Lib.bytesWorld_below _ _ _
theorem Rdr.below {W W' : World} {B g : Nat} {s : List UInt8} {a f : Nat} {d : Int} {lo : Option Addr} {ln lc : Nat} {L : List Int} {no : Option Addr} {nn nc : Nat} {N : List Int} (h : Rdr W B g s a f d lo ln lc L no nn nc N) (k : Below W.heap.size W W') : Rdr W' B g s a f d lo ln lc L no nn nc N :=
  ⟨(k.block g (Array.getElem?_eq_some_iff.1 h.row).1).trans h.row, h.fl.below k (Nat.le_refl _), h.fn.below k (Nat.le_refl _)⟩
/-- A statement's append: which block is changed. -/
theorem wpList_joinG2 {s e : TypeId} (ty : Ty s e) {w : World} {ops : Array Oper} {rest : List Oper} {o : Oper} {a : Act} {Q : Exit → Act → World → Prop} (hgd : o.guard = none) (p x : Operand)
    (ho : o.op = .call { callee := .builtin .append, args := #[p, x], argTypes := #[s, s] }) (B : Nat) (ao bo : Option Addr) (n cap m cap' : Nat) (zs ys : List Int)
    (hs : a.eval p = .slice ao n cap) (hx : a.eval x = .slice bo m cap') (h : Ft e w B ao n cap zs) (g : Rd w bo m ys) (gs : Sl bo m cap') (hr : (n + m) * 8 ≤ 140737488351232) (hB : B ≤ w.heap.size)
    (hK : ∀ co c w', Ft e w' B co (n + m) c (zs ++ ys) → w.grownBy w' (Value.slice ao n cap).ownBlock → wpList Tryz.prog ops Q rest (a.put o.dst (.slice co (n + m) c)) w') : wpList Tryz.prog ops Q (o :: rest) a w := by
  obtain ⟨co, c, w', hrun, hf, hg⟩ := run_joinT ty o.type B ao bo n cap m cap' zs ys h g gs hr hB
  exact wpList_append_run hgd p x s ho _ (by rw [hs, hx]; exact hrun) (hK _ _ _ hf hg)
theorem Ft.ownKind {e : TypeId} {w : World} {B : Nat} {ao : Option Addr} {n cap : Nat} {zs : List Int} (h : Ft e w B ao n cap zs) : ∀ g, (Value.slice ao n cap).ownBlock = some g → B ≤ g ∧ ∃ cur, w.heap[g]? = some (.cells cur e (0, 0)) := by
  intro g hg
  rcases h.own.2 with ⟨e1, _⟩ | ⟨g', c, cur, e1, hb, hg', _⟩
  · cases e1; simp [Value.ownBlock] at hg
  · cases e1
    simp [Value.ownBlock] at hg
    subst hg
    exact ⟨hb, cur, hg'⟩
theorem Ft.other {e t : TypeId} {w w' : World} {B b : Nat} {ao : Option Addr} {n cap : Nat} {zs : List Int} (h : Ft e w B ao n cap zs) (hg : w.grownBy w' (Value.slice ao n cap).ownBlock) {cur : Array Value} (hb : w.heap[b]? = some (.cells cur t (0, 0))) (hne : t ≠ e) : w'.heap[b]? = some (.cells cur t (0, 0)) := by
  refine (hg.block b (Array.getElem?_eq_some_iff.1 hb).1 (fun e1 => ?_)).trans hb
  obtain ⟨_, cur', h2⟩ := h.ownKind b e1.symm
  rw [hb] at h2
  cases h2
  exact hne rfl
theorem Ft.beside {e t : TypeId} {w w' : World} {B : Nat} {ao bo : Option Addr} {n cap m cap' : Nat} {zs ys : List Int} (h : Ft e w B ao n cap zs) (hg : w.grownBy w' (Value.slice ao n cap).ownBlock) (k : Ft t w B bo m cap' ys) (hne : t ≠ e) : Ft t w' B bo m cap' ys :=
  k.keep1 hg (fun b off eb e1 => by
    obtain ⟨_, cur', h2⟩ := h.ownKind b e1.symm
    rcases k.own.2 with ⟨e3, _⟩ | ⟨g, c', cur, e3, _, hg', _⟩
    · cases e3; cases eb
    · cases e3; cases eb
      rw [hg'] at h2
      cases h2
      exact hne rfl)
theorem Ft.growsBelow {e : TypeId} {w w' : World} {B : Nat} {ao : Option Addr} {n cap : Nat} {zs : List Int} (h : Ft e w B ao n cap zs) (hg : w.grownBy w' (Value.slice ao n cap).ownBlock) (hB : B ≤ w.heap.size) : Below B w w' :=
  (Below.refl _ _).grown hg hB (fun k e => (h.own.lt k e).1)
/-- A field of the reader is written. -/
theorem Rdr.set5 {W : World} {B g : Nat} {s : List UInt8} {a f : Nat} {d : Int} {lo : Option Addr} {ln lc : Nat} {L : List Int} {no : Option Addr} {nn nc : Nat} {co : Option Addr} {cn cc : Nat} {N : List Int}
    (hr : W.heap[g]? = some (.cells #[.string ⟨s.toArray⟩, .int .i64 (a : Int), .int .i64 (f : Int), .int .i64 d, .slice lo ln lc, .slice no nn nc] 56 (0, 0))) (hl : Ft 3 W B lo ln lc L) (hn : Ft 2 W B co cn cc N) : Rdr (W.setCell ⟨g, 5, none⟩ (.slice co cn cc)) B g s a f d lo ln lc L co cn cc N :=
  ⟨heap_setCell_same W g 5 _ 56 (.slice co cn cc) hr, hl.kind (set1 W g 5 _) hr (by decide), hn.kind (set1 W g 5 _) hr (by decide)⟩
set_option maxHeartbeats 2000000 in
theorem take_no (W : World) (B g : Nat) (s : List UInt8) (a f : Nat) (d : Int) (lo : Option Addr) (ln lc : Nat) (L : List Int) (no : Option Addr) (nn nc : Nat) (N : List Int) (h : Rdr W B g s a f d lo ln lc L no nn nc N) (ha : a ≤ s.length) (hs : s.length ≤ 1048576) (hf : f ≤ a) (T : Tb W)
    (c : UInt8) (r : List UInt8) (hp : pce s f a = c :: r) (hv : Lib.parseIntB 64 (fixm (c :: r)) = .range) :
    Calls Tryz.prog 46 #[.pointer (some ⟨g, 0, none⟩)] W fun e W' => e = .returned (.bool false) ∧ Below W.heap.size W W' := by
  obtain ⟨c0, c1, c2, c3, c4, c5, cz⟩ := box6 h.row
  have hrl : r.length ≤ 1048576 := by
    have := congrArg List.length hp
    unfold pce at this
    simp at this; omega
  have b1 : (f : Int) ≤ (a : Int) := by omega
  have b2 : (a : Int) ≤ (s.length : Int) := by omega
  have HP : Hid ((⟨s.toArray⟩ : ByteArray).extract f a = ⟨(c :: r).toArray⟩) := by show _ = _; rw [bs_cut]; exact congrArg (fun l : List UInt8 => (⟨l.toArray⟩ : ByteArray)) hp
  clear h hp
  by_cases h95 : c = 95
  · subst h95
    have HV : fixm (95 :: r) = 45 :: r := rfl
    rw [HV] at hv
    have HP2 : Hid ((⟨#[45]⟩ : ByteArray) ++ (⟨(95 :: r).toArray⟩ : ByteArray).extract 1 (r.length + 1) = ⟨(45 :: r).toArray⟩) := by show _ = _; rw [bs_cut, bs_app _ _]; simp
    have t95 : ((((⟨(95 :: r).toArray⟩ : ByteArray)[0]'(by rw [bs_size]; simp)).toNat : Int) == 95) = true := rfl
    have tl : ¬ 9223372036854775807 < 1 + r.length := by omega
    obtain ⟨tp, p, ev⟩ := T.er
    have cP := fun q => Tryz.strconv_ParseInt_10_at64_range_var ⟨(45 :: r).toArray⟩ (by rw [bs_size]; simp; omega) hv tp p (W.drewN q) (var_below ev (drewN_belowS W q))
    generalize Lib.intSat 64 (⟨(45 :: r).toArray⟩ : ByteArray).data.toList = sat at cP
    clear hv HV ev
    go_enter Tryz.func46, Tryz.ntmps46
    go_wp2
    go_quiet (fail)
    rw [HP.out]
    go_wp2_with (go_at_call 65; rw [HP2.out]; (with_reducible refine (cP nq).mono ?_); rintro e w1 ⟨Ne, rfl, _, _, j1⟩; have J1 := (drewN_belowS W nq).trans (j1.mono (Nat.le_refl _)))
    go_ret
    exact ⟨rfl, J1⟩
  · have HV : fixm (c :: r) = c :: r := by show (if c = 95 then _ else _) = _; rw [if_neg h95]
    rw [HV] at hv
    have t95 : ((((⟨(c :: r).toArray⟩ : ByteArray)[0]'(by rw [bs_size]; simp)).toNat : Int) == 95) = false := by
      show (((c.toNat : Int)) == 95) = false
      simp only [beq_eq_false_iff_ne, ne_eq]
      intro e
      exact h95 (byte_eq (n := 95) (by omega))
    clear h95
    obtain ⟨tp, p, ev⟩ := T.er
    have cP := fun q => Tryz.strconv_ParseInt_10_at64_range_var ⟨(c :: r).toArray⟩ (by rw [bs_size]; simp; omega) hv tp p (W.drewN q) (var_below ev (drewN_belowS W q))
    generalize Lib.intSat 64 (⟨(c :: r).toArray⟩ : ByteArray).data.toList = sat at cP
    clear hv HV ev
    go_enter Tryz.func46, Tryz.ntmps46
    go_wp2
    go_quiet (fail)
    rw [HP.out]
    go_wp2_with (go_at_call 65; (with_reducible refine (cP nq).mono ?_); rintro e w1 ⟨Ne, rfl, _, _, j1⟩; have J1 := (drewN_belowS W nq).trans (j1.mono (Nat.le_refl _)))
    go_ret
    exact ⟨rfl, J1⟩
set_option maxHeartbeats 2000000 in
theorem take_ok (W : World) (B g : Nat) (s : List UInt8) (a f : Nat) (d : Int) (lo : Option Addr) (ln lc : Nat) (L : List Int) (no : Option Addr) (nn nc : Nat) (N : List Int) (h : Rdr W B g s a f d lo ln lc L no nn nc N) (ha : a ≤ s.length) (hs : s.length ≤ 1048576) (hf : f ≤ a) (T : Tb W)
    (c : UInt8) (r : List UInt8) (hp : pce s f a = c :: r) (v : Int) (hv : Lib.parseIntB 64 (fixm (c :: r)) = .ok v) (hnn : nn ≤ 1048576) (hBg : B ≤ g) (hBW : B ≤ W.heap.size) :
    Calls Tryz.prog 46 #[.pointer (some ⟨g, 0, none⟩)] W fun e W' => e = .returned (.bool true) ∧ ∃ co cc, Rdr W' B g s a f d lo ln lc L co (nn + 1) cc (N ++ [v]) ∧ Below B W W' := by
  have hvb : -9223372036854775808 ≤ v ∧ v ≤ 9223372036854775807 := by
    have := Lib.parseIntB_bounds hv
    rw [p63] at this
    omega
  obtain ⟨c0, c1, c2, c3, c4, c5, cz⟩ := box6 h.row
  have hrl : r.length ≤ 1048576 := by
    have := congrArg List.length hp
    unfold pce at this
    simp at this; omega
  have b1 : (f : Int) ≤ (a : Int) := by omega
  have b2 : (a : Int) ≤ (s.length : Int) := by omega
  have HP : Hid ((⟨s.toArray⟩ : ByteArray).extract f a = ⟨(c :: r).toArray⟩) := by show _ = _; rw [bs_cut]; exact congrArg (fun l : List UInt8 => (⟨l.toArray⟩ : ByteArray)) hp
  clear hp
  by_cases h95 : c = 95
  · subst h95
    have HV : fixm (95 :: r) = 45 :: r := rfl
    rw [HV] at hv
    have HP2 : Hid ((⟨#[45]⟩ : ByteArray) ++ (⟨(95 :: r).toArray⟩ : ByteArray).extract 1 (r.length + 1) = ⟨(45 :: r).toArray⟩) := by show _ = _; rw [bs_cut, bs_app _ _]; simp
    have t95 : ((((⟨(95 :: r).toArray⟩ : ByteArray)[0]'(by rw [bs_size]; simp)).toNat : Int) == 95) = true := rfl
    have tl : ¬ 9223372036854775807 < 1 + r.length := by omega
    have cP := fun q => Tryz.strconv_ParseInt_10_at64_ok ⟨(45 :: r).toArray⟩ (by rw [bs_size]; simp; omega) v hv (W.drewN q)
    clear hv HV
    go_enter Tryz.func46, Tryz.ntmps46
    go_wp2
    go_quiet (fail)
    rw [HP.out]
    go_upto_region 5 with (go_at_call 65; rw [HP2.out]; (with_reducible refine (cP nq).mono ?_); rintro e w1 ⟨rfl, hw⟩; have J1 := (drewN_belowS W nq).trans ((parse_below hw).mono (Nat.le_refl _)); clear hw; have R1 := h.below J1; obtain ⟨x0, x1, x2, x3, x4, x5, xz⟩ := box6 R1.row)
    have hv1 : -9223372036854775808 ≤ v ∧ v ≤ 9223372036854775807 := hvb
    have k2 := box_below w1 (.cells #[.int .i64 v] 2)
    have R2 := R1.below k2
    obtain ⟨y0, y1, y2, y3, y4, y5, yz⟩ := box6 R2.row
    have y5z := yz 5
    have FV := ft_new 2 w1 [v] (by simp) (fun k hk => by
      have : k = 0 := by simpa using hk
      subst this; exact hvb)
    have g1 := (Array.getElem?_eq_some_iff.1 R1.row).1
    have hB2 : B ≤ (w1.alloc (.cells #[.int .i64 v] 2)).heap.size := by simp; have := J1.size; have := (Array.getElem?_eq_some_iff.1 h.row).1; omega
    go_wp2_with (at_builtin; refine wpList_joinG2 tyL rfl _ _ rfl B no (some ⟨w1.heap.size, 0, none⟩) nn nc 1 1 N [v] rfl rfl R2.fn FV.rd FV.sl (by omega) hB2 ?_; intro co3 cc3 w7 f7 g7; have r7 := R2.fn.other g7 R2.row (by decide); have l7 := R2.fn.beside g7 R2.fl (by decide); have b7 := R2.fn.growsBelow g7 hB2; obtain ⟨u0, u1, u2, u3, u4, u5, uz⟩ := box6 r7; have u5z := uz 5)
    go_ret
    refine ⟨rfl, co3, cc3, Rdr.set5 r7 l7 f7, ?_⟩
    have J2 := (J1.trans (k2.mono J1.size)).mono hBW
    exact (J2.trans b7).setCell (p := ⟨g, 5, none⟩) hBg _
  · have HV : fixm (c :: r) = c :: r := by show (if c = 95 then _ else _) = _; rw [if_neg h95]
    rw [HV] at hv
    have t95 : ((((⟨(c :: r).toArray⟩ : ByteArray)[0]'(by rw [bs_size]; simp)).toNat : Int) == 95) = false := by
      show (((c.toNat : Int)) == 95) = false
      simp only [beq_eq_false_iff_ne, ne_eq]
      intro e
      exact h95 (byte_eq (n := 95) (by omega))
    clear h95
    have cP := fun q => Tryz.strconv_ParseInt_10_at64_ok ⟨(c :: r).toArray⟩ (by rw [bs_size]; simp; omega) v hv (W.drewN q)
    clear hv HV
    go_enter Tryz.func46, Tryz.ntmps46
    go_wp2
    go_quiet (fail)
    rw [HP.out]
    go_upto_region 5 with (go_at_call 65; (with_reducible refine (cP nq).mono ?_); rintro e w1 ⟨rfl, hw⟩; have J1 := (drewN_belowS W nq).trans ((parse_below hw).mono (Nat.le_refl _)); clear hw; have R1 := h.below J1; obtain ⟨x0, x1, x2, x3, x4, x5, xz⟩ := box6 R1.row)
    have hv1 : -9223372036854775808 ≤ v ∧ v ≤ 9223372036854775807 := hvb
    have k2 := box_below w1 (.cells #[.int .i64 v] 2)
    have R2 := R1.below k2
    obtain ⟨y0, y1, y2, y3, y4, y5, yz⟩ := box6 R2.row
    have y5z := yz 5
    have FV := ft_new 2 w1 [v] (by simp) (fun k hk => by
      have : k = 0 := by simpa using hk
      subst this; exact hvb)
    have g1 := (Array.getElem?_eq_some_iff.1 R1.row).1
    have hB2 : B ≤ (w1.alloc (.cells #[.int .i64 v] 2)).heap.size := by simp; have := J1.size; have := (Array.getElem?_eq_some_iff.1 h.row).1; omega
    go_wp2_with (at_builtin; refine wpList_joinG2 tyL rfl _ _ rfl B no (some ⟨w1.heap.size, 0, none⟩) nn nc 1 1 N [v] rfl rfl R2.fn FV.rd FV.sl (by omega) hB2 ?_; intro co3 cc3 w7 f7 g7; have r7 := R2.fn.other g7 R2.row (by decide); have l7 := R2.fn.beside g7 R2.fl (by decide); have b7 := R2.fn.growsBelow g7 hB2; obtain ⟨u0, u1, u2, u3, u4, u5, uz⟩ := box6 r7; have u5z := uz 5)
    go_ret
    refine ⟨rfl, co3, cc3, Rdr.set5 r7 l7 f7, ?_⟩
    have J2 := (J1.trans (k2.mono J1.size)).mono hBW
    exact (J2.trans b7).setCell (p := ⟨g, 5, none⟩) hBg _
end Go.Proofs.YtppcfpiihkaopaaGreatDoor
