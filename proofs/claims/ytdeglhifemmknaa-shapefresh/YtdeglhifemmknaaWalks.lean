
/- Contracts of package shape's All, of what it hands out, and of the statements' own walks over it. -/

import Derived.Test.YtdeglhifemmknaaAt

namespace Go.Proofs.Ytdeglhifemmknaa

open Go.RowKit

set_option linter.unusedVariables false

theorem func_not_nil (f : Fn) (bs caps : Array Value) (w : World) : (binOp .eql 53 (.func f bs caps) .nilFunc).run Try.prog w = .ok (.bool false) w := by
  have h : (Op.equal 53 (.func f bs caps) .nilFunc).run Try.prog w = .ok false w := by
    unfold Op.equal
    show (Op.equalIn (9999 + 1) 53 (.func f bs caps) .nilFunc).run Try.prog w = .ok false w
    rw [Op.equalIn]
    simp [Sem.run_bind, run_underlying Try.underlying53, Result.andThen]
  simp [binOp, go_sem, h]

/-- What All hands out: how many places there are, and a list of its own. -/
structure Sq (w : World) (B1 B2 : Nat) (co : Option Addr) (n c : Nat) (zs : List Int) : Prop where
  size : Boxed w B1 3 (.int .i64 (sizeF zs))
  list : Boxed w B2 28 (.slice co n c)
  rd : Rd w co n zs

theorem Sq.below {w w' : World} {B1 B2 B : Nat} {co : Option Addr} {n c : Nat} {zs : List Int} (h : Sq w B1 B2 co n c zs) (hb : Below B w w') (hB : w.heap.size ≤ B) : Sq w' B1 B2 co n c zs :=
  ⟨(hb.block B1 (Nat.lt_of_lt_of_le h.size.lt hB)).trans h.size, (hb.block B2 (Nat.lt_of_lt_of_le h.list.lt hB)).trans h.list, h.rd.below hb hB⟩

theorem all_any (ao : Option Addr) (n cap : Nat) (zs : List Int) (w : World) (h : Rd w ao n zs) :
    Calls Try.prog 20 #[.slice ao n cap] w fun e w' => ∃ B1 B2 co c, e = .returned (.func (.func 34) #[] #[.pointer (some ⟨B1, 0, none⟩), .pointer (some ⟨B2, 0, none⟩)]) ∧
      Sq w' B1 B2 co n c zs ∧ Fr w' w.heap.size co n c zs ∧ w.heap.size ≤ B1 ∧ w.heap.size ≤ B2 ∧ Below w.heap.size w w' := by
  have hs := size_any ao n cap zs w h
  have h1 := h.alloc (.cells #[.int .i64 (sizeF zs)] 3)
  have hc := copied_any ao n cap zs _ h1
  have b1 := Boxed.new w 3 (.int .i64 (sizeF zs))
  have hbd := sizeF_bd zs
  go_enter Try.func20, Try.ntmps20
  go_wp2_with (first | (go_at_call 12; refine hs.mono ?_; rintro e w' ⟨rfl, hw⟩; rw [hw]; clear hw w') | (go_at_call 28; refine hc.mono ?_; rintro e w2 ⟨co, c, rfl, hf, hb⟩))
  go_ret
  have b1' : Boxed w2 w.heap.size 3 (.int .i64 (sizeF zs)) := (hb.block _ (by simp)).trans b1
  have hsz : w.heap.size + 1 ≤ w2.heap.size := by have := hb.size; simpa using this
  refine ⟨w.heap.size, w2.heap.size, co, c, rfl, ⟨b1'.alloc _, Boxed.new w2 28 _, hf.rd.alloc _⟩, (hf.kept (World.grownBy_alloc _ _ none) (by simp)).mono (by simp), Nat.le_refl _, by omega, ?_⟩
  exact (((Below.refl _ w).alloc (Nat.le_refl _) _).trans (hb.mono (by simp))).alloc (by omega) _

/-- Between two rounds of walks: its four variables, and what lies below. -/
structure WI (w : World) (so : Option Addr) (m sc : Nat) (want : Int) (k : Nat) (W : World) : Prop where
  s : Boxed W w.heap.size 28 (.slice so m sc)
  want : Boxed W (w.heap.size + 1) 3 (.int .i64 want)
  ok : Boxed W (w.heap.size + 1 + 1) 4 (.bool true)
  i : Boxed W (w.heap.size + 1 + 1 + 1) 3 (.int .i64 (k : Nat))
  bel : Below w.heap.size w W

theorem WI.kept {w : World} {so : Option Addr} {m sc : Nat} {want : Int} {k : Nat} {row : Option Nat} {W W' : World} (h : WI w so m sc want k W) (hg : W.grownBy W' row) (hl : ∀ l, row = some l → w.heap.size + 4 ≤ l) : WI w so m sc want k W' := by
  have ne : ∀ b, b < w.heap.size + 4 → some b ≠ row := fun b hb e => by have := hl b e.symm; omega
  exact ⟨h.s.kept hg (ne _ (by omega)), h.want.kept hg (ne _ (by omega)), h.ok.kept hg (ne _ (by omega)), h.i.kept hg (ne _ (by omega)), h.bel.grown hg h.bel.size (fun k e => by have := hl k e; omega)⟩
theorem WI.below {w : World} {so : Option Addr} {m sc : Nat} {want : Int} {k B : Nat} {W W' : World} (h : WI w so m sc want k W) (hb : Below B W W') (hB : W.heap.size ≤ B) : WI w so m sc want k W' :=
  h.kept (grown_of_below (hb.mono hB)) (by simp)
theorem WI.setOk {w : World} {so : Option Addr} {m sc : Nat} {want : Int} {k : Nat} {W : World} (h : WI w so m sc want k W) : WI w so m sc want k (W.setCell ⟨w.heap.size + 1 + 1, 0, none⟩ (.bool true)) :=
  ⟨h.s.other (by omega) _, h.want.other (by omega) _, h.ok.set _, h.i.other (by omega) _, h.bel.setCell (p := ⟨w.heap.size + 1 + 1, 0, none⟩) (by simp; omega) _⟩
theorem WI.setI {w : World} {so : Option Addr} {m sc : Nat} {want : Int} {k : Nat} {W : World} (h : WI w so m sc want k W) : WI w so m sc want (k + 1) (W.setCell ⟨w.heap.size + 1 + 1 + 1, 0, none⟩ (.int .i64 ((k : Int) + 1))) :=
  ⟨h.s.other (by omega) _, h.want.other (by omega) _, h.ok.other (by omega) _, h.i.set _, h.bel.setCell (p := ⟨w.heap.size + 1 + 1 + 1, 0, none⟩) (by simp; omega) _⟩

set_option maxHeartbeats 4000000 in
set_option maxRecDepth 20000 in
theorem walks1_any (w : World) (so : Option Addr) (m sc : Nat) (want : Int) (k : Nat) (W : World) (zs : List Int) (hs : Rd w so m zs) (h0 : mayF zs = 0) (hk : (k : Int) < want) (hw : want ≤ pr zs) (hI : WI w so m sc want k W) (ao : Option Addr) (c Bq : Nat) (hf : Fr W Bq ao m c (digs zs k)) (hBq : w.heap.size + 4 ≤ Bq) :
    Calls Try.prog 33 #[.int .i64 (k : Nat), .slice ao m c, .pointer (some ⟨w.heap.size, 0, none⟩), .pointer (some ⟨w.heap.size + 1 + 1 + 1, 0, none⟩), .pointer (some ⟨w.heap.size + 1 + 1, 0, none⟩), .pointer (some ⟨w.heap.size + 1, 0, none⟩)] W
      fun e W' => e = .returned (.bool (decide ((k : Int) + 1 < want))) ∧ WI w so m sc want (k + 1) W' := by
  have hroom := hs.room
  have hb := pr_le h0
  have hsW := hs.below hI.bel (Nat.le_refl _)
  have hat := refAt_any so m sc zs (k : Nat) W hsW (by omega) (by omega)
  have e0 := at_in h0 (show (0 : Int) ≤ (k : Nat) by omega) (by omega)
  rw [e0.1, e0.2] at hat
  have heq : ∀ W2 co k2 c2, Rd W2 ao m (digs zs k) → Rd W2 co k2 (digs zs k) → Calls Try.prog 11 #[.slice ao m c, .slice co k2 c2] W2 fun e w' => e = .returned (.bool true) ∧ ∃ q, w' = W2.drewN q := fun W2 co k2 c2 h1 h2 => by
    have := eqInts_any ao co m k2 c c2 _ _ W2 h1 h2
    rwa [eqB_refl] at this
  have cs := hI.s.cell
  have ci := hI.i.cell
  clear e0
  go_enter Try.func33, Try.ntmps33
  go_wp2_with (first | (go_at_call 21; refine hat.mono ?_; rintro e w2 ⟨co, k2, c2, rfl, hf2, hb2⟩; have hI2 := hI.below hb2 (Nat.le_refl _); have hf2' := hf.below hb2 (Nat.le_refl _); have r1 := hf2'.rd; have r2 := hf2.rd; have cs2 := hI2.s.cell; have ci2 := hI2.i.cell; have co2 := hI2.ok.cell; have cw2 := hI2.want.cell; have zo2 := hI2.ok.frozen; clear cs ci hat hI) | (go_at_call 11; refine (heq _ _ _ _ (by assumption) (by assumption)).mono ?_; rintro e w3 ⟨rfl, q, hq⟩; have hI3 : WI w so m sc want k w3 := (by rw [hq]; exact hI2.below (below_drewN (Below.refl _ _) q) (Nat.le_refl _)); have hf3 : Fr w3 Bq ao m c (digs zs k) := (by rw [hq]; exact hf2'.below (below_drewN (Below.refl _ _) q) (Nat.le_refl _)); have co3 := hI3.ok.cell; have zo3 := hI3.ok.frozen; clear hq heq cs2 ci2 co2 cw2 zo2 r1 r2))
  have hI4 := hI3.setOk
  have hf4 : Fr (w3.setCell ⟨w.heap.size + 1 + 1, 0, none⟩ (.bool true)) Bq ao m c (digs zs k) := hf3.kept (grownBy_setCell' w3 _ _) (fun b off e => by
    rcases hf3.own.2 with ⟨e2, _⟩ | ⟨g, cc, cur, e2, hg, _⟩
    · cases e2; cases e
    · cases e2; cases e; exact some_ne (by omega))
  go_loopw [11] (fun j wr => ∃ i : Nat, i ≤ m ∧ j = .int .i64 (i : Nat) ∧ WI w so m sc want k wr ∧ ∃ ys, Fr wr Bq ao m c ys) (fun j _ => m - (intOf j).toNat)
  case atStart => exact ⟨0, Nat.zero_le _, rfl, hI4, _, hf4⟩
  case round =>
    obtain ⟨i, hi, rfl, hIr, ys, hfr⟩ := hrel
    clear hI4 hf4 hI3 hf3 co3 zo3 hI2 hf2'
    by_cases hlt : i < m
    · obtain ⟨g, rfl, hg1, hg2, hc1, hz1⟩ := hfr.head (by omega)
      have c1 := hc1 i hlt
      have z1 := hz1 i
      clear hc1 hz1
      go_wp2
      go_roundw
      case rel => exact ⟨i + 1, by omega, by go_num, hIr.kept (hfr.own.stored i (.int .i64 (-5))).2 (fun l e => by cases e; omega), _, hfr.set i hlt (-5) (by omega) (by omega)⟩
      case measure => simp [intOf]; omega
    · have ci := hIr.i.cell
      have zi := hIr.i.frozen
      have hI5 := hIr.setI
      have ci5 := hI5.i.cell
      have cw5 := hI5.want.cell
      go_wp2
      go_ret
      exact ⟨rfl, hI5⟩

set_option maxHeartbeats 2000000 in
set_option maxRecDepth 20000 in
/-- What All handed out, called by walks: it goes on till walks has had enough. -/
theorem all1_walks (w : World) (so : Option Addr) (m sc : Nat) (want : Int) (W : World) (zs : List Int) (hs : Rd w so m zs) (B1 B2 : Nat) (co : Option Addr) (c : Nat) (hq : Sq w B1 B2 co m c zs)
    (hsz : sizeF zs = 0 ∧ want = 0 ∨ 0 < want ∧ want ≤ sizeF zs) (hI : WI w so m sc want 0 W) :
    Calls Try.prog 34 #[.func (.func 33) #[] #[.pointer (some ⟨w.heap.size, 0, none⟩), .pointer (some ⟨w.heap.size + 1 + 1 + 1, 0, none⟩), .pointer (some ⟨w.heap.size + 1 + 1, 0, none⟩), .pointer (some ⟨w.heap.size + 1, 0, none⟩)], .pointer (some ⟨B1, 0, none⟩), .pointer (some ⟨B2, 0, none⟩)] W
      fun e W' => (∃ v, e = .returned v) ∧ WI w so m sc want want.toNat W' := by
  have hbd := sizeF_bd zs
  have q0 := hq.below hI.bel (Nat.le_refl _)
  have c1 := q0.size.cell
  go_enter Try.func34, Try.ntmps34
  go_wp2
  go_loopw [6] (fun i wr => ∃ k : Nat, i = .int .i64 (k : Nat) ∧ (sizeF zs = 0 ∧ k = 0 ∨ (k : Int) < want) ∧ WI w so m sc want k wr) (fun i _ => ((sizeF zs) - intOf i).toNat)
  case atStart => exact ⟨0, rfl, by rcases hsz with ⟨h, _⟩ | ⟨h, _⟩; (· exact .inl ⟨h, rfl⟩); exact .inr (by simpa using h), hI⟩
  case round =>
    obtain ⟨k, rfl, hk, hIr⟩ := hrel
    have hlt4 := hIr.i.lt
    clear c1
    have q1 := hq.below hIr.bel (Nat.le_refl _)
    by_cases hz : sizeF zs = 0
    · obtain rfl : k = 0 := by
        rcases hk with ⟨_, h⟩ | h
        · exact h
        · rcases hsz with ⟨_, h2⟩ | ⟨h2, h3⟩ <;> omega
      have hw0 : want = 0 := by rcases hsz with ⟨_, h2⟩ | ⟨h2, h3⟩ <;> omega
      have hn : ¬ ((0 : Nat) : Int) < sizeF zs := by omega
      have HW : Hid (want = 0) := hw0
      clear hw0 hsz hk hz
      go_wp2
      go_end0
      exact ⟨⟨_, rfl⟩, by rw [HW.out]; rw [HW.out] at hIr; exact hIr⟩
    · have h0 : mayF zs = 0 := by
        by_cases e : mayF zs = 0
        · exact e
        · exact absurd (sizeF_no e) hz
      have hpr : sizeF zs = pr zs := sizeF_ok h0
      have hkw : (k : Int) < want := by rcases hk with ⟨h, _⟩ | h; (· exact absurd h hz); exact h
      have hwp : want ≤ pr zs := by rcases hsz with ⟨h, _⟩ | ⟨_, h⟩; (· exact absurd h hz); rw [← hpr]; exact h
      have hks : (k : Int) < sizeF zs := by omega
      have hpos := allPos_of h0 (p := (k : Nat)) (by omega) (by omega)
      have hpb := pr_le h0
      have cl := q1.list.cell
      have hi := indices_any co m c zs (k : Nat) wr q1.rd hpos (by omega) (by omega)
      have HW : Hid (want ≤ pr zs) := hwp
      have hy := fun W2 (hI2 : WI w so m sc want k W2) (ao : Option Addr) (c' : Nat) (hf : Fr W2 wr.heap.size ao m c' (digs zs k)) => walks1_any w so m sc want k W2 zs hs h0 hkw HW.out hI2 ao c' _ hf (by omega)
      have HP : Hid (sizeF zs = pr zs) := hpr
      have H0 : Hid (mayF zs = 0) := h0
      clear hpr hk hsz hz h0 q0 hwp
      by_cases hnext : (k : Int) + 1 < want
      · have hd : decide ((k : Int) + 1 < want) = true := by simpa using hnext
        rw [hd] at hy
        clear hd
        go_wp2_with (first | (go_at_call 26; refine hi.mono ?_; rintro e w2 ⟨ao, c2, rfl, hf, hb2⟩; have hI2 := hIr.below hb2 (Nat.le_refl _)) | (go_at_call 33; refine (hy _ (by assumption) _ _ (by assumption)).mono ?_; rintro e w3 ⟨rfl, hI3⟩))
        go_roundw
        case rel => exact ⟨k + 1, by go_num, .inr (by omega), hI3⟩
        case measure => simp [intOf]; omega
      · have hd : decide ((k : Int) + 1 < want) = false := by simpa using hnext
        rw [hd] at hy
        clear hd
        go_wp2_with (first | (go_at_call 26; refine hi.mono ?_; rintro e w2 ⟨ao, c2, rfl, hf, hb2⟩; have hI2 := hIr.below hb2 (Nat.le_refl _)) | (go_at_call 33; refine (hy _ (by assumption) _ _ (by assumption)).mono ?_; rintro e w3 ⟨rfl, hI3⟩))
        refine bodyPost_ret (results_none rfl _ _ _) rfl ?_
        exact ⟨⟨_, rfl⟩, by rw [show want.toNat = k + 1 by omega]; exact hI3⟩

theorem wi_start (w : World) (so : Option Addr) (m sc : Nat) (want : Int) : WI w so m sc want 0 ((((w.alloc (.cells #[.slice so m sc] 28)).alloc (.cells #[.int .i64 want] 3)).alloc (.cells #[.bool true] 4)).alloc (.cells #[.int .i64 0] 3)) := by
  have b0 := Boxed.new w 28 (.slice so m sc)
  have b1 := Boxed.new (w.alloc (.cells #[.slice so m sc] 28)) 3 (.int .i64 want)
  have b2 := Boxed.new ((w.alloc (.cells #[.slice so m sc] 28)).alloc (.cells #[.int .i64 want] 3)) 4 (.bool true)
  have b3 := Boxed.new (((w.alloc (.cells #[.slice so m sc] 28)).alloc (.cells #[.int .i64 want] 3)).alloc (.cells #[.bool true] 4)) 3 (.int .i64 0)
  simp only [World.size_alloc] at b1 b2 b3
  exact ⟨((b0.alloc _).alloc _).alloc _, (b1.alloc _).alloc _, b2.alloc _, b3, ((((Below.refl _ w).alloc (Nat.le_refl _) _).alloc (by simp) _).alloc (by simp; omega) _).alloc (by simp; omega) _⟩

set_option maxHeartbeats 4000000 in
theorem walks_any (so : Option Addr) (m sc : Nat) (zs : List Int) (w : World) (hs : Rd w so m zs) (B1 B2 : Nat) (co : Option Addr) (c : Nat) (hq : Sq w B1 B2 co m c zs) (n : Int) (h1 : -9223372036854775808 ≤ n) (h2 : n ≤ 9223372036854775807) :
    Calls Try.prog 19 #[.func (.func 34) #[] #[.pointer (some ⟨B1, 0, none⟩), .pointer (some ⟨B2, 0, none⟩)], .slice so m sc, .int .i64 n] w fun e w' => e = .returned (.bool true) ∧ Below w.heap.size w w' := by
  have hbd := sizeF_bd zs
  have r1 := hs.alloc (.cells #[.slice so m sc] 28)
  have hm := refMay_any so m sc zs _ r1
  have hnf := func_not_nil (.func 34) #[] #[.pointer (some ⟨B1, 0, none⟩), .pointer (some ⟨B2, 0, none⟩)]
  have hal := fun want hz => all1_walks w so m sc want _ zs hs B1 B2 co c hq hz (wi_start w so m sc want)
  have fin : ∀ want : Int, 0 ≤ want → ∀ W', WI w so m sc want want.toNat W' → W'.cell? ⟨w.heap.size + 1 + 1 + 1, 0, none⟩ = some (.int .i64 want) := fun want h W' hI => by
    have := hI.i.cell
    rwa [Int.toNat_of_nonneg h] at this
  by_cases h0 : mayF zs = 0
  · have hc := refCount_any so m sc zs _ r1 h0
    rw [h0] at hm
    rw [← sizeF_ok h0] at hc
    clear h0
    by_cases hn : 0 < n ∧ n < sizeF zs
    · obtain ⟨hn1, hn2⟩ := hn
      have hal' := hal n (.inr ⟨hn1, by omega⟩)
      clear hal
      go_enter Try.func19, Try.ntmps19
      go_wp2_with (first | (go_at_call 31; refine hm.mono ?_; clear hm; rintro e w' ⟨rfl, hw⟩; rw [hw]; clear hw w') | (go_at_call 32; refine hc.mono ?_; clear hc; rintro e w' ⟨rfl, hw⟩; rw [hw]; clear hw w') | (go_at_call 34; refine hal'.mono ?_; rintro e w2 ⟨⟨v, rfl⟩, hI⟩; have ci := fin n (by omega) _ hI; have co2 := hI.ok.cell; have cw := hI.want.cell))
      go_ret
      exact ⟨rfl, hI.bel⟩
    · have hal' := hal (sizeF zs) (by omega)
      clear hal
      by_cases hn1 : 0 < n
      · have hn2 : ¬ n < sizeF zs := fun h => hn ⟨hn1, h⟩
        clear hn
        go_enter Try.func19, Try.ntmps19
        go_wp2_with (first | (go_at_call 31; refine hm.mono ?_; clear hm; rintro e w' ⟨rfl, hw⟩; rw [hw]; clear hw w') | (go_at_call 32; refine hc.mono ?_; clear hc; rintro e w' ⟨rfl, hw⟩; rw [hw]; clear hw w') | (go_at_call 34; refine hal'.mono ?_; rintro e w2 ⟨⟨v, rfl⟩, hI⟩; have ci := fin (sizeF zs) (by omega) _ hI; have co2 := hI.ok.cell; have cw := hI.want.cell))
        go_ret
        exact ⟨rfl, hI.bel⟩
      · clear hn
        go_enter Try.func19, Try.ntmps19
        go_wp2_with (first | (go_at_call 31; refine hm.mono ?_; clear hm; rintro e w' ⟨rfl, hw⟩; rw [hw]; clear hw w') | (go_at_call 32; refine hc.mono ?_; clear hc; rintro e w' ⟨rfl, hw⟩; rw [hw]; clear hw w') | (go_at_call 34; refine hal'.mono ?_; rintro e w2 ⟨⟨v, rfl⟩, hI⟩; have ci := fin (sizeF zs) (by omega) _ hI; have co2 := hI.ok.cell; have cw := hI.want.cell))
        go_ret
        exact ⟨rfl, hI.bel⟩
  · have hz := sizeF_no h0
    have hal' := hal 0 (.inl ⟨hz, rfl⟩)
    have h0' : (mayF zs == 0) = false := by simpa using h0
    clear hal hz h0
    by_cases hn1 : 0 < n
    · go_enter Try.func19, Try.ntmps19
      go_wp2_with (first | (go_at_call 31; refine hm.mono ?_; clear hm; rintro e w' ⟨rfl, hw⟩; rw [hw]; clear hw w') | (go_at_call 34; refine hal'.mono ?_; rintro e w2 ⟨⟨v, rfl⟩, hI⟩; have ci := fin 0 (by omega) _ hI; have co2 := hI.ok.cell; have cw := hI.want.cell))
      go_ret
      exact ⟨rfl, hI.bel⟩
    · go_enter Try.func19, Try.ntmps19
      go_wp2_with (first | (go_at_call 31; refine hm.mono ?_; clear hm; rintro e w' ⟨rfl, hw⟩; rw [hw]; clear hw w') | (go_at_call 34; refine hal'.mono ?_; rintro e w2 ⟨⟨v, rfl⟩, hI⟩; have ci := fin 0 (by omega) _ hI; have co2 := hI.ok.cell; have cw := hI.want.cell))
      go_ret
      exact ⟨rfl, hI.bel⟩
end Go.Proofs.Ytdeglhifemmknaa
