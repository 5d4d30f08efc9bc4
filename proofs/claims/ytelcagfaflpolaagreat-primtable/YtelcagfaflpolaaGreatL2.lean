
/- Contract: an array's atoms are laid: the walk. -/

import Derived.Test.YtelcagfaflpolaaGreatMath2
import Derived.Test.YtelcagfaflpolaaGreatBegun
import Derived.Test.YtelcagfaflpolaaGreatC13

namespace Go.Proofs.YtelcagfaflpolaaGreat

set_option linter.unusedVariables false

theorem plc_digs {zs : List Int} {p : Int} (hp : allPos zs) (h0 : 0 ≤ p) (hlt : p < pr zs) : ∀ m, m ≤ zs.length → plc zs (digs zs p) m = p / pr (zs.drop m)
  | 0, _ => by simp only [plc, List.drop_zero]; rw [Int.ediv_eq_zero_of_lt h0 hlt]
  | m + 1, hm => by
    simp only [plc]
    rw [plc_digs hp h0 hlt m (by omega), nth_digs (by omega), quo_step (m := m) (by omega) hp]
    unfold dg
    have := Int.mul_ediv_add_emod (p / pr (zs.drop (m + 1))) (nth zs m)
    rw [Int.mul_comm] at this
    exact this
theorem idx_digs {zs : List Int} {p : Int} (hp : allPos zs) : idx zs (digs zs p) zs.length := fun j hj => by
  rw [nth_digs hj]; exact dg_bd hj hp

theorem plc_quo {zs ys : List Int} (hp : allPos zs) (hi : idx zs ys zs.length) : ∀ d m, m + d = zs.length → plc zs ys zs.length / pr (zs.drop m) = plc zs ys m
  | 0, m, e => by
    obtain rfl : m = zs.length := by omega
    rw [List.drop_length]; simp [pr]
  | d + 1, m, e => by
    rw [quo_step (m := m) (by omega) hp, plc_quo hp hi d (m + 1) (by omega)]
    simp only [plc]
    have h1 := hi m (by omega)
    have h2 := hp m (by omega)
    rw [Int.add_comm, Int.add_mul_ediv_right _ _ (by omega), Int.ediv_eq_zero_of_lt h1.1 h1.2, Int.zero_add]

/-- Indices that lead to a place are its own. -/
theorem digs_place {zs ys : List Int} (hp : allPos zs) (hl : ys.length = zs.length) (hi : idx zs ys zs.length) : digs zs (plc zs ys zs.length) = ys := by
  refine ext_nth (by rw [digs_len, hl]) fun k hk => ?_
  rw [digs_len] at hk
  rw [nth_digs hk]
  unfold dg
  rw [plc_quo hp hi (zs.length - (k + 1)) (k + 1) (by omega)]
  simp only [plc]
  have h1 := hi k hk
  rw [Int.add_comm, Int.add_mul_emod_self_right, Int.emod_eq_of_lt h1.1 h1.2]

/-- A place that was told has its indices. -/
theorem back {zs ys : List Int} (h : mayF zs = 0) (hE : placeE zs ys = 0) : 0 ≤ placeN zs ys ∧ placeN zs ys < pr zs ∧ digs zs (placeN zs ys) = ys := by
  by_cases hl : ys.length = zs.length
  · by_cases hi : idx zs ys zs.length
    · have e := (place_in h hl hi).2
      have bd := plc_bd (zs := zs) (ys := ys) zs.length (Nat.le_refl _) hi
      rw [List.take_length] at bd
      rw [e]
      exact ⟨bd.1, by omega, digs_place (allPos_of h bd.1 (by omega)) hl hi⟩
    · have : placeE zs ys = 13 := by unfold placeE; rw [if_neg (by omega), if_neg (by omega), if_neg hi]
      omega
  · have := (place_rank h hl).1; omega
end Go.Proofs.YtelcagfaflpolaaGreat



namespace Go.Proofs.YtelcagfaflpolaaGreat

open Go.RowKit Go.Shelf

attribute [local go_sem] Oper.semAt_some

set_option linter.unusedVariables false

set_option maxRecDepth 100000 in
set_option maxHeartbeats 2000000 in
/-- What All handed out, ranged over: every place, one behind the other. -/
theorem all1_range (q l B1 B2 : Nat) (hq : 1 ≤ q) (co : Option Addr) (n c : Nat) (zs : List Int) (h0 : mayF zs = 0) (J : Nat → World → Prop)
    (hJ : ∀ k W, J k W → Sq W B1 B2 co n c zs) (hJb : ∀ k W W', J k W → Below W.heap.size W W' → J k W')
    (hY : ∀ (k : Nat) W0 W ao c', (k : Int) < pr zs → J k W → W0.heap.size ≤ W.heap.size → J k W0 → Fr W W0.heap.size ao n c' (digs zs k) → YieldAt Fence.wide (q - 1) Tryz.prog l #[.int .i64 (k : Nat), .slice ao n c'] W fun e W' => e = .returned (.bool true) ∧ J (k + 1) W')
    (W : World) (hs : J 0 W) :
    CallsIn Fence.wide q Tryz.prog 77 #[.func (.yield l) #[] #[], .pointer (some ⟨B1, 0, none⟩), .pointer (some ⟨B2, 0, none⟩)] W fun e W' => (∃ v, e = .returned v) ∧ J (pr zs).toNat W' := by
  have hpb := pr_le h0
  have c1 := (hJ _ _ hs).size.cell
  rw [sizeF_ok h0] at c1
  refine callsIn_of_wp Tryz.func77 rfl trivial ?_ rfl
  simp only [Tryz.ntmps77, List.size_toArray, List.length_cons, List.length_nil, Nat.reduceAdd, Nat.reduceSub, Array.replicate_succ, Array.replicate_zero, List.push_toArray, List.append_toArray, List.nil_append, List.cons_append]
  gi_wp2
  gi_loopw [6] (fun i wr => ∃ k : Nat, (k : Int) ≤ pr zs ∧ i = .int .i64 (k : Nat) ∧ J k wr) (fun i _ => (pr zs - intOf i).toNat)
  case atStart => exact ⟨0, by simpa using hpb.1, rfl, hs⟩
  case round =>
    obtain ⟨k, hk, rfl, hJk⟩ := hrel
    clear c1 hs
    have q1 := hJ _ _ hJk
    by_cases hlt : (k : Int) < pr zs
    · have hpos := allPos_of h0 (p := (k : Nat)) (by omega) hlt
      have cl := q1.list.cell
      have hi := indices_any co n c zs (k : Nat) wr q1.rd hpos (by omega) (by omega)
      clear q1
      gi_wp2_with (refine ⟨trivial, ?_⟩; gi_at_call 78; refine (callsIn_wide.2 hi).mono ?_; rintro e w2 ⟨ao, c2, rfl, hf, hb2⟩; have hJ2 := hJb _ _ _ hJk hb2; obtain ⟨fn, tmps, assign, body, hy, hR⟩ := hY k wr w2 ao c2 hlt hJ2 hb2.size hJk hf)
      refine hR.mono ?_
      rintro e W3 ⟨rfl, hJ3⟩
      gi_wp2
      go_roundw
      case rel => exact ⟨k + 1, by omega, by go_num, hJ3⟩
      case measure => simp [intOf]; omega
    · gi_wp2
      go_end0
      exact ⟨⟨_, rfl⟩, by rw [show (pr zs).toNat = k by omega]; exact hJk⟩

theorem cell_loop {W : World} {l : Nat} {r : Loop} (h : W.heap[l]? = some (.loop r)) (off : Nat) : W.cell? ⟨l, off, none⟩ = none := by
  simp [World.cell?, h]
theorem Rd.keptL {w w' : World} {l : Nat} {r : Loop} {ao : Option Addr} {n : Nat} {zs : List Int} (h : Rd w ao n zs) (hg : w.grownBy w' (some l)) (hl : w.heap[l]? = some (.loop r)) : Rd w' ao n zs := by
  refine ⟨h.len, h.room, h.num, fun h0 => ?_⟩
  obtain ⟨b, off, e, hb, hc⟩ := h.cells h0
  refine ⟨b, off, e, Nat.lt_of_lt_of_le hb hg.size, fun k hk => hg.cell (hc k hk) (fun e => ?_)⟩
  cases e
  have := hc 0 h0
  rw [cell_loop hl] at this
  cases this
theorem Fr.keptL {w w' : World} {B l : Nat} {r : Loop} {ao : Option Addr} {n cap : Nat} {zs : List Int} (h : Fr w B ao n cap zs) (hg : w.grownBy w' (some l)) (hl : w.heap[l]? = some (.loop r)) : Fr w' B ao n cap zs := by
  refine h.kept hg ?_
  rcases h.own.2 with ⟨e, _⟩ | ⟨g, c, cur, e, _, hgg, _⟩
  · cases e; intro b off e; cases e
  · cases e
    intro b off e e2
    cases e; cases e2
    rw [hl] at hgg
    cases hgg
theorem Sq.kept {w w' : World} {row : Option Nat} {B1 B2 : Nat} {co : Option Addr} {n c : Nat} {zs : List Int} (h : Sq w B1 B2 co n c zs) (hg : w.grownBy w' row) (h1 : some B1 ≠ row) (h2 : some B2 ≠ row) (h3 : ∀ b off, co = some ⟨b, off, none⟩ → some b ≠ row) : Sq w' B1 B2 co n c zs :=
  ⟨h.size.kept hg h1, h.list.kept hg h2, h.rd.kept hg h3⟩
end Go.Proofs.YtelcagfaflpolaaGreat




namespace Go.Proofs.YtelcagfaflpolaaGreat

open Go.RowKit Go.Shelf

attribute [local go_sem] Oper.semAt_some

set_option linter.unusedVariables false

/-- Where the k-th atom goes: its indices, zeros ahead. -/
def aix (cm sh : List Int) (k : Nat) : List Int := List.replicate (cm.length - sh.length) 0 ++ digs sh k
def tgt (cm sh : List Int) (k : Nat) : Nat := (plc cm (aix cm sh k) cm.length).toNat
/-- A row, the first k atoms laid into it from off on. -/
def lyK (cur : List Value) (off : Nat) (cm sh at' : List Int) : Nat → List Value
  | 0 => cur
  | k + 1 => (lyK cur off cm sh at' k).set (off + tgt cm sh k) (.int .i64 (nth at' k))
theorem lyK_len (cur : List Value) (off : Nat) (cm sh at' : List Int) : ∀ k, (lyK cur off cm sh at' k).length = cur.length
  | 0 => rfl
  | k + 1 => by show (List.set _ _ _).length = _; rw [List.length_set, lyK_len cur off cm sh at' k]
/-- A shape that lies within another, its axes the last ones. -/
structure Wn (cm sh : List Int) : Prop where
  mc : mayF cm = 0
  ms : mayF sh = 0
  le : sh.length ≤ cm.length
  dom : ∀ i, i < cm.length → ext sh cm.length i ≤ nth cm i

theorem aix_len {cm sh : List Int} (h : Wn cm sh) (k : Nat) : (aix cm sh k).length = cm.length := by
  unfold aix
  rw [List.length_append, List.length_replicate, digs_len]
  have := h.le
  omega
theorem nth_app_left {a b : List Int} {i : Nat} (h : i < a.length) : nth (a ++ b) i = nth a i := by simp [nth, List.getElem?_append, h]
theorem nth_app_right {a b : List Int} {i : Nat} (h : a.length ≤ i) : nth (a ++ b) i = nth b (i - a.length) := by simp [nth, List.getElem?_append, show ¬ i < a.length by omega]
theorem aix_idx {cm sh : List Int} (h : Wn cm sh) {k : Nat} (hk : (k : Int) < pr sh) : idx cm (aix cm sh k) cm.length := by
  intro j hj
  have hd := idx_digs (p := (k : Int)) (allPos_of h.ms (p := (k : Nat)) (by omega) hk)
  have hl := h.le
  have dm := h.dom j hj
  unfold ext at dm
  unfold aix
  by_cases c : j < cm.length - sh.length
  · rw [if_neg (by omega)] at dm
    rw [nth_app_left (by rw [List.length_replicate]; exact c)]
    have : nth (List.replicate (cm.length - sh.length) 0) j = 0 := by simp [nth, c]
    rw [this]; omega
  · rw [if_pos (by omega)] at dm
    rw [nth_app_right (by rw [List.length_replicate]; omega), List.length_replicate]
    have := hd (j - (cm.length - sh.length)) (by omega)
    omega
theorem tgt_ok {cm sh : List Int} (h : Wn cm sh) {k : Nat} (hk : (k : Int) < pr sh) : placeE cm (aix cm sh k) = 0 ∧ placeN cm (aix cm sh k) = (tgt cm sh k : Nat) ∧ (tgt cm sh k : Int) < pr cm := by
  have hi := aix_idx h hk
  have e : placeE cm (aix cm sh k) = 0 := by
    unfold placeE
    rw [if_neg (by have := h.mc; omega), if_neg (by rw [aix_len h]; omega), if_pos hi]
  have b := plc_bd cm.length (Nat.le_refl _) hi
  rw [List.take_length] at b
  refine ⟨e, ?_, ?_⟩
  · unfold placeN tgt; rw [if_pos e]; omega
  · unfold tgt; omega
end Go.Proofs.YtelcagfaflpolaaGreat


namespace Go.Proofs.YtelcagfaflpolaaGreat

open Go.RowKit Go.Shelf

attribute [local go_sem] Oper.semAt_some

set_option linter.unusedVariables false

/-- Between two rounds of lay: its variables, the row, and what lies below. -/
structure LyI (w : World) (g off : Nat) (inn ic : Nat) (co : Option Addr) (cn cc : Nat) (so : Option Addr) (sn sc : Nat) (ao : Option Addr) (an ac : Nat) (bo : Option Addr) (B1 B2 : Nat) (qo : Option Addr) (qc d : Nat) (cur : List Value) (cm sh at' : List Int) (k : Nat) (W : World) : Prop where
  i0 : Boxed W w.heap.size 34 (.slice (some ⟨g, off, none⟩) inn ic)
  i1 : Boxed W (w.heap.size + 1) 33 (.slice co cn cc)
  i2 : W.heap[w.heap.size + 1 + 1]? = some (.cells #[.slice so sn sc, .slice ao an ac] 36 (0, 0))
  i4 : Boxed W (w.heap.size + 1 + 1 + 1 + 1) 33 (.slice (some ⟨w.heap.size + 1 + 1 + 1, 0, none⟩) cn cn)
  i5 : Boxed W (w.heap.size + 1 + 1 + 1 + 1 + 1) 33 (.slice bo sn sn)
  i3 : ∃ tl : List Int, tl.length = sn ∧ W.heap[w.heap.size + 1 + 1 + 1]? = some (.cells ((List.replicate d 0 ++ tl).map (Value.int .i64)).toArray 3 (0, 0))
  row : W.heap[g]? = some (.cells (lyK cur off cm sh at' k).toArray 2 (0, 0))
  sq : Sq W B1 B2 qo sn qc sh
  gr : w.grownBy W (some g)
theorem grown_over {w W V : World} {g b : Nat} (h : w.grownBy W (some g)) (k : W.grownBy V (some b)) (hb : w.heap.size ≤ b) : w.grownBy V (some g) :=
  ⟨k.os.trans h.os, k.tape.trans h.tape, k.output.trans h.output, Nat.le_trans h.size k.size, fun j hj hne => (k.block j (Nat.lt_of_lt_of_le hj h.size) (fun e => by cases e; omega)).trans (h.block j hj hne)⟩
theorem heap_keptL {W W' : World} {B l : Nat} {o : Obj} {r : Loop} (h : W.heap[B]? = some o) (ho : ∀ r, o ≠ .loop r) (hg : W.grownBy W' (some l)) (hl : W.heap[l]? = some (.loop r)) : W'.heap[B]? = some o := by
  refine (hg.block B (Array.getElem?_eq_some_iff.1 h).1 (fun e => ?_)).trans h
  cases e
  rw [hl] at h
  exact ho r (by cases h; rfl)
theorem boxed_kept' {W W' : World} {B l : Nat} {t : TypeId} {v : Value} {r : Loop} (h : Boxed W B t v) (hg : W.grownBy W' (some l)) (hl : W.heap[l]? = some (.loop r)) : Boxed W' B t v := heap_keptL h (fun r e => by cases e) hg hl
theorem LyI.keptL {w : World} {g off inn ic : Nat} {co : Option Addr} {cn cc : Nat} {so : Option Addr} {sn sc : Nat} {ao : Option Addr} {an ac : Nat} {bo : Option Addr} {B1 B2 : Nat} {qo : Option Addr} {qc d : Nat} {cur : List Value} {cm sh at' : List Int} {k l : Nat} {r : Loop} {W W' : World}
    (h : LyI w g off inn ic co cn cc so sn sc ao an ac bo B1 B2 qo qc d cur cm sh at' k W) (hg : W.grownBy W' (some l)) (hl : W.heap[l]? = some (.loop r)) (hw : w.heap.size ≤ l) : LyI w g off inn ic co cn cc so sn sc ao an ac bo B1 B2 qo qc d cur cm sh at' k W' := by
  obtain ⟨tl, t1, t2⟩ := h.i3
  exact ⟨boxed_kept' h.i0 hg hl, boxed_kept' h.i1 hg hl, heap_keptL h.i2 (fun r e => by cases e) hg hl, boxed_kept' h.i4 hg hl, boxed_kept' h.i5 hg hl, ⟨tl, t1, heap_keptL t2 (fun r e => by cases e) hg hl⟩, heap_keptL h.row (fun r e => by cases e) hg hl, ⟨boxed_kept' h.sq.size hg hl, boxed_kept' h.sq.list hg hl, h.sq.rd.keptL hg hl⟩, grown_over h.gr hg hw⟩
theorem LyI.below {w : World} {g off inn ic : Nat} {co : Option Addr} {cn cc : Nat} {so : Option Addr} {sn sc : Nat} {ao : Option Addr} {an ac : Nat} {bo : Option Addr} {B1 B2 : Nat} {qo : Option Addr} {qc d : Nat} {cur : List Value} {cm sh at' : List Int} {k : Nat} {W W' : World}
    (h : LyI w g off inn ic co cn cc so sn sc ao an ac bo B1 B2 qo qc d cur cm sh at' k W) (hb : Below W.heap.size W W') : LyI w g off inn ic co cn cc so sn sc ao an ac bo B1 B2 qo qc d cur cm sh at' k W' := by
  have hg := grown_of_below hb
  have bl : ∀ {B : Nat} {o : Obj}, W.heap[B]? = some o → W'.heap[B]? = some o := fun h => (hb.block _ (Array.getElem?_eq_some_iff.1 h).1).trans h
  obtain ⟨tl, t1, t2⟩ := h.i3
  exact ⟨bl h.i0, bl h.i1, bl h.i2, bl h.i4, bl h.i5, ⟨tl, t1, bl t2⟩, bl h.row, h.sq.below hb (Nat.le_refl _), ⟨hb.os.trans h.gr.os, hb.tape.trans h.gr.tape, hb.output.trans h.gr.output, Nat.le_trans h.gr.size hb.size, fun j hj hne => (hb.block j (Nat.lt_of_lt_of_le hj h.gr.size)).trans (h.gr.block j hj hne)⟩⟩

theorem made_eq (n : Nat) : madeCells #[.int .i64 0] n = ((List.replicate n (0 : Int)).map (Value.int .i64)).toArray := by
  apply Array.ext'
  apply List.ext_getElem
  · simp [madeCells]
  · intro i h1 h2; simp [madeCells, Nat.mod_one]
/-- The six boxes ahead of the loop. -/
theorem ly_start {w w4 : World} {g off inn ic : Nat} {co : Option Addr} {cn cc : Nat} {so : Option Addr} {sn sc : Nat} {ao : Option Addr} {an ac : Nat} {bo : Option Addr} {B1 B2 : Nat} {qo : Option Addr} {qc d : Nat} {cur : List Value} {cm sh at' : List Int} (hd : d + sn = cn)
    (hg : w.heap[g]? = some (.cells cur.toArray 2 (0, 0)))
    (hb : Below ((((((w.alloc (.cells #[.slice (some ⟨g, off, none⟩) inn ic] 34)).alloc (.cells #[.slice co cn cc] 33)).alloc (.cells #[.slice so sn sc, .slice ao an ac] 36)).alloc (.cells (madeCells #[.int .i64 0] cn) 3)).alloc (.cells #[.slice (some ⟨w.heap.size + 1 + 1 + 1, 0, none⟩) cn cn] 33)).alloc (.cells #[.slice bo sn sn] 33)).heap.size
      ((((((w.alloc (.cells #[.slice (some ⟨g, off, none⟩) inn ic] 34)).alloc (.cells #[.slice co cn cc] 33)).alloc (.cells #[.slice so sn sc, .slice ao an ac] 36)).alloc (.cells (madeCells #[.int .i64 0] cn) 3)).alloc (.cells #[.slice (some ⟨w.heap.size + 1 + 1 + 1, 0, none⟩) cn cn] 33)).alloc (.cells #[.slice bo sn sn] 33)) w4)
    (hq : Sq w4 B1 B2 qo sn qc sh) : LyI w g off inn ic co cn cc so sn sc ao an ac bo B1 B2 qo qc d cur cm sh at' 0 w4 := by
  have up : ∀ {W : World} {o o' : Obj} {B : Nat}, W.heap[B]? = some o → (W.alloc o').heap[B]? = some o := fun {W o o' B} h => ((box_below W o').block B (Array.getElem?_eq_some_iff.1 h).1).trans h
  have bl : ∀ {B : Nat} {o : Obj}, _ → w4.heap[B]? = some o := fun {B o} h => (hb.block B (Array.getElem?_eq_some_iff.1 h).1).trans h
  have n0 := bl (up (up (up (up (up (allocNew w (.cells #[.slice (some ⟨g, off, none⟩) inn ic] 34)))))))
  have n1 := bl (up (up (up (up (allocNew (w.alloc (.cells #[.slice (some ⟨g, off, none⟩) inn ic] 34)) (.cells #[.slice co cn cc] 33))))))
  have n2 := bl (up (up (up (allocNew ((w.alloc (.cells #[.slice (some ⟨g, off, none⟩) inn ic] 34)).alloc (.cells #[.slice co cn cc] 33)) (.cells #[.slice so sn sc, .slice ao an ac] 36)))))
  have n3 := bl (up (up (allocNew (((w.alloc (.cells #[.slice (some ⟨g, off, none⟩) inn ic] 34)).alloc (.cells #[.slice co cn cc] 33)).alloc (.cells #[.slice so sn sc, .slice ao an ac] 36)) (.cells (madeCells #[.int .i64 0] cn) 3))))
  have n4 := bl (up (allocNew ((((w.alloc (.cells #[.slice (some ⟨g, off, none⟩) inn ic] 34)).alloc (.cells #[.slice co cn cc] 33)).alloc (.cells #[.slice so sn sc, .slice ao an ac] 36)).alloc (.cells (madeCells #[.int .i64 0] cn) 3)) (.cells #[.slice (some ⟨w.heap.size + 1 + 1 + 1, 0, none⟩) cn cn] 33)))
  have n5 := bl (allocNew (((((w.alloc (.cells #[.slice (some ⟨g, off, none⟩) inn ic] 34)).alloc (.cells #[.slice co cn cc] 33)).alloc (.cells #[.slice so sn sc, .slice ao an ac] 36)).alloc (.cells (madeCells #[.int .i64 0] cn) 3)).alloc (.cells #[.slice (some ⟨w.heap.size + 1 + 1 + 1, 0, none⟩) cn cn] 33)) (.cells #[.slice bo sn sn] 33))
  have n6 := bl (up (up (up (up (up (up hg))))))
  simp only [World.size_alloc] at n1 n2 n3 n4 n5
  have k0 : Below w.heap.size w ((((((w.alloc (.cells #[.slice (some ⟨g, off, none⟩) inn ic] 34)).alloc (.cells #[.slice co cn cc] 33)).alloc (.cells #[.slice so sn sc, .slice ao an ac] 36)).alloc (.cells (madeCells #[.int .i64 0] cn) 3)).alloc (.cells #[.slice (some ⟨w.heap.size + 1 + 1 + 1, 0, none⟩) cn cn] 33)).alloc (.cells #[.slice bo sn sn] 33)) :=
    ((((((Below.refl _ w).alloc (Nat.le_refl _) _).alloc (by simp) _).alloc (by simp; omega) _).alloc (by simp; omega) _).alloc (by simp; omega) _).alloc (by simp; omega) _
  have k1 := k0.trans (hb.mono (by simp; omega))
  rw [made_eq] at n3
  refine ⟨n0, n1, n2, n4, n5, ⟨List.replicate sn 0, by simp, ?_⟩, n6, hq, ⟨k1.os, k1.tape, k1.output, k1.size, fun j hj _ => k1.block j hj⟩⟩
  rw [List.replicate_append_replicate, hd]
  exact n3

theorem splice_mid {d sn : Nat} {tl ds : List Int} (h1 : tl.length = sn) (h2 : ds.length = sn) : splice ((List.replicate d (0 : Int) ++ tl).map (Value.int .i64)) d (ds.map (Value.int .i64)) = (List.replicate d (0 : Int) ++ ds).map (Value.int .i64) := by
  unfold splice
  have e1 : ((List.replicate d (0 : Int) ++ tl).map (Value.int .i64)).take d = (List.replicate d (0 : Int)).map (Value.int .i64) := by rw [List.map_append, List.take_append_of_le_length (by simp), List.take_of_length_le (by simp)]
  have e2 : ((List.replicate d (0 : Int) ++ tl).map (Value.int .i64)).drop (d + (ds.map (Value.int .i64)).length) = [] := List.drop_eq_nil_of_le (by simp [h1, h2])
  rw [e1, e2, List.append_nil, ← List.map_append]
theorem LyI.step {w : World} {g off inn ic : Nat} {co : Option Addr} {cn cc : Nat} {so : Option Addr} {sn sc : Nat} {ao : Option Addr} {an ac : Nat} {bo : Option Addr} {B1 B2 : Nat} {qo : Option Addr} {qc d : Nat} {cur : List Value} {cm sh at' : List Int} {k l : Nat} {L : Lp} {W w3 : World}
    (h : LyI w g off inn ic co cn cc so sn sc ao an ac bo B1 B2 qo qc d cur cm sh at' k W) (hr : L.is .busy none l W) (gr3 : W.grownBy w3 (some (w.heap.size + 1 + 1 + 1))) (row3 : w3.heap[w.heap.size + 1 + 1 + 1]? = some (.cells ((List.replicate d 0 ++ digs sh k).map (Value.int .i64)).toArray 3 (0, 0))) (hdl : (digs sh k).length = sn) (hgl : g < w.heap.size)
    (hB1 : w.heap.size + 6 ≤ B1) (hB2 : w.heap.size + 6 ≤ B2) (hqo : ∀ b off, qo = some ⟨b, off, none⟩ → w.heap.size + 6 ≤ b) (hl1 : w.heap.size + 6 ≤ l) (hown : w.heap.size + 6 ≤ L.own) :
    L.is .busy none l (w3.drew.setCell ⟨g, off + tgt cm sh k, none⟩ (.int .i64 (nth at' k))) ∧ ∀ W', (w3.drew.setCell ⟨g, off + tgt cm sh k, none⟩ (.int .i64 (nth at' k))).grownBy W' (some l) → LyI w g off inn ic co cn cc so sn sc ao an ac bo B1 B2 qo qc d cur cm sh at' (k + 1) W' := by
  have g4 : w3.grownBy (w3.drew.setCell ⟨g, off + tgt cm sh k, none⟩ (.int .i64 (nth at' k))) (some g) :=
    have s := set1 w3.drew g (off + tgt cm sh k) (.int .i64 (nth at' k))
    ⟨s.os, s.tape, s.output, s.size, s.block⟩
  have r2 := (hr.kept gr3 (some_ne (by omega)) (some_ne (by omega))).kept g4 (some_ne (by omega)) (some_ne (by omega))
  have bl : ∀ {B : Nat} {o : Obj}, B ≠ w.heap.size + 1 + 1 + 1 → B ≠ g → W.heap[B]? = some o → (w3.drew.setCell ⟨g, off + tgt cm sh k, none⟩ (.int .i64 (nth at' k))).heap[B]? = some o := fun {B o} h1 h2 h =>
    have h3 := (gr3.block B (Array.getElem?_eq_some_iff.1 h).1 (some_ne h1)).trans h
    (g4.block B (Array.getElem?_eq_some_iff.1 h3).1 (some_ne h2)).trans h3
  have rw3 := (gr3.block g (Array.getElem?_eq_some_iff.1 h.row).1 (some_ne (by omega))).trans h.row
  have row4 : (w3.drew.setCell ⟨g, off + tgt cm sh k, none⟩ (.int .i64 (nth at' k))).heap[g]? = _ := heap_setCell_same w3.drew g (off + tgt cm sh k) _ 2 (.int .i64 (nth at' k)) rw3
  have all : LyI w g off inn ic co cn cc so sn sc ao an ac bo B1 B2 qo qc d cur cm sh at' (k + 1) (w3.drew.setCell ⟨g, off + tgt cm sh k, none⟩ (.int .i64 (nth at' k))) :=
    ⟨bl (by omega) (by omega) h.i0, bl (by omega) (by omega) h.i1, bl (by omega) (by omega) h.i2, bl (by omega) (by omega) h.i4, bl (by omega) (by omega) h.i5, ⟨digs sh k, hdl, (g4.block _ (Array.getElem?_eq_some_iff.1 row3).1 (some_ne (by omega))).trans row3⟩, by rw [row4]; simp [lyK],
      ⟨bl (by omega) (by omega) h.sq.size, bl (by omega) (by omega) h.sq.list, (h.sq.rd.kept gr3 (fun b o e => some_ne (by have := hqo b o e; omega))).kept g4 (fun b o e => some_ne (by have := hqo b o e; omega))⟩,
      ⟨g4.os.trans (gr3.os.trans h.gr.os), g4.tape.trans (gr3.tape.trans h.gr.tape), g4.output.trans (gr3.output.trans h.gr.output), Nat.le_trans h.gr.size (Nat.le_trans gr3.size g4.size), fun j hj hne => (g4.block j (Nat.lt_of_lt_of_le hj (Nat.le_trans h.gr.size gr3.size)) hne).trans ((gr3.block j (Nat.lt_of_lt_of_le hj h.gr.size) (some_ne (by omega))).trans (h.gr.block j hj hne))⟩⟩
  exact ⟨r2, fun W' hg => all.keptL hg r2.1 (by omega)⟩

/-- Operations that call nobody. -/
def plainO (o : Oper) : Bool := match o.op with | .move _ => true | .load _ _ => true | .store _ _ _ => true | .fieldAddr _ _ _ => true | .indexAddr _ _ _ => true | _ => false
theorem run_val {P : Program} {s : Sem Value} {w w' : World} {x : Next} (h : (do pure (Next.value (← s)) : Sem Next).run P w = .ok x w') : ∃ v, x = .value v := by
  rw [Sem.run_bind] at h
  cases hs : s.run P w with
  | ok v w2 => rw [hs] at h; simp [Result.andThen] at h; exact ⟨v, h.1.symm⟩
  | halt y w2 => rw [hs] at h; simp [Result.andThen] at h
theorem run_unit {P : Program} {s : Sem Unit} {w w' : World} {x : Next} (h : (do s; pure Next.skip : Sem Next).run P w = .ok x w') : x = .skip := by
  rw [Sem.run_bind] at h
  cases hs : s.run P w with
  | ok v w2 => rw [hs] at h; simp [Result.andThen] at h; exact h.1.symm
  | halt y w2 => rw [hs] at h; simp [Result.andThen] at h
theorem plain_run {P : Program} {o : Oper} (h : plainO o = true) {ρ : Operand → Value} {w w' : World} {x : Next} (hr : (execOp ρ o).run P w = .ok x w') : (∃ v, x = .value v) ∨ x = .skip := by
  unfold plainO at h
  unfold execOp at hr
  cases ho : o.op <;> rw [ho] at h hr <;> first
    | (exfalso; cases h; done)
    | exact .inl (run_val hr)
    | exact .inr (run_unit hr)
    | (simp at hr; exact .inl ⟨_, hr.1.symm⟩)
theorem plain_defer {o : Oper} (h : plainO o = true) : ∀ c, o.op ≠ .defer c := fun c e => by unfold plainO at h; rw [e] at h; cases h
theorem wpAnyIn_round {l n : Nat} {P : Program} {md : Region.Mode} {ops : Array Oper} {Q : Exit → Act → World → Prop} (hp : ∀ (i : Nat) (o : Oper), ops[i]? = some o → plainO o = true) :
    ∀ (fuel : Nat) (listed : Array Bool) (a : Act) (w : World), wpAnyIn Fence.wide n P md ops Q fuel listed a w → wpAnyIn (Fence.wide.inRound l) n P md ops Q fuel listed a w
  | 0, _, _, _, h => h
  | fuel + 1, listed, a, w, h => ⟨h.1, fun i hi => by
      have h1 := wpOpIn_mono (fun a' w' h' => wpAnyIn_round (l := l) hp fuel _ a' w' h') (h.2 i hi)
      unfold wpOpIn at h1 ⊢
      cases ho : ops[i]? with
      | none => rw [ho] at h1; exact h1
      | some o =>
        rw [ho] at h1
        simp only [] at h1 ⊢
        split
        · rename_i hw
          rw [if_pos hw] at h1
          refine ⟨fun _ _ => trivial, ?_⟩
          have h2 := h1.2
          rw [Oper.semAt_eq _ _ _ (plain_defer (hp i o ho))] at h2 ⊢
          cases hr : (execOp a.eval o).run P w with
          | ok x w' =>
            rw [hr] at h2
            rcases plain_run (hp i o ho) hr with ⟨v, rfl⟩ | rfl
            · exact h2
            · exact h2
          | halt y w' =>
            rw [hr] at h2
            cases y <;> exact h2
        · rename_i hw
          rw [if_neg hw] at h1
          exact ⟨fun _ _ => trivial, h1.2⟩⟩
theorem wp_round {l n : Nat} {P : Program} {id : Nat} {ops : Array Oper} {Q : Exit → Act → World → Prop} {a : Act} {w : World} (hm : P.follows .mixedOrders = true) (hp : ops.all plainO = true) (h : wpAnyIn Fence.wide n P .any ops Q ops.size (Array.replicate ops.size false) a w.drew) : (Code.region id ops true).wpIn (Fence.wide.inRound l) n P Q a w :=
  wpIn_region_any hm (wpAnyIn_round (fun i o ho => by
    have hl := (Array.getElem?_eq_some_iff.1 ho)
    obtain ⟨h1, h2⟩ := hl
    have := Array.all_eq_true.1 hp i h1
    rw [h2] at this
    exact this) _ _ _ _ h)

set_option linter.unusedSimpArgs false in
set_option maxRecDepth 100000 in
set_option maxHeartbeats 8000000 in
theorem lay_any (g off inn ic : Nat) (co : Option Addr) (cn cc : Nat) (so : Option Addr) (sn sc : Nat) (ao : Option Addr) (an ac : Nat) (cur : List Value) (cm sh at' : List Int) (w : World)
    (hg : w.heap[g]? = some (.cells cur.toArray 2 (0, 0))) (hfit : off + inn ≤ cur.length) (hinn : (inn : Int) = pr cm) (hc : Rd w co cn cm) (hs : Rd w so sn sh) (ha : Rd w ao an at') (hlen : (an : Int) = pr sh) (hw : Wn cm sh)
    (gc : ∀ b off, 0 < cn → co = some ⟨b, off, none⟩ → b ≠ g) (gs : ∀ b off, 0 < sn → so = some ⟨b, off, none⟩ → b ≠ g) (ga : ∀ b off, 0 < an → ao = some ⟨b, off, none⟩ → b ≠ g) :
    Calls Tryz.prog 42 #[.slice (some ⟨g, off, none⟩) inn ic, .slice co cn cc, .agg #[.slice so sn sc, .slice ao an ac]] w fun e w' => (∃ v, e = .returned v) ∧ w'.heap[g]? = some (.cells (lyK cur off cm sh at' an).toArray 2 (0, 0)) ∧ w.grownBy w' (some g) := by
  have cl := hc.len
  have sl := hs.len
  have hle := hw.le
  have hcn : cn ≤ 8 := by rw [← cl]; exact (mayF_zero hw.mc).2.1
  refine (callsIn_wide (n := 9)).1 ?_
  refine callsIn_of_wp_marks Tryz.func42 rfl trivial ?_ rfl
  simp only [Tryz.ntmps42, List.size_toArray, List.length_cons, List.length_nil, Nat.reduceAdd, Nat.reduceSub, Array.replicate_succ, Array.replicate_zero, List.push_toArray, List.append_toArray, List.nil_append, List.cons_append]
  have hmk := run_make_row' (P := Tryz.prog) 33 3 (.int .i64 0) 8 Tryz.underlying33 info3 rfl .i64 .i64 cn (by omega) (by omega)
  obtain ⟨d, hd⟩ : ∃ d : Nat, d = cn - sn := ⟨_, rfl⟩
  have e1 : (cn : Int) - (sn : Int) = (d : Int) := by omega
  have w1 : IntKind.i64.wrap (d : Int) = (d : Int) := wrapIn _ (by omega)
  have b1 : (0 : Int) ≤ (d : Int) := by omega
  have b2 : (d : Int) ≤ (cn : Int) := by omega
  have e2 : cn - d = sn := by omega
  have HD : Hid (d = cn - sn) := hd
  have HI : Hid ((inn : Int) = pr cm) := hinn
  have HA : Hid ((an : Int) = pr sh) := hlen
  have HC : Hid (cm.length = cn) := cl
  have HS : Hid (sh.length = sn) := sl
  have HF : Hid (off + inn ≤ cur.length) := hfit
  have hsc : sn ≤ cn := by omega
  have HW : Hid (Wn cm sh) := hw
  have HG : Hid (w.heap[g]? = some (.cells cur.toArray 2 (0, 0))) := hg
  clear hinn hlen cl sl hle hfit hg hd hsc hw
  obtain ⟨bo, hbo⟩ : ∃ bo, (if cn = d then some (⟨w.heap.size + 1 + 1 + 1, 0, none⟩ : Addr) else some ⟨w.heap.size + 1 + 1 + 1, d, none⟩) = bo := ⟨_, rfl⟩
  gi_wp2_with (refine ⟨trivial, ?_⟩; gi_at_call 61; refine (callsIn_wide.2 (all_any so sn sc sh _ ?_)).mono ?_; (· exact (((((hs.alloc _).alloc _).alloc _).alloc _).alloc _).alloc _); rintro e w4 ⟨B1, B2, qo, qc, rfl, hq4, hf4, hB1, hB2, hb4⟩)
  have st : LyI w g off inn ic co cn cc so sn sc ao an ac bo B1 B2 qo qc d cur cm sh at' 0 w4 := ly_start (by have := HD.out; omega) HG.out hb4 hq4
  simp only [World.size_alloc] at hB1 hB2 hf4
  have hgl := (Array.getElem?_eq_some_iff.1 HG.out).1
  have hw4 : w.heap.size + 6 ≤ w4.heap.size := by have := hb4.size; simp at this; omega
  have hqo : ∀ b off, qo = some ⟨b, off, none⟩ → w.heap.size + 6 ≤ b := fun b off e => by
    rcases hf4.own.2 with ⟨e2, _⟩ | ⟨g, cc, cur, e2, hg, _⟩
    · cases e2; cases e
    · cases e2; cases e; omega
  have hpb := pr_le HW.out.ms
  clear hq4 hf4 hb4 hmk
  refine range_over (gf := 77) (lb := #[.pointer (some ⟨B1, 0, none⟩), .pointer (some ⟨B2, 0, none⟩)]) rfl (enters_of Tryz.func77 (by kernel_rfl) rfl) (LyI w g off inn ic co cn cc so sn sc ao an ac bo B1 B2 qo qc d cur cm sh at' (pr sh).toNat) (fun _ _ => False) ?it ?done ?stop
  case stop => exact fun _ _ _ h => h.elim
  case done =>
    intro W hD hI
    gi_wp2
    refine ⟨by simp, .inl ⟨_, _, rfl, run_takeDeferred hD, ?_⟩⟩
    have g1 := grownBy_putObj' W w4.heap.size (.deferred none)
    have e0 : (pr sh).toNat = an := by have := HA.out; omega
    rw [e0] at hI
    have gw : W.heap[g]? = _ := hI.row
    exact ⟨_, results_none rfl _ _ _, ⟨_, rfl⟩, (g1.block g (Array.getElem?_eq_some_iff.1 gw).1 (fun e => by cases e; omega)).trans gw, grown_over hI.gr g1 (by omega)⟩
  case it =>
    intro L l W eT eP eA eB eO el hr hb hs5
    have hl1 : w.heap.size + 6 ≤ l := by omega
    have hown : w.heap.size + 6 ≤ L.own := by omega
    have st1 := st.below (hb.mono (by omega))
    clear el hs5 hb st eO
    refine (all1_range 8 l B1 B2 (by omega) qo sn qc sh HW.out.ms (fun k W => L.is .ready none l W ∧ LyI w g off inn ic co cn cc so sn sc ao an ac bo B1 B2 qo qc d cur cm sh at' k W) ?hJ ?hJb ?hY W ⟨hr, st1⟩).mono ?_
    case hJ => exact fun k W hJ => hJ.2.sq
    case hJb => exact fun k W W' hJ hb => ⟨hJ.1.below hb (Nat.le_refl _), hJ.2.below hb⟩
    case hY =>
      rintro k W0 W1 lo lc hk ⟨hr1, hi1⟩ hsz ⟨hr0, hi0⟩ hf
      clear hr st1 W
      have hB : w.heap.size + 6 ≤ W0.heap.size := by have := (Array.getElem?_eq_some_iff.1 hi0.i5).1; omega
      refine YieldAt.mono (yield_round (K := LyI w g off inn ic co cn cc so sn sc ao an ac bo B1 B2 qo qc d cur cm sh at' (k + 1)) (X := fun _ _ => False) eT eP eA eB hr1 rfl ?_) ?_
      · clear eT eP eA eB hr0 hi0
        gi_wp2
        refine ⟨hr1, fun W2 hr2 hg2 => ?_⟩
        have hi2 := hi1.keptL hg2 hr1.1 (by omega)
        have hf2 := hf.keptL hg2 hr1.1
        clear hg2 hi1 hr1 hf hsz
        obtain ⟨tl, tl1, tl2⟩ := hi2.i3
        have dl : (digs sh k).length = sn := by rw [digs_len]; exact HS.out
        have hdc : d + sn = cn := by have := HD.out; omega
        have hkn : k < an := by have := HA.out; omega
        obtain ⟨T1, T2, T3⟩ := tgt_ok HW.out (k := k) hk
        have ax : aix cm sh k = List.replicate d 0 ++ digs sh k := by unfold aix; rw [HC.out, HS.out, ← HD.out]
        have axl : (aix cm sh k).length = cn := by rw [aix_len HW.out, HC.out]
        have hsrc : 0 < ((digs sh k).map (Value.int .i64)).length → bo = some ⟨w.heap.size + 1 + 1 + 1, d, none⟩ ∧ ∃ ad, lo = some ad ∧ ∀ j v, ((digs sh k).map (Value.int .i64))[j]? = some v → W2.cell? (ad.add j) = some v := fun h0 => by
          rw [List.length_map, dl] at h0
          refine ⟨by rw [← hbo, if_neg (by omega)], ?_⟩
          obtain ⟨b, o, e, _, hcc⟩ := hf2.rd.cells h0
          exact ⟨_, e, fun j v hj => Rd.news dl hcc j v hj⟩
        obtain ⟨w3, hrun, row3, gr3⟩ := run_spliceG tyI (w := W2) 3 bo lo sn sn sn lc (w.heap.size + 1 + 1 + 1) d _ tl2 ((digs sh k).map (Value.int .i64)) (by rw [List.length_map, dl]; exact (Nat.min_self _).symm) hsrc (by simp [tl1, dl]) (ints_one _)
        rw [splice_mid tl1 dl] at row3
        rw [List.length_map, dl] at hrun
        have stp := hi2.step hr2 gr3 row3 dl hgl (by omega) (by omega) hqo hl1 hown
        have gw3 := grown_over hi2.gr gr3 (by omega)
        have rc := hc.keep0 gw3 (fun h0 b o e => some_ne (gc b o h0 e))
        have ra := ha.keep0 gw3 (fun h0 b o e => some_ne (ga b o h0 e))
        have rat : Rd w3 (some ⟨w.heap.size + 1 + 1 + 1, 0, none⟩) cn (aix cm sh k) := (Ft.row (B := 0) (cap := cn) (zs := List.replicate d 0 ++ digs sh k) row3 (Nat.zero_le _) (by rw [← ax]; exact axl) (by omega) (fun j hj => by
            rw [← ax]
            have := aix_idx HW.out hk j (by rw [HC.out]; exact hj)
            have hcm := hc.num j hj
            omega) (Nat.le_refl _) (by unfold maxLen; omega) (by simp [dl]; omega) (by rw [List.take_of_length_le (by simp [dl]; omega)])).rd |> fun x => by rw [ax]; exact x
        have pl := place_any co (some ⟨w.heap.size + 1 + 1 + 1, 0, none⟩) cn cn cc cn cm (aix cm sh k) w3 rc rat
        rw [T1, T2] at pl
        obtain ⟨ab, aoff, rfl, _, ac3⟩ := ra.cells (by omega)
        have x2 := ac3 k hkn
        have x0 := (hi2.i0.kept gr3 (some_ne (by omega))).cell
        have x1 := (hi2.i1.kept gr3 (some_ne (by omega))).cell
        have x4 := (hi2.i4.kept gr3 (some_ne (by omega))).cell
        have x5 := hi2.i5.cell
        obtain ⟨_, x6, _, _⟩ := box2 ((gr3.block _ (Array.getElem?_eq_some_iff.1 hi2.i2).1 (some_ne (by omega))).trans hi2.i2)
        have rw3 := (gr3.block g (Array.getElem?_eq_some_iff.1 hi2.row).1 (some_ne (by omega))).trans hi2.row
        have T4 : (tgt cm sh k : Int) < (inn : Int) := by rw [HI.out]; exact T3
        have x7 : w3.cell? ⟨g, off + tgt cm sh k, none⟩ = some ((lyK cur off cm sh at' k)[off + tgt cm sh k]'(by rw [lyK_len]; have := HF.out; omega)) := (cell_of_row w3 g _ _ _ (0, 0) rw3).trans (by simp)
        have x8 := frozen_of_row w3 g (off + tgt cm sh k) _ _ rw3
        have c1 : (k : Int) < (an : Int) := by omega
        generalize (lyK cur off cm sh at' k)[off + tgt cm sh k]'(by rw [lyK_len]; have := HF.out; omega) = old at x7
        clear hsrc row3 rat rc ra T1 T2 ax axl tl2 rw3 ac3
        generalize tgt cm sh k = tg at *
        gi_wp2_with (refine ⟨trivial, ?_⟩; gi_at_call 62; refine (CallsIn.inRound l (callsIn_wide.2 pl)).mono ?_; rintro e w' ⟨rfl, hw⟩; rw [hw]; clear hw w')
        refine wp_round (by kernel_rfl) (by kernel_rfl) ?_
        refine wpAnyIn_take (i := 1) (v := ?_) rfl rfl (by kernel_rfl) (by kernel_rfl) (by kernel_rfl) (fun _ _ _ h => h) ⟨Or.inl ⟨by rfl, ?_⟩, fun _ => rfl⟩ ?_
        rotate_left
        · (intro V; go_simp; (try with_reducible rfl))
        (try simp only [Act.put, List.setIfInBounds_toArray, List.set_cons_zero, List.set_cons_succ])
        refine wpAnyIn_take (i := 2) (v := ?_) rfl rfl (by kernel_rfl) (by kernel_rfl) (by kernel_rfl) (fun _ _ _ h => h) ⟨Or.inl ⟨by rfl, ?_⟩, fun _ => rfl⟩ ?_
        rotate_left
        · (intro V; go_simp; (try with_reducible rfl))
        (try simp only [Act.put, List.setIfInBounds_toArray, List.set_cons_zero, List.set_cons_succ])
        refine wpAnyIn_take (i := 4) (v := ?_) rfl rfl (by kernel_rfl) (by kernel_rfl) (by kernel_rfl) (fun _ _ _ h => h) ⟨Or.inl ⟨by rfl, ?_⟩, fun _ => rfl⟩ ?_
        rotate_left
        · (intro V; go_simp; (try with_reducible rfl))
        (try simp only [Act.put, List.setIfInBounds_toArray, List.set_cons_zero, List.set_cons_succ])
        refine wpAnyIn_ready (rs := [0, 3]) (by kernel_rfl) (by simp) ?_
        refine AllReadyIn.cons rfl (fun K hK => ?_) ?_
        · go_simp
          refine hK _ _ ?_
          clear hK K
          (try simp only [Act.put, List.setIfInBounds_toArray, List.set_cons_zero, List.set_cons_succ])
          refine wpAnyIn_ready (rs := [3]) (by kernel_rfl) (by simp) ?_
          refine AllReadyIn.cons rfl (fun K hK => ?_) ?_
          · go_simp
            refine hK _ _ ?_
            clear hK K
            (try simp only [Act.put, List.setIfInBounds_toArray, List.set_cons_zero, List.set_cons_succ])
            refine wpAnyIn_take (i := 5) (v := ?_) rfl rfl (by kernel_rfl) (by kernel_rfl) (by kernel_rfl) (fun _ _ _ h => h) ⟨Or.inl ⟨by rfl, ?_⟩, fun _ => rfl⟩ ?_
            rotate_left
            · (intro V; go_simp; (try with_reducible rfl))
            (try simp only [Act.put, List.setIfInBounds_toArray, List.set_cons_zero, List.set_cons_succ])
            refine wpAnyIn_ready (rs := [6]) (by kernel_rfl) (by simp) ?_
            refine AllReadyIn.cons rfl (fun K hK => ?_) ?_
            · go_simp
              refine hK _ _ ?_
              clear hK K
              (try simp only [Act.put, List.setIfInBounds_toArray, List.set_cons_zero, List.set_cons_succ])
              refine wpAnyIn_take (i := 7) (v := ?_) rfl rfl (by kernel_rfl) (by kernel_rfl) (by kernel_rfl) (fun _ _ _ h => h) ⟨Or.inl ⟨by rfl, ?_⟩, fun _ => rfl⟩ ?_
              rotate_left
              · (intro V; go_simp; (try with_reducible rfl))
              (try simp only [Act.put, List.setIfInBounds_toArray, List.set_cons_zero, List.set_cons_succ])
              refine wpAnyIn_ready (rs := [8]) (by kernel_rfl) (by simp) ?_
              refine AllReadyIn.cons rfl (fun K hK => ?_) ?_
              · go_simp
                refine hK _ _ ?_
                clear hK K
                (try simp only [Act.put, List.setIfInBounds_toArray, List.set_cons_zero, List.set_cons_succ])
                refine wpAnyIn_done (by kernel_rfl) ?_ _
                gi_wp2
                exact stp
              exact AllReadyIn.nil
            exact AllReadyIn.nil
          exact AllReadyIn.nil
        refine AllReadyIn.cons rfl (fun K hK => ?_) ?_
        · go_simp
          refine hK _ _ ?_
          clear hK K
          (try simp only [Act.put, List.setIfInBounds_toArray, List.set_cons_zero, List.set_cons_succ])
          refine wpAnyIn_take (i := 5) (v := ?_) rfl rfl (by kernel_rfl) (by kernel_rfl) (by kernel_rfl) (fun _ _ _ h => h) ⟨Or.inl ⟨by rfl, ?_⟩, fun _ => rfl⟩ ?_
          rotate_left
          · (intro V; go_simp; (try with_reducible rfl))
          (try simp only [Act.put, List.setIfInBounds_toArray, List.set_cons_zero, List.set_cons_succ])
          refine wpAnyIn_ready (rs := [0, 6]) (by kernel_rfl) (by simp) ?_
          refine AllReadyIn.cons rfl (fun K hK => ?_) ?_
          · go_simp
            refine hK _ _ ?_
            clear hK K
            (try simp only [Act.put, List.setIfInBounds_toArray, List.set_cons_zero, List.set_cons_succ])
            refine wpAnyIn_ready (rs := [6]) (by kernel_rfl) (by simp) ?_
            refine AllReadyIn.cons rfl (fun K hK => ?_) ?_
            · go_simp
              refine hK _ _ ?_
              clear hK K
              (try simp only [Act.put, List.setIfInBounds_toArray, List.set_cons_zero, List.set_cons_succ])
              refine wpAnyIn_take (i := 7) (v := ?_) rfl rfl (by kernel_rfl) (by kernel_rfl) (by kernel_rfl) (fun _ _ _ h => h) ⟨Or.inl ⟨by rfl, ?_⟩, fun _ => rfl⟩ ?_
              rotate_left
              · (intro V; go_simp; (try with_reducible rfl))
              (try simp only [Act.put, List.setIfInBounds_toArray, List.set_cons_zero, List.set_cons_succ])
              refine wpAnyIn_ready (rs := [8]) (by kernel_rfl) (by simp) ?_
              refine AllReadyIn.cons rfl (fun K hK => ?_) ?_
              · go_simp
                refine hK _ _ ?_
                clear hK K
                (try simp only [Act.put, List.setIfInBounds_toArray, List.set_cons_zero, List.set_cons_succ])
                refine wpAnyIn_done (by kernel_rfl) ?_ _
                gi_wp2
                exact stp
              exact AllReadyIn.nil
            exact AllReadyIn.nil
          refine AllReadyIn.cons rfl (fun K hK => ?_) ?_
          · go_simp
            refine hK _ _ ?_
            clear hK K
            (try simp only [Act.put, List.setIfInBounds_toArray, List.set_cons_zero, List.set_cons_succ])
            refine wpAnyIn_ready (rs := [0]) (by kernel_rfl) (by simp) ?_
            refine AllReadyIn.cons rfl (fun K hK => ?_) ?_
            · go_simp
              refine hK _ _ ?_
              clear hK K
              (try simp only [Act.put, List.setIfInBounds_toArray, List.set_cons_zero, List.set_cons_succ])
              refine wpAnyIn_take (i := 7) (v := ?_) rfl rfl (by kernel_rfl) (by kernel_rfl) (by kernel_rfl) (fun _ _ _ h => h) ⟨Or.inl ⟨by rfl, ?_⟩, fun _ => rfl⟩ ?_
              rotate_left
              · (intro V; go_simp; (try with_reducible rfl))
              (try simp only [Act.put, List.setIfInBounds_toArray, List.set_cons_zero, List.set_cons_succ])
              refine wpAnyIn_ready (rs := [8]) (by kernel_rfl) (by simp) ?_
              refine AllReadyIn.cons rfl (fun K hK => ?_) ?_
              · go_simp
                refine hK _ _ ?_
                clear hK K
                (try simp only [Act.put, List.setIfInBounds_toArray, List.set_cons_zero, List.set_cons_succ])
                refine wpAnyIn_done (by kernel_rfl) ?_ _
                gi_wp2
                exact stp
              exact AllReadyIn.nil
            exact AllReadyIn.nil
          exact AllReadyIn.nil
        exact AllReadyIn.nil
      · rintro e W2 (⟨rfl, h1, h2⟩ | ⟨_, c, _, h⟩)
        · exact ⟨rfl, h1, h2⟩
        · exact h.elim
    · rintro e W1 ⟨hv, hr1, hi1⟩
      exact ⟨hv, .inl ⟨hr1, fun W2 hg => hi1.keptL hg hr1.1 (by omega)⟩⟩
end Go.Proofs.YtelcagfaflpolaaGreat
