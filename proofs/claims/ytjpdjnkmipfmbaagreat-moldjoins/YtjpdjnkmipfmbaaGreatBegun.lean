
/- What every statement asks ahead answers true. -/

import Derived.Test.YtjpdjnkmipfmbaaGreatIndices

namespace Go.Proofs.YtjpdjnkmipfmbaaGreat

open Go.RowKit Go.Deep

set_option linter.unusedVariables false

/-- The answers of At. -/
def atE (zs : List Int) (p : Int) : Int := if mayF zs ≠ 0 then mayF zs else if p < 0 ∨ pr zs ≤ p then 13 else 0
def atL (zs : List Int) (p : Int) : List Int := if atE zs p = 0 then digs zs p else []
theorem at_may {zs : List Int} {p : Int} (h : mayF zs ≠ 0) : atE zs p = mayF zs ∧ atL zs p = [] := by
  have e : atE zs p = mayF zs := if_pos h
  exact ⟨e, by unfold atL; rw [e, if_neg h]⟩
theorem at_out {zs : List Int} {p : Int} (h : mayF zs = 0) (hp : p < 0 ∨ pr zs ≤ p) : atE zs p = 13 ∧ atL zs p = [] := by
  have e : atE zs p = 13 := by unfold atE; rw [if_neg (by omega), if_pos hp]
  exact ⟨e, by unfold atL; rw [e, if_neg (by omega)]⟩
theorem at_in {zs : List Int} {p : Int} (h : mayF zs = 0) (h0 : 0 ≤ p) (hp : p < pr zs) : atE zs p = 0 ∧ atL zs p = digs zs p := by
  have e : atE zs p = 0 := by unfold atE; rw [if_neg (by omega), if_neg (by omega)]
  exact ⟨e, by unfold atL; rw [e, if_pos rfl]⟩

theorem pr_le {zs : List Int} (h : mayF zs = 0) : 0 ≤ pr zs ∧ pr zs ≤ 4096 := by
  have := pr_small h zs.length (Nat.le_refl _); rwa [List.take_length] at this

/-- A list of zeros, just made. -/
theorem made_fr (w : World) (n : Nat) (hr : n * 8 ≤ 140737488351232) : Fr (w.alloc (.cells (madeCells #[.int .i64 0] n) 3)) w.heap.size (some ⟨w.heap.size, 0, none⟩) n n (List.replicate n 0) := by
  have hown : (w.alloc (.cells (madeCells #[.int .i64 0] n) 3)).ownsRow w.heap.size 3 1 (.slice (some ⟨w.heap.size, 0, none⟩) n n) n ((List.replicate n 0).map (Value.int .i64)) := by
    refine ⟨by simp, .inr ⟨w.heap.size, n, madeCells #[.int .i64 0] n, rfl, by omega, World.alloc_heap_new _ _, Nat.le_refl _, by unfold maxLen; omega, by simp [madeCells], ?_⟩⟩
    rw [Nat.mul_one]
    apply List.ext_getElem
    · simp [madeCells]
    · intro i h1 h2; simp [madeCells, Nat.mod_one]
  obtain ⟨a, c, e, hf⟩ := Fr.mk' (zs := List.replicate n 0) (by simp) hr (fun k hk => by simp [nth, hk]) hown
  cases e
  exact hf

end Go.Proofs.YtjpdjnkmipfmbaaGreat


namespace Go.Proofs.YtjpdjnkmipfmbaaGreat

open Go.RowKit

set_option linter.unusedVariables false

theorem func_not_nil (f : Fn) (bs caps : Array Value) (w : World) : (binOp .eql 127 (.func f bs caps) .nilFunc).run Tryz.prog w = .ok (.bool false) w := by
  have h : (Op.equal 127 (.func f bs caps) .nilFunc).run Tryz.prog w = .ok false w := by
    unfold Op.equal
    show (Op.equalIn (9999 + 1) 127 (.func f bs caps) .nilFunc).run Tryz.prog w = .ok false w
    rw [Op.equalIn]
    simp [Sem.run_bind, run_underlying Tryz.underlying127, Result.andThen]
  simp [binOp, go_sem, h]

/-- What All hands out: how many places there are, and a list of its own. -/
structure Sq (w : World) (B1 B2 : Nat) (co : Option Addr) (n c : Nat) (zs : List Int) : Prop where
  size : Boxed w B1 3 (.int .i64 (sizeF zs))
  list : Boxed w B2 23 (.slice co n c)
  rd : Rd w co n zs

theorem Sq.below {w w' : World} {B1 B2 B : Nat} {co : Option Addr} {n c : Nat} {zs : List Int} (h : Sq w B1 B2 co n c zs) (hb : Below B w w') (hB : w.heap.size ≤ B) : Sq w' B1 B2 co n c zs :=
  ⟨(hb.block B1 (Nat.lt_of_lt_of_le h.size.lt hB)).trans h.size, (hb.block B2 (Nat.lt_of_lt_of_le h.list.lt hB)).trans h.list, h.rd.below hb hB⟩

theorem all_any (ao : Option Addr) (n cap : Nat) (zs : List Int) (w : World) (h : Rd w ao n zs) :
    Calls Tryz.prog 106 #[.slice ao n cap] w fun e w' => ∃ B1 B2 co c, e = .returned (.func (.func 116) #[] #[.pointer (some ⟨B1, 0, none⟩), .pointer (some ⟨B2, 0, none⟩)]) ∧
      Sq w' B1 B2 co n c zs ∧ Fr w' w.heap.size co n c zs ∧ w.heap.size ≤ B1 ∧ w.heap.size ≤ B2 ∧ Below w.heap.size w w' := by
  have hs := size_any ao n cap zs w h
  have h1 := h.alloc (.cells #[.int .i64 (sizeF zs)] 3)
  have hc := copied_any ao n cap zs _ h1
  have b1 := Boxed.new w 3 (.int .i64 (sizeF zs))
  have hbd := sizeF_bd zs
  go_enter Tryz.func106, Tryz.ntmps106
  go_wp2_with (first | (go_at_call 21; refine hs.mono ?_; rintro e w' ⟨rfl, hw⟩; rw [hw]; clear hw w') | (go_at_call 103; refine hc.mono ?_; rintro e w2 ⟨co, c, rfl, hf, hb⟩))
  go_ret
  have b1' : Boxed w2 w.heap.size 3 (.int .i64 (sizeF zs)) := (hb.block _ (by simp)).trans b1
  have hsz : w.heap.size + 1 ≤ w2.heap.size := by have := hb.size; simpa using this
  refine ⟨w.heap.size, w2.heap.size, co, c, rfl, ⟨b1'.alloc _, Boxed.new w2 23 _, hf.rd.alloc _⟩, (hf.kept (World.grownBy_alloc _ _ none) (by simp)).mono (by simp), Nat.le_refl _, by omega, ?_⟩
  exact (((Below.refl _ w).alloc (Nat.le_refl _) _).trans (hb.mono (by simp))).alloc (by omega) _

/-- Between two rounds of walks: its four variables, and what lies below. -/
structure WI (w : World) (so : Option Addr) (m sc : Nat) (want : Int) (k : Nat) (W : World) : Prop where
  s : Boxed W w.heap.size 23 (.slice so m sc)
  want : Boxed W (w.heap.size + 1) 3 (.int .i64 want)
  ok : Boxed W (w.heap.size + 1 + 1) 4 (.bool true)
  i : Boxed W (w.heap.size + 1 + 1 + 1) 3 (.int .i64 (k : Nat))
  bel : Below w.heap.size w W

theorem WI.kept {w : World} {so : Option Addr} {m sc : Nat} {want : Int} {k : Nat} {row : Option Nat} {W W' : World} (h : WI w so m sc want k W) (hg : W.grownBy W' row) (hl : ∀ l, row = some l → w.heap.size + 4 ≤ l) : WI w so m sc want k W' := by
  have ne : ∀ b, b < w.heap.size + 4 → some b ≠ row := fun b hb e => by have := hl b e.symm; omega
  exact ⟨h.s.kept hg (ne _ (by omega)), h.want.kept hg (ne _ (by omega)), h.ok.kept hg (ne _ (by omega)), h.i.kept hg (ne _ (by omega)), h.bel.grown hg h.bel.size (fun k e => by have := hl k e; omega)⟩
theorem WI.below {w : World} {so : Option Addr} {m sc : Nat} {want : Int} {k B : Nat} {W W' : World} (h : WI w so m sc want k W) (hb : Below B W W') (hB : W.heap.size ≤ B) : WI w so m sc want k W' :=
  h.kept (grown_of_below (hb.mono hB)) (by simp)
theorem WI.setOk {w : World} {so : Option Addr} {m sc : Nat} {want : Int} {k : Nat} {W : World} (h : WI w so m sc want k W) : WI w so m sc want k (W.setCell ⟨w.heap.size + 1 + 1, 0, none⟩ (.bool true)) :=
  ⟨h.s.other (by omega) _, h.want.other (by omega) _, h.ok.set _, h.i.other (by omega) _, h.bel.setCell (p := ⟨w.heap.size + 1 + 1, 0, none⟩) (by simp; omega) _⟩
theorem WI.setI {w : World} {so : Option Addr} {m sc : Nat} {want : Int} {k : Nat} {W : World} (h : WI w so m sc want k W) : WI w so m sc want (k + 1) (W.setCell ⟨w.heap.size + 1 + 1 + 1, 0, none⟩ (.int .i64 ((k : Int) + 1))) :=
  ⟨h.s.other (by omega) _, h.want.other (by omega) _, h.ok.other (by omega) _, h.i.set _, h.bel.setCell (p := ⟨w.heap.size + 1 + 1 + 1, 0, none⟩) (by simp; omega) _⟩

theorem wi_start (w : World) (so : Option Addr) (m sc : Nat) (want : Int) : WI w so m sc want 0 ((((w.alloc (.cells #[.slice so m sc] 23)).alloc (.cells #[.int .i64 want] 3)).alloc (.cells #[.bool true] 4)).alloc (.cells #[.int .i64 0] 3)) := by
  have b0 := Boxed.new w 23 (.slice so m sc)
  have b1 := Boxed.new (w.alloc (.cells #[.slice so m sc] 23)) 3 (.int .i64 want)
  have b2 := Boxed.new ((w.alloc (.cells #[.slice so m sc] 23)).alloc (.cells #[.int .i64 want] 3)) 4 (.bool true)
  have b3 := Boxed.new (((w.alloc (.cells #[.slice so m sc] 23)).alloc (.cells #[.int .i64 want] 3)).alloc (.cells #[.bool true] 4)) 3 (.int .i64 0)
  simp only [World.size_alloc] at b1 b2 b3
  exact ⟨((b0.alloc _).alloc _).alloc _, (b1.alloc _).alloc _, b2.alloc _, b3, ((((Below.refl _ w).alloc (Nat.le_refl _) _).alloc (by simp) _).alloc (by simp; omega) _).alloc (by simp; omega) _⟩

end Go.Proofs.YtjpdjnkmipfmbaaGreat


namespace Go.Proofs.YtjpdjnkmipfmbaaGreat

open Go.RowKit

set_option linter.unusedVariables false

def lits (zs : List Int) : Bool := decide (zs.length ≤ 100) && zs.all fun z => decide (-10000 ≤ z ∧ z ≤ 10000)

theorem rdA (W : World) (zs : List Int) (h : lits zs = true) : Rd (W.alloc (.cells (zs.map (Value.int .i64)).toArray 3)) (some ⟨W.heap.size, 0, none⟩) zs.length zs := by
  simp only [lits, Bool.and_eq_true, decide_eq_true_eq, List.all_eq_true] at h
  refine ⟨rfl, by omega, fun k hk => ?_, fun _ => ⟨W.heap.size, 0, rfl, by simp, fun k hk => ?_⟩⟩
  · have := h.2 _ (nth_mem hk); omega
  · have hb := World.alloc_heap_new W (.cells (zs.map (Value.int .i64)).toArray 3)
    have := cell_of_row (W.alloc (.cells (zs.map (Value.int .i64)).toArray 3)) W.heap.size (0 + k) _ 3 (0, 0) hb
    rw [this, Nat.zero_add]
    simpa using nth_map hk
theorem rdB (W : World) (o : Obj) (zs : List Int) (h : lits zs = true) : Rd ((W.alloc o).alloc (.cells (zs.map (Value.int .i64)).toArray 3)) (some ⟨W.heap.size + 1, 0, none⟩) zs.length zs := by
  have := rdA (W.alloc o) zs h
  rwa [World.size_alloc] at this
theorem slA (a : Addr) (n : Nat) (h : n ≤ 100) : Sl (some a) n n := ⟨fun e => (by cases e), Nat.le_refl _, by omega⟩

theorem b_size (W : World) : Calls Tryz.prog 21 #[.slice (some ⟨W.heap.size, 0, none⟩) 3 3] (W.alloc (.cells #[.int .i64 2, .int .i64 3, .int .i64 4] 3)) fun e w' => e = .returned (.tuple #[.int .i64 24, .int .i64 0]) ∧ Below W.heap.size W w' :=
  (size_any _ 3 3 [2, 3, 4] _ (rdA W [2, 3, 4] (by decide))).mono fun e w' ⟨h1, h2⟩ => ⟨h1, by rw [h2]; exact (Below.refl _ _).alloc (Nat.le_refl _) _⟩
theorem b_place (W : World) : Calls Tryz.prog 107 #[.slice (some ⟨W.heap.size, 0, none⟩) 3 3, .slice (some ⟨W.heap.size + 1, 0, none⟩) 3 3] ((W.alloc (.cells #[.int .i64 2, .int .i64 3, .int .i64 4] 3)).alloc (.cells #[.int .i64 1, .int .i64 2, .int .i64 3] 3))
    fun e w' => e = .returned (.tuple #[.int .i64 23, .int .i64 0]) ∧ Below W.heap.size W w' :=
  (place_any _ _ 3 3 3 3 [2, 3, 4] [1, 2, 3] _ ((rdA W [2, 3, 4] (by decide)).alloc _) (rdB W _ [1, 2, 3] (by decide))).mono fun e w' ⟨h1, h2⟩ => ⟨h1, by rw [h2]; exact ((Below.refl _ _).alloc (Nat.le_refl _) _).alloc (by simp) _⟩
theorem b_split (W : World) : Calls Tryz.prog 80 #[.slice (some ⟨W.heap.size, 0, none⟩) 3 3, .int .i64 (-1)] (W.alloc (.cells #[.int .i64 2, .int .i64 3, .int .i64 4] 3))
    fun e w' => ∃ co c do' d, e = .returned (.tuple #[.slice co 1 c, .slice do' 2 d]) ∧ Rd w' co 1 [2] ∧ Rd w' do' 2 [3, 4] ∧ Below W.heap.size W w' :=
  (split_any _ 3 3 [2, 3, 4] (-1) _ (rdA W [2, 3, 4] (by decide)) (slA _ 3 (by omega)) (by omega) (by omega)).mono fun e w' ⟨co, c, do', d, h1, h2, h3, h4, h5⟩ => ⟨co, c, do', d, h1, h2.rd, h3.rd, ((Below.refl _ _).alloc (Nat.le_refl _) _).trans (h5.mono (by simp))⟩
theorem b_agree (W : World) : Calls Tryz.prog 87 #[.slice (some ⟨W.heap.size, 0, none⟩) 1 1, .slice (some ⟨W.heap.size + 1, 0, none⟩) 2 2] ((W.alloc (.cells #[.int .i64 2] 3)).alloc (.cells #[.int .i64 2, .int .i64 3] 3))
    fun e w' => ∃ co k c, e = .returned (.tuple #[.slice co k c, .int .i64 0]) ∧ Rd w' co k [2, 3] ∧ Below W.heap.size W w' :=
  (agree_any _ _ 1 2 1 2 [2] [2, 3] _ ((rdA W [2] (by decide)).alloc _) (rdB W _ [2, 3] (by decide)) (slA _ 1 (by omega)) (slA _ 2 (by omega))).mono fun e w' ⟨co, k, c, h1, h2, h3⟩ => ⟨co, k, c, h1, h2.rd, (((Below.refl _ _).alloc (Nat.le_refl _) _).alloc (by simp) _).trans (h3.mono (by simp; omega))⟩
theorem b_cover (W : World) : Calls Tryz.prog 54 #[.slice (some ⟨W.heap.size + 1 + 1, 0, none⟩) 2 2] (((W.alloc (.cells #[.int .i64 3] 3)).alloc (.cells #[.int .i64 2, .int .i64 1] 3)).alloc (.cells #[.slice (some ⟨W.heap.size, 0, none⟩) 1 1, .slice (some ⟨W.heap.size + 1, 0, none⟩) 2 2] 25))
    fun e w' => ∃ co k c, e = .returned (.tuple #[.slice co k c, .int .i64 0]) ∧ Rd w' co k [2, 3] ∧ Below W.heap.size W w' := by
  have hs : Rs (((W.alloc (.cells #[.int .i64 3] 3)).alloc (.cells #[.int .i64 2, .int .i64 1] 3)).alloc (.cells #[.slice (some ⟨W.heap.size, 0, none⟩) 1 1, .slice (some ⟨W.heap.size + 1, 0, none⟩) 2 2] 25)) (some ⟨W.heap.size + 1 + 1, 0, none⟩) 2 [[3], [2, 1]] := by
    refine ⟨rfl, by omega, fun _ => ⟨W.heap.size + 1 + 1, 0, rfl, by simp, fun k hk => ?_⟩⟩
    have hb := World.alloc_heap_new ((W.alloc (.cells #[.int .i64 3] 3)).alloc (.cells #[.int .i64 2, .int .i64 1] 3)) (.cells #[.slice (some ⟨W.heap.size, 0, none⟩) 1 1, .slice (some ⟨W.heap.size + 1, 0, none⟩) 2 2] 25)
    simp only [World.size_alloc] at hb
    have hc := fun j => cell_of_row _ _ j _ 25 (0, 0) hb
    match k, hk with
    | 0, _ => exact ⟨_, _, _, (hc 0).trans rfl, ((rdA W [3] (by decide)).alloc _).alloc _, slA _ 1 (by omega)⟩
    | 1, _ => exact ⟨_, _, _, (hc 1).trans rfl, (rdB W _ [2, 1] (by decide)).alloc _, slA _ 2 (by omega)⟩
  exact (cover_any _ 2 2 [[3], [2, 1]] _ hs).mono fun e w' ⟨co, k, c, h1, h2, h3⟩ => ⟨co, k, c, h1, h2.rd, ((((Below.refl _ _).alloc (Nat.le_refl _) _).alloc (by simp) _).alloc (by simp; omega) _).trans (h3.mono (by simp; omega))⟩
theorem b_may (W : World) : Calls Tryz.prog 11 #[.slice (some ⟨W.heap.size, 0, none⟩) 2 2] (W.alloc (.cells #[.int .i64 64, .int .i64 65] 3)) fun e w' => e = .returned (.int .i64 17) ∧ Below W.heap.size W w' :=
  (may_any _ 2 2 [64, 65] _ (rdA W [64, 65] (by decide))).mono fun e w' ⟨h1, h2⟩ => ⟨h1, by rw [h2]; exact (Below.refl _ _).alloc (Nat.le_refl _) _⟩
theorem b_eq (W : World) (zs : List Int) (hz : lits zs = true) (co : Option Addr) (k c : Nat) (h : Rd W co k zs) : Calls Tryz.prog 9 #[.slice co k c, .slice (some ⟨W.heap.size, 0, none⟩) zs.length zs.length] (W.alloc (.cells (zs.map (Value.int .i64)).toArray 3)) fun e w' => e = .returned (.bool true) ∧ Below W.heap.size W w' :=
  (eqInts_any _ _ k _ c _ zs zs _ (h.alloc _) (rdA W zs hz)).mono fun e w' ⟨h1, q, h2⟩ => ⟨by rw [h1, eqB_refl], by rw [h2]; exact below_drewN ((Below.refl _ _).alloc (Nat.le_refl _) _) q⟩
theorem b_all (W : World) : Calls Tryz.prog 106 #[.slice (some ⟨W.heap.size, 0, none⟩) 2 2] (W.alloc (.cells #[.int .i64 1, .int .i64 2] 3)) fun e w' => ∃ B1 B2 co c, e = .returned (.func (.func 116) #[] #[.pointer (some ⟨B1, 0, none⟩), .pointer (some ⟨B2, 0, none⟩)]) ∧ Sq w' B1 B2 co 2 c [1, 2] ∧ Below W.heap.size W w' :=
  (all_any _ 2 2 [1, 2] _ (rdA W [1, 2] (by decide))).mono fun e w' ⟨B1, B2, co, c, h1, h2, h3, h4, h5, h6⟩ => ⟨B1, B2, co, c, h1, h2, ((Below.refl _ _).alloc (Nat.le_refl _) _).trans (h6.mono (by simp))⟩
theorem bt {B : Nat} {a b c : World} (h : Below B a b) (k : Below b.heap.size b c) (hB : B ≤ b.heap.size) : Below B a c := h.trans (k.mono hB)

end Go.Proofs.YtjpdjnkmipfmbaaGreat
