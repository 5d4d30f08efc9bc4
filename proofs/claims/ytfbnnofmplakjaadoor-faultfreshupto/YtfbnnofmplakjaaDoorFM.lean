
/- What is written down of an error: a step more. -/

import Derived.Test.YtfbnnofmplakjaaDoorFL

import Derived.Test.YtfbnnofmplakjaaDoorFJ

import Derived.Laws.AppendOwn

import Derived.Lib.OwnBridge

import Derived.OwnWalk

namespace Go.Proofs.YtfbnnofmplakjaaDoor

open Go.RowKit Go.Extern.Stop Go.Stop Go.Extern

set_option linter.unusedVariables false

def plc (b : Bs) : Int := if b.k = 1 then b.p else -1
/-- The names of a chain, the innermost first. -/
def nms (ls : List Lk) : List (List UInt8) := (ls.filterMap id).reverse
theorem nms_some (nm : List UInt8) (ls : List Lk) : nms (some nm :: ls) = nms ls ++ [nm] := by simp [nms]
theorem nms_none (ls : List Lk) : nms (none :: ls) = nms ls := by simp [nms]
theorem nms_len (ls : List Lk) : (nms ls).length ≤ ls.length := by simp [nms]; exact List.length_filterMap_le _ _

abbrev St (w : World) (B : Nat) (v : Value) (l : List (List UInt8)) : Prop := w.ownsRow B 9 1 v l.length (l.map encStr)
theorem grown_of {w w' : World} (k : Below w.heap.size w w') (row : Option Nat) : w.grownBy w' row := ⟨k.os, k.tape, k.output, k.size, fun j hj _ => k.block j hj⟩
theorem own_below {w w' : World} {B e s n : Nat} {v : Value} {xs : List Value} (h : w.ownsRow B e s v n xs) (k : Below w.heap.size w w') : w'.ownsRow B e s v n xs :=
  h.kept (row := none) (grown_of k none) (by cases v.ownBlock <;> simp)
theorem info9 : ∃ i, Tryd.prog.info? 9 = some i ∧ i.zero = some (.string ⟨#[]⟩) ∧ i.size = 1 ∧ i.bytes = 16 := by
  obtain ⟨i, hi, h⟩ := Option.map_eq_some_iff.1 (show (Tryd.prog.info? 9).map (fun i => (i.size, i.bytes)) = some (1, 16) by kernel_rfl)
  obtain ⟨j, hj, h'⟩ := Option.map_eq_some_iff.1 (show (Tryd.prog.info? 9).map (fun i => i.zero) = some (some (.string ⟨#[]⟩)) by kernel_rfl)
  rw [hi] at hj
  obtain rfl := Option.some.inj hj
  exact ⟨i, hi, h', congrArg Prod.fst h, congrArg Prod.snd h⟩

theorem Ch.mov {w w' : World} {b : Bs} (k : ∀ (g : Nat) (cs : Array Value) (t : TypeId), (t = 61 ∨ t = 54 ∨ t = 78 ∨ t = 83) → w.heap[g]? = some (Obj.cells cs t (0, 0)) → w'.heap[g]? = some (Obj.cells cs t (0, 0))) : ∀ {ls : List Lk} {e : Value}, Ch w e ls b → Ch w' e ls b
  | [], _, h => by
    obtain ⟨h0, ⟨h1, h2, g, h3, h4⟩ | ⟨h1, g, h3, h4⟩ | h⟩ := h
    · exact ⟨h0, .inl ⟨h1, h2, g, h3, k _ _ _ (by simp) h4⟩⟩
    · exact ⟨h0, .inr (.inl ⟨h1, g, h3, k _ _ _ (by simp) h4⟩)⟩
    · exact ⟨h0, .inr (.inr h)⟩
  | some _ :: _, _, ⟨g, i, h1, h2, h3⟩ => ⟨g, i, h1, k _ _ _ (by simp) h2, Ch.mov k h3⟩
  | none :: _, _, ⟨g, i, h1, h2, h3⟩ => ⟨g, i, h1, k _ _ _ (by simp) h2, Ch.mov k h3⟩
/-- A row of texts grows: no error is touched. -/
theorem Ch.grown {w w' : World} {b : Bs} {ls : List Lk} {e v : Value} {B n : Nat} {xs : List Value} (h : Ch w e ls b) (k : w.grownBy w' v.ownBlock) (hr : w.ownsRow B 9 1 v n xs) : Ch w' e ls b := by
  refine Ch.mov (fun g cs t ht hg => ?_) h
  rw [k.block g (heap_lt hg) ?_]; exact hg
  intro e
  rcases hr.2 with ⟨rfl, _⟩ | ⟨g', cap, cur, rfl, _, hg', _⟩
  · cases e
  · simp [Value.ownBlock] at e
    subst e
    rw [hg] at hg'
    injection hg' with hg'
    injection hg' with _ h2 _
    rcases ht with rfl | rfl | rfl | rfl <;> exact absurd h2 (by decide)

/-- Only blocks a and b have been written. -/
structure Only (a b : Nat) (W W' : World) : Prop where
  os : W'.os = W.os
  tape : W'.tape = W.tape
  output : W'.output = W.output
  size : W'.heap.size = W.heap.size
  block : ∀ k, k ≠ a → k ≠ b → W'.heap[k]? = W.heap[k]?
theorem Only.refl (a b : Nat) (W : World) : Only a b W W := ⟨rfl, rfl, rfl, rfl, fun _ _ _ => rfl⟩
theorem Only.trans {a b : Nat} {W W' W'' : World} (h : Only a b W W') (k : Only a b W' W'') : Only a b W W'' :=
  ⟨k.os.trans h.os, k.tape.trans h.tape, k.output.trans h.output, k.size.trans h.size, fun j ha hb => (k.block j ha hb).trans (h.block j ha hb)⟩
theorem Only.set {a b : Nat} {W W' : World} (h : Only a b W W') (p : Addr) (u : Value) (hp : p.block = a ∨ p.block = b) : Only a b W (W'.setCell p u) := by
  refine ⟨h.os, h.tape, h.output, ?_, fun k ha hb => ?_⟩
  · simpa using h.size
  · rw [Below.heap_setCell _ _ _ _ (by rcases hp with e | e <;> omega)]; exact h.block k ha hb
theorem Only.drew {a b : Nat} {W W' : World} (h : Only a b W W') : Only a b W W'.drew := ⟨h.os, h.tape, h.output, h.size, h.block⟩
theorem kinds_ne {W : World} {g s : Nat} {cs cs' : Array Value} {t t' : TypeId} (h : W.heap[g]? = some (.cells cs t (0, 0))) (h' : W.heap[s]? = some (.cells cs' t' (0, 0))) (hne : t ≠ t') : g ≠ s := by
  intro e
  subst e
  rw [h] at h'
  injection h' with h'
  injection h' with _ h2 _
  exact hne h2
theorem Only.ch {a b : Nat} {W W' : World} (h : Only a b W W') {ca cb : Array Value} (ha : W.heap[a]? = some (.cells ca 29 (0, 0))) (hb : W.heap[b]? = some (.cells cb 29 (0, 0))) {ls : List Lk} {x : Bs} {e : Value} (hc : Ch W e ls x) : Ch W' e ls x :=
  Ch.mov (fun g cs t ht hg => by
    have h29 : t ≠ 29 := by rcases ht with rfl | rfl | rfl | rfl <;> decide
    rw [h.block g (kinds_ne hg ha h29) (kinds_ne hg hb h29)]; exact hg) hc
theorem Only.own {a b : Nat} {W W' : World} (h : Only a b W W') {ca cb : Array Value} (ha : W.heap[a]? = some (.cells ca 29 (0, 0))) (hb : W.heap[b]? = some (.cells cb 29 (0, 0))) {B n : Nat} {v : Value} {xs : List Value} (hr : W.ownsRow B 9 1 v n xs) : W'.ownsRow B 9 1 v n xs := by
  refine ⟨hr.1, hr.2.imp id ?_⟩
  rintro ⟨g, cap, cur, e, h1, h2, h3⟩
  exact ⟨g, cap, cur, e, h1, by rw [h.block g (kinds_ne h2 ha (by decide)) (kinds_ne h2 hb (by decide))]; exact h2, h3⟩
theorem results_tmp_cell {fn : Func} {p u : Tmp} {ty : TypeId} (h : fn.results = #[.tmp u, .cell p ty]) (tmps : Array Value) (P : Program) (w : World) :
    (results fn tmps).run P w =
      ((asAddr (tmps.getD p undef)).run P w).andThen fun a w₁ => ((loadVar ty a).run P w₁).andThen fun v w₂ => .ok (.tuple #[tmps.getD u undef, v]) w₂ := by
  simp only [results, h]
  simp [Sem.run_bind, Result.andThen]

/-- The two books of a call and its step. -/
structure Bx (W : World) (s : Nat) (th : Bool) (c p : Int) (nv : Value) (t : List UInt8) (k : Int) (nm : List UInt8) : Prop where
  b0 : W.heap[s]? = some (.cells #[.bool th, .int .i64 c, .int .i64 p, nv, .string ⟨t.toArray⟩] 29 (0, 0))
  b1 : W.heap[s + 1]? = some (.cells #[.int .i64 k, .string ⟨nm.toArray⟩] 35 (0, 0))
  b2 : W.heap[s + 1 + 1]? = some (.cells #[.bool false, .int .i64 0, .int .i64 0, .slice none 0 0, .string ⟨#[]⟩] 29 (0, 0))
theorem Bx.below {W W' : World} {s : Nat} {th : Bool} {c p : Int} {nv : Value} {t : List UInt8} {k : Int} {nm : List UInt8} (h : Bx W s th c p nv t k nm) (kb : Below W.heap.size W W') : Bx W' s th c p nv t k nm :=
  ⟨heap_at h.b0 kb (Nat.le_refl _), heap_at h.b1 kb (Nat.le_refl _), heap_at h.b2 kb (Nat.le_refl _)⟩
theorem Bx.grown {W W' : World} {s : Nat} {th : Bool} {c p : Int} {nv : Value} {t : List UInt8} {k : Int} {nm : List UInt8} (h : Bx W s th c p nv t k nm) {row : Option Nat} (kb : W.grownBy W' row) (hr : ∀ g, row = some g → g < s) : Bx W' s th c p nv t k nm :=
  ⟨by rw [kb.block s (heap_lt h.b0) (fun e => by have := hr s e.symm; omega)]; exact h.b0, by rw [kb.block _ (heap_lt h.b1) (fun e => by have := hr _ e.symm; omega)]; exact h.b1, by rw [kb.block _ (heap_lt h.b2) (fun e => by have := hr _ e.symm; omega)]; exact h.b2⟩
theorem bx_new (w : World) (th : Bool) (c p : Int) (nv : Value) (t : List UInt8) (k : Int) (nm : List UInt8) :
    Bx (((w.alloc (.cells #[.bool th, .int .i64 c, .int .i64 p, nv, .string ⟨t.toArray⟩] 29)).alloc (.cells #[.int .i64 k, .string ⟨nm.toArray⟩] 35)).alloc (.cells #[.bool false, .int .i64 0, .int .i64 0, .slice none 0 0, .string ⟨#[]⟩] 29)) w.heap.size th c p nv t k nm := by
  refine ⟨?_, ?_, ?_⟩
  · rw [Below.heap_alloc _ _ _ (by simp; omega), Below.heap_alloc _ _ _ (by simp)]; exact new_blk _ _
  · rw [Below.heap_alloc _ _ _ (by simp)]
    have := new_blk (w.alloc (.cells #[.bool th, .int .i64 c, .int .i64 p, nv, .string ⟨t.toArray⟩] 29)) (.cells #[.int .i64 k, .string ⟨nm.toArray⟩] 35)
    simpa using this
  · have := new_blk ((w.alloc (.cells #[.bool th, .int .i64 c, .int .i64 p, nv, .string ⟨t.toArray⟩] 29)).alloc (.cells #[.int .i64 k, .string ⟨nm.toArray⟩] 35)) (.cells #[.bool false, .int .i64 0, .int .i64 0, .slice none 0 0, .string ⟨#[]⟩] 29)
    simpa using this
end Go.Proofs.YtfbnnofmplakjaaDoor
