
/- Contract: an array's atoms are laid: the walk. -/

import Derived.Test.YtcknmfhbjkadcaaDoorC10

import Derived.Test.YtcknmfhbjkadcaaDoorThere1

import Derived.Test.YtcknmfhbjkadcaaDoorThereMath

namespace Go.Proofs.YtcknmfhbjkadcaaDoor

open Go.RowKit Go.Shelf

attribute [local go_sem] Oper.semAt_some

set_option linter.unusedVariables false

theorem heap_keptL {W W' : World} {B l : Nat} {o : Obj} {r : Loop} (h : W.heap[B]? = some o) (ho : ∀ r, o ≠ .loop r) (hg : W.grownBy W' (some l)) (hl : W.heap[l]? = some (.loop r)) : W'.heap[B]? = some o := by
  refine (hg.block B (Array.getElem?_eq_some_iff.1 h).1 (fun e => ?_)).trans h
  cases e
  rw [hl] at h
  exact ho r (by cases h; rfl)
theorem boxed_kept' {W W' : World} {B l : Nat} {t : TypeId} {v : Value} {r : Loop} (h : Boxed W B t v) (hg : W.grownBy W' (some l)) (hl : W.heap[l]? = some (.loop r)) : Boxed W' B t v := heap_keptL h (fun r e => by cases e) hg hl
/-- Operations that call nobody. -/
def plainO (o : Oper) : Bool := match o.op with | .move _ => true | .load _ _ => true | .store _ _ _ => true | .fieldAddr _ _ _ => true | .indexAddr _ _ _ => true | _ => false
theorem run_val {P : Program} {s : Sem Value} {w w' : World} {x : Next} (h : (do pure (Next.value (← s)) : Sem Next).run P w = .ok x w') : ∃ v, x = .value v := by
  rw [Sem.run_bind] at h
  cases hs : s.run P w with
  | ok v w2 => rw [hs] at h; simp [Result.andThen] at h; exact ⟨v, h.1.symm⟩
  | halt y w2 => rw [hs] at h; simp [Result.andThen] at h
theorem run_unit {P : Program} {s : Sem Unit} {w w' : World} {x : Next} (h : (do s; pure Next.skip : Sem Next).run P w = .ok x w') : x = .skip := by
  rw [Sem.run_bind] at h
  cases hs : s.run P w with
  | ok v w2 => rw [hs] at h; simp [Result.andThen] at h; exact h.1.symm
  | halt y w2 => rw [hs] at h; simp [Result.andThen] at h
theorem plain_run {P : Program} {o : Oper} (h : plainO o = true) {ρ : Operand → Value} {w w' : World} {x : Next} (hr : (execOp ρ o).run P w = .ok x w') : (∃ v, x = .value v) ∨ x = .skip := by
  unfold plainO at h
  unfold execOp at hr
  cases ho : o.op <;> rw [ho] at h hr <;> first
    | (exfalso; cases h; done)
    | exact .inl (run_val hr)
    | exact .inr (run_unit hr)
    | (simp at hr; exact .inl ⟨_, hr.1.symm⟩)
theorem plain_defer {o : Oper} (h : plainO o = true) : ∀ c, o.op ≠ .defer c := fun c e => by unfold plainO at h; rw [e] at h; cases h
theorem wpAnyIn_round {l n : Nat} {P : Program} {md : Region.Mode} {ops : Array Oper} {Q : Exit → Act → World → Prop} (hp : ∀ (i : Nat) (o : Oper), ops[i]? = some o → plainO o = true) :
    ∀ (fuel : Nat) (listed : Array Bool) (a : Act) (w : World), wpAnyIn Fence.wide n P md ops Q fuel listed a w → wpAnyIn (Fence.wide.inRound l) n P md ops Q fuel listed a w
  | 0, _, _, _, h => h
  | fuel + 1, listed, a, w, h => ⟨h.1, fun i hi => by
      have h1 := wpOpIn_mono (fun a' w' h' => wpAnyIn_round (l := l) hp fuel _ a' w' h') (h.2 i hi)
      unfold wpOpIn at h1 ⊢
      cases ho : ops[i]? with
      | none => rw [ho] at h1; exact h1
      | some o =>
        rw [ho] at h1
        simp only [] at h1 ⊢
        split
        · rename_i hw
          rw [if_pos hw] at h1
          refine ⟨fun _ _ => trivial, ?_⟩
          have h2 := h1.2
          rw [Oper.semAt_eq _ _ _ (plain_defer (hp i o ho))] at h2 ⊢
          cases hr : (execOp a.eval o).run P w with
          | ok x w' =>
            rw [hr] at h2
            rcases plain_run (hp i o ho) hr with ⟨v, rfl⟩ | rfl
            · exact h2
            · exact h2
          | halt y w' =>
            rw [hr] at h2
            cases y <;> exact h2
        · rename_i hw
          rw [if_neg hw] at h1
          exact ⟨fun _ _ => trivial, h1.2⟩⟩
theorem wp_round {l n : Nat} {P : Program} {id : Nat} {ops : Array Oper} {Q : Exit → Act → World → Prop} {a : Act} {w : World} (hm : P.follows .mixedOrders = true) (hp : ops.all plainO = true) (h : wpAnyIn Fence.wide n P .any ops Q ops.size (Array.replicate ops.size false) a w.drew) : (Code.region id ops true).wpIn (Fence.wide.inRound l) n P Q a w :=
  wpIn_region_any hm (wpAnyIn_round (fun i o ho => by
    have hl := (Array.getElem?_eq_some_iff.1 ho)
    obtain ⟨h1, h2⟩ := hl
    have := Array.all_eq_true.1 hp i h1
    rw [h2] at this
    exact this) _ _ _ _ h)

end Go.Proofs.YtcknmfhbjkadcaaDoor
