
/- A region that draws, in a round of a loop over a function, where its operations may call. -/

import Derived.Test.YtppcfpiihkaopaaGreatDoorLoop

import Derived.RangeFuncBound

namespace Go.Proofs.YtppcfpiihkaopaaGreatDoor

open Go.RowKit Go.Shelf

set_option linter.unusedVariables false

def noDefer (o : Oper) : Bool := match o.op with | .defer _ => false | _ => true
theorem noDefer_ne {o : Oper} (h : noDefer o = true) : ∀ c, o.op ≠ .defer c := fun c e => by unfold noDefer at h; rw [e] at h; cases h
theorem wpAnyIn_roundC {l n : Nat} {P : Program} {md : Region.Mode} {ops : Array Oper} {Q : Exit → Act → World → Prop} (hp : ∀ (i : Nat) (o : Oper), ops[i]? = some o → noDefer o = true) :
    ∀ (fuel : Nat) (listed : Array Bool) (a : Act) (w : World), wpAnyIn Fence.wide n P md ops Q fuel listed a w → wpAnyIn (Fence.wide.inRound l) n P md ops Q fuel listed a w
  | 0, _, _, _, h => h
  | fuel + 1, listed, a, w, h => ⟨h.1, fun i hi => by
      have h1 := wpOpIn_mono (fun a' w' h' => wpAnyIn_roundC (l := l) hp fuel _ a' w' h') (h.2 i hi)
      unfold wpOpIn at h1 ⊢
      cases ho : ops[i]? with
      | none => rw [ho] at h1; exact h1
      | some o =>
        rw [ho] at h1
        simp only [] at h1 ⊢
        split
        · rename_i hw
          rw [if_pos hw] at h1
          refine ⟨fun _ _ => trivial, ?_⟩
          have h2 := h1.2
          rw [Oper.semAt_eq _ _ _ (noDefer_ne (hp i o ho))] at h2 ⊢
          cases hr : (execOp a.eval o).run P w with
          | ok x w' =>
            rw [hr] at h2
            cases x <;> exact h2
          | halt y w' =>
            rw [hr] at h2
            cases y <;> exact h2
        · rename_i hw
          rw [if_neg hw] at h1
          exact ⟨fun _ _ => trivial, h1.2⟩⟩
theorem wp_roundC {l n : Nat} {P : Program} {id : Nat} {ops : Array Oper} {Q : Exit → Act → World → Prop} {a : Act} {w : World} (hm : P.follows .mixedOrders = true) (hp : ops.all noDefer = true) (h : wpAnyIn Fence.wide n P .any ops Q ops.size (Array.replicate ops.size false) a w.drew) : (Code.region id ops true).wpIn (Fence.wide.inRound l) n P Q a w :=
  wpIn_region_any hm (wpAnyIn_roundC (fun i o ho => by
    have hl := (Array.getElem?_eq_some_iff.1 ho)
    obtain ⟨h1, h2⟩ := hl
    have := Array.all_eq_true.1 hp i h1
    rw [h2] at this
    exact this) _ _ _ _ h)
end Go.Proofs.YtppcfpiihkaopaaGreatDoor
