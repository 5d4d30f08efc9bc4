
/- What all Term statements ask first: the terms, and what is told of them. -/

import Derived.Test.YtiahilelcppfgaaGreatTP

import Derived.Test.YtiahilelcppfgaaGreatTX

namespace Go.Proofs.YtiahilelcppfgaaGreat

open Go.RowKit

set_option linter.unusedVariables false

theorem Tv.rt {W : World} : ∀ {d : Nat} {x : Tr d} {k : Int} {t : ByteArray} {v : List Value}, Tv W d x (.int .i64 k :: .string t :: v) → (root d x).k = k ∧ (root d x).t = t
  | 0, _, _, _, _, h => h.elim
  | d + 1, x, k, t, v, h => by
    obtain ⟨⟨so, sn, sc, ao, an, ac, ko, kc, e, _⟩, _⟩ := h
    injection e with e0 e
    injection e with e1 e
    injection e0 with _ e0
    injection e1 with e1
    exact ⟨e0.symm, e1.symm⟩
set_option maxHeartbeats 8000000 in
theorem tmay_any (d : Nat) (x : Tr d) (c0 c1 c2 c3 c4 c5 : Value) (c : Int) (w : World) (h : Tv w d x [c0, c1, c2, c3, c4, c5]) :
    Calls Tryz.prog 12 #[.agg #[c0, c1, c2, c3, c4, c5], .int .i64 c] w fun e w' => e = .returned (.int .i64 (mayT d x c)) ∧ Below w.heap.size w w' := by
  obtain ⟨k1, t1, n1, so, sn, sc, ao, an, ac, uo, un, uc, ev⟩ := h.form
  injection ev with ev0 ev
  injection ev with ev1 ev
  injection ev with ev2 ev
  injection ev with ev3 ev
  injection ev with ev4 ev
  injection ev with ev5 ev
  subst ev0 ev1 ev2 ev3 ev4 ev5
  have k0 := box_below w (.cells #[.int .i64 k1, .string t1, .int .i64 n1, .slice so sn sc, .slice ao an ac, .slice uo un uc] 31)
  have r0 := allocNew w (.cells #[.int .i64 k1, .string t1, .int .i64 n1, .slice so sn sc, .slice ao an ac, .slice uo un uc] 31)
  obtain ⟨b0, b1, b2, b3, b4, b5⟩ := box6 r0
  have htg := tooGreat_any d x _ _ _ _ _ _ _ (Tv.below k0 (Nat.le_refl _) _ _ _ h)
  have haf0 := fun (V : World) (b : Below (w.alloc (.cells #[.int .i64 k1, .string t1, .int .i64 n1, .slice so sn sc, .slice ao an ac, .slice uo un uc] 31)).heap.size (w.alloc (.cells #[.int .i64 k1, .string t1, .int .i64 n1, .slice so sn sc, .slice ao an ac, .slice uo un uc] 31)) V) (hn : nds d x < 1000000) => allFit_any d x _ _ _ _ _ _ V (Tv.below (k0.trans (b.mono k0.size)) (Nat.le_refl _) _ _ _ h) hn
  have hcl := fun W => class_any k1 n1 t1 (.slice so sn sc) (.slice ao an ac) (.slice uo un uc) W
  have er : (root d x).k = k1 := (h.rt).1
  have hM : mayT d x c = if c ≠ 1 ∧ c ≠ 2 ∧ c ≠ 3 then 1 else if szO d x = false then 2 else if fitB d x true = false then 33 else if clsN k1 ≠ c then 5 else 0 := by rw [← er]; exact rfl
  rw [hM]
  clear hM er h
  have hO : szO d x = true → nds d x < 1000000 := fun e => by
    unfold szO at e
    have := of_decide_eq_true e
    omega
  generalize clsN k1 = K at *
  by_cases g1 : c = 1
  · subst g1
    rw [if_neg (by omega)]
    cases hB : szO d x
    · rw [hB] at htg
      rw [if_pos rfl]
      clear hB haf0 hO
      go_enter Tryz.func12, Tryz.ntmps12
      go_wp2_with (first
        | (go_at_call 34; (with_reducible refine htg.mono ?_); rintro e w1 ⟨rfl, bb1⟩; obtain ⟨r10, r11, r12, r13, r14, r15⟩ := box6 ((bb1.block w.heap.size (by simp)).trans r0)))
      go_ret
      exact ⟨rfl, k0.trans (bb1.mono k0.size)⟩
    · have haf := fun V b => haf0 V b (hO hB)
      rw [hB] at htg
      rw [if_neg (by simp)]
      clear hB haf0 hO
      cases hF : fitB d x true
      · rw [hF] at haf
        rw [if_pos rfl]
        clear hF
        go_enter Tryz.func12, Tryz.ntmps12
        go_wp2_with (first
          | (go_at_call 34; (with_reducible refine htg.mono ?_); rintro e w1 ⟨rfl, bb1⟩; obtain ⟨r10, r11, r12, r13, r14, r15⟩ := box6 ((bb1.block w.heap.size (by simp)).trans r0))
          | (go_at_call 35; (with_reducible refine (haf _ bb1).mono ?_); rintro e w2 ⟨rfl, b2⟩; have bb2 := bb1.trans (b2.mono bb1.size); obtain ⟨r20, r21, r22, r23, r24, r25⟩ := box6 ((bb2.block w.heap.size (by simp)).trans r0)))
        go_ret
        exact ⟨rfl, k0.trans (bb2.mono k0.size)⟩
      · rw [hF] at haf
        rw [if_neg (by simp)]
        clear hF
        by_cases hK : K = 1
        · have eK : (K == 1) = true := by simp [hK]
          rw [if_neg (by simp [hK])]
          clear hK
          go_enter Tryz.func12, Tryz.ntmps12
          go_wp2_with (first
            | (go_at_call 34; (with_reducible refine htg.mono ?_); rintro e w1 ⟨rfl, bb1⟩; obtain ⟨r10, r11, r12, r13, r14, r15⟩ := box6 ((bb1.block w.heap.size (by simp)).trans r0))
            | (go_at_call 35; (with_reducible refine (haf _ bb1).mono ?_); rintro e w2 ⟨rfl, b2⟩; have bb2 := bb1.trans (b2.mono bb1.size); obtain ⟨r20, r21, r22, r23, r24, r25⟩ := box6 ((bb2.block w.heap.size (by simp)).trans r0))
            | (go_at_call 11; (with_reducible refine (hcl _).mono ?_); rintro e w3 ⟨rfl, b3⟩; have bb3 := bb2.trans (b3.mono bb2.size)))
          go_ret
          exact ⟨rfl, k0.trans (bb3.mono k0.size)⟩
        · have eK : (K == 1) = false := by simp [hK]
          rw [if_pos hK]
          clear hK
          go_enter Tryz.func12, Tryz.ntmps12
          go_wp2_with (first
            | (go_at_call 34; (with_reducible refine htg.mono ?_); rintro e w1 ⟨rfl, bb1⟩; obtain ⟨r10, r11, r12, r13, r14, r15⟩ := box6 ((bb1.block w.heap.size (by simp)).trans r0))
            | (go_at_call 35; (with_reducible refine (haf _ bb1).mono ?_); rintro e w2 ⟨rfl, b2⟩; have bb2 := bb1.trans (b2.mono bb1.size); obtain ⟨r20, r21, r22, r23, r24, r25⟩ := box6 ((bb2.block w.heap.size (by simp)).trans r0))
            | (go_at_call 11; (with_reducible refine (hcl _).mono ?_); rintro e w3 ⟨rfl, b3⟩; have bb3 := bb2.trans (b3.mono bb2.size)))
          go_ret
          exact ⟨rfl, k0.trans (bb3.mono k0.size)⟩
  have e1 : (c == 1) = false := by simp [g1]
  have f1 : (c != 1) = true := by simp [g1]
  by_cases g2 : c = 2
  · subst g2
    rw [if_neg (by omega)]
    cases hB : szO d x
    · rw [hB] at htg
      rw [if_pos rfl]
      clear hB haf0 hO
      go_enter Tryz.func12, Tryz.ntmps12
      go_wp2_with (first
        | (go_at_call 34; (with_reducible refine htg.mono ?_); rintro e w1 ⟨rfl, bb1⟩; obtain ⟨r10, r11, r12, r13, r14, r15⟩ := box6 ((bb1.block w.heap.size (by simp)).trans r0)))
      go_ret
      exact ⟨rfl, k0.trans (bb1.mono k0.size)⟩
    · have haf := fun V b => haf0 V b (hO hB)
      rw [hB] at htg
      rw [if_neg (by simp)]
      clear hB haf0 hO
      cases hF : fitB d x true
      · rw [hF] at haf
        rw [if_pos rfl]
        clear hF
        go_enter Tryz.func12, Tryz.ntmps12
        go_wp2_with (first
          | (go_at_call 34; (with_reducible refine htg.mono ?_); rintro e w1 ⟨rfl, bb1⟩; obtain ⟨r10, r11, r12, r13, r14, r15⟩ := box6 ((bb1.block w.heap.size (by simp)).trans r0))
          | (go_at_call 35; (with_reducible refine (haf _ bb1).mono ?_); rintro e w2 ⟨rfl, b2⟩; have bb2 := bb1.trans (b2.mono bb1.size); obtain ⟨r20, r21, r22, r23, r24, r25⟩ := box6 ((bb2.block w.heap.size (by simp)).trans r0)))
        go_ret
        exact ⟨rfl, k0.trans (bb2.mono k0.size)⟩
      · rw [hF] at haf
        rw [if_neg (by simp)]
        clear hF
        by_cases hK : K = 2
        · have eK : (K == 2) = true := by simp [hK]
          rw [if_neg (by simp [hK])]
          clear hK
          go_enter Tryz.func12, Tryz.ntmps12
          go_wp2_with (first
            | (go_at_call 34; (with_reducible refine htg.mono ?_); rintro e w1 ⟨rfl, bb1⟩; obtain ⟨r10, r11, r12, r13, r14, r15⟩ := box6 ((bb1.block w.heap.size (by simp)).trans r0))
            | (go_at_call 35; (with_reducible refine (haf _ bb1).mono ?_); rintro e w2 ⟨rfl, b2⟩; have bb2 := bb1.trans (b2.mono bb1.size); obtain ⟨r20, r21, r22, r23, r24, r25⟩ := box6 ((bb2.block w.heap.size (by simp)).trans r0))
            | (go_at_call 11; (with_reducible refine (hcl _).mono ?_); rintro e w3 ⟨rfl, b3⟩; have bb3 := bb2.trans (b3.mono bb2.size)))
          go_ret
          exact ⟨rfl, k0.trans (bb3.mono k0.size)⟩
        · have eK : (K == 2) = false := by simp [hK]
          rw [if_pos hK]
          clear hK
          go_enter Tryz.func12, Tryz.ntmps12
          go_wp2_with (first
            | (go_at_call 34; (with_reducible refine htg.mono ?_); rintro e w1 ⟨rfl, bb1⟩; obtain ⟨r10, r11, r12, r13, r14, r15⟩ := box6 ((bb1.block w.heap.size (by simp)).trans r0))
            | (go_at_call 35; (with_reducible refine (haf _ bb1).mono ?_); rintro e w2 ⟨rfl, b2⟩; have bb2 := bb1.trans (b2.mono bb1.size); obtain ⟨r20, r21, r22, r23, r24, r25⟩ := box6 ((bb2.block w.heap.size (by simp)).trans r0))
            | (go_at_call 11; (with_reducible refine (hcl _).mono ?_); rintro e w3 ⟨rfl, b3⟩; have bb3 := bb2.trans (b3.mono bb2.size)))
          go_ret
          exact ⟨rfl, k0.trans (bb3.mono k0.size)⟩
  have e2 : (c == 2) = false := by simp [g2]
  have f2 : (c != 2) = true := by simp [g2]
  by_cases g3 : c = 3
  · subst g3
    rw [if_neg (by omega)]
    cases hB : szO d x
    · rw [hB] at htg
      rw [if_pos rfl]
      clear hB haf0 hO
      go_enter Tryz.func12, Tryz.ntmps12
      go_wp2_with (first
        | (go_at_call 34; (with_reducible refine htg.mono ?_); rintro e w1 ⟨rfl, bb1⟩; obtain ⟨r10, r11, r12, r13, r14, r15⟩ := box6 ((bb1.block w.heap.size (by simp)).trans r0)))
      go_ret
      exact ⟨rfl, k0.trans (bb1.mono k0.size)⟩
    · have haf := fun V b => haf0 V b (hO hB)
      rw [hB] at htg
      rw [if_neg (by simp)]
      clear hB haf0 hO
      cases hF : fitB d x true
      · rw [hF] at haf
        rw [if_pos rfl]
        clear hF
        go_enter Tryz.func12, Tryz.ntmps12
        go_wp2_with (first
          | (go_at_call 34; (with_reducible refine htg.mono ?_); rintro e w1 ⟨rfl, bb1⟩; obtain ⟨r10, r11, r12, r13, r14, r15⟩ := box6 ((bb1.block w.heap.size (by simp)).trans r0))
          | (go_at_call 35; (with_reducible refine (haf _ bb1).mono ?_); rintro e w2 ⟨rfl, b2⟩; have bb2 := bb1.trans (b2.mono bb1.size); obtain ⟨r20, r21, r22, r23, r24, r25⟩ := box6 ((bb2.block w.heap.size (by simp)).trans r0)))
        go_ret
        exact ⟨rfl, k0.trans (bb2.mono k0.size)⟩
      · rw [hF] at haf
        rw [if_neg (by simp)]
        clear hF
        by_cases hK : K = 3
        · have eK : (K == 3) = true := by simp [hK]
          rw [if_neg (by simp [hK])]
          clear hK
          go_enter Tryz.func12, Tryz.ntmps12
          go_wp2_with (first
            | (go_at_call 34; (with_reducible refine htg.mono ?_); rintro e w1 ⟨rfl, bb1⟩; obtain ⟨r10, r11, r12, r13, r14, r15⟩ := box6 ((bb1.block w.heap.size (by simp)).trans r0))
            | (go_at_call 35; (with_reducible refine (haf _ bb1).mono ?_); rintro e w2 ⟨rfl, b2⟩; have bb2 := bb1.trans (b2.mono bb1.size); obtain ⟨r20, r21, r22, r23, r24, r25⟩ := box6 ((bb2.block w.heap.size (by simp)).trans r0))
            | (go_at_call 11; (with_reducible refine (hcl _).mono ?_); rintro e w3 ⟨rfl, b3⟩; have bb3 := bb2.trans (b3.mono bb2.size)))
          go_ret
          exact ⟨rfl, k0.trans (bb3.mono k0.size)⟩
        · have eK : (K == 3) = false := by simp [hK]
          rw [if_pos hK]
          clear hK
          go_enter Tryz.func12, Tryz.ntmps12
          go_wp2_with (first
            | (go_at_call 34; (with_reducible refine htg.mono ?_); rintro e w1 ⟨rfl, bb1⟩; obtain ⟨r10, r11, r12, r13, r14, r15⟩ := box6 ((bb1.block w.heap.size (by simp)).trans r0))
            | (go_at_call 35; (with_reducible refine (haf _ bb1).mono ?_); rintro e w2 ⟨rfl, b2⟩; have bb2 := bb1.trans (b2.mono bb1.size); obtain ⟨r20, r21, r22, r23, r24, r25⟩ := box6 ((bb2.block w.heap.size (by simp)).trans r0))
            | (go_at_call 11; (with_reducible refine (hcl _).mono ?_); rintro e w3 ⟨rfl, b3⟩; have bb3 := bb2.trans (b3.mono bb2.size)))
          go_ret
          exact ⟨rfl, k0.trans (bb3.mono k0.size)⟩
  have e3 : (c == 3) = false := by simp [g3]
  have f3 : (c != 3) = true := by simp [g3]
  rw [if_pos ⟨g1, g2, g3⟩]
  clear g1 g2 g3 haf0 hO
  go_enter Tryz.func12, Tryz.ntmps12
  go_wp2
  go_ret
  exact ⟨rfl, k0⟩
end Go.Proofs.YtiahilelcppfgaaGreat

namespace Go.Proofs.YtiahilelcppfgaaGreat

open Go.RowKit Go.Maps

set_option linter.unusedVariables false

/-- A primitive's term. -/
def tPd (d : Nat) (s : ByteArray) : Tr (d + 1) := Tr.mk ⟨20, s, 0, [], []⟩ []
def tIns : Tr 2 := Tr.mk ⟨24, ⟨#[]⟩, 0, [], []⟩ [tPd 0 ⟨#[43]⟩]
def tFk : Tr 3 := Tr.mk ⟨45, ⟨#[]⟩, 0, [], []⟩ [tIns, tPd 1 ⟨#[37]⟩, tPd 1 ⟨#[35]⟩]
theorem pr_43 : isPr ⟨#[43]⟩ = true := by kernel_rfl
theorem pr_37 : isPr ⟨#[37]⟩ = true := by kernel_rfl
theorem pr_35 : isPr ⟨#[35]⟩ = true := by kernel_rfl
theorem pr_no : isPr ⟨#[43, 43]⟩ = false := by kernel_rfl
theorem tx_20 (s : ByteArray) : txB 20 s = isPr s := by simp [txB]
theorem tx_24 : txB 24 ⟨#[]⟩ = true := by simp [txB]
theorem tx_45 : txB 45 ⟨#[]⟩ = true := by simp [txB]
theorem spk_20 (s : ByteArray) : spk 20 s = false := by simp [spk]
theorem fit_pr (d : Nat) (s : ByteArray) (h : Bool) : fitB (d + 1) (tPd d s) h = isPr s := by
  have e : fitB (d + 1) (tPd d s) h = ((txB 20 s && (numB 20 0 && (arrB 20 [] [] && kidB 20 0 (kin d [])))) && ((h || !spk 20 s) && true)) := rfl
  rw [e, tx_20, spk_20]
  have e1 : (numB 20 0 && (arrB 20 [] [] && kidB 20 0 (kin d []))) = true := rfl
  rw [e1]
  simp
theorem fit_ins : fitB 2 tIns true = true := by
  have e : fitB 2 tIns true = ((txB 24 ⟨#[]⟩ && (numB 24 0 && (arrB 24 [] [] && kidB 24 1 (kin 1 [tPd 0 ⟨#[43]⟩])))) && ((true || !spk 24 ⟨#[]⟩) && (true && fitB 1 (tPd 0 ⟨#[43]⟩) true))) := rfl
  rw [e, tx_24, fit_pr, pr_43]
  rfl
theorem fit_fk : fitB 3 tFk true = true := by
  have e : fitB 3 tFk true = ((txB 45 ⟨#[]⟩ && (numB 45 0 && (arrB 45 [] [] && kidB 45 3 (kin 2 [tIns, tPd 1 ⟨#[37]⟩, tPd 1 ⟨#[35]⟩])))) && ((true || !spk 45 ⟨#[]⟩) && (((true && fitB 2 tIns true) && fitB 2 (tPd 1 ⟨#[37]⟩) true) && fitB 2 (tPd 1 ⟨#[35]⟩) true))) := rfl
  rw [e, tx_45, fit_pr, fit_pr, pr_37, pr_35, fit_ins]
  rfl
theorem nds_fk : nds 3 tFk = 5 := rfl
theorem dep_fk : dep 3 tFk = 3 := rfl
theorem szO_fk : szO 3 tFk = true := by unfold szO; rw [nds_fk, dep_fk]; rfl
theorem szO_pr (s : ByteArray) : szO 1 (tPd 0 s) = true := rfl
theorem may_fk3 : mayT 3 tFk 3 = 0 := by
  unfold mayT
  rw [szO_fk, fit_fk]
  rfl
theorem may_fk1 : mayT 3 tFk 1 = 5 := by
  unfold mayT
  rw [szO_fk, fit_fk]
  rfl
theorem may_no : mayT 1 (tPd 0 ⟨#[43, 43]⟩) 3 = 33 := by
  unfold mayT
  rw [szO_pr, fit_pr, pr_no]
  rfl
theorem alk_self : ∀ (d : Nat) (x : Tr d), alkB d x d x = true
  | 0, x => nomatch x
  | d + 1, x => by
    have e : alkB (d + 1) x (d + 1) x = (decide (x.nd.k = x.nd.k) && ((x.nd.t.toList == x.nd.t.toList) && (decide (x.nd.n = x.nd.n) && (eqA x.nd.sh x.nd.at' x.nd.sh x.nd.at' && (decide (x.ks.length = x.ks.length) && pall (fun i => (x.ks[i]?).elim true fun a => (x.ks[i]?).elim true fun b => alkB d a d b) x.ks.length))))) := rfl
    rw [e]
    have h1 : pall (fun i => (x.ks[i]?).elim true fun a => (x.ks[i]?).elim true fun b => alkB d a d b) x.ks.length = true := by
      rw [pall_iff]
      intro i hi
      simp only [List.getElem?_eq_getElem hi, Option.elim]
      exact alk_self d _
    rw [h1]
    simp [eqA, eqB]
theorem alk_no (s : ByteArray) : alkB 3 tFk 1 (tPd 0 s) = false := rfl
theorem tv_pr (W : World) (d : Nat) (s : ByteArray) (hs : s.size ≤ 140737488355328) : Tv W (d + 1) (tPd d s) [.int .i64 20, .string s, .int .i64 0, .slice none 0 0, .slice none 0 0, .slice none 0 0] :=
  ⟨⟨none, 0, 0, none, 0, 0, none, 0, rfl, Rd.nil _, ⟨fun _ => ⟨rfl, rfl⟩, by omega, by omega⟩, Rd.nil _, ⟨fun _ => ⟨rfl, rfl⟩, by omega, by omega⟩, ⟨by show 0 * 104 ≤ _; omega, fun h => absurd h (Nat.lt_irrefl 0)⟩, ⟨fun _ => ⟨rfl, rfl⟩, by show 0 ≤ 0; omega, by omega⟩⟩, (by show (-9223372036854775808 : Int) ≤ 20 ∧ (20 : Int) ≤ 9223372036854775807; omega), (by show (-9223372036854775808 : Int) ≤ 0 ∧ (0 : Int) ≤ 9223372036854775807; omega), hs⟩
/-- A node without number or array, of kids that are read. -/
theorem tv_node (W : World) (d : Nat) (k : Int) (ks : List (Tr d)) (ko : Option Addr) (kc : Nat) (hk : -9223372036854775808 ≤ k ∧ k ≤ 9223372036854775807) (h : Kq (Tv W d) W ko ks) (hs : Sl ko ks.length kc) : Tv W (d + 1) (Tr.mk ⟨k, ⟨#[]⟩, 0, [], []⟩ ks) [.int .i64 k, .string ⟨#[]⟩, .int .i64 0, .slice none 0 0, .slice none 0 0, .slice ko ks.length kc] :=
  ⟨⟨none, 0, 0, none, 0, 0, ko, kc, rfl, Rd.nil _, ⟨fun _ => ⟨rfl, rfl⟩, by omega, by omega⟩, Rd.nil _, ⟨fun _ => ⟨rfl, rfl⟩, by omega, by omega⟩, h, hs⟩, hk, (by show (-9223372036854775808 : Int) ≤ 0 ∧ (0 : Int) ≤ 9223372036854775807; omega), by show (0 : Nat) ≤ _; omega⟩
set_option maxHeartbeats 1000000 in
theorem lprim_any (s : ByteArray) (w : World) : Calls Tryz.prog 27 #[.string s] w fun e w' => e = .returned (.agg #[.int .i64 20, .string s, .int .i64 0, .slice none 0 0, .slice none 0 0, .slice none 0 0]) ∧ Below w.heap.size w w' := by
  have k0 := box_below w (.cells #[.int .i64 20, .string s, .int .i64 0, .slice none 0 0, .slice none 0 0, .slice none 0 0] 31)
  obtain ⟨b0, b1, b2, b3, b4, b5⟩ := box6 (allocNew w (.cells #[.int .i64 20, .string s, .int .i64 0, .slice none 0 0, .slice none 0 0, .slice none 0 0] 31))
  go_enter Tryz.func27, Tryz.ntmps27
  go_wp2
  (try simp only [Exit.inBlock, Exit.then])
  refine bodyPost_ret (v := .agg #[.int .i64 20, .string s, .int .i64 0, .slice none 0 0, .slice none 0 0, .slice none 0 0]) (by simp [results, Tryz.results27]; go_simp) rfl ?_
  exact ⟨rfl, k0⟩
end Go.Proofs.YtiahilelcppfgaaGreat
