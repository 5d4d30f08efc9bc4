
/- What all Term statements ask first: the terms, and what is told of them. -/

import Derived.Test.YtiahilelcppfgaaGreatTX

import Derived.Test.YtiahilelcppfgaaGreatTQ

namespace Go.Proofs.YtiahilelcppfgaaGreat

open Go.RowKit Go.Maps

set_option linter.unusedVariables false

/-- A primitive's term. -/
def tPd (d : Nat) (s : ByteArray) : Tr (d + 1) := Tr.mk ⟨20, s, 0, [], []⟩ []
def tIns : Tr 2 := Tr.mk ⟨24, ⟨#[]⟩, 0, [], []⟩ [tPd 0 ⟨#[43]⟩]
def tFk : Tr 3 := Tr.mk ⟨45, ⟨#[]⟩, 0, [], []⟩ [tIns, tPd 1 ⟨#[37]⟩, tPd 1 ⟨#[35]⟩]
theorem pr_43 : isPr ⟨#[43]⟩ = true := by kernel_rfl
theorem pr_37 : isPr ⟨#[37]⟩ = true := by kernel_rfl
theorem pr_35 : isPr ⟨#[35]⟩ = true := by kernel_rfl
theorem pr_no : isPr ⟨#[43, 43]⟩ = false := by kernel_rfl
theorem tx_20 (s : ByteArray) : txB 20 s = isPr s := by simp [txB]
theorem tx_24 : txB 24 ⟨#[]⟩ = true := by simp [txB]
theorem tx_45 : txB 45 ⟨#[]⟩ = true := by simp [txB]
theorem spk_20 (s : ByteArray) : spk 20 s = false := by simp [spk]
theorem fit_pr (d : Nat) (s : ByteArray) (h : Bool) : fitB (d + 1) (tPd d s) h = isPr s := by
  have e : fitB (d + 1) (tPd d s) h = ((txB 20 s && (numB 20 0 && (arrB 20 [] [] && kidB 20 0 (kin d [])))) && ((h || !spk 20 s) && true)) := rfl
  rw [e, tx_20, spk_20]
  have e1 : (numB 20 0 && (arrB 20 [] [] && kidB 20 0 (kin d []))) = true := rfl
  rw [e1]
  simp
theorem fit_ins : fitB 2 tIns true = true := by
  have e : fitB 2 tIns true = ((txB 24 ⟨#[]⟩ && (numB 24 0 && (arrB 24 [] [] && kidB 24 1 (kin 1 [tPd 0 ⟨#[43]⟩])))) && ((true || !spk 24 ⟨#[]⟩) && (true && fitB 1 (tPd 0 ⟨#[43]⟩) true))) := rfl
  rw [e, tx_24, fit_pr, pr_43]
  rfl
theorem fit_fk : fitB 3 tFk true = true := by
  have e : fitB 3 tFk true = ((txB 45 ⟨#[]⟩ && (numB 45 0 && (arrB 45 [] [] && kidB 45 3 (kin 2 [tIns, tPd 1 ⟨#[37]⟩, tPd 1 ⟨#[35]⟩])))) && ((true || !spk 45 ⟨#[]⟩) && (((true && fitB 2 tIns true) && fitB 2 (tPd 1 ⟨#[37]⟩) true) && fitB 2 (tPd 1 ⟨#[35]⟩) true))) := rfl
  rw [e, tx_45, fit_pr, fit_pr, pr_37, pr_35, fit_ins]
  rfl
theorem nds_fk : nds 3 tFk = 5 := rfl
theorem dep_fk : dep 3 tFk = 3 := rfl
theorem szO_fk : szO 3 tFk = true := by unfold szO; rw [nds_fk, dep_fk]; rfl
theorem szO_pr (s : ByteArray) : szO 1 (tPd 0 s) = true := rfl
theorem may_fk3 : mayT 3 tFk 3 = 0 := by
  unfold mayT
  rw [szO_fk, fit_fk]
  rfl
theorem may_fk1 : mayT 3 tFk 1 = 5 := by
  unfold mayT
  rw [szO_fk, fit_fk]
  rfl
theorem may_no : mayT 1 (tPd 0 ⟨#[43, 43]⟩) 3 = 33 := by
  unfold mayT
  rw [szO_pr, fit_pr, pr_no]
  rfl
theorem alk_self : ∀ (d : Nat) (x : Tr d), alkB d x d x = true
  | 0, x => nomatch x
  | d + 1, x => by
    have e : alkB (d + 1) x (d + 1) x = (decide (x.nd.k = x.nd.k) && ((x.nd.t.toList == x.nd.t.toList) && (decide (x.nd.n = x.nd.n) && (eqA x.nd.sh x.nd.at' x.nd.sh x.nd.at' && (decide (x.ks.length = x.ks.length) && pall (fun i => (x.ks[i]?).elim true fun a => (x.ks[i]?).elim true fun b => alkB d a d b) x.ks.length))))) := rfl
    rw [e]
    have h1 : pall (fun i => (x.ks[i]?).elim true fun a => (x.ks[i]?).elim true fun b => alkB d a d b) x.ks.length = true := by
      rw [pall_iff]
      intro i hi
      simp only [List.getElem?_eq_getElem hi, Option.elim]
      exact alk_self d _
    rw [h1]
    simp [eqA, eqB]
theorem alk_no (s : ByteArray) : alkB 3 tFk 1 (tPd 0 s) = false := rfl
theorem tv_pr (W : World) (d : Nat) (s : ByteArray) (hs : s.size ≤ 140737488355328) : Tv W (d + 1) (tPd d s) [.int .i64 20, .string s, .int .i64 0, .slice none 0 0, .slice none 0 0, .slice none 0 0] :=
  ⟨⟨none, 0, 0, none, 0, 0, none, 0, rfl, Rd.nil _, ⟨fun _ => ⟨rfl, rfl⟩, by omega, by omega⟩, Rd.nil _, ⟨fun _ => ⟨rfl, rfl⟩, by omega, by omega⟩, ⟨by show 0 * 104 ≤ _; omega, fun h => absurd h (Nat.lt_irrefl 0)⟩, ⟨fun _ => ⟨rfl, rfl⟩, by show 0 ≤ 0; omega, by omega⟩⟩, (by show (-9223372036854775808 : Int) ≤ 20 ∧ (20 : Int) ≤ 9223372036854775807; omega), (by show (-9223372036854775808 : Int) ≤ 0 ∧ (0 : Int) ≤ 9223372036854775807; omega), hs⟩
/-- A node without number or array, of kids that are read. -/
theorem tv_node (W : World) (d : Nat) (k : Int) (ks : List (Tr d)) (ko : Option Addr) (kc : Nat) (hk : -9223372036854775808 ≤ k ∧ k ≤ 9223372036854775807) (h : Kq (Tv W d) W ko ks) (hs : Sl ko ks.length kc) : Tv W (d + 1) (Tr.mk ⟨k, ⟨#[]⟩, 0, [], []⟩ ks) [.int .i64 k, .string ⟨#[]⟩, .int .i64 0, .slice none 0 0, .slice none 0 0, .slice ko ks.length kc] :=
  ⟨⟨none, 0, 0, none, 0, 0, ko, kc, rfl, Rd.nil _, ⟨fun _ => ⟨rfl, rfl⟩, by omega, by omega⟩, Rd.nil _, ⟨fun _ => ⟨rfl, rfl⟩, by omega, by omega⟩, h, hs⟩, hk, (by show (-9223372036854775808 : Int) ≤ 0 ∧ (0 : Int) ≤ 9223372036854775807; omega), by show (0 : Nat) ≤ _; omega⟩
set_option maxHeartbeats 1000000 in
theorem lprim_any (s : ByteArray) (w : World) : Calls Tryz.prog 27 #[.string s] w fun e w' => e = .returned (.agg #[.int .i64 20, .string s, .int .i64 0, .slice none 0 0, .slice none 0 0, .slice none 0 0]) ∧ Below w.heap.size w w' := by
  have k0 := box_below w (.cells #[.int .i64 20, .string s, .int .i64 0, .slice none 0 0, .slice none 0 0, .slice none 0 0] 31)
  obtain ⟨b0, b1, b2, b3, b4, b5⟩ := box6 (allocNew w (.cells #[.int .i64 20, .string s, .int .i64 0, .slice none 0 0, .slice none 0 0, .slice none 0 0] 31))
  go_enter Tryz.func27, Tryz.ntmps27
  go_wp2
  (try simp only [Exit.inBlock, Exit.then])
  refine bodyPost_ret (v := .agg #[.int .i64 20, .string s, .int .i64 0, .slice none 0 0, .slice none 0 0, .slice none 0 0]) (by simp [results, Tryz.results27]; go_simp) rfl ?_
  exact ⟨rfl, k0⟩
end Go.Proofs.YtiahilelcppfgaaGreat
