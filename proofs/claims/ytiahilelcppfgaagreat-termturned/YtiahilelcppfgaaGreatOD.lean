
/- TermTurned: what a changed term reads as. -/

import Derived.Test.YtiahilelcppfgaaGreatOB

import Derived.Test.YtiahilelcppfgaaGreatOC

namespace Go.Proofs.YtiahilelcppfgaaGreat

open Go.RowKit

set_option linter.unusedVariables false

theorem box6_row (V : World) (g : Nat) (z0 z1 z2 z3 z4 z5 v0 v1 v2 v3 v4 v5 : Value) (T : TypeId) (h : V.heap[g]? = some (.cells #[z0, z1, z2, z3, z4, z5] T (0, 0))) :
    ((((((V.setCell ⟨g, 0, none⟩ v0).setCell ⟨g, 1, none⟩ v1).setCell ⟨g, 2, none⟩ v2).setCell ⟨g, 3, none⟩ v3).setCell ⟨g, 4, none⟩ v4).setCell ⟨g, 5, none⟩ v5).heap[g]? = some (.cells #[v0, v1, v2, v3, v4, v5] T (0, 0)) := by
  have R := W6_row 0 v0 v1 v2 v3 v4 v5 h
  rw [set6_all, W6_zero] at R
  exact R
theorem OwN.keep {d : Nat} {x : Tr (d + 1)} {B : Nat} {W V : World} {v : List Value} (h : OwN d x B W v) (u : Kb (fun b => B ≤ b) W V) : OwN d x B V v := by
  obtain ⟨p1, c1, p2, c2, p3, c3, M, vals, ev, f1, f2, h1, h2, h12, hM, hMV, K, hb⟩ := h
  have kM : Kb (fun b => M ≤ b) W V := ⟨u.size, fun b hb hl => u.block b (Nat.le_trans hM hb) hl⟩
  exact ⟨p1, c1, p2, c2, p3, c3, M, vals, ev, f1.kb u fun a e => (ft_lt f1 a e).1, f2.kb u fun a e => (ft_lt f2 a e).1, h1, h2, h12, hM, Nat.le_trans hMV u.size, K.kept kM (own_kb K.own kM fun g e => (own_at6 K.own g e).1), hb⟩
theorem tv_nodeU {d : Nat} {x : Tr (d + 1)} {W : World} {k n k' n' : Int} {t t' : ByteArray} {v3 v4 v5 : Value} (h : Tv W (d + 1) x [.int .i64 k, .string t, .int .i64 n, v3, v4, v5]) (hk : -9223372036854775808 ≤ k' ∧ k' ≤ 9223372036854775807) (hn : -9223372036854775808 ≤ n' ∧ n' ≤ 9223372036854775807) (ht : t'.size ≤ 140737488355328) :
    Tv W (d + 1) (Tr.mk ⟨k', t', n', x.nd.sh, x.nd.at'⟩ x.ks) [.int .i64 k', .string t', .int .i64 n', v3, v4, v5] := by
  obtain ⟨⟨so, sn, sc, ao, an, ac, ko, kc, e, h1, h2, h3, h4, h5, h6⟩, _, _, _⟩ := h
  injection e with e0 e
  injection e with e1 e
  injection e with e2 e
  injection e with e3 e
  injection e with e4 e
  injection e with e5 e
  subst e3 e4 e5
  exact ⟨⟨so, sn, sc, ao, an, ac, ko, kc, rfl, h1, h2, h3, h4, h5, h6⟩, hk, hn, ht⟩
theorem Tq.lft {Q : Nat → Prop} {W : World} : ∀ {d : Nat} {x : Tr d} {v : List Value}, Tq Q W d x v → Tq Q W (d + 1) (lft d x) v
  | 0, _, _, h => h.elim
  | d + 1, x, v, h => by
    obtain ⟨⟨⟨so, sn, sc, ao, an, ac, ko, kc, e, h1, h2, h3, h4, h5, h6⟩, hk, hn, ht⟩, hq⟩ := h
    have hl : (x.ks.map (Go.Proofs.YtiahilelcppfgaaGreat.lft d)).length = x.ks.length := List.length_map _
    refine ⟨⟨⟨so, sn, sc, ao, an, ac, ko, kc, ?_, h1, h2, h3, h4, h5.map _ (fun y v hy => Tq.lft hy), ?_⟩, hk, hn, ht⟩, hq⟩
    · show v = [.int .i64 x.nd.k, .string x.nd.t, .int .i64 x.nd.n, .slice so sn sc, .slice ao an ac, .slice ko (x.ks.map (Go.Proofs.YtiahilelcppfgaaGreat.lft d)).length kc]
      rw [hl]; exact e
    · show Sl ko (x.ks.map (Go.Proofs.YtiahilelcppfgaaGreat.lft d)).length kc
      rw [hl]; exact h6
/-- A node without kids. -/
def leafT (d : Nat) (m : Int) : Tr (d + 1) := Tr.mk ⟨m, ⟨#[]⟩, 0, [], []⟩ []
theorem leaf_tq {Q : Nat → Prop} (W : World) (d : Nat) (m : Int) (hm : -9223372036854775808 ≤ m ∧ m ≤ 9223372036854775807) : Tq Q W (d + 1) (leafT d m) [.int .i64 m, .string ⟨#[]⟩, .int .i64 0, .slice none 0 0, .slice none 0 0, .slice none 0 0] :=
  ⟨⟨⟨none, 0, 0, none, 0, 0, none, 0, rfl, Rd.nil _, ⟨fun _ => ⟨rfl, rfl⟩, Nat.le_refl _, by omega⟩, Rd.nil _, ⟨fun _ => ⟨rfl, rfl⟩, Nat.le_refl _, by omega⟩, ⟨by show 0 * 104 ≤ _; omega, fun h => absurd h (Nat.lt_irrefl 0)⟩, ⟨fun _ => ⟨rfl, rfl⟩, Nat.le_refl _, by omega⟩⟩, hm, ⟨by show (-9223372036854775808 : Int) ≤ 0; omega, by show (0 : Int) ≤ _; omega⟩, by show 0 ≤ _; omega⟩, fun a n c h => by simp at h⟩
/-- The kids, and one more to come. -/
theorem Ko.more {d : Nat} {ks : List (Tr d)} {V : World} {M L c : Nat} {o : Option Addr} {vals : List Value} (h : Ko d ks V M L o c vals) (hL : ks.length = L) (z : Tr (d + 1)) : Ko (d + 1) (ks.map (lft d) ++ [z]) V M L o c vals := by
  refine ⟨h.own, fun i y hi hy => ?_⟩
  rw [List.getElem?_append_left (by rw [List.length_map, hL]; exact hi), List.getElem?_map] at hy
  cases hk : ks[i]? with
  | none => rw [hk] at hy; cases hy
  | some a =>
    rw [hk] at hy
    injection hy with hy
    subst hy
    obtain ⟨c0, c1, c2, c3, c4, c5, t0, q⟩ := h.kids i a hi hk
    exact ⟨c0, c1, c2, c3, c4, c5, t0.lft, q⟩
theorem rd_one (W : World) (T : TypeId) (z : Int) (h : -9223372036854775808 ≤ z ∧ z ≤ 9223372036854775807) : Rd (W.alloc (.cells #[.int .i64 z] T)) (some ⟨W.heap.size, 0, none⟩) 1 [z] := by
  have e := cell_of_row _ W.heap.size 0 _ T (0, 0) (allocNew W (.cells #[.int .i64 z] T))
  refine ⟨rfl, by omega, fun k hk => ?_, fun _ => ⟨W.heap.size, 0, rfl, by simp, fun k hk => ?_⟩⟩
  · obtain rfl : k = 0 := by omega
    exact h
  · obtain rfl : k = 0 := by omega
    exact e
theorem sl_one (b : Nat) : Sl (some ⟨b, 0, none⟩) 1 1 := ⟨fun e => (by cases e), Nat.le_refl _, by omega⟩
theorem tv_mkO {d : Nat} {ks : List (Tr d)} {U : World} {B B' M : Nat} {k n : Int} {t : ByteArray} {sh at1 : List Int} {p1 p2 p3 : Option Addr} {sn c1 an c2 L c3 : Nat} {vals : List Value} (F1 : Ft 3 U B p1 sn c1 sh) (F2 : Ft 2 U B' p2 an c2 at1) (K : Ko d ks U M L p3 c3 vals) (hL : ks.length = L)
    (hb : (-9223372036854775808 ≤ k ∧ k ≤ 9223372036854775807) ∧ (-9223372036854775808 ≤ n ∧ n ≤ 9223372036854775807) ∧ t.size ≤ 140737488355328 ∧ L * 104 ≤ 140737488351232) : Tv U (d + 1) (Tr.mk ⟨k, t, n, sh, at1⟩ ks) [.int .i64 k, .string t, .int .i64 n, .slice p1 sn c1, .slice p2 an c2, .slice p3 L c3] :=
  by
  subst hL
  exact ⟨⟨p1, sn, c1, p2, an, c2, p3, c3, rfl, F1.rd, F1.sl, F2.rd, F2.sl, (K.kq rfl hb.2.2.2).mp fun y v h => h.tv, own_sl K.own⟩, hb.1, hb.2.1, hb.2.2.1⟩
/-- A number more among the atoms. -/
theorem own_atom {d : Nat} {ks : List (Tr d)} {W9 X W U : World} {B M : Nat} {k n : Int} {t : ByteArray} {sh at1 at2 : List Int} {p1 p2 p3 co : Option Addr} {sn c1 an c2 L c3 N c : Nat} {vals : List Value} (f1 : Ft 3 W9 B p1 sn c1 sh) (f2 : Ft 2 W9 B p2 an c2 at1) (h2 : ∀ a, p2 = some a → a.block < M) (h12 : ∀ a a', p1 = some a → p2 = some a' → a.block ≠ a'.block) (hM : B ≤ M) (K : Ko d ks W9 M L p3 c3 vals) (hL : ks.length = L)
    (hb : (-9223372036854775808 ≤ k ∧ k ≤ 9223372036854775807) ∧ (-9223372036854775808 ≤ n ∧ n ≤ 9223372036854775807) ∧ t.size ≤ 140737488355328 ∧ L * 104 ≤ 140737488351232) (bx : Below W9.heap.size W9 X) (g : Ft 2 W B co N c at2) (gr : X.grownBy W (Value.slice p2 an c2).ownBlock) (ku : Kb (fun b => B ≤ b) W U) :
    Tv U (d + 1) (Tr.mk ⟨k, t, n, sh, at2⟩ ks) [.int .i64 k, .string t, .int .i64 n, .slice p1 sn c1, .slice co N c, .slice p3 L c3] := by
  have bw : ∀ q, (Value.slice p2 an c2).ownBlock = some q → ∃ a, p2 = some a ∧ a.block = q := fun q e => by
    cases p2 with
    | none => cases e
    | some a => injection e with e; exact ⟨a, rfl, e⟩
  have k1 : Kb (fun b => ∃ a, p1 = some a ∧ a.block = b) W9 U := ((Kb.of_below bx fun b _ hl => hl).trans (Kb.of_grown gr fun b hb e => by
    obtain ⟨a, e1, e2⟩ := hb
    obtain ⟨a', e3, e4⟩ := bw b e.symm
    exact h12 a a' e1 e3 (e2.trans e4.symm))).trans ⟨ku.size, fun b hb hl => ku.block b (by obtain ⟨a, e1, e2⟩ := hb; rw [← e2]; exact (ft_lt f1 a e1).1) hl⟩
  have kM : Kb (fun b => M ≤ b) W9 U := ((Kb.of_below bx fun b _ hl => hl).trans (Kb.of_grown gr fun b hb e => by
    obtain ⟨a', e3, e4⟩ := bw b e.symm
    have := h2 a' e3
    omega)).trans ⟨ku.size, fun b hb hl => ku.block b (Nat.le_trans hM hb) hl⟩
  exact tv_mkO (f1.kb k1 fun a e => ⟨a, e, rfl⟩) (g.kb ku fun a e => (ft_lt g a e).1) (K.kept kM (own_kb K.own kM fun g e => (own_at6 K.own g e).1)) hL hb
/-- A number more in the shape. -/
theorem own_shape {d : Nat} {ks : List (Tr d)} {W9 X W U : World} {B M : Nat} {k n : Int} {t : ByteArray} {sh at1 sh2 : List Int} {p1 p2 p3 co : Option Addr} {sn c1 an c2 L c3 N c : Nat} {vals : List Value} (f1 : Ft 3 W9 B p1 sn c1 sh) (f2 : Ft 2 W9 B p2 an c2 at1) (h1 : ∀ a, p1 = some a → a.block < M) (h12 : ∀ a a', p1 = some a → p2 = some a' → a.block ≠ a'.block) (hM : B ≤ M) (K : Ko d ks W9 M L p3 c3 vals) (hL : ks.length = L)
    (hb : (-9223372036854775808 ≤ k ∧ k ≤ 9223372036854775807) ∧ (-9223372036854775808 ≤ n ∧ n ≤ 9223372036854775807) ∧ t.size ≤ 140737488355328 ∧ L * 104 ≤ 140737488351232) (bx : Below W9.heap.size W9 X) (g : Ft 3 W B co N c sh2) (gr : X.grownBy W (Value.slice p1 sn c1).ownBlock) (ku : Kb (fun b => B ≤ b) W U) :
    Tv U (d + 1) (Tr.mk ⟨k, t, n, sh2, at1⟩ ks) [.int .i64 k, .string t, .int .i64 n, .slice co N c, .slice p2 an c2, .slice p3 L c3] := by
  have bw : ∀ q, (Value.slice p1 sn c1).ownBlock = some q → ∃ a, p1 = some a ∧ a.block = q := fun q e => by
    cases p1 with
    | none => cases e
    | some a => injection e with e; exact ⟨a, rfl, e⟩
  have k1 : Kb (fun b => ∃ a, p2 = some a ∧ a.block = b) W9 U := ((Kb.of_below bx fun b _ hl => hl).trans (Kb.of_grown gr fun b hb e => by
    obtain ⟨a, e1, e2⟩ := hb
    obtain ⟨a', e3, e4⟩ := bw b e.symm
    exact h12 a' a e3 e1 (e4.trans e2.symm))).trans ⟨ku.size, fun b hb hl => ku.block b (by obtain ⟨a, e1, e2⟩ := hb; rw [← e2]; exact (ft_lt f2 a e1).1) hl⟩
  have kM : Kb (fun b => M ≤ b) W9 U := ((Kb.of_below bx fun b _ hl => hl).trans (Kb.of_grown gr fun b hb e => by
    obtain ⟨a', e3, e4⟩ := bw b e.symm
    have := h1 a' e3
    omega)).trans ⟨ku.size, fun b hb hl => ku.block b (Nat.le_trans hM hb) hl⟩
  exact tv_mkO (g.kb ku fun a e => (ft_lt g a e).1) (f2.kb k1 fun a e => ⟨a, e, rfl⟩) (K.kept kM (own_kb K.own kM fun g e => (own_at6 K.own g e).1)) hL hb
theorem kin_last {d : Nat} (ks : List (Tr d)) (m : Int) : kin (d + 1) (ks.map (lft d) ++ [leafT d m]) ks.length = (m, ⟨#[]⟩) := by
  unfold kin
  rw [List.getElem?_append_right (by rw [List.length_map]; omega), List.length_map, Nat.sub_self]
  rfl
/-- A kid more. -/
theorem own_kid {d : Nat} {ks : List (Tr d)} {W9 X W U : World} {B M : Nat} {k n m : Int} {t : ByteArray} {sh at1 : List Int} {p1 p2 p3 co : Option Addr} {sn c1 an c2 L c3 c : Nat} {vals : List Value} (f1 : Ft 3 W9 B p1 sn c1 sh) (f2 : Ft 2 W9 B p2 an c2 at1) (h1 : ∀ a, p1 = some a → a.block < M) (h2 : ∀ a, p2 = some a → a.block < M) (hM : B ≤ M) (hMV : M ≤ W9.heap.size) (K : Ko d ks W9 M L p3 c3 vals) (hL : ks.length = L) (hm : -9223372036854775808 ≤ m ∧ m ≤ 9223372036854775807)
    (hb : (-9223372036854775808 ≤ k ∧ k ≤ 9223372036854775807) ∧ (-9223372036854775808 ≤ n ∧ n ≤ 9223372036854775807) ∧ t.size ≤ 140737488355328 ∧ (L + 1) * 104 ≤ 140737488351232) (bx : Below W9.heap.size W9 X) (hown : W.ownsRow M 31 6 (.slice co (L + 1) c) (L + 1) (vals ++ [.int .i64 m, .string ⟨#[]⟩, .int .i64 0, .slice none 0 0, .slice none 0 0, .slice none 0 0])) (gr : X.grownBy W (Value.slice p3 L c3).ownBlock) (hat : (Value.slice co (L + 1) c).ownBlock = (Value.slice p3 L c3).ownBlock ∨ (Value.slice co (L + 1) c).ownBlock = some X.heap.size) (ku : Kb (fun b => B ≤ b) W U) :
    Tv U (d + 2) (Tr.mk ⟨k, t, n, sh, at1⟩ (ks.map (lft d) ++ [leafT d m])) [.int .i64 k, .string t, .int .i64 n, .slice p1 sn c1, .slice p2 an c2, .slice co (L + 1) c] := by
  have kM : Kb (fun b => M ≤ b) W U := ⟨ku.size, fun b hb hl => ku.block b (Nat.le_trans hM hb) hl⟩
  have kl : Kb (fun b => B ≤ b ∧ b < M) W9 U := ((Kb.of_below bx fun b _ hl => hl).trans (Kb.of_grown gr fun b hb e => by
    have := (own_at6 K.own b e.symm).1
    omega)).trans ⟨ku.size, fun b hb hl => ku.block b hb.1 hl⟩
  have K2 := (K.more hL (leafT d m)).step hMV (by rw [List.getElem?_append_right (by rw [List.length_map]; omega), List.length_map, hL, Nat.sub_self]; rfl) (Below.refl _ _) (leaf_tq W9 d m hm) bx bx.size hown gr hat kM (own_kb hown kM fun g e => (own_at6 hown g e).1)
  exact tv_mkO (f1.kb kl fun a e => ⟨(ft_lt f1 a e).1, h1 a e⟩) (f2.kb kl fun a e => ⟨(ft_lt f2 a e).1, h2 a e⟩) K2 (by simp [hL]) hb
end Go.Proofs.YtiahilelcppfgaaGreat
