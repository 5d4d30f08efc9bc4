
/- Package prim: what is done at once; Monad and Dyad out of their lifting. -/

import Derived.Test.YtelcagfaflpolaaGreatPC
import Derived.Maps.OwnSet
import Derived.Maps.OwnOps
import Derived.Test.YtelcagfaflpolaaGreatZA
import Derived.Test.YtelcagfaflpolaaGreatYP
import Derived.Laws.EntriesVeiled
import Derived.Deep.Cut



namespace Go.Proofs.YtelcagfaflpolaaGreat

open Go.RowKit Go.Maps

set_option linter.unusedVariables false

theorem lawS : Keyed Tryz.prog 9 := string_keyed Tryz.underlying9
theorem zeroI (w : World) : (zeroValue 3).run Tryz.prog w = .ok (.int .i64 0) w := by kernel_rfl
/-- The map of the first k spellings. -/
def spD : Nat → DataW Unit
  | 0 => .map []
  | k + 1 => (spD k).put (.string (pS k).data.toList) (.lit (.int .i64 ((k : Int) + 1)))
theorem pS_short (k : Nat) (h : k < 43) : (pS k).size ≤ 2 := by
  revert h; revert k; decide
theorem ownsMap_below {W V : World} {B b n : Nat} {D : DataW Unit} (h : W.ownsMap Tryz.prog 9 (plainElem Tryz.prog 3) b n D) (k : Below B W V) (hb : b < B) : V.ownsMap Tryz.prog 9 (plainElem Tryz.prog 3) b n D := by
  obtain ⟨es, clock, h1, h2⟩ := h
  exact ⟨es, clock, (k.block b hb).trans h1, h2⟩
theorem makeMap43 (w : World) : (Instr.makeMap 72 (some (.int .i64 43))).run Tryz.prog w = .ok (.map (some w.heap.size)) (w.alloc (.map #[] 0)) := by kernel_rfl
set_option maxRecDepth 100000 in
theorem index43 (F : Array Value) (hF : F = prFlat.toArray) (k : Nat) (hk : k < 43) (w : World) : (Instr.index 93 (.agg F) (.int .i64 (k : Nat))).run Tryz.prog w = .ok (.agg #[.int .i64 ((k : Int) + 1), .string (pS k), pM k, .int .i64 (pR k), pD k, .int .i64 (pL k), .int .i64 (pG k), .int .i64 (pI k), .bool (pH k), .bool (pC k)]) w := by
  subst hF
  match k, hk with
  | 0, _ => refine (?_ : _ = _); kernel_rfl
  | 1, _ => refine (?_ : _ = _); kernel_rfl
  | 2, _ => refine (?_ : _ = _); kernel_rfl
  | 3, _ => refine (?_ : _ = _); kernel_rfl
  | 4, _ => refine (?_ : _ = _); kernel_rfl
  | 5, _ => refine (?_ : _ = _); kernel_rfl
  | 6, _ => refine (?_ : _ = _); kernel_rfl
  | 7, _ => refine (?_ : _ = _); kernel_rfl
  | 8, _ => refine (?_ : _ = _); kernel_rfl
  | 9, _ => refine (?_ : _ = _); kernel_rfl
  | 10, _ => refine (?_ : _ = _); kernel_rfl
  | 11, _ => refine (?_ : _ = _); kernel_rfl
  | 12, _ => refine (?_ : _ = _); kernel_rfl
  | 13, _ => refine (?_ : _ = _); kernel_rfl
  | 14, _ => refine (?_ : _ = _); kernel_rfl
  | 15, _ => refine (?_ : _ = _); kernel_rfl
  | 16, _ => refine (?_ : _ = _); kernel_rfl
  | 17, _ => refine (?_ : _ = _); kernel_rfl
  | 18, _ => refine (?_ : _ = _); kernel_rfl
  | 19, _ => refine (?_ : _ = _); kernel_rfl
  | 20, _ => refine (?_ : _ = _); kernel_rfl
  | 21, _ => refine (?_ : _ = _); kernel_rfl
  | 22, _ => refine (?_ : _ = _); kernel_rfl
  | 23, _ => refine (?_ : _ = _); kernel_rfl
  | 24, _ => refine (?_ : _ = _); kernel_rfl
  | 25, _ => refine (?_ : _ = _); kernel_rfl
  | 26, _ => refine (?_ : _ = _); kernel_rfl
  | 27, _ => refine (?_ : _ = _); kernel_rfl
  | 28, _ => refine (?_ : _ = _); kernel_rfl
  | 29, _ => refine (?_ : _ = _); kernel_rfl
  | 30, _ => refine (?_ : _ = _); kernel_rfl
  | 31, _ => refine (?_ : _ = _); kernel_rfl
  | 32, _ => refine (?_ : _ = _); kernel_rfl
  | 33, _ => refine (?_ : _ = _); kernel_rfl
  | 34, _ => refine (?_ : _ = _); kernel_rfl
  | 35, _ => refine (?_ : _ = _); kernel_rfl
  | 36, _ => refine (?_ : _ = _); kernel_rfl
  | 37, _ => refine (?_ : _ = _); kernel_rfl
  | 38, _ => refine (?_ : _ = _); kernel_rfl
  | 39, _ => refine (?_ : _ = _); kernel_rfl
  | 40, _ => refine (?_ : _ = _); kernel_rfl
  | 41, _ => refine (?_ : _ = _); kernel_rfl
  | 42, _ => refine (?_ : _ = _); kernel_rfl
  | _ + 43, h => exact absurd h (by omega)

set_option maxHeartbeats 4000000 in
theorem spell_go (F : Array Value) (hF : ∀ W, Calls Tryz.prog 48 #[] W fun e w' => e = .returned (.agg F) ∧ Below W.heap.size W w')
    (pick : ∀ k : Nat, k < 43 → ∀ W : World, (Instr.index 93 (.agg F) (.int .i64 (k : Nat))).run Tryz.prog W = .ok (.agg #[.int .i64 ((k : Int) + 1), .string (pS k), pM k, .int .i64 (pR k), pD k, .int .i64 (pL k), .int .i64 (pG k), .int .i64 (pI k), .bool (pH k), .bool (pC k)]) W) (w : World) :
    Calls Tryz.prog 32 #[] w fun e w' => e = .returned (.map (some w.heap.size)) ∧ w'.ownsMap Tryz.prog 9 (plainElem Tryz.prog 3) w.heap.size 43 (spD 43) ∧ Below w.heap.size w w' := by
  have hmm := makeMap43
  have o0 : (w.alloc (.map #[] 0)).ownsMap Tryz.prog 9 (plainElem Tryz.prog 3) w.heap.size 0 (spD 0) := World.ownsMap_made w _ _ _
  have b0 := box_below w (.map #[] 0)
  go_enter Tryz.func32, Tryz.ntmps32
  go_wp2_with (first
    | (go_at_call 48; (with_reducible refine (hF _).mono ?_); rintro e w1 ⟨rfl, b1⟩
       have o1 := ownsMap_below o0 b1 (by simp)
       have b2 := btw b0 b1 b0.size
       clear o0 b0 hF))
  go_loopw [6] (fun i V => ∃ j : Nat, j ≤ 43 ∧ i = .int .i64 (j : Nat) ∧ V.ownsMap Tryz.prog 9 (plainElem Tryz.prog 3) w.heap.size j (spD j) ∧ Below w.heap.size w V) (fun i _ => 43 - (intOf i).toNat)
  case atStart => exact ⟨0, Nat.zero_le _, rfl, o1, b2⟩
  case round =>
    obtain ⟨j, hj, rfl, own, BV⟩ := hrel
    by_cases hlt : j < 43
    · have tj : decide ((j : Int) < 43) = true := by simp; omega
      have wj : IntKind.i64.wrap ((j : Int) + 1) = (j : Int) + 1 := wrapIn _ (by omega)
      have pk := pick j hlt
      have hkey : keyOf Tryz.prog 9 (.string (pS j)) = some (.string (pS j).data.toList) := WideMaps.keyOf_string_mk Tryz.underlying9 (by have := pS_short j hlt; unfold maxLen; omega)
      have kin := prKinds j hlt
      clear pick hmm
      have sd : Hid (spD (j + 1) = (spD j).put (.string (pS j).data.toList) (.lit (.int .i64 ((j : Int) + 1)))) := rfl
      generalize spD j = D0 at *
      generalize pS j = sp at *
      generalize pR j = r at *
      generalize pL j = l at *
      generalize pG j = g at *
      generalize pI j = i at *
      generalize pH j = h at *
      generalize pC j = c at *
      generalize pMb j = mb at *
      generalize pDb j = db at *
      rcases kin with ⟨e1, _, _, G, e2⟩ | ⟨e2, _, _, f, e1⟩ | ⟨_, _, f, G, e1, e2⟩
      · rw [e1, e2] at pk
        clear e1 e2
        have own2 := own.alloc (.cells #[.int .i64 ((j : Int) + 1), .string sp, .nilFunc, .int .i64 r, .func (.func G) #[] #[], .int .i64 l, .int .i64 g, .int .i64 i, .bool h, .bool c] 63)
        have b2 := btw BV (box_below wr (.cells #[.int .i64 ((j : Int) + 1), .string sp, .nilFunc, .int .i64 r, .func (.func G) #[] #[], .int .i64 l, .int .i64 g, .int .i64 i, .bool h, .bool c] 63)) BV.size
        have lt := own.lt
        go_wp2_with (first
          | (at_mapUpdate; refine wpList_mapUpdate_own _ rfl _ _ _ 72 rfl 9 3 lawS Tryz.underlying72 _ w.heap.size j _ rfl own2 (by unfold maxLen; omega) _ _ _ rfl rfl hkey _ [] (plainElem_int Tryz.underlying3 (WalkArith.wf_i64 (by omega))) ?_
             intro w1 own3 gr1))
        go_roundw
        case rel => exact ⟨j + 1, by omega, by go_num, sd.out ▸ own3, b2.grown gr1 b2.size (fun q hq => by cases hq; exact Nat.le_refl _)⟩
        case measure => simp [intOf]; omega
      · rw [e1, e2] at pk
        clear e1 e2
        have own2 := own.alloc (.cells #[.int .i64 ((j : Int) + 1), .string sp, .func (.func f) #[] #[], .int .i64 r, .nilFunc, .int .i64 l, .int .i64 g, .int .i64 i, .bool h, .bool c] 63)
        have b2 := btw BV (box_below wr (.cells #[.int .i64 ((j : Int) + 1), .string sp, .func (.func f) #[] #[], .int .i64 r, .nilFunc, .int .i64 l, .int .i64 g, .int .i64 i, .bool h, .bool c] 63)) BV.size
        have lt := own.lt
        go_wp2_with (first
          | (at_mapUpdate; refine wpList_mapUpdate_own _ rfl _ _ _ 72 rfl 9 3 lawS Tryz.underlying72 _ w.heap.size j _ rfl own2 (by unfold maxLen; omega) _ _ _ rfl rfl hkey _ [] (plainElem_int Tryz.underlying3 (WalkArith.wf_i64 (by omega))) ?_
             intro w1 own3 gr1))
        go_roundw
        case rel => exact ⟨j + 1, by omega, by go_num, sd.out ▸ own3, b2.grown gr1 b2.size (fun q hq => by cases hq; exact Nat.le_refl _)⟩
        case measure => simp [intOf]; omega
      · rw [e1, e2] at pk
        clear e1 e2
        have own2 := own.alloc (.cells #[.int .i64 ((j : Int) + 1), .string sp, .func (.func f) #[] #[], .int .i64 r, .func (.func G) #[] #[], .int .i64 l, .int .i64 g, .int .i64 i, .bool h, .bool c] 63)
        have b2 := btw BV (box_below wr (.cells #[.int .i64 ((j : Int) + 1), .string sp, .func (.func f) #[] #[], .int .i64 r, .func (.func G) #[] #[], .int .i64 l, .int .i64 g, .int .i64 i, .bool h, .bool c] 63)) BV.size
        have lt := own.lt
        go_wp2_with (first
          | (at_mapUpdate; refine wpList_mapUpdate_own _ rfl _ _ _ 72 rfl 9 3 lawS Tryz.underlying72 _ w.heap.size j _ rfl own2 (by unfold maxLen; omega) _ _ _ rfl rfl hkey _ [] (plainElem_int Tryz.underlying3 (WalkArith.wf_i64 (by omega))) ?_
             intro w1 own3 gr1))
        go_roundw
        case rel => exact ⟨j + 1, by omega, by go_num, sd.out ▸ own3, b2.grown gr1 b2.size (fun q hq => by cases hq; exact Nat.le_refl _)⟩
        case measure => simp [intOf]; omega
    · obtain rfl : j = 43 := by omega
      have tj : decide (((43 : Nat) : Int) < 43) = false := by decide
      go_wp2
      go_ret
      exact ⟨rfl, own, BV⟩
theorem spellings_any (w : World) : Calls Tryz.prog 32 #[] w fun e w' => e = .returned (.map (some w.heap.size)) ∧ w'.ownsMap Tryz.prog 9 (plainElem Tryz.prog 3) w.heap.size 43 (spD 43) ∧ Below w.heap.size w w' :=
  spell_go prFlat.toArray rowsP_any (fun k hk W => index43 _ rfl k hk W) w
/-- What Of answers. -/
theorem of_any (s : ByteArray) (hs : s.size ≤ maxLen) (n : Int) (b : Bool) (hn : (spD 43).atKey (.string s.data.toList) (.lit (.int .i64 0)) = .lit (.int .i64 n)) (hb : has (spD 43) (.string s.data.toList) = b) (w : World) :
    Calls Tryz.prog 12 #[.string s] w fun e w' => e = .returned (.tuple #[.int .i64 n, .bool b]) ∧ Below w.heap.size w w' := by
  have hkey : keyOf Tryz.prog 9 (.string s) = some (.string s.data.toList) := WideMaps.keyOf_string_mk Tryz.underlying9 hs
  have hsp := spellings_any
  generalize spD 43 = D at *
  go_enter Tryz.func12, Tryz.ntmps12
  go_wp2_with (first
    | (go_at_call 32; (with_reducible refine (hsp _).mono ?_); rintro e w1 ⟨rfl, own, b1⟩)
    | (at_lookup; refine wpList_lookup_own_ok_int _ rfl _ _ 72 rfl 9 3 .i64 lawS Tryz.underlying72 Tryz.underlying3 (zeroI _) w.heap.size 43 D rfl own _ _ rfl hkey ?_
       intro c hat hwc
       rw [hn] at hat
       cases hat
       rw [hb]))
  go_ret2
  exact ⟨rfl, b1⟩
end Go.Proofs.YtelcagfaflpolaaGreat




namespace Go.Proofs.YtelcagfaflpolaaGreat

open Go.RowKit

set_option linter.unusedVariables false

/-- An answer: the error, the shape and the atoms, in new memory. -/
def AnsP (w : World) (E : Int) (S A : List Int) (e : Ending) (w' : World) : Prop := ∃ o1 n1 c1 o2 n2 c2, e = .returned (.tuple #[.agg #[.slice o1 n1 c1, .slice o2 n2 c2], .int .i64 E]) ∧ Ft 3 w' w.heap.size o1 n1 c1 S ∧ Ft 2 w' w.heap.size o2 n2 c2 A ∧ Below w.heap.size w w'
theorem ansP_of_Z {w : World} {E : Int} {S A : List Int} {e : Ending} {w' : World} (h : AnsZ w (fun s a => s = S ∧ a = A) E e w') : AnsP w E S A e w' := by
  obtain ⟨o1, n1, c1, o2, n2, c2, S', A', h1, h2, h3, ⟨rfl, rfl⟩, h4⟩ := h
  exact ⟨o1, n1, c1, o2, n2, c2, h1, h2, h3, h4⟩
theorem ansP_of_Q {w : World} {E : Int} {S A : List Int} {e : Ending} {w' : World} (h : AnsQ w (fun s a => s = S ∧ a = A) E e w') : AnsP w E S A e w' := by
  obtain ⟨o1, n1, c1, o2, n2, c2, S', A', h1, h2, h3, ⟨rfl, rfl⟩, h4⟩ := h
  exact ⟨o1, n1, c1, o2, n2, c2, h1, h2, h3, h4⟩
theorem ansP_no (w : World) (E : Int) {w' : World} (b : Below w.heap.size w w') : AnsP w E [] [] (.returned (.tuple #[.agg #[.slice none 0 0, .slice none 0 0], .int .i64 E])) w' :=
  ⟨none, 0, 0, none, 0, 0, rfl, Ft.nil _ _ _, Ft.nil _ _ _, b⟩
/-- An answer that is laid into the result's box. -/
theorem ansP_box {w W V : World} {E : Int} {o1 o2 : Option Addr} {n1 c1 n2 c2 b : Nat} {S A : List Int} (f1 : Ft 3 V W.heap.size o1 n1 c1 S) (f2 : Ft 2 V W.heap.size o2 n2 c2 A) (hb : w.heap.size ≤ b) (hB : b < W.heap.size) (bel : Below w.heap.size w V) :
    AnsP w E S A (.returned (.tuple #[.agg #[.slice o1 n1 c1, .slice o2 n2 c2], .int .i64 E])) ((V.setCell ⟨b, 0, none⟩ (.slice o1 n1 c1)).setCell ⟨b, 1, none⟩ (.slice o2 n2 c2)) :=
  ⟨o1, n1, c1, o2, n2, c2, rfl, (ft_setZ f1 hB _ _).mono (by omega), (ft_setZ f2 hB _ _).mono (by omega), below_set2 _ _ _ _ bel hb (Nat.le_refl _)⟩

set_option maxHeartbeats 2000000 in
theorem one_atom (op : Int) (sp : ByteArray) (D : Value) (r l g i : Int) (h c : Bool) (so ao : Option Addr) (sn sc an ac : Nat) (E : Int) (S A : List Int) (w : World)
    (hc : ∀ V, Below w.heap.size w V → Calls Tryz.prog 66 #[.int .i64 op, .agg #[.slice so sn sc, .slice ao an ac]] V fun e w' => AnsP V E S A e w') :
    Calls Tryz.prog 37 #[.agg #[.int .i64 op, .string sp, .func (.func 66) #[] #[], .int .i64 r, D, .int .i64 l, .int .i64 g, .int .i64 i, .bool h, .bool c], .agg #[.slice so sn sc, .slice ao an ac]] w fun e w' => AnsP w E S A e w' := by
  have b1 := box_below w (.cells #[.int .i64 op, .string sp, .func (.func 66) #[] #[], .int .i64 r, D, .int .i64 l, .int .i64 g, .int .i64 i, .bool h, .bool c] 63)
  have b2 := btw b1 (box_below _ (.cells #[.slice so sn sc, .slice ao an ac] 36)) b1.size
  have b3 := btw b2 (box_below _ (.cells #[.slice none 0 0, .slice none 0 0] 36)) b2.size
  have n3 := allocNew ((w.alloc (.cells #[.int .i64 op, .string sp, .func (.func 66) #[] #[], .int .i64 r, D, .int .i64 l, .int .i64 g, .int .i64 i, .bool h, .bool c] 63)).alloc (.cells #[.slice so sn sc, .slice ao an ac] 36)) (.cells #[.slice none 0 0, .slice none 0 0] 36)
  rw [World.size_alloc, World.size_alloc] at n3
  have hc3 := hc _ b3
  clear hc b1 b2
  go_enter Tryz.func37, Tryz.ntmps37
  go_wp2_with (first
    | (go_at_call 66; (with_reducible refine hc3.mono ?_); rintro e w5 ⟨o1, n1, c1, o2, n2, c2, rfl, f1, f2, k5⟩
       have b5 := btw b3 k5 b3.size
       obtain ⟨z0, z1, z2, z3⟩ := box2 ((k5.block (w.heap.size + 2) (by simp)).trans n3)
       clear hc3))
  (try simp only [Exit.inBlock, Exit.then])
  refine bodyPost_ret (v := .tuple #[.agg #[.slice o1 n1 c1, .slice o2 n2 c2], .int .i64 E]) (by rw [results_cell_tmp rfl]; go_simp) rfl ?_
  exact ansP_box f1 f2 (by omega) (by simp) b5

set_option maxHeartbeats 2000000 in
theorem two_atom (op : Int) (sp : ByteArray) (M : Value) (r l g i : Int) (h c : Bool) (xso xo : Option Addr) (xsn xsc xn xc : Nat) (so ao : Option Addr) (sn sc an ac : Nat) (E : Int) (S A : List Int) (w : World)
    (hc : ∀ V, Below w.heap.size w V → Calls Tryz.prog 67 #[.int .i64 op, .agg #[.slice xso xsn xsc, .slice xo xn xc], .agg #[.slice so sn sc, .slice ao an ac]] V fun e w' => AnsP V E S A e w') :
    Calls Tryz.prog 44 #[.agg #[.int .i64 op, .string sp, M, .int .i64 r, .func (.func 67) #[] #[], .int .i64 l, .int .i64 g, .int .i64 i, .bool h, .bool c], .agg #[.slice xso xsn xsc, .slice xo xn xc], .agg #[.slice so sn sc, .slice ao an ac]] w fun e w' => AnsP w E S A e w' := by
  have b1 := box_below w (.cells #[.int .i64 op, .string sp, M, .int .i64 r, .func (.func 67) #[] #[], .int .i64 l, .int .i64 g, .int .i64 i, .bool h, .bool c] 63)
  have b2 := btw b1 (box_below _ (.cells #[.slice xso xsn xsc, .slice xo xn xc] 36)) b1.size
  have b2' := btw b2 (box_below _ (.cells #[.slice so sn sc, .slice ao an ac] 36)) b2.size
  have b3 := btw b2' (box_below _ (.cells #[.slice none 0 0, .slice none 0 0] 36)) b2'.size
  have n3 := allocNew (((w.alloc (.cells #[.int .i64 op, .string sp, M, .int .i64 r, .func (.func 67) #[] #[], .int .i64 l, .int .i64 g, .int .i64 i, .bool h, .bool c] 63)).alloc (.cells #[.slice xso xsn xsc, .slice xo xn xc] 36)).alloc (.cells #[.slice so sn sc, .slice ao an ac] 36)) (.cells #[.slice none 0 0, .slice none 0 0] 36)
  rw [World.size_alloc, World.size_alloc, World.size_alloc] at n3
  have hc3 := hc _ b3
  clear hc b1 b2 b2'
  go_enter Tryz.func44, Tryz.ntmps44
  go_wp2_with (first
    | (go_at_call 67; (with_reducible refine hc3.mono ?_); rintro e w5 ⟨o1, n1, c1, o2, n2, c2, rfl, f1, f2, k5⟩
       have b5 := btw b3 k5 b3.size
       obtain ⟨z0, z1, z2, z3⟩ := box2 ((k5.block (w.heap.size + 3) (by simp)).trans n3)
       clear hc3))
  (try simp only [Exit.inBlock, Exit.then])
  refine bodyPost_ret (v := .tuple #[.agg #[.slice o1 n1 c1, .slice o2 n2 c2], .int .i64 E]) (by rw [results_cell_tmp rfl]; go_simp) rfl ?_
  exact ansP_box f1 f2 (by omega) (by simp) b5

set_option maxHeartbeats 2000000 in
theorem one_seek (op : Int) (sp : ByteArray) (D : Value) (r l g i : Int) (h c : Bool) (so ao : Option Addr) (sn sc an ac : Nat) (E : Int) (S A : List Int) (w : World)
    (hc : ∀ V, Below w.heap.size w V → Calls Tryz.prog 68 #[.int .i64 op, .agg #[.slice so sn sc, .slice ao an ac]] V fun e w' => AnsP V E S A e w') :
    Calls Tryz.prog 37 #[.agg #[.int .i64 op, .string sp, .func (.func 68) #[] #[], .int .i64 r, D, .int .i64 l, .int .i64 g, .int .i64 i, .bool h, .bool c], .agg #[.slice so sn sc, .slice ao an ac]] w fun e w' => AnsP w E S A e w' := by
  have b1 := box_below w (.cells #[.int .i64 op, .string sp, .func (.func 68) #[] #[], .int .i64 r, D, .int .i64 l, .int .i64 g, .int .i64 i, .bool h, .bool c] 63)
  have b2 := btw b1 (box_below _ (.cells #[.slice so sn sc, .slice ao an ac] 36)) b1.size
  have b3 := btw b2 (box_below _ (.cells #[.slice none 0 0, .slice none 0 0] 36)) b2.size
  have n3 := allocNew ((w.alloc (.cells #[.int .i64 op, .string sp, .func (.func 68) #[] #[], .int .i64 r, D, .int .i64 l, .int .i64 g, .int .i64 i, .bool h, .bool c] 63)).alloc (.cells #[.slice so sn sc, .slice ao an ac] 36)) (.cells #[.slice none 0 0, .slice none 0 0] 36)
  rw [World.size_alloc, World.size_alloc] at n3
  have hc3 := hc _ b3
  clear hc b1 b2
  go_enter Tryz.func37, Tryz.ntmps37
  go_wp2_with (first
    | (go_at_call 68; (with_reducible refine hc3.mono ?_); rintro e w5 ⟨o1, n1, c1, o2, n2, c2, rfl, f1, f2, k5⟩
       have b5 := btw b3 k5 b3.size
       obtain ⟨z0, z1, z2, z3⟩ := box2 ((k5.block (w.heap.size + 2) (by simp)).trans n3)
       clear hc3))
  (try simp only [Exit.inBlock, Exit.then])
  refine bodyPost_ret (v := .tuple #[.agg #[.slice o1 n1 c1, .slice o2 n2 c2], .int .i64 E]) (by rw [results_cell_tmp rfl]; go_simp) rfl ?_
  exact ansP_box f1 f2 (by omega) (by simp) b5

set_option maxHeartbeats 2000000 in
theorem two_seek (op : Int) (sp : ByteArray) (M : Value) (r l g i : Int) (h c : Bool) (xso xo : Option Addr) (xsn xsc xn xc : Nat) (so ao : Option Addr) (sn sc an ac : Nat) (E : Int) (S A : List Int) (w : World)
    (hc : ∀ V, Below w.heap.size w V → Calls Tryz.prog 69 #[.int .i64 op, .agg #[.slice xso xsn xsc, .slice xo xn xc], .agg #[.slice so sn sc, .slice ao an ac]] V fun e w' => AnsP V E S A e w') :
    Calls Tryz.prog 44 #[.agg #[.int .i64 op, .string sp, M, .int .i64 r, .func (.func 69) #[] #[], .int .i64 l, .int .i64 g, .int .i64 i, .bool h, .bool c], .agg #[.slice xso xsn xsc, .slice xo xn xc], .agg #[.slice so sn sc, .slice ao an ac]] w fun e w' => AnsP w E S A e w' := by
  have b1 := box_below w (.cells #[.int .i64 op, .string sp, M, .int .i64 r, .func (.func 69) #[] #[], .int .i64 l, .int .i64 g, .int .i64 i, .bool h, .bool c] 63)
  have b2 := btw b1 (box_below _ (.cells #[.slice xso xsn xsc, .slice xo xn xc] 36)) b1.size
  have b2' := btw b2 (box_below _ (.cells #[.slice so sn sc, .slice ao an ac] 36)) b2.size
  have b3 := btw b2' (box_below _ (.cells #[.slice none 0 0, .slice none 0 0] 36)) b2'.size
  have n3 := allocNew (((w.alloc (.cells #[.int .i64 op, .string sp, M, .int .i64 r, .func (.func 69) #[] #[], .int .i64 l, .int .i64 g, .int .i64 i, .bool h, .bool c] 63)).alloc (.cells #[.slice xso xsn xsc, .slice xo xn xc] 36)).alloc (.cells #[.slice so sn sc, .slice ao an ac] 36)) (.cells #[.slice none 0 0, .slice none 0 0] 36)
  rw [World.size_alloc, World.size_alloc, World.size_alloc] at n3
  have hc3 := hc _ b3
  clear hc b1 b2 b2'
  go_enter Tryz.func44, Tryz.ntmps44
  go_wp2_with (first
    | (go_at_call 69; (with_reducible refine hc3.mono ?_); rintro e w5 ⟨o1, n1, c1, o2, n2, c2, rfl, f1, f2, k5⟩
       have b5 := btw b3 k5 b3.size
       obtain ⟨z0, z1, z2, z3⟩ := box2 ((k5.block (w.heap.size + 3) (by simp)).trans n3)
       clear hc3))
  (try simp only [Exit.inBlock, Exit.then])
  refine bodyPost_ret (v := .tuple #[.agg #[.slice o1 n1 c1, .slice o2 n2 c2], .int .i64 E]) (by rw [results_cell_tmp rfl]; go_simp) rfl ?_
  exact ansP_box f1 f2 (by omega) (by simp) b5

set_option maxHeartbeats 2000000 in
theorem one_mold (op : Int) (sp : ByteArray) (D : Value) (r l g i : Int) (h c : Bool) (so ao : Option Addr) (sn sc an ac : Nat) (E : Int) (S A : List Int) (w : World)
    (hc : ∀ V, Below w.heap.size w V → Calls Tryz.prog 70 #[.int .i64 op, .agg #[.slice so sn sc, .slice ao an ac]] V fun e w' => AnsP V E S A e w') :
    Calls Tryz.prog 37 #[.agg #[.int .i64 op, .string sp, .func (.func 70) #[] #[], .int .i64 r, D, .int .i64 l, .int .i64 g, .int .i64 i, .bool h, .bool c], .agg #[.slice so sn sc, .slice ao an ac]] w fun e w' => AnsP w E S A e w' := by
  have b1 := box_below w (.cells #[.int .i64 op, .string sp, .func (.func 70) #[] #[], .int .i64 r, D, .int .i64 l, .int .i64 g, .int .i64 i, .bool h, .bool c] 63)
  have b2 := btw b1 (box_below _ (.cells #[.slice so sn sc, .slice ao an ac] 36)) b1.size
  have b3 := btw b2 (box_below _ (.cells #[.slice none 0 0, .slice none 0 0] 36)) b2.size
  have n3 := allocNew ((w.alloc (.cells #[.int .i64 op, .string sp, .func (.func 70) #[] #[], .int .i64 r, D, .int .i64 l, .int .i64 g, .int .i64 i, .bool h, .bool c] 63)).alloc (.cells #[.slice so sn sc, .slice ao an ac] 36)) (.cells #[.slice none 0 0, .slice none 0 0] 36)
  rw [World.size_alloc, World.size_alloc] at n3
  have hc3 := hc _ b3
  clear hc b1 b2
  go_enter Tryz.func37, Tryz.ntmps37
  go_wp2_with (first
    | (go_at_call 70; (with_reducible refine hc3.mono ?_); rintro e w5 ⟨o1, n1, c1, o2, n2, c2, rfl, f1, f2, k5⟩
       have b5 := btw b3 k5 b3.size
       obtain ⟨z0, z1, z2, z3⟩ := box2 ((k5.block (w.heap.size + 2) (by simp)).trans n3)
       clear hc3))
  (try simp only [Exit.inBlock, Exit.then])
  refine bodyPost_ret (v := .tuple #[.agg #[.slice o1 n1 c1, .slice o2 n2 c2], .int .i64 E]) (by rw [results_cell_tmp rfl]; go_simp) rfl ?_
  exact ansP_box f1 f2 (by omega) (by simp) b5

set_option maxHeartbeats 2000000 in
theorem two_mold (op : Int) (sp : ByteArray) (M : Value) (r l g i : Int) (h c : Bool) (xso xo : Option Addr) (xsn xsc xn xc : Nat) (so ao : Option Addr) (sn sc an ac : Nat) (E : Int) (S A : List Int) (w : World)
    (hc : ∀ V, Below w.heap.size w V → Calls Tryz.prog 72 #[.int .i64 op, .agg #[.slice xso xsn xsc, .slice xo xn xc], .agg #[.slice so sn sc, .slice ao an ac]] V fun e w' => AnsP V E S A e w') :
    Calls Tryz.prog 44 #[.agg #[.int .i64 op, .string sp, M, .int .i64 r, .func (.func 72) #[] #[], .int .i64 l, .int .i64 g, .int .i64 i, .bool h, .bool c], .agg #[.slice xso xsn xsc, .slice xo xn xc], .agg #[.slice so sn sc, .slice ao an ac]] w fun e w' => AnsP w E S A e w' := by
  have b1 := box_below w (.cells #[.int .i64 op, .string sp, M, .int .i64 r, .func (.func 72) #[] #[], .int .i64 l, .int .i64 g, .int .i64 i, .bool h, .bool c] 63)
  have b2 := btw b1 (box_below _ (.cells #[.slice xso xsn xsc, .slice xo xn xc] 36)) b1.size
  have b2' := btw b2 (box_below _ (.cells #[.slice so sn sc, .slice ao an ac] 36)) b2.size
  have b3 := btw b2' (box_below _ (.cells #[.slice none 0 0, .slice none 0 0] 36)) b2'.size
  have n3 := allocNew (((w.alloc (.cells #[.int .i64 op, .string sp, M, .int .i64 r, .func (.func 72) #[] #[], .int .i64 l, .int .i64 g, .int .i64 i, .bool h, .bool c] 63)).alloc (.cells #[.slice xso xsn xsc, .slice xo xn xc] 36)).alloc (.cells #[.slice so sn sc, .slice ao an ac] 36)) (.cells #[.slice none 0 0, .slice none 0 0] 36)
  rw [World.size_alloc, World.size_alloc, World.size_alloc] at n3
  have hc3 := hc _ b3
  clear hc b1 b2 b2'
  go_enter Tryz.func44, Tryz.ntmps44
  go_wp2_with (first
    | (go_at_call 72; (with_reducible refine hc3.mono ?_); rintro e w5 ⟨o1, n1, c1, o2, n2, c2, rfl, f1, f2, k5⟩
       have b5 := btw b3 k5 b3.size
       obtain ⟨z0, z1, z2, z3⟩ := box2 ((k5.block (w.heap.size + 3) (by simp)).trans n3)
       clear hc3))
  (try simp only [Exit.inBlock, Exit.then])
  refine bodyPost_ret (v := .tuple #[.agg #[.slice o1 n1 c1, .slice o2 n2 c2], .int .i64 E]) (by rw [results_cell_tmp rfl]; go_simp) rfl ?_
  exact ansP_box f1 f2 (by omega) (by simp) b5

set_option maxHeartbeats 2000000 in
theorem one_digit (op : Int) (sp : ByteArray) (D : Value) (r l g i : Int) (h c : Bool) (so ao : Option Addr) (sn sc an ac : Nat) (E : Int) (S A : List Int) (w : World)
    (hc : ∀ V, Below w.heap.size w V → Calls Tryz.prog 73 #[.int .i64 op, .agg #[.slice so sn sc, .slice ao an ac]] V fun e w' => AnsP V E S A e w') :
    Calls Tryz.prog 37 #[.agg #[.int .i64 op, .string sp, .func (.func 73) #[] #[], .int .i64 r, D, .int .i64 l, .int .i64 g, .int .i64 i, .bool h, .bool c], .agg #[.slice so sn sc, .slice ao an ac]] w fun e w' => AnsP w E S A e w' := by
  have b1 := box_below w (.cells #[.int .i64 op, .string sp, .func (.func 73) #[] #[], .int .i64 r, D, .int .i64 l, .int .i64 g, .int .i64 i, .bool h, .bool c] 63)
  have b2 := btw b1 (box_below _ (.cells #[.slice so sn sc, .slice ao an ac] 36)) b1.size
  have b3 := btw b2 (box_below _ (.cells #[.slice none 0 0, .slice none 0 0] 36)) b2.size
  have n3 := allocNew ((w.alloc (.cells #[.int .i64 op, .string sp, .func (.func 73) #[] #[], .int .i64 r, D, .int .i64 l, .int .i64 g, .int .i64 i, .bool h, .bool c] 63)).alloc (.cells #[.slice so sn sc, .slice ao an ac] 36)) (.cells #[.slice none 0 0, .slice none 0 0] 36)
  rw [World.size_alloc, World.size_alloc] at n3
  have hc3 := hc _ b3
  clear hc b1 b2
  go_enter Tryz.func37, Tryz.ntmps37
  go_wp2_with (first
    | (go_at_call 73; (with_reducible refine hc3.mono ?_); rintro e w5 ⟨o1, n1, c1, o2, n2, c2, rfl, f1, f2, k5⟩
       have b5 := btw b3 k5 b3.size
       obtain ⟨z0, z1, z2, z3⟩ := box2 ((k5.block (w.heap.size + 2) (by simp)).trans n3)
       clear hc3))
  (try simp only [Exit.inBlock, Exit.then])
  refine bodyPost_ret (v := .tuple #[.agg #[.slice o1 n1 c1, .slice o2 n2 c2], .int .i64 E]) (by rw [results_cell_tmp rfl]; go_simp) rfl ?_
  exact ansP_box f1 f2 (by omega) (by simp) b5

set_option maxHeartbeats 2000000 in
theorem two_digit (op : Int) (sp : ByteArray) (M : Value) (r l g i : Int) (h c : Bool) (xso xo : Option Addr) (xsn xsc xn xc : Nat) (so ao : Option Addr) (sn sc an ac : Nat) (E : Int) (S A : List Int) (w : World)
    (hc : ∀ V, Below w.heap.size w V → Calls Tryz.prog 71 #[.int .i64 op, .agg #[.slice xso xsn xsc, .slice xo xn xc], .agg #[.slice so sn sc, .slice ao an ac]] V fun e w' => AnsP V E S A e w') :
    Calls Tryz.prog 44 #[.agg #[.int .i64 op, .string sp, M, .int .i64 r, .func (.func 71) #[] #[], .int .i64 l, .int .i64 g, .int .i64 i, .bool h, .bool c], .agg #[.slice xso xsn xsc, .slice xo xn xc], .agg #[.slice so sn sc, .slice ao an ac]] w fun e w' => AnsP w E S A e w' := by
  have b1 := box_below w (.cells #[.int .i64 op, .string sp, M, .int .i64 r, .func (.func 71) #[] #[], .int .i64 l, .int .i64 g, .int .i64 i, .bool h, .bool c] 63)
  have b2 := btw b1 (box_below _ (.cells #[.slice xso xsn xsc, .slice xo xn xc] 36)) b1.size
  have b2' := btw b2 (box_below _ (.cells #[.slice so sn sc, .slice ao an ac] 36)) b2.size
  have b3 := btw b2' (box_below _ (.cells #[.slice none 0 0, .slice none 0 0] 36)) b2'.size
  have n3 := allocNew (((w.alloc (.cells #[.int .i64 op, .string sp, M, .int .i64 r, .func (.func 71) #[] #[], .int .i64 l, .int .i64 g, .int .i64 i, .bool h, .bool c] 63)).alloc (.cells #[.slice xso xsn xsc, .slice xo xn xc] 36)).alloc (.cells #[.slice so sn sc, .slice ao an ac] 36)) (.cells #[.slice none 0 0, .slice none 0 0] 36)
  rw [World.size_alloc, World.size_alloc, World.size_alloc] at n3
  have hc3 := hc _ b3
  clear hc b1 b2 b2'
  go_enter Tryz.func44, Tryz.ntmps44
  go_wp2_with (first
    | (go_at_call 71; (with_reducible refine hc3.mono ?_); rintro e w5 ⟨o1, n1, c1, o2, n2, c2, rfl, f1, f2, k5⟩
       have b5 := btw b3 k5 b3.size
       obtain ⟨z0, z1, z2, z3⟩ := box2 ((k5.block (w.heap.size + 3) (by simp)).trans n3)
       clear hc3))
  (try simp only [Exit.inBlock, Exit.then])
  refine bodyPost_ret (v := .tuple #[.agg #[.slice o1 n1 c1, .slice o2 n2 c2], .int .i64 E]) (by rw [results_cell_tmp rfl]; go_simp) rfl ?_
  exact ansP_box f1 f2 (by omega) (by simp) b5
end Go.Proofs.YtelcagfaflpolaaGreat




namespace Go.Proofs.YtelcagfaflpolaaGreat

open Go.RowKit

set_option linter.unusedVariables false

set_option maxHeartbeats 2000000 in
theorem lift1_zero (R : Array Value) (r : Int) (so ao : Option Addr) (sn sc an ac : Nat) (E : Int) (S A : List Int) (w : World) (hr : r = 0)
    (hq : ∀ V, Below w.heap.size w V → Calls Tryz.prog 37 #[.agg R, .agg #[.slice so sn sc, .slice ao an ac]] V fun e w' => AnsP V E S A e w') :
    Calls Tryz.prog 36 #[.agg #[.slice so sn sc, .slice ao an ac], .int .i64 r, .func (.func 37) #[.agg R] #[]] w fun e w' => AnsP w E S A e w' := by
  have b1 := box_below w (.cells #[.slice so sn sc, .slice ao an ac] 36)
  have b2 := btw b1 (box_below _ (.cells #[.func (.func 37) #[.agg R] #[]] 81)) b1.size
  have b3 := btw b2 (box_below _ (.cells #[.slice none 0 0, .slice none 0 0] 36)) b2.size
  have n3 := allocNew ((w.alloc (.cells #[.slice so sn sc, .slice ao an ac] 36)).alloc (.cells #[.func (.func 37) #[.agg R] #[]] 81)) (.cells #[.slice none 0 0, .slice none 0 0] 36)
  have a2 := allocNew (w.alloc (.cells #[.slice so sn sc, .slice ao an ac] 36)) (.cells #[.func (.func 37) #[.agg R] #[]] 81)
  rw [World.size_alloc] at a2
  have n2 := ((box_below ((w.alloc (.cells #[.slice so sn sc, .slice ao an ac] 36)).alloc (.cells #[.func (.func 37) #[.agg R] #[]] 81)) (.cells #[.slice none 0 0, .slice none 0 0] 36)).block (w.heap.size + 1) (by simp)).trans a2
  have n1 := ((btw (box_below (w.alloc (.cells #[.slice so sn sc, .slice ao an ac] 36)) (.cells #[.func (.func 37) #[.agg R] #[]] 81)) (box_below _ (.cells #[.slice none 0 0, .slice none 0 0] 36)) (by simp)).block w.heap.size (by simp)).trans (allocNew w (.cells #[.slice so sn sc, .slice ao an ac] 36))
  rw [World.size_alloc, World.size_alloc] at n3
  clear b1 b2 a2
  have t1 : (r == 0) = true := by simpa using hr
  clear hr
  have hc3 := hq _ b3
  clear hq
  go_enter Tryz.func36, Tryz.ntmps36
  go_wp2_with (first
    | (go_at_call 37; (with_reducible refine hc3.mono ?_); rintro e w5 ⟨o1, n1', c1, o2, n2', c2, rfl, f1, f2, k5⟩
       have b5 := btw b3 k5 b3.size
       obtain ⟨z0, z1, z2, z3⟩ := box2 ((k5.block (w.heap.size + 2) (by simp <;> omega)).trans n3)
       clear hc3))
  (try simp only [Exit.inBlock, Exit.then])
  refine bodyPost_ret (v := .tuple #[.agg #[.slice o1 n1' c1, .slice o2 n2' c2], .int .i64 E]) (by rw [results_cell_tmp rfl]; go_simp) rfl ?_
  exact ansP_box f1 f2 (by omega) (by simp) b5

set_option maxHeartbeats 2000000 in
theorem lift1_whole (R : Array Value) (r : Int) (so ao : Option Addr) (sn sc an ac : Nat) (E : Int) (S A : List Int) (w : World) (hr : (r == 0) = false) (hw : (sn : Int) ≤ r)
    (hq : ∀ V, Below w.heap.size w V → Calls Tryz.prog 37 #[.agg R, .agg #[.slice so sn sc, .slice ao an ac]] V fun e w' => AnsP V E S A e w') :
    Calls Tryz.prog 36 #[.agg #[.slice so sn sc, .slice ao an ac], .int .i64 r, .func (.func 37) #[.agg R] #[]] w fun e w' => AnsP w E S A e w' := by
  have b1 := box_below w (.cells #[.slice so sn sc, .slice ao an ac] 36)
  have b2 := btw b1 (box_below _ (.cells #[.func (.func 37) #[.agg R] #[]] 81)) b1.size
  have b3 := btw b2 (box_below _ (.cells #[.slice none 0 0, .slice none 0 0] 36)) b2.size
  have n3 := allocNew ((w.alloc (.cells #[.slice so sn sc, .slice ao an ac] 36)).alloc (.cells #[.func (.func 37) #[.agg R] #[]] 81)) (.cells #[.slice none 0 0, .slice none 0 0] 36)
  have a2 := allocNew (w.alloc (.cells #[.slice so sn sc, .slice ao an ac] 36)) (.cells #[.func (.func 37) #[.agg R] #[]] 81)
  rw [World.size_alloc] at a2
  have n2 := ((box_below ((w.alloc (.cells #[.slice so sn sc, .slice ao an ac] 36)).alloc (.cells #[.func (.func 37) #[.agg R] #[]] 81)) (.cells #[.slice none 0 0, .slice none 0 0] 36)).block (w.heap.size + 1) (by simp)).trans a2
  have n1 := ((btw (box_below (w.alloc (.cells #[.slice so sn sc, .slice ao an ac] 36)) (.cells #[.func (.func 37) #[.agg R] #[]] 81)) (box_below _ (.cells #[.slice none 0 0, .slice none 0 0] 36)) (by simp)).block w.heap.size (by simp)).trans (allocNew w (.cells #[.slice so sn sc, .slice ao an ac] 36))
  rw [World.size_alloc, World.size_alloc] at n3
  clear b1 b2 a2
  have t2 : decide ((sn : Int) ≤ r) = true := by simpa using hw
  clear hw
  have hwh := whole_any so ao sn sc an ac r (((w.alloc (.cells #[.slice so sn sc, .slice ao an ac] 36)).alloc (.cells #[.func (.func 37) #[.agg R] #[]] 81)).alloc (.cells #[.slice none 0 0, .slice none 0 0] 36))
  rw [t2] at hwh
  clear t2
  go_enter Tryz.func36, Tryz.ntmps36
  go_wp2_with (first
    | (go_at_call 55; (with_reducible refine hwh.mono ?_); rintro e w4 ⟨rfl, k4⟩
       have b4 := btw b3 k4 b3.size
       have s4 := k4.size
       rw [World.size_alloc, World.size_alloc, World.size_alloc] at s4
       have m3 := (k4.block (w.heap.size + 2) (by simp <;> omega)).trans n3
       have m2 := (k4.block (w.heap.size + 1) (by simp <;> omega)).trans n2
       have m1 := (k4.block w.heap.size (by simp <;> omega)).trans n1
       obtain ⟨x0, x1, _, _⟩ := box2 m1
       have y0 := (cell_of_row w4 (w.heap.size + 1) 0 _ 81 (0, 0) m2).trans rfl
       have hc3 := hq _ b4
       clear hwh hq n1 n2 n3 k4)
    | (go_at_call 37; (with_reducible refine hc3.mono ?_); rintro e w5 ⟨o1, n1', c1, o2, n2', c2, rfl, f1, f2, k5⟩
       have b5 := btw b4 k5 b4.size
       obtain ⟨z0, z1, z2, z3⟩ := box2 ((k5.block (w.heap.size + 2) (by omega)).trans m3)
       clear hc3))
  (try simp only [Exit.inBlock, Exit.then])
  refine bodyPost_ret (v := .tuple #[.agg #[.slice o1 n1' c1, .slice o2 n2' c2], .int .i64 E]) (by rw [results_cell_tmp rfl]; go_simp) rfl ?_
  exact ansP_box f1 f2 (by omega) (by omega) b5

set_option maxHeartbeats 2000000 in
theorem lift2_zero (R : Array Value) (l r : Int) (xso xo : Option Addr) (xsn xsc xn xc : Nat) (so ao : Option Addr) (sn sc an ac : Nat) (E : Int) (S A : List Int) (w : World) (hl : l = 0) (hr : r = 0)
    (hq : ∀ V, Below w.heap.size w V → Calls Tryz.prog 44 #[.agg R, .agg #[.slice xso xsn xsc, .slice xo xn xc], .agg #[.slice so sn sc, .slice ao an ac]] V fun e w' => AnsP V E S A e w') :
    Calls Tryz.prog 43 #[.agg #[.slice xso xsn xsc, .slice xo xn xc], .agg #[.slice so sn sc, .slice ao an ac], .int .i64 l, .int .i64 r, .func (.func 44) #[.agg R] #[]] w fun e w' => AnsP w E S A e w' := by
  have b0 := box_below w (.cells #[.slice xso xsn xsc, .slice xo xn xc] 36)
  have b1 := btw b0 (box_below _ (.cells #[.slice so sn sc, .slice ao an ac] 36)) b0.size
  have b2 := btw b1 (box_below _ (.cells #[.func (.func 44) #[.agg R] #[]] 89)) b1.size
  have b3 := btw b2 (box_below _ (.cells #[.slice none 0 0, .slice none 0 0] 36)) b2.size
  obtain ⟨W1, hW1⟩ : ∃ W, W = w.alloc (.cells #[.slice xso xsn xsc, .slice xo xn xc] 36) := ⟨_, rfl⟩
  obtain ⟨W2, hW2⟩ : ∃ W, W = W1.alloc (.cells #[.slice so sn sc, .slice ao an ac] 36) := ⟨_, rfl⟩
  obtain ⟨W3, hW3⟩ : ∃ W, W = W2.alloc (.cells #[.func (.func 44) #[.agg R] #[]] 89) := ⟨_, rfl⟩
  have s1 : W1.heap.size = w.heap.size + 1 := by rw [hW1]; simp
  have s2 : W2.heap.size = w.heap.size + 2 := by rw [hW2]; simp; omega
  have s3 : W3.heap.size = w.heap.size + 3 := by rw [hW3]; simp; omega
  have k3 := box_below W3 (.cells #[.slice none 0 0, .slice none 0 0] 36)
  have k2 := btw (hW3 ▸ box_below W2 (.cells #[.func (.func 44) #[.agg R] #[]] 89)) k3 (by omega)
  have k1 := btw (hW2 ▸ box_below W1 (.cells #[.slice so sn sc, .slice ao an ac] 36)) k2 (by omega)
  have n4 := allocNew W3 (.cells #[.slice none 0 0, .slice none 0 0] 36)
  have n3 := (k3.block W2.heap.size (by omega)).trans (hW3 ▸ allocNew W2 (.cells #[.func (.func 44) #[.agg R] #[]] 89))
  have n2 := (k2.block W1.heap.size (by omega)).trans (hW2 ▸ allocNew W1 (.cells #[.slice so sn sc, .slice ao an ac] 36))
  have n1 := (k1.block w.heap.size (by omega)).trans (hW1 ▸ allocNew w (.cells #[.slice xso xsn xsc, .slice xo xn xc] 36))
  rw [s3] at n4
  rw [s2] at n3
  rw [s1] at n2
  have s4 : (W3.alloc (.cells #[.slice none 0 0, .slice none 0 0] 36)).heap.size = w.heap.size + 4 := by simp; omega
  subst hW3
  subst hW2
  subst hW1
  clear b0 b1 b2 k1 k2 k3 s1 s2 s3
  have t1 : (l == 0) = true := by simpa using hl
  have t2 : (r == 0) = true := by simpa using hr
  clear hr hl
  have hc3 := hq _ b3
  clear hq
  go_enter Tryz.func43, Tryz.ntmps43
  go_wp2_with (first
    | (go_at_call 44; (with_reducible refine hc3.mono ?_); rintro e w5 ⟨o1, n1', c1, o2, n2', c2, rfl, f1, f2, k5⟩
       have b5 := btw b3 k5 b3.size
       obtain ⟨z0, z1, z2, z3⟩ := box2 ((k5.block (w.heap.size + 3) (by omega)).trans n4)
       clear hc3))
  (try simp only [Exit.inBlock, Exit.then])
  refine bodyPost_ret (v := .tuple #[.agg #[.slice o1 n1' c1, .slice o2 n2' c2], .int .i64 E]) (by rw [results_cell_tmp rfl]; go_simp) rfl ?_
  exact ansP_box f1 f2 (by omega) (by omega) b5

set_option maxHeartbeats 2000000 in
theorem lift2_whole (R : Array Value) (l r : Int) (xso xo : Option Addr) (xsn xsc xn xc : Nat) (so ao : Option Addr) (sn sc an ac : Nat) (E : Int) (S A : List Int) (w : World) (hl : (l == 0) = false) (hwx : (xsn : Int) ≤ l) (hw : (sn : Int) ≤ r)
    (hq : ∀ V, Below w.heap.size w V → Calls Tryz.prog 44 #[.agg R, .agg #[.slice xso xsn xsc, .slice xo xn xc], .agg #[.slice so sn sc, .slice ao an ac]] V fun e w' => AnsP V E S A e w') :
    Calls Tryz.prog 43 #[.agg #[.slice xso xsn xsc, .slice xo xn xc], .agg #[.slice so sn sc, .slice ao an ac], .int .i64 l, .int .i64 r, .func (.func 44) #[.agg R] #[]] w fun e w' => AnsP w E S A e w' := by
  have b0 := box_below w (.cells #[.slice xso xsn xsc, .slice xo xn xc] 36)
  have b1 := btw b0 (box_below _ (.cells #[.slice so sn sc, .slice ao an ac] 36)) b0.size
  have b2 := btw b1 (box_below _ (.cells #[.func (.func 44) #[.agg R] #[]] 89)) b1.size
  have b3 := btw b2 (box_below _ (.cells #[.slice none 0 0, .slice none 0 0] 36)) b2.size
  obtain ⟨W1, hW1⟩ : ∃ W, W = w.alloc (.cells #[.slice xso xsn xsc, .slice xo xn xc] 36) := ⟨_, rfl⟩
  obtain ⟨W2, hW2⟩ : ∃ W, W = W1.alloc (.cells #[.slice so sn sc, .slice ao an ac] 36) := ⟨_, rfl⟩
  obtain ⟨W3, hW3⟩ : ∃ W, W = W2.alloc (.cells #[.func (.func 44) #[.agg R] #[]] 89) := ⟨_, rfl⟩
  have s1 : W1.heap.size = w.heap.size + 1 := by rw [hW1]; simp
  have s2 : W2.heap.size = w.heap.size + 2 := by rw [hW2]; simp; omega
  have s3 : W3.heap.size = w.heap.size + 3 := by rw [hW3]; simp; omega
  have k3 := box_below W3 (.cells #[.slice none 0 0, .slice none 0 0] 36)
  have k2 := btw (hW3 ▸ box_below W2 (.cells #[.func (.func 44) #[.agg R] #[]] 89)) k3 (by omega)
  have k1 := btw (hW2 ▸ box_below W1 (.cells #[.slice so sn sc, .slice ao an ac] 36)) k2 (by omega)
  have n4 := allocNew W3 (.cells #[.slice none 0 0, .slice none 0 0] 36)
  have n3 := (k3.block W2.heap.size (by omega)).trans (hW3 ▸ allocNew W2 (.cells #[.func (.func 44) #[.agg R] #[]] 89))
  have n2 := (k2.block W1.heap.size (by omega)).trans (hW2 ▸ allocNew W1 (.cells #[.slice so sn sc, .slice ao an ac] 36))
  have n1 := (k1.block w.heap.size (by omega)).trans (hW1 ▸ allocNew w (.cells #[.slice xso xsn xsc, .slice xo xn xc] 36))
  rw [s3] at n4
  rw [s2] at n3
  rw [s1] at n2
  have s4 : (W3.alloc (.cells #[.slice none 0 0, .slice none 0 0] 36)).heap.size = w.heap.size + 4 := by simp; omega
  subst hW3
  subst hW2
  subst hW1
  clear b0 b1 b2 k1 k2 k3 s1 s2 s3
  have t2 : decide ((sn : Int) ≤ r) = true := by simpa using hw
  have t3 : decide ((xsn : Int) ≤ l) = true := by simpa using hwx
  clear hw hwx
  have hw1 := fun V => whole_any xso xo xsn xsc xn xc l V
  have hw2 := fun V => whole_any so ao sn sc an ac r V
  rw [t3] at hw1
  rw [t2] at hw2
  clear t2 t3
  go_enter Tryz.func43, Tryz.ntmps43
  go_wp2_with (first
    | (go_at_call 55; (with_reducible refine (hw1 _).mono ?_); rintro e w4 ⟨rfl, k4⟩
       have b4 := btw b3 k4 b3.size
       have s5 := k4.size
       have m4 := (k4.block (w.heap.size + 3) (by omega)).trans n4
       have m3 := (k4.block (w.heap.size + 2) (by omega)).trans n3
       have m2 := (k4.block (w.heap.size + 1) (by omega)).trans n2
       have m1 := (k4.block w.heap.size (by omega)).trans n1
       obtain ⟨x0, x1, _, _⟩ := box2 m1
       obtain ⟨u0, u1, _, _⟩ := box2 m2
       clear n1 n2 n3 n4 k4)
    | (go_at_call 55; (with_reducible refine (hw2 _).mono ?_); rintro e w6 ⟨rfl, k4⟩
       have b6 := btw b4 k4 b4.size
       have s6 := k4.size
       have p4 := (k4.block (w.heap.size + 3) (by omega)).trans m4
       have p3 := (k4.block (w.heap.size + 2) (by omega)).trans m3
       have p2 := (k4.block (w.heap.size + 1) (by omega)).trans m2
       have p1 := (k4.block w.heap.size (by omega)).trans m1
       clear x0 x1 u0 u1
       obtain ⟨x0, x1, _, _⟩ := box2 p1
       obtain ⟨u0, u1, _, _⟩ := box2 p2
       have y0 := (cell_of_row w6 (w.heap.size + 2) 0 _ 89 (0, 0) p3).trans rfl
       have hc3 := hq _ b6
       clear hw1 hw2 hq m1 m2 m3 m4 k4)
    | (go_at_call 44; (with_reducible refine hc3.mono ?_); rintro e w5 ⟨o1, n1', c1, o2, n2', c2, rfl, f1, f2, k5⟩
       have b5 := btw b6 k5 b6.size
       obtain ⟨z0, z1, z2, z3⟩ := box2 ((k5.block (w.heap.size + 3) (by omega)).trans p4)
       clear hc3))
  (try simp only [Exit.inBlock, Exit.then])
  refine bodyPost_ret (v := .tuple #[.agg #[.slice o1 n1' c1, .slice o2 n2' c2], .int .i64 E]) (by rw [results_cell_tmp rfl]; go_simp) rfl ?_
  exact ansP_box f1 f2 (by omega) (by omega) b5
end Go.Proofs.YtelcagfaflpolaaGreat
