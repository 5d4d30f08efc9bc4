
/- Package prim: what is told of a row; Info; a row's work; whole. -/

import Derived.Test.YtelcagfaflpolaaGreatA4
import Derived.Laws.EntriesVeiled
import Derived.Great.BuildSlice
import Derived.Deep.WholeRow
import Derived.Deep.Cut
import Derived.Test.YtelcagfaflpolaaGreatB1





namespace Go.Proofs.YtelcagfaflpolaaGreat

open Go.RowKit

set_option linter.unusedVariables false

def prTab : List (List Value) := [
  [.int .i64 1, .string ⟨#[43]⟩, .func (.func 66) #[] #[], .int .i64 0, .func (.func 67) #[] #[], .int .i64 0, .int .i64 0, .int .i64 0, .bool true, .bool true],
  [.int .i64 2, .string ⟨#[45]⟩, .func (.func 66) #[] #[], .int .i64 0, .func (.func 67) #[] #[], .int .i64 0, .int .i64 0, .int .i64 0, .bool true, .bool false],
  [.int .i64 3, .string ⟨#[42]⟩, .func (.func 66) #[] #[], .int .i64 0, .func (.func 67) #[] #[], .int .i64 0, .int .i64 0, .int .i64 1, .bool true, .bool true],
  [.int .i64 4, .string ⟨#[37]⟩, .nilFunc, .int .i64 0, .func (.func 67) #[] #[], .int .i64 0, .int .i64 0, .int .i64 1, .bool true, .bool false],
  [.int .i64 5, .string ⟨#[124]⟩, .func (.func 66) #[] #[], .int .i64 0, .func (.func 67) #[] #[], .int .i64 0, .int .i64 0, .int .i64 0, .bool true, .bool false],
  [.int .i64 6, .string ⟨#[60, 46]⟩, .func (.func 66) #[] #[], .int .i64 0, .func (.func 67) #[] #[], .int .i64 0, .int .i64 0, .int .i64 9223372036854775807, .bool true, .bool true],
  [.int .i64 7, .string ⟨#[62, 46]⟩, .func (.func 66) #[] #[], .int .i64 0, .func (.func 67) #[] #[], .int .i64 0, .int .i64 0, .int .i64 (-9223372036854775808), .bool true, .bool true],
  [.int .i64 8, .string ⟨#[60]⟩, .nilFunc, .int .i64 0, .func (.func 67) #[] #[], .int .i64 0, .int .i64 0, .int .i64 0, .bool true, .bool false],
  [.int .i64 9, .string ⟨#[62]⟩, .nilFunc, .int .i64 0, .func (.func 67) #[] #[], .int .i64 0, .int .i64 0, .int .i64 0, .bool true, .bool false],
  [.int .i64 10, .string ⟨#[61]⟩, .func (.func 68) #[] #[], .int .i64 64, .func (.func 67) #[] #[], .int .i64 0, .int .i64 0, .int .i64 1, .bool true, .bool true],
  [.int .i64 11, .string ⟨#[126, 58]⟩, .func (.func 68) #[] #[], .int .i64 64, .func (.func 67) #[] #[], .int .i64 0, .int .i64 0, .int .i64 0, .bool true, .bool true],
  [.int .i64 12, .string ⟨#[60, 58]⟩, .func (.func 66) #[] #[], .int .i64 0, .func (.func 67) #[] #[], .int .i64 0, .int .i64 0, .int .i64 1, .bool true, .bool false],
  [.int .i64 13, .string ⟨#[62, 58]⟩, .func (.func 66) #[] #[], .int .i64 0, .func (.func 67) #[] #[], .int .i64 0, .int .i64 0, .int .i64 1, .bool true, .bool false],
  [.int .i64 14, .string ⟨#[43, 46]⟩, .nilFunc, .int .i64 0, .func (.func 67) #[] #[], .int .i64 0, .int .i64 0, .int .i64 0, .bool true, .bool true],
  [.int .i64 15, .string ⟨#[42, 46]⟩, .nilFunc, .int .i64 0, .func (.func 67) #[] #[], .int .i64 0, .int .i64 0, .int .i64 1, .bool true, .bool true],
  [.int .i64 16, .string ⟨#[43, 58]⟩, .func (.func 66) #[] #[], .int .i64 0, .func (.func 67) #[] #[], .int .i64 0, .int .i64 0, .int .i64 0, .bool false, .bool true],
  [.int .i64 17, .string ⟨#[42, 58]⟩, .func (.func 66) #[] #[], .int .i64 0, .func (.func 67) #[] #[], .int .i64 0, .int .i64 0, .int .i64 0, .bool false, .bool true],
  [.int .i64 18, .string ⟨#[45, 46]⟩, .func (.func 66) #[] #[], .int .i64 0, .func (.func 69) #[] #[], .int .i64 64, .int .i64 64, .int .i64 0, .bool false, .bool false],
  [.int .i64 19, .string ⟨#[45, 58]⟩, .func (.func 66) #[] #[], .int .i64 0, .func (.func 69) #[] #[], .int .i64 64, .int .i64 64, .int .i64 0, .bool false, .bool true],
  [.int .i64 20, .string ⟨#[94]⟩, .nilFunc, .int .i64 0, .func (.func 67) #[] #[], .int .i64 0, .int .i64 0, .int .i64 1, .bool true, .bool false],
  [.int .i64 21, .string ⟨#[33]⟩, .func (.func 66) #[] #[], .int .i64 0, .func (.func 67) #[] #[], .int .i64 0, .int .i64 0, .int .i64 1, .bool true, .bool false],
  [.int .i64 22, .string ⟨#[35]⟩, .func (.func 70) #[] #[], .int .i64 64, .func (.func 71) #[] #[], .int .i64 1, .int .i64 64, .int .i64 0, .bool false, .bool false],
  [.int .i64 23, .string ⟨#[36]⟩, .func (.func 70) #[] #[], .int .i64 64, .func (.func 72) #[] #[], .int .i64 1, .int .i64 64, .int .i64 0, .bool false, .bool false],
  [.int .i64 24, .string ⟨#[44]⟩, .func (.func 70) #[] #[], .int .i64 64, .func (.func 72) #[] #[], .int .i64 64, .int .i64 64, .int .i64 0, .bool false, .bool false],
  [.int .i64 25, .string ⟨#[44, 46]⟩, .func (.func 70) #[] #[], .int .i64 64, .func (.func 72) #[] #[], .int .i64 64, .int .i64 64, .int .i64 0, .bool false, .bool false],
  [.int .i64 26, .string ⟨#[44, 58]⟩, .func (.func 70) #[] #[], .int .i64 64, .func (.func 72) #[] #[], .int .i64 64, .int .i64 64, .int .i64 0, .bool false, .bool false],
  [.int .i64 27, .string ⟨#[123]⟩, .nilFunc, .int .i64 0, .func (.func 69) #[] #[], .int .i64 0, .int .i64 64, .int .i64 0, .bool false, .bool false],
  [.int .i64 28, .string ⟨#[123, 46]⟩, .func (.func 70) #[] #[], .int .i64 64, .func (.func 72) #[] #[], .int .i64 1, .int .i64 64, .int .i64 0, .bool false, .bool false],
  [.int .i64 29, .string ⟨#[125, 46]⟩, .func (.func 70) #[] #[], .int .i64 64, .func (.func 72) #[] #[], .int .i64 1, .int .i64 64, .int .i64 0, .bool false, .bool false],
  [.int .i64 30, .string ⟨#[123, 58]⟩, .func (.func 70) #[] #[], .int .i64 64, .nilFunc, .int .i64 0, .int .i64 0, .int .i64 0, .bool false, .bool false],
  [.int .i64 31, .string ⟨#[125, 58]⟩, .func (.func 70) #[] #[], .int .i64 64, .nilFunc, .int .i64 0, .int .i64 0, .int .i64 0, .bool false, .bool false],
  [.int .i64 32, .string ⟨#[124, 46]⟩, .func (.func 70) #[] #[], .int .i64 64, .func (.func 72) #[] #[], .int .i64 1, .int .i64 64, .int .i64 0, .bool false, .bool false],
  [.int .i64 33, .string ⟨#[124, 58]⟩, .func (.func 70) #[] #[], .int .i64 64, .func (.func 72) #[] #[], .int .i64 1, .int .i64 64, .int .i64 0, .bool false, .bool false],
  [.int .i64 34, .string ⟨#[105, 46]⟩, .func (.func 73) #[] #[], .int .i64 1, .func (.func 69) #[] #[], .int .i64 64, .int .i64 64, .int .i64 0, .bool false, .bool false],
  [.int .i64 35, .string ⟨#[101, 46]⟩, .nilFunc, .int .i64 0, .func (.func 69) #[] #[], .int .i64 64, .int .i64 64, .int .i64 0, .bool false, .bool false],
  [.int .i64 36, .string ⟨#[126, 46]⟩, .func (.func 68) #[] #[], .int .i64 64, .nilFunc, .int .i64 0, .int .i64 0, .int .i64 0, .bool false, .bool false],
  [.int .i64 37, .string ⟨#[47, 58]⟩, .func (.func 68) #[] #[], .int .i64 64, .func (.func 69) #[] #[], .int .i64 64, .int .i64 64, .int .i64 0, .bool false, .bool false],
  [.int .i64 38, .string ⟨#[92, 58]⟩, .func (.func 68) #[] #[], .int .i64 64, .func (.func 69) #[] #[], .int .i64 64, .int .i64 64, .int .i64 0, .bool false, .bool false],
  [.int .i64 39, .string ⟨#[35, 46]⟩, .func (.func 73) #[] #[], .int .i64 1, .func (.func 71) #[] #[], .int .i64 1, .int .i64 1, .int .i64 0, .bool false, .bool false],
  [.int .i64 40, .string ⟨#[35, 58]⟩, .func (.func 73) #[] #[], .int .i64 64, .func (.func 71) #[] #[], .int .i64 1, .int .i64 0, .int .i64 0, .bool false, .bool false],
  [.int .i64 41, .string ⟨#[91]⟩, .func (.func 70) #[] #[], .int .i64 64, .func (.func 72) #[] #[], .int .i64 64, .int .i64 64, .int .i64 0, .bool false, .bool false],
  [.int .i64 42, .string ⟨#[93]⟩, .func (.func 70) #[] #[], .int .i64 64, .func (.func 72) #[] #[], .int .i64 64, .int .i64 64, .int .i64 0, .bool false, .bool false],
  [.int .i64 43, .string ⟨#[73, 46]⟩, .func (.func 73) #[] #[], .int .i64 1, .nilFunc, .int .i64 0, .int .i64 0, .int .i64 0, .bool false, .bool false]
]
def prFlat : List Value := [.int .i64 1, .string ⟨#[43]⟩, .func (.func 66) #[] #[], .int .i64 0, .func (.func 67) #[] #[], .int .i64 0, .int .i64 0, .int .i64 0, .bool true, .bool true,
  .int .i64 2, .string ⟨#[45]⟩, .func (.func 66) #[] #[], .int .i64 0, .func (.func 67) #[] #[], .int .i64 0, .int .i64 0, .int .i64 0, .bool true, .bool false,
  .int .i64 3, .string ⟨#[42]⟩, .func (.func 66) #[] #[], .int .i64 0, .func (.func 67) #[] #[], .int .i64 0, .int .i64 0, .int .i64 1, .bool true, .bool true,
  .int .i64 4, .string ⟨#[37]⟩, .nilFunc, .int .i64 0, .func (.func 67) #[] #[], .int .i64 0, .int .i64 0, .int .i64 1, .bool true, .bool false,
  .int .i64 5, .string ⟨#[124]⟩, .func (.func 66) #[] #[], .int .i64 0, .func (.func 67) #[] #[], .int .i64 0, .int .i64 0, .int .i64 0, .bool true, .bool false,
  .int .i64 6, .string ⟨#[60, 46]⟩, .func (.func 66) #[] #[], .int .i64 0, .func (.func 67) #[] #[], .int .i64 0, .int .i64 0, .int .i64 9223372036854775807, .bool true, .bool true,
  .int .i64 7, .string ⟨#[62, 46]⟩, .func (.func 66) #[] #[], .int .i64 0, .func (.func 67) #[] #[], .int .i64 0, .int .i64 0, .int .i64 (-9223372036854775808), .bool true, .bool true,
  .int .i64 8, .string ⟨#[60]⟩, .nilFunc, .int .i64 0, .func (.func 67) #[] #[], .int .i64 0, .int .i64 0, .int .i64 0, .bool true, .bool false,
  .int .i64 9, .string ⟨#[62]⟩, .nilFunc, .int .i64 0, .func (.func 67) #[] #[], .int .i64 0, .int .i64 0, .int .i64 0, .bool true, .bool false,
  .int .i64 10, .string ⟨#[61]⟩, .func (.func 68) #[] #[], .int .i64 64, .func (.func 67) #[] #[], .int .i64 0, .int .i64 0, .int .i64 1, .bool true, .bool true,
  .int .i64 11, .string ⟨#[126, 58]⟩, .func (.func 68) #[] #[], .int .i64 64, .func (.func 67) #[] #[], .int .i64 0, .int .i64 0, .int .i64 0, .bool true, .bool true,
  .int .i64 12, .string ⟨#[60, 58]⟩, .func (.func 66) #[] #[], .int .i64 0, .func (.func 67) #[] #[], .int .i64 0, .int .i64 0, .int .i64 1, .bool true, .bool false,
  .int .i64 13, .string ⟨#[62, 58]⟩, .func (.func 66) #[] #[], .int .i64 0, .func (.func 67) #[] #[], .int .i64 0, .int .i64 0, .int .i64 1, .bool true, .bool false,
  .int .i64 14, .string ⟨#[43, 46]⟩, .nilFunc, .int .i64 0, .func (.func 67) #[] #[], .int .i64 0, .int .i64 0, .int .i64 0, .bool true, .bool true,
  .int .i64 15, .string ⟨#[42, 46]⟩, .nilFunc, .int .i64 0, .func (.func 67) #[] #[], .int .i64 0, .int .i64 0, .int .i64 1, .bool true, .bool true,
  .int .i64 16, .string ⟨#[43, 58]⟩, .func (.func 66) #[] #[], .int .i64 0, .func (.func 67) #[] #[], .int .i64 0, .int .i64 0, .int .i64 0, .bool false, .bool true,
  .int .i64 17, .string ⟨#[42, 58]⟩, .func (.func 66) #[] #[], .int .i64 0, .func (.func 67) #[] #[], .int .i64 0, .int .i64 0, .int .i64 0, .bool false, .bool true,
  .int .i64 18, .string ⟨#[45, 46]⟩, .func (.func 66) #[] #[], .int .i64 0, .func (.func 69) #[] #[], .int .i64 64, .int .i64 64, .int .i64 0, .bool false, .bool false,
  .int .i64 19, .string ⟨#[45, 58]⟩, .func (.func 66) #[] #[], .int .i64 0, .func (.func 69) #[] #[], .int .i64 64, .int .i64 64, .int .i64 0, .bool false, .bool true,
  .int .i64 20, .string ⟨#[94]⟩, .nilFunc, .int .i64 0, .func (.func 67) #[] #[], .int .i64 0, .int .i64 0, .int .i64 1, .bool true, .bool false,
  .int .i64 21, .string ⟨#[33]⟩, .func (.func 66) #[] #[], .int .i64 0, .func (.func 67) #[] #[], .int .i64 0, .int .i64 0, .int .i64 1, .bool true, .bool false,
  .int .i64 22, .string ⟨#[35]⟩, .func (.func 70) #[] #[], .int .i64 64, .func (.func 71) #[] #[], .int .i64 1, .int .i64 64, .int .i64 0, .bool false, .bool false,
  .int .i64 23, .string ⟨#[36]⟩, .func (.func 70) #[] #[], .int .i64 64, .func (.func 72) #[] #[], .int .i64 1, .int .i64 64, .int .i64 0, .bool false, .bool false,
  .int .i64 24, .string ⟨#[44]⟩, .func (.func 70) #[] #[], .int .i64 64, .func (.func 72) #[] #[], .int .i64 64, .int .i64 64, .int .i64 0, .bool false, .bool false,
  .int .i64 25, .string ⟨#[44, 46]⟩, .func (.func 70) #[] #[], .int .i64 64, .func (.func 72) #[] #[], .int .i64 64, .int .i64 64, .int .i64 0, .bool false, .bool false,
  .int .i64 26, .string ⟨#[44, 58]⟩, .func (.func 70) #[] #[], .int .i64 64, .func (.func 72) #[] #[], .int .i64 64, .int .i64 64, .int .i64 0, .bool false, .bool false,
  .int .i64 27, .string ⟨#[123]⟩, .nilFunc, .int .i64 0, .func (.func 69) #[] #[], .int .i64 0, .int .i64 64, .int .i64 0, .bool false, .bool false,
  .int .i64 28, .string ⟨#[123, 46]⟩, .func (.func 70) #[] #[], .int .i64 64, .func (.func 72) #[] #[], .int .i64 1, .int .i64 64, .int .i64 0, .bool false, .bool false,
  .int .i64 29, .string ⟨#[125, 46]⟩, .func (.func 70) #[] #[], .int .i64 64, .func (.func 72) #[] #[], .int .i64 1, .int .i64 64, .int .i64 0, .bool false, .bool false,
  .int .i64 30, .string ⟨#[123, 58]⟩, .func (.func 70) #[] #[], .int .i64 64, .nilFunc, .int .i64 0, .int .i64 0, .int .i64 0, .bool false, .bool false,
  .int .i64 31, .string ⟨#[125, 58]⟩, .func (.func 70) #[] #[], .int .i64 64, .nilFunc, .int .i64 0, .int .i64 0, .int .i64 0, .bool false, .bool false,
  .int .i64 32, .string ⟨#[124, 46]⟩, .func (.func 70) #[] #[], .int .i64 64, .func (.func 72) #[] #[], .int .i64 1, .int .i64 64, .int .i64 0, .bool false, .bool false,
  .int .i64 33, .string ⟨#[124, 58]⟩, .func (.func 70) #[] #[], .int .i64 64, .func (.func 72) #[] #[], .int .i64 1, .int .i64 64, .int .i64 0, .bool false, .bool false,
  .int .i64 34, .string ⟨#[105, 46]⟩, .func (.func 73) #[] #[], .int .i64 1, .func (.func 69) #[] #[], .int .i64 64, .int .i64 64, .int .i64 0, .bool false, .bool false,
  .int .i64 35, .string ⟨#[101, 46]⟩, .nilFunc, .int .i64 0, .func (.func 69) #[] #[], .int .i64 64, .int .i64 64, .int .i64 0, .bool false, .bool false,
  .int .i64 36, .string ⟨#[126, 46]⟩, .func (.func 68) #[] #[], .int .i64 64, .nilFunc, .int .i64 0, .int .i64 0, .int .i64 0, .bool false, .bool false,
  .int .i64 37, .string ⟨#[47, 58]⟩, .func (.func 68) #[] #[], .int .i64 64, .func (.func 69) #[] #[], .int .i64 64, .int .i64 64, .int .i64 0, .bool false, .bool false,
  .int .i64 38, .string ⟨#[92, 58]⟩, .func (.func 68) #[] #[], .int .i64 64, .func (.func 69) #[] #[], .int .i64 64, .int .i64 64, .int .i64 0, .bool false, .bool false,
  .int .i64 39, .string ⟨#[35, 46]⟩, .func (.func 73) #[] #[], .int .i64 1, .func (.func 71) #[] #[], .int .i64 1, .int .i64 1, .int .i64 0, .bool false, .bool false,
  .int .i64 40, .string ⟨#[35, 58]⟩, .func (.func 73) #[] #[], .int .i64 64, .func (.func 71) #[] #[], .int .i64 1, .int .i64 0, .int .i64 0, .bool false, .bool false,
  .int .i64 41, .string ⟨#[91]⟩, .func (.func 70) #[] #[], .int .i64 64, .func (.func 72) #[] #[], .int .i64 64, .int .i64 64, .int .i64 0, .bool false, .bool false,
  .int .i64 42, .string ⟨#[93]⟩, .func (.func 70) #[] #[], .int .i64 64, .func (.func 72) #[] #[], .int .i64 64, .int .i64 64, .int .i64 0, .bool false, .bool false,
  .int .i64 43, .string ⟨#[73, 46]⟩, .func (.func 73) #[] #[], .int .i64 1, .nilFunc, .int .i64 0, .int .i64 0, .int .i64 0, .bool false, .bool false]
/-- Builds alone, one behind the other. -/
def bldAll (P : Program) : List Oper → Act → Option Act
  | [], a => some a
  | o :: r, a => match o.guard, o.op with
    | none, .build t parts => match P.built t (parts.map fun (i, x) => (i, a.eval x)).toList with
      | some c => bldAll P r (a.put o.dst (.agg c))
      | none => none
    | _, _ => none
theorem wpList_bldAll {P : Program} {ops : Array Oper} {Q : Exit → Act → World → Prop} {w : World} {rest : List Oper} : ∀ (l : List Oper) (a a' : Act), bldAll P l a = some a' → wpList P ops Q rest a' w → wpList P ops Q (l ++ rest) a w
  | [], a, a', h, k => by cases h; exact k
  | o :: r, a, a', h, k => by
    unfold bldAll at h
    split at h
    · rename_i t parts hg ho
      split at h
      · rename_i c hc
        exact wpList_buildTo hg t parts ho _ rfl c hc (wpList_bldAll r _ a' h k)
      · cases h
    · cases h
theorem wpList_bldN {P : Program} {ops : Array Oper} {Q : Exit → Act → World → Prop} {w : World} (n : Nat) {l : List Oper} {a a' : Act} (h : bldAll P (l.take n) a = some a') (k : wpList P ops Q (l.drop n) a' w) : wpList P ops Q l a w := by
  rw [← List.take_append_drop n l]
  exact wpList_bldAll _ a a' h k
def prAct (g : Nat) : Act := { tmps := ((Value.pointer (some ⟨g, 0, none⟩) :: prTab.map fun r => Value.agg r.toArray) ++ [Value.agg prFlat.toArray]).toArray, defers := [] }
theorem ret_row (w : World) : (results Tryz.f48 (prAct w.heap.size).tmps).run Tryz.prog (w.alloc (.cells prFlat.toArray 93)) = .ok (.agg prFlat.toArray) (w.alloc (.cells prFlat.toArray 93)) := by
  have h := run_loadVar_new (P := Tryz.prog) w 93 prFlat.toArray 43 63 (by kernel_rfl) (by kernel_rfl)
  have e : (prAct w.heap.size).tmps[0]?.getD undef = .pointer (some ⟨w.heap.size, 0, none⟩) := rfl
  simp only [results, Tryz.results48]
  simp [e, asAddr, h]

set_option maxRecDepth 100000 in
set_option maxHeartbeats 4000000 in
theorem rowsP_any (w : World) : Calls Tryz.prog 48 #[] w fun e w' => e = .returned (.agg prFlat.toArray) ∧ Below w.heap.size w w' := by
  go_enter Tryz.func48, Tryz.ntmps48
  go_upto_region 1 with fail
  rename_i K hK
  apply wp_region_list
  refine wpList_bldN 44 (a' := prAct w.heap.size) (by as_aux_lemma => kernel_rfl) ?_
  refine wpList_store_rowTo (o := _) (rest := []) rfl 93 (.tmp 0) (.tmp 44) rfl rfl w.heap.size prFlat.toArray rfl rfl 93 Tryz.zeroCells93 (heap_alloc_last w _) (by as_aux_lemma => kernel_rfl) (by as_aux_lemma => kernel_rfl) (by as_aux_lemma => kernel_rfl) ?_
  rw [World.setRow_alloc_new]
  apply wpList_nil
  refine hK _ _ ?_
  refine wp_ret ?_
  refine bodyPost_ret (v := .agg prFlat.toArray) ?_ rfl ⟨rfl, box_below w _⟩
  exact ret_row w
end Go.Proofs.YtelcagfaflpolaaGreat



namespace Go.Proofs.YtelcagfaflpolaaGreat

open Go.RowKit

set_option linter.unusedVariables false

def pS (k : Nat) : ByteArray := ([⟨#[43]⟩, ⟨#[45]⟩, ⟨#[42]⟩, ⟨#[37]⟩, ⟨#[124]⟩, ⟨#[60, 46]⟩, ⟨#[62, 46]⟩, ⟨#[60]⟩, ⟨#[62]⟩, ⟨#[61]⟩, ⟨#[126, 58]⟩, ⟨#[60, 58]⟩, ⟨#[62, 58]⟩, ⟨#[43, 46]⟩, ⟨#[42, 46]⟩, ⟨#[43, 58]⟩, ⟨#[42, 58]⟩, ⟨#[45, 46]⟩, ⟨#[45, 58]⟩, ⟨#[94]⟩, ⟨#[33]⟩, ⟨#[35]⟩, ⟨#[36]⟩, ⟨#[44]⟩, ⟨#[44, 46]⟩, ⟨#[44, 58]⟩, ⟨#[123]⟩, ⟨#[123, 46]⟩, ⟨#[125, 46]⟩, ⟨#[123, 58]⟩, ⟨#[125, 58]⟩, ⟨#[124, 46]⟩, ⟨#[124, 58]⟩, ⟨#[105, 46]⟩, ⟨#[101, 46]⟩, ⟨#[126, 46]⟩, ⟨#[47, 58]⟩, ⟨#[92, 58]⟩, ⟨#[35, 46]⟩, ⟨#[35, 58]⟩, ⟨#[91]⟩, ⟨#[93]⟩, ⟨#[73, 46]⟩] : List ByteArray).getD k ⟨#[]⟩
def pM (k : Nat) : Value := [.func (.func 66) #[] #[], .func (.func 66) #[] #[], .func (.func 66) #[] #[], .nilFunc, .func (.func 66) #[] #[], .func (.func 66) #[] #[], .func (.func 66) #[] #[], .nilFunc, .nilFunc, .func (.func 68) #[] #[], .func (.func 68) #[] #[], .func (.func 66) #[] #[], .func (.func 66) #[] #[], .nilFunc, .nilFunc, .func (.func 66) #[] #[], .func (.func 66) #[] #[], .func (.func 66) #[] #[], .func (.func 66) #[] #[], .nilFunc, .func (.func 66) #[] #[], .func (.func 70) #[] #[], .func (.func 70) #[] #[], .func (.func 70) #[] #[], .func (.func 70) #[] #[], .func (.func 70) #[] #[], .nilFunc, .func (.func 70) #[] #[], .func (.func 70) #[] #[], .func (.func 70) #[] #[], .func (.func 70) #[] #[], .func (.func 70) #[] #[], .func (.func 70) #[] #[], .func (.func 73) #[] #[], .nilFunc, .func (.func 68) #[] #[], .func (.func 68) #[] #[], .func (.func 68) #[] #[], .func (.func 73) #[] #[], .func (.func 73) #[] #[], .func (.func 70) #[] #[], .func (.func 70) #[] #[], .func (.func 73) #[] #[]].getD k .nilFunc
def pD (k : Nat) : Value := [.func (.func 67) #[] #[], .func (.func 67) #[] #[], .func (.func 67) #[] #[], .func (.func 67) #[] #[], .func (.func 67) #[] #[], .func (.func 67) #[] #[], .func (.func 67) #[] #[], .func (.func 67) #[] #[], .func (.func 67) #[] #[], .func (.func 67) #[] #[], .func (.func 67) #[] #[], .func (.func 67) #[] #[], .func (.func 67) #[] #[], .func (.func 67) #[] #[], .func (.func 67) #[] #[], .func (.func 67) #[] #[], .func (.func 67) #[] #[], .func (.func 69) #[] #[], .func (.func 69) #[] #[], .func (.func 67) #[] #[], .func (.func 67) #[] #[], .func (.func 71) #[] #[], .func (.func 72) #[] #[], .func (.func 72) #[] #[], .func (.func 72) #[] #[], .func (.func 72) #[] #[], .func (.func 69) #[] #[], .func (.func 72) #[] #[], .func (.func 72) #[] #[], .nilFunc, .nilFunc, .func (.func 72) #[] #[], .func (.func 72) #[] #[], .func (.func 69) #[] #[], .func (.func 69) #[] #[], .nilFunc, .func (.func 69) #[] #[], .func (.func 69) #[] #[], .func (.func 71) #[] #[], .func (.func 71) #[] #[], .func (.func 72) #[] #[], .func (.func 72) #[] #[], .nilFunc].getD k .nilFunc
def pR (k : Nat) : Int := [0, 0, 0, 0, 0, 0, 0, 0, 0, 64, 64, 0, 0, 0, 0, 0, 0, 0, 0, 0, 0, 64, 64, 64, 64, 64, 0, 64, 64, 64, 64, 64, 64, 1, 0, 64, 64, 64, 1, 64, 64, 64, 1].getD k 0
def pL (k : Nat) : Int := [0, 0, 0, 0, 0, 0, 0, 0, 0, 0, 0, 0, 0, 0, 0, 0, 0, 64, 64, 0, 0, 1, 1, 64, 64, 64, 0, 1, 1, 0, 0, 1, 1, 64, 64, 0, 64, 64, 1, 1, 64, 64, 0].getD k 0
def pG (k : Nat) : Int := [0, 0, 0, 0, 0, 0, 0, 0, 0, 0, 0, 0, 0, 0, 0, 0, 0, 64, 64, 0, 0, 64, 64, 64, 64, 64, 64, 64, 64, 0, 0, 64, 64, 64, 64, 0, 64, 64, 1, 0, 64, 64, 0].getD k 0
def pI (k : Nat) : Int := [0, 0, 1, 1, 0, 9223372036854775807, -9223372036854775808, 0, 0, 1, 0, 1, 1, 0, 1, 0, 0, 0, 0, 1, 1, 0, 0, 0, 0, 0, 0, 0, 0, 0, 0, 0, 0, 0, 0, 0, 0, 0, 0, 0, 0, 0, 0].getD k 0
def pH (k : Nat) : Bool := [true, true, true, true, true, true, true, true, true, true, true, true, true, true, true, false, false, false, false, true, true, false, false, false, false, false, false, false, false, false, false, false, false, false, false, false, false, false, false, false, false, false, false].getD k false
def pC (k : Nat) : Bool := [true, false, true, false, false, true, true, false, false, true, true, false, false, true, true, true, true, false, true, false, false, false, false, false, false, false, false, false, false, false, false, false, false, false, false, false, false, false, false, false, false, false, false].getD k false
def pMb (k : Nat) : Bool := [true, true, true, false, true, true, true, false, false, true, true, true, true, false, false, true, true, true, true, false, true, true, true, true, true, true, false, true, true, true, true, true, true, true, false, true, true, true, true, true, true, true, true].getD k false
def pDb (k : Nat) : Bool := [true, true, true, true, true, true, true, true, true, true, true, true, true, true, true, true, true, true, true, true, true, true, true, true, true, true, true, true, true, false, false, true, true, true, true, false, true, true, true, true, true, true, false].getD k false
/-- The cells of a row. -/
def prC (k : Nat) : List Value := [.int .i64 ((k : Int) + 1), .string (pS k), pM k, .int .i64 (pR k), pD k, .int .i64 (pL k), .int .i64 (pG k), .int .i64 (pI k), .bool (pH k), .bool (pC k)]
set_option maxRecDepth 100000 in
theorem prFlat_parts (l : List Value) (hl : l = prFlat) : ∀ k : Nat, k < 43 → (l.drop (k * 10)).take 10 = prC k := by
  subst hl
  intro k hk
  match k, hk with
  | 0, _ => rfl
  | 1, _ => rfl
  | 2, _ => rfl
  | 3, _ => rfl
  | 4, _ => rfl
  | 5, _ => rfl
  | 6, _ => rfl
  | 7, _ => rfl
  | 8, _ => rfl
  | 9, _ => rfl
  | 10, _ => rfl
  | 11, _ => rfl
  | 12, _ => rfl
  | 13, _ => rfl
  | 14, _ => rfl
  | 15, _ => rfl
  | 16, _ => rfl
  | 17, _ => rfl
  | 18, _ => rfl
  | 19, _ => rfl
  | 20, _ => rfl
  | 21, _ => rfl
  | 22, _ => rfl
  | 23, _ => rfl
  | 24, _ => rfl
  | 25, _ => rfl
  | 26, _ => rfl
  | 27, _ => rfl
  | 28, _ => rfl
  | 29, _ => rfl
  | 30, _ => rfl
  | 31, _ => rfl
  | 32, _ => rfl
  | 33, _ => rfl
  | 34, _ => rfl
  | 35, _ => rfl
  | 36, _ => rfl
  | 37, _ => rfl
  | 38, _ => rfl
  | 39, _ => rfl
  | 40, _ => rfl
  | 41, _ => rfl
  | 42, _ => rfl
  | _ + 43, h => exact absurd h (by omega)
theorem prFlat_at (F : Array Value) (hF : F = prFlat.toArray) (k : Nat) (hk : k < 43) (i : Nat) (hi : i < 10) : F[k * 10 + i]? = (prC k)[i]? := by
  subst hF
  rw [← prFlat_parts _ rfl k hk, List.getElem?_take_of_lt hi, List.getElem?_drop]
  simp
theorem prKinds (k : Nat) (hk : k < 43) : (pM k = .nilFunc ∧ pMb k = false ∧ pDb k = true ∧ ∃ G, pD k = .func (.func G) #[] #[]) ∨ (pD k = .nilFunc ∧ pDb k = false ∧ pMb k = true ∧ ∃ F, pM k = .func (.func F) #[] #[]) ∨ (pMb k = true ∧ pDb k = true ∧ ∃ F G, pM k = .func (.func F) #[] #[] ∧ pD k = .func (.func G) #[] #[]) := by
  match k, hk with
  | 0, _ => exact .inr (.inr ⟨rfl, rfl, _, _, rfl, rfl⟩)
  | 1, _ => exact .inr (.inr ⟨rfl, rfl, _, _, rfl, rfl⟩)
  | 2, _ => exact .inr (.inr ⟨rfl, rfl, _, _, rfl, rfl⟩)
  | 3, _ => exact .inl ⟨rfl, rfl, rfl, _, rfl⟩
  | 4, _ => exact .inr (.inr ⟨rfl, rfl, _, _, rfl, rfl⟩)
  | 5, _ => exact .inr (.inr ⟨rfl, rfl, _, _, rfl, rfl⟩)
  | 6, _ => exact .inr (.inr ⟨rfl, rfl, _, _, rfl, rfl⟩)
  | 7, _ => exact .inl ⟨rfl, rfl, rfl, _, rfl⟩
  | 8, _ => exact .inl ⟨rfl, rfl, rfl, _, rfl⟩
  | 9, _ => exact .inr (.inr ⟨rfl, rfl, _, _, rfl, rfl⟩)
  | 10, _ => exact .inr (.inr ⟨rfl, rfl, _, _, rfl, rfl⟩)
  | 11, _ => exact .inr (.inr ⟨rfl, rfl, _, _, rfl, rfl⟩)
  | 12, _ => exact .inr (.inr ⟨rfl, rfl, _, _, rfl, rfl⟩)
  | 13, _ => exact .inl ⟨rfl, rfl, rfl, _, rfl⟩
  | 14, _ => exact .inl ⟨rfl, rfl, rfl, _, rfl⟩
  | 15, _ => exact .inr (.inr ⟨rfl, rfl, _, _, rfl, rfl⟩)
  | 16, _ => exact .inr (.inr ⟨rfl, rfl, _, _, rfl, rfl⟩)
  | 17, _ => exact .inr (.inr ⟨rfl, rfl, _, _, rfl, rfl⟩)
  | 18, _ => exact .inr (.inr ⟨rfl, rfl, _, _, rfl, rfl⟩)
  | 19, _ => exact .inl ⟨rfl, rfl, rfl, _, rfl⟩
  | 20, _ => exact .inr (.inr ⟨rfl, rfl, _, _, rfl, rfl⟩)
  | 21, _ => exact .inr (.inr ⟨rfl, rfl, _, _, rfl, rfl⟩)
  | 22, _ => exact .inr (.inr ⟨rfl, rfl, _, _, rfl, rfl⟩)
  | 23, _ => exact .inr (.inr ⟨rfl, rfl, _, _, rfl, rfl⟩)
  | 24, _ => exact .inr (.inr ⟨rfl, rfl, _, _, rfl, rfl⟩)
  | 25, _ => exact .inr (.inr ⟨rfl, rfl, _, _, rfl, rfl⟩)
  | 26, _ => exact .inl ⟨rfl, rfl, rfl, _, rfl⟩
  | 27, _ => exact .inr (.inr ⟨rfl, rfl, _, _, rfl, rfl⟩)
  | 28, _ => exact .inr (.inr ⟨rfl, rfl, _, _, rfl, rfl⟩)
  | 29, _ => exact .inr (.inl ⟨rfl, rfl, rfl, _, rfl⟩)
  | 30, _ => exact .inr (.inl ⟨rfl, rfl, rfl, _, rfl⟩)
  | 31, _ => exact .inr (.inr ⟨rfl, rfl, _, _, rfl, rfl⟩)
  | 32, _ => exact .inr (.inr ⟨rfl, rfl, _, _, rfl, rfl⟩)
  | 33, _ => exact .inr (.inr ⟨rfl, rfl, _, _, rfl, rfl⟩)
  | 34, _ => exact .inl ⟨rfl, rfl, rfl, _, rfl⟩
  | 35, _ => exact .inr (.inl ⟨rfl, rfl, rfl, _, rfl⟩)
  | 36, _ => exact .inr (.inr ⟨rfl, rfl, _, _, rfl, rfl⟩)
  | 37, _ => exact .inr (.inr ⟨rfl, rfl, _, _, rfl, rfl⟩)
  | 38, _ => exact .inr (.inr ⟨rfl, rfl, _, _, rfl, rfl⟩)
  | 39, _ => exact .inr (.inr ⟨rfl, rfl, _, _, rfl, rfl⟩)
  | 40, _ => exact .inr (.inr ⟨rfl, rfl, _, _, rfl, rfl⟩)
  | 41, _ => exact .inr (.inr ⟨rfl, rfl, _, _, rfl, rfl⟩)
  | 42, _ => exact .inr (.inl ⟨rfl, rfl, rfl, _, rfl⟩)
  | _ + 43, h => exact absurd h (by omega)

theorem bx10 {W : World} {g : Nat} {a0 a1 a2 a3 a4 a5 a6 a7 a8 a9 : Value} {t : TypeId} (h : W.heap[g]? = some (.cells #[a0, a1, a2, a3, a4, a5, a6, a7, a8, a9] t (0, 0))) :
    (W.cell? ⟨g, 0, none⟩ = some a0 ∧ W.cell? ⟨g, 1, none⟩ = some a1 ∧ W.cell? ⟨g, 2, none⟩ = some a2 ∧ W.cell? ⟨g, 3, none⟩ = some a3 ∧ W.cell? ⟨g, 4, none⟩ = some a4 ∧ W.cell? ⟨g, 5, none⟩ = some a5 ∧ W.cell? ⟨g, 6, none⟩ = some a6 ∧ W.cell? ⟨g, 7, none⟩ = some a7 ∧ W.cell? ⟨g, 8, none⟩ = some a8 ∧ W.cell? ⟨g, 9, none⟩ = some a9) ∧
    (W.frozen? ⟨g, 0, none⟩ = false ∧ W.frozen? ⟨g, 1, none⟩ = false ∧ W.frozen? ⟨g, 2, none⟩ = false ∧ W.frozen? ⟨g, 3, none⟩ = false ∧ W.frozen? ⟨g, 4, none⟩ = false ∧ W.frozen? ⟨g, 5, none⟩ = false ∧ W.frozen? ⟨g, 6, none⟩ = false ∧ W.frozen? ⟨g, 7, none⟩ = false ∧ W.frozen? ⟨g, 8, none⟩ = false ∧ W.frozen? ⟨g, 9, none⟩ = false) :=
  ⟨⟨(cell_of_row W g 0 _ t (0, 0) h).trans rfl, (cell_of_row W g 1 _ t (0, 0) h).trans rfl, (cell_of_row W g 2 _ t (0, 0) h).trans rfl, (cell_of_row W g 3 _ t (0, 0) h).trans rfl, (cell_of_row W g 4 _ t (0, 0) h).trans rfl, (cell_of_row W g 5 _ t (0, 0) h).trans rfl, (cell_of_row W g 6 _ t (0, 0) h).trans rfl, (cell_of_row W g 7 _ t (0, 0) h).trans rfl, (cell_of_row W g 8 _ t (0, 0) h).trans rfl, (cell_of_row W g 9 _ t (0, 0) h).trans rfl⟩, ⟨frozen_of_row W g 0 _ t h, frozen_of_row W g 1 _ t h, frozen_of_row W g 2 _ t h, frozen_of_row W g 3 _ t h, frozen_of_row W g 4 _ t h, frozen_of_row W g 5 _ t h, frozen_of_row W g 6 _ t h, frozen_of_row W g 7 _ t h, frozen_of_row W g 8 _ t h, frozen_of_row W g 9 _ t h⟩⟩
theorem below_set10 {a W : World} {B b : Nat} (v0 v1 v2 v3 v4 v5 v6 v7 v8 v9 : Value) (h : Below B a W) (hb : B ≤ b) : Below B a ((((((((((W.setCell ⟨b, 0, none⟩ v0).setCell ⟨b, 1, none⟩ v1).setCell ⟨b, 2, none⟩ v2).setCell ⟨b, 3, none⟩ v3).setCell ⟨b, 4, none⟩ v4).setCell ⟨b, 5, none⟩ v5).setCell ⟨b, 6, none⟩ v6).setCell ⟨b, 7, none⟩ v7).setCell ⟨b, 8, none⟩ v8).setCell ⟨b, 9, none⟩ v9) := by
  have s : ∀ {W : World} (i : Nat) (v : Value), Below B a W → Below B a (W.setCell ⟨b, i, none⟩ v) := fun i v h => h.setCell (p := ⟨b, i, none⟩) hb v
  exact s 9 _ (s 8 _ (s 7 _ (s 6 _ (s 5 _ (s 4 _ (s 3 _ (s 2 _ (s 1 _ (s 0 _ h)))))))))

set_option maxHeartbeats 2000000 in
theorem rowOf_no (op : Int) (w : World) (h : op < 1 ∨ 43 < op) :
    Calls Tryz.prog 26 #[.int .i64 op] w fun e w' => e = .returned (.tuple #[.agg #[.int .i64 0, .string ⟨#[]⟩, .nilFunc, .int .i64 0, .nilFunc, .int .i64 0, .int .i64 0, .int .i64 0, .bool false, .bool false], .int .i64 1]) ∧ Below w.heap.size w w' := by
  have b0 := box_below w (.cells #[.int .i64 0, .string ⟨#[]⟩, .nilFunc, .int .i64 0, .nilFunc, .int .i64 0, .int .i64 0, .int .i64 0, .bool false, .bool false] 63)
  by_cases c : op < 1
  · have h1 : decide (op < 1) = true := by simpa using c
    go_enter Tryz.func26, Tryz.ntmps26
    go_wp2
    go_returns
    exact ⟨rfl, b0⟩
  · have h1 : decide (op < 1) = false := by simpa using c
    have h2 : decide (43 < op) = true := by simp; omega
    go_enter Tryz.func26, Tryz.ntmps26
    go_wp2
    go_returns
    exact ⟨rfl, b0⟩

set_option maxRecDepth 100000 in
set_option maxHeartbeats 4000000 in
theorem rowOf_go (F : Array Value) (k : Nat) (hk : k < 43) (sp : ByteArray) (M D : Value) (r l g i : Int) (h c : Bool) (w : World)
    (kM : M = .nilFunc ∨ ∃ f, M = .func (.func f) #[] #[]) (kD : D = .nilFunc ∨ ∃ f, D = .func (.func f) #[] #[])
    (hF : ∀ W, Calls Tryz.prog 48 #[] W fun e w' => e = .returned (.agg F) ∧ Below W.heap.size W w')
    (f1 : (Tryz.prog.info? 93).map (·.size) = some F.size) (f2 : Tryz.zeroCells93.size = F.size) (f3 : F.all (·.oneCell') = true)
    (t : ∀ j, j < 10 → F[k * 10 + j]? = ([.int .i64 ((k : Int) + 1), .string sp, M, .int .i64 r, D, .int .i64 l, .int .i64 g, .int .i64 i, .bool h, .bool c] : List Value)[j]?) :
    Calls Tryz.prog 26 #[.int .i64 ((k : Int) + 1)] w fun e w' => e = .returned (.tuple #[.agg #[.int .i64 ((k : Int) + 1), .string sp, M, .int .i64 r, D, .int .i64 l, .int .i64 g, .int .i64 i, .bool h, .bool c], .int .i64 0]) ∧ Below w.heap.size w w' := by
  have b0 := box_below w (.cells #[.int .i64 0, .string ⟨#[]⟩, .nilFunc, .int .i64 0, .nilFunc, .int .i64 0, .int .i64 0, .int .i64 0, .bool false, .bool false] 63)
  have n0 := allocNew w (.cells #[.int .i64 0, .string ⟨#[]⟩, .nilFunc, .int .i64 0, .nilFunc, .int .i64 0, .int .i64 0, .int .i64 0, .bool false, .bool false] 63)
  have h1 : decide ((k : Int) + 1 < 1) = false := by simp; omega
  have h2 : decide (43 < (k : Int) + 1) = false := by simp; omega
  have k43 : (k : Int) < 43 := by omega
  have hw1 : IntKind.i64.wrap ((k : Int)) = k := wrapIn _ (by omega)
  have T0 := t 0 (by omega); have T1 := t 1 (by omega); have T2 := t 2 (by omega); have T3 := t 3 (by omega); have T4 := t 4 (by omega); have T5 := t 5 (by omega); have T6 := t 6 (by omega); have T7 := t 7 (by omega); have T8 := t 8 (by omega); have T9 := t 9 (by omega)
  simp only [Nat.add_zero, List.getElem?_cons_zero, List.getElem?_cons_succ] at T0 T1 T2 T3 T4 T5 T6 T7 T8 T9
  have C : ∀ W : World, let V := W.alloc (.cells F 93); V.cell? ⟨W.heap.size, k * 10, none⟩ = F[k * 10]? ∧ V.cell? ⟨W.heap.size, k * 10 + 1, none⟩ = F[k * 10 + 1]? ∧ V.cell? ⟨W.heap.size, k * 10 + 2, none⟩ = F[k * 10 + 2]? ∧ V.cell? ⟨W.heap.size, k * 10 + 3, none⟩ = F[k * 10 + 3]? ∧ V.cell? ⟨W.heap.size, k * 10 + 4, none⟩ = F[k * 10 + 4]? ∧ V.cell? ⟨W.heap.size, k * 10 + 5, none⟩ = F[k * 10 + 5]? ∧ V.cell? ⟨W.heap.size, k * 10 + 6, none⟩ = F[k * 10 + 6]? ∧ V.cell? ⟨W.heap.size, k * 10 + 7, none⟩ = F[k * 10 + 7]? ∧ V.cell? ⟨W.heap.size, k * 10 + 8, none⟩ = F[k * 10 + 8]? ∧ V.cell? ⟨W.heap.size, k * 10 + 9, none⟩ = F[k * 10 + 9]? := fun W => ⟨cell_of_row _ _ _ _ _ (0, 0) (allocNew W _), cell_of_row _ _ _ _ _ (0, 0) (allocNew W _), cell_of_row _ _ _ _ _ (0, 0) (allocNew W _), cell_of_row _ _ _ _ _ (0, 0) (allocNew W _), cell_of_row _ _ _ _ _ (0, 0) (allocNew W _), cell_of_row _ _ _ _ _ (0, 0) (allocNew W _), cell_of_row _ _ _ _ _ (0, 0) (allocNew W _), cell_of_row _ _ _ _ _ (0, 0) (allocNew W _), cell_of_row _ _ _ _ _ (0, 0) (allocNew W _), cell_of_row _ _ _ _ _ (0, 0) (allocNew W _)⟩
  rw [T0, T1, T2, T3, T4, T5, T6, T7, T8, T9] at C
  clear T0 T1 T2 T3 T4 T5 T6 T7 T8 T9 t
  rcases kM with rfl | ⟨fm, rfl⟩
  · rcases kD with rfl | ⟨fd, rfl⟩
    · go_enter Tryz.func26, Tryz.ntmps26
      go_wp2_with (first
        | (go_at_call 48; (with_reducible refine (hF _).mono ?_); rintro e w1 ⟨rfl, b1⟩)
        | (refine wpList_store_rowTo rfl 93 (.tmp 4) (.tmp 12) rfl rfl w1.heap.size F rfl rfl 93 Tryz.zeroCells93 (heap_alloc_last w1 _) f1 f2 f3 ?_
           rw [World.setRow_alloc_new]
           have b2 := btw b0 b1 b0.size
           have b3 := btw b2 (box_below w1 (.cells F 93)) b2.size
           have b4 := btw (Below.refl _ _) b1 (Nat.le_refl _)
           have b5 := btw b4 (box_below w1 (.cells F 93)) b4.size
           have n1 := (b5.block w.heap.size (by simp)).trans n0
           obtain ⟨⟨q0, q1, q2, q3, q4, q5, q6, q7, q8, q9⟩, z0, z1, z2, z3, z4, z5, z6, z7, z8, z9⟩ := bx10 n1
           obtain ⟨y0, y1, y2, y3, y4, y5, y6, y7, y8, y9⟩ := C w1
           clear n1 b5 b4 b2 hF f1 f2 f3 C
           generalize w1.alloc (.cells F 93) = W2 at *))
      refine bodyPost_ret (v := .tuple #[.agg #[.int .i64 ((k : Int) + 1), .string sp, .nilFunc, .int .i64 r, .nilFunc, .int .i64 l, .int .i64 g, .int .i64 i, .bool h, .bool c], .int .i64 0]) (by rw [results_cell_tmp rfl]; go_simp) rfl ?_
      refine ⟨rfl, ?_⟩
      exact below_set10 _ _ _ _ _ _ _ _ _ _ b3 (Nat.le_refl _)
    · go_enter Tryz.func26, Tryz.ntmps26
      go_wp2_with (first
        | (go_at_call 48; (with_reducible refine (hF _).mono ?_); rintro e w1 ⟨rfl, b1⟩)
        | (refine wpList_store_rowTo rfl 93 (.tmp 4) (.tmp 12) rfl rfl w1.heap.size F rfl rfl 93 Tryz.zeroCells93 (heap_alloc_last w1 _) f1 f2 f3 ?_
           rw [World.setRow_alloc_new]
           have b2 := btw b0 b1 b0.size
           have b3 := btw b2 (box_below w1 (.cells F 93)) b2.size
           have b4 := btw (Below.refl _ _) b1 (Nat.le_refl _)
           have b5 := btw b4 (box_below w1 (.cells F 93)) b4.size
           have n1 := (b5.block w.heap.size (by simp)).trans n0
           obtain ⟨⟨q0, q1, q2, q3, q4, q5, q6, q7, q8, q9⟩, z0, z1, z2, z3, z4, z5, z6, z7, z8, z9⟩ := bx10 n1
           obtain ⟨y0, y1, y2, y3, y4, y5, y6, y7, y8, y9⟩ := C w1
           clear n1 b5 b4 b2 hF f1 f2 f3 C
           generalize w1.alloc (.cells F 93) = W2 at *))
      refine bodyPost_ret (v := .tuple #[.agg #[.int .i64 ((k : Int) + 1), .string sp, .nilFunc, .int .i64 r, .func (.func fd) #[] #[], .int .i64 l, .int .i64 g, .int .i64 i, .bool h, .bool c], .int .i64 0]) (by rw [results_cell_tmp rfl]; go_simp) rfl ?_
      refine ⟨rfl, ?_⟩
      exact below_set10 _ _ _ _ _ _ _ _ _ _ b3 (Nat.le_refl _)
  · rcases kD with rfl | ⟨fd, rfl⟩
    · go_enter Tryz.func26, Tryz.ntmps26
      go_wp2_with (first
        | (go_at_call 48; (with_reducible refine (hF _).mono ?_); rintro e w1 ⟨rfl, b1⟩)
        | (refine wpList_store_rowTo rfl 93 (.tmp 4) (.tmp 12) rfl rfl w1.heap.size F rfl rfl 93 Tryz.zeroCells93 (heap_alloc_last w1 _) f1 f2 f3 ?_
           rw [World.setRow_alloc_new]
           have b2 := btw b0 b1 b0.size
           have b3 := btw b2 (box_below w1 (.cells F 93)) b2.size
           have b4 := btw (Below.refl _ _) b1 (Nat.le_refl _)
           have b5 := btw b4 (box_below w1 (.cells F 93)) b4.size
           have n1 := (b5.block w.heap.size (by simp)).trans n0
           obtain ⟨⟨q0, q1, q2, q3, q4, q5, q6, q7, q8, q9⟩, z0, z1, z2, z3, z4, z5, z6, z7, z8, z9⟩ := bx10 n1
           obtain ⟨y0, y1, y2, y3, y4, y5, y6, y7, y8, y9⟩ := C w1
           clear n1 b5 b4 b2 hF f1 f2 f3 C
           generalize w1.alloc (.cells F 93) = W2 at *))
      refine bodyPost_ret (v := .tuple #[.agg #[.int .i64 ((k : Int) + 1), .string sp, .func (.func fm) #[] #[], .int .i64 r, .nilFunc, .int .i64 l, .int .i64 g, .int .i64 i, .bool h, .bool c], .int .i64 0]) (by rw [results_cell_tmp rfl]; go_simp) rfl ?_
      refine ⟨rfl, ?_⟩
      exact below_set10 _ _ _ _ _ _ _ _ _ _ b3 (Nat.le_refl _)
    · go_enter Tryz.func26, Tryz.ntmps26
      go_wp2_with (first
        | (go_at_call 48; (with_reducible refine (hF _).mono ?_); rintro e w1 ⟨rfl, b1⟩)
        | (refine wpList_store_rowTo rfl 93 (.tmp 4) (.tmp 12) rfl rfl w1.heap.size F rfl rfl 93 Tryz.zeroCells93 (heap_alloc_last w1 _) f1 f2 f3 ?_
           rw [World.setRow_alloc_new]
           have b2 := btw b0 b1 b0.size
           have b3 := btw b2 (box_below w1 (.cells F 93)) b2.size
           have b4 := btw (Below.refl _ _) b1 (Nat.le_refl _)
           have b5 := btw b4 (box_below w1 (.cells F 93)) b4.size
           have n1 := (b5.block w.heap.size (by simp)).trans n0
           obtain ⟨⟨q0, q1, q2, q3, q4, q5, q6, q7, q8, q9⟩, z0, z1, z2, z3, z4, z5, z6, z7, z8, z9⟩ := bx10 n1
           obtain ⟨y0, y1, y2, y3, y4, y5, y6, y7, y8, y9⟩ := C w1
           clear n1 b5 b4 b2 hF f1 f2 f3 C
           generalize w1.alloc (.cells F 93) = W2 at *))
      refine bodyPost_ret (v := .tuple #[.agg #[.int .i64 ((k : Int) + 1), .string sp, .func (.func fm) #[] #[], .int .i64 r, .func (.func fd) #[] #[], .int .i64 l, .int .i64 g, .int .i64 i, .bool h, .bool c], .int .i64 0]) (by rw [results_cell_tmp rfl]; go_simp) rfl ?_
      refine ⟨rfl, ?_⟩
      exact below_set10 _ _ _ _ _ _ _ _ _ _ b3 (Nat.le_refl _)
end Go.Proofs.YtelcagfaflpolaaGreat



namespace Go.Proofs.YtelcagfaflpolaaGreat

open Go.RowKit

set_option linter.unusedVariables false

theorem rowOf_yes (k : Nat) (hk : k < 43) (w : World) :
    Calls Tryz.prog 26 #[.int .i64 ((k : Int) + 1)] w fun e w' => e = .returned (.tuple #[.agg #[.int .i64 ((k : Int) + 1), .string (pS k), pM k, .int .i64 (pR k), pD k, .int .i64 (pL k), .int .i64 (pG k), .int .i64 (pI k), .bool (pH k), .bool (pC k)], .int .i64 0]) ∧ Below w.heap.size w w' := by
  refine rowOf_go prFlat.toArray k hk _ (pM k) (pD k) _ _ _ _ _ _ w ?_ ?_ rowsP_any (by as_aux_lemma => kernel_rfl) (by as_aux_lemma => kernel_rfl) (by as_aux_lemma => kernel_rfl) (fun j hj => prFlat_at _ rfl k hk j hj)
  · rcases prKinds k hk with ⟨e1, _, _, G, e2⟩ | ⟨e2, _, _, F, e1⟩ | ⟨_, _, F, G, e1, e2⟩
    · exact .inl e1
    · exact .inr ⟨F, e1⟩
    · exact .inr ⟨F, e1⟩
  · rcases prKinds k hk with ⟨e1, _, _, G, e2⟩ | ⟨e2, _, _, F, e1⟩ | ⟨_, _, F, G, e1, e2⟩
    · exact .inr ⟨G, e2⟩
    · exact .inl e2
    · exact .inr ⟨G, e2⟩
theorem nP_eqF (w : World) (f : Fn) (a c : Array Value) : (binOp .eql 47 (.func f a c) .nilFunc).run Tryz.prog w = .ok (.bool false) w := by
  have hu : Tryz.prog.underlying 47 = some (.func #[3, 36] #[36, 28] false) := by kernel_rfl
  have h : (Op.equal 47 (.func f a c) .nilFunc).run Tryz.prog w = .ok false w := by
    show (Op.equalIn (9999 + 1) 47 (.func f a c) .nilFunc).run Tryz.prog w = .ok false w
    rw [Op.equalIn]
    simp [Sem.run_bind, run_underlying hu, Result.andThen]
  simp [binOp, h]
theorem nP_eqN (w : World) (f : Fn) (a c : Array Value) : (binOp .eql 47 .nilFunc .nilFunc).run Tryz.prog w = .ok (.bool true) w := by
  have hu : Tryz.prog.underlying 47 = some (.func #[3, 36] #[36, 28] false) := by kernel_rfl
  have h : (Op.equal 47 .nilFunc .nilFunc).run Tryz.prog w = .ok true w := by
    show (Op.equalIn (9999 + 1) 47 .nilFunc .nilFunc).run Tryz.prog w = .ok true w
    rw [Op.equalIn]
    simp [Sem.run_bind, run_underlying hu, Result.andThen]
  simp [binOp, h]
theorem nQ_eqF (w : World) (f : Fn) (a c : Array Value) : (binOp .eql 51 (.func f a c) .nilFunc).run Tryz.prog w = .ok (.bool false) w := by
  have hu : Tryz.prog.underlying 51 = some (.func #[3, 36, 36] #[36, 28] false) := by kernel_rfl
  have h : (Op.equal 51 (.func f a c) .nilFunc).run Tryz.prog w = .ok false w := by
    show (Op.equalIn (9999 + 1) 51 (.func f a c) .nilFunc).run Tryz.prog w = .ok false w
    rw [Op.equalIn]
    simp [Sem.run_bind, run_underlying hu, Result.andThen]
  simp [binOp, h]
theorem nQ_eqN (w : World) (f : Fn) (a c : Array Value) : (binOp .eql 51 .nilFunc .nilFunc).run Tryz.prog w = .ok (.bool true) w := by
  have hu : Tryz.prog.underlying 51 = some (.func #[3, 36, 36] #[36, 28] false) := by kernel_rfl
  have h : (Op.equal 51 .nilFunc .nilFunc).run Tryz.prog w = .ok true w := by
    show (Op.equalIn (9999 + 1) 51 .nilFunc .nilFunc).run Tryz.prog w = .ok true w
    rw [Op.equalIn]
    simp [Sem.run_bind, run_underlying hu, Result.andThen]
  simp [binOp, h]
theorem nP_neF (w : World) (f : Fn) (a c : Array Value) : (binOp .neq 47 (.func f a c) .nilFunc).run Tryz.prog w = .ok (.bool true) w := by
  have hu : Tryz.prog.underlying 47 = some (.func #[3, 36] #[36, 28] false) := by kernel_rfl
  have h : (Op.equal 47 (.func f a c) .nilFunc).run Tryz.prog w = .ok false w := by
    show (Op.equalIn (9999 + 1) 47 (.func f a c) .nilFunc).run Tryz.prog w = .ok false w
    rw [Op.equalIn]
    simp [Sem.run_bind, run_underlying hu, Result.andThen]
  simp [binOp, h]
theorem nP_neN (w : World) (f : Fn) (a c : Array Value) : (binOp .neq 47 .nilFunc .nilFunc).run Tryz.prog w = .ok (.bool false) w := by
  have hu : Tryz.prog.underlying 47 = some (.func #[3, 36] #[36, 28] false) := by kernel_rfl
  have h : (Op.equal 47 .nilFunc .nilFunc).run Tryz.prog w = .ok true w := by
    show (Op.equalIn (9999 + 1) 47 .nilFunc .nilFunc).run Tryz.prog w = .ok true w
    rw [Op.equalIn]
    simp [Sem.run_bind, run_underlying hu, Result.andThen]
  simp [binOp, h]
theorem nQ_neF (w : World) (f : Fn) (a c : Array Value) : (binOp .neq 51 (.func f a c) .nilFunc).run Tryz.prog w = .ok (.bool true) w := by
  have hu : Tryz.prog.underlying 51 = some (.func #[3, 36, 36] #[36, 28] false) := by kernel_rfl
  have h : (Op.equal 51 (.func f a c) .nilFunc).run Tryz.prog w = .ok false w := by
    show (Op.equalIn (9999 + 1) 51 (.func f a c) .nilFunc).run Tryz.prog w = .ok false w
    rw [Op.equalIn]
    simp [Sem.run_bind, run_underlying hu, Result.andThen]
  simp [binOp, h]
theorem nQ_neN (w : World) (f : Fn) (a c : Array Value) : (binOp .neq 51 .nilFunc .nilFunc).run Tryz.prog w = .ok (.bool false) w := by
  have hu : Tryz.prog.underlying 51 = some (.func #[3, 36, 36] #[36, 28] false) := by kernel_rfl
  have h : (Op.equal 51 .nilFunc .nilFunc).run Tryz.prog w = .ok true w := by
    show (Op.equalIn (9999 + 1) 51 .nilFunc .nilFunc).run Tryz.prog w = .ok true w
    rw [Op.equalIn]
    simp [Sem.run_bind, run_underlying hu, Result.andThen]
  simp [binOp, h]

theorem bx9 {W : World} {g : Nat} {a0 a1 a2 a3 a4 a5 a6 a7 a8 : Value} {t : TypeId} (h : W.heap[g]? = some (.cells #[a0, a1, a2, a3, a4, a5, a6, a7, a8] t (0, 0))) :
    (W.cell? ⟨g, 0, none⟩ = some a0 ∧ W.cell? ⟨g, 1, none⟩ = some a1 ∧ W.cell? ⟨g, 2, none⟩ = some a2 ∧ W.cell? ⟨g, 3, none⟩ = some a3 ∧ W.cell? ⟨g, 4, none⟩ = some a4 ∧ W.cell? ⟨g, 5, none⟩ = some a5 ∧ W.cell? ⟨g, 6, none⟩ = some a6 ∧ W.cell? ⟨g, 7, none⟩ = some a7 ∧ W.cell? ⟨g, 8, none⟩ = some a8) ∧
    (W.frozen? ⟨g, 0, none⟩ = false ∧ W.frozen? ⟨g, 1, none⟩ = false ∧ W.frozen? ⟨g, 2, none⟩ = false ∧ W.frozen? ⟨g, 3, none⟩ = false ∧ W.frozen? ⟨g, 4, none⟩ = false ∧ W.frozen? ⟨g, 5, none⟩ = false ∧ W.frozen? ⟨g, 6, none⟩ = false ∧ W.frozen? ⟨g, 7, none⟩ = false ∧ W.frozen? ⟨g, 8, none⟩ = false) :=
  ⟨⟨(cell_of_row W g 0 _ t (0, 0) h).trans rfl, (cell_of_row W g 1 _ t (0, 0) h).trans rfl, (cell_of_row W g 2 _ t (0, 0) h).trans rfl, (cell_of_row W g 3 _ t (0, 0) h).trans rfl, (cell_of_row W g 4 _ t (0, 0) h).trans rfl, (cell_of_row W g 5 _ t (0, 0) h).trans rfl, (cell_of_row W g 6 _ t (0, 0) h).trans rfl, (cell_of_row W g 7 _ t (0, 0) h).trans rfl, (cell_of_row W g 8 _ t (0, 0) h).trans rfl⟩, ⟨frozen_of_row W g 0 _ t h, frozen_of_row W g 1 _ t h, frozen_of_row W g 2 _ t h, frozen_of_row W g 3 _ t h, frozen_of_row W g 4 _ t h, frozen_of_row W g 5 _ t h, frozen_of_row W g 6 _ t h, frozen_of_row W g 7 _ t h, frozen_of_row W g 8 _ t h⟩⟩
theorem below_set9 {a W : World} {B b : Nat} (v0 v1 v2 v3 v4 v5 v6 v7 v8 : Value) (h : Below B a W) (hb : B ≤ b) : Below B a (((((((((W.setCell ⟨b, 0, none⟩ v0).setCell ⟨b, 1, none⟩ v1).setCell ⟨b, 2, none⟩ v2).setCell ⟨b, 3, none⟩ v3).setCell ⟨b, 4, none⟩ v4).setCell ⟨b, 5, none⟩ v5).setCell ⟨b, 6, none⟩ v6).setCell ⟨b, 7, none⟩ v7).setCell ⟨b, 8, none⟩ v8) := by
  have s : ∀ {W : World} (i : Nat) (v : Value), Below B a W → Below B a (W.setCell ⟨b, i, none⟩ v) := fun i v h => h.setCell (p := ⟨b, i, none⟩) hb v
  exact s 8 _ (s 7 _ (s 6 _ (s 5 _ (s 4 _ (s 3 _ (s 2 _ (s 1 _ (s 0 _ h))))))))

set_option maxHeartbeats 2000000 in
theorem told_bm (op : Int) (sp : ByteArray) (fm fd : FuncId) (r l g i : Int) (h c : Bool) (w : World) :
    Calls Tryz.prog 27 #[.agg #[.int .i64 op, .string sp, .func (.func fm) #[] #[], .int .i64 r, .nilFunc, .int .i64 l, .int .i64 g, .int .i64 i, .bool h, .bool c]] w fun e w' => e = .returned (.agg #[.string sp, .bool true, .bool false, .int .i64 r, .int .i64 l, .int .i64 g, .int .i64 i, .bool h, .bool c]) ∧ Below w.heap.size w w' := by
  have e1 := fun V => nP_neF V (.func fm) #[] #[]
  have e2 := fun V => nQ_neN V default #[] #[]
  go_enter Tryz.func27, Tryz.ntmps27
  go_wp2
  refine bodyPost_ret (v := .agg #[.string sp, .bool true, .bool false, .int .i64 r, .int .i64 l, .int .i64 g, .int .i64 i, .bool h, .bool c]) (by simp [results, Tryz.results27]; go_simp) rfl ?_
  exact ⟨rfl, btw (box_below w _) (box_below _ _) (by simp)⟩

set_option maxHeartbeats 2000000 in
theorem told_bd (op : Int) (sp : ByteArray) (fm fd : FuncId) (r l g i : Int) (h c : Bool) (w : World) :
    Calls Tryz.prog 27 #[.agg #[.int .i64 op, .string sp, .nilFunc, .int .i64 r, .func (.func fd) #[] #[], .int .i64 l, .int .i64 g, .int .i64 i, .bool h, .bool c]] w fun e w' => e = .returned (.agg #[.string sp, .bool false, .bool true, .int .i64 r, .int .i64 l, .int .i64 g, .int .i64 i, .bool h, .bool c]) ∧ Below w.heap.size w w' := by
  have e1 := fun V => nP_neN V default #[] #[]
  have e2 := fun V => nQ_neF V (.func fd) #[] #[]
  go_enter Tryz.func27, Tryz.ntmps27
  go_wp2
  refine bodyPost_ret (v := .agg #[.string sp, .bool false, .bool true, .int .i64 r, .int .i64 l, .int .i64 g, .int .i64 i, .bool h, .bool c]) (by simp [results, Tryz.results27]; go_simp) rfl ?_
  exact ⟨rfl, btw (box_below w _) (box_below _ _) (by simp)⟩

set_option maxHeartbeats 2000000 in
theorem told_bb (op : Int) (sp : ByteArray) (fm fd : FuncId) (r l g i : Int) (h c : Bool) (w : World) :
    Calls Tryz.prog 27 #[.agg #[.int .i64 op, .string sp, .func (.func fm) #[] #[], .int .i64 r, .func (.func fd) #[] #[], .int .i64 l, .int .i64 g, .int .i64 i, .bool h, .bool c]] w fun e w' => e = .returned (.agg #[.string sp, .bool true, .bool true, .int .i64 r, .int .i64 l, .int .i64 g, .int .i64 i, .bool h, .bool c]) ∧ Below w.heap.size w w' := by
  have e1 := fun V => nP_neF V (.func fm) #[] #[]
  have e2 := fun V => nQ_neF V (.func fd) #[] #[]
  go_enter Tryz.func27, Tryz.ntmps27
  go_wp2
  refine bodyPost_ret (v := .agg #[.string sp, .bool true, .bool true, .int .i64 r, .int .i64 l, .int .i64 g, .int .i64 i, .bool h, .bool c]) (by simp [results, Tryz.results27]; go_simp) rfl ?_
  exact ⟨rfl, btw (box_below w _) (box_below _ _) (by simp)⟩

theorem told_k (k : Nat) (hk : k < 43) (w : World) :
    Calls Tryz.prog 27 #[.agg #[.int .i64 ((k : Int) + 1), .string (pS k), pM k, .int .i64 (pR k), pD k, .int .i64 (pL k), .int .i64 (pG k), .int .i64 (pI k), .bool (pH k), .bool (pC k)]] w fun e w' => e = .returned (.agg #[.string (pS k), .bool (pMb k), .bool (pDb k), .int .i64 (pR k), .int .i64 (pL k), .int .i64 (pG k), .int .i64 (pI k), .bool (pH k), .bool (pC k)]) ∧ Below w.heap.size w w' := by
  rcases prKinds k hk with ⟨e1, b1, b2, G, e2⟩ | ⟨e2, b2, b1, F, e1⟩ | ⟨b1, b2, F, G, e1, e2⟩
  all_goals rw [e1, e2, b1, b2]
  · exact told_bd _ _ 0 G _ _ _ _ _ _ w
  · exact told_bm _ _ F 0 _ _ _ _ _ _ w
  · exact told_bb _ _ F G _ _ _ _ _ _ w

set_option maxHeartbeats 2000000 in
theorem info_no (op : Int) (w : World) (h : op < 1 ∨ 43 < op) :
    Calls Tryz.prog 10 #[.int .i64 op] w fun e w' => e = .returned (.tuple #[.agg #[.string ⟨#[]⟩, .bool false, .bool false, .int .i64 0, .int .i64 0, .int .i64 0, .int .i64 0, .bool false, .bool false], .int .i64 1]) ∧ Below w.heap.size w w' := by
  have b0 := box_below w (.cells #[.string ⟨#[]⟩, .bool false, .bool false, .int .i64 0, .int .i64 0, .int .i64 0, .int .i64 0, .bool false, .bool false] 27)
  have n0 := allocNew w (.cells #[.string ⟨#[]⟩, .bool false, .bool false, .int .i64 0, .int .i64 0, .int .i64 0, .int .i64 0, .bool false, .bool false] 27)
  have hr := fun W => rowOf_no op W h
  clear h
  go_enter Tryz.func10, Tryz.ntmps10
  go_upto_region 2 with (first
    | (go_at_call 26; (with_reducible refine (hr _).mono ?_); rintro e w1 ⟨rfl, b1⟩
       have b2 := btw (btw b0 b1 b0.size) (box_below w1 (.cells #[.int .i64 0, .string ⟨#[]⟩, .nilFunc, .int .i64 0, .nilFunc, .int .i64 0, .int .i64 0, .int .i64 0, .bool false, .bool false] 63)) (btw b0 b1 b0.size).size
       have b3 := btw b1 (box_below w1 (.cells #[.int .i64 0, .string ⟨#[]⟩, .nilFunc, .int .i64 0, .nilFunc, .int .i64 0, .int .i64 0, .int .i64 0, .bool false, .bool false] 63)) b1.size
       have n1 := (b3.block w.heap.size (by simp)).trans n0
       obtain ⟨⟨y0, y1, y2, y3, y4, y5, y6, y7, y8⟩, x0, x1, x2, x3, x4, x5, x6, x7, x8⟩ := bx9 n1
       clear n1 b3 hr))
  generalize w1.alloc (.cells #[.int .i64 0, .string ⟨#[]⟩, .nilFunc, .int .i64 0, .nilFunc, .int .i64 0, .int .i64 0, .int .i64 0, .bool false, .bool false] 63) = W2 at *
  go_wp2
  refine bodyPost_ret (v := .tuple #[.agg #[.string ⟨#[]⟩, .bool false, .bool false, .int .i64 0, .int .i64 0, .int .i64 0, .int .i64 0, .bool false, .bool false], .int .i64 1]) (by rw [results_cell_tmp rfl]; go_simp) rfl ?_
  exact ⟨rfl, by first | exact below_set9 _ _ _ _ _ _ _ _ _ b2 (Nat.le_refl _) | exact b2⟩

set_option maxHeartbeats 2000000 in
theorem info_go (k : Nat) (M D : Value) (sp : ByteArray) (mb db : Bool) (r l g i : Int) (h c : Bool) (w : World) (kM : M = .nilFunc ∨ ∃ f, M = .func (.func f) #[] #[]) (kD : D = .nilFunc ∨ ∃ f, D = .func (.func f) #[] #[])
    (hr : ∀ W, Calls Tryz.prog 26 #[.int .i64 ((k : Int) + 1)] W fun e w' => e = .returned (.tuple #[.agg #[.int .i64 ((k : Int) + 1), .string sp, M, .int .i64 r, D, .int .i64 l, .int .i64 g, .int .i64 i, .bool h, .bool c], .int .i64 0]) ∧ Below W.heap.size W w')
    (ht : ∀ W, Calls Tryz.prog 27 #[.agg #[.int .i64 ((k : Int) + 1), .string sp, M, .int .i64 r, D, .int .i64 l, .int .i64 g, .int .i64 i, .bool h, .bool c]] W fun e w' => e = .returned (.agg #[.string sp, .bool mb, .bool db, .int .i64 r, .int .i64 l, .int .i64 g, .int .i64 i, .bool h, .bool c]) ∧ Below W.heap.size W w') :
    Calls Tryz.prog 10 #[.int .i64 ((k : Int) + 1)] w fun e w' => e = .returned (.tuple #[.agg #[.string sp, .bool mb, .bool db, .int .i64 r, .int .i64 l, .int .i64 g, .int .i64 i, .bool h, .bool c], .int .i64 0]) ∧ Below w.heap.size w w' := by
  have b0 := box_below w (.cells #[.string ⟨#[]⟩, .bool false, .bool false, .int .i64 0, .int .i64 0, .int .i64 0, .int .i64 0, .bool false, .bool false] 27)
  have n0 := allocNew w (.cells #[.string ⟨#[]⟩, .bool false, .bool false, .int .i64 0, .int .i64 0, .int .i64 0, .int .i64 0, .bool false, .bool false] 27)
  rcases kM with rfl | ⟨fm, rfl⟩
  · rcases kD with rfl | ⟨fd, rfl⟩
    · go_enter Tryz.func10, Tryz.ntmps10
      go_wp2_with (first
        | (go_at_call 26; (with_reducible refine (hr _).mono ?_); rintro e w1 ⟨rfl, b1⟩
           have b2 := btw (btw b0 b1 b0.size) (box_below w1 (.cells #[.int .i64 ((k : Int) + 1), .string sp, .nilFunc, .int .i64 r, .nilFunc, .int .i64 l, .int .i64 g, .int .i64 i, .bool h, .bool c] 63)) (btw b0 b1 b0.size).size
           have b3 := btw b1 (box_below w1 (.cells #[.int .i64 ((k : Int) + 1), .string sp, .nilFunc, .int .i64 r, .nilFunc, .int .i64 l, .int .i64 g, .int .i64 i, .bool h, .bool c] 63)) b1.size
           have n1 := (b3.block w.heap.size (by simp)).trans n0
           obtain ⟨⟨q0, q1, q2, q3, q4, q5, q6, q7, q8, q9⟩, z0, z1, z2, z3, z4, z5, z6, z7, z8, z9⟩ := bx10 (allocNew w1 (.cells #[.int .i64 ((k : Int) + 1), .string sp, .nilFunc, .int .i64 r, .nilFunc, .int .i64 l, .int .i64 g, .int .i64 i, .bool h, .bool c] 63))
           clear hr)
        | (go_at_call 27; (with_reducible refine (ht _).mono ?_); rintro e w2 ⟨rfl, c1⟩
           have c2 := btw b2 c1 b2.size
           have n2 := (c1.block w.heap.size (Nat.lt_of_lt_of_le (by simp) b3.size)).trans n1
           obtain ⟨⟨y0, y1, y2, y3, y4, y5, y6, y7, y8⟩, x0, x1, x2, x3, x4, x5, x6, x7, x8⟩ := bx9 n2
           clear n1 n2 b3 ht))
      refine bodyPost_ret (v := .tuple #[.agg #[.string sp, .bool mb, .bool db, .int .i64 r, .int .i64 l, .int .i64 g, .int .i64 i, .bool h, .bool c], .int .i64 0]) (by rw [results_cell_tmp rfl]; go_simp) rfl ?_
      exact ⟨rfl, by first | exact below_set9 _ _ _ _ _ _ _ _ _ c2 (Nat.le_refl _) | exact c2⟩
    · go_enter Tryz.func10, Tryz.ntmps10
      go_wp2_with (first
        | (go_at_call 26; (with_reducible refine (hr _).mono ?_); rintro e w1 ⟨rfl, b1⟩
           have b2 := btw (btw b0 b1 b0.size) (box_below w1 (.cells #[.int .i64 ((k : Int) + 1), .string sp, .nilFunc, .int .i64 r, .func (.func fd) #[] #[], .int .i64 l, .int .i64 g, .int .i64 i, .bool h, .bool c] 63)) (btw b0 b1 b0.size).size
           have b3 := btw b1 (box_below w1 (.cells #[.int .i64 ((k : Int) + 1), .string sp, .nilFunc, .int .i64 r, .func (.func fd) #[] #[], .int .i64 l, .int .i64 g, .int .i64 i, .bool h, .bool c] 63)) b1.size
           have n1 := (b3.block w.heap.size (by simp)).trans n0
           obtain ⟨⟨q0, q1, q2, q3, q4, q5, q6, q7, q8, q9⟩, z0, z1, z2, z3, z4, z5, z6, z7, z8, z9⟩ := bx10 (allocNew w1 (.cells #[.int .i64 ((k : Int) + 1), .string sp, .nilFunc, .int .i64 r, .func (.func fd) #[] #[], .int .i64 l, .int .i64 g, .int .i64 i, .bool h, .bool c] 63))
           clear hr)
        | (go_at_call 27; (with_reducible refine (ht _).mono ?_); rintro e w2 ⟨rfl, c1⟩
           have c2 := btw b2 c1 b2.size
           have n2 := (c1.block w.heap.size (Nat.lt_of_lt_of_le (by simp) b3.size)).trans n1
           obtain ⟨⟨y0, y1, y2, y3, y4, y5, y6, y7, y8⟩, x0, x1, x2, x3, x4, x5, x6, x7, x8⟩ := bx9 n2
           clear n1 n2 b3 ht))
      refine bodyPost_ret (v := .tuple #[.agg #[.string sp, .bool mb, .bool db, .int .i64 r, .int .i64 l, .int .i64 g, .int .i64 i, .bool h, .bool c], .int .i64 0]) (by rw [results_cell_tmp rfl]; go_simp) rfl ?_
      exact ⟨rfl, by first | exact below_set9 _ _ _ _ _ _ _ _ _ c2 (Nat.le_refl _) | exact c2⟩
  · rcases kD with rfl | ⟨fd, rfl⟩
    · go_enter Tryz.func10, Tryz.ntmps10
      go_wp2_with (first
        | (go_at_call 26; (with_reducible refine (hr _).mono ?_); rintro e w1 ⟨rfl, b1⟩
           have b2 := btw (btw b0 b1 b0.size) (box_below w1 (.cells #[.int .i64 ((k : Int) + 1), .string sp, .func (.func fm) #[] #[], .int .i64 r, .nilFunc, .int .i64 l, .int .i64 g, .int .i64 i, .bool h, .bool c] 63)) (btw b0 b1 b0.size).size
           have b3 := btw b1 (box_below w1 (.cells #[.int .i64 ((k : Int) + 1), .string sp, .func (.func fm) #[] #[], .int .i64 r, .nilFunc, .int .i64 l, .int .i64 g, .int .i64 i, .bool h, .bool c] 63)) b1.size
           have n1 := (b3.block w.heap.size (by simp)).trans n0
           obtain ⟨⟨q0, q1, q2, q3, q4, q5, q6, q7, q8, q9⟩, z0, z1, z2, z3, z4, z5, z6, z7, z8, z9⟩ := bx10 (allocNew w1 (.cells #[.int .i64 ((k : Int) + 1), .string sp, .func (.func fm) #[] #[], .int .i64 r, .nilFunc, .int .i64 l, .int .i64 g, .int .i64 i, .bool h, .bool c] 63))
           clear hr)
        | (go_at_call 27; (with_reducible refine (ht _).mono ?_); rintro e w2 ⟨rfl, c1⟩
           have c2 := btw b2 c1 b2.size
           have n2 := (c1.block w.heap.size (Nat.lt_of_lt_of_le (by simp) b3.size)).trans n1
           obtain ⟨⟨y0, y1, y2, y3, y4, y5, y6, y7, y8⟩, x0, x1, x2, x3, x4, x5, x6, x7, x8⟩ := bx9 n2
           clear n1 n2 b3 ht))
      refine bodyPost_ret (v := .tuple #[.agg #[.string sp, .bool mb, .bool db, .int .i64 r, .int .i64 l, .int .i64 g, .int .i64 i, .bool h, .bool c], .int .i64 0]) (by rw [results_cell_tmp rfl]; go_simp) rfl ?_
      exact ⟨rfl, by first | exact below_set9 _ _ _ _ _ _ _ _ _ c2 (Nat.le_refl _) | exact c2⟩
    · go_enter Tryz.func10, Tryz.ntmps10
      go_wp2_with (first
        | (go_at_call 26; (with_reducible refine (hr _).mono ?_); rintro e w1 ⟨rfl, b1⟩
           have b2 := btw (btw b0 b1 b0.size) (box_below w1 (.cells #[.int .i64 ((k : Int) + 1), .string sp, .func (.func fm) #[] #[], .int .i64 r, .func (.func fd) #[] #[], .int .i64 l, .int .i64 g, .int .i64 i, .bool h, .bool c] 63)) (btw b0 b1 b0.size).size
           have b3 := btw b1 (box_below w1 (.cells #[.int .i64 ((k : Int) + 1), .string sp, .func (.func fm) #[] #[], .int .i64 r, .func (.func fd) #[] #[], .int .i64 l, .int .i64 g, .int .i64 i, .bool h, .bool c] 63)) b1.size
           have n1 := (b3.block w.heap.size (by simp)).trans n0
           obtain ⟨⟨q0, q1, q2, q3, q4, q5, q6, q7, q8, q9⟩, z0, z1, z2, z3, z4, z5, z6, z7, z8, z9⟩ := bx10 (allocNew w1 (.cells #[.int .i64 ((k : Int) + 1), .string sp, .func (.func fm) #[] #[], .int .i64 r, .func (.func fd) #[] #[], .int .i64 l, .int .i64 g, .int .i64 i, .bool h, .bool c] 63))
           clear hr)
        | (go_at_call 27; (with_reducible refine (ht _).mono ?_); rintro e w2 ⟨rfl, c1⟩
           have c2 := btw b2 c1 b2.size
           have n2 := (c1.block w.heap.size (Nat.lt_of_lt_of_le (by simp) b3.size)).trans n1
           obtain ⟨⟨y0, y1, y2, y3, y4, y5, y6, y7, y8⟩, x0, x1, x2, x3, x4, x5, x6, x7, x8⟩ := bx9 n2
           clear n1 n2 b3 ht))
      refine bodyPost_ret (v := .tuple #[.agg #[.string sp, .bool mb, .bool db, .int .i64 r, .int .i64 l, .int .i64 g, .int .i64 i, .bool h, .bool c], .int .i64 0]) (by rw [results_cell_tmp rfl]; go_simp) rfl ?_
      exact ⟨rfl, by first | exact below_set9 _ _ _ _ _ _ _ _ _ c2 (Nat.le_refl _) | exact c2⟩

theorem info_yes (k : Nat) (hk : k < 43) (w : World) :
    Calls Tryz.prog 10 #[.int .i64 ((k : Int) + 1)] w fun e w' => e = .returned (.tuple #[.agg #[.string (pS k), .bool (pMb k), .bool (pDb k), .int .i64 (pR k), .int .i64 (pL k), .int .i64 (pG k), .int .i64 (pI k), .bool (pH k), .bool (pC k)], .int .i64 0]) ∧ Below w.heap.size w w' := by
  refine info_go k (pM k) (pD k) _ _ _ _ _ _ _ _ _ w ?_ ?_ (rowOf_yes k hk) (told_k k hk)
  · rcases prKinds k hk with ⟨e1, _, _, G, e2⟩ | ⟨e2, _, _, F, e1⟩ | ⟨_, _, F, G, e1, e2⟩
    · exact .inl e1
    · exact .inr ⟨F, e1⟩
    · exact .inr ⟨F, e1⟩
  · rcases prKinds k hk with ⟨e1, _, _, G, e2⟩ | ⟨e2, _, _, F, e1⟩ | ⟨_, _, F, G, e1, e2⟩
    · exact .inr ⟨G, e2⟩
    · exact .inl e2
    · exact .inr ⟨G, e2⟩

theorem whole_any (so ao : Option Addr) (sn sc an ac : Nat) (r : Int) (w : World) :
    Calls Tryz.prog 55 #[.agg #[.slice so sn sc, .slice ao an ac], .int .i64 r] w fun e w' => e = .returned (.bool (decide ((sn : Int) ≤ r))) ∧ Below w.heap.size w w' := by
  go_enter Tryz.func55, Tryz.ntmps55
  go_wp2
  go_ret
  exact ⟨rfl, box_below w _⟩
end Go.Proofs.YtelcagfaflpolaaGreat
