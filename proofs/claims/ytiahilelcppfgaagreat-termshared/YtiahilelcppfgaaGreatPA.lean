
/- Package prim: the table of rows. -/

import Derived.Test.YtiahilelcppfgaaGreatA4

import Derived.Laws.EntriesVeiled

import Derived.Great.BuildSlice

import Derived.Deep.WholeRow

import Derived.Deep.Cut

namespace Go.Proofs.YtiahilelcppfgaaGreat

open Go.RowKit

set_option linter.unusedVariables false

def prTab : List (List Value) := [
  [.int .i64 1, .string ⟨#[43]⟩, .func (.func 127) #[] #[], .int .i64 0, .func (.func 128) #[] #[], .int .i64 0, .int .i64 0, .int .i64 0, .bool true, .bool true],
  [.int .i64 2, .string ⟨#[45]⟩, .func (.func 127) #[] #[], .int .i64 0, .func (.func 128) #[] #[], .int .i64 0, .int .i64 0, .int .i64 0, .bool true, .bool false],
  [.int .i64 3, .string ⟨#[42]⟩, .func (.func 127) #[] #[], .int .i64 0, .func (.func 128) #[] #[], .int .i64 0, .int .i64 0, .int .i64 1, .bool true, .bool true],
  [.int .i64 4, .string ⟨#[37]⟩, .nilFunc, .int .i64 0, .func (.func 128) #[] #[], .int .i64 0, .int .i64 0, .int .i64 1, .bool true, .bool false],
  [.int .i64 5, .string ⟨#[124]⟩, .func (.func 127) #[] #[], .int .i64 0, .func (.func 128) #[] #[], .int .i64 0, .int .i64 0, .int .i64 0, .bool true, .bool false],
  [.int .i64 6, .string ⟨#[60, 46]⟩, .func (.func 127) #[] #[], .int .i64 0, .func (.func 128) #[] #[], .int .i64 0, .int .i64 0, .int .i64 9223372036854775807, .bool true, .bool true],
  [.int .i64 7, .string ⟨#[62, 46]⟩, .func (.func 127) #[] #[], .int .i64 0, .func (.func 128) #[] #[], .int .i64 0, .int .i64 0, .int .i64 (-9223372036854775808), .bool true, .bool true],
  [.int .i64 8, .string ⟨#[60]⟩, .nilFunc, .int .i64 0, .func (.func 128) #[] #[], .int .i64 0, .int .i64 0, .int .i64 0, .bool true, .bool false],
  [.int .i64 9, .string ⟨#[62]⟩, .nilFunc, .int .i64 0, .func (.func 128) #[] #[], .int .i64 0, .int .i64 0, .int .i64 0, .bool true, .bool false],
  [.int .i64 10, .string ⟨#[61]⟩, .func (.func 129) #[] #[], .int .i64 64, .func (.func 128) #[] #[], .int .i64 0, .int .i64 0, .int .i64 1, .bool true, .bool true],
  [.int .i64 11, .string ⟨#[126, 58]⟩, .func (.func 129) #[] #[], .int .i64 64, .func (.func 128) #[] #[], .int .i64 0, .int .i64 0, .int .i64 0, .bool true, .bool true],
  [.int .i64 12, .string ⟨#[60, 58]⟩, .func (.func 127) #[] #[], .int .i64 0, .func (.func 128) #[] #[], .int .i64 0, .int .i64 0, .int .i64 1, .bool true, .bool false],
  [.int .i64 13, .string ⟨#[62, 58]⟩, .func (.func 127) #[] #[], .int .i64 0, .func (.func 128) #[] #[], .int .i64 0, .int .i64 0, .int .i64 1, .bool true, .bool false],
  [.int .i64 14, .string ⟨#[43, 46]⟩, .nilFunc, .int .i64 0, .func (.func 128) #[] #[], .int .i64 0, .int .i64 0, .int .i64 0, .bool true, .bool true],
  [.int .i64 15, .string ⟨#[42, 46]⟩, .nilFunc, .int .i64 0, .func (.func 128) #[] #[], .int .i64 0, .int .i64 0, .int .i64 1, .bool true, .bool true],
  [.int .i64 16, .string ⟨#[43, 58]⟩, .func (.func 127) #[] #[], .int .i64 0, .func (.func 128) #[] #[], .int .i64 0, .int .i64 0, .int .i64 0, .bool false, .bool true],
  [.int .i64 17, .string ⟨#[42, 58]⟩, .func (.func 127) #[] #[], .int .i64 0, .func (.func 128) #[] #[], .int .i64 0, .int .i64 0, .int .i64 0, .bool false, .bool true],
  [.int .i64 18, .string ⟨#[45, 46]⟩, .func (.func 127) #[] #[], .int .i64 0, .func (.func 130) #[] #[], .int .i64 64, .int .i64 64, .int .i64 0, .bool false, .bool false],
  [.int .i64 19, .string ⟨#[45, 58]⟩, .func (.func 127) #[] #[], .int .i64 0, .func (.func 130) #[] #[], .int .i64 64, .int .i64 64, .int .i64 0, .bool false, .bool true],
  [.int .i64 20, .string ⟨#[94]⟩, .nilFunc, .int .i64 0, .func (.func 128) #[] #[], .int .i64 0, .int .i64 0, .int .i64 1, .bool true, .bool false],
  [.int .i64 21, .string ⟨#[33]⟩, .func (.func 127) #[] #[], .int .i64 0, .func (.func 128) #[] #[], .int .i64 0, .int .i64 0, .int .i64 1, .bool true, .bool false],
  [.int .i64 22, .string ⟨#[35]⟩, .func (.func 131) #[] #[], .int .i64 64, .func (.func 132) #[] #[], .int .i64 1, .int .i64 64, .int .i64 0, .bool false, .bool false],
  [.int .i64 23, .string ⟨#[36]⟩, .func (.func 131) #[] #[], .int .i64 64, .func (.func 133) #[] #[], .int .i64 1, .int .i64 64, .int .i64 0, .bool false, .bool false],
  [.int .i64 24, .string ⟨#[44]⟩, .func (.func 131) #[] #[], .int .i64 64, .func (.func 133) #[] #[], .int .i64 64, .int .i64 64, .int .i64 0, .bool false, .bool false],
  [.int .i64 25, .string ⟨#[44, 46]⟩, .func (.func 131) #[] #[], .int .i64 64, .func (.func 133) #[] #[], .int .i64 64, .int .i64 64, .int .i64 0, .bool false, .bool false],
  [.int .i64 26, .string ⟨#[44, 58]⟩, .func (.func 131) #[] #[], .int .i64 64, .func (.func 133) #[] #[], .int .i64 64, .int .i64 64, .int .i64 0, .bool false, .bool false],
  [.int .i64 27, .string ⟨#[123]⟩, .nilFunc, .int .i64 0, .func (.func 130) #[] #[], .int .i64 0, .int .i64 64, .int .i64 0, .bool false, .bool false],
  [.int .i64 28, .string ⟨#[123, 46]⟩, .func (.func 131) #[] #[], .int .i64 64, .func (.func 133) #[] #[], .int .i64 1, .int .i64 64, .int .i64 0, .bool false, .bool false],
  [.int .i64 29, .string ⟨#[125, 46]⟩, .func (.func 131) #[] #[], .int .i64 64, .func (.func 133) #[] #[], .int .i64 1, .int .i64 64, .int .i64 0, .bool false, .bool false],
  [.int .i64 30, .string ⟨#[123, 58]⟩, .func (.func 131) #[] #[], .int .i64 64, .nilFunc, .int .i64 0, .int .i64 0, .int .i64 0, .bool false, .bool false],
  [.int .i64 31, .string ⟨#[125, 58]⟩, .func (.func 131) #[] #[], .int .i64 64, .nilFunc, .int .i64 0, .int .i64 0, .int .i64 0, .bool false, .bool false],
  [.int .i64 32, .string ⟨#[124, 46]⟩, .func (.func 131) #[] #[], .int .i64 64, .func (.func 133) #[] #[], .int .i64 1, .int .i64 64, .int .i64 0, .bool false, .bool false],
  [.int .i64 33, .string ⟨#[124, 58]⟩, .func (.func 131) #[] #[], .int .i64 64, .func (.func 133) #[] #[], .int .i64 1, .int .i64 64, .int .i64 0, .bool false, .bool false],
  [.int .i64 34, .string ⟨#[105, 46]⟩, .func (.func 134) #[] #[], .int .i64 1, .func (.func 130) #[] #[], .int .i64 64, .int .i64 64, .int .i64 0, .bool false, .bool false],
  [.int .i64 35, .string ⟨#[101, 46]⟩, .nilFunc, .int .i64 0, .func (.func 130) #[] #[], .int .i64 64, .int .i64 64, .int .i64 0, .bool false, .bool false],
  [.int .i64 36, .string ⟨#[126, 46]⟩, .func (.func 129) #[] #[], .int .i64 64, .nilFunc, .int .i64 0, .int .i64 0, .int .i64 0, .bool false, .bool false],
  [.int .i64 37, .string ⟨#[47, 58]⟩, .func (.func 129) #[] #[], .int .i64 64, .func (.func 130) #[] #[], .int .i64 64, .int .i64 64, .int .i64 0, .bool false, .bool false],
  [.int .i64 38, .string ⟨#[92, 58]⟩, .func (.func 129) #[] #[], .int .i64 64, .func (.func 130) #[] #[], .int .i64 64, .int .i64 64, .int .i64 0, .bool false, .bool false],
  [.int .i64 39, .string ⟨#[35, 46]⟩, .func (.func 134) #[] #[], .int .i64 1, .func (.func 132) #[] #[], .int .i64 1, .int .i64 1, .int .i64 0, .bool false, .bool false],
  [.int .i64 40, .string ⟨#[35, 58]⟩, .func (.func 134) #[] #[], .int .i64 64, .func (.func 132) #[] #[], .int .i64 1, .int .i64 0, .int .i64 0, .bool false, .bool false],
  [.int .i64 41, .string ⟨#[91]⟩, .func (.func 131) #[] #[], .int .i64 64, .func (.func 133) #[] #[], .int .i64 64, .int .i64 64, .int .i64 0, .bool false, .bool false],
  [.int .i64 42, .string ⟨#[93]⟩, .func (.func 131) #[] #[], .int .i64 64, .func (.func 133) #[] #[], .int .i64 64, .int .i64 64, .int .i64 0, .bool false, .bool false],
  [.int .i64 43, .string ⟨#[73, 46]⟩, .func (.func 134) #[] #[], .int .i64 1, .nilFunc, .int .i64 0, .int .i64 0, .int .i64 0, .bool false, .bool false]
]
def prFlat : List Value := [.int .i64 1, .string ⟨#[43]⟩, .func (.func 127) #[] #[], .int .i64 0, .func (.func 128) #[] #[], .int .i64 0, .int .i64 0, .int .i64 0, .bool true, .bool true,
  .int .i64 2, .string ⟨#[45]⟩, .func (.func 127) #[] #[], .int .i64 0, .func (.func 128) #[] #[], .int .i64 0, .int .i64 0, .int .i64 0, .bool true, .bool false,
  .int .i64 3, .string ⟨#[42]⟩, .func (.func 127) #[] #[], .int .i64 0, .func (.func 128) #[] #[], .int .i64 0, .int .i64 0, .int .i64 1, .bool true, .bool true,
  .int .i64 4, .string ⟨#[37]⟩, .nilFunc, .int .i64 0, .func (.func 128) #[] #[], .int .i64 0, .int .i64 0, .int .i64 1, .bool true, .bool false,
  .int .i64 5, .string ⟨#[124]⟩, .func (.func 127) #[] #[], .int .i64 0, .func (.func 128) #[] #[], .int .i64 0, .int .i64 0, .int .i64 0, .bool true, .bool false,
  .int .i64 6, .string ⟨#[60, 46]⟩, .func (.func 127) #[] #[], .int .i64 0, .func (.func 128) #[] #[], .int .i64 0, .int .i64 0, .int .i64 9223372036854775807, .bool true, .bool true,
  .int .i64 7, .string ⟨#[62, 46]⟩, .func (.func 127) #[] #[], .int .i64 0, .func (.func 128) #[] #[], .int .i64 0, .int .i64 0, .int .i64 (-9223372036854775808), .bool true, .bool true,
  .int .i64 8, .string ⟨#[60]⟩, .nilFunc, .int .i64 0, .func (.func 128) #[] #[], .int .i64 0, .int .i64 0, .int .i64 0, .bool true, .bool false,
  .int .i64 9, .string ⟨#[62]⟩, .nilFunc, .int .i64 0, .func (.func 128) #[] #[], .int .i64 0, .int .i64 0, .int .i64 0, .bool true, .bool false,
  .int .i64 10, .string ⟨#[61]⟩, .func (.func 129) #[] #[], .int .i64 64, .func (.func 128) #[] #[], .int .i64 0, .int .i64 0, .int .i64 1, .bool true, .bool true,
  .int .i64 11, .string ⟨#[126, 58]⟩, .func (.func 129) #[] #[], .int .i64 64, .func (.func 128) #[] #[], .int .i64 0, .int .i64 0, .int .i64 0, .bool true, .bool true,
  .int .i64 12, .string ⟨#[60, 58]⟩, .func (.func 127) #[] #[], .int .i64 0, .func (.func 128) #[] #[], .int .i64 0, .int .i64 0, .int .i64 1, .bool true, .bool false,
  .int .i64 13, .string ⟨#[62, 58]⟩, .func (.func 127) #[] #[], .int .i64 0, .func (.func 128) #[] #[], .int .i64 0, .int .i64 0, .int .i64 1, .bool true, .bool false,
  .int .i64 14, .string ⟨#[43, 46]⟩, .nilFunc, .int .i64 0, .func (.func 128) #[] #[], .int .i64 0, .int .i64 0, .int .i64 0, .bool true, .bool true,
  .int .i64 15, .string ⟨#[42, 46]⟩, .nilFunc, .int .i64 0, .func (.func 128) #[] #[], .int .i64 0, .int .i64 0, .int .i64 1, .bool true, .bool true,
  .int .i64 16, .string ⟨#[43, 58]⟩, .func (.func 127) #[] #[], .int .i64 0, .func (.func 128) #[] #[], .int .i64 0, .int .i64 0, .int .i64 0, .bool false, .bool true,
  .int .i64 17, .string ⟨#[42, 58]⟩, .func (.func 127) #[] #[], .int .i64 0, .func (.func 128) #[] #[], .int .i64 0, .int .i64 0, .int .i64 0, .bool false, .bool true,
  .int .i64 18, .string ⟨#[45, 46]⟩, .func (.func 127) #[] #[], .int .i64 0, .func (.func 130) #[] #[], .int .i64 64, .int .i64 64, .int .i64 0, .bool false, .bool false,
  .int .i64 19, .string ⟨#[45, 58]⟩, .func (.func 127) #[] #[], .int .i64 0, .func (.func 130) #[] #[], .int .i64 64, .int .i64 64, .int .i64 0, .bool false, .bool true,
  .int .i64 20, .string ⟨#[94]⟩, .nilFunc, .int .i64 0, .func (.func 128) #[] #[], .int .i64 0, .int .i64 0, .int .i64 1, .bool true, .bool false,
  .int .i64 21, .string ⟨#[33]⟩, .func (.func 127) #[] #[], .int .i64 0, .func (.func 128) #[] #[], .int .i64 0, .int .i64 0, .int .i64 1, .bool true, .bool false,
  .int .i64 22, .string ⟨#[35]⟩, .func (.func 131) #[] #[], .int .i64 64, .func (.func 132) #[] #[], .int .i64 1, .int .i64 64, .int .i64 0, .bool false, .bool false,
  .int .i64 23, .string ⟨#[36]⟩, .func (.func 131) #[] #[], .int .i64 64, .func (.func 133) #[] #[], .int .i64 1, .int .i64 64, .int .i64 0, .bool false, .bool false,
  .int .i64 24, .string ⟨#[44]⟩, .func (.func 131) #[] #[], .int .i64 64, .func (.func 133) #[] #[], .int .i64 64, .int .i64 64, .int .i64 0, .bool false, .bool false,
  .int .i64 25, .string ⟨#[44, 46]⟩, .func (.func 131) #[] #[], .int .i64 64, .func (.func 133) #[] #[], .int .i64 64, .int .i64 64, .int .i64 0, .bool false, .bool false,
  .int .i64 26, .string ⟨#[44, 58]⟩, .func (.func 131) #[] #[], .int .i64 64, .func (.func 133) #[] #[], .int .i64 64, .int .i64 64, .int .i64 0, .bool false, .bool false,
  .int .i64 27, .string ⟨#[123]⟩, .nilFunc, .int .i64 0, .func (.func 130) #[] #[], .int .i64 0, .int .i64 64, .int .i64 0, .bool false, .bool false,
  .int .i64 28, .string ⟨#[123, 46]⟩, .func (.func 131) #[] #[], .int .i64 64, .func (.func 133) #[] #[], .int .i64 1, .int .i64 64, .int .i64 0, .bool false, .bool false,
  .int .i64 29, .string ⟨#[125, 46]⟩, .func (.func 131) #[] #[], .int .i64 64, .func (.func 133) #[] #[], .int .i64 1, .int .i64 64, .int .i64 0, .bool false, .bool false,
  .int .i64 30, .string ⟨#[123, 58]⟩, .func (.func 131) #[] #[], .int .i64 64, .nilFunc, .int .i64 0, .int .i64 0, .int .i64 0, .bool false, .bool false,
  .int .i64 31, .string ⟨#[125, 58]⟩, .func (.func 131) #[] #[], .int .i64 64, .nilFunc, .int .i64 0, .int .i64 0, .int .i64 0, .bool false, .bool false,
  .int .i64 32, .string ⟨#[124, 46]⟩, .func (.func 131) #[] #[], .int .i64 64, .func (.func 133) #[] #[], .int .i64 1, .int .i64 64, .int .i64 0, .bool false, .bool false,
  .int .i64 33, .string ⟨#[124, 58]⟩, .func (.func 131) #[] #[], .int .i64 64, .func (.func 133) #[] #[], .int .i64 1, .int .i64 64, .int .i64 0, .bool false, .bool false,
  .int .i64 34, .string ⟨#[105, 46]⟩, .func (.func 134) #[] #[], .int .i64 1, .func (.func 130) #[] #[], .int .i64 64, .int .i64 64, .int .i64 0, .bool false, .bool false,
  .int .i64 35, .string ⟨#[101, 46]⟩, .nilFunc, .int .i64 0, .func (.func 130) #[] #[], .int .i64 64, .int .i64 64, .int .i64 0, .bool false, .bool false,
  .int .i64 36, .string ⟨#[126, 46]⟩, .func (.func 129) #[] #[], .int .i64 64, .nilFunc, .int .i64 0, .int .i64 0, .int .i64 0, .bool false, .bool false,
  .int .i64 37, .string ⟨#[47, 58]⟩, .func (.func 129) #[] #[], .int .i64 64, .func (.func 130) #[] #[], .int .i64 64, .int .i64 64, .int .i64 0, .bool false, .bool false,
  .int .i64 38, .string ⟨#[92, 58]⟩, .func (.func 129) #[] #[], .int .i64 64, .func (.func 130) #[] #[], .int .i64 64, .int .i64 64, .int .i64 0, .bool false, .bool false,
  .int .i64 39, .string ⟨#[35, 46]⟩, .func (.func 134) #[] #[], .int .i64 1, .func (.func 132) #[] #[], .int .i64 1, .int .i64 1, .int .i64 0, .bool false, .bool false,
  .int .i64 40, .string ⟨#[35, 58]⟩, .func (.func 134) #[] #[], .int .i64 64, .func (.func 132) #[] #[], .int .i64 1, .int .i64 0, .int .i64 0, .bool false, .bool false,
  .int .i64 41, .string ⟨#[91]⟩, .func (.func 131) #[] #[], .int .i64 64, .func (.func 133) #[] #[], .int .i64 64, .int .i64 64, .int .i64 0, .bool false, .bool false,
  .int .i64 42, .string ⟨#[93]⟩, .func (.func 131) #[] #[], .int .i64 64, .func (.func 133) #[] #[], .int .i64 64, .int .i64 64, .int .i64 0, .bool false, .bool false,
  .int .i64 43, .string ⟨#[73, 46]⟩, .func (.func 134) #[] #[], .int .i64 1, .nilFunc, .int .i64 0, .int .i64 0, .int .i64 0, .bool false, .bool false]
/-- Builds alone, one behind the other. -/
def bldAll (P : Program) : List Oper → Act → Option Act
  | [], a => some a
  | o :: r, a => match o.guard, o.op with
    | none, .build t parts => match P.built t (parts.map fun (i, x) => (i, a.eval x)).toList with
      | some c => bldAll P r (a.put o.dst (.agg c))
      | none => none
    | _, _ => none
theorem wpList_bldAll {P : Program} {ops : Array Oper} {Q : Exit → Act → World → Prop} {w : World} {rest : List Oper} : ∀ (l : List Oper) (a a' : Act), bldAll P l a = some a' → wpList P ops Q rest a' w → wpList P ops Q (l ++ rest) a w
  | [], a, a', h, k => by cases h; exact k
  | o :: r, a, a', h, k => by
    unfold bldAll at h
    split at h
    · rename_i t parts hg ho
      split at h
      · rename_i c hc
        exact wpList_buildTo hg t parts ho _ rfl c hc (wpList_bldAll r _ a' h k)
      · cases h
    · cases h
theorem wpList_bldN {P : Program} {ops : Array Oper} {Q : Exit → Act → World → Prop} {w : World} (n : Nat) {l : List Oper} {a a' : Act} (h : bldAll P (l.take n) a = some a') (k : wpList P ops Q (l.drop n) a' w) : wpList P ops Q l a w := by
  rw [← List.take_append_drop n l]
  exact wpList_bldAll _ a a' h k
def prAct (g : Nat) : Act := { tmps := ((Value.pointer (some ⟨g, 0, none⟩) :: prTab.map fun r => Value.agg r.toArray) ++ [Value.agg prFlat.toArray]).toArray, defers := [] }
theorem ret_row (w : World) : (results Tryz.f125 (prAct w.heap.size).tmps).run Tryz.prog (w.alloc (.cells prFlat.toArray 140)) = .ok (.agg prFlat.toArray) (w.alloc (.cells prFlat.toArray 140)) := by
  have h := run_loadVar_new (P := Tryz.prog) w 140 prFlat.toArray 43 139 (by kernel_rfl) (by kernel_rfl)
  have e : (prAct w.heap.size).tmps[0]?.getD undef = .pointer (some ⟨w.heap.size, 0, none⟩) := rfl
  simp only [results, Tryz.results125]
  simp [e, asAddr, h]

set_option maxRecDepth 100000 in
set_option maxHeartbeats 4000000 in
theorem rowsP_any (w : World) : Calls Tryz.prog 125 #[] w fun e w' => e = .returned (.agg prFlat.toArray) ∧ Below w.heap.size w w' := by
  go_enter Tryz.func125, Tryz.ntmps125
  go_upto_region 1 with fail
  rename_i K hK
  apply wp_region_list
  refine wpList_bldN 44 (a' := prAct w.heap.size) (by as_aux_lemma => kernel_rfl) ?_
  refine wpList_store_rowTo (o := _) (rest := []) rfl 140 (.tmp 0) (.tmp 44) rfl rfl w.heap.size prFlat.toArray rfl rfl 140 Tryz.zeroCells140 (heap_alloc_last w _) (by as_aux_lemma => kernel_rfl) (by as_aux_lemma => kernel_rfl) (by as_aux_lemma => kernel_rfl) ?_
  rw [World.setRow_alloc_new]
  apply wpList_nil
  refine hK _ _ ?_
  refine wp_ret ?_
  refine bodyPost_ret (v := .agg prFlat.toArray) ?_ rfl ⟨rfl, box_below w _⟩
  exact ret_row w
end Go.Proofs.YtiahilelcppfgaaGreat
