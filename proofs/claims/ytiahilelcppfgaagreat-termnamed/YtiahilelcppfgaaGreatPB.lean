
/- Package prim: a row of the table; what is told of it. -/

import Derived.Test.YtiahilelcppfgaaGreatPA

import Derived.Test.YtiahilelcppfgaaGreatB1

namespace Go.Proofs.YtiahilelcppfgaaGreat

open Go.RowKit

set_option linter.unusedVariables false

def pS (k : Nat) : ByteArray := ([⟨#[43]⟩, ⟨#[45]⟩, ⟨#[42]⟩, ⟨#[37]⟩, ⟨#[124]⟩, ⟨#[60, 46]⟩, ⟨#[62, 46]⟩, ⟨#[60]⟩, ⟨#[62]⟩, ⟨#[61]⟩, ⟨#[126, 58]⟩, ⟨#[60, 58]⟩, ⟨#[62, 58]⟩, ⟨#[43, 46]⟩, ⟨#[42, 46]⟩, ⟨#[43, 58]⟩, ⟨#[42, 58]⟩, ⟨#[45, 46]⟩, ⟨#[45, 58]⟩, ⟨#[94]⟩, ⟨#[33]⟩, ⟨#[35]⟩, ⟨#[36]⟩, ⟨#[44]⟩, ⟨#[44, 46]⟩, ⟨#[44, 58]⟩, ⟨#[123]⟩, ⟨#[123, 46]⟩, ⟨#[125, 46]⟩, ⟨#[123, 58]⟩, ⟨#[125, 58]⟩, ⟨#[124, 46]⟩, ⟨#[124, 58]⟩, ⟨#[105, 46]⟩, ⟨#[101, 46]⟩, ⟨#[126, 46]⟩, ⟨#[47, 58]⟩, ⟨#[92, 58]⟩, ⟨#[35, 46]⟩, ⟨#[35, 58]⟩, ⟨#[91]⟩, ⟨#[93]⟩, ⟨#[73, 46]⟩] : List ByteArray).getD k ⟨#[]⟩
def pM (k : Nat) : Value := [.func (.func 127) #[] #[], .func (.func 127) #[] #[], .func (.func 127) #[] #[], .nilFunc, .func (.func 127) #[] #[], .func (.func 127) #[] #[], .func (.func 127) #[] #[], .nilFunc, .nilFunc, .func (.func 129) #[] #[], .func (.func 129) #[] #[], .func (.func 127) #[] #[], .func (.func 127) #[] #[], .nilFunc, .nilFunc, .func (.func 127) #[] #[], .func (.func 127) #[] #[], .func (.func 127) #[] #[], .func (.func 127) #[] #[], .nilFunc, .func (.func 127) #[] #[], .func (.func 131) #[] #[], .func (.func 131) #[] #[], .func (.func 131) #[] #[], .func (.func 131) #[] #[], .func (.func 131) #[] #[], .nilFunc, .func (.func 131) #[] #[], .func (.func 131) #[] #[], .func (.func 131) #[] #[], .func (.func 131) #[] #[], .func (.func 131) #[] #[], .func (.func 131) #[] #[], .func (.func 134) #[] #[], .nilFunc, .func (.func 129) #[] #[], .func (.func 129) #[] #[], .func (.func 129) #[] #[], .func (.func 134) #[] #[], .func (.func 134) #[] #[], .func (.func 131) #[] #[], .func (.func 131) #[] #[], .func (.func 134) #[] #[]].getD k .nilFunc
def pD (k : Nat) : Value := [.func (.func 128) #[] #[], .func (.func 128) #[] #[], .func (.func 128) #[] #[], .func (.func 128) #[] #[], .func (.func 128) #[] #[], .func (.func 128) #[] #[], .func (.func 128) #[] #[], .func (.func 128) #[] #[], .func (.func 128) #[] #[], .func (.func 128) #[] #[], .func (.func 128) #[] #[], .func (.func 128) #[] #[], .func (.func 128) #[] #[], .func (.func 128) #[] #[], .func (.func 128) #[] #[], .func (.func 128) #[] #[], .func (.func 128) #[] #[], .func (.func 130) #[] #[], .func (.func 130) #[] #[], .func (.func 128) #[] #[], .func (.func 128) #[] #[], .func (.func 132) #[] #[], .func (.func 133) #[] #[], .func (.func 133) #[] #[], .func (.func 133) #[] #[], .func (.func 133) #[] #[], .func (.func 130) #[] #[], .func (.func 133) #[] #[], .func (.func 133) #[] #[], .nilFunc, .nilFunc, .func (.func 133) #[] #[], .func (.func 133) #[] #[], .func (.func 130) #[] #[], .func (.func 130) #[] #[], .nilFunc, .func (.func 130) #[] #[], .func (.func 130) #[] #[], .func (.func 132) #[] #[], .func (.func 132) #[] #[], .func (.func 133) #[] #[], .func (.func 133) #[] #[], .nilFunc].getD k .nilFunc
def pR (k : Nat) : Int := [0, 0, 0, 0, 0, 0, 0, 0, 0, 64, 64, 0, 0, 0, 0, 0, 0, 0, 0, 0, 0, 64, 64, 64, 64, 64, 0, 64, 64, 64, 64, 64, 64, 1, 0, 64, 64, 64, 1, 64, 64, 64, 1].getD k 0
def pL (k : Nat) : Int := [0, 0, 0, 0, 0, 0, 0, 0, 0, 0, 0, 0, 0, 0, 0, 0, 0, 64, 64, 0, 0, 1, 1, 64, 64, 64, 0, 1, 1, 0, 0, 1, 1, 64, 64, 0, 64, 64, 1, 1, 64, 64, 0].getD k 0
def pG (k : Nat) : Int := [0, 0, 0, 0, 0, 0, 0, 0, 0, 0, 0, 0, 0, 0, 0, 0, 0, 64, 64, 0, 0, 64, 64, 64, 64, 64, 64, 64, 64, 0, 0, 64, 64, 64, 64, 0, 64, 64, 1, 0, 64, 64, 0].getD k 0
def pI (k : Nat) : Int := [0, 0, 1, 1, 0, 9223372036854775807, -9223372036854775808, 0, 0, 1, 0, 1, 1, 0, 1, 0, 0, 0, 0, 1, 1, 0, 0, 0, 0, 0, 0, 0, 0, 0, 0, 0, 0, 0, 0, 0, 0, 0, 0, 0, 0, 0, 0].getD k 0
def pH (k : Nat) : Bool := [true, true, true, true, true, true, true, true, true, true, true, true, true, true, true, false, false, false, false, true, true, false, false, false, false, false, false, false, false, false, false, false, false, false, false, false, false, false, false, false, false, false, false].getD k false
def pC (k : Nat) : Bool := [true, false, true, false, false, true, true, false, false, true, true, false, false, true, true, true, true, false, true, false, false, false, false, false, false, false, false, false, false, false, false, false, false, false, false, false, false, false, false, false, false, false, false].getD k false
def pMb (k : Nat) : Bool := [true, true, true, false, true, true, true, false, false, true, true, true, true, false, false, true, true, true, true, false, true, true, true, true, true, true, false, true, true, true, true, true, true, true, false, true, true, true, true, true, true, true, true].getD k false
def pDb (k : Nat) : Bool := [true, true, true, true, true, true, true, true, true, true, true, true, true, true, true, true, true, true, true, true, true, true, true, true, true, true, true, true, true, false, false, true, true, true, true, false, true, true, true, true, true, true, false].getD k false
theorem prKinds (k : Nat) (hk : k < 43) : (pM k = .nilFunc ∧ pMb k = false ∧ pDb k = true ∧ ∃ G, pD k = .func (.func G) #[] #[]) ∨ (pD k = .nilFunc ∧ pDb k = false ∧ pMb k = true ∧ ∃ F, pM k = .func (.func F) #[] #[]) ∨ (pMb k = true ∧ pDb k = true ∧ ∃ F G, pM k = .func (.func F) #[] #[] ∧ pD k = .func (.func G) #[] #[]) := by
  match k, hk with
  | 0, _ => exact .inr (.inr ⟨rfl, rfl, _, _, rfl, rfl⟩)
  | 1, _ => exact .inr (.inr ⟨rfl, rfl, _, _, rfl, rfl⟩)
  | 2, _ => exact .inr (.inr ⟨rfl, rfl, _, _, rfl, rfl⟩)
  | 3, _ => exact .inl ⟨rfl, rfl, rfl, _, rfl⟩
  | 4, _ => exact .inr (.inr ⟨rfl, rfl, _, _, rfl, rfl⟩)
  | 5, _ => exact .inr (.inr ⟨rfl, rfl, _, _, rfl, rfl⟩)
  | 6, _ => exact .inr (.inr ⟨rfl, rfl, _, _, rfl, rfl⟩)
  | 7, _ => exact .inl ⟨rfl, rfl, rfl, _, rfl⟩
  | 8, _ => exact .inl ⟨rfl, rfl, rfl, _, rfl⟩
  | 9, _ => exact .inr (.inr ⟨rfl, rfl, _, _, rfl, rfl⟩)
  | 10, _ => exact .inr (.inr ⟨rfl, rfl, _, _, rfl, rfl⟩)
  | 11, _ => exact .inr (.inr ⟨rfl, rfl, _, _, rfl, rfl⟩)
  | 12, _ => exact .inr (.inr ⟨rfl, rfl, _, _, rfl, rfl⟩)
  | 13, _ => exact .inl ⟨rfl, rfl, rfl, _, rfl⟩
  | 14, _ => exact .inl ⟨rfl, rfl, rfl, _, rfl⟩
  | 15, _ => exact .inr (.inr ⟨rfl, rfl, _, _, rfl, rfl⟩)
  | 16, _ => exact .inr (.inr ⟨rfl, rfl, _, _, rfl, rfl⟩)
  | 17, _ => exact .inr (.inr ⟨rfl, rfl, _, _, rfl, rfl⟩)
  | 18, _ => exact .inr (.inr ⟨rfl, rfl, _, _, rfl, rfl⟩)
  | 19, _ => exact .inl ⟨rfl, rfl, rfl, _, rfl⟩
  | 20, _ => exact .inr (.inr ⟨rfl, rfl, _, _, rfl, rfl⟩)
  | 21, _ => exact .inr (.inr ⟨rfl, rfl, _, _, rfl, rfl⟩)
  | 22, _ => exact .inr (.inr ⟨rfl, rfl, _, _, rfl, rfl⟩)
  | 23, _ => exact .inr (.inr ⟨rfl, rfl, _, _, rfl, rfl⟩)
  | 24, _ => exact .inr (.inr ⟨rfl, rfl, _, _, rfl, rfl⟩)
  | 25, _ => exact .inr (.inr ⟨rfl, rfl, _, _, rfl, rfl⟩)
  | 26, _ => exact .inl ⟨rfl, rfl, rfl, _, rfl⟩
  | 27, _ => exact .inr (.inr ⟨rfl, rfl, _, _, rfl, rfl⟩)
  | 28, _ => exact .inr (.inr ⟨rfl, rfl, _, _, rfl, rfl⟩)
  | 29, _ => exact .inr (.inl ⟨rfl, rfl, rfl, _, rfl⟩)
  | 30, _ => exact .inr (.inl ⟨rfl, rfl, rfl, _, rfl⟩)
  | 31, _ => exact .inr (.inr ⟨rfl, rfl, _, _, rfl, rfl⟩)
  | 32, _ => exact .inr (.inr ⟨rfl, rfl, _, _, rfl, rfl⟩)
  | 33, _ => exact .inr (.inr ⟨rfl, rfl, _, _, rfl, rfl⟩)
  | 34, _ => exact .inl ⟨rfl, rfl, rfl, _, rfl⟩
  | 35, _ => exact .inr (.inl ⟨rfl, rfl, rfl, _, rfl⟩)
  | 36, _ => exact .inr (.inr ⟨rfl, rfl, _, _, rfl, rfl⟩)
  | 37, _ => exact .inr (.inr ⟨rfl, rfl, _, _, rfl, rfl⟩)
  | 38, _ => exact .inr (.inr ⟨rfl, rfl, _, _, rfl, rfl⟩)
  | 39, _ => exact .inr (.inr ⟨rfl, rfl, _, _, rfl, rfl⟩)
  | 40, _ => exact .inr (.inr ⟨rfl, rfl, _, _, rfl, rfl⟩)
  | 41, _ => exact .inr (.inr ⟨rfl, rfl, _, _, rfl, rfl⟩)
  | 42, _ => exact .inr (.inl ⟨rfl, rfl, rfl, _, rfl⟩)
  | _ + 43, h => exact absurd h (by omega)

end Go.Proofs.YtiahilelcppfgaaGreat
