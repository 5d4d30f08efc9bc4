
/- Lists of a call's own, of either kind of number; copies of lists by package slices. -/

import Derived.Test.YtdeglhifemmknaaSplit2

import Derived.Test.YtdeglhifemmknaaBase

import Derived.Test.YtdeglhifemmknaaSize

import Derived.Test.YtdeglhifemmknaaAgree

import Derived.Laws.AppendOwnNone

namespace Go.Proofs.Ytdeglhifemmknaa

open Go.RowKit

set_option linter.unusedVariables false

/-- Slices of type s hold numbers of type e, each one cell. -/
structure Ty (s e : TypeId) : Prop where
  und : Try.prog.underlying s = some (.slice e)
  info : (Try.prog.info? e).map (fun i => (i.zero, i.size, i.bytes)) = some (some (.int .i64 0), 1, 8)
theorem tyI : Ty 28 3 := ⟨by kernel_rfl, by kernel_rfl⟩
end Go.Proofs.Ytdeglhifemmknaa
