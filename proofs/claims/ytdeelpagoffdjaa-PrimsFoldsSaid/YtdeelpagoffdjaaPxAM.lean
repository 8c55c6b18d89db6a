/- The reference's Facts: the table of names. -/
import Derived.Test.YtdeelpagoffdjaaPrFs
import Derived.Test.YtdeelpagoffdjaaPrPs

namespace Go.Proofs.Ytdeelpagoffdjaa.Dat
open Go.RowKit
set_option linter.unusedVariables false

theorem Try.infoFr : (Try.prog.info? 27).map (·.size) = some 5 := by kernel_rfl
def namesA : Array Value := #[.string ⟨#[43]⟩, .string ⟨#[45]⟩, .string ⟨#[42]⟩, .string ⟨#[47]⟩, .string ⟨#[61]⟩, .string ⟨#[60]⟩, .string ⟨#[101, 113, 63]⟩, .string ⟨#[101, 113, 117, 97, 108, 63]⟩, .string ⟨#[110, 111, 116]⟩, .string ⟨#[110, 117, 108, 108, 63]⟩, .string ⟨#[112, 97, 105, 114, 63]⟩, .string ⟨#[110, 117, 109, 98, 101, 114, 63]⟩, .string ⟨#[115, 121, 109, 98, 111, 108, 63]⟩, .string ⟨#[98, 111, 111, 108, 101, 97, 110, 63]⟩, .string ⟨#[115, 116, 114, 105, 110, 103, 63]⟩, .string ⟨#[118, 101, 99, 116, 111, 114, 63]⟩, .string ⟨#[112, 114, 111, 99, 101, 100, 117, 114, 101, 63]⟩, .string ⟨#[99, 111, 110, 115]⟩, .string ⟨#[99, 97, 114]⟩, .string ⟨#[99, 100, 114]⟩, .string ⟨#[108, 105, 115, 116]⟩, .string ⟨#[118, 101, 99, 116, 111, 114]⟩, .string ⟨#[118, 101, 99, 116, 111, 114, 45, 114, 101, 102]⟩, .string ⟨#[118, 101, 99, 116, 111, 114, 45, 108, 101, 110, 103, 116, 104]⟩, .string ⟨#[108, 101, 110, 103, 116, 104]⟩, .string ⟨#[118, 111, 105, 100]⟩, .string ⟨#[100, 105, 115, 112, 108, 97, 121]⟩, .string ⟨#[110, 101, 119, 108, 105, 110, 101]⟩, .string ⟨#[114, 97, 105, 115, 101]⟩, .string ⟨#[99, 97, 108, 108, 47, 99, 99]⟩, .string ⟨#[97, 112, 112, 108, 121]⟩]
end Go.Proofs.Ytdeelpagoffdjaa.Dat
