/- Layer 8, the program: the codes of blocks of kind 1, made once. -/
import Derived.Test.YtjlkjebmilfgoaaGreatIB
import Derived.Test.YtjlkjebmilfgoaaGreatKPl
namespace Go.Proofs.YtjlkjebmilfgoaaGreat
open Go.RowKit
theorem lens_fixA : Lens fixA := ⟨by unfold Low; decide +kernel, by decide +kernel⟩
theorem lens_fixB : Lens fixB := ⟨by unfold Low; decide +kernel, by decide +kernel⟩


def FixPost (w : World) (v : Value) (e : Ending) (w' : World) : Prop := e = .returned v ∧ Only (fun _ => False) w w'
end Go.Proofs.YtjlkjebmilfgoaaGreat
