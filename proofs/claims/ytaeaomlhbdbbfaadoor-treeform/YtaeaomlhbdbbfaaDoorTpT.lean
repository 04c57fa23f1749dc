/- Layer 15, the landed program keeps the contracts. -/
import Derived.Test.YtaeaomlhbdbbfaaDoorTpJ
import Derived.Test.YtaeaomlhbdbbfaaDoorTpQ
namespace Go.Proofs.YtaeaomlhbdbbfaaDoor
open Go.RowKit

/-- Go's own variables and the program's stand as they were laid. -/
def G15 (w : World) : Prop := Gr w ∧ GrF w
theorem trc15 : TrC G15 Tr15 where
  keep := fun w w' h k => ⟨h.1.keep k, h.2.keep k⟩
  stay := by
    rintro v ps F w w' X ⟨g, A, c, rfl, h, hF⟩ k hx
    exact ⟨g, A, c, rfl, h.only k (hx g ((hF g).2 (.inl rfl))) fun j hj => hx j ((hF j).2 (.inr hj)), hF⟩
  low := by
    rintro v ps F w ⟨g, A, c, rfl, h, hF⟩ q hq
    rcases (hF q).1 hq with rfl | hq
    · exact h.hold.lt
    · exact rs_lies h.row q hq
  new := fun w _ => pnew15 w
  put := fun n w hg hT hf hn => pput15 n w hg.1 hT hf hn
  ensure := fun n w hg hT hf hn => pensure15 n w hg.1 hT hf hn
  remove := fun n w _ hT hf hn => premove15 n w hT hf hn
  clear := fun n w _ hT hf hn => pclear15 n w hT hf hn
  get := fun p w _ hT hf hp => pget15 p w hT hf hp
  list := fun p w _ hT hf hp => plist15 p w hT hf hp
  all := fun w _ hT _ hl => pall15 w hT hl
  len := fun w _ hT _ => plen15 w hT
  bytes := fun w _ hT hf => pbytes15 w hT hf
  collision := fun w hg hT hf => pcoll15 w hg.2 hT hf
  check := fun A n c B ps w hg h hn hc hb hin => pcheck15 A n c B ps w hg.1 hg.2 h hn hc hb hin
  nput := fun n w _ => nput15 n w
  nensure := fun p w _ => nensure15 p w
  nremove := fun p w _ => nremove15 p w
  nclear := fun p w _ => nclear15 p w
  nget := fun p w _ => nget15 p w
  nlist := fun p w _ => nlist15 p w
  nall := fun w _ => nall15 w
  nlen := fun w _ => nlen15 w
  nbytes := fun w _ => nbytes15 w
  ncoll := fun w _ => ncoll15 w
theorem trm15 : TrM G15 Tr15 where
  may := fun n w hg hn => pmayT n w hg.1 (by have := hn.2.1; omega)
  of := fun A n c B ps w hg h hn hc hb hin => pof15 A n c B ps w hg.1 hg.2 h hn hc hb hin
end Go.Proofs.YtaeaomlhbdbbfaaDoor
