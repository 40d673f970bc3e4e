import Derived.Test.YtedblhcehlbbmaaGreatDoorJWalkRefTexts
import Derived.Test.YtedblhcehlbbmaaGreatDoorEqAcc
import Derived.Test.YtedblhcehlbbmaaGreatDoorWalkShelfCalm
import Derived.Test.YtedblhcehlbbmaaGreatDoorWalkShelfLieA
import Derived.Test.YtedblhcehlbbmaaGreatDoorWalkShelfLieB
import Derived.Test.YtedblhcehlbbmaaGreatDoorWalkShelfLieC
import Derived.WalkKit
import Derived.WalkSpells
import Derived.WalkLawsBesides
import Derived.Deep.RegionHeld3
import Derived.Deep.QuietTactic
import Derived.BigQuiet
import Derived.Deep.Cut
import Derived.Deep.CutRange
import Derived.Deep.CutBlock
/-
  THE SCRIPT's SHELF: shelf.lie.
-/
namespace Go.Proofs.YtedblhcehlbbmaaGreatDoor
set_option maxRecDepth 20000
open Go.RowKit


theorem lieLaw_any (w : World) (S R : Nat → Prop) (L : Nat) (bd rd : Addr) (es : List Ev) (q : Bool) (a0 : Acc) (x0 y0 : ByteArray) (a : Acc)
    (hB : ShB w L (.pointer (some bd)) (.pointer (some rd)) q a0 x0 y0) (hb : Rep w S (.pointer (some bd)) es) (hr : RRep w R (.pointer (some rd)) es) (hsl : ¬ S L) (hrl : ¬ R L) (hq : AskOk es q a0 x0 y0) (h64 : Acc64 a) (w0 : World) (ht0 : TabOk w0) (hb0 : Below w0.heap.size w0 w) (hL0 : w0.heap.size ≤ L) :
    Calls Tryz.prog 29 #[.pointer (some ⟨L, 0, none⟩), accV a] w fun r w' => r = .returned (.bool true) ∧ (∃ q' a' x' y', ShB w' L (.pointer (some bd)) (.pointer (some rd)) q' a' x' y' ∧ AskOk es q' a' x' y') ∧ Besides (fun k => k = L) w w' := by
  cases hc : calmB es a
  · cases q
    · exact lieLaw_lieA w S R L bd rd es a0 x0 y0 a hc hB hb hr hsl hrl hq h64 w0 ht0 hb0 hL0
    · cases hae : accEq a0 a
      · exact lieLaw_lieB w S R L bd rd es a0 x0 y0 a hc hae hB hb hr hsl hrl hq h64 w0 ht0 hb0 hL0
      · exact lieLaw_lieC w S R L bd rd es a0 x0 y0 a hc hae hB hb hr hsl hrl hq h64 w0 ht0 hb0 hL0
  · exact lieLaw_calm w S R L bd rd es q a0 x0 y0 a hc hB hb hr hq h64 w0 ht0 hb0 hL0

end Go.Proofs.YtedblhcehlbbmaaGreatDoor
