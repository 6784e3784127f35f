/-
  A ROW THAT IS APPENDED TO (door seats: flatV lies in RunMath, OwnS in RunEx; to be laid as OwnVals).
-/
import Derived.Test.YtafmlbojmmdcdaaDoorRunEx
import Derived.Deep.AppendLies
import Derived.Deep.RegionHeld3
import Derived.Deep.DeepCutAuto
namespace Go.Proofs.YtafmlbojmmdcdaaDoor
open Go Go.RowKit
theorem OwnS.ownRow {w : World} {B g cap : Nat} {bs : List V2} (h : OwnS w B g cap bs) : OwnRow w g bs.length bs := by
  have hr := h.row
  have hlt := h.lt
  rcases h.2 with ⟨h1, _⟩ | ⟨g', cap', cur, h1, h2, h3, h4, h5, h6, h7⟩
  · simp at h1
  · simp only [Value.slice.injEq, Option.some.injEq, Addr.mk.injEq, and_true, true_and] at h1
    obtain ⟨rfl, rfl⟩ := h1
    refine ⟨hlt.1, fun o => ?_, fun o ho => ?_, hr⟩
    · simp [World.frozen?, h3]
    · refine ⟨cur[o]'(by omega), ?_⟩
      simp only [World.cell?, h3]
      simp
end Go.Proofs.YtafmlbojmmdcdaaDoor
