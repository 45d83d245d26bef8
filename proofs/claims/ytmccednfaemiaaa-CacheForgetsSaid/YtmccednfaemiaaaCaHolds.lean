/-
  The landed cache's functions answer as they must: all contracts together.
-/
import Derived.Test.YtmccednfaemiaaaCdD
namespace Go.Proofs.Ytmccednfaemiaaa
open Go.RowKit

theorem cacheSpec : CacheSpec where
  formed := cdformed_any
  used := cdused_any
  get := cdget_any
  put := cdput_any
  forget := fun A c L o w h hf => (cdforget_any A c L o w h hf).mono (by
    rintro e w' ⟨v, M, rfl, hM, hO, hb⟩
    obtain ⟨A', c', rfl, ho⟩ := hO.form
    exact ⟨A', c', M, rfl, hM, ho, hb⟩)
end Go.Proofs.Ytmccednfaemiaaa
