/-
  span's functions answer as is asked of each.
-/
import Derived.Test.YtnnmcnbpnfegpaaSpDevCovers
namespace Go.Proofs.Ytnnmcnbpnfegpaa
open Go.RowKit

theorem givesS_ans {l : List (Int × Int)} {f : Nat} {args : Array Value} {w : World} (h : Calls Try.prog f args w (GivesS l w)) : Calls Try.prog f args w (Ans l w) := h.mono fun _ _ hg => hg.ans

theorem spanSpec : SpanSpec where
  formed A c l w h := formed_any A c l w h
  has A c l o w h := has_any A c l o w h
  size A c l w h := size_any A c l w h
  of_ A c xs w h := givesS_ans (of_any A c xs w h.len h.2.2.2)
  join A c ls w h1 h2 _ h4 h5 := givesS_ans (join_any A c ls w (by unfold maxLen at h2; omega) h4 h5)
  meet A B c d l r w h1 h2 := givesS_ans (meet_any A B c d l r w h1 h2)
  less A B c d l r w h1 h2 := givesS_ans (less_any A B c d l r w h1 h2)
  covers A B c d l r w h1 h2 := covers_any A B c d l r w h1 h2
  touch A B c d l r w h1 h2 := touch_any A B c d l r w h1 h2

end Go.Proofs.Ytnnmcnbpnfegpaa
