/-
  vector's functions answer as is asked of each.
-/
import Derived.Test.YtjdiopoikppifaaDevMeet
namespace Go.Proofs.Ytjdiopoikppifaa
open Go.RowKit

theorem gives_ans {l : List (Int × Int)} {f : Nat} {args : Array Value} {w : World} (h : Calls Try.prog f args w (Gives l w)) : Calls Try.prog f args w (Ans l w) := h.mono fun _ _ hg => hg.ans

theorem vecSpec : VecSpec where
  count A c l n w h := count_any A c l n w h
  has A c l k n w h := has_any A c l k n w h
  formed A c l w h := formed_any A c l w h
  greatest A c l w h := greatest_any A c l w h
  covers A B c d l r w h1 h2 := covers_any A B c d l r w h1 h2
  compare A B c d l r w h1 h2 := compare_any A B c d l r w h1 h2
  join A c ls w h1 h2 _ h4 := gives_ans (join_any A c ls w (by unfold maxLen at h2; omega) h4)
  meet A c ls w h1 h2 _ h4 := gives_ans (meet_any A c ls w h1 h2 h4)
  with_ A c l k n w h := gives_ans (with_any A c l k n w h)

end Go.Proofs.Ytjdiopoikppifaa
