/-
  A text's bytes as a list. No code.
-/
import Derived.Test.YtjnlfecfpeedoaaOwn
namespace Go.Proofs.Ytjnlfecfpeedoaa
open Go.RowKit

theorem at_list (s : ByteArray) (k : Nat) (hk : k < s.size) : ∃ h : k < s.data.toList.length, s[k] = s.data.toList[k] := ⟨by rw [Array.length_toList]; exact hk, rfl⟩
end Go.Proofs.Ytjnlfecfpeedoaa
