/-
  A Go STRING AS A LIST OF BYTES. Plain definitions and lemmas.
-/
import Derived.Test.YtccecnohgakllaaDoorWordPure
import Derived.Lib.Strings
namespace Go.Proofs.YtccecnohgakllaaDoor
open Go.RowKit
set_option linter.unusedSimpArgs false

/-- A text's bytes as a Go string. -/
def str (l : List UInt8) : ByteArray := ⟨l.toArray⟩
theorem str_list (s : ByteArray) : str s.data.toList = s := by simp [str]
@[simp] theorem str_toList (l : List UInt8) : (str l).data.toList = l := by simp [str]
@[simp] theorem str_size (l : List UInt8) : (str l).size = l.length := by simp [str, ByteArray.size]
theorem size_list (s : ByteArray) : s.data.toList.length = s.size := by rw [Array.length_toList]; rfl
theorem str_inj {l m : List UInt8} (h : str l = str m) : l = m := by
  have := congrArg (fun s : ByteArray => s.data.toList) h
  simpa using this

theorem take_str (l : List UInt8) (n : Nat) : (str l).extract 0 n = str (l.take n) := by
  apply ByteArray.ext; simp [str]
theorem drop_str (l : List UInt8) (n m : Nat) (h : m = l.length) : (str l).extract n m = str (l.drop n) := by
  subst h; apply ByteArray.ext; simp [str]; exact List.take_of_length_le (by simp)
theorem append_str (l m : List UInt8) : str l ++ str m = str (l ++ m) := by
  apply ByteArray.ext; simp [str]

theorem byte_at (s : ByteArray) (k : Nat) (h : k < s.size) : s[k] = s.data.toList.getD k 0 := by
  have h' : k < s.data.size := h
  have e : s.data.toList[k]? = some s.data[k] := by simp
  rw [List.getD_eq_getElem?_getD, e]; rfl

end Go.Proofs.YtccecnohgakllaaDoor
