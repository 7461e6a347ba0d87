/-
  Layer 1 (lex): small facts on lists and strings that the walks want.
-/
import Derived.Test.YtdocbgfpnaiijaaLexMath
import Derived.Lib.Bytealg
namespace Go.Proofs.Ytdocbgfpnaiijaa.Lx

theorem beqI (c d : UInt8) : ((c.toNat : Int) == (d.toNat : Int)) = (c == d) := by
  rw [eq_nat, Bool.eq_iff_iff]; simp

/-- how many bytes ahead are not c -/
def upTo (c : UInt8) (l : List UInt8) : Nat := (l.takeWhile (fun x => !(x == c))).length

theorem upTo_le (c : UInt8) (l : List UInt8) : upTo c l ≤ l.length := (List.takeWhile_sublist _).length_le
theorem upTo_hit {c x : UInt8} {l : List UInt8} (h : (x == c) = true) : upTo c (x :: l) = 0 := by
  unfold upTo; rw [List.takeWhile_cons_of_neg (by simp [h])]; rfl
theorem upTo_miss {c x : UInt8} {l : List UInt8} (h : (x == c) = false) : upTo c (x :: l) = 1 + upTo c l := by
  unfold upTo; rw [List.takeWhile_cons_of_pos (by simp [h]), List.length_cons]; omega

theorem indexByte_upTo (c : UInt8) : ∀ l : List UInt8, Lib.indexByte l c = if upTo c l < l.length then (upTo c l : Int) else -1
  | [] => rfl
  | x :: l => by
    have ih := indexByte_upTo c l
    unfold Lib.indexByte
    cases h : (x == c)
    · rw [upTo_miss h, List.length_cons]
      simp only [Bool.false_eq_true, if_false]
      by_cases hl : upTo c l < l.length
      · have e : Lib.indexByte l c = upTo c l := by rw [ih, if_pos hl]
        have : ((upTo c l : Int) == -1) = false := beq_eq_false_iff_ne.2 (by omega)
        rw [e, this]; simp; omega
      · have e : Lib.indexByte l c = -1 := by rw [ih, if_neg hl]
        rw [e]; simp; omega
    · rw [upTo_hit h]; simp

theorem indexByte_neg {c : UInt8} {l : List UInt8} (h : ¬ upTo c l < l.length) : Lib.indexByte l c = -1 := by rw [indexByte_upTo, if_neg h]
theorem indexByte_pos {c : UInt8} {l : List UInt8} (h : upTo c l < l.length) : Lib.indexByte l c = upTo c l := by rw [indexByte_upTo, if_pos h]

theorem gap_true : ∀ l : List UInt8, gap true l = upTo 10 l + gap false (l.drop (upTo 10 l))
  | [] => by simp [gap, upTo]
  | c :: r => by
    have ih := gap_true r
    cases h : (c == 10)
    · rw [upTo_miss h, Nat.add_comm 1, List.drop_succ_cons, gap, h]
      simp only [Bool.false_eq_true, if_false]
      omega
    · rw [upTo_hit h, List.drop_zero, gap, gap, h]
      simp

theorem gap_blank {c : UInt8} {r : List UInt8} (h : (c == 32 || c == 9 || c == 10) = true) : gap false (c :: r) = 1 + gap false r := by rw [gap, if_pos h]
theorem gap_note {c : UInt8} {r : List UInt8} (h : (c == 35) = true) : gap false (c :: r) = upTo 10 (c :: r) + gap false ((c :: r).drop (upTo 10 (c :: r))) := by
  have e : c = 35 := by simpa using h
  subst e
  rw [gap, if_neg (by decide), if_pos (by decide), gap_true, upTo_miss (by decide), Nat.add_comm 1 (upTo 10 r), List.drop_succ_cons]
  omega
theorem gap_else {c : UInt8} {r : List UInt8} (h : (c == 32 || c == 9 || c == 10) = false) (h2 : (c == 35) = false) : gap false (c :: r) = 0 := by
  rw [gap, if_neg (by simp [h]), if_neg (by simp [h2])]

theorem extract_list (s : ByteArray) (a b : Nat) : (s.extract a b).data.toList = (s.data.toList.drop a).take (b - a) := by
  rw [ByteArray.data_extract, Array.toList_extract, List.extract_eq_take_drop]

theorem bytes_ext {s : ByteArray} {l : List UInt8} (h : s.data.toList = l) : s = ⟨l.toArray⟩ := by
  apply ByteArray.ext
  apply Array.toList_inj.1
  simpa using h

end Go.Proofs.Ytdocbgfpnaiijaa.Lx
