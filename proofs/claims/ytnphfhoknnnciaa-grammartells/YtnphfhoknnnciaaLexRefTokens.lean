/-
  The document's own Tokens comes to the same: of every text of at most 2000 bytes.
-/
import Derived.Test.YtnphfhoknnnciaaLexRefInv
import Derived.Deep.RegionLaw
namespace Go.Proofs.Ytnphfhoknnnciaa
open Go.RowKit

/-- what the document's Tokens comes to -/
def RefPost (s : ByteArray) (w : World) (e : Ending) (w' : World) : Prop :=
  Below w.heap.size w w' ∧ ∃ ao n c, e = .returned (.agg #[.slice ao n c, .int .i64 (tokensG s.data.toList).1, .int .i64 (tokensG s.data.toList).2.1]) ∧
    w'.ownsRow w.heap.size 69 3 (.slice ao n c) (tokensG s.data.toList).2.2.length (toksCells (tokensG s.data.toList).2.2)

set_option maxRecDepth 100000 in
set_option maxHeartbeats 400000 in
theorem refTokens_large (s : ByteArray) (w : World) (hs : s.size ≤ maxLen) (h : 2000 < s.size) : Calls Try.prog 29 #[.string s] w (RefPost s w) := by
  unfold maxLen at hs
  have HG : Hid (tokensG s.data.toList = (14, 0, [])) := by show _ = _; rw [tokensG, if_pos (by simpa using h)]
  go_enter Try.func29, Try.ntmps29
  go_wp2_with fail
  refine bodyPost_ret (v := .agg #[.slice none 0 0, .int .i64 14, .int .i64 0]) (by simp [results, Try.results29, go_sem]) rfl ⟨(Below.refl _ w).alloc (Nat.le_refl _) _, none, 0, 0, ?_, ?_⟩
  · rw [HG.out]
  · rw [HG.out]; exact World.ownsRow_nil _ _ _ _

set_option maxRecDepth 100000 in
set_option maxHeartbeats 4000000 in
theorem refTokens_small (s : ByteArray) (w : World) (h2 : s.size ≤ 2000) : Calls Try.prog 29 #[.string s] w (RefPost s w) := by
  have hs' : s.size ≤ maxLen := by unfold maxLen; omega
  obtain ⟨i0, hi, hz0, hz1, hz2⟩ := info_parts Try.infoTok
  have HI : Hid (Try.prog.info? 69 = some i0 ∧ i0.zero = some (.agg #[.int .i64 0, .string ⟨#[]⟩, .int .i64 0]) ∧ i0.size = 3 ∧ i0.bytes = 32) := ⟨hi, hz0, hz1, hz2⟩
  clear hi hz0 hz1 hz2
  have HL : Hid (s.data.toList.length = s.size) := by show _ = _; simp
  have GO : Hid (∀ ts, Lx.tokens s.data.toList = .ok ts → tokensG s.data.toList = (0, 0, ts)) := fun ts h => by rw [tokensG, if_neg (by rw [HL.out]; omega), h]
  have GE : Hid (∀ q, Lx.tokens s.data.toList = .error q → tokensG s.data.toList = (11, (q : Int), [])) := fun q h => by rw [tokensG, if_neg (by rw [HL.out]; omega), h]
  have HT : Hid (Lx.tokens s.data.toList = Lx.scanF (s.size + 1) (s.data.toList.drop 0) 0) := by show _ = _; rw [List.drop_zero, Lx.tokens_scan, HL.out]
  go_enter Try.func29, Try.ntmps29
  go_wp2_with fail
  go_loopw [4] (fun i wr => ∃ (k f : Nat) (acc : List Lx.Tok) (ao : Option Addr) (n c : Nat), k ≤ s.size ∧ i = .int .i64 k ∧ s.size < k + f ∧ acc.length ≤ k ∧
      Hid (Lx.tokens s.data.toList = Lx.pre acc (Lx.scanF f (s.data.toList.drop k) k)) ∧ RefInv w wr (.slice ao n c) acc) (fun i _ => s.size - (intOf i).toNat)
  case atStart => exact ⟨0, s.size + 1, [], none, 0, 0, Nat.zero_le _, rfl, by omega, Nat.zero_le _, by show _ = _; rw [Lx.pre_nil]; exact HT.out, RefInv.start w⟩
  case round =>
    obtain ⟨k, f, acc, ao, n, c, hk, rfl, hf, ha, hE, hinv⟩ := hrel
    clear HT
    obtain ⟨r0, r1, r2, rz0, rz1, rz2⟩ := cells_three hinv.rb
    obtain ⟨g0, g1, g2, gz0, gz1, gz2⟩ := cells_three hinv.gb
    have hsz := hinv.size
    by_cases hlt : k < s.size
    · obtain ⟨f, rfl⟩ : ∃ q, f = q + 1 := ⟨f - 1, by omega⟩
      have HS : Hid (s.data.toList.drop k = s[k] :: s.data.toList.drop (k + 1)) := Lx.drop_cons s k hlt
      have P := hE.out
      rw [HS.out] at P
      have HP : Hid (Lx.tokens s.data.toList = Lx.pre acc (Lx.scanF (f + 1) (s[k] :: s.data.toList.drop (k + 1)) k)) := P
      clear P hE
      have b32 : ((s[k].toNat : Int) == 32) = (s[k] == 32) := Lx.beqI s[k] 32
      have b9 : ((s[k].toNat : Int) == 9) = (s[k] == 9) := Lx.beqI s[k] 9
      have b10 : ((s[k].toNat : Int) == 10) = (s[k] == 10) := Lx.beqI s[k] 10
      have b35 : ((s[k].toNat : Int) == 35) = (s[k] == 35) := Lx.beqI s[k] 35
      have b61 : ((s[k].toNat : Int) == 61) = (s[k] == 61) := Lx.beqI s[k] 61
      have b124 : ((s[k].toNat : Int) == 124) = (s[k] == 124) := Lx.beqI s[k] 124
      have b59 : ((s[k].toNat : Int) == 59) = (s[k] == 59) := Lx.beqI s[k] 59
      have b39 : ((s[k].toNat : Int) == 39) = (s[k] == 39) := Lx.beqI s[k] 39
      cases hbl : (s[k] == 32 || s[k] == 9 || s[k] == 10)
      · have hbl' := hbl
        simp only [Bool.or_eq_false_iff] at hbl'
        obtain ⟨⟨y32, y9⟩, y10⟩ := hbl'
        rw [y32] at b32; rw [y9] at b9; rw [y10] at b10
        clear y32 y9
        cases z35 : (s[k] == 35)
        · rw [z35] at b35
          clear y10
          cases z61 : (s[k] == 61)
          · rw [z61] at b61
            cases z124 : (s[k] == 124)
            · rw [z124] at b124
              cases z59 : (s[k] == 59)
              · rw [z59] at b59
                cases zl : Lx.lt s[k]
                · cases z39 : (s[k] == 39)
                  · rw [z39] at b39
                    have P : Hid (Lx.tokens s.data.toList = .error k) := by
                      show _ = _
                      rw [HP.out, Lx.scan_none hbl z35 (Lx.tokenAt_other z61 z124 z59 z39 zl)]; rfl
                    have HG2 : Hid (tokensG s.data.toList = (11, (k : Int), [])) := GE.out k P.out
                    clear HP HS GO GE HI hbl z35 z61 z124 z59 z39 P
                    go_wp2_with (go_at_call 59; refine (refLetter_any _ _).mono ?_; rintro e wr ⟨rfl, rfl⟩)
                    refine bodyPost_ret (v := .agg #[.slice none 0 0, .int .i64 11, .int .i64 k]) (by simp [results, Try.results29, go_sem, r0, r1, r2]) rfl ⟨?_, none, 0, 0, ?_, ?_⟩
                    · exact ((hinv.below.setCell (by exact Nat.le_refl _) _).setCell (by exact Nat.le_refl _) _).setCell (by exact Nat.le_refl _) _
                    · rw [HG2.out]
                    · rw [HG2.out]; exact World.ownsRow_nil _ _ _ _
                  · rw [z39] at b39
                    have HC : Hid (s[k] = 39) := by show _ = _; simpa using z39
                    obtain ⟨L, HLn⟩ : ∃ L, Hid (Lx.upTo 39 (s.data.toList.drop (k + 1)) = L) := ⟨_, rfl⟩
                    have hL2 : k + 1 + L ≤ s.size := by have := Lx.upTo_le 39 (s.data.toList.drop (k + 1)); rw [HLn.out, List.length_drop, HL.out] at this; omega
                    have HTW : Hid ((s.data.toList.drop (k + 1)).takeWhile (fun x => !(x == 39)) = (s.data.toList.drop (k + 1)).take L) := by show _ = _; rw [← HLn.out]; exact (Lx.tw_take _ _).symm
                    have HS1 : Hid (k + 1 + Lx.upTo 39 (s.data.toList.drop (k + 1)) = k + 1 + L) := by show _ = _; rw [← HLn.out]
                    have hxm : (s.extract (k + 1) (k + 1 + L)).size ≤ maxLen := by simp only [ByteArray.size_extract]; unfold maxLen; omega
                    go_wp2_with (go_at_call 59; refine (refLetter_any _ _).mono ?_; rintro e wr ⟨rfl, rfl⟩)
                    go_loop [6] (fun a => ∃ q : Nat, k + 1 ≤ q ∧ q ≤ k + 1 + L ∧ a = .int .i64 q ∧ Hid (q + Lx.upTo 39 (s.data.toList.drop q) = k + 1 + L)) (fun a => k + 1 + L - (intOf a).toNat)
                    case atStart => exact ⟨k + 1, Nat.le_refl _, by omega, by go_num, HS1⟩
                    case round =>
                      obtain ⟨q, hq1, hq2, rfl, hF⟩ := hrel
                      clear HS1
                      by_cases hqs : q < s.size
                      · have HQ : Hid (s.data.toList.drop q = s[q] :: s.data.toList.drop (q + 1)) := Lx.drop_cons s q hqs
                        have e := hF.out
                        rw [HQ.out] at e
                        have c39 : ((s[q].toNat : Int) == 39) = (s[q] == 39) := Lx.beqI s[q] 39
                        cases z : (s[q] == 39)
                        · have m : ((s[q].toNat : Int) != 39) = true := by rw [bne, c39, z]; rfl
                          rw [Lx.upTo_miss z] at e
                          have R2 : Hid (q + 1 + Lx.upTo 39 (s.data.toList.drop (q + 1)) = k + 1 + L) := by show _ = _; omega
                          have hqn : q + 1 ≤ k + 1 + L := by omega
                          clear hF HQ e z c39
                          go_wp2_with fail
                          go_round
                          case rel => exact ⟨q + 1, by omega, by omega, by go_num, R2⟩
                          case measure => simp [intOf]; omega
                        · have m : ((s[q].toNat : Int) != 39) = false := by rw [bne, c39, z]; rfl
                          rw [Lx.upTo_hit z] at e
                          have e2 : q = k + 1 + L := by omega
                          subst e2
                          clear hF HQ e z c39
                          have hfound : k + 1 + L < s.size := hqs
                          have hne : (((k : Int) + 1 + L) == (s.size : Int)) = false := beq_eq_false_iff_ne.2 (by omega)
                          cases hy : Lx.isTerm ((s.data.toList.drop (k + 1)).take L)
                          · have P : Hid (Lx.tokens s.data.toList = .error k) := by
                              show _ = _
                              have ht : Lx.tokenAt (s[k] :: s.data.toList.drop (k + 1)) = none := by
                                rw [HC.out, Lx.tokenAt_quote, HTW.out]
                                apply if_neg
                                rintro ⟨_, h⟩
                                rw [hy] at h; cases h
                              rw [HP.out, Lx.scan_none hbl z35 ht]; rfl
                            have HG2 : Hid (tokensG s.data.toList = (11, (k : Int), [])) := GE.out k P.out
                            clear HP HS GO GE HI hbl z35 z61 z124 z59 z39 P HTW HLn HC
                            go_wp2_with (go_at_call 44; refine (refIsTerm_any _ _ hxm).mono ?_; rintro e wr ⟨rfl, rfl⟩)
                            refine bodyPost_ret (v := .agg #[.slice none 0 0, .int .i64 11, .int .i64 k]) (by simp [results, Try.results29, go_sem, r0, r1, r2]) rfl ⟨?_, none, 0, 0, ?_, ?_⟩
                            · exact ((hinv.below.setCell (by exact Nat.le_refl _) _).setCell (by exact Nat.le_refl _) _).setCell (by exact Nat.le_refl _) _
                            · rw [HG2.out]
                            · rw [HG2.out]; exact World.ownsRow_nil _ _ _ _
                          · have R : Hid (Lx.tokens s.data.toList = Lx.pre (acc ++ [⟨2, (s.data.toList.drop (k + 1)).take L, k⟩]) (Lx.scanF f (s.data.toList.drop (k + 1 + L + 1)) (k + 1 + L + 1))) := by
                              show _ = _
                              have ht : Lx.tokenAt (s[k] :: s.data.toList.drop (k + 1)) = some (2, (s.data.toList.drop (k + 1)).take L, L + 2) := by
                                have hl : ((s.data.toList.drop (k + 1)).take L).length = L := by rw [List.length_take, List.length_drop, HL.out]; omega
                                rw [HC.out, Lx.tokenAt_quote, HTW.out, if_pos ⟨by rw [hl, List.length_drop, HL.out]; omega, hy⟩, hl]
                              rw [HP.out, Lx.scan_some hbl z35 ht, Lx.pre_pre, ← HS.out, List.drop_drop]
                              show Lx.pre _ (Lx.scanF f (s.data.toList.drop (k + (L + 2))) (k + (L + 2))) = _
                              rw [show k + (L + 2) = k + 1 + L + 1 from by omega]
                            have HX : Hid (s.extract (k + 1) (k + 1 + L) = ⟨((s.data.toList.drop (k + 1)).take L).toArray⟩) := Lx.bytes_ext (by rw [Lx.extract_list]; congr 1; omega)
                            clear HP HS GO GE hbl z35 z61 z124 z59 z39 HTW HLn HC
                            go_wp2_with (go_at_call 44; refine (refIsTerm_any _ _ hxm).mono ?_; rintro e wr ⟨rfl, rfl⟩)
                            have ln : w.heap.size + 1 < wr.heap.size := by omega
                            have k0 : (0 : Int) ≤ (k : Int) := Int.natCast_nonneg _
                            have k01 : (0 : Int) ≤ (k : Int) + 1 := by omega
                            have k1 : (k : Int) + 1 ≤ (k : Int) + 1 + L := by omega
                            have k2 : (k : Int) + 1 + L ≤ s.size := by omega
                            have kw : IntKind.i64.wrap ((k : Int) + 1) = (k : Int) + 1 := IntWalk.i64_in _ ⟨by omega, by omega⟩
                            have kt : ((k : Int) + 1).toNat = k + 1 := by omega
                            have ku : ((k : Int) + 1 + (L : Int)).toNat = k + 1 + L := by omega
                            go_region_law
                              ((refine step_append_lies _ (by rfl) _ _ _ (by rfl) (w.heap.size + 2) 69 i0 _ 3 32 Try.underlying60 HI.out.1 HI.out.2.1 HI.out.2.2.1 HI.out.2.2.2 rfl (by omega) (.slice ao n c) acc.length (toksCells acc) (by rfl) ((hinv.own.alloc _).drew) ⟨wr.heap.size, 0, none⟩ 1 1 [.int .i64 2, .string (s.extract (k + 1) (k + 1 + L)), .int .i64 k] (by rfl) (by rfl) (World.news_of_block (cs := #[.int .i64 2, .string (s.extract (k + 1) (k + 1 + L)), .int .i64 k]) (t := 69) (fr := (0, 0)) (heap_alloc_new wr _)) (by simp [Value.oneCell']) (by omega) (by unfold maxLen; omega) (by omega) (by simp; omega) (wr.heap.size + 1) (by simp) ?_; intro g cap w1 hown1 hgrow hat hlt1; obtain ⟨q0, q1, q2, qz0, qz1, qz2⟩ := cells_three (hinv.after (grownBy_undrew hgrow))))
                            all_goals
                              rw [HX.out] at hown1
                              have hpush := hinv.push ⟨2, (s.data.toList.drop (k + 1)).take L, k⟩ (grownBy_undrew hgrow) hown1
                              clear hgrow hown1 g0 g1 g2 gz0 gz1 gz2 r0 r1 r2 rz0 rz1 rz2 q0 q1 q2 qz0 qz1 qz2 HX
                              go_wp2_with fail
                              go_roundw
                              case rel => exact ⟨k + 1 + L + 1, f, acc ++ [⟨2, (s.data.toList.drop (k + 1)).take L, k⟩], _, _, _, by omega, by go_num, by omega, by simp; omega, R, hpush⟩
                              case measure => simp [intOf]; omega
                      · have e2 : q = k + 1 + L := by omega
                        subst e2
                        clear hF
                        have hfound : ¬ k + 1 + L < s.size := hqs
                        have heq : (((k : Int) + 1 + L) == (s.size : Int)) = true := beq_iff_eq.2 (by omega)
                        have P : Hid (Lx.tokens s.data.toList = .error k) := by
                          show _ = _
                          have ht : Lx.tokenAt (s[k] :: s.data.toList.drop (k + 1)) = none := by
                            have hl : ((s.data.toList.drop (k + 1)).take L).length = L := by rw [List.length_take, List.length_drop, HL.out]; omega
                            rw [HC.out, Lx.tokenAt_quote, HTW.out]
                            apply if_neg
                            rintro ⟨h, _⟩
                            rw [hl, List.length_drop, HL.out] at h; omega
                          rw [HP.out, Lx.scan_none hbl z35 ht]; rfl
                        have HG2 : Hid (tokensG s.data.toList = (11, (k : Int), [])) := GE.out k P.out
                        clear HP HS GO GE HI hbl z35 z61 z124 z59 z39 P HTW HLn HC
                        go_wp2_with fail
                        refine bodyPost_ret (v := .agg #[.slice none 0 0, .int .i64 11, .int .i64 k]) (by simp [results, Try.results29, go_sem, r0, r1, r2]) rfl ⟨?_, none, 0, 0, ?_, ?_⟩
                        · exact ((hinv.below.setCell (by exact Nat.le_refl _) _).setCell (by exact Nat.le_refl _) _).setCell (by exact Nat.le_refl _) _
                        · rw [HG2.out]
                        · rw [HG2.out]; exact World.ownsRow_nil _ _ _ _
                · have hm : Lx.mr s[k] = true := by rw [Lx.mr, zl]; rfl
                  have z39 : (s[k] == 39) = false := by
                    cases z : (s[k] == 39)
                    · rfl
                    · have e : s[k] = 39 := by simpa using z
                      rw [e] at zl; exact absurd zl (by decide)
                  rw [z39] at b39
                  obtain ⟨L, HLn⟩ : ∃ L, Hid (Lx.nameLen (s.data.toList.drop k) = L) := ⟨_, rfl⟩
                  have hL1 : 1 ≤ L := by rw [← HLn.out, HS.out, Lx.nameLen_yes hm]; omega
                  have hL2 : k + L ≤ s.size := by have := Lx.nameLen_le (s.data.toList.drop k); rw [HLn.out, List.length_drop, HL.out] at this; omega
                  have HTW : Hid ((s.data.toList.drop k).takeWhile Lx.mr = (s.data.toList.drop k).take L) := by show _ = _; rw [← HLn.out]; exact (Lx.tw_take _ _).symm
                  have HS1 : Hid (k + 1 + Lx.nameLen (s.data.toList.drop (k + 1)) = k + L) := by show _ = _; rw [← HLn.out, HS.out, Lx.nameLen_yes hm]; omega
                  have hxm : (s.extract k (k + L)).size ≤ maxLen := by simp only [ByteArray.size_extract]; unfold maxLen; omega
                  clear hm
                  go_wp2_with (go_at_call 59; refine (refLetter_any _ _).mono ?_; rintro e wr ⟨rfl, rfl⟩)
                  go_loop [6] (fun a => ∃ q : Nat, k + 1 ≤ q ∧ q ≤ k + L ∧ a = .int .i64 q ∧ Hid (q + Lx.nameLen (s.data.toList.drop q) = k + L)) (fun a => k + L - (intOf a).toNat)
                  case atStart => exact ⟨k + 1, Nat.le_refl _, by omega, by go_num, HS1⟩
                  case round =>
                    obtain ⟨q, hq1, hq2, rfl, hF⟩ := hrel
                    clear HS1
                    by_cases hqs : q < s.size
                    · have HQ : Hid (s.data.toList.drop q = s[q] :: s.data.toList.drop (q + 1)) := Lx.drop_cons s q hqs
                      have e := hF.out
                      rw [HQ.out] at e
                      cases hm : Lx.mr s[q]
                      · rw [Lx.nameLen_no hm] at e
                        have e2 : q = k + L := by omega
                        subst e2
                        clear hF HQ e
                        cases hy : Lx.isName ((s.data.toList.drop k).take L)
                        · have P : Hid (Lx.tokens s.data.toList = .error k) := by
                            show _ = _
                            have ht : Lx.tokenAt (s[k] :: s.data.toList.drop (k + 1)) = none := by rw [Lx.tokenAt_letter z61 z124 z59 z39, ← HS.out, HTW.out, hy]; rfl
                            rw [HP.out, Lx.scan_none hbl z35 ht]; rfl
                          have HG2 : Hid (tokensG s.data.toList = (11, (k : Int), [])) := GE.out k P.out
                          clear HP HS GO GE HI hbl z35 z61 z124 z59 z39 P HTW HLn
                          go_wp2_with (first | (go_at_call 60; refine (refMore_any _ _).mono ?_; rintro e wr ⟨rfl, rfl⟩) | (go_at_call 43; refine (refIsName_any _ _ hxm).mono ?_; rintro e wr ⟨rfl, rfl⟩))
                          refine bodyPost_ret (v := .agg #[.slice none 0 0, .int .i64 11, .int .i64 k]) (by simp [results, Try.results29, go_sem, r0, r1, r2]) rfl ⟨?_, none, 0, 0, ?_, ?_⟩
                          · exact ((hinv.below.setCell (by exact Nat.le_refl _) _).setCell (by exact Nat.le_refl _) _).setCell (by exact Nat.le_refl _) _
                          · rw [HG2.out]
                          · rw [HG2.out]; exact World.ownsRow_nil _ _ _ _
                        · have R : Hid (Lx.tokens s.data.toList = Lx.pre (acc ++ [⟨1, (s.data.toList.drop k).take L, k⟩]) (Lx.scanF f (s.data.toList.drop (k + L)) (k + L))) := by
                            show _ = _
                            have ht : Lx.tokenAt (s[k] :: s.data.toList.drop (k + 1)) = some (1, (s.data.toList.drop k).take L, L) := by
                              rw [Lx.tokenAt_letter z61 z124 z59 z39, ← HS.out, HTW.out, hy, if_pos rfl, List.length_take, List.length_drop, HL.out, Nat.min_eq_left (by omega)]
                            rw [HP.out, Lx.scan_some hbl z35 ht, Lx.pre_pre, ← HS.out, List.drop_drop]
                          have HX : Hid (s.extract k (k + L) = ⟨((s.data.toList.drop k).take L).toArray⟩) := Lx.bytes_ext (by rw [Lx.extract_list]; congr 1; omega)
                          clear HP HS GO GE hbl z35 z61 z124 z59 z39 HTW HLn
                          go_wp2_with (first | (go_at_call 60; refine (refMore_any _ _).mono ?_; rintro e wr ⟨rfl, rfl⟩) | (go_at_call 43; refine (refIsName_any _ _ hxm).mono ?_; rintro e wr ⟨rfl, rfl⟩))
                          have ln : w.heap.size + 1 < wr.heap.size := by omega
                          have k0 : (0 : Int) ≤ (k : Int) := Int.natCast_nonneg _
                          have k01 : (0 : Int) ≤ (k : Int) + 1 := by omega
                          have k1 : (k : Int) ≤ (k : Int) + L := by omega
                          have k2 : (k : Int) + L ≤ s.size := by omega
                          go_region_law
                            ((refine step_append_lies _ (by rfl) _ _ _ (by rfl) (w.heap.size + 2) 69 i0 _ 3 32 Try.underlying60 HI.out.1 HI.out.2.1 HI.out.2.2.1 HI.out.2.2.2 rfl (by omega) (.slice ao n c) acc.length (toksCells acc) (by rfl) ((hinv.own.alloc _).drew) ⟨wr.heap.size, 0, none⟩ 1 1 [.int .i64 1, .string (s.extract k (k + L)), .int .i64 k] (by rfl) (by rfl) (World.news_of_block (cs := #[.int .i64 1, .string (s.extract k (k + L)), .int .i64 k]) (t := 69) (fr := (0, 0)) (heap_alloc_new wr _)) (by simp [Value.oneCell']) (by omega) (by unfold maxLen; omega) (by omega) (by simp; omega) (wr.heap.size + 1) (by simp) ?_; intro g cap w1 hown1 hgrow hat hlt1; obtain ⟨q0, q1, q2, qz0, qz1, qz2⟩ := cells_three (hinv.after (grownBy_undrew hgrow))))
                          all_goals
                            rw [HX.out] at hown1
                            have hpush := hinv.push ⟨1, (s.data.toList.drop k).take L, k⟩ (grownBy_undrew hgrow) hown1
                            clear hgrow hown1 g0 g1 g2 gz0 gz1 gz2 r0 r1 r2 rz0 rz1 rz2 q0 q1 q2 qz0 qz1 qz2 HX
                            go_wp2_with fail
                            go_roundw
                            case rel => exact ⟨k + L, f, acc ++ [⟨1, (s.data.toList.drop k).take L, k⟩], _, _, _, by omega, by go_num, by omega, by simp; omega, R, hpush⟩
                            case measure => simp [intOf]; omega
                      · rw [Lx.nameLen_yes hm] at e
                        have R2 : Hid (q + 1 + Lx.nameLen (s.data.toList.drop (q + 1)) = k + L) := by show _ = _; omega
                        have hqn : q + 1 ≤ k + L := by omega
                        clear hF HQ e
                        go_wp2_with (go_at_call 60; refine (refMore_any _ _).mono ?_; rintro e wr ⟨rfl, rfl⟩)
                        go_round
                        case rel => exact ⟨q + 1, by omega, by omega, by go_num, R2⟩
                        case measure => simp [intOf]; omega
                    · have e2 : q = k + L := by omega
                      subst e2
                      clear hF
                      cases hy : Lx.isName ((s.data.toList.drop k).take L)
                      · have P : Hid (Lx.tokens s.data.toList = .error k) := by
                          show _ = _
                          have ht : Lx.tokenAt (s[k] :: s.data.toList.drop (k + 1)) = none := by rw [Lx.tokenAt_letter z61 z124 z59 z39, ← HS.out, HTW.out, hy]; rfl
                          rw [HP.out, Lx.scan_none hbl z35 ht]; rfl
                        have HG2 : Hid (tokensG s.data.toList = (11, (k : Int), [])) := GE.out k P.out
                        clear HP HS GO GE HI hbl z35 z61 z124 z59 z39 P HTW HLn
                        go_wp2_with (first | (go_at_call 60; refine (refMore_any _ _).mono ?_; rintro e wr ⟨rfl, rfl⟩) | (go_at_call 43; refine (refIsName_any _ _ hxm).mono ?_; rintro e wr ⟨rfl, rfl⟩))
                        refine bodyPost_ret (v := .agg #[.slice none 0 0, .int .i64 11, .int .i64 k]) (by simp [results, Try.results29, go_sem, r0, r1, r2]) rfl ⟨?_, none, 0, 0, ?_, ?_⟩
                        · exact ((hinv.below.setCell (by exact Nat.le_refl _) _).setCell (by exact Nat.le_refl _) _).setCell (by exact Nat.le_refl _) _
                        · rw [HG2.out]
                        · rw [HG2.out]; exact World.ownsRow_nil _ _ _ _
                      · have R : Hid (Lx.tokens s.data.toList = Lx.pre (acc ++ [⟨1, (s.data.toList.drop k).take L, k⟩]) (Lx.scanF f (s.data.toList.drop (k + L)) (k + L))) := by
                          show _ = _
                          have ht : Lx.tokenAt (s[k] :: s.data.toList.drop (k + 1)) = some (1, (s.data.toList.drop k).take L, L) := by
                            rw [Lx.tokenAt_letter z61 z124 z59 z39, ← HS.out, HTW.out, hy, if_pos rfl, List.length_take, List.length_drop, HL.out, Nat.min_eq_left (by omega)]
                          rw [HP.out, Lx.scan_some hbl z35 ht, Lx.pre_pre, ← HS.out, List.drop_drop]
                        have HX : Hid (s.extract k (k + L) = ⟨((s.data.toList.drop k).take L).toArray⟩) := Lx.bytes_ext (by rw [Lx.extract_list]; congr 1; omega)
                        clear HP HS GO GE hbl z35 z61 z124 z59 z39 HTW HLn
                        go_wp2_with (first | (go_at_call 60; refine (refMore_any _ _).mono ?_; rintro e wr ⟨rfl, rfl⟩) | (go_at_call 43; refine (refIsName_any _ _ hxm).mono ?_; rintro e wr ⟨rfl, rfl⟩))
                        have ln : w.heap.size + 1 < wr.heap.size := by omega
                        have k0 : (0 : Int) ≤ (k : Int) := Int.natCast_nonneg _
                        have k01 : (0 : Int) ≤ (k : Int) + 1 := by omega
                        have k1 : (k : Int) ≤ (k : Int) + L := by omega
                        have k2 : (k : Int) + L ≤ s.size := by omega
                        go_region_law
                          ((refine step_append_lies _ (by rfl) _ _ _ (by rfl) (w.heap.size + 2) 69 i0 _ 3 32 Try.underlying60 HI.out.1 HI.out.2.1 HI.out.2.2.1 HI.out.2.2.2 rfl (by omega) (.slice ao n c) acc.length (toksCells acc) (by rfl) ((hinv.own.alloc _).drew) ⟨wr.heap.size, 0, none⟩ 1 1 [.int .i64 1, .string (s.extract k (k + L)), .int .i64 k] (by rfl) (by rfl) (World.news_of_block (cs := #[.int .i64 1, .string (s.extract k (k + L)), .int .i64 k]) (t := 69) (fr := (0, 0)) (heap_alloc_new wr _)) (by simp [Value.oneCell']) (by omega) (by unfold maxLen; omega) (by omega) (by simp; omega) (wr.heap.size + 1) (by simp) ?_; intro g cap w1 hown1 hgrow hat hlt1; obtain ⟨q0, q1, q2, qz0, qz1, qz2⟩ := cells_three (hinv.after (grownBy_undrew hgrow))))
                        all_goals
                          rw [HX.out] at hown1
                          have hpush := hinv.push ⟨1, (s.data.toList.drop k).take L, k⟩ (grownBy_undrew hgrow) hown1
                          clear hgrow hown1 g0 g1 g2 gz0 gz1 gz2 r0 r1 r2 rz0 rz1 rz2 q0 q1 q2 qz0 qz1 qz2 HX
                          go_wp2_with fail
                          go_roundw
                          case rel => exact ⟨k + L, f, acc ++ [⟨1, (s.data.toList.drop k).take L, k⟩], _, _, _, by omega, by go_num, by omega, by simp; omega, R, hpush⟩
                          case measure => simp [intOf]; omega
              · rw [z59] at b59
                have R : Hid (Lx.tokens s.data.toList = Lx.pre (acc ++ [⟨5, [59], k⟩]) (Lx.scanF f (s.data.toList.drop (k + 1)) (k + 1))) := by
                  show _ = _
                  have ht : Lx.tokenAt (s[k] :: s.data.toList.drop (k + 1)) = some (5, [59], 1) := by rw [Lx.tokenAt]; simp [z61, z124, z59]
                  rw [HP.out, Lx.scan_some hbl z35 ht, Lx.pre_pre]; rfl
                clear HP HS GO GE hbl z35 z61 z124 z59 b39
                go_wp2_with (at_builtin; refine wpList_append_lies _ rfl _ _ 60 rfl (w.heap.size + 2) 69 i0 (.agg #[.int .i64 0, .string ⟨#[]⟩, .int .i64 0]) 3 32 Try.underlying60 HI.out.1 HI.out.2.1 HI.out.2.2.1 HI.out.2.2.2 rfl (by decide) _ _ _ rfl (hinv.own.alloc _) ⟨wr.heap.size, 0, none⟩ 1 1 [.int .i64 5, .string ⟨#[59]⟩, .int .i64 k] rfl rfl ?c1 ?c2 (by decide) ?c3 ?c4 ?c5 (wr.heap.size + 1) (by simp) ?_)
                case c1 => exact cell_three_new wr (.int .i64 5) (.string ⟨#[59]⟩) (.int .i64 k) 69
                case c2 => intro u hu; simp at hu; rcases hu with rfl | rfl | rfl <;> rfl
                case c3 => unfold maxLen; omega
                case c4 => omega
                case c5 => simp; omega
                intro g cap w1 hown1 hgrow _ hlt1
                have hpush := hinv.push ⟨5, [59], k⟩ hgrow hown1
                obtain ⟨q0, _, _, qz0, _, _⟩ := cells_three (hinv.after hgrow)
                clear hgrow hown1 g0 g1 g2 gz0 gz1 gz2 r0 r1 r2 rz0 rz1 rz2
                go_wp2_with fail
                go_roundw
                case rel => exact ⟨k + 1, f, acc ++ [⟨5, [59], k⟩], _, _, _, by omega, by go_num, by omega, by simp; omega, R, hpush⟩
                case measure => simp [intOf]; omega
            · rw [z124] at b124
              have R : Hid (Lx.tokens s.data.toList = Lx.pre (acc ++ [⟨4, [124], k⟩]) (Lx.scanF f (s.data.toList.drop (k + 1)) (k + 1))) := by
                show _ = _
                have ht : Lx.tokenAt (s[k] :: s.data.toList.drop (k + 1)) = some (4, [124], 1) := by rw [Lx.tokenAt]; simp [z61, z124]
                rw [HP.out, Lx.scan_some hbl z35 ht, Lx.pre_pre]; rfl
              clear HP HS GO GE hbl z35 z61 z124 b59 b39
              go_wp2_with (at_builtin; refine wpList_append_lies _ rfl _ _ 60 rfl (w.heap.size + 2) 69 i0 (.agg #[.int .i64 0, .string ⟨#[]⟩, .int .i64 0]) 3 32 Try.underlying60 HI.out.1 HI.out.2.1 HI.out.2.2.1 HI.out.2.2.2 rfl (by decide) _ _ _ rfl (hinv.own.alloc _) ⟨wr.heap.size, 0, none⟩ 1 1 [.int .i64 4, .string ⟨#[124]⟩, .int .i64 k] rfl rfl ?c1 ?c2 (by decide) ?c3 ?c4 ?c5 (wr.heap.size + 1) (by simp) ?_)
              case c1 => exact cell_three_new wr (.int .i64 4) (.string ⟨#[124]⟩) (.int .i64 k) 69
              case c2 => intro u hu; simp at hu; rcases hu with rfl | rfl | rfl <;> rfl
              case c3 => unfold maxLen; omega
              case c4 => omega
              case c5 => simp; omega
              intro g cap w1 hown1 hgrow _ hlt1
              have hpush := hinv.push ⟨4, [124], k⟩ hgrow hown1
              obtain ⟨q0, _, _, qz0, _, _⟩ := cells_three (hinv.after hgrow)
              clear hgrow hown1 g0 g1 g2 gz0 gz1 gz2 r0 r1 r2 rz0 rz1 rz2
              go_wp2_with fail
              go_roundw
              case rel => exact ⟨k + 1, f, acc ++ [⟨4, [124], k⟩], _, _, _, by omega, by go_num, by omega, by simp; omega, R, hpush⟩
              case measure => simp [intOf]; omega
          · rw [z61] at b61
            have R : Hid (Lx.tokens s.data.toList = Lx.pre (acc ++ [⟨3, [61], k⟩]) (Lx.scanF f (s.data.toList.drop (k + 1)) (k + 1))) := by
              show _ = _
              have ht : Lx.tokenAt (s[k] :: s.data.toList.drop (k + 1)) = some (3, [61], 1) := by rw [Lx.tokenAt]; simp [z61]
              rw [HP.out, Lx.scan_some hbl z35 ht, Lx.pre_pre]; rfl
            clear HP HS GO GE hbl z35 z61 b124 b59 b39
            go_wp2_with (at_builtin; refine wpList_append_lies _ rfl _ _ 60 rfl (w.heap.size + 2) 69 i0 (.agg #[.int .i64 0, .string ⟨#[]⟩, .int .i64 0]) 3 32 Try.underlying60 HI.out.1 HI.out.2.1 HI.out.2.2.1 HI.out.2.2.2 rfl (by decide) _ _ _ rfl (hinv.own.alloc _) ⟨wr.heap.size, 0, none⟩ 1 1 [.int .i64 3, .string ⟨#[61]⟩, .int .i64 k] rfl rfl ?c1 ?c2 (by decide) ?c3 ?c4 ?c5 (wr.heap.size + 1) (by simp) ?_)
            case c1 => exact cell_three_new wr (.int .i64 3) (.string ⟨#[61]⟩) (.int .i64 k) 69
            case c2 => intro u hu; simp at hu; rcases hu with rfl | rfl | rfl <;> rfl
            case c3 => unfold maxLen; omega
            case c4 => omega
            case c5 => simp; omega
            intro g cap w1 hown1 hgrow _ hlt1
            have hpush := hinv.push ⟨3, [61], k⟩ hgrow hown1
            obtain ⟨q0, _, _, qz0, _, _⟩ := cells_three (hinv.after hgrow)
            clear hgrow hown1 g0 g1 g2 gz0 gz1 gz2 r0 r1 r2 rz0 rz1 rz2
            go_wp2_with fail
            go_roundw
            case rel => exact ⟨k + 1, f, acc ++ [⟨3, [61], k⟩], _, _, _, by omega, by go_num, by omega, by simp; omega, R, hpush⟩
            case measure => simp [intOf]; omega
        · rw [z35] at b35
          obtain ⟨N, HN⟩ : ∃ N, Hid (k + 1 + Lx.upTo 10 (s.data.toList.drop (k + 1)) = N) := ⟨_, rfl⟩
          have hN1 : k + 1 ≤ N := by have := HN.out; omega
          have hN2 : N ≤ s.size := by have := HN.out; have h := Lx.upTo_le 10 (s.data.toList.drop (k + 1)); rw [List.length_drop, HL.out] at h; omega
          have R : Hid (Lx.tokens s.data.toList = Lx.pre acc (Lx.scanF (f + 1) (s.data.toList.drop N) N)) := by
            show _ = _
            have e : k + Lx.upTo 10 (s[k] :: s.data.toList.drop (k + 1)) = N := by rw [Lx.upTo_miss y10, ← HN.out]; omega
            rw [HP.out, Lx.scan_note z35, e, ← HS.out, List.drop_drop, HS.out, e]
          clear HP HS GO GE HI hbl y10 z35 b61 b124 b59 b39
          go_wp2_with fail
          go_loop [6] (fun a => ∃ q : Nat, k + 1 ≤ q ∧ q ≤ N ∧ a = .int .i64 q ∧ Hid (q + Lx.upTo 10 (s.data.toList.drop q) = N)) (fun a => N - (intOf a).toNat)
          case atStart => exact ⟨k + 1, Nat.le_refl _, hN1, by go_num, HN⟩
          case round =>
            obtain ⟨q, hq1, hq2, rfl, hF⟩ := hrel
            by_cases hqs : q < s.size
            · have HQ : Hid (s.data.toList.drop q = s[q] :: s.data.toList.drop (q + 1)) := Lx.drop_cons s q hqs
              have e := hF.out
              rw [HQ.out] at e
              have c10 : ((s[q].toNat : Int) == 10) = (s[q] == 10) := Lx.beqI s[q] 10
              cases z : (s[q] == 10)
              · have m : ((s[q].toNat : Int) != 10) = true := by rw [bne, c10, z]; rfl
                rw [Lx.upTo_miss z] at e
                have R2 : Hid (q + 1 + Lx.upTo 10 (s.data.toList.drop (q + 1)) = N) := by show _ = _; omega
                have hqn : q + 1 ≤ N := by omega
                clear hF HQ e z c10
                go_wp2_with fail
                go_round
                case rel => exact ⟨q + 1, by omega, by omega, by go_num, R2⟩
                case measure => simp [intOf]; omega
              · have m : ((s[q].toNat : Int) != 10) = false := by rw [bne, c10, z]; rfl
                rw [Lx.upTo_hit z] at e
                have e2 : N = q := by omega
                subst e2
                clear hF HQ e z c10 HN
                go_wp2_with fail
                go_roundw
                case rel => exact ⟨N, f + 1, acc, ao, n, c, by omega, by go_num, by omega, by omega, R, hinv⟩
                case measure => simp [intOf]; omega
            · have e2 : N = q := by omega
              subst e2
              clear hF HN
              go_wp2_with fail
              go_roundw
              case rel => exact ⟨N, f + 1, acc, ao, n, c, by omega, by go_num, by omega, by omega, R, hinv⟩
              case measure => simp [intOf]; omega
      · have R : Hid (Lx.tokens s.data.toList = Lx.pre acc (Lx.scanF (f + 1) (s.data.toList.drop (k + 1)) (k + 1))) := by
          show _ = _; rw [HP.out, Lx.scan_blank hbl]
        clear HP HS GO GE HI b35 b61 b124 b59 b39
        cases z1 : (s[k] == 32)
        · cases z2 : (s[k] == 9)
          · have z3 : (s[k] == 10) = true := by simpa [z1, z2] using hbl
            rw [z1] at b32; rw [z2] at b9; rw [z3] at b10
            clear hbl z1 z2 z3
            go_wp2_with fail
            go_roundw
            case rel => exact ⟨k + 1, f + 1, acc, ao, n, c, by omega, by go_num, by omega, by omega, R, hinv⟩
            case measure => simp [intOf]; omega
          · rw [z1] at b32; rw [z2] at b9
            clear hbl z1 z2 b10
            go_wp2_with fail
            go_roundw
            case rel => exact ⟨k + 1, f + 1, acc, ao, n, c, by omega, by go_num, by omega, by omega, R, hinv⟩
            case measure => simp [intOf]; omega
        · rw [z1] at b32
          clear hbl z1 b9 b10
          go_wp2_with fail
          go_roundw
          case rel => exact ⟨k + 1, f + 1, acc, ao, n, c, by omega, by go_num, by omega, by omega, R, hinv⟩
          case measure => simp [intOf]; omega
    · have P : Hid (Lx.tokens s.data.toList = .ok acc) := by
        show _ = _
        rw [hE.out, List.drop_of_length_le (by rw [HL.out]; omega), Lx.scan_nil]
        simp [Lx.pre]
      have HG := GO.out acc P.out
      have HG2 : Hid (tokensG s.data.toList = (0, 0, acc)) := HG
      clear hE HG GO GE HI
      go_wp2_with fail
      refine bodyPost_ret (v := .agg #[.slice ao n c, .int .i64 0, .int .i64 0]) (by simp [results, Try.results29, go_sem, r0, r1, r2]) rfl ⟨?_, ao, n, c, ?_, ?_⟩
      · exact ((hinv.below.setCell (by exact Nat.le_refl _) _).setCell (by exact Nat.le_refl _) _).setCell (by exact Nat.le_refl _) _
      · rw [HG2.out]
      · rw [HG2.out]
        exact ownsRow_from (ownsRow_setCell_below (ownsRow_setCell_below (ownsRow_setCell_below hinv.own (by simp) _) (by simp) _) (by simp) _) (by omega)
end Go.Proofs.Ytnphfhoknnnciaa
