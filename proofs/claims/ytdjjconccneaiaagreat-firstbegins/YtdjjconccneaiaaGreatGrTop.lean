/-
  Layer 3 (grammar): altsOf, Of: the grammar of any text, or the fault.
-/
import Derived.Test.YtdjjconccneaiaaGreatGrOf
import Derived.Test.YtdjjconccneaiaaGreatGrMath
namespace Go.Proofs.YtdjjconccneaiaaGreat
open Go.RowKit

/-- the tokens of a text, as layer 2 takes them -/
def toksOf (l : List UInt8) : Int × Int × List Rd.Tk := ((tokensG l).1, (tokensG l).2.1, (tokensG l).2.2.map tkOf)
/-- the fault's number, its byte, the grammar -/
def ofS (l : List UInt8) : Int × Int × Gr.Gm := Gr.ofG (toksOf l) l.length

theorem toksOf_cases (l : List UInt8) : (∃ us, Lx.tokens l = .ok us ∧ l.length ≤ 2000 ∧ toksOf l = (0, 0, us.map tkOf)) ∨ (∃ n a : Int, (n = 11 ∨ n = 14) ∧ 0 ≤ a ∧ toksOf l = (n, a, []) ∧ tokensG l = (n, a, [])) := by
  unfold toksOf tokensG
  by_cases h : 2000 < l.length
  · rw [if_pos h]; exact .inr ⟨14, 0, .inr rfl, Int.le_refl _, rfl, rfl⟩
  · rw [if_neg h]
    cases ht : Lx.tokens l with
    | ok us => exact .inl ⟨us, rfl, by omega, rfl⟩
    | error p => exact .inr ⟨11, p, .inl rfl, by omega, rfl, rfl⟩

theorem good_size {k : Nat} {x : List UInt8} (h : Lx.Good k x) : x.length ≤ 16 := by
  rcases h with ⟨_, h⟩ | ⟨_, h⟩ | ⟨_, rfl⟩ | ⟨_, rfl⟩ | ⟨_, rfl⟩
  · simp [Lx.isName] at h; omega
  · simp [Lx.isTerm] at h; omega
  · simp
  · simp
  · simp

theorem tkOf_small {us : List Lx.Tok} {l : List UInt8} (h : Lx.tokens l = .ok us) : ∀ t ∈ us.map tkOf, t.text.size ≤ 16 := by
  intro t ht
  obtain ⟨u, hu, rfl⟩ := List.mem_map.1 ht
  have := good_size (Lx.tokens_good h u hu)
  simpa [tkOf, ByteArray.size] using this

/-- what a grammar, or an error, is told as -/
def outG : Except Rd.Er Gr.Gm → Int × Int × Gr.Gm
  | .ok g => (0, 0, g)
  | .error er => (er.1, er.2, ⟨[], [], []⟩)

/-- what altsOf comes to -/
def AOPost (l : List UInt8) (w : World) (e : Ending) (w' : World) : Prop :=
  Below w.heap.size w w' ∧ ((∃ er : Rd.Er, ofS l = (er.1, er.2, ⟨[], [], []⟩) ∧ e = thrown er) ∨
    (∃ xs xo xc, ofS l = outG (Gr.of xs) ∧ xs.length ≤ 60 ∧ (∀ x ∈ xs, x.2.length ≤ 8) ∧ (∀ x ∈ xs, x.1.text.size ≤ maxLen ∧ ∀ t ∈ x.2, t.text.size ≤ maxLen) ∧
      e = .returned (.slice xo xs.length xc) ∧ AlsAt w.heap.size w' (.slice xo xs.length xc) xs))

set_option maxHeartbeats 1600000 in
theorem altsOf_any (s : ByteArray) (w : World) (hs : s.size ≤ maxLen) : Calls Tryz.prog 40 #[.string s] w (AOPost s.data.toList w) := by
  have hs' : s.size ≤ 9223372036854775807 := hs
  have HLn : Hid (s.data.toList.length = s.size) := by show _ = _; simp
  rcases toksOf_cases s.data.toList with ⟨us, ht, hl, hE⟩ | ⟨n, a, hn, ha, hE, hG⟩
  · have HG : Hid (tokensG s.data.toList = (0, 0, us)) := by show _ = _; unfold tokensG; rw [if_neg (by omega), ht]
    have hlen : (us.map tkOf).length ≤ 2000 := by rw [List.length_map]; have := Lx.tokens_count ht; omega
    have HX : Hid (∀ t ∈ us.map tkOf, t.text.size ≤ 281474976710656) := fun t h => by have := tkOf_small ht t h; omega
    have HX2 : Hid (∀ t ∈ us.map tkOf, t.text.size ≤ maxLen) := fun t h => by have := tkOf_small ht t h; unfold maxLen; omega
    have HTS : Hid (us.map tkOf = us.map tkOf) := rfl
    have hpos : ∀ (W : World), _ := fun W => rtokens_is s 0 0 us (us.map tkOf) W hs HG rfl
    have HTK : Hid _ := hpos
    clear hpos
    rcases Rd.altsG_cases (us.map tkOf) s.size with ⟨xs, h1, h2, h3, h4⟩ | ⟨⟨en, ea⟩, h1, h2, h3⟩
    · have HE : Hid (ofS s.data.toList = outG (Gr.of xs)) := by
        show _ = _; unfold ofS Gr.ofG; rw [hE, HLn.out]; simp only [h2]; cases Gr.of xs <;> rfl
      have HA : Hid (Rd.altsG (us.map tkOf) s.size = (0, 0, xs)) := h2
      have hsm := Rd.altsG_small h2
      have H8 : Hid _ := hsm.2
      have HT : Hid (∀ x ∈ xs, x.1.text.size ≤ maxLen ∧ ∀ t ∈ x.2, t.text.size ≤ maxLen) := fun x hx => by
        have := Rd.alts_mem (fun t => t.text.size ≤ maxLen) h3 HX2.out x hx
        exact ⟨this.1.2, fun t ht => (this.2 t ht).2⟩
      have hs6 := hsm.1
      clear hsm h1 h2 h3 h4 hE hl ht HX2 HTS
      generalize us.map tkOf = ts at *
      go_enter Tryz.func40, Tryz.ntmps40
      go_wp2_with fail
      refine (HTK.out _).mono ?_
      rintro e w1 ⟨ao, c, rfl, hb1, ht1, hc1⟩
      go_wp2_with fail
      refine (throwOn_ok 0 _).mono ?_
      rintro e w2 ⟨rfl, hb2⟩
      have f0 : w2.frozen? ⟨w1.heap.size, 0, none⟩ = false := (hb2.frozen (by simp)).trans (by simp [go_sem])
      have f1 : w2.frozen? ⟨w1.heap.size, 1, none⟩ = false := (hb2.frozen (by simp)).trans (by simp [go_sem])
      have c0 : w2.cell? ⟨w1.heap.size, 0, none⟩ = some (.int .i64 0) := (hb2.cell (by simp)).trans (by simp [go_sem])
      have c1 : w2.cell? ⟨w1.heap.size, 1, none⟩ = some (.int .i64 0) := (hb2.cell (by simp)).trans (by simp [go_sem])
      have hz2 : w1.heap.size < w2.heap.size := by have := hb2.size; simp at this; omega
      have hb12 : Hid (Below w1.heap.size w1 w2) := ((Below.refl _ w1).alloc (Nat.le_refl _) _).trans (hb2.mono (by simp))
      clear hb2
      go_wp2_with fail
      refine (alts_is ao c ts s.size 0 0 xs _ hlen HX.out hc1.out (ht1.out.later hb12.out).size HA).mono ?_
      rintro e w3 ⟨xo, xc, rfl, hb3, ha3⟩
      have hz3 : w1.heap.size < w3.heap.size := Nat.lt_of_lt_of_le hz2 hb3.out.size
      replace f0 : w3.frozen? ⟨w1.heap.size, 0, none⟩ = false := (hb3.out.frozen hz2).trans f0
      replace f1 : w3.frozen? ⟨w1.heap.size, 1, none⟩ = false := (hb3.out.frozen hz2).trans f1
      replace c0 := cell_later hb3.out c0
      replace c1 := cell_later hb3.out c1
      have hb13 : Hid (Below w1.heap.size w1 w3) := hb12.out.trans (hb3.out.mono (Nat.le_of_lt hz2))
      have hbs : Hid (Below w1.heap.size w1 ((w3.setCell ⟨w1.heap.size, 0, none⟩ (.int .i64 0)).setCell ⟨w1.heap.size, 1, none⟩ (.int .i64 0))) := (hb13.out.setCell (by exact Nat.le_refl _) _).setCell (by exact Nat.le_refl _) _
      have has : Hid (AlsAt w2.heap.size ((w3.setCell ⟨w1.heap.size, 0, none⟩ (.int .i64 0)).setCell ⟨w1.heap.size, 1, none⟩ (.int .i64 0)) (.slice xo xs.length xc) xs) := (ha3.out.setCell (by exact hz2) _).setCell (by exact hz2) _
      clear ha3 hb3 hb12 hb13
      go_wp2_with fail
      refine (throwOn_ok 0 _).mono ?_
      rintro e w4 ⟨rfl, hb4⟩
      go_wp2_with fail
      go_ret
      have hfin : Below w.heap.size w w4 := (hb1.out.trans (hbs.out.mono hb1.out.size)).trans (hb4.mono (by have := hb1.out.size; have := hbs.out.size; omega))
      exact ⟨hfin, .inr ⟨xs, xo, xc, HE.out, hs6, H8.out, HT.out, rfl, (has.out.below hb4).from (by have := hb1.out.size; omega)⟩⟩
    · have HE : Hid (ofS s.data.toList = (en, ea, ⟨[], [], []⟩)) := by
        show _ = _; unfold ofS Gr.ofG; rw [hE, HLn.out]
        simp only at h2 h3
        have : en ≠ 0 := by omega
        simp [h2, this]
      have HA : Hid (Rd.altsG (us.map tkOf) s.size = (en, ea, [])) := h2
      have hen : en ≠ 0 := by simp only at h3; omega
      clear h1 h2 h3 hE hl ht HX2 HTS
      generalize us.map tkOf = ts at *
      go_enter Tryz.func40, Tryz.ntmps40
      go_wp2_with fail
      refine (HTK.out _).mono ?_
      rintro e w1 ⟨ao, c, rfl, hb1, ht1, hc1⟩
      go_wp2_with fail
      refine (throwOn_ok 0 _).mono ?_
      rintro e w2 ⟨rfl, hb2⟩
      have f0 : w2.frozen? ⟨w1.heap.size, 0, none⟩ = false := (hb2.frozen (by simp)).trans (by simp [go_sem])
      have f1 : w2.frozen? ⟨w1.heap.size, 1, none⟩ = false := (hb2.frozen (by simp)).trans (by simp [go_sem])
      have c0 : w2.cell? ⟨w1.heap.size, 0, none⟩ = some (.int .i64 0) := (hb2.cell (by simp)).trans (by simp [go_sem])
      have c1 : w2.cell? ⟨w1.heap.size, 1, none⟩ = some (.int .i64 0) := (hb2.cell (by simp)).trans (by simp [go_sem])
      have hz2 : w1.heap.size < w2.heap.size := by have := hb2.size; simp at this; omega
      have hb12 : Hid (Below w1.heap.size w1 w2) := ((Below.refl _ w1).alloc (Nat.le_refl _) _).trans (hb2.mono (by simp))
      clear hb2
      go_wp2_with fail
      refine (alts_is ao c ts s.size en ea [] _ hlen HX.out hc1.out (ht1.out.later hb12.out).size HA).mono ?_
      rintro e w3 ⟨xo, xc, rfl, hb3, ha3⟩
      have hz3 : w1.heap.size < w3.heap.size := Nat.lt_of_lt_of_le hz2 hb3.out.size
      replace f0 : w3.frozen? ⟨w1.heap.size, 0, none⟩ = false := (hb3.out.frozen hz2).trans f0
      replace f1 : w3.frozen? ⟨w1.heap.size, 1, none⟩ = false := (hb3.out.frozen hz2).trans f1
      replace c0 := cell_later hb3.out c0
      replace c1 := cell_later hb3.out c1
      have hb13 : Hid (Below w1.heap.size w1 w3) := hb12.out.trans (hb3.out.mono (Nat.le_of_lt hz2))
      have hbs : Hid (Below w1.heap.size w1 ((w3.setCell ⟨w1.heap.size, 0, none⟩ (.int .i64 en)).setCell ⟨w1.heap.size, 1, none⟩ (.int .i64 ea))) := (hb13.out.setCell (by exact Nat.le_refl _) _).setCell (by exact Nat.le_refl _) _
      clear ha3 hb3 hb12 hb13
      go_wp2_with fail
      refine (throwOn_err en ea hen _).mono ?_
      rintro e w4 ⟨rfl, hb4⟩
      have hfin : Hid (Below w.heap.size w w4) := (hb1.out.trans (hbs.out.mono hb1.out.size)).trans (hb4.mono (by have := hb1.out.size; have := hbs.out.size; omega))
      unfold thrown
      go_wp2_with fail
      exact ⟨rfl, hfin.out, .inl ⟨(en, ea), HE.out, rfl⟩⟩
  · have HE : Hid (ofS s.data.toList = (n, a, ⟨[], [], []⟩)) := by
      have : n ≠ 0 := by omega
      show _ = _; unfold ofS Gr.ofG; rw [hE]; simp [this]
    have hne : n ≠ 0 := by omega
    have HG : Hid (tokensG s.data.toList = (n, a, [])) := hG
    clear hE hn ha hG
    go_enter Tryz.func40, Tryz.ntmps40
    go_wp2_with fail
    refine (rtokens_is s n a [] [] _ hs HG rfl).mono ?_
    rintro e w1 ⟨ao, c, rfl, hb1, ht1, hc1⟩
    go_wp2_with fail
    refine (throwOn_err n a hne _).mono ?_
    rintro e w4 ⟨rfl, hb4⟩
    have hfin : Hid (Below w.heap.size w w4) := (hb1.out.alloc hb1.out.size _).trans (hb4.mono (by have := hb1.out.size; simp; omega))
    unfold thrown
    go_wp2_with fail
    exact ⟨rfl, hfin.out, .inl ⟨(n, a), HE.out, rfl⟩⟩

theorem gassert_fault (x : Value) (w : World) : (Instr.typeAssert (.iface 51 x) 20 51 true).run Tryz.prog w = .ok (.tuple #[x, .bool true]) w := by kernel_rfl

set_option maxHeartbeats 400000 in
theorem gfaultOf_any (a b : Int) (w : World) :
    Calls Tryz.prog 38 #[.iface 51 (.agg #[.int .i64 a, .int .i64 b])] w fun e w' => e = .returned (.agg #[.int .i64 a, .int .i64 b]) ∧ Below w.heap.size w w' := by
  have hta := gassert_fault (.agg #[.int .i64 a, .int .i64 b])
  go_enter Tryz.func38, Tryz.ntmps38
  go_wp2
  refine bodyPost_ret (v := .agg #[.int .i64 a, .int .i64 b]) (by simp [results, Tryz.results38, go_sem]) rfl ⟨rfl, ?_⟩
  exact ((Below.refl _ w).alloc (Nat.le_refl _) _).alloc (by simp) _

set_option maxHeartbeats 800000 in
theorem gcatch_panicking (B : Nat) (v0 v1 v2 u1 u2 : Value) (a b : Int) (older : List PanicEntry) (w : World)
    (h0 : w.cell? ⟨B, 0, none⟩ = some v0) (z0 : w.frozen? ⟨B, 0, none⟩ = false) (h1 : w.cell? ⟨B, 1, none⟩ = some v1) (z1 : w.frozen? ⟨B, 1, none⟩ = false) (h2 : w.cell? ⟨B, 2, none⟩ = some v2) (z2 : w.frozen? ⟨B, 2, none⟩ = false)
    (hC : w.cell? ⟨B + 1, 0, none⟩ = some u1) (hCz : w.frozen? ⟨B + 1, 0, none⟩ = false) (hD : w.cell? ⟨B + 1, 1, none⟩ = some u2) (hDz : w.frozen? ⟨B + 1, 1, none⟩ = false) :
    CallsD Tryz.prog 37 #[.pointer (some ⟨B, 0, none⟩), .pointer (some ⟨B + 1, 0, none⟩)] (.panicking ({ v := .iface 51 (.agg #[.int .i64 a, .int .i64 b]), recovered := false } :: older)) w fun e u' w' =>
      e = .returned (.tuple #[]) ∧ u' = .panicking ({ v := .iface 51 (.agg #[.int .i64 a, .int .i64 b]), recovered := true } :: older) ∧
      ∃ w1, Below w.heap.size w w1 ∧ w' = ((((w1.setCell ⟨B, 0, none⟩ (.slice none 0 0)).setCell ⟨B, 1, none⟩ (.slice none 0 0)).setCell ⟨B, 2, none⟩ (.slice none 0 0)).setCell ⟨B + 1, 0, none⟩ (.int .i64 a)).setCell ⟨B + 1, 1, none⟩ (.int .i64 b) := by
  refine callsD_of_wpS Tryz.func37 rfl fun c₀ cs hu => ?_
  apply wpS_seq
  apply wpS_region
  simp [wpOpsS, go_sem, recoverD, hu, Tryz.ntmps37, Exit.thenS]
  apply wpS_seq
  apply wpS_region
  simp [wpOpsS, go_sem, Exit.thenS]
  refine wpS_cond (t := true) (by simp [Act.eval, Array.replicate]) ?_
  simp only [if_true]
  refine wpS_of_wp ?_
  have ht : (#[Value.pointer (some ⟨B, 0, none⟩), Value.pointer (some ⟨B + 1, 0, none⟩)] ++
          ((((Array.replicate 7 undef).setIfInBounds 1 (Value.iface 51 (Value.agg #[Value.int IntKind.i64 a, Value.int IntKind.i64 b]))).setIfInBounds
                    0 (Value.iface 51 (Value.agg #[Value.int IntKind.i64 a, Value.int IntKind.i64 b]))).setIfInBounds
                2 (Value.iface 51 (Value.agg #[Value.int IntKind.i64 a, Value.int IntKind.i64 b]))).setIfInBounds
            3 (Value.bool true)) = #[Value.pointer (some ⟨B, 0, none⟩), Value.pointer (some ⟨B + 1, 0, none⟩), .iface 51 (.agg #[.int .i64 a, .int .i64 b]), .iface 51 (.agg #[.int .i64 a, .int .i64 b]), .iface 51 (.agg #[.int .i64 a, .int .i64 b]), .bool true, undef, undef, undef] := rfl
  rw [ht]
  clear ht hu
  go_wp2_with fail
  refine (gfaultOf_any a b _).mono ?_
  rintro e w1 ⟨rfl, hb⟩
  have c0 := cell_later hb h0
  have c1 := cell_later hb h1
  have c2 := cell_later hb h2
  have c3 := cell_later hb hC
  have c4 := cell_later hb hD
  have f0 : w1.frozen? ⟨B, 0, none⟩ = false := (hb.frozen (World.block_lt_of_cell? _ _ h0)).trans z0
  have f1 : w1.frozen? ⟨B, 1, none⟩ = false := (hb.frozen (World.block_lt_of_cell? _ _ h1)).trans z1
  have f2 : w1.frozen? ⟨B, 2, none⟩ = false := (hb.frozen (World.block_lt_of_cell? _ _ h2)).trans z2
  have f3 : w1.frozen? ⟨B + 1, 0, none⟩ = false := (hb.frozen (World.block_lt_of_cell? _ _ hC)).trans hCz
  have f4 : w1.frozen? ⟨B + 1, 1, none⟩ = false := (hb.frozen (World.block_lt_of_cell? _ _ hD)).trans hDz
  clear h0 h1 h2 z0 z1 z2 hC hD hCz hDz
  go_wp2
  simp [bodyPostS, results, Tryz.results37]
  exact ⟨w1, hb, rfl⟩

set_option maxHeartbeats 800000 in
theorem gcatch_idle (p q : Addr) (w : World) :
    CallsD Tryz.prog 37 #[.pointer (some p), .pointer (some q)] .returning w fun e u' w' => e = .returned (.tuple #[]) ∧ u' = .returning ∧ w' = w := by
  refine callsD_of_wpS Tryz.func37 rfl fun c₀ cs hu => ?_
  apply wpS_seq
  apply wpS_region
  simp [wpOpsS, go_sem, recoverD, hu, Tryz.ntmps37, Exit.thenS]
  apply wpS_seq
  apply wpS_region
  simp [wpOpsS, go_sem, Exit.thenS]
  refine wpS_cond (t := false) (by simp [Act.eval, Array.replicate]) ?_
  simp only [Bool.false_eq_true, if_false]
  refine wpS_of_wp (wp_skip ?_)
  cases c₀
  simp_all [bodyPostS, results, Tryz.results37]

/-- what Of comes to -/
def OfPost (l : List UInt8) (w : World) (e : Ending) (w' : World) : Prop :=
  Below w.heap.size w w' ∧ ∃ A, e = .returned (.tuple #[.agg (gmCells (ofS l).2.2 A), .agg #[.int .i64 (ofS l).1, .int .i64 (ofS l).2.1]]) ∧ GmOwn w.heap.size w' (ofS l).2.2 A

set_option maxHeartbeats 3200000 in
theorem of_any (s : ByteArray) (w : World) (hs : s.size ≤ maxLen) : Calls Tryz.prog 21 #[.string s] w (OfPost s.data.toList w) := by
  have hmf : ∀ (fn : Fn) (first cap : Array Value) (w : World), (Instr.makeFunc fn first cap).run Tryz.prog w = .ok (.func fn first cap) w := fun _ _ _ _ => rfl
  have GT : Hid (∀ (er : Rd.Er) (w' : World), ofS s.data.toList = (er.1, er.2, ⟨[], [], []⟩) → Below w.heap.size w w' → OfPost s.data.toList w (.returned (.tuple #[.agg #[.slice none 0 0, .slice none 0 0, .slice none 0 0], .agg #[.int .i64 er.1, .int .i64 er.2]])) w') := fun er w' he hb => by
    refine ⟨hb, ⟨none, 0, none, 0, none, 0⟩, ?_, ?_⟩
    · rw [he]; rfl
    · rw [he]; exact GmOwn.none _ _
  go_enter_defers Tryz.func21, Tryz.ntmps21
  go_wp2_with fail
  refine (altsOf_any s _ hs).mono ?_
  rintro e w1 ⟨hb, hcase⟩
  have hb0 : Hid (Below w.heap.size w w1) := (((Below.refl _ w).alloc (Nat.le_refl _) _).alloc (by simp) _).trans (hb.mono (by simp; omega))
  have hz : w.heap.size + 1 < w1.heap.size := by have := hb.size; simp at this; omega
  have hz0 : w.heap.size < w1.heap.size := by omega
  have c0 : w1.cell? ⟨w.heap.size, 0, none⟩ = some (.slice none 0 0) := (hb.cell (by simp; omega)).trans (by simp [go_sem])
  have c1 : w1.cell? ⟨w.heap.size, 1, none⟩ = some (.slice none 0 0) := (hb.cell (by simp; omega)).trans (by simp [go_sem])
  have c2 : w1.cell? ⟨w.heap.size, 2, none⟩ = some (.slice none 0 0) := (hb.cell (by simp; omega)).trans (by simp [go_sem])
  have c3 : w1.cell? ⟨w.heap.size + 1, 0, none⟩ = some (.int .i64 0) := (hb.cell (by simp)).trans (by simp [go_sem])
  have c4 : w1.cell? ⟨w.heap.size + 1, 1, none⟩ = some (.int .i64 0) := (hb.cell (by simp)).trans (by simp [go_sem])
  have f0 : w1.frozen? ⟨w.heap.size, 0, none⟩ = false := (hb.frozen (by simp; omega)).trans (by simp [go_sem])
  have f1 : w1.frozen? ⟨w.heap.size, 1, none⟩ = false := (hb.frozen (by simp; omega)).trans (by simp [go_sem])
  have f2 : w1.frozen? ⟨w.heap.size, 2, none⟩ = false := (hb.frozen (by simp; omega)).trans (by simp [go_sem])
  have f3 : w1.frozen? ⟨w.heap.size + 1, 0, none⟩ = false := (hb.frozen (by simp)).trans (by simp [go_sem])
  have f4 : w1.frozen? ⟨w.heap.size + 1, 1, none⟩ = false := (hb.frozen (by simp)).trans (by simp [go_sem])
  rcases hcase with ⟨⟨n, a⟩, HE, rfl⟩ | ⟨xs, xo, xc, HE, h60, h8, hx, rfl, hals⟩
  · have HE' : Hid _ := HE
    clear HE hb
    unfold thrown
    go_wp2_with fail
    refine leaves_cons (f := 37) (args := #[.pointer (some ⟨w.heap.size, 0, none⟩), .pointer (some ⟨w.heap.size + 1, 0, none⟩)]) (by simp) (by simp [go_sem]) ?_
    refine (gcatch_panicking w.heap.size _ _ _ _ _ n a [] _ c0 f0 c1 f1 c2 f2 c3 f3 c4 f4).mono ?_
    rintro e u' w'' ⟨rfl, rfl, w2, hb2, rfl⟩
    have hb3 : Below w.heap.size w w2 := hb0.out.trans (hb2.mono (by omega))
    have P := GT.out (n, a) (((((w2.setCell ⟨w.heap.size, 0, none⟩ (.slice none 0 0)).setCell ⟨w.heap.size, 1, none⟩ (.slice none 0 0)).setCell ⟨w.heap.size, 2, none⟩ (.slice none 0 0)).setCell ⟨w.heap.size + 1, 0, none⟩ (.int .i64 n)).setCell ⟨w.heap.size + 1, 1, none⟩ (.int .i64 a)) HE'.out
      (((((hb3.setCell (by exact Nat.le_refl _) _).setCell (by exact Nat.le_refl _) _).setCell (by exact Nat.le_refl _) _).setCell (by exact Nat.le_succ _) _).setCell (by exact Nat.le_succ _) _)
    have d0 := cell_later hb2 c0
    have d1 := cell_later hb2 c1
    have d2 := cell_later hb2 c2
    have d3 := cell_later hb2 c3
    have d4 := cell_later hb2 c4
    simp [Leaves, settle, results, Tryz.results21, go_sem, d0, d1, d2, d3, d4]
    exact P
  · have HE' : Hid _ := HE
    have H8 : Hid _ := h8
    have HX : Hid _ := hx
    have HA : Hid (AlsAt ((w.alloc (Obj.cells #[Value.slice none 0 0, Value.slice none 0 0, Value.slice none 0 0] 25)).alloc (Obj.cells #[Value.int IntKind.i64 0, Value.int IntKind.i64 0] 51)).heap.size w1 (.slice xo xs.length xc) xs) := hals
    clear HE hb h8 hx hals
    go_wp2_with fail
    refine (grammarOf_any xs h60 H8.out HX.out xo xc _ w1 HA.out).mono ?_
    rintro e w2 ⟨hb2, hcase⟩
    have hbw2 : Hid (Below w.heap.size w w2) := hb0.out.trans (hb2.mono hb0.out.size)
    have hz2 : w.heap.size + 1 < w2.heap.size := Nat.lt_of_lt_of_le hz hb2.size
    replace c0 := cell_later hb2 c0
    replace c1 := cell_later hb2 c1
    replace c2 := cell_later hb2 c2
    replace c3 := cell_later hb2 c3
    replace c4 := cell_later hb2 c4
    replace f0 : w2.frozen? ⟨w.heap.size, 0, none⟩ = false := (hb2.frozen hz0).trans f0
    replace f1 : w2.frozen? ⟨w.heap.size, 1, none⟩ = false := (hb2.frozen hz0).trans f1
    replace f2 : w2.frozen? ⟨w.heap.size, 2, none⟩ = false := (hb2.frozen hz0).trans f2
    replace f3 : w2.frozen? ⟨w.heap.size + 1, 0, none⟩ = false := (hb2.frozen hz).trans f3
    replace f4 : w2.frozen? ⟨w.heap.size + 1, 1, none⟩ = false := (hb2.frozen hz).trans f4
    rcases hcase with ⟨⟨n, a⟩, hG, rfl⟩ | ⟨g, A, hG, rfl, hgm⟩
    · have HE2 : Hid (ofS s.data.toList = (n, a, ⟨[], [], []⟩)) := by show _ = _; rw [HE'.out, hG]; rfl
      clear HE' hG hb2 HA
      unfold thrown
      go_wp2_with fail
      refine leaves_cons (f := 37) (args := #[.pointer (some ⟨w.heap.size, 0, none⟩), .pointer (some ⟨w.heap.size + 1, 0, none⟩)]) (by simp) (by simp [go_sem]) ?_
      refine (gcatch_panicking w.heap.size _ _ _ _ _ n a [] _ c0 f0 c1 f1 c2 f2 c3 f3 c4 f4).mono ?_
      rintro e u' w'' ⟨rfl, rfl, w3, hb3, rfl⟩
      have hb4 : Below w.heap.size w w3 := hbw2.out.trans (hb3.mono (by omega))
      have P := GT.out (n, a) (((((w3.setCell ⟨w.heap.size, 0, none⟩ (.slice none 0 0)).setCell ⟨w.heap.size, 1, none⟩ (.slice none 0 0)).setCell ⟨w.heap.size, 2, none⟩ (.slice none 0 0)).setCell ⟨w.heap.size + 1, 0, none⟩ (.int .i64 n)).setCell ⟨w.heap.size + 1, 1, none⟩ (.int .i64 a)) HE2.out
        (((((hb4.setCell (by exact Nat.le_refl _) _).setCell (by exact Nat.le_refl _) _).setCell (by exact Nat.le_refl _) _).setCell (by exact Nat.le_succ _) _).setCell (by exact Nat.le_succ _) _)
      have d0 := cell_later hb3 c0
      have d1 := cell_later hb3 c1
      have d2 := cell_later hb3 c2
      have d3 := cell_later hb3 c3
      have d4 := cell_later hb3 c4
      simp [Leaves, settle, results, Tryz.results21, go_sem, d0, d1, d2, d3, d4]
      exact P
    · have HE2 : Hid (ofS s.data.toList = (0, 0, g)) := by show _ = _; rw [HE'.out, hG]; rfl
      have HO : Hid (GmOwn w1.heap.size w2 g A) := hgm
      clear HE' hG hb2 HA hgm
      unfold gmCells
      go_wp2_with fail
      refine leaves_cons (f := 37) (args := #[.pointer (some ⟨w.heap.size, 0, none⟩), .pointer (some ⟨w.heap.size + 1, 0, none⟩)]) (by simp) (by simp [go_sem]) ?_
      refine (gcatch_idle ⟨w.heap.size, 0, none⟩ ⟨w.heap.size + 1, 0, none⟩ _).mono ?_
      rintro e u' w'' ⟨rfl, rfl, rfl⟩
      have P : OfPost s.data.toList w (.returned (.tuple #[.agg #[.slice A.ta g.terms.length A.tc, .slice A.na g.names.length A.nc, .slice A.ra g.rules.length A.rc], .agg #[.int .i64 0, .int .i64 0]])) (((((w2.setCell ⟨w.heap.size, 0, none⟩ (.slice A.ta g.terms.length A.tc)).setCell ⟨w.heap.size, 1, none⟩ (.slice A.na g.names.length A.nc)).setCell ⟨w.heap.size, 2, none⟩ (.slice A.ra g.rules.length A.rc)).setCell ⟨w.heap.size + 1, 0, none⟩ (.int .i64 0)).setCell ⟨w.heap.size + 1, 1, none⟩ (.int .i64 0)) := by
        refine ⟨((((hbw2.out.setCell (by exact Nat.le_refl _) _).setCell (by exact Nat.le_refl _) _).setCell (by exact Nat.le_refl _) _).setCell (by exact Nat.le_succ _) _).setCell (by exact Nat.le_succ _) _, A, ?_, ?_⟩
        · rw [HE2.out]; rfl
        · rw [HE2.out]
          exact (((((HO.out.setCell (by exact hz0) _).setCell (by exact hz0) _).setCell (by exact hz0) _).setCell (by exact hz) _).setCell (by exact hz) _).from (Nat.le_of_lt hz0)
      simp [Leaves, settle, results, Tryz.results21, go_sem, c0, c1, c2, c3, c4]
      exact P

/-- Of where what it comes to is known -/
theorem of_is (s : ByteArray) (E At : Int) (g : Gr.Gm) (w : World) (hs : s.size ≤ maxLen) (HG : Hid (ofS s.data.toList = (E, At, g))) :
    Calls Tryz.prog 21 #[.string s] w fun e w' => ∃ A, e = .returned (.tuple #[.agg (gmCells g A), .agg #[.int .i64 E, .int .i64 At]]) ∧ Hid (Below w.heap.size w w') ∧ Hid (GmOwn w.heap.size w' g A) := by
  refine (of_any s w hs).mono ?_
  rintro e w1 ⟨hb, A, rfl, hown⟩
  rw [HG.out] at hown ⊢
  exact ⟨A, rfl, hb, hown⟩
end Go.Proofs.YtdjjconccneaiaaGreat
