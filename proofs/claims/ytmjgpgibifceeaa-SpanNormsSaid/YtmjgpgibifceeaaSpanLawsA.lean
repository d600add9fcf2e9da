/-
  The walk of layer 4's law SpanPlaces: it returns true, and writes nothing that was there.
-/
import Derived.Test.YtmjgpgibifceeaaSpanKnown
import Derived.Deep.DeepCutAuto
namespace Go.Proofs.Ytmjgpgibifceeaa
open Go.RowKit Go.Deep

theorem has_one (l : List Sp) (n : Int) : hasL l (n, n + 1) = true ↔ places l n := by
  rw [has_iff]
  exact ⟨fun h => h n (Int.le_refl _) (by simp only; omega), fun h x h1 h2 => by simp only at h1 h2; rwa [show x = n by omega]⟩
theorem has_none (l : List Sp) {s : Sp} (h : s.2 ≤ s.1) : hasL l s = true := (has_iff l s).2 (fun x h1 h2 => by omega)
theorem holes_all (l : List Sp) {s : Sp} (h1 : -9223372036854775808 ≤ s.1) (h2 : s.2 ≤ 9223372036854775807) : AllS (holesL l s) := by
  intro u hu
  have h3 := (holes_right l s).1 u hu
  have h4 := ((holes_places l s u.1).1 (places_mem hu (Int.le_refl _) h3)).1
  have h5 := ((holes_places l s (u.2 - 1)).1 (places_mem hu (by omega) (by omega))).1
  omega
theorem holesGo_length (l : List Sp) : ∀ a z, (holesGo l a z).length ≤ l.length + 1 := by
  induction l with
  | nil => intro a z; rw [holesGo]; split <;> simp
  | cons t l ih =>
    intro a z
    rw [holesGo]
    split
    · have := ih a z; simp; omega
    · split
      · have := ih t.2 z; simp; omega
      · have := ih t.2 z; simp; omega
theorem holes_length {l : List Sp} (hl : AllS l) (s : Sp) : (holesL l s).length ≤ l.length + 1 := by
  have := holesGo_length (normL l) s.1 s.2
  have := normL_length hl
  unfold holesL
  omega
theorem holes_has (l : List Sp) (s : Sp) (n : Int) : hasL (holesL l s) (n, n + 1) = (decide (s.1 ≤ n ∧ n < s.2) && !hasL l (n, n + 1)) := by
  rw [Bool.eq_iff_iff, has_one, holes_places, Bool.and_eq_true, decide_eq_true_eq, Bool.not_eq_true', Bool.eq_false_iff, ne_eq, has_one]
theorem has_holes (l : List Sp) (s : Sp) : hasL l s = (((holesL l s).length : Int) == 0) := (has_len l s).symm
theorem right_true {l : List Sp} (h : RightL l) : rightB l = true := rightB_iff.2 h

set_option maxRecDepth 100000 in
set_option maxHeartbeats 4000000 in
theorem places_walk (at_ f t : Nat) (A : Option Addr) (len cap : Nat) (c : List Int) (w : World) (ha : at_ < 256) (hf : f < 256) (ht : t < 256) (hc : AllB c) (hb : Bytes w w.heap.size (.slice A len cap) c) :
    Calls Try.prog 5 #[.slice A len cap, .int .u8 at_, .int .u8 f, .int .u8 t] w fun e w' => e = .returned (.bool true) ∧ Below w.heap.size w w' := by
  have HY := Lib.hid hb
  have HA := Lib.hid hc
  have HAl := Lib.hid (rowL_all hc)
  have HLl := Lib.hid (rowL_length c)
  obtain ⟨n, hn⟩ : ∃ n : Int, (at_ : Int) % 70 = n := ⟨_, rfl⟩
  obtain ⟨F, hF⟩ : ∃ F : Int, (f : Int) % 70 = F := ⟨_, rfl⟩
  obtain ⟨T, hT⟩ : ∃ T : Int, (t : Int) % 70 = T := ⟨_, rfl⟩
  have n0 : 0 ≤ n ∧ n < 70 := by omega
  have F0 : 0 ≤ F ∧ F < 70 := by omega
  have T0 : 0 ≤ T ∧ T < 70 := by omega
  have t1 : (at_ : Int).tmod 70 = n := by rw [Int.tmod_eq_emod_of_nonneg (by omega)]; exact hn
  have t2 : (f : Int).tmod 70 = F := by rw [Int.tmod_eq_emod_of_nonneg (by omega)]; exact hF
  have t3 : (t : Int).tmod 70 = T := by rw [Int.tmod_eq_emod_of_nonneg (by omega)]; exact hT
  clear hc hb ha hf ht
  go_enter Try.func5, Try.ntmps5
  go_wp2_with fail
  refine (row_any _ c w HY.out HA.out).mono ?_
  rintro e w1 ⟨v1, rfl, ho1, hB1⟩
  have HL1 := Lib.hid ho1.spans
  clear ho1
  generalize rowL c = l at *
  go_wp2_with fail
  have hB1a := (Below.refl w1.heap.size w1).alloc (Nat.le_refl _) (.cells #[.int .i64 F, .int .i64 T] 24)
  refine (holes_any _ l F T _ (HL1.out.on hB1a) HAl.out (by have := HLl.out; omega)).mono ?_
  rintro e w2 ⟨v2, rfl, ho2, hB2⟩
  have hBa : Below w1.heap.size w1 w2 := hB1a.trans (hB2.mono hB1a.size)
  have hbx := (Box2.new w1 F T).of_block (w' := w2) (hB2.block _ (by simp))
  have HBX := Lib.hid hbx
  have hbs0 := hbx.lt
  have hAh := holes_all l (s := (F, T)) (by simp only; omega) (by simp only; omega)
  have HAh := Lib.hid hAh
  have HLh0 := Lib.hid (holes_length HAl.out (F, T))
  have HRt := Lib.hid (right_true (holes_right l (F, T)))
  have HNn := Lib.hid (has_none l (s := (n, n)) (Int.le_refl _))
  obtain ⟨I, hI⟩ : ∃ I, decide (F ≤ n ∧ n < T) = I := ⟨_, rfl⟩
  obtain ⟨P, hP⟩ : ∃ P, hasL l (n, n + 1) = P := ⟨_, rfl⟩
  have HI := Lib.hid hI
  have HP := Lib.hid hP
  have HQ : Hid (hasL (holesL l (F, T)) (n, n + 1) = (I && !P)) := Lib.hid (by rw [holes_has, hP]; simp only; rw [hI])
  have hft := has_holes l (F, T)
  obtain ⟨A2, c2, hv2, -⟩ := ho2.spans
  have HL2a := Lib.hid ho2.spans
  clear hB2 hbx hAh hI hP ho2
  generalize holesL l (F, T) = h at *
  obtain ⟨lh, hlh⟩ : ∃ k, k = h.length := ⟨_, rfl⟩
  rw [← hlh] at hv2 hft
  have HLh : Hid (h.length ≤ 31) := Lib.hid (by have := HLh0.out; have := HLl.out; omega)
  have hlh2 : lh ≤ 31 := by rw [hlh]; exact HLh.out
  obtain ⟨z, hz⟩ : ∃ z, ((lh : Int) == 0) = z := ⟨_, rfl⟩
  rw [hz] at hft
  have HFT := Lib.hid hft
  have HL1b := Lib.hid (HL1.out.on hBa)
  subst hv2
  clear hft hlh
  go_upto_region 6 with fail
  have hS2 : Below w2.heap.size w2 (w2.alloc (.cells #[.int .i64 n, .int .i64 (n + 1)] 24)) := (Below.refl _ _).alloc (Nat.le_refl _) _
  have b3 := Box2.new w2 n (n + 1)
  have b4 : Box2 (w2.alloc (.cells #[.int .i64 n, .int .i64 (n + 1)] 24)) w1.heap.size F T := HBX.out.of_block (hS2.block _ hbs0)
  generalize (w2.alloc (.cells #[.int .i64 n, .int .i64 (n + 1)] 24)) = W at *
  have hbs := b4.lt
  have hbp := b3.lt
  obtain ⟨s0, s1⟩ := b4.cells
  obtain ⟨p0, p1⟩ := b3.cells
  clear b3 b4
  go_cut [14] (fun s14 wx => s14 = .bool I ∧ W = wx)
  case first =>
    by_cases h1 : F ≤ n
    · by_cases h2 : n < T
      · have HE : Hid (true = I) := Lib.hid (by rw [← HI.out]; exact (decide_eq_true ⟨h1, h2⟩).symm)
        go_wp2_with fail
        go_meet
        exact ⟨congrArg Value.bool HE.out, rfl⟩
      · have HE : Hid (false = I) := Lib.hid (by rw [← HI.out]; exact (decide_eq_false (fun h => h2 h.2)).symm)
        go_wp2_with fail
        go_meet
        exact ⟨congrArg Value.bool HE.out, rfl⟩
    · have HE : Hid (false = I) := Lib.hid (by rw [← HI.out]; exact (decide_eq_false (fun h => h1 h.1)).symm)
      go_wp2_with fail
      go_meet
      exact ⟨congrArg Value.bool HE.out, rfl⟩
  case rest =>
    obtain ⟨rfl, rfl⟩ := hcut
    have HL2 := HL2a
    have HL3 := HL1b
    go_wp2_with fail
    refine (known_any _).mono ?_
    rintro e w4 ⟨rfl, hB4a⟩
    have x0 := (hB4a.cell (p := ⟨w2.heap.size, 0, none⟩) hbp).trans p0
    have x1 := (hB4a.cell (p := ⟨w2.heap.size, 1, none⟩) hbp).trans p1
    go_wp2_with fail
    refine (has_any _ h n (n + 1) _ (HL2.out.on (bseq hS2 hB4a)) HAh.out (by have := HLh.out; omega)).mono ?_
    rintro e w5 ⟨rfl, hB5⟩
    rw [HQ.out]
    have hB5a := bseq hB4a hB5
    have z0 := (hB5a.cell (p := ⟨w2.heap.size, 0, none⟩) hbp).trans p0
    have z1 := (hB5a.cell (p := ⟨w2.heap.size, 1, none⟩) hbp).trans p1
    clear x0 x1
    cases I with
    | false =>
      rw [Bool.false_and]
      have hB4 := hB5a
      go_wp2_with fail
      refine (right_any _ h _ (HL2.out.on (bseq hS2 hB4)) (by have := HLh.out; omega)).mono ?_
      rintro e w6 ⟨rfl, hB6⟩
      rw [HRt.out]
      have hB7 := bseq hB4 hB6
      go_wp2_with fail
      refine (has_any _ l n n _ (HL3.out.on (bseq hS2 hB7)) HAl.out (by have := HLl.out; omega)).mono ?_
      rintro e w7 ⟨rfl, hB8⟩
      rw [HNn.out]
      have hB9 := bseq hB7 hB8
      have y0 := (hB9.cell (p := ⟨w1.heap.size, 0, none⟩) hbs).trans s0
      have y1 := (hB9.cell (p := ⟨w1.heap.size, 1, none⟩) hbs).trans s1
      go_wp2_with fail
      refine (has_any _ l F T _ (HL3.out.on (bseq hS2 hB9)) HAl.out (by have := HLl.out; omega)).mono ?_
      rintro e w8 ⟨rfl, hB10⟩
      rw [HFT.out]
      go_wp2_with fail
      go_ret
      exact ⟨by simp, bseq (bseq hB1 hBa) (bseq hS2 (bseq hB9 hB10))⟩
    | true =>
      rw [Bool.true_and]
      go_wp2_with fail
      refine (has_any _ l n (n + 1) _ (HL3.out.on (bseq hS2 hB5a)) HAl.out (by have := HLl.out; omega)).mono ?_
      rintro e w5b ⟨rfl, hB5b⟩
      rw [HP.out]
      have hB4 := bseq hB5a hB5b
      cases P with
      | false =>
        go_wp2_with fail
        refine (right_any _ h _ (HL2.out.on (bseq hS2 hB4)) (by have := HLh.out; omega)).mono ?_
        rintro e w6 ⟨rfl, hB6⟩
        rw [HRt.out]
        have hB7 := bseq hB4 hB6
        go_wp2_with fail
        refine (has_any _ l n n _ (HL3.out.on (bseq hS2 hB7)) HAl.out (by have := HLl.out; omega)).mono ?_
        rintro e w7 ⟨rfl, hB8⟩
        rw [HNn.out]
        have hB9 := bseq hB7 hB8
        have y0 := (hB9.cell (p := ⟨w1.heap.size, 0, none⟩) hbs).trans s0
        have y1 := (hB9.cell (p := ⟨w1.heap.size, 1, none⟩) hbs).trans s1
        go_wp2_with fail
        refine (has_any _ l F T _ (HL3.out.on (bseq hS2 hB9)) HAl.out (by have := HLl.out; omega)).mono ?_
        rintro e w8 ⟨rfl, hB10⟩
        rw [HFT.out]
        go_wp2_with fail
        go_ret
        exact ⟨by simp, bseq (bseq hB1 hBa) (bseq hS2 (bseq hB9 hB10))⟩
      | true =>
        go_wp2_with fail
        refine (right_any _ h _ (HL2.out.on (bseq hS2 hB4)) (by have := HLh.out; omega)).mono ?_
        rintro e w6 ⟨rfl, hB6⟩
        rw [HRt.out]
        have hB7 := bseq hB4 hB6
        go_wp2_with fail
        refine (has_any _ l n n _ (HL3.out.on (bseq hS2 hB7)) HAl.out (by have := HLl.out; omega)).mono ?_
        rintro e w7 ⟨rfl, hB8⟩
        rw [HNn.out]
        have hB9 := bseq hB7 hB8
        have y0 := (hB9.cell (p := ⟨w1.heap.size, 0, none⟩) hbs).trans s0
        have y1 := (hB9.cell (p := ⟨w1.heap.size, 1, none⟩) hbs).trans s1
        go_wp2_with fail
        refine (has_any _ l F T _ (HL3.out.on (bseq hS2 hB9)) HAl.out (by have := HLl.out; omega)).mono ?_
        rintro e w8 ⟨rfl, hB10⟩
        rw [HFT.out]
        go_wp2_with fail
        go_ret
        exact ⟨by simp, bseq (bseq hB1 hBa) (bseq hS2 (bseq hB9 hB10))⟩

end Go.Proofs.Ytmjgpgibifceeaa
