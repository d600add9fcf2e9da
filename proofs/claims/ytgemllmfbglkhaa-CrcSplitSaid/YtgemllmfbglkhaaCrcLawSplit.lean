/-
  The walk of layer 2's law CrcSplit: it returns true, and writes nothing that was there.
-/
import Derived.Test.YtgemllmfbglkhaaCrcKnown
import Derived.LaidEqlPtr
namespace Go.Proofs.Ytgemllmfbglkhaa
open Go.RowKit Go.Deep

theorem nats_append (l m : List Int) : nats (l ++ m) = nats l ++ nats m := by simp [nats]
theorem more_zero (b B : Nat) (v : Value) (l : List Int) (w : World) (h : Bytes w B v l) (hl : AllB l) (ht : TabAt w B b) :
    Calls Try.prog 15 #[.pointer (some ⟨b, 0, none⟩), .int .u32 0, v] w fun e w' => e = .returned (.int .u32 (crcSum (nats l) : Nat)) ∧ w = w' := more_any 0 b B v l w (by omega) h hl ht
theorem split_sum (l m : List Int) : crcMore (crcSum (nats l)) (nats m) = crcSum (nats (l ++ m)) := by
  rw [nats_append]
  exact crcMore_append 0 (nats l) (nats m)

theorem info_tab : (Try.prog.info? 43).map (·.size) = some 256 := by kernel_rfl
/-- two tables are not one -/
theorem tabs_apart {w : World} {a b : Nat} {f g : Nat → Value} (ha : w.rowIs a 43 256 f) (hb : w.rowIs b 43 256 g) (hne : a ≠ b) : (binOp .eql 25 (.pointer (some ⟨a, 0, none⟩)) (.pointer (some ⟨b, 0, none⟩))).run Try.prog w = .ok (.bool false) w := by
  obtain ⟨ca, h1, _⟩ := ha
  obtain ⟨cb, h2, _⟩ := hb
  obtain ⟨j, hj, hs⟩ := Option.map_eq_some_iff.1 info_tab
  exact run_eql_ptr_other w Try.underlying25 hj (by omega) (fun e => hne (by injection e)) h1 h2

set_option maxRecDepth 100000 in
set_option maxHeartbeats 4000000 in
theorem split_walk (k : Nat) (A A' : Option Addr) (len cap len' cap' : Nat) (l l' : List Int) (w : World) (hk : k < 256) (hsum : len + len' ≤ 9223372036854775807) (hlen : l.length = len) (hl : AllB l) (hb : Bytes w w.heap.size (.slice A len cap) l) (hlen' : l'.length = len') (hl' : AllB l') (hb' : Bytes w w.heap.size (.slice A' len' cap') l') :
    Calls Try.prog 4 #[.slice A len cap, .slice A' len' cap', .int .u8 k] w fun e w' => e = .returned (.bool true) ∧ Below w.heap.size w w' := by
  have HB := Lib.hid hb
  have HL := Lib.hid hlen
  have HB' := Lib.hid hb'
  have HL' := Lib.hid hlen'
  clear hb hlen hb' hlen'
  by_cases hlong : 500 < len + len'
  · go_enter Try.func4, Try.ntmps4
    go_wp2_with (go_at_call 10; refine (known_any _).mono ?_; rintro e w1 ⟨rfl, hB⟩)
    go_ret
    exact ⟨rfl, hB⟩
  · obtain ⟨v1, w1, hr1, ho1, hg1⟩ := append_bytes w w.heap.size w.heap.size 23 (.slice none 0 0) 0 [] (.slice A len cap) l (World.ownsRow_nil _ _ _ _) HB.out (by rw [HL.out]; omega) (Nat.le_refl _)
    rw [Nat.zero_add, List.nil_append] at ho1
    have hB1 : Below w.heap.size w w1 := (Below.refl _ _).grown hg1 (Nat.le_refl _) (fun g e => by cases e)
    obtain ⟨v2, w2, hr2, ho2, hg2⟩ := append_bytes w1 w.heap.size w1.heap.size 23 v1 l.length (l.map (Value.int .u8)) (.slice A' len' cap') l' ho1 (HB'.out.on hB1) (by rw [HL.out, HL'.out]; omega) hB1.size
    have hB2 : Below w.heap.size w w2 := hB1.grown hg2 hB1.size (fun g e => (ho1.lt g e).1)
    rw [← List.map_append, ← List.length_append] at ho2
    have HY2 := Lib.hid (own_bytes ho2)
    have HR1 := Lib.hid hr1
    have HR2 := Lib.hid hr2
    have HSum := Lib.hid (split_sum l l')
    have hs1 := crcSum_lt (nats_BB hl)
    have hs2 := crcSum_lt (nats_BB (hl.append hl'))
    clear hr1 ho1 hg1 hr2 ho2 hg2
    have HA2 := Lib.hid (hl.append hl')
    go_enter Try.func4, Try.ntmps4
    go_wp2_with (first
      | (at_builtin; refine Lib.wpList_append_run _ rfl _ _ _ _ rfl _ _ rfl rfl _ _ HR1.out ?_)
      | (at_builtin; refine Lib.wpList_append_run _ rfl _ _ _ _ rfl _ _ rfl rfl _ _ HR2.out ?_))
    refine (table_row w2).mono ?_
    rintro e w3 ⟨rfl, hrow3, hB3⟩
    have HT3 : Hid (TabAt w3 w3.heap.size w2.heap.size) := Lib.hid ⟨hrow3.lt, fun i hi => hrow3.cell hi⟩
    have hne := hrow3.lt
    have HRow3 := Lib.hid hrow3
    clear hrow3
    go_wp2_with fail
    refine (table_row w3).mono ?_
    rintro e w4 ⟨rfl, hrow4, hB4⟩
    have hc4 := hrow4.cell hk
    have hf4 := hrow4.frozen k
    have HE4 : Hid (Below w.heap.size w w4) := Lib.hid (bseq hB2 (bseq hB3 hB4))
    have heq := tabs_apart (HRow3.out.of_block (hB4.block _ hne)) hrow4 (by omega)
    clear hrow4
    go_wp2_with fail
    refine (more_zero w2.heap.size w4.heap.size (.slice A len cap) l w4 (HB.out.on HE4.out) hl (HT3.out.on hB4)).mono ?_
    rintro e w' ⟨rfl, rfl⟩
    go_wp2_with fail
    refine (more_any (crcSum (nats l)) w2.heap.size w4.heap.size (.slice A' len' cap') l' w4 hs1 (HB'.out.on HE4.out) hl' (HT3.out.on hB4)).mono ?_
    rintro e w' ⟨rfl, rfl⟩
    rw [HSum.out]
    go_wp2_with fail
    go_region
    have hB5 : Below w3.heap.size w3 (w4.setCell ⟨w3.heap.size, k, none⟩ (.int .u32 (((Ts 8 k : Nat) + 1 : Int) % 4294967296))).drew := (hB4.setCell (p := ⟨w3.heap.size, k, none⟩) (Nat.le_refl _) _).drew
    have HB5 := Lib.hid hB5
    clear hB5
    go_wp2_with fail
    refine (known_any _).mono ?_
    rintro e w6 ⟨rfl, hB6⟩
    have HB6 := Lib.hid (bseq HB5.out hB6)
    clear hB6
    go_wp2_with fail
    refine (sum_any v2 (l ++ l') w6 ((HY2.out.on hB3).on HB6.out) HA2.out).mono ?_
    rintro e w7 ⟨rfl, hB7⟩
    have HB7 := Lib.hid (bseq HB6.out hB7)
    clear hB7
    go_wp2_with fail
    refine (more_zero w2.heap.size w7.heap.size v2 (l ++ l') w7 ((HY2.out.on hB3).on HB7.out) HA2.out (HT3.out.on HB7.out)).mono ?_
    rintro e w' ⟨rfl, rfl⟩
    go_wp2
    go_ret
    exact ⟨rfl, bseq hB2 (bseq hB3 HB7.out)⟩

end Go.Proofs.Ytgemllmfbglkhaa
