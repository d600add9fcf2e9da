/-
  Layer 5: what the laws ask of a queue, the program's pays.
-/
import Derived.Test.YtlhfgiffdfcplaaTimLay
namespace Go.Proofs.Ytlhfgiffdfcplaa
open Go.RowKit Go.Deep Go.Sort

theorem Grows.from_same {S S0 S' : Nat → Prop} {a b : World} (h : Grows S0 S' a b) (e : ∀ k, S k ↔ S0 k) : Grows S S' a b :=
  ⟨h.os, h.tape, h.output, h.size, fun k hk hn => h.block k hk (fun h2 => hn ((e k).2 h2)), fun k hk => (h.own k hk).imp (e k).2 id⟩
theorem QL.row_ {w : World} {a : Nat} {mv lv : Value} {d : Array It} {m : List (Int × Value)} {l : List Sp} (h : QL w a mv lv d m l) : QR w (Own a mv lv d) (.pointer (some ⟨a, 0, none⟩)) l := ⟨a, mv, lv, d, m, rfl, fun _ => Iff.rfl, h⟩

theorem timer_ok : TimerOK QR where
  lt := by
    rintro w S q l ⟨a, mv, lv, d, m, rfl, hS, h⟩ k hk
    exact Own.lt h.mem h.mp.lt ((hS k).1 hk)
  small := by
    rintro w S q l ⟨a, mv, lv, d, m, rfl, hS, h⟩
    exact h.small
  keys := by
    rintro w S q l ⟨a, mv, lv, d, m, rfl, hS, h⟩
    exact h.keys
  frame := by
    rintro w w' S q l ⟨a, mv, lv, d, m, rfl, hS, h⟩ hsz hb
    exact ⟨a, mv, lv, d, m, rfl, hS, h.frame (fun k hk => hb k ((hS k).2 hk))⟩
  new := qnew_any
  set := by
    rintro w S q l key t ⟨a, mv, lv, d, m, rfl, hS, h⟩ _ _
    refine (qset_any h key t).mono ?_
    rintro e W ⟨rfl, mv', lv', d', m', hq, hg⟩
    exact ⟨rfl, _, hq.row_, hg.from_same hS⟩
  drop := by
    rintro w S q l key ⟨a, mv, lv, d, m, rfl, hS, h⟩ _
    refine (qdrop_any h key).mono ?_
    rintro e W ⟨rfl, lv', d', m', hq, hg⟩
    exact ⟨rfl, _, hq.row_, hg.from_same hS⟩
  at_ := by
    rintro w S q l key ⟨a, mv, lv, d, m, rfl, hS, h⟩ _
    refine (qat_any h key).mono ?_
    rintro e W ⟨rfl, rfl⟩
    exact ⟨rfl, _, h.row_, (own_same a mv lv d W).from_same hS⟩
  due := by
    rintro w S q l now ⟨a, mv, lv, d, m, rfl, hS, h⟩ _
    refine (qdue_any h now).mono ?_
    rintro e W ⟨v, rfl, ⟨lv', d', m', hq, hg, hn⟩, ho⟩
    exact ⟨v, rfl, ⟨_, hq.row_, hg.from_same hS, hn⟩, ho⟩
  next := by
    rintro w S q l ⟨a, mv, lv, d, m, rfl, hS, h⟩
    refine (qnext_any h).mono ?_
    rintro e W ⟨rfl, n, rfl⟩
    exact ⟨rfl, _, (h.drewN n).row_, ((own_same a mv lv d w).drewN n).from_same hS⟩
  len := by
    rintro w S q l ⟨a, mv, lv, d, m, rfl, hS, h⟩
    refine (qlen_any h).mono ?_
    rintro e W ⟨rfl, rfl⟩
    exact ⟨by rw [h.len], _, h.row_, (own_same a mv lv d W).from_same hS⟩
  setNil := fun w key t _ _ => (qset_nil w key t).mono (by rintro e W ⟨rfl, rfl⟩; exact ⟨rfl, Below.refl _ _⟩)
  dropNil := fun w key _ => (qdrop_nil w key).mono (by rintro e W ⟨rfl, rfl⟩; exact ⟨rfl, Below.refl _ _⟩)
  atNil := fun w key _ => (qat_nil w key).mono (by rintro e W ⟨rfl, rfl⟩; exact ⟨rfl, Below.refl _ _⟩)
  dueNil := fun w now _ => (qdue_nil w now).mono (by rintro e W ⟨rfl, rfl⟩; exact ⟨_, rfl, OwnI.nil _ _, Below.refl _ _⟩)
  nextNil := fun w => (qnext_nil w).mono (by rintro e W ⟨rfl, rfl⟩; exact ⟨rfl, Below.refl _ _⟩)
  lenNil := fun w => (qlen_nil w).mono (by rintro e W ⟨rfl, rfl⟩; exact ⟨rfl, Below.refl _ _⟩)

end Go.Proofs.Ytlhfgiffdfcplaa
