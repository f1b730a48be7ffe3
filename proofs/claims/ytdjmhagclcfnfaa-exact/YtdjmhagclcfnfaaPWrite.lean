/- The program's closed. -/
import Derived.Test.YtdjmhagclcfnfaaPJoinS
namespace Go.Proofs.Ytdjmhagclcfnfaa
open Go.RowKit Go.Shelf

set_option maxHeartbeats 1000000 in
theorem text_any (L0 : List UInt8) (g : Nat) (lb : Array Value) (w : World) :
    Calls Try.prog 123 #[.string ⟨L0.toArray⟩, .func (.func g) #[] lb] w fun e w' => e = .returned (.func (.func 149) #[] #[.pointer (some ⟨w.heap.size, 0, none⟩), .pointer (some ⟨w.heap.size + 1, 0, none⟩)]) ∧
      w' = (w.alloc (.cells #[.string ⟨L0.toArray⟩] 9)).alloc (.cells #[.func (.func g) #[] lb] 90) := by
  have hmf : ∀ (fn : Fn) (first cap : Array Value) (w : World), (Instr.makeFunc fn first cap).run Try.prog w = .ok (.func fn first cap) w := fun _ _ _ _ => rfl
  go_enter Try.func123, Try.ntmps123
  go_wp2
  go_ret
  exact ⟨rfl, rfl⟩

theorem allP_flat (L0 : List UInt8) (rs : List Rc) : ((allP L0 rs).map (·.data.toList)).flatten = shutB (L0 ++ recsB rs) := by
  simp only [allP, frontP, lastP, shutB, recsB, List.map_append, List.map_cons, List.map_map, List.flatten_append, List.flatten_cons, List.map_nil, List.flatten_nil, List.append_nil]
  rfl

set_option maxRecDepth 100000 in
set_option maxHeartbeats 2000000 in
theorem closed_any (z : Nat) (L0 : List UInt8) (sv : Value) (rs : List Rc) (Bs : Nat) (w : World) (hR : Recs w.heap.size w sv rs) (hBs : w.cell? ⟨Bs, 0, none⟩ = some sv) (hBl : Bs < w.heap.size) (hL0 : L0.length ≤ 1000) (h9 : (z : Int) ≤ 64) (hn : rs.length ≤ 400) (ho : ∀ r ∈ rs, RecFit z r) :
    Calls Try.prog 89 #[.string ⟨L0.toArray⟩, .func (.func 93) #[] #[.pointer (some ⟨Bs, 0, none⟩)]] w fun e w' => e = .returned (.string ⟨(shutB (L0 ++ recsB rs)).toArray⟩) ∧ Below w.heap.size w w' := by
  obtain ⟨w2, hw2⟩ : ∃ w2, w2 = (w.alloc (.cells #[.string ⟨L0.toArray⟩] 9)).alloc (.cells #[.func (.func 93) #[] #[.pointer (some ⟨Bs, 0, none⟩)]] 90) := ⟨_, rfl⟩
  have hs2 : w2.heap.size = w.heap.size + 2 := by rw [hw2]; simp
  have hb2 : Below w.heap.size w w2 := by rw [hw2]; exact ((Below.refl _ _).alloc (Nat.le_refl _) _).alloc (by simp) _
  have hh2 : w2.heap[w.heap.size]? = some (.cells #[.string ⟨L0.toArray⟩] 9 (0, 0)) := by rw [hw2]; exact (Below.heap_alloc _ _ _ (by simp)).trans (World.alloc_heap_new _ _)
  have hr2 : w2.heap[w.heap.size + 1]? = some (.cells #[.func (.func 93) #[] #[.pointer (some ⟨Bs, 0, none⟩)]] 90 (0, 0)) := by
    rw [hw2]
    have h := World.alloc_heap_new (w.alloc (.cells #[.string ⟨L0.toArray⟩] 9)) (.cells #[.func (.func 93) #[] #[.pointer (some ⟨Bs, 0, none⟩)]] 90)
    rwa [World.size_alloc] at h
  have hseq := text_seq 8 (by decide) w.heap.size (w.heap.size + 1) Bs L0 sv rs z w2 hL0 h9 hn ho hh2 hr2 ((hb2.cell (p := ⟨Bs, 0, none⟩) hBl).trans hBs) (by omega) (hR.moved hb2)
  have HC : Hid (∀ u : Unit, _) := fun _ => collectS_wide w2 (enters_of Try.func149 (by kernel_rfl) rfl) hseq (fun k hk => hk) (fun b hb => by cases hb) (fun pre x hx => by
    have h := hx.length_le
    simp only [allP, frontP, List.length_append, List.length_cons, List.length_map, List.length_nil] at h
    omega)
  have hfl := recsB_fit z h9 rs ho
  have hlen : ((allP L0 rs).map (·.data.toList)).flatten.length ≤ 1000000 := by
    rw [allP_flat, shutB, List.length_append, List.length_append, lowB_length]
    omega
  have HJ : Hid (∀ B v W, OwnsT B W v (allP L0 rs) → _) := fun B v W h => join_any B v (allP L0 rs) W h (by simp [allP, frontP]; omega) hlen
  rw [allP_flat] at HJ
  have HB2 : Hid _ := hb2
  have HW2 : Hid _ := hw2
  clear hseq hh2 hr2 hb2 hw2 hR hBs ho hlen
  go_enter Try.func89, Try.ntmps89
  go_wp2_with (go_at_call 123; refine (text_any _ _ _ _).mono ?_; rintro e w1 ⟨rfl, rfl⟩; rw [← HW2.out])
  refine (HC.out ()).mono ?_
  rintro e w3 ⟨hg3, (⟨xs, v, rfl, rfl, hown⟩ | ⟨ch, xs, hP, rfl⟩)⟩
  rotate_left
  · exact hP.elim
  have HO : Hid _ := hown
  have hb3 : Below w.heap.size w w3 := ⟨hg3.os.trans HB2.out.os, hg3.tape.trans HB2.out.tape, hg3.output.trans HB2.out.output, Nat.le_trans HB2.out.size hg3.size, fun k hk => (hg3.block k (by omega) (by simp)).trans (HB2.out.block k hk)⟩
  have HB3 : Hid _ := hb3
  obtain ⟨a, ln, cp, rfl⟩ : ∃ a ln cp, v = .slice a ln cp := by
    rcases hown.2 with ⟨rfl, _⟩ | ⟨g, cap, cur, rfl, _⟩
    · exact ⟨_, _, _, rfl⟩
    · exact ⟨_, _, _, rfl⟩
  clear hown hg3 hb3
  go_wp2_with fail
  refine (HJ.out _ _ _ HO.out).mono ?_
  rintro e w4 ⟨rfl, hb4⟩
  have HB4 : Hid (Below w.heap.size w w4) := HB3.out.trans (hb4.mono HB3.out.size)
  clear hb4
  go_wp2
  go_ret
  exact ⟨rfl, HB4.out⟩
end Go.Proofs.Ytdjmhagclcfnfaa
