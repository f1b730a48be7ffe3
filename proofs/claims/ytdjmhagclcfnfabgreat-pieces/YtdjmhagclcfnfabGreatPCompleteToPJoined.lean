/- PComplete, PTurn, PCollect3, PJoined -/
import Derived.Test.YtdjmhagclcfnfabGreatPChunkRToPSort
import Derived.BigQuiet
import Derived.Test.YtdjmhagclcfnfabGreatPCollect2
import Derived.Test.YtdjmhagclcfnfabGreatJoinMToPSplit1
/- The program's complete. -/
namespace Go.Proofs.YtdjmhagclcfnfabGreat
open Go.Shelf Go.RowKit

theorem OwnsP.cells {B : Nat} {W : World} {g l cp : Nat} {ps : List (Ck × Value)} (h : OwnsP B W (.slice (some ⟨g, 0, none⟩) l cp) ps) (k : Nat) (hk : k < ps.length) :
    W.cell? ⟨g, k * 8, none⟩ = some (.int .i64 ps[k].1.f) ∧ W.cell? ⟨g, k * 8 + 1, none⟩ = some (.int .i64 ps[k].1.t) ∧ W.cell? ⟨g, k * 8 + 2, none⟩ = some (.int .i64 ps[k].1.b) ∧ W.cell? ⟨g, k * 8 + 3, none⟩ = some (.int .i64 ps[k].1.z) ∧ W.cell? ⟨g, k * 8 + 4, none⟩ = some (.int .i64 ps[k].1.all) ∧ W.cell? ⟨g, k * 8 + 5, none⟩ = some (.int .i64 ps[k].1.nu) ∧ W.cell? ⟨g, k * 8 + 6, none⟩ = some (.int .i64 ps[k].1.many) ∧ W.cell? ⟨g, k * 8 + 7, none⟩ = some ps[k].2 := by
  obtain ⟨cur, hg, hc⟩ := h.at hk
  exact ⟨boxed_cell hg (hc 0 _ rfl (by omega)), boxed_cell hg (hc 1 _ rfl (by omega)), boxed_cell hg (hc 2 _ rfl (by omega)), boxed_cell hg (hc 3 _ rfl (by omega)), boxed_cell hg (hc 4 _ rfl (by omega)), boxed_cell hg (hc 5 _ rfl (by omega)), boxed_cell hg (hc 6 _ rfl (by omega)), boxed_cell hg (hc 7 _ rfl (by omega))⟩
theorem OwnsP.keptN {B : Nat} {W W' : World} {v : Value} {ps : List (Ck × Value)} (h : OwnsP B W v ps) (hg : W.grownBy W' none) : OwnsP B W' v ps := by
  refine World.ownsRow.kept h hg ?_
  rcases h.2 with ⟨rfl, _⟩ | ⟨g, cap, cur, rfl, _⟩
  · exact .inl rfl
  · exact .inr (by simp [Value.ownBlock])

/-- The k-th chunk is the one that it should be. -/
def ckIs (ps : List (Ck × Value)) (n k : Nat) (p : Ck × Value) : Prop :=
  ∃ a, ps[0]? = some a ∧ (p.1.f = a.1.f ∧ p.1.t = a.1.t ∧ p.1.b = a.1.b ∧ p.1.z = a.1.z ∧ p.1.all = a.1.all) ∧ p.1.many = n ∧ p.1.nu = k
def completeR (ps : List (Ck × Value)) : Prop := ∀ k p, ps[k]? = some p → ckIs ps ps.length k p

set_option maxRecDepth 100000 in
set_option maxHeartbeats 4000000 in
theorem complete_any (g cap B : Nat) (ps : List (Ck × Value)) (w : World) (h : OwnsP B w (.slice (some ⟨g, 0, none⟩) ps.length cap) ps) (hn : ps.length ≤ 100) (h1 : 1 ≤ ps.length) (hsl : ∀ p ∈ ps, ∃ a n c, p.2 = .slice a n c) :
    Calls Tryz.prog 40 #[.slice (some ⟨g, 0, none⟩) ps.length cap] w fun e w' => w.grownBy w' none ∧ ∃ ok : Bool, e = .returned (.bool ok) ∧ (ok = true ↔ completeR ps) := by
  have HO : Hid (OwnsP B w (.slice (some ⟨g, 0, none⟩) ps.length cap) ps) := h
  have HSL : Hid _ := hsl
  clear h hsl
  go_enter Tryz.func40, Tryz.ntmps40
  go_wp2
  go_loopw [7] (fun i wr => ∃ k : Nat, k ≤ ps.length ∧ i = .int .i64 k ∧ (∀ j p, j < k → ps[j]? = some p → ckIs ps ps.length j p) ∧ w.grownBy wr none) (fun i _ => ps.length - (intOf i).toNat)
  case atStart => exact ⟨0, Nat.zero_le _, rfl, fun j p hj => absurd hj (Nat.not_lt_zero _), ⟨rfl, rfl, rfl, Nat.le_refl _, fun _ _ _ => rfl⟩⟩
  case round =>
    obtain ⟨k, hk, rfl, hdone, hg⟩ := hrel
    have H_G : Hid (w.grownBy wr none) := hg
    have H_D : Hid _ := hdone
    have o2 := HO.out.keptN hg
    clear hg hdone
    by_cases hlt : k < ps.length
    · obtain ⟨x0, x1, x2, x3, x4, x5, x6, x7⟩ := o2.cells k hlt
      obtain ⟨a0, a1, a2, a3, a4, -⟩ := o2.cells 0 (by omega)
      obtain ⟨va, vn, vc, hv⟩ := HSL.out ps[k] (List.getElem_mem hlt)
      rw [hv] at x7
      have hgl := World.block_lt_of_cell? _ _ x0
      clear hv
      have HK : Hid (∀ q, ps[k]? = some q → q.1 = ps[k].1) := fun q hq => by
        rw [List.getElem?_eq_getElem hlt] at hq
        cases hq
        rfl
      have HA : Hid (ps[0]? = some (ps[0]'(by omega))) := List.getElem?_eq_getElem _
      generalize hpk : ps[k].1 = cc at *
      generalize hpa : (ps[0]'(by omega)).1 = aa at *
      have hcase : (((cc.f : Int) == (aa.f : Int)) = false) ∨ (((cc.f : Int) == (aa.f : Int)) = true ∧ ((cc.t : Int) == (aa.t : Int)) = false) ∨ (((cc.f : Int) == (aa.f : Int)) = true ∧ ((cc.t : Int) == (aa.t : Int)) = true ∧ ((cc.b : Int) == (aa.b : Int)) = false) ∨ (((cc.f : Int) == (aa.f : Int)) = true ∧ ((cc.t : Int) == (aa.t : Int)) = true ∧ ((cc.b : Int) == (aa.b : Int)) = true ∧ ((cc.z : Int) == (aa.z : Int)) = false) ∨ (((cc.f : Int) == (aa.f : Int)) = true ∧ ((cc.t : Int) == (aa.t : Int)) = true ∧ ((cc.b : Int) == (aa.b : Int)) = true ∧ ((cc.z : Int) == (aa.z : Int)) = true ∧ ((cc.all : Int) == (aa.all : Int)) = false) ∨ (((cc.f : Int) == (aa.f : Int)) = true ∧ ((cc.t : Int) == (aa.t : Int)) = true ∧ ((cc.b : Int) == (aa.b : Int)) = true ∧ ((cc.z : Int) == (aa.z : Int)) = true ∧ ((cc.all : Int) == (aa.all : Int)) = true ∧ ((cc.many : Int) != (ps.length : Int)) = true) ∨ (((cc.f : Int) == (aa.f : Int)) = true ∧ ((cc.t : Int) == (aa.t : Int)) = true ∧ ((cc.b : Int) == (aa.b : Int)) = true ∧ ((cc.z : Int) == (aa.z : Int)) = true ∧ ((cc.all : Int) == (aa.all : Int)) = true ∧ ((cc.many : Int) != (ps.length : Int)) = false ∧ ((cc.nu : Int) != (k : Int)) = true) ∨ (((cc.f : Int) == (aa.f : Int)) = true ∧ ((cc.t : Int) == (aa.t : Int)) = true ∧ ((cc.b : Int) == (aa.b : Int)) = true ∧ ((cc.z : Int) == (aa.z : Int)) = true ∧ ((cc.all : Int) == (aa.all : Int)) = true ∧ ((cc.many : Int) != (ps.length : Int)) = false ∧ ((cc.nu : Int) != (k : Int)) = false) := by
        by_cases e0 : cc.f = aa.f
        · by_cases e1 : cc.t = aa.t
          · by_cases e2 : cc.b = aa.b
            · by_cases e3 : cc.z = aa.z
              · by_cases e4 : cc.all = aa.all
                · by_cases e5 : cc.many = ps.length
                  · by_cases e6 : cc.nu = k
                    · exact .inr (.inr (.inr (.inr (.inr (.inr (.inr (⟨by rw [e0]; simp, by rw [e1]; simp, by rw [e2]; simp, by rw [e3]; simp, by rw [e4]; simp, by rw [e5]; simp, by rw [e6]; simp⟩)))))))
                    · exact .inr (.inr (.inr (.inr (.inr (.inr (.inl ⟨by rw [e0]; simp, by rw [e1]; simp, by rw [e2]; simp, by rw [e3]; simp, by rw [e4]; simp, by rw [e5]; simp, by simp; omega⟩))))))
                  · exact .inr (.inr (.inr (.inr (.inr (.inl ⟨by rw [e0]; simp, by rw [e1]; simp, by rw [e2]; simp, by rw [e3]; simp, by rw [e4]; simp, by simp; omega⟩)))))
                · exact .inr (.inr (.inr (.inr (.inl ⟨by rw [e0]; simp, by rw [e1]; simp, by rw [e2]; simp, by rw [e3]; simp, by simp; omega⟩))))
              · exact .inr (.inr (.inr (.inl ⟨by rw [e0]; simp, by rw [e1]; simp, by rw [e2]; simp, by simp; omega⟩)))
            · exact .inr (.inr (.inl ⟨by rw [e0]; simp, by rw [e1]; simp, by simp; omega⟩))
          · exact .inr (.inl ⟨by rw [e0]; simp, by simp; omega⟩)
        · exact .inl (by simp; omega)
      have HNo : Hid (¬ (cc.f = aa.f ∧ cc.t = aa.t ∧ cc.b = aa.b ∧ cc.z = aa.z ∧ cc.all = aa.all ∧ cc.many = ps.length ∧ cc.nu = k) → ¬ completeR ps) := by
        intro hno hc
        obtain ⟨a, ha, h5, h6, h7⟩ := hc k ps[k] (List.getElem?_eq_getElem hlt)
        rw [HA.out] at ha
        cases ha
        rw [hpk, hpa] at h5
        rw [hpk] at h6 h7
        exact hno ⟨h5.1, h5.2.1, h5.2.2.1, h5.2.2.2.1, h5.2.2.2.2, h6, h7⟩
      have HYes : Hid (cc.f = aa.f ∧ cc.t = aa.t ∧ cc.b = aa.b ∧ cc.z = aa.z ∧ cc.all = aa.all ∧ cc.many = ps.length ∧ cc.nu = k → ∀ j p, j < k + 1 → ps[j]? = some p → ckIs ps ps.length j p) := by
        intro hy j p hj hp
        by_cases hjk : j < k
        · exact H_D.out j p hjk hp
        · obtain rfl : j = k := by omega
          refine ⟨_, HA.out, ?_, ?_, ?_⟩
          · rw [HK.out p hp, hpa]
            exact ⟨hy.1, hy.2.1, hy.2.2.1, hy.2.2.2.1, hy.2.2.2.2.1⟩
          · rw [HK.out p hp]; exact hy.2.2.2.2.2.1
          · rw [HK.out p hp]; exact hy.2.2.2.2.2.2
      clear hpk hpa HK
      obtain ⟨Wc, hWc⟩ : ∃ Wc, Wc = wr.alloc (.cells #[.int .i64 cc.f, .int .i64 cc.t, .int .i64 cc.b, .int .i64 cc.z, .int .i64 cc.all, .int .i64 cc.nu, .int .i64 cc.many, .slice va vn vc] 59) := ⟨_, rfl⟩
      have hgc : wr.grownBy Wc none := by rw [hWc]; exact galloc _ _ _
      have hbc : Wc.heap[wr.heap.size]? = some (.cells #[.int .i64 cc.f, .int .i64 cc.t, .int .i64 cc.b, .int .i64 cc.z, .int .i64 cc.all, .int .i64 cc.nu, .int .i64 cc.many, .slice va vn vc] 59 (0, 0)) := by rw [hWc]; exact World.alloc_heap_new _ _
      have kc : ∀ o, Wc.cell? ⟨g, o, none⟩ = wr.cell? ⟨g, o, none⟩ := fun o => World.cell?_of_block (a := ⟨g, o, none⟩) (hgc.block g hgl (by simp))
      go_wp2
      rw [← hWc]
      clear hWc
      have b0 := (kc _).trans a0
      have b1 := (kc _).trans a1
      have b2 := (kc _).trans a2
      have b3 := (kc _).trans a3
      have b4 := (kc _).trans a4
      have c0 := boxed_cell (i := 0) hbc rfl
      have c1 := boxed_cell (i := 1) hbc rfl
      have c2 := boxed_cell (i := 2) hbc rfl
      have c3 := boxed_cell (i := 3) hbc rfl
      have c4 := boxed_cell (i := 4) hbc rfl
      have c5 := boxed_cell (i := 5) hbc rfl
      have c6 := boxed_cell (i := 6) hbc rfl
      have GC : Hid (w.grownBy Wc none) := gtrans H_G.out hgc
      clear a0 a1 a2 a3 a4 x0 x1 x2 x3 x4 x5 x6 x7 hgc hbc kc o2
      simp only [Nat.zero_mul, Nat.zero_add] at b0 b1 b2 b3 b4
      have hpos : (0 : Int) < (ps.length : Int) := by omega
      have hpos2 : 0 < ps.length := by omega
      have hpos3 : (0 : Int) ≤ 0 := by omega
      rcases hcase with q0 | ⟨q0, q1⟩ | ⟨q0, q1, q2⟩ | ⟨q0, q1, q2, q3⟩ | ⟨q0, q1, q2, q3, q4⟩ | ⟨q0, q1, q2, q3, q4, q5⟩ | ⟨q0, q1, q2, q3, q4, q5, q6⟩ | ⟨q0, q1, q2, q3, q4, q5, q6⟩
      case inr.inr.inr.inr.inr.inr.inr =>
        have hy : cc.f = aa.f ∧ cc.t = aa.t ∧ cc.b = aa.b ∧ cc.z = aa.z ∧ cc.all = aa.all ∧ cc.many = ps.length ∧ cc.nu = k := by
          simp only [beq_iff_eq, bne_eq_false_iff_eq] at q0 q1 q2 q3 q4 q5 q6
          omega
        have HY : Hid _ := HYes.out hy
        clear hy HYes HNo
        go_quiet (fail)
        go_wp2
        go_roundw
        case rel => exact ⟨k + 1, by omega, by go_num, HY.out, gdrewR GC.out _⟩
        case measure => simp [intOf]; omega
      all_goals
        have hno : ¬ (cc.f = aa.f ∧ cc.t = aa.t ∧ cc.b = aa.b ∧ cc.z = aa.z ∧ cc.all = aa.all ∧ cc.many = ps.length ∧ cc.nu = k) := by
          rintro ⟨h0, h1, h2, h3, h4, h5, h6⟩
          simp_all
        have HN : Hid (¬ completeR ps) := HNo.out hno
        clear hno HYes HNo
        go_quiet (fail)
        go_wp2
        go_ret
        exact ⟨gdrewR GC.out _, false, rfl, by simpa using HN.out⟩
    · obtain rfl : k = ps.length := by omega
      go_wp2
      go_ret
      exact ⟨H_G.out, true, rfl, by simp; exact fun j p hp => H_D.out j p (by have := List.getElem?_eq_some_iff.1 hp; exact this.1) hp⟩
end Go.Proofs.YtdjmhagclcfnfabGreat
/- The program's inTurn: the records of the chunks, one behind the other. -/
namespace Go.Proofs.YtdjmhagclcfnfabGreat
open Go.Shelf Go.RowKit

attribute [local go_sem] Oper.semAt_some

theorem kept_size {M : Nat} {W W' : World} (hM : M ≤ W.heap.size) (h : KeptOn (fun k => k < M) W W') : M ≤ W'.heap.size := by
  by_cases h0 : M = 0
  · omega
  · have := h.lt (fun k hk => by omega) (M - 1) (by omega)
    omega
def turnR (ps : List (Ck × Value)) : List Rc := ps.flatMap (fun p => p.1.rs)

set_option maxHeartbeats 1000000 in
theorem inTurn_any (a : Option Addr) (len cap : Nat) (w : World) :
    Calls Tryz.prog 42 #[.slice a len cap] w fun e w' => e = .returned (.func (.func 63) #[] #[.pointer (some ⟨w.heap.size, 0, none⟩)]) ∧ w' = w.alloc (.cells #[.slice a len cap] 55) := by
  have hmf : ∀ (fn : Fn) (first cap : Array Value) (w : World), (Instr.makeFunc fn first cap).run Tryz.prog w = .ok (.func fn first cap) w := fun _ _ _ _ => rfl
  go_enter Tryz.func42, Tryz.ntmps42
  go_wp2
  go_ret
  exact ⟨rfl, rfl⟩

set_option maxRecDepth 100000 in
set_option maxHeartbeats 2000000 in
theorem inTurn1_in (n : Nat) (hn : 1 ≤ n) (l Bs g cap M : Nat) (ps : List (Ck × Value)) (hlen : ps.length ≤ 100) (hreach : ∀ p ∈ ps, p.1.rs.length ≤ 1000) (J Jx : List Rc → World → Prop)
    (W : World) (hJ : OwnIt none W.heap.size J) (hM : M ≤ W.heap.size)
    (hY : ∀ pre x W, J pre W → pre ++ [x] <+: turnR ps → YieldAt Fence.wide (n - 1) Tryz.prog l #[.agg #[.bool x.free, .int .i64 x.block, .string x.data]] W fun e W' =>
      (e = .returned (.bool true) ∧ J (pre ++ [x]) W' ∧ KeptOn (fun k => k < M) W W') ∨ (e = .returned (.bool false) ∧ Jx (pre ++ [x]) W'))
    (hBs : W.cell? ⟨Bs, 0, none⟩ = some (.slice (some ⟨g, 0, none⟩) ps.length cap)) (hgM : g < M)
    (hO : OwnsP 0 W (.slice (some ⟨g, 0, none⟩) ps.length cap) ps) (hR : ∀ p ∈ ps, Recs M W p.2 p.1.rs)
    (h0 : J [] W) :
    CallsIn Fence.wide n Tryz.prog 63 #[.func (.yield l) #[] #[], .pointer (some ⟨Bs, 0, none⟩)] W fun e W' =>
      (∃ v, e = .returned v ∧ (J (turnR ps) W' ∨ (∃ pre, pre <+: turnR ps ∧ Jx pre W'))) := by
  refine callsIn_of_wp Tryz.func63 rfl trivial ?_ rfl
  simp only [Tryz.ntmps63, List.size_toArray, List.length_cons, List.length_nil, Nat.reduceAdd, Nat.reduceSub, Array.replicate_succ, Array.replicate_zero, List.push_toArray, List.append_toArray, List.nil_append, List.cons_append]
  have HO : Hid _ := hO
  have HR : Hid _ := hR
  have HY : Hid _ := hY
  have HL : Hid _ := hreach
  clear hO hR hY hreach
  gi_wp2
  gi_loopw [9] (fun i wr => ∃ k : Nat, k ≤ ps.length ∧ i = .int .i64 k ∧ J (turnR (ps.take k)) wr ∧ KeptOn (fun k => k < M) W wr)
    (fun i _ => ps.length - (intOf i).toNat)
  case atStart => exact ⟨0, Nat.zero_le _, rfl, h0, KeptOn.refl _ _⟩
  case round =>
    obtain ⟨k, hk, rfl, hJs, hkp⟩ := hrel
    have hsz := kept_size hM hkp
    by_cases hlt : k < ps.length
    · obtain ⟨x0, x1, x2, x3, x4, x5, x6, x7⟩ := OwnsP.cells HO.out k hlt
      have ck : ∀ o, wr.cell? ⟨g, o, none⟩ = W.cell? ⟨g, o, none⟩ := fun o => hkp.cell hgM
      replace x0 := (ck _).trans x0
      replace x1 := (ck _).trans x1
      replace x2 := (ck _).trans x2
      replace x3 := (ck _).trans x3
      replace x4 := (ck _).trans x4
      replace x5 := (ck _).trans x5
      replace x6 := (ck _).trans x6
      replace x7 := (ck _).trans x7
      have hts : turnR (ps.take (k + 1)) = turnR (ps.take k) ++ ps[k].1.rs := by
        unfold turnR
        rw [List.take_succ_eq_append_getElem hlt, List.flatMap_append, List.flatMap_cons, List.flatMap_nil, List.append_nil]
      have hpre : turnR (ps.take k) ++ ps[k].1.rs <+: turnR ps := by
        rw [← hts]
        unfold turnR
        conv => rhs; rw [← List.take_append_drop (k + 1) ps, List.flatMap_append]
        exact List.prefix_append _ _
      have HT : Hid _ := hts
      have HP : Hid _ := hpre
      have hrec := HR.out ps[k] (List.getElem_mem hlt)
      have hrl := HL.out ps[k] (List.getElem_mem hlt)
      clear hts hpre ck
      generalize hpk : ps[k] = pk at *
      obtain ⟨cc, sv⟩ := pk
      dsimp only at x0 x1 x2 x3 x4 x5 x6 x7 hrec hrl
      obtain ⟨rs, hrs⟩ : ∃ rs, rs = cc.rs := ⟨_, rfl⟩
      have HT2 : Hid (turnR (ps.take (k + 1)) = turnR (ps.take k) ++ rs) := by rw [hrs]; exact HT.out
      have HP2 : Hid (turnR (ps.take k) ++ rs <+: turnR ps) := by rw [hrs]; exact HP.out
      rw [← hrs] at hrec hrl
      clear HT HP hrs hpk
      have hgl : g < wr.heap.size := by omega
      obtain ⟨a, cp, rfl, hcs⟩ : ∃ a cp, sv = .slice a rs.length cp ∧ ∀ j (h : j < rs.length), ∃ b off, a = some ⟨b, off, none⟩ ∧ b < M ∧ W.cell? ⟨b, off + j * 3, none⟩ = some (.bool rs[j].free) ∧ W.cell? ⟨b, off + j * 3 + 1, none⟩ = some (.int .i64 rs[j].block) ∧ W.cell? ⟨b, off + j * 3 + 2, none⟩ = some (.string rs[j].data) := by
        rcases hrec with ⟨e, a, cp, rfl⟩ | ⟨b, off, cp, rfl, hb, hc⟩
        · exact ⟨a, cp, by rw [e]; rfl, fun j h => by rw [e] at h; exact absurd h (Nat.not_lt_zero _)⟩
        · exact ⟨_, cp, rfl, fun j h => ⟨b, off, rfl, hb, hc j h⟩⟩
      have HC : Hid _ := hcs
      clear hcs hrec
      obtain ⟨Wc, hWc⟩ : ∃ Wc, Wc = wr.alloc (.cells #[.int .i64 cc.f, .int .i64 cc.t, .int .i64 cc.b, .int .i64 cc.z, .int .i64 cc.all, .int .i64 cc.nu, .int .i64 cc.many, .slice a rs.length cp] 59) := ⟨_, rfl⟩
      have hJc : J (turnR (ps.take k)) Wc := by rw [hWc]; exact hJ.alloc _ hJs
      have hkc : KeptOn (fun k => k < M) W Wc := by rw [hWc]; exact hkp.alloc (fun k hk => by omega) _
      have hb7 : Wc.cell? ⟨wr.heap.size, 7, none⟩ = some (.slice a rs.length cp) := by rw [hWc]; exact boxed_cell (World.alloc_heap_new _ _) rfl
      gi_wp2
      rw [← hWc]
      clear hWc hJs hkp
      gi_wp2
      gi_loopw [16] (fun i wr => ∃ j : Nat, j ≤ rs.length ∧ i = .int .i64 j ∧ J (turnR (ps.take k) ++ rs.take j) wr ∧ KeptOn (fun k => k < M) W wr)
        (fun i _ => rs.length - (intOf i).toNat)
      case atStart => exact ⟨0, Nat.zero_le _, rfl, by simpa using hJc, hkc⟩
      case round =>
        obtain ⟨j, hj, rfl, hJs, hkp⟩ := hrel
        have hsz := kept_size hM hkp
        by_cases hlj : j < rs.length
        · obtain ⟨b, off, rfl, hb, q0, q1, q2⟩ := HC.out j hlj
          have cb : ∀ o, wr.cell? ⟨b, o, none⟩ = W.cell? ⟨b, o, none⟩ := fun o => hkp.cell hb
          replace q0 := (cb _).trans q0
          replace q1 := (cb _).trans q1
          replace q2 := (cb _).trans q2
          clear cb
          have hbw : b < wr.heap.size := by omega
          have hts : rs.take (j + 1) = rs.take j ++ [rs[j]] := List.take_succ_eq_append_getElem hlj
          have hpre : (turnR (ps.take k) ++ rs.take j) ++ [rs[j]] <+: turnR ps := by
            rw [List.append_assoc, ← hts]
            exact ((List.prefix_append_right_inj _).2 (List.take_prefix _ _)).trans HP2.out
          have HT3 : Hid _ := hts
          have HP3 : Hid _ := hpre
          clear hts hpre
          obtain ⟨fn, tmps, assign, body, hy, hR⟩ := HY.out (turnR (ps.take k) ++ rs.take j) rs[j] (wr.alloc (.cells #[.bool rs[j].free, .int .i64 rs[j].block, .string rs[j].data] 40)) (hJ.alloc _ hJs) HP3.out
          generalize hr : rs[j] = r at *
          have hbf : rs.length ≤ 9223372036854775807 := by omega
          gi_wp2
          refine hR.mono ?_
          rintro e W3 (⟨rfl, hJ3, hk3⟩ | ⟨rfl, hJx3⟩)
          · gi_wp2
            go_roundw
            case rel =>
              exact ⟨j + 1, by omega, by simp, by rw [HT3.out, ← List.append_assoc]; exact hJ3, (hkp.alloc (fun k hk => by omega) _).trans hk3⟩
            case measure => simp [intOf]; omega
          · gi_wp2
            refine bodyPost_ret (results_none rfl _ _ _) rfl ?_
            exact ⟨_, rfl, .inr ⟨_, HP3.out, hJx3⟩⟩
        · obtain rfl : j = rs.length := by omega
          rw [List.take_length] at hJs
          gi_wp2
          go_roundw
          case rel => exact ⟨k + 1, by omega, by simp, by rw [HT2.out]; exact hJs, hkp⟩
          case measure => simp [intOf]; omega
    · obtain rfl : k = ps.length := by omega
      rw [List.take_length] at hJs
      gi_wp2
      go_end0
      exact ⟨_, rfl, .inl hJs⟩

/-- **inTurn has its contract.** -/
theorem inTurn_seq (n : Nat) (hn : 1 ≤ n) (Bs g cap : Nat) (ps : List (Ck × Value)) (hlen : ps.length ≤ 100) (hreach : ∀ p ∈ ps, p.1.rs.length ≤ 1000) (w : World) (hc : w.cell? ⟨Bs, 0, none⟩ = some (.slice (some ⟨g, 0, none⟩) ps.length cap))
    (h1 : 1 ≤ ps.length) (hO : OwnsP 0 w (.slice (some ⟨g, 0, none⟩) ps.length cap) ps) (hR : ∀ p ∈ ps, Recs w.heap.size w p.2 p.1.rs) :
    SeqC Fence.wide n Tryz.prog 63 #[.pointer (some ⟨Bs, 0, none⟩)] encRc (fun k => k < w.heap.size) none (fun pre x => pre ++ [x] <+: turnR ps) (fun ys => ys = turnR ps) (fun pre => pre <+: turnR ps) (fun _ _ => False) w := by
  intro l J Jx W hW hJ hJx hY h0
  have hBs := World.block_lt_of_cell? _ _ hc
  have hc' := (hW.cell (p := ⟨Bs, 0, none⟩) hBs).trans hc
  obtain ⟨x0, -⟩ := OwnsP.cells hO 0 (by omega)
  have hg := World.block_lt_of_cell? _ _ x0
  have hgr : w.grownBy W none := gbelow hW
  refine (inTurn1_in n hn l Bs g cap w.heap.size ps hlen hreach J Jx W hJ hW.size hY hc' hg (OwnsP.keptN hO hgr) (fun p hp => (hR p hp).below hW (Nat.le_refl _)) h0).mono ?_
  rintro e W' ⟨v, rfl, hj | ⟨pre, hp, hj⟩⟩
  · exact .inl ⟨v, rfl, .inl ⟨_, rfl, hj⟩⟩
  · exact .inl ⟨v, rfl, .inr ⟨_, hp, hj⟩⟩
end Go.Proofs.YtdjmhagclcfnfabGreat
/- slices.Collect over records, of longer iterators. -/
namespace Go.Proofs.YtdjmhagclcfnfabGreat
open Go.RowKit Go.Shelf

attribute [local go_sem] Oper.semAt_some

set_option maxRecDepth 100000 in
set_option maxHeartbeats 2000000 in
theorem appendSeq_many {gf : Nat} {lb : Array Value} {KK : Nat → Prop} {bi : Option Nat} {G : List Rc → Rc → Prop} {Fin Stop : List Rc → Prop} {Pan : List PanicEntry → List Rc → Prop} (w : World)
    (eg : ∀ args w, (callFunc gf args).run Tryz.prog w = .ok (.enter gf args) w)
    (hseq : SeqC Fence.wide 8 Tryz.prog gf lb encRc KK bi G Fin Stop Pan w) (hKK : ∀ k, KK k → k < w.heap.size) (hbi : ∀ b, bi = some b → b < w.heap.size) (hG : ∀ pre x, G pre x → pre.length < 100000) :
    Calls Tryz.prog 56 #[.slice none 0 0, .func (.func gf) #[] lb] w fun e w' => w.grownBy w' bi ∧ ((∃ xs v, Fin xs ∧ e = .returned v ∧ OwnsR w.heap.size w' v xs) ∨ (∃ ch xs, Pan ch xs ∧ e = .panicked ch)) := by
  obtain ⟨i0, hi, hz0, hz1, hz2⟩ := info_parts Tryz.infoRec
  refine (callsIn_wide (n := 9)).1 ?_
  refine callsIn_of_wp_marks Tryz.func56 rfl trivial ?_ rfl
  simp only [Tryz.ntmps56, List.size_toArray, List.length_cons, List.length_nil, Nat.reduceAdd, Nat.reduceSub, Array.replicate_succ, Array.replicate_zero, List.push_toArray, List.append_toArray, List.nil_append, List.cons_append]
  gi_wp2
  have hO3 : (w.alloc (.cells #[.slice none 0 0] 25)).heap[w.heap.size]? = some (.cells #[.slice none 0 0] 25 (0, 0)) := World.alloc_heap_new _ _
  have hs3 : (w.alloc (.cells #[.slice none 0 0] 25)).heap.size = w.heap.size + 1 := by simp
  have hg3 : w.grownBy (w.alloc (.cells #[.slice none 0 0] 25)) bi := galloc _ _ _
  have hb3 : Below w.heap.size w (w.alloc (.cells #[.slice none 0 0] 25)) := (Below.refl _ _).alloc (Nat.le_refl _) _
  generalize w.alloc (.cells #[.slice none 0 0] 25) = W3 at *
  refine range_law (n := 9) rfl (by decide) (gf := gf) (lb := lb) rfl trivial eg hseq hb3 (fun k hk => by have := hKK k hk; omega) (fun b hb => by have := hbi b hb; omega) (fun _ => rfl)
    (fun pre W => (∃ v, W.heap[w.heap.size]? = some (.cells #[v] 25 (0, 0)) ∧ OwnsR w.heap.size W v pre) ∧ w.grownBy W bi)
    (fun _ _ _ => False)
    (OwnIt.and (ownIt_rows bi _ w.heap.size w.heap.size (fun pre => pre) hbi (Nat.le_refl _)) (ownIt_grown (by omega)))
    (fun cd => OwnIt.pure _ _ _)
    ⟨⟨_, hO3, World.ownsRow_nil _ _ _ _⟩, hg3⟩
    (fun x a' W => ∃ Bx, w.heap.size ≤ Bx ∧ W.heap[Bx]? = some (.cells #[.bool x.free, .int .i64 x.block, .string x.data] 40 (0, 0)) ∧ a' = { tmps := #[.slice none 0 0, .func (.func gf) #[] lb, .pointer (some ⟨w.heap.size, 0, none⟩), undef, .slice none 0 0, .pointer (some ⟨Bx, 0, none⟩), .func (.func gf) #[] lb, .agg #[.bool x.free, .int .i64 x.block, .string x.data], undef, undef, undef, undef, undef], defers := [] })
    ?ax
    ?assign ?body ?done ?stop ?panic
  case ax =>
    rintro x a' s W W' row ⟨Bx, h1, h2, h3⟩ hg hr
    refine ⟨Bx, h1, (hg.block Bx (Array.getElem?_eq_some_iff.1 h2).1 (fun e => ?_)).trans h2, h3⟩
    rcases hr Bx e.symm with e2 | ⟨_, o, ho', hc⟩
    · have := hbi Bx e2.symm; omega
    · rw [h2] at ho'; cases ho'; cases hc
  case assign =>
    rintro l pre x W K ⟨⟨v, h1, h2⟩, h5⟩ hK
    have lt := fun {k : Nat} {o : Obj} (e : W.heap[k]? = some o) => (Array.getElem?_eq_some_iff.1 e).1
    gi_wp2
    refine hK _ _ ((KeepsOthers.alloc _ _).from _) ?_ ⟨⟨v, (Below.heap_alloc _ _ _ (lt h1)).trans h1, World.ownsRow.alloc h2 _⟩, gallocR h5 _⟩ ⟨W.heap.size, h5.size, World.alloc_heap_new _ _, rfl⟩
    exact (KeptOn.refl _ _).alloc (fun k hk => Nat.lt_of_lt_of_le (hKK k hk) h5.size) _
  case body =>
    rintro l pre x a' W ⟨⟨v, h1, h2⟩, h5⟩ ⟨Bx, hx1, hx, rfl⟩ hGx
    have hln := hG pre x hGx
    have hml : pre.length + 1 ≤ maxLen := Nat.le_trans (show pre.length + 1 ≤ 100001 by omega) (by decide)
    have r0 := boxed_cell (i := 0) hx rfl
    have r1 := boxed_cell (i := 1) hx rfl
    have r2 := boxed_cell (i := 2) hx rfl
    have o0 := boxed_cell (i := 0) h1 rfl
    gi_wp2_with (gi_at_builtin; refine wpListIn_append_own _ rfl _ _ 25 rfl w.heap.size 40 i0 _ 3 32 Tryz.underlying25 hi hz0 hz1 hz2 rfl (by decide) _ _ _ rfl (World.ownsRow.alloc h2 _) ⟨W.heap.size, 0, none⟩ 1 1 [.bool x.free, .int .i64 x.block, .string x.data] rfl rfl (cells_new _ _ _) (by simp [Value.oneCell']) hml (by omega) (by have := h5.size; simp; omega) ?_; intro v' w3 hown' hg3' hnil'; obtain ⟨k1, k2, k3, k4, k5⟩ := Boxed.appended (t := 25) h1 (by decide) h2 h5.size (Nat.le_refl _) hown' hg3'; obtain ⟨g', cap', rfl⟩ := ownsRow_succ hown'; have p0 := boxed_cell (i := 0) k1 rfl; have pf := boxed_frozen (i := 0) k1)
    exact ⟨k4.from _, KeptOn.of_below k5 hKK, ⟨_, k2, ownsR_snoc k3⟩, gbelowR h5 k5⟩
  case done =>
    rintro D ys W hD hF ⟨⟨v, h1, h2⟩, h5⟩ hK
    have o0 := boxed_cell (i := 0) h1 rfl
    have hgp : w.grownBy (W.putObj D (.deferred none)) bi := ⟨h5.os, h5.tape, h5.output, by simpa using h5.size, fun j hj hne => (World.putObj_heap_other (by omega)).trans (h5.block j hj hne)⟩
    obtain ⟨a, ln, cp, rfl⟩ : ∃ a ln cp, v = .slice a ln cp := by
      rcases h2.2 with ⟨rfl, _⟩ | ⟨g, cap, cur, rfl, _⟩
      · exact ⟨_, _, _, rfl⟩
      · exact ⟨_, _, _, rfl⟩
    gi_wp2
    refine ⟨by simp, .inl ⟨_, _, rfl, run_takeDeferred hK, ?_⟩⟩
    refine ⟨_, results_tmp rfl _ _ _, hgp, .inl ⟨ys, .slice a ln cp, hF, ?_, ownsRow_putObj h2 _ hK rfl⟩⟩
    rfl
  case panic =>
    rintro D ch xs W hD hP ⟨_, h5⟩ hK
    have hgp : w.grownBy (W.putObj D (.deferred none)) bi := ⟨h5.os, h5.tape, h5.output, by simpa using h5.size, fun j hj hne => (World.putObj_heap_other (by omega)).trans (h5.block j hj hne)⟩
    refine ⟨by simp, .inl ⟨_, _, rfl, run_takeDeferred hK, ?_⟩⟩
    exact ⟨hgp, .inr ⟨ch, xs, hP, rfl⟩⟩
  case stop =>
    rintro D cd pre W _ _ h
    exact h.elim

set_option maxHeartbeats 1000000 in
theorem collect_many {gf : Nat} {lb : Array Value} {KK : Nat → Prop} {bi : Option Nat} {G : List Rc → Rc → Prop} {Fin Stop : List Rc → Prop} {Pan : List PanicEntry → List Rc → Prop} (w : World)
    (eg : ∀ args w, (callFunc gf args).run Tryz.prog w = .ok (.enter gf args) w)
    (hseq : SeqC Fence.wide 8 Tryz.prog gf lb encRc KK bi G Fin Stop Pan w) (hKK : ∀ k, KK k → k < w.heap.size) (hbi : ∀ b, bi = some b → b < w.heap.size) (hG : ∀ pre x, G pre x → pre.length < 100000) :
    Calls Tryz.prog 35 #[.func (.func gf) #[] lb] w fun e w' => w.grownBy w' bi ∧ ((∃ xs v, Fin xs ∧ e = .returned v ∧ OwnsR w.heap.size w' v xs) ∨ (∃ ch xs, Pan ch xs ∧ e = .panicked ch)) := by
  have HC : Hid (∀ u : Unit, _) := fun _ => appendSeq_many w eg hseq hKK hbi hG
  clear hseq eg
  go_enter Tryz.func35, Tryz.ntmps35
  go_wp2_with fail
  refine (HC.out ()).mono ?_
  rintro e w1 ⟨hg, (⟨xs, v, hF, rfl, ho⟩ | ⟨ch, xs, hP, rfl⟩)⟩
  · have HO : Hid _ := ho
    have HG : Hid _ := hg
    have HF : Hid _ := hF
    clear ho hg hF
    go_wp2
    go_ret
    exact ⟨HG.out, .inl ⟨xs, v, HF.out, rfl, HO.out⟩⟩
  · exact ⟨rfl, hg, .inr ⟨ch, xs, hP, rfl⟩⟩
end Go.Proofs.YtdjmhagclcfnfabGreat
/- The program's joined. -/
namespace Go.Proofs.YtdjmhagclcfnfabGreat
open Go.Shelf Go.RowKit

theorem complete_whole (ys : List Sk) : completeR (ys.map skP) ↔ wholeC (ys.map (·.1)) := by
  unfold completeR wholeC
  constructor
  · intro h k c hk
    rw [List.getElem?_map] at hk
    cases hy : ys[k]? with
    | none => rw [hy] at hk; cases hk
    | some y =>
      rw [hy] at hk
      simp only [Option.map_some, Option.some.injEq] at hk
      subst hk
      obtain ⟨a, ha, h5, h6, h7⟩ := h k (skP y) (by rw [List.getElem?_map, hy]; rfl)
      rw [List.getElem?_map] at ha
      cases hz : ys[0]? with
      | none => rw [hz] at ha; cases ha
      | some z =>
        rw [hz] at ha
        simp only [Option.map_some, Option.some.injEq] at ha
        subst ha
        rw [List.length_map] at h6 ⊢
        exact ⟨⟨z.1, by rw [List.getElem?_map, hz]; rfl, h5⟩, h6, h7⟩
  · intro h k p hk
    rw [List.getElem?_map] at hk
    cases hy : ys[k]? with
    | none => rw [hy] at hk; cases hk
    | some y =>
      rw [hy] at hk
      simp only [Option.map_some, Option.some.injEq] at hk
      subst hk
      obtain ⟨⟨a, ha, h5⟩, h6, h7⟩ := h k y.1 (by rw [List.getElem?_map, hy]; rfl)
      rw [List.getElem?_map] at ha
      cases hz : ys[0]? with
      | none => rw [hz] at ha; cases ha
      | some z =>
        rw [hz] at ha
        simp only [Option.map_some, Option.some.injEq] at ha
        subst ha
        rw [List.length_map] at h6 ⊢
        exact ⟨skP z, by rw [List.getElem?_map, hz]; rfl, h5, h6, h7⟩
theorem turn_whole (ys : List Sk) : turnR (ys.map skP) = (ys.map (·.1)).flatMap Ck.rs := by
  unfold turnR
  rw [List.flatMap_map, List.flatMap_map]
  rfl
theorem turn_length : ∀ (ps : List (Ck × Value)), (∀ p ∈ ps, p.1.rs.length ≤ 100) → (turnR ps).length ≤ 100 * ps.length
  | [], _ => by simp [turnR]
  | p :: ps, h => by
    have h1 := turn_length ps (fun q hq => h q (List.mem_cons_of_mem _ hq))
    have h2 := h p (by simp)
    unfold turnR at *
    rw [List.flatMap_cons, List.length_append, List.length_cons]
    omega
theorem kept_cells {A W : World} (h : A.grownBy W none) : (∀ X i, X < A.heap.size → W.cell? ⟨X, i, none⟩ = A.cell? ⟨X, i, none⟩) ∧ (∀ X i, X < A.heap.size → W.frozen? ⟨X, i, none⟩ = A.frozen? ⟨X, i, none⟩) :=
  ⟨fun X i hX => World.cell?_of_block (a := ⟨X, i, none⟩) (h.block X hX (by simp)), fun X i hX => by
    have := h.block X hX (by simp)
    simp only [World.frozen?, this]⟩
theorem stream_head {W : World} {X Y : Nat} {t t' : TypeId} {v0 v1 v2 v3 v4 u0 u1 u2 u3 u4 : Value} (h : W.heap[X]? = some (.cells #[v0, v1, v2, v3, v4] t (0, 0))) (h' : W.heap[Y]? = some (.cells #[u0, u1, u2, u3, u4] t' (0, 0))) :
    W.cell? ⟨X, 0, none⟩ = some v0 ∧ W.cell? ⟨X, 1, none⟩ = some v1 ∧ W.cell? ⟨X, 2, none⟩ = some v2 ∧ W.cell? ⟨X, 3, none⟩ = some v3 ∧ W.cell? ⟨X, 4, none⟩ = some v4 ∧ W.cell? ⟨Y, 4, none⟩ = some u4 :=
  ⟨boxed_cell (i := 0) h rfl, boxed_cell (i := 1) h rfl, boxed_cell (i := 2) h rfl, boxed_cell (i := 3) h rfl, boxed_cell (i := 4) h rfl, boxed_cell (i := 4) h' rfl⟩
theorem OwnsR.setT {B : Nat} {W : World} {v : Value} {rs : List Rc} (h : OwnsR B W v rs) {X o : Nat} {x : Value} {cs : Array Value} {t : TypeId} (hX : W.heap[X]? = some (.cells cs t (0, 0))) (ht : t ≠ 40) : OwnsR B (W.setCell ⟨X, o, none⟩ x) v rs :=
  OwnsR.beside h (gset W X o x) fun k cs' fr hk e => by
    cases e
    rw [hX] at hk
    simp only [Option.some.injEq, Obj.cells.injEq] at hk
    exact ht hk.2.1
theorem below_set {M X o : Nat} {W0 W : World} {x : Value} (h : Below M W0 W) (hX : M ≤ X) : Below M W0 (W.setCell ⟨X, o, none⟩ x) :=
  Below.setCell h (p := ⟨X, o, none⟩) hX x
theorem below_set5 {M X : Nat} {W0 W : World} {x0 x1 x2 x3 x4 : Value} (h : Below M W0 W) (hX : M ≤ X) : Below M W0 (((((W.setCell ⟨X, 0, none⟩ x0).setCell ⟨X, 1, none⟩ x1).setCell ⟨X, 2, none⟩ x2).setCell ⟨X, 3, none⟩ x3).setCell ⟨X, 4, none⟩ x4) :=
  below_set (below_set (below_set (below_set (below_set h hX) hX) hX) hX) hX
theorem fill5 {X : Nat} {W : World} {x0 x1 x2 x3 x4 a0 a1 a2 a3 a4 : Value} {t : TypeId} (hz : W.heap[X]? = some (.cells #[a0, a1, a2, a3, a4] t (0, 0))) :
    (((((W.setCell ⟨X, 0, none⟩ x0).setCell ⟨X, 1, none⟩ x1).setCell ⟨X, 2, none⟩ x2).setCell ⟨X, 3, none⟩ x3).setCell ⟨X, 4, none⟩ x4).heap[X]? = some (.cells #[x0, x1, x2, x3, x4] t (0, 0)) :=
  block_set (i := 4) (block_set (i := 3) (block_set (i := 2) (block_set (i := 1) (block_set (i := 0) hz x0) x1) x2) x3) x4
theorem OwnsR.setT5 {B X : Nat} {W : World} {v : Value} {rs : List Rc} {x0 x1 x2 x3 x4 a0 a1 a2 a3 a4 : Value} {t : TypeId} (ho : OwnsR B W v rs) (hz : W.heap[X]? = some (.cells #[a0, a1, a2, a3, a4] t (0, 0))) (ht : t ≠ 40) :
    OwnsR B (((((W.setCell ⟨X, 0, none⟩ x0).setCell ⟨X, 1, none⟩ x1).setCell ⟨X, 2, none⟩ x2).setCell ⟨X, 3, none⟩ x3).setCell ⟨X, 4, none⟩ x4) v rs := by
  have b1 := block_set (i := 0) hz x0
  have b2 := block_set (i := 1) b1 x1
  have b3 := block_set (i := 2) b2 x2
  have b4 := block_set (i := 3) b3 x3
  exact OwnsR.setT (OwnsR.setT (OwnsR.setT (OwnsR.setT (OwnsR.setT ho hz ht) b1 ht) b2 ht) b3 ht) b4 ht
theorem keepSet5 {W0 W : World} {b X : Nat} {v0 v1 v2 v3 v4 x0 x1 x2 x3 x4 : Value}
    (hS : W.cell? ⟨b, 0, none⟩ = some v0 ∧ W.cell? ⟨b, 1, none⟩ = some v1 ∧ W.cell? ⟨b, 2, none⟩ = some v2 ∧ W.cell? ⟨b, 3, none⟩ = some v3 ∧ W.cell? ⟨b, 4, none⟩ = some v4 ∧ Below W0.heap.size W0 W) (hp : b < W0.heap.size) (hX : W0.heap.size ≤ X) :
    (((((W.setCell ⟨X, 0, none⟩ x0).setCell ⟨X, 1, none⟩ x1).setCell ⟨X, 2, none⟩ x2).setCell ⟨X, 3, none⟩ x3).setCell ⟨X, 4, none⟩ x4).cell? ⟨b, 0, none⟩ = some v0 ∧ (((((W.setCell ⟨X, 0, none⟩ x0).setCell ⟨X, 1, none⟩ x1).setCell ⟨X, 2, none⟩ x2).setCell ⟨X, 3, none⟩ x3).setCell ⟨X, 4, none⟩ x4).cell? ⟨b, 1, none⟩ = some v1 ∧ (((((W.setCell ⟨X, 0, none⟩ x0).setCell ⟨X, 1, none⟩ x1).setCell ⟨X, 2, none⟩ x2).setCell ⟨X, 3, none⟩ x3).setCell ⟨X, 4, none⟩ x4).cell? ⟨b, 2, none⟩ = some v2 ∧ (((((W.setCell ⟨X, 0, none⟩ x0).setCell ⟨X, 1, none⟩ x1).setCell ⟨X, 2, none⟩ x2).setCell ⟨X, 3, none⟩ x3).setCell ⟨X, 4, none⟩ x4).cell? ⟨b, 3, none⟩ = some v3 ∧ (((((W.setCell ⟨X, 0, none⟩ x0).setCell ⟨X, 1, none⟩ x1).setCell ⟨X, 2, none⟩ x2).setCell ⟨X, 3, none⟩ x3).setCell ⟨X, 4, none⟩ x4).cell? ⟨b, 4, none⟩ = some v4 ∧ Below W0.heap.size W0 (((((W.setCell ⟨X, 0, none⟩ x0).setCell ⟨X, 1, none⟩ x1).setCell ⟨X, 2, none⟩ x2).setCell ⟨X, 3, none⟩ x3).setCell ⟨X, 4, none⟩ x4) := by
  have hne : b ≠ X := by omega
  have e : ∀ o, (((((W.setCell ⟨X, 0, none⟩ x0).setCell ⟨X, 1, none⟩ x1).setCell ⟨X, 2, none⟩ x2).setCell ⟨X, 3, none⟩ x3).setCell ⟨X, 4, none⟩ x4).cell? ⟨b, o, none⟩ = W.cell? ⟨b, o, none⟩ := fun o => World.cell?_of_block (a := ⟨b, o, none⟩) ((Below.heap_setCell _ _ _ _ hne).trans ((Below.heap_setCell _ _ _ _ hne).trans ((Below.heap_setCell _ _ _ _ hne).trans ((Below.heap_setCell _ _ _ _ hne).trans (Below.heap_setCell _ _ _ _ hne)))))
  exact ⟨(e 0).trans hS.1, (e 1).trans hS.2.1, (e 2).trans hS.2.2.1, (e 3).trans hS.2.2.2.1, (e 4).trans hS.2.2.2.2.1, below_set5 hS.2.2.2.2.2 hX⟩
theorem keepAl {W0 W : World} {b : Nat} {o o' : Obj} {v0 v1 v2 v3 v4 : Value}
    (hS : (W.alloc o).cell? ⟨b, 0, none⟩ = some v0 ∧ (W.alloc o).cell? ⟨b, 1, none⟩ = some v1 ∧ (W.alloc o).cell? ⟨b, 2, none⟩ = some v2 ∧ (W.alloc o).cell? ⟨b, 3, none⟩ = some v3 ∧ (W.alloc o).cell? ⟨b, 4, none⟩ = some v4 ∧ Below W0.heap.size W0 (W.alloc o)) (hp : b < W0.heap.size) (hl : W0.heap.size ≤ W.heap.size) :
    (W.alloc o').cell? ⟨b, 0, none⟩ = some v0 ∧ (W.alloc o').cell? ⟨b, 1, none⟩ = some v1 ∧ (W.alloc o').cell? ⟨b, 2, none⟩ = some v2 ∧ (W.alloc o').cell? ⟨b, 3, none⟩ = some v3 ∧ (W.alloc o').cell? ⟨b, 4, none⟩ = some v4 ∧ Below W0.heap.size W0 (W.alloc o') := by
  have e : ∀ k, k < W.heap.size → (W.alloc o').heap[k]? = (W.alloc o).heap[k]? := fun k hk => (Below.heap_alloc W o' k hk).trans (Below.heap_alloc W o k hk).symm
  have c : ∀ i, (W.alloc o').cell? ⟨b, i, none⟩ = (W.alloc o).cell? ⟨b, i, none⟩ := fun i => World.cell?_of_block (a := ⟨b, i, none⟩) (e b (by omega))
  have hb := hS.2.2.2.2.2
  exact ⟨(c 0).trans hS.1, (c 1).trans hS.2.1, (c 2).trans hS.2.2.1, (c 3).trans hS.2.2.2.1, (c 4).trans hS.2.2.2.2.1, hb.os, hb.tape, hb.output, by have := hb.size; simpa using this, fun k hk => (e k (by omega)).trans (hb.block k hk)⟩
theorem OwnsP.ne {B : Nat} {W : World} {g l cp : Nat} {ps : List (Ck × Value)} (h : OwnsP B W (.slice (some ⟨g, 0, none⟩) l cp) ps) {k : Nat} {cs : Array Value} {t : TypeId} {fr : Nat × Nat} (hk : W.heap[k]? = some (.cells cs t fr)) (ht : t ≠ 59) : some k ≠ some g := by
  rcases h.2 with ⟨e0, h0⟩ | ⟨g', cap, cur, e0, hb, hg, _⟩
  · cases e0
  · intro e
    simp only [Value.slice.injEq, Option.some.injEq, Addr.mk.injEq] at e0
    obtain ⟨⟨rfl, -, -⟩, -, -⟩ := e0
    cases e
    rw [hg] at hk
    simp only [Option.some.injEq, Obj.cells.injEq] at hk
    exact ht hk.2.1.symm

set_option maxRecDepth 100000 in
set_option maxHeartbeats 4000000 in
theorem joined_any (g cap B : Nat) (xs : List Sk) (w : World) (h : OwnsP B w (.slice (some ⟨g, 0, none⟩) xs.length cap) (xs.map skP)) (hn : xs.length ≤ 100) (h1 : 1 ≤ xs.length) (hR : ∀ x ∈ xs, OwnsR B w (skP x).2 x.1.rs) (hok : ∀ x ∈ xs, CkOk x.1 ∧ x.1.nu < x.1.many) :
    Calls Tryz.prog 21 #[.slice (some ⟨g, 0, none⟩) xs.length cap] w fun e w' => w.grownBy w' (some g) ∧
      ((joinC (.inr (xs.map (·.1))) = .inl 13 ∧ ∃ f t b z a n c, e = .returned (.tuple #[.agg #[.int .i64 f, .int .i64 t, .int .i64 b, .int .i64 z, .slice a n c], .bool false])) ∨
       (∃ (f t b z : Nat) (sv : Value) (rs : List Rc), joinC (.inr (xs.map (·.1))) = .inr (f, t, b, z, rs) ∧ wellHead f t b z = true ∧ recsOk b z (-1) rs = true ∧ Recs w'.heap.size w' sv rs ∧ e = .returned (.tuple #[.agg #[.int .i64 f, .int .i64 t, .int .i64 b, .int .i64 z, sv], .bool true]))) := by
  obtain ⟨W0, hW0⟩ : ∃ W0, W0 = w.alloc (.cells #[.int .i64 0, .int .i64 0, .int .i64 0, .int .i64 0, .slice none 0 0] 27) := ⟨_, rfl⟩
  have g0 : Hid (w.grownBy W0 none) := by rw [hW0]; exact galloc _ _ _
  have z0 : w.heap.size < W0.heap.size := by rw [hW0]; simp
  have S0 : Hid (W0.heap[w.heap.size]? = some (.cells #[.int .i64 0, .int .i64 0, .int .i64 0, .int .i64 0, .slice none 0 0] 27 (0, 0))) := by rw [hW0]; exact World.alloc_heap_new _ _
  have h' := OwnsP.keptN h g0.out
  have hgl : g < w.heap.size := by
    obtain ⟨x0, -⟩ := OwnsP.cells h 0 (by rw [List.length_map]; omega)
    exact World.block_lt_of_cell? _ _ x0
  have HS : Hid (∀ u : Unit, _) := fun _ => sort_any g cap B xs W0 h' hn
  have hmf : ∀ (fn : Fn) (first cap : Array Value) (w : World), (Instr.makeFunc fn first cap).run Tryz.prog w = .ok (.func fn first cap) w := fun _ _ _ _ => rfl
  have HR : Hid _ := hR
  have HP0 : Hid (OwnsP B W0 (.slice (some ⟨g, 0, none⟩) xs.length cap) (xs.map skP)) := h'
  clear h hR h'
  go_enter Tryz.func21, Tryz.ntmps21
  go_wp2_with fail
  rw [← hW0]
  clear hW0
  refine (HS.out ()).mono ?_
  rintro e w1 ⟨rfl, ys, hp, hs, ho, hg⟩
  have hyl := hp.length_eq
  rw [← hyl] at ho
  have HC : Hid (∀ u : Unit, _) := fun _ => complete_any g cap B (ys.map skP) w1 (by rw [List.length_map]; exact ho) (by rw [List.length_map]; omega) (by rw [List.length_map]; omega) (fun p hp => by obtain ⟨x, -, rfl⟩ := List.mem_map.1 hp; exact ⟨_, _, _, rfl⟩)
  rw [List.length_map, hyl] at HC
  have HP : Hid _ := hp
  have HSd : Hid _ := hs
  have HO : Hid _ := ho
  have HG : Hid _ := hg
  clear hp hs ho hg HS
  go_wp2_with fail
  refine (HC.out ()).mono ?_
  rintro e w2 ⟨hg2, ok, rfl, hc⟩
  have G2 : Hid (W0.grownBy w2 (some g)) := gtrans HG.out (gnone hg2)
  have GW : Hid (w.grownBy w2 (some g)) := gtrans (gnone g0.out) G2.out
  have B2 : Hid (w2.heap[w.heap.size]? = some (.cells #[.int .i64 0, .int .i64 0, .int .i64 0, .int .i64 0, .slice none 0 0] 27 (0, 0))) := box5_grown S0.out G2.out (by simp; omega)
  obtain ⟨r0, r1, r2, r3, r4, -⟩ := box5_cells B2.out
  obtain ⟨f0, f1, f2, f3, f4⟩ := box5_froz B2.out
  have HPM : Hid ((ys.map (·.1)).Perm (xs.map (·.1))) := HP.out.map _
  have HSM : Hid ((ys.map (·.1)).Pairwise (fun a b : Ck => a.nu ≤ b.nu)) := List.pairwise_map.2 HSd.out
  have HNU : Hid (∀ c ∈ xs.map (·.1), c.nu < c.many) := fun c hc => by obtain ⟨x, hx, rfl⟩ := List.mem_map.1 hc; exact (hok x hx).2
  cases ok with
  | false =>
    have HB : Hid (joinC (.inr (xs.map (·.1))) = .inl 13) := join_bad HPM.out HSM.out HNU.out (by simpa using h1) (fun h => by
      have := hc.2 ((complete_whole ys).2 h.1)
      cases this)
    clear hc
    go_wp2
    refine bodyPost_ret (v := .tuple #[.agg #[.int .i64 0, .int .i64 0, .int .i64 0, .int .i64 0, .slice none 0 0], .bool false]) (by simp [results, Tryz.results21, go_sem, r0, r1, r2, r3, r4]) rfl ?_
    exact ⟨gfresh (gfresh (gfresh (gfresh (gfresh GW.out (Nat.le_refl _)) (Nat.le_refl _)) (Nat.le_refl _)) (Nat.le_refl _)) (Nat.le_refl _), .inl ⟨HB.out, 0, 0, 0, 0, none, 0, 0, rfl⟩⟩
  | true =>
    have hcomp : wholeC (ys.map (·.1)) := (complete_whole ys).1 (hc.1 rfl)
    clear hc
    have hyp : 0 < ys.length := by omega
    have O2 : Hid (OwnsP B w2 (.slice (some ⟨g, 0, none⟩) (ys.map skP).length cap) (ys.map skP)) := by
      rw [List.length_map]
      exact OwnsP.keptN HO.out hg2
    obtain ⟨x0, x1, x2, x3, x4, -⟩ := OwnsP.cells O2.out 0 (by rw [List.length_map]; exact hyp)
    have HD : Hid ((ys.map (·.1))[0]? = some ys[0].1) := by
      show _ = _
      rw [List.getElem?_map, List.getElem?_eq_getElem hyp]
      rfl
    have hck : CkOk ys[0].1 := (hok ys[0] (HP.out.mem_iff.1 (List.getElem_mem hyp))).1
    rw [List.getElem_map] at x0 x1 x2 x3 x4
    simp only [skP, Nat.zero_mul, Nat.zero_add] at x0 x1 x2 x3 x4
    generalize ys[0].1 = d at *
    have hxl : (0 : Int) < (xs.length : Int) := by omega
    have hgl2 : g < w2.heap.size := Nat.lt_of_lt_of_le hgl GW.out.size
    obtain ⟨W3, hW3⟩ : ∃ W3, W3 = w2.alloc (.cells #[.int .i64 d.f, .int .i64 d.t, .int .i64 d.b, .int .i64 d.z, .int .i64 d.all] 51) := ⟨_, rfl⟩
    have h3 : Hid (W3.heap[w2.heap.size]? = some (.cells #[.int .i64 d.f, .int .i64 d.t, .int .i64 d.b, .int .i64 d.z, .int .i64 d.all] 51 (0, 0))) := by rw [hW3]; exact World.alloc_heap_new _ _
    have g3 : Hid (w2.grownBy W3 none) := by rw [hW3]; exact galloc _ _ _
    have z3 : w2.heap.size < W3.heap.size := by rw [hW3]; simp
    go_wp2_with fail
    rw [← hW3]
    clear hW3
    rename_i K aK
    obtain ⟨rs, hrs⟩ : ∃ rs, rs = turnR (ys.map skP) := ⟨_, rfl⟩
    have hrl : rs.length ≤ 10000 := by
      have := turn_length (ys.map skP) (fun p hp => by
        obtain ⟨x, hx, rfl⟩ := List.mem_map.1 hp
        exact (hok x (HP.out.mem_iff.1 hx)).1.len)
      rw [List.length_map] at this
      rw [hrs]
      omega
    have HRT : Hid ((ys.map (·.1)).flatMap Ck.rs = rs) := by
      show _ = _
      rw [hrs, turn_whole]
    have HGood : Hid (recsOk d.b d.z (-1) rs = true → rs.length = d.all → joinC (.inr (xs.map (·.1))) = .inr (d.f, d.t, d.b, d.z, rs)) := fun h1 h2 => by
      have := join_good HPM.out hcomp d HD.out (by rw [HRT.out]; exact h1) (by rw [HRT.out]; exact h2)
      rw [HRT.out] at this
      exact this
    have HBad : Hid (¬ (recsOk d.b d.z (-1) rs = true ∧ rs.length = d.all) → joinC (.inr (xs.map (·.1))) = .inl 13) := fun h => by
      refine join_bad HPM.out HSM.out HNU.out (by rw [List.length_map]; omega) ?_
      rintro ⟨-, c, hc, h1, h2⟩
      rw [HD.out] at hc
      cases hc
      rw [HRT.out] at h1 h2
      exact h ⟨h1, h2⟩
    have G23 : Hid (w.grownBy W3 (some g)) := gtrans GW.out (gnone g3.out)
    have HR3 : Hid (∀ p ∈ ys.map skP, OwnsR B W3 p.2 p.1.rs) := fun p hp => by
      obtain ⟨x, hx, rfl⟩ := List.mem_map.1 hp
      have a1 := OwnsR.kept (HR.out x (HP.out.mem_iff.1 hx)) g0.out
      have a2 := OwnsR.beside a1 HG.out (fun k cs fr hk => HP0.out.ne hk (by decide))
      exact OwnsR.kept (OwnsR.kept a2 hg2) g3.out
    have hO3 : OwnsP B W3 (.slice (some ⟨g, 0, none⟩) xs.length cap) (ys.map skP) := by
      have := OwnsP.keptN O2.out g3.out
      rw [List.length_map, hyl] at this
      exact this
    have HCol : Hid (∀ (A : World) (Bs : Nat), Below W3.heap.size W3 A → A.cell? ⟨Bs, 0, none⟩ = some (.slice (some ⟨g, 0, none⟩) xs.length cap) → Calls Tryz.prog 35 #[.func (.func 63) #[] #[.pointer (some ⟨Bs, 0, none⟩)]] A fun e A' => A.grownBy A' none ∧ ∃ a c, e = .returned (.slice a rs.length c) ∧ OwnsR A.heap.size A' (.slice a rs.length c) rs) := fun A Bs hA hc => by
      have hgA : W3.grownBy A none := gbelow hA
      have hps : (ys.map skP).length = xs.length := by rw [List.length_map, hyl]
      refine (collect_many A (enters_of Tryz.func63 (by kernel_rfl) rfl) (inTurn_seq 8 (by decide) Bs g cap (ys.map skP) (by omega) (fun p hp => by
        obtain ⟨x, hx, rfl⟩ := List.mem_map.1 hp
        have := (hok x (HP.out.mem_iff.1 hx)).1.len
        show x.1.rs.length ≤ 1000
        omega) A (by rw [hps]; exact hc) (by omega) (by rw [hps]; exact row_base (OwnsP.keptN hO3 hgA) (Nat.zero_le _)) (fun p hp => (OwnsR.kept (HR3.out p hp) hgA).recs)) (fun k hk => hk) (fun b hb => by cases hb) (fun pre x hG => by
          have := hG.length_le
          rw [List.length_append, ← hrs] at this
          simp only [List.length_cons, List.length_nil] at this
          omega)).mono ?_
      rintro e A' ⟨hg', (⟨zs, v, rfl, rfl, ho'⟩ | ⟨ch, zs, hF, _⟩)⟩
      · rw [← hrs] at ho'
        obtain ⟨a, c, rfl⟩ := ho'.recs.slice
        exact ⟨hg', a, c, rfl, ho'⟩
      · exact hF.elim
    clear hrs
    have HREST : Hid (∀ (X : Nat) (a : Option Addr) (c : Nat) (v18 v19 v20 : Value) (W : World), W.heap[X]? = some (.cells #[.int .i64 d.f, .int .i64 d.t, .int .i64 d.b, .int .i64 d.z, .slice a rs.length c] 27 (0, 0)) → Below W3.heap.size W3 W → W3.heap.size ≤ X → OwnsR W3.heap.size W (.slice a rs.length c) rs →
        K { tmps := #[.slice (some ⟨g, 0, none⟩) xs.length cap, undef, .pointer (some ⟨w.heap.size, 0, none⟩), .bool false, .pointer (some ⟨w2.heap.size, 0, none⟩), .pointer (some ⟨X, 0, none⟩), .slice (some ⟨g, 0, none⟩) xs.length cap, .tuple #[], .slice (some ⟨g, 0, none⟩) xs.length cap, .bool true, .bool false, undef, .slice (some ⟨g, 0, none⟩) xs.length cap, .pointer (some ⟨g, 0, none⟩), .pointer (some ⟨g, 0, none⟩), .agg #[.int .i64 d.f, .int .i64 d.t, .int .i64 d.b, .int .i64 d.z, .int .i64 d.all], .agg #[.int .i64 d.f, .int .i64 d.t, .int .i64 d.b, .int .i64 d.z, .int .i64 d.all], .slice (some ⟨g, 0, none⟩) xs.length cap, v18, v19, v20, undef, undef, undef, undef, undef, undef, undef, undef, undef, undef, undef], defers := [] } W) := by
      intro X a c v18 v19 v20 W hX hbW hlX hown
      refine aK _ _ ?_
      have hg3W : W3.grownBy W none := gbelow hbW
      have hXl := (Array.getElem?_eq_some_iff.1 hX).1
      have hH := box5_grown h3.out hg3W (by simp)
      have hRb := box5_grown (box5_grown B2.out g3.out (by simp)) hg3W (by simp)
      have hwz : w.heap.size < w2.heap.size := (Array.getElem?_eq_some_iff.1 B2.out).1
      have hne1 : X ≠ w.heap.size := by omega
      have hne2 : w2.heap.size ≠ w.heap.size := by omega
      have hzW : W3.heap.size ≤ W.heap.size := hbW.size
      obtain ⟨s0, s1, s2, s3, s4, -⟩ := box5_cells hX
      obtain ⟨-, -, -, -, q4, -⟩ := box5_cells hH
      obtain ⟨k0, k1, k2, k3, k4, -⟩ := box5_cells hRb
      obtain ⟨m0, m1, m2, m3, m4⟩ := box5_froz hRb
      have HOW : Hid (OwnsR W3.heap.size W (.slice a rs.length c) rs) := hown
      have HGW : Hid (w.grownBy W (some g)) := gtrans G23.out (gnone hg3W)
      clear hown
      by_cases hlen : rs.length = d.all
      · have e1 : ((rs.length : Int) == (d.all : Int)) = true := by simp; omega
        have HPW : Hid (∀ W' : World, W.grownBy W' none → Calls Tryz.prog 23 #[.agg #[.int .i64 d.f, .int .i64 d.t, .int .i64 d.b, .int .i64 d.z, .slice a rs.length c]] W' fun e w' => e = .returned (.bool (recsOk d.b d.z (-1) rs)) ∧ Below W'.heap.size W' w') := fun W' hW' => by
          have := pwell_any d.f d.t d.b d.z (.slice a rs.length c) rs W' (OwnsR.kept HOW.out hW').recs (by omega)
          rw [hck.head, Bool.true_and] at this
          exact this
        have HKB : Hid (∀ w' : World, Below W.drew.heap.size W.drew w' → W.grownBy w' none ∧ w'.heap[X]? = some (.cells #[.int .i64 d.f, .int .i64 d.t, .int .i64 d.b, .int .i64 d.z, .slice a rs.length c] 27 (0, 0)) ∧ w'.heap[w2.heap.size]? = some (.cells #[.int .i64 d.f, .int .i64 d.t, .int .i64 d.b, .int .i64 d.z, .int .i64 d.all] 51 (0, 0)) ∧ w'.heap[w.heap.size]? = some (.cells #[.int .i64 0, .int .i64 0, .int .i64 0, .int .i64 0, .slice none 0 0] 27 (0, 0))) := fun w' hb => by
          have hg : W.grownBy w' none := gtrans (drew_grown W 1 none) (gbelow hb)
          exact ⟨hg, box5_grown hX hg (by simp), box5_grown hH hg (by simp), box5_grown hRb hg (by simp)⟩
        have HJG : Hid (recsOk d.b d.z (-1) rs = true → _) := fun h => HGood.out h hlen
        have HJB : Hid (recsOk d.b d.z (-1) rs = false → _) := fun h => HBad.out (fun h' => by rw [h] at h'; cases h'.1)
        clear HBad HGood HCol HR3 hlen
        generalize hrk : recsOk d.b d.z (-1) rs = rk at *
        go_wp2_with fail
        go_region_held3 (fun w' => w'.cell? ⟨X, 0, none⟩ = some (.int .i64 d.f) ∧ w'.cell? ⟨X, 1, none⟩ = some (.int .i64 d.t) ∧ w'.cell? ⟨X, 2, none⟩ = some (.int .i64 d.b) ∧ w'.cell? ⟨X, 3, none⟩ = some (.int .i64 d.z) ∧ w'.cell? ⟨X, 4, none⟩ = some (.slice a rs.length c) ∧ w'.cell? ⟨w2.heap.size, 4, none⟩ = some (.int .i64 d.all))
          (first | with_reducible exact stream_head hS9 hH9 | with_reducible exact stream_head (box_set5 hS9 hne1 _ _ _ _ _) (box_set5 hH9 hne2 _ _ _ _ _) | exact stream_head hX hH)
          ((go_at_call 23; refine (HPW.out _ (drew_grown W 1 none)).mono ?_; rintro e w9 ⟨rfl, hb9⟩; obtain ⟨hg9, hS9, hH9, hR9⟩ := HKB.out _ hb9; obtain ⟨k0, k1, k2, k3, k4, -⟩ := box5_cells hR9; obtain ⟨m0, m1, m2, m3, m4⟩ := box5_froz hR9))
        go_wp2
        refine bodyPost_ret (v := .tuple #[.agg #[.int .i64 d.f, .int .i64 d.t, .int .i64 d.b, .int .i64 d.z, .slice a rs.length c], .bool rk]) (by simp [results, Tryz.results21, go_sem, k0, k1, k2, k3, k4]) rfl ?_
        refine ⟨gfresh (gfresh (gfresh (gfresh (gfresh (gtrans HGW.out (gnone hg9)) (Nat.le_refl _)) (Nat.le_refl _)) (Nat.le_refl _)) (Nat.le_refl _)) (Nat.le_refl _), ?_⟩
        have hwl : w.heap.size < W3.heap.size := by omega
        cases rk with
        | false => exact .inl ⟨HJB.out rfl, _, _, _, _, _, _, _, rfl⟩
        | true => exact .inr ⟨d.f, d.t, d.b, d.z, _, rs, HJG.out rfl, hck.head, hrk, (OwnsR.set (OwnsR.set (OwnsR.set (OwnsR.set (OwnsR.set (OwnsR.kept HOW.out hg9) hwl) hwl) hwl) hwl) hwl).recs, rfl⟩
      · have e1 : ((rs.length : Int) == (d.all : Int)) = false := by simp; omega
        have HBd : Hid _ := HBad.out (fun h => hlen h.2)
        clear HBad HGood HCol HR3 hX hH hRb
        go_wp2_with fail
        go_region
        go_wp2
        refine bodyPost_ret (v := .tuple #[.agg #[.int .i64 d.f, .int .i64 d.t, .int .i64 d.b, .int .i64 d.z, .slice a rs.length c], .bool false]) (by simp [results, Tryz.results21, go_sem, k0, k1, k2, k3, k4]) rfl ?_
        exact ⟨gfresh (gfresh (gfresh (gfresh (gfresh (gdrewR HGW.out 1) (Nat.le_refl _)) (Nat.le_refl _)) (Nat.le_refl _)) (Nat.le_refl _)) (Nat.le_refl _), .inl ⟨HBd.out, _, _, _, _, _, _, _, rfl⟩⟩
    clear aK HGood HBad HRT hcomp HR HO HG O2 HPM HSM HNU HD HP HSd
    obtain ⟨c0, c1, c2, c3, c4, -⟩ := box5_cells h3.out
    have B30 : Hid (Below W3.heap.size W3 W3.drew) := (Below.refl _ _).drew
    have HC0 : Hid (∀ u : Unit, Calls Tryz.prog 35 #[.func (.func 63) #[] #[.pointer (some ⟨W3.heap.size + 1, 0, none⟩)]] (((W3.alloc (.cells #[.int .i64 0, .int .i64 0, .int .i64 0, .int .i64 0, .slice none 0 0] 27)).alloc (.cells #[.slice (some ⟨g, 0, none⟩) xs.length cap] 55)).drew) fun e w5 => ∃ a c, e = .returned (.slice a rs.length c) ∧ OwnsR W3.heap.size w5 (.slice a rs.length c) rs ∧ (((W3.alloc (.cells #[.int .i64 0, .int .i64 0, .int .i64 0, .int .i64 0, .slice none 0 0] 27)).alloc (.cells #[.slice (some ⟨g, 0, none⟩) xs.length cap] 55)).drew).grownBy w5 none ∧ w5.heap[W3.heap.size]? = some (.cells #[.int .i64 0, .int .i64 0, .int .i64 0, .int .i64 0, .slice none 0 0] 27 (0, 0)) ∧ W3.heap.size ≤ w5.heap.size) := fun _ => by
      refine (HCol.out ((W3.drew.alloc (.cells #[.int .i64 0, .int .i64 0, .int .i64 0, .int .i64 0, .slice none 0 0] 27)).alloc (.cells #[.slice (some ⟨g, 0, none⟩) xs.length cap] 55)) _ ((B30.out.alloc (Nat.le_refl _) _).alloc (by simp) _) (by simp [go_sem])).mono ?_
      rintro e w5 ⟨hg5, a, c, rfl, ho5⟩
      have hz : ((W3.drew.alloc (.cells #[.int .i64 0, .int .i64 0, .int .i64 0, .int .i64 0, .slice none 0 0] 27)).alloc (.cells #[.slice (some ⟨g, 0, none⟩) xs.length cap] 55)).heap.size ≤ w5.heap.size := hg5.size
      simp at hz
      exact ⟨a, c, rfl, OwnsR.base ho5 (by simp; omega), hg5, box5_grown ((Below.heap_alloc _ _ _ (by simp)).trans (World.alloc_heap_new W3.drew _)) hg5 (by simp), by omega⟩
    have HC1 : Hid (∀ u : Unit, Calls Tryz.prog 35 #[.func (.func 63) #[] #[.pointer (some ⟨W3.heap.size, 0, none⟩)]] (((W3.alloc (.cells #[.slice (some ⟨g, 0, none⟩) xs.length cap] 55)).alloc (.cells #[.int .i64 0, .int .i64 0, .int .i64 0, .int .i64 0, .slice none 0 0] 27)).drew) fun e w5 => ∃ a c, e = .returned (.slice a rs.length c) ∧ OwnsR W3.heap.size w5 (.slice a rs.length c) rs ∧ (((W3.alloc (.cells #[.slice (some ⟨g, 0, none⟩) xs.length cap] 55)).alloc (.cells #[.int .i64 0, .int .i64 0, .int .i64 0, .int .i64 0, .slice none 0 0] 27)).drew).grownBy w5 none ∧ w5.heap[W3.heap.size + 1]? = some (.cells #[.int .i64 0, .int .i64 0, .int .i64 0, .int .i64 0, .slice none 0 0] 27 (0, 0)) ∧ W3.heap.size ≤ w5.heap.size) := fun _ => by
      refine (HCol.out ((W3.drew.alloc (.cells #[.slice (some ⟨g, 0, none⟩) xs.length cap] 55)).alloc (.cells #[.int .i64 0, .int .i64 0, .int .i64 0, .int .i64 0, .slice none 0 0] 27)) _ ((B30.out.alloc (Nat.le_refl _) _).alloc (by simp) _) (by simp [go_sem])).mono ?_
      rintro e w5 ⟨hg5, a, c, rfl, ho5⟩
      have hz : ((W3.drew.alloc (.cells #[.slice (some ⟨g, 0, none⟩) xs.length cap] 55)).alloc (.cells #[.int .i64 0, .int .i64 0, .int .i64 0, .int .i64 0, .slice none 0 0] 27)).heap.size ≤ w5.heap.size := hg5.size
      have e := World.alloc_heap_new (W3.drew.alloc (.cells #[.slice (some ⟨g, 0, none⟩) xs.length cap] 55)) (.cells #[.int .i64 0, .int .i64 0, .int .i64 0, .int .i64 0, .slice none 0 0] 27)
      rw [World.size_alloc] at e
      simp at hz
      exact ⟨a, c, rfl, OwnsR.base ho5 (by simp; omega), hg5, box5_grown e hg5 (by simp), by omega⟩
    have HC2 : Hid (∀ u : Unit, Calls Tryz.prog 35 #[.func (.func 63) #[] #[.pointer (some ⟨W3.heap.size, 0, none⟩)]] ((W3.alloc (.cells #[.slice (some ⟨g, 0, none⟩) xs.length cap] 55)).drew) fun e w5 => ∃ a c, e = .returned (.slice a rs.length c) ∧ OwnsR W3.heap.size w5 (.slice a rs.length c) rs ∧ ((W3.alloc (.cells #[.slice (some ⟨g, 0, none⟩) xs.length cap] 55)).drew).grownBy w5 none ∧ W3.heap.size ≤ w5.heap.size) := fun _ => by
      refine (HCol.out (W3.drew.alloc (.cells #[.slice (some ⟨g, 0, none⟩) xs.length cap] 55)) _ (B30.out.alloc (Nat.le_refl _) _) (by simp [go_sem])).mono ?_
      rintro e w5 ⟨hg5, a, c, rfl, ho5⟩
      have hz : (W3.drew.alloc (.cells #[.slice (some ⟨g, 0, none⟩) xs.length cap] 55)).heap.size ≤ w5.heap.size := hg5.size
      simp at hz
      exact ⟨a, c, rfl, OwnsR.base ho5 (by simp), hg5, by omega⟩
    have HS0 : Hid (∀ (f t b z n : Int) (a : Option Addr) (l c X : Nat) (w5 : World), w5.heap[X]? = some (.cells #[.int .i64 0, .int .i64 0, .int .i64 0, .int .i64 0, .slice none 0 0] 27 (0, 0)) → Calls Tryz.prog 41 #[.agg #[.int .i64 f, .int .i64 t, .int .i64 b, .int .i64 z, .int .i64 n], .slice a l c] w5 fun e w6 => e = .returned (.agg #[.int .i64 f, .int .i64 t, .int .i64 b, .int .i64 z, .slice a l c]) ∧ Below w5.heap.size w5 w6 ∧ w6.heap[X]? = some (.cells #[.int .i64 0, .int .i64 0, .int .i64 0, .int .i64 0, .slice none 0 0] 27 (0, 0)) ∧ w5.heap.size ≤ w6.heap.size) := fun f t b z n a l c X w5 hz => by
      refine (hstream_any f t b z n a l c w5).mono ?_
      rintro e w6 ⟨rfl, hb⟩
      exact ⟨rfl, hb, box5_grown hz (gbelow (row := none) hb) (by simp), hb.size⟩
    have HS2 : Hid (∀ (f t b z n : Int) (a : Option Addr) (l c : Nat) (w5 : World), Calls Tryz.prog 41 #[.agg #[.int .i64 f, .int .i64 t, .int .i64 b, .int .i64 z, .int .i64 n], .slice a l c] (w5.alloc (.cells #[.int .i64 0, .int .i64 0, .int .i64 0, .int .i64 0, .slice none 0 0] 27)) fun e w6 => e = .returned (.agg #[.int .i64 f, .int .i64 t, .int .i64 b, .int .i64 z, .slice a l c]) ∧ Below (w5.alloc (.cells #[.int .i64 0, .int .i64 0, .int .i64 0, .int .i64 0, .slice none 0 0] 27)).heap.size (w5.alloc (.cells #[.int .i64 0, .int .i64 0, .int .i64 0, .int .i64 0, .slice none 0 0] 27)) w6 ∧ w6.heap[w5.heap.size]? = some (.cells #[.int .i64 0, .int .i64 0, .int .i64 0, .int .i64 0, .slice none 0 0] 27 (0, 0)) ∧ w5.heap.size ≤ w6.heap.size) := fun f t b z n a l c w5 => by
      refine (hstream_any f t b z n a l c _).mono ?_
      rintro e w6 ⟨rfl, hb⟩
      have hz := hb.size
      simp at hz
      exact ⟨rfl, hb, box5_grown (World.alloc_heap_new w5 _) (gbelow (row := none) hb) (by simp), by omega⟩
    have HS1 : Hid (∀ (f t b z n : Int) (a : Option Addr) (l c : Nat) (w5 : World), Calls Tryz.prog 41 #[.agg #[.int .i64 f, .int .i64 t, .int .i64 b, .int .i64 z, .int .i64 n], .slice a l c] w5 fun e w6 => e = .returned (.agg #[.int .i64 f, .int .i64 t, .int .i64 b, .int .i64 z, .slice a l c]) ∧ Below w5.heap.size w5 w6 ∧ w5.heap.size ≤ w6.heap.size) := fun f t b z n a l c w5 => by
      refine (hstream_any f t b z n a l c _).mono ?_
      rintro e w6 ⟨rfl, hb⟩
      exact ⟨rfl, hb, hb.size⟩
    have hS3 : W3.drew.cell? ⟨w2.heap.size, 0, none⟩ = some (.int .i64 d.f) ∧ W3.drew.cell? ⟨w2.heap.size, 1, none⟩ = some (.int .i64 d.t) ∧ W3.drew.cell? ⟨w2.heap.size, 2, none⟩ = some (.int .i64 d.b) ∧ W3.drew.cell? ⟨w2.heap.size, 3, none⟩ = some (.int .i64 d.z) ∧ W3.drew.cell? ⟨w2.heap.size, 4, none⟩ = some (.int .i64 d.all) ∧ Below W3.heap.size W3 W3.drew := ⟨c0, c1, c2, c3, c4, B30.out⟩
    have HS3 : Hid _ := hS3
    clear HCol hS3
    go_region_held3 (fun w' => w'.cell? ⟨w2.heap.size, 0, none⟩ = some (.int .i64 d.f) ∧ w'.cell? ⟨w2.heap.size, 1, none⟩ = some (.int .i64 d.t) ∧ w'.cell? ⟨w2.heap.size, 2, none⟩ = some (.int .i64 d.b) ∧ w'.cell? ⟨w2.heap.size, 3, none⟩ = some (.int .i64 d.z) ∧ w'.cell? ⟨w2.heap.size, 4, none⟩ = some (.int .i64 d.all) ∧ Below W3.heap.size W3 w')
      (first | with_reducible exact keepSet5 (by assumption) z3 hl5 | with_reducible exact keepSet5 (by assumption) z3 (Nat.le_refl _) | with_reducible exact keepSet5 (by assumption) z3 (Nat.le_succ _) | with_reducible exact keepS5 (by assumption) ((Below.refl _ _).alloc (Nat.le_refl _) _) z3 | with_reducible exact keepS5 (by assumption) (below_of_grown hg5) z3 | with_reducible exact keepS5 (by assumption) hb6 z3 | with_reducible exact keepAl (by assumption) z3 (Nat.le_trans hl5 hl6) | with_reducible exact HS3.out)
      (first | (go_at_call 42; refine (inTurn_any _ _ _ _).mono ?_; rintro e w4 ⟨rfl, rfl⟩) | (go_at_call 35; (with_reducible refine (HC2.out ()).mono ?_); rintro e w5 ⟨a, c, rfl, ho5, hg5, hl5⟩; have HO5 : Hid _ := ho5; clear ho5) | (go_at_call 35; (with_reducible refine (HC1.out ()).mono ?_); rintro e w5 ⟨a, c, rfl, ho5, hg5, hz5, hl5⟩; have HO5 : Hid _ := ho5; clear ho5) | (go_at_call 35; (with_reducible refine (HC0.out ()).mono ?_); rintro e w5 ⟨a, c, rfl, ho5, hg5, hz5, hl5⟩; have HO5 : Hid _ := ho5; clear ho5) | (go_at_call 41; (with_reducible refine (HS0.out _ _ _ _ _ _ _ _ _ _ hz5).mono ?_); rintro e w6 ⟨rfl, hb6, hz6, hl6⟩; obtain ⟨k0, k1, k2, k3, k4, -⟩ := box5_cells hz6; obtain ⟨m0, m1, m2, m3, m4⟩ := box5_froz hz6) | (go_at_call 41; (with_reducible refine (HS2.out _ _ _ _ _ _ _ _ _).mono ?_); rintro e w6 ⟨rfl, hb6, hz6, hl6⟩; obtain ⟨k0, k1, k2, k3, k4, -⟩ := box5_cells hz6; obtain ⟨m0, m1, m2, m3, m4⟩ := box5_froz hz6) | (go_at_call 41; (with_reducible refine (HS1.out _ _ _ _ _ _ _ _ _).mono ?_); rintro e w6 ⟨rfl, hb6, hl6⟩))
    · exact HREST.out w6.heap.size a c _ _ _ _ (World.alloc_heap_new _ _) (s5_below (b := w2.heap.size) (v0 := .int .i64 d.f) (v1 := .int .i64 d.t) (v2 := .int .i64 d.b) (v3 := .int .i64 d.z) (v4 := .int .i64 d.all) (by assumption)) (Nat.le_trans hl5 hl6) (OwnsR.alloc (OwnsR.kept HO5.out (gbelow hb6)) _)
    · exact HREST.out w5.heap.size a c _ _ _ _ (fill5 hz6) (s5_below (b := w2.heap.size) (v0 := .int .i64 d.f) (v1 := .int .i64 d.t) (v2 := .int .i64 d.b) (v3 := .int .i64 d.z) (v4 := .int .i64 d.all) (by assumption)) hl5 (OwnsR.setT5 (OwnsR.kept (OwnsR.alloc HO5.out _) (gbelow hb6)) hz6 (by decide))
    · exact HREST.out (W3.heap.size + 1) a c _ _ _ _ (fill5 hz6) (s5_below (b := w2.heap.size) (v0 := .int .i64 d.f) (v1 := .int .i64 d.t) (v2 := .int .i64 d.b) (v3 := .int .i64 d.z) (v4 := .int .i64 d.all) (by assumption)) (Nat.le_succ _) (OwnsR.setT5 (OwnsR.kept HO5.out (gbelow hb6)) hz6 (by decide))
    · exact HREST.out W3.heap.size a c _ _ _ _ (fill5 hz6) (s5_below (b := w2.heap.size) (v0 := .int .i64 d.f) (v1 := .int .i64 d.t) (v2 := .int .i64 d.b) (v3 := .int .i64 d.z) (v4 := .int .i64 d.all) (by assumption)) (Nat.le_refl _) (OwnsR.setT5 (OwnsR.kept HO5.out (gbelow hb6)) hz6 (by decide))
end Go.Proofs.YtdjmhagclcfnfabGreat
