/- The reference's Some. -/
import Derived.Test.YtpopjmkipddpgaaRParse2
import Derived.Test.YtpopjmkipddpgaaPSome2
import Derived.Test.YtpopjmkipddpgaaLExact2
namespace Go.Proofs.Ytpopjmkipddpgaa
open Go.RowKit Go.Shelf

/-- How the reference's Some ends. -/
def ToldRS (l : List UInt8) (fr mn : Nat) (w : World) (e : Ending) (w' : World) : Prop :=
  w.grownBy w' none ∧ ((∃ k, someR l fr mn = .inl k ∧ e = .returned (.tuple #[.slice none 0 0, .int .i64 k])) ∨ (∃ rs v, someR l fr mn = .inr rs ∧ e = .returned (.tuple #[v, .int .i64 0]) ∧ Recs w'.heap.size w' v rs))

theorem some_part {l : List UInt8} {fr mn f t b z m : Nat} (h : openR l = .inr (f, t, b, z, m)) (h1 : fr < m) (h2 : mn < m - fr) :
    (∀ rs k, walkR b z (fr + mn) (-1) (l.drop 18) = (rs, .inl k) → someR l fr mn = .inl k) ∧ (∀ rs q, walkR b z (fr + mn) (-1) (l.drop 18) = (rs, .inr q) → someR l fr mn = .inr (rs.drop fr)) := by
  refine ⟨fun rs k hw => ?_, fun rs q hw => ?_⟩
  · unfold someR
    rw [h]
    simp only [if_pos (And.intro h1 h2)]
    rw [hw]
  · unfold someR
    rw [h]
    simp only [if_pos (And.intro h1 h2)]
    rw [hw]
theorem some_whole {l : List UInt8} {fr mn f t b z m : Nat} (h : openR l = .inr (f, t, b, z, m)) (hc : ¬ (fr < m ∧ mn < m - fr)) :
    (∀ k, parseR l = .inl k → someR l fr mn = .inl k) ∧ (∀ f t b z rs, parseR l = .inr (f, t, b, z, rs) → someR l fr mn = .inr (rs.drop fr)) := by
  refine ⟨fun k hw => ?_, fun f t b z rs hw => ?_⟩
  · unfold someR
    rw [h]
    simp only [if_neg hc]
    rw [hw]
  · unfold someR
    rw [h]
    simp only [if_neg hc]
    rw [hw]
/-- Records, from one on. -/
theorem Recs.from_ {B : Nat} {W : World} {a : Option Addr} {len cap k cap' : Nat} {rs : List Rc} (h : Recs B W (.slice a len cap) rs) (hk : k ≤ rs.length) (hl : len = rs.length) (a' : Option Addr) (ha : ∀ b o, a = some ⟨b, o, none⟩ → a' = some ⟨b, o + k * 3, none⟩) : Recs B W (.slice a' (len - k) cap') (rs.drop k) := by
  subst hl
  rcases h with ⟨rfl, _⟩ | ⟨b, o, c, e, hb, hc⟩
  · simp at hk
    subst hk
    exact .inl ⟨rfl, a', cap', rfl⟩
  · simp only [Value.slice.injEq] at e
    rw [ha b o e.1]
    refine .inr ⟨b, o + k * 3, cap', by rw [List.length_drop], hb, fun j hj => ?_⟩
    rw [List.length_drop] at hj
    have := hc (k + j) (by omega)
    rw [List.getElem_drop]
    rw [show o + k * 3 + j * 3 = o + (k + j) * 3 from by omega]
    exact this

theorem OwnsR.cap {B : Nat} {W : World} {a : Option Addr} {ln cp : Nat} {rs : List Rc} (h : OwnsR B W (.slice a ln cp) rs) : ln ≤ cp := by
  rcases h.2 with ⟨e, _⟩ | ⟨g, cap, cur, e, _, _, h1, _⟩
  · simp only [Value.slice.injEq] at e
    omega
  · simp only [Value.slice.injEq] at e
    omega
theorem parse_len {l : List UInt8} {f t b z m f' t' b' z' : Nat} {rs : List Rc} (ho : openR l = .inr (f, t, b, z, m)) (h : parseR l = .inr (f', t', b', z', rs)) : rs.length = m := by
  unfold parseR at h
  rw [ho] at h
  simp only [] at h
  cases hw : walkR b z m (-1) (l.drop 18) with
  | mk ys y =>
    rw [hw] at h
    cases y with
    | inl k => cases h
    | inr q =>
      simp only [] at h
      have hl := walk_length b z m (-1) _ hw
      cases he : endR l (l.length - q.length) with
      | some k => rw [he] at h; cases h
      | none =>
        rw [he] at h
        cases h
        exact hl

set_option maxRecDepth 100000 in
set_option maxHeartbeats 2000000 in
theorem rsome (l : List UInt8) (fr mn : Nat) (w : World) (hl : l.length ≤ 4611686018427387904) (hfr : fr ≤ 9223372036854775807) (hmn : mn ≤ 9223372036854775807) :
    Calls Try.prog 23 #[.string ⟨l.toArray⟩, .int .i64 fr, .int .i64 mn] w (ToldRS l fr mn w) := by
  have HO : Hid (∀ W, _) := fun W => ropens l [83, 84, 82, 68] 18 0 W (by omega) hl
  rw [openG_R] at HO
  have t18 := tail_eq l 18
  have HP : Hid (∀ W, _) := fun W => rparse l W hl
  go_enter Try.func23, Try.ntmps23
  go_wp2_with fail
  refine (HO.out _).mono ?_
  rintro e w1 ⟨hg1, hcase⟩
  rcases hcase with ⟨k, hk, rfl⟩ | ⟨f, t, b, z, m, hk, rfl, h18, hw, hm⟩
  · have hke := openR_err l k hk
    have e1 : (k != 0) = true := by simp; omega
    have HA : Hid (someR l fr mn = .inl k) := by
      show _ = _
      unfold someR
      rw [hk]
    have G1 : Hid _ := hg1
    clear hk hke hg1
    go_wp2
    refine bodyPost_ret (results_tmp2 rfl _ _ _) rfl ?_
    exact ⟨gallocR G1.out _, .inl ⟨k, HA.out, rfl⟩⟩
  have HK : Hid _ := hk
  replace hm : m ≤ b := by simpa using hm
  obtain ⟨h1, h2, h3, h4, h5, h6, h7, h8, h9⟩ : (0 : Int) ≤ f ∧ (f : Int) ≤ 2147483647 ∧ (1 : Int) ≤ t ∧ (t : Int) ≤ 2147483647 ∧ (f : Int) ≠ t ∧ (1 : Int) ≤ b ∧ (b : Int) ≤ 100 ∧ (1 : Int) ≤ z ∧ (z : Int) ≤ 64 := of_decide_eq_true hw
  have G1 : Hid _ := hg1
  clear hk hw h1 h2 h3 h4 h5 h6 h8 hg1
  by_cases hcase : fr < m ∧ mn < m - fr
  · obtain ⟨hc1, hc2⟩ := hcase
    have e1 : decide ((m : Int) ≤ (fr : Int)) = false := by simp; omega
    have e1' : decide (m ≤ fr) = false := by simp; omega
    have e2 : decide ((m : Int) - (fr : Int) ≤ (mn : Int)) = false := by simp; omega
    obtain ⟨S, hS⟩ : ∃ S, S = fr + mn := ⟨_, rfl⟩
    have HR : Hid (∀ W, _) := fun W => rrecords (l.drop 18) b z S f t false W (by omega) (by omega) (by simp; omega)
    have ew : IntKind.i64.wrap ((fr : Int) + (mn : Int)) = (S : Int) := by rw [IntKind.wrap_i64]; omega
    obtain ⟨p1, p2⟩ := some_part HK.out hc1 hc2
    rw [← hS] at p1 p2
    have hS1 : fr ≤ S := by omega
    have hS2 : S ≤ 100 := by omega
    clear hS
    have HS1 : Hid _ := p1
    have HS2 : Hid _ := p2
    clear p1 p2
    go_wp2_with fail
    obtain ⟨W2, hW2⟩ : ∃ W2, W2 = w1.alloc (.cells #[.int .i64 f, .int .i64 t, .int .i64 b, .int .i64 z, .slice none 0 0] 24) := ⟨_, rfl⟩
    have hx2 : W2.heap[w1.heap.size]? = some (.cells #[.int .i64 f, .int .i64 t, .int .i64 b, .int .i64 z, .slice none 0 0] 24 (0, 0)) := by rw [hW2]; exact World.alloc_heap_new _ _
    have hg2 : w1.grownBy W2 none := by rw [hW2]; exact galloc _ _ _
    have hs2 : w1.heap.size < W2.heap.size := by rw [hW2]; simp
    rw [← hW2]
    clear hW2
    obtain ⟨x0, x1, x2, x3, x4, -, -, -, -, -⟩ := box5 hx2
    have h18' : (18 : Int) ≤ (l.length : Int) := by omega
    have G2 : Hid (w.grownBy W2 none) := gtrans G1.out hg2
    clear hx2 hg2
    go_region_held3 (fun w' => w'.cell? ⟨w1.heap.size, 0, none⟩ = some (.int .i64 f) ∧ w'.cell? ⟨w1.heap.size, 1, none⟩ = some (.int .i64 t) ∧ w'.cell? ⟨w1.heap.size, 2, none⟩ = some (.int .i64 b) ∧ w'.cell? ⟨w1.heap.size, 3, none⟩ = some (.int .i64 z) ∧ w'.cell? ⟨w1.heap.size, 4, none⟩ = some (.slice none 0 0) ∧ W2.grownBy w' none)
      (first | exact ⟨x0, x1, x2, x3, x4, drew_grown _ _ _⟩ | exact keep5g (by assumption) (by omega) G3.out)
      (first | (go_at_call 32; refine (HR.out _).mono ?_; rintro e w3 h3; obtain ⟨a, ln, cp, sr, ke, rfl, hg3, hcase⟩ := recs_shape h3; have G3 : Hid _ := hg3; clear h3 hg3))
    rename_i hS3
    have G3' : Hid (w.grownBy w3 none) := gtrans G2.out hS3.2.2.2.2.2
    clear hS3 x0 x1 x2 x3 x4
    rcases hcase with ⟨rs, hwk, hke⟩ | ⟨rs, q', hwk, rfl, rfl, hown⟩
    · have e3 : (ke != 0) = true := by simp; omega
      have HA : Hid _ := HS1.out rs ke hwk
      clear hwk hke
      go_wp2
      refine bodyPost_ret (results_tmp2 rfl _ _ _) rfl ?_
      exact ⟨G3'.out, .inl ⟨ke, HA.out, rfl⟩⟩
    · have HA : Hid _ := HS2.out rs q' hwk
      have hrl := walk_length b z S (-1) _ hwk
      have hrc := OwnsR.recs hown
      obtain ⟨a', cp', e'⟩ := hrc.slice
      simp only [Value.slice.injEq] at e'
      obtain ⟨-, hln, -⟩ := e'
      rw [hrl] at hln
      subst hln
      have HRC : Hid _ := hrc
      have hcap : ln ≤ cp := OwnsR.cap hown
      clear hwk hown hrc
      go_wp2
      all_goals
        refine bodyPost_ret (results_tmp2 rfl _ _ _) rfl ?_
        refine ⟨G3'.out, .inr ⟨_, _, HA.out, rfl, ?_⟩⟩
        first
        | exact .inl ⟨List.drop_of_length_le (by omega), _, _, congrArg (fun x => Value.slice _ x _) (show ln - fr = 0 by omega)⟩
        | exact Recs.from_ HRC.out (by omega) hrl.symm _ (fun b o e => by rw [e, Option.map_some, Addr.add_lit])
  · have hor : (decide (m ≤ fr) = true) ∨ (decide (m ≤ fr) = false ∧ decide ((m : Int) - (fr : Int) ≤ (mn : Int)) = true) := by
      simp
      omega
    obtain ⟨p1, p2⟩ := some_whole HK.out hcase
    have HS1 : Hid _ := p1
    have HS2 : Hid _ := p2
    clear p1 p2 hcase
    have HPL : Hid (∀ f' t' b' z' rs, parseR l = .inr (f', t', b', z', rs) → rs.length = m) := fun _ _ _ _ _ h => parse_len HK.out h
    rcases hor with e1 | ⟨e1, e2⟩
    all_goals
      go_wp2_with fail
      obtain ⟨W2, hW2⟩ : ∃ W2, W2 = w1.alloc (.cells #[.int .i64 f, .int .i64 t, .int .i64 b, .int .i64 z, .slice none 0 0] 24) := ⟨_, rfl⟩
      have hx2 : W2.heap[w1.heap.size]? = some (.cells #[.int .i64 f, .int .i64 t, .int .i64 b, .int .i64 z, .slice none 0 0] 24 (0, 0)) := by rw [hW2]; exact World.alloc_heap_new _ _
      have G2 : Hid (w.grownBy W2 none) := by rw [hW2]; exact gallocR G1.out _
      have hw1 : w.heap.size ≤ w1.heap.size := G1.out.size
      rw [← hW2]
      clear hW2
      refine (HP.out _).mono ?_
      rintro e w3 ⟨hg3, (⟨k, hk, rfl⟩ | ⟨f', t', b', z', rs, v, hk, rfl, hown⟩)⟩
      · have hke := parse_err l k hk
        have e3 : (k != 0) = true := by simp; omega
        have HA : Hid _ := HS1.out k hk
        obtain ⟨c0, c1, c2, c3, c4, f0, f1, f2, f3, f4⟩ := box5 (box_kept hx2 hg3).1
        have G3 : Hid (w.grownBy w3 none) := gtrans G2.out hg3
        clear hk hke hx2 hg3
        go_wp2
        refine bodyPost_ret (results_tmp2 rfl _ _ _) rfl ?_
        exact ⟨gfresh (gfresh (gfresh (gfresh (gfresh G3.out (by omega)) (by omega)) (by omega)) (by omega)) (by omega), .inl ⟨k, HA.out, rfl⟩⟩
      · have HA : Hid _ := HS2.out f' t' b' z' rs hk
        have hrl := HPL.out _ _ _ _ _ hk
        obtain ⟨av, lv, cv, rfl⟩ := hown.slice
        have hcap : lv ≤ cv := OwnsR.cap hown
        have hlv : lv = rs.length := by
          obtain ⟨_, _, e⟩ := (OwnsR.recs hown).slice
          simp only [Value.slice.injEq] at e
          exact e.2.1
        have hlt3 : w1.heap.size < W2.heap.size := (Array.getElem?_eq_some_iff.1 hx2).1
        have HOW : Hid (OwnsR W2.heap.size w3 (.slice av lv cv) rs) := hown
        obtain ⟨c0, c1, c2, c3, c4, f0, f1, f2, f3, f4⟩ := box5 (box_kept hx2 hg3).1
        have G3 : Hid (w.grownBy w3 none) := gtrans G2.out hg3
        rw [hrl] at hlv
        subst hlv
        have hor2 : lv ≤ fr ∨ fr ≤ lv := by omega
        clear hk hx2 hg3 hown
        first
        | (have hfl : fr ≤ lv := by (simp at e1; omega)); (clear hor2); go_wp2
        | (clear hor2); go_wp2
        all_goals
          refine bodyPost_ret (results_tmp2 rfl _ _ _) rfl ?_
          refine ⟨gfresh (gfresh (gfresh (gfresh (gfresh G3.out (by omega)) (by omega)) (by omega)) (by omega)) (by omega), .inr ⟨_, _, HA.out, rfl, ?_⟩⟩
          have hrc := OwnsR.recs (OwnsR.set (OwnsR.set (OwnsR.set (OwnsR.set (OwnsR.set HOW.out (k := w1.heap.size) (o := 0) (x := .int .i64 f') (by omega)) (k := w1.heap.size) (o := 1) (x := .int .i64 t') (by omega)) (k := w1.heap.size) (o := 2) (x := .int .i64 b') (by omega)) (k := w1.heap.size) (o := 3) (x := .int .i64 z') (by omega)) (k := w1.heap.size) (o := 4) (x := .slice av lv cv) (by omega))
          first
          | exact .inl ⟨List.drop_of_length_le (by simp at e1; omega), _, _, rfl⟩
          | exact .inl ⟨List.drop_of_length_le (by omega), _, _, congrArg (fun x => Value.slice _ x _) (show lv - fr = 0 by omega)⟩
          | exact Recs.from_ hrc (by omega) hrl.symm _ (fun b o e => by rw [e, Option.map_some, Addr.add_lit])
end Go.Proofs.Ytpopjmkipddpgaa
