/- The program's Text: a text, piece by piece. -/
import Derived.Test.YtdjmhagclcfnfaaPRec
import Derived.Test.YtdjmhagclcfnfaaPCollect2
import Derived.Stop.RegionWithIn
namespace Go.Proofs.Ytdjmhagclcfnfaa
open Go.RowKit Go.Shelf

attribute [local go_sem] Oper.semAt_some

/-- What is known of the next record of a list that is right. -/
theorem recsOk_next (b z : Int) (rs : List Rc) (ho : recsOk b z (-1) rs = true) (pre : List Rc) (x : Rc) (hG : pre ++ [x] <+: rs) :
    0 ≤ x.block ∧ x.block < b ∧ ((x.data.size : Int) = if x.free then 0 else z) ∧ recsOk b z (-1) pre = true := by
  obtain ⟨suf, rfl⟩ := hG
  have h := recsOk_at b z _ (-1) ho pre.length (by simp)
  simp only [List.append_assoc, List.getElem_append_right (Nat.le_refl _), Nat.sub_self] at h
  simp only [List.cons_append, List.nil_append, List.getElem_cons_zero] at h
  refine ⟨by omega, h.2.1, h.2.2, ?_⟩
  rw [List.append_assoc, recsOk_append, Bool.and_eq_true] at ho
  exact ho.1

/-- A record that a text can hold. -/
def RecFit (z : Int) (r : Rc) : Prop := 0 ≤ r.block ∧ r.block < 65536 ∧ (r.data.size : Int) = if r.free then 0 else z
theorem recB_fit (z : Int) (hz : z ≤ 64) (r : Rc) (h : RecFit z r) : (recB r).length ≤ 67 := by
  obtain ⟨h0, h1, h2⟩ := h
  unfold recB
  cases hf : r.free with
  | true => simp [lowB_length]
  | false =>
    rw [hf] at h2
    have hs : r.data.data.toList.length = r.data.size := rfl
    simp only [Bool.false_eq_true, if_false, List.length_cons, List.length_append, lowB_length, hs] at h2 ⊢
    omega
theorem recsB_fit (z : Int) (hz : z ≤ 64) (rs : List Rc) (h : ∀ r ∈ rs, RecFit z r) : (recsB rs).length ≤ 67 * rs.length := by
  induction rs with
  | nil => simp [recsB]
  | cons r rs ih =>
    have e : recsB (r :: rs) = recB r ++ recsB rs := by simp [recsB]
    rw [e, List.length_append, List.length_cons]
    have := recB_fit z hz r (h r (by simp))
    have := ih (fun x hx => h x (by simp [hx]))
    omega
theorem recsOk_fit (b z last : Int) (rs : List Rc) (hb : b ≤ 100) (hl : -1 ≤ last) (ho : recsOk b z last rs = true) : ∀ r ∈ rs, RecFit z r := by
  intro r hr
  obtain ⟨k, hk, rfl⟩ := List.mem_iff_getElem.1 hr
  have h := recsOk_at b z rs last ho k hk
  exact ⟨by omega, by omega, h.2.2⟩
/-- Bytes, and their check behind them. -/
def shutB (L : List UInt8) : List UInt8 := L ++ lowB (crc L) 4


/-- The pieces of a text: its head, its records, its check. -/
def recP (r : Rc) : ByteArray := ⟨(recB r).toArray⟩
def frontP (L0 : List UInt8) (rs : List Rc) : List ByteArray := ⟨L0.toArray⟩ :: rs.map recP
def lastP (L0 : List UInt8) (rs : List Rc) : ByteArray := ⟨(lowB (crc (L0 ++ recsB rs)) 4).toArray⟩
def allP (L0 : List UInt8) (rs : List Rc) : List ByteArray := frontP L0 rs ++ [lastP L0 rs]
theorem frontP_snoc (L0 : List UInt8) (rs : List Rc) (r : Rc) : frontP L0 (rs ++ [r]) = frontP L0 rs ++ [recP r] := by simp [frontP]
theorem frontP_pre (L0 : List UInt8) (rs pre : List Rc) (h : pre <+: rs) : frontP L0 pre <+: allP L0 rs := by
  obtain ⟨suf, rfl⟩ := h
  exact ⟨suf.map recP ++ [lastP L0 (pre ++ suf)], by simp [allP, frontP]⟩
theorem crcN_rec (L0 : List UInt8) (pre : List Rc) (x : Rc) : crcF (crcN (L0 ++ recsB pre)) (recB x) = crcN (L0 ++ recsB (pre ++ [x])) := by
  rw [← crcN_append, recsB_snoc, List.append_assoc]
/-- A piece, as yield is handed it. -/
abbrev encS (x : ByteArray) : Array Value := #[.string x]

set_option maxRecDepth 100000 in
set_option maxHeartbeats 4000000 in
theorem text_seq (n : Nat) (hn : 2 ≤ n) (Bh Br Bs : Nat) (L0 : List UInt8) (sv : Value) (rs : List Rc) (z : Int) (w : World)
    (hL : L0.length ≤ 1000) (hz : z ≤ 64) (hlen : rs.length ≤ 400) (ho : ∀ r ∈ rs, RecFit z r)
    (hBh : w.heap[Bh]? = some (.cells #[.string ⟨L0.toArray⟩] 9 (0, 0)))
    (hBr : w.heap[Br]? = some (.cells #[.func (.func 93) #[] #[.pointer (some ⟨Bs, 0, none⟩)]] 90 (0, 0)))
    (hBs : w.cell? ⟨Bs, 0, none⟩ = some sv) (lBs : Bs < w.heap.size) (hR : Recs w.heap.size w sv rs) :
    SeqW Fence.wide n Try.prog 149 #[.pointer (some ⟨Bh, 0, none⟩), .pointer (some ⟨Br, 0, none⟩)] encS (fun k => k < w.heap.size) none 2
      (fun pre x => pre ++ [x] <+: allP L0 rs) (fun xs => xs = allP L0 rs) (fun pre => pre <+: allP L0 rs) (fun _ _ => False) w := by
  intro l J Jx W hW hJ hJx hY h0
  obtain ⟨a, c, rfl⟩ := hR.slice
  have lh := (Array.getElem?_eq_some_iff.1 hBh).1
  have lr := (Array.getElem?_eq_some_iff.1 hBr).1
  have hws := hW.size
  have hBh' := (hW.block Bh lh).trans hBh
  have q1 := boxed_cell (i := 0) (v := .string ⟨L0.toArray⟩) hBh' rfl
  have lh' : Bh < W.heap.size := Nat.lt_of_lt_of_le lh hws
  have lr' : Br < W.heap.size := Nat.lt_of_lt_of_le lr hws
  have HJ : Hid (OwnItW none W.heap.size (W.heap.size + 2) W.heap.size J) := hJ
  have HJX : Hid (OwnItW none W.heap.size (W.heap.size + 2) W.heap.size Jx) := hJx
  have HY : Hid _ := hY
  have H0 : Hid (J [] W) := h0
  have HWB : Hid (∀ k, k < w.heap.size → W.heap[k]? = w.heap[k]?) := hW.block
  have HBR : Hid _ := hBr
  have HBS : Hid _ := hBs
  have HRS : Hid (Recs w.heap.size w (.slice a rs.length c) rs) := hR
  have HFit : Hid _ := ho
  have HS0 : Hid (∀ W : World, _) := fun W => psum_any 4294967295 ⟨L0.toArray⟩ W (by decide) (show L0.length ≤ 100000 by omega)
  clear hJ hJx hY h0 hW hBh hBh' hBr hBs hR ho
  refine callsIn_of_wp_marks Try.func149 rfl trivial ?_ rfl
  simp only [Try.ntmps149, List.size_toArray, List.length_cons, List.length_nil, Nat.reduceAdd, Nat.reduceSub, Array.replicate_succ, Array.replicate_zero, List.push_toArray, List.append_toArray, List.nil_append, List.cons_append]
  gi_wp2_with fail
  refine ⟨trivial, fun h => by omega, (callsIn_wide.2 (HS0.out _)).mono ?_⟩
  rintro e w1 ⟨rfl, rfl⟩
  rw [show crcF 4294967295 L0 = crcN L0 from rfl]
  obtain ⟨W2, hW2⟩ : ∃ W2, W2 = (W.alloc (.cells #[.func (.yield l) #[] #[]] 32)).alloc (.cells #[.int .u32 (crcN L0 : Nat)] 168) := ⟨_, rfl⟩
  have hs2 : W2.heap.size = W.heap.size + 2 := by rw [hW2]; simp
  have hy2 : W2.heap[W.heap.size]? = some (.cells #[.func (.yield l) #[] #[]] 32 (0, 0)) := by rw [hW2]; exact (Below.heap_alloc _ _ _ (by simp)).trans (World.alloc_heap_new _ _)
  have hp2 : W2.heap[W.heap.size + 1]? = some (.cells #[.int .u32 (crcN L0 : Nat)] 168 (0, 0)) := by
    rw [hW2]
    have h := World.alloc_heap_new (W.alloc (.cells #[.func (.yield l) #[] #[]] 32)) (.cells #[.int .u32 (crcN L0 : Nat)] 168)
    rwa [World.size_alloc] at h
  have hg2 : W.grownBy W2 none := by rw [hW2]; exact gallocR (galloc _ _ _) _
  have hj2 : J [] W2 := by rw [hW2]; exact OwnItW.alloc HJ.out _ (OwnItW.alloc HJ.out _ H0.out)
  have d1 := boxed_cell (i := 0) (v := .func (.yield l) #[] #[]) hy2 rfl
  have d2 : W2.cell? ⟨Bh, 0, none⟩ = some (.string ⟨L0.toArray⟩) := (World.cell?_of_block (hg2.block Bh lh' (by simp))).trans q1
  obtain ⟨fn, tmps, assign, body, hy, hRd⟩ := HY.out [] ⟨L0.toArray⟩ W2 (by omega) hj2 (frontP_pre L0 rs [] List.nil_prefix)
  have HYB : Hid _ := hy2
  have HSB : Hid _ := hp2
  have HG2 : Hid (W.grownBy W2 none) := hg2
  clear hy2 hp2 hg2 hj2
  rw [hW2] at hy d1 d2
  gi_wp2
  rw [← hW2]
  refine ⟨fun h => by omega, hRd.mono ?_⟩
  clear hy hRd d1 d2 hW2
  rintro e A0 (⟨rfl, hj, hkf, hkp⟩ | ⟨rfl, hjx, hkf⟩)
  rotate_left
  · have HX : Hid (Jx [⟨L0.toArray⟩] A0) := hjx
    clear hjx hkf
    gi_wp2
    exact ⟨_, results_none rfl _ _ _, by simpa using Or.inr ⟨_, frontP_pre L0 rs [] List.nil_prefix, HX.out⟩⟩
  have y0 : A0.heap[W.heap.size]? = some (.cells #[.func (.yield l) #[] #[]] 32 (0, 0)) := (hkp _ (.inr ⟨by omega, by omega⟩)).trans HYB.out
  have s0 : A0.heap[W.heap.size + 1]? = some (.cells #[.int .u32 (crcN L0 : Nat)] 168 (0, 0)) := (hkp _ (.inr ⟨by omega, by omega⟩)).trans HSB.out
  have k0 : ∀ k, k < w.heap.size → A0.heap[k]? = w.heap[k]? := fun k hk => (hkp k (.inl hk)).trans ((HG2.out.block k (by omega) (by simp)).trans (HWB.out k hk))
  have hsA : W.heap.size + 2 ≤ A0.heap.size := by have := hkf.size; omega
  have rb := boxed_cell (i := 0) (v := .func (.func 93) #[] #[.pointer (some ⟨Bs, 0, none⟩)]) ((k0 Br lr).trans HBR.out) rfl
  have bs0 : A0.cell? ⟨Bs, 0, none⟩ = some (.slice a rs.length c) := (World.cell?_of_block (k0 Bs lBs)).trans HBS.out
  have hRA : Recs A0.heap.size A0 (.slice a rs.length c) rs := by
    rcases HRS.out with h | ⟨b, off, cap, e, hlt, hc⟩
    · exact .inl h
    · exact .inr ⟨b, off, cap, e, by omega, fun j hj => ⟨(World.cell?_of_block (k0 b hlt)).trans (hc j hj).1, (World.cell?_of_block (k0 b hlt)).trans (hc j hj).2.1, (World.cell?_of_block (k0 b hlt)).trans (hc j hj).2.2⟩⟩
  have hKW : ∀ k, (rs ≠ [] ∧ ∃ off, a = some ⟨k, off, none⟩) → k < w.heap.size := fun k ⟨hne, off, e⟩ => HRS.out.block_lt hne e
  have HJ0 : Hid (J [⟨L0.toArray⟩] A0) := hj
  have HY0 : Hid _ := y0
  have HS0' : Hid _ := s0
  have HBS0 : Hid _ := bs0
  have HRA : Hid _ := hRA
  clear hj hkf hkp y0 s0 bs0 hRA HYB HSB
  gi_wp2
  refine range_law (n := n) rfl (by omega) (gf := 93) (lb := #[.pointer (some ⟨Bs, 0, none⟩)]) rfl trivial (enters_of Try.func93 (by kernel_rfl) rfl)
    (values_seq (n - 1) (by omega) Bs (.slice a rs.length c) rs (by omega) A0 (by omega) HBS0.out HRA.out (fun k => rs ≠ [] ∧ ∃ off, a = some ⟨k, off, none⟩) (fun k hk => by have := hKW k hk; omega) (fun hne b off l cap e => by simp only [Value.slice.injEq] at e; exact ⟨hne, off, e.1⟩))
    (Below.refl _ _) (fun k hk => by have := hKW k hk; omega) (fun b e => by cases e) (fun _ => rfl)
    (fun ys A => J (frontP L0 ys) A ∧ A.heap[W.heap.size]? = some (.cells #[.func (.yield l) #[] #[]] 32 (0, 0)) ∧ A.heap[W.heap.size + 1]? = some (.cells #[.int .u32 (crcN (L0 ++ recsB ys) : Nat)] 168 (0, 0)) ∧ A0.heap.size ≤ A.heap.size)
    (fun cd ys A => cd = .ret ∧ Jx (frontP L0 ys) A)
    ?hI ?hIx ⟨HJ0.out, HY0.out, by simpa [recsB] using HS0'.out, Nat.le_refl _⟩
    (fun (x : Rc) (a' : Act) (A : World) => ∃ Bx : Nat, A0.heap.size ≤ Bx ∧ A.heap[Bx]? = some (.cells #[.bool x.free, .int .i64 x.block, .string x.data] 34 (0, 0)) ∧ a' = { tmps := #[.func (.yield l) #[] #[], .pointer (some ⟨Bh, 0, none⟩), .pointer (some ⟨Br, 0, none⟩), .pointer (some ⟨W.heap.size, 0, none⟩), .pointer (some ⟨W.heap.size + 1, 0, none⟩), .pointer (some ⟨Bx, 0, none⟩), undef, .string ⟨L0.toArray⟩, .int .u32 (crcN L0 : Nat), .func (.yield l) #[] #[], .string ⟨L0.toArray⟩, .bool true, .bool false, .func (.func 93) #[] #[.pointer (some ⟨Bs, 0, none⟩)], .agg #[.bool x.free, .int .i64 x.block, .string x.data], undef, undef, undef, undef, undef, undef, undef, undef, undef, undef, undef, undef, undef, undef], defers := [] })
    ?ax ?assign ?body ?done ?stop ?panic
  case hI =>
    refine OwnIt.and (fun s A A' row h hg hr => OwnItW.it HJ.out (B' := A0.heap.size) (by omega) _ A A' row h hg hr) (OwnIt.and (ownIt_blockN _ (fun _ => _) (fun _ => rfl) (by simp)) (OwnIt.and (ownIt_blockN _ (fun ys : List Rc => .cells #[.int .u32 (crcN (L0 ++ recsB ys) : Nat)] 168 (0, 0)) (fun _ => rfl) (by simp)) ?_))
    exact fun s A A' row h hg hr => Nat.le_trans h hg.size
  case hIx =>
    rintro cd s A A' row ⟨h1, h2⟩ hg hr
    exact ⟨h1, OwnItW.it HJX.out (B' := A0.heap.size) (by omega) _ A A' row h2 hg hr⟩
  case ax =>
    rintro x a' s A A' row ⟨Bx, h1, h2, h3⟩ hg hr
    refine ⟨Bx, h1, (hg.block Bx (Array.getElem?_eq_some_iff.1 h2).1 (fun e => ?_)).trans h2, h3⟩
    rcases hr Bx e.symm with e2 | ⟨_, o, ho', hc⟩
    · cases e2
    · rw [h2] at ho'; cases ho'; cases hc
  case assign =>
    rintro l' pre x A K1 ⟨h1, h2, h3, h4⟩ hK
    have lt := fun {k : Nat} {o : Obj} (e : A.heap[k]? = some o) => (Array.getElem?_eq_some_iff.1 e).1
    gi_wp2
    refine hK _ _ ((KeepsOthers.alloc _ _).from _) ?_ ⟨OwnItW.alloc HJ.out _ h1, (Below.heap_alloc _ _ _ (lt h2)).trans h2, (Below.heap_alloc _ _ _ (lt h3)).trans h3, by simp; omega⟩ ⟨A.heap.size, h4, World.alloc_heap_new _ _, rfl⟩
    exact (KeptOn.refl _ _).alloc (fun k hk => by have := hKW k hk; omega) _
  case body =>
    rintro l' ys x a' A ⟨h1, h2, h3, h4⟩ ⟨Bx, hx1, hx, rfl⟩ hGx
    obtain ⟨e1, e2, e3⟩ := HFit.out x (hGx.subset (by simp))
    have r0 := boxed_cell (i := 0) (v := .bool x.free) hx rfl
    have r1 := boxed_cell (i := 1) (v := .int .i64 x.block) hx rfl
    have r2 := boxed_cell (i := 2) (v := .string x.data) hx rfl
    have hrl : (recB x).length ≤ 67 := recB_fit z hz x ⟨e1, e2, e3⟩
    have H1 : Hid _ := h1
    have H2 : Hid _ := h2
    have H3 : Hid _ := h3
    clear h1 h2 h3 hx
    gi_wp2_with fail
    refine ⟨trivial, fun h => by simp [Fence.wide] at h, (CallsIn.inRound l' (callsIn_wide.2 (recText_any x A z hz e1 (by omega) e3))).mono ?_⟩
    rintro e A1 ⟨rfl, hb1⟩
    have hg1 : A.grownBy A1 none := gbelow hb1
    have j1 : J (frontP L0 ys) A1 := HJ.out _ A A1 none H1.out hg1 (fun r e => by cases e)
    have lt := fun {k : Nat} {o : Obj} (e : A.heap[k]? = some o) => (Array.getElem?_eq_some_iff.1 e).1
    have y1 := (hg1.block W.heap.size (lt H2.out) (by simp)).trans H2.out
    have s1 := (hg1.block (W.heap.size + 1) (lt H3.out) (by simp)).trans H3.out
    have hsz1 : A0.heap.size ≤ A1.heap.size := Nat.le_trans h4 hg1.size
    have c4 := boxed_cell (i := 0) (v := .int .u32 (crcN (L0 ++ recsB ys) : Nat)) s1 rfl
    have f4 := boxed_frozen (i := 0) s1
    have HPS : Hid (∀ W : World, _) := fun W => psum_any (crcN (L0 ++ recsB ys)) ⟨(recB x).toArray⟩ W (crcN_lt _) (show (recB x).length ≤ 100000 by omega)
    have HJ1 : Hid (J (frontP L0 ys) A1) := j1
    have HY1 : Hid _ := y1
    have HS1 : Hid _ := s1
    have HG1 : Hid (A.grownBy A1 none) := hg1
    have HB1 : Hid (Below A.heap.size A A1) := hb1
    have HCR : Hid (crcF (crcN (L0 ++ recsB ys)) (recB x) = crcN (L0 ++ recsB (ys ++ [x]))) := crcN_rec L0 ys x
    clear j1 y1 s1 hg1 hb1 r0 r1 r2
    generalize crcN (L0 ++ recsB ys) = cy at *
    gi_wp2_with fail
    refine ⟨trivial, fun h => by simp [Fence.wide] at h, (CallsIn.inRound l' (callsIn_wide.2 (HPS.out _))).mono ?_⟩
    rintro e A2 ⟨rfl, hA2⟩
    obtain rfl : A1 = A2 := hA2.symm
    rw [HCR.out]
    obtain ⟨A3, hA3⟩ : ∃ A3, A3 = A1.setCell ⟨W.heap.size + 1, 0, none⟩ (.int .u32 (crcN (L0 ++ recsB (ys ++ [x])) : Nat)) := ⟨_, rfl⟩
    have y3 : A3.heap[W.heap.size]? = some (.cells #[.func (.yield l) #[] #[]] 32 (0, 0)) := by rw [hA3]; exact (Below.heap_setCell _ _ _ _ (by show W.heap.size ≠ W.heap.size + 1; omega)).trans HY1.out
    have s3 : A3.heap[W.heap.size + 1]? = some (.cells #[.int .u32 (crcN (L0 ++ recsB (ys ++ [x])) : Nat)] 168 (0, 0)) := by rw [hA3]; exact block_set (i := 0) HS1.out _
    have yJ : J (frontP L0 ys) A3 := by rw [hA3]; exact HJ.out _ A1 _ (some (W.heap.size + 1)) HJ1.out (gset _ _ _ _) (fun r e => by cases e; exact .inr (.inl ⟨by omega, by omega⟩))
    have hsz3 : A3.heap.size = A1.heap.size := by rw [hA3]; simp
    have yK : Hid (KeptOn (fun k => k < w.heap.size) A A3) := by
      intro k hk
      rw [hA3]
      exact (Below.heap_setCell _ _ _ _ (by show k ≠ W.heap.size + 1; omega)).trans (HG1.out.block k (by omega) (by simp))
    have yF : Hid (KeepsFrom A0.heap.size A A3) := by
      rw [hA3]
      exact KeepsFrom.trans ⟨HB1.out.size, fun k o _ hk _ => (HB1.out.block k (Array.getElem?_eq_some_iff.1 hk).1).trans hk⟩ ((KeepsOthers.setCell _ _ _).from _)
    have c3 := boxed_cell (i := 0) (v := .func (.yield l) #[] #[]) y3 rfl
    have hpre : frontP L0 ys ++ [recP x] <+: allP L0 rs := by rw [← frontP_snoc]; exact frontP_pre L0 rs (ys ++ [x]) hGx
    obtain ⟨fn, tmps, assign, body, hy, hRd⟩ := HY.out (frontP L0 ys) (recP x) A3 (by omega) yJ hpre
    have Y3 : Hid _ := y3
    have S3 : Hid _ := s3
    clear y3 s3 yJ c4 f4
    have c4 := boxed_cell (i := 0) (v := .int .u32 cy) HS1.out rfl
    have f4 := boxed_frozen (i := 0) HS1.out
    rw [hA3] at hy c3
    unfold recP at hy
    gi_wp2
    rw [← hA3]
    refine ⟨fun h => by simp [Fence.wide] at h, (roundIn_any hRd).mono ?_⟩
    rintro e A4 (⟨rfl, hj4, hkf, hkp⟩ | ⟨rfl, hjx, hkf⟩)
    · have J4 : Hid (J (frontP L0 ys ++ [recP x]) A4) := hj4
      have KF : Hid (KeepsFrom A0.heap.size A A4) := yF.out.trans (keeps_up hkf (by omega))
      have KP : Hid _ := hkp
      have hsz4 : A3.heap.size ≤ A4.heap.size := hkf.size
      clear hj4 hkf hkp
      gi_wp2
      refine ⟨KF.out, KeptOn.trans (KeptOn.imp yK.out hKW) (KeptOn.imp KP.out (fun k hk => .inl (hKW k hk))), by rw [frontP_snoc]; exact J4.out, ?_, ?_, by omega⟩
      · exact (KP.out _ (.inr ⟨by omega, by omega⟩)).trans Y3.out
      · exact (KP.out _ (.inr ⟨by omega, by omega⟩)).trans S3.out
    · have J4 : Hid (Jx (frontP L0 ys ++ [recP x]) A4) := hjx
      have KF : Hid (KeepsFrom A0.heap.size A A4) := yF.out.trans (keeps_up hkf (by omega))
      clear hjx hkf
      gi_wp2
      exact ⟨KF.out, rfl, by rw [frontP_snoc]; exact J4.out⟩
  case done =>
    rintro D ys A hD rfl ⟨h1, h2, h3, h4⟩ hK
    have c3 := boxed_cell (i := 0) (v := .func (.yield l) #[] #[]) h2 rfl
    have c4 := boxed_cell (i := 0) (v := .int .u32 (crcN (L0 ++ recsB ys) : Nat)) h3 rfl
    have hcl := crcN_lt (L0 ++ recsB ys)
    have HPK : Hid (∀ W : World, _) := fun W => pchk_any (crcN (L0 ++ recsB ys)) W hcl
    have hcr := crc_lt (L0 ++ recsB ys)
    have HNT : Hid (∀ W : World, _) := fun W => ntext_any (crc (L0 ++ recsB ys)) 4 W hcr (by omega) (by omega)
    have HCX : Hid (crcN (L0 ++ recsB ys) ^^^ 4294967295 = crc (L0 ++ recsB ys)) := rfl
    have HLP : Hid (lastP L0 ys = ⟨(lowB (crc (L0 ++ recsB ys)) 4).toArray⟩) := rfl
    have H1 : Hid _ := h1
    have H2 : Hid _ := h2
    have HK : Hid _ := hK
    rw [HCX.out] at HPK
    generalize crcN (L0 ++ recsB ys) = cy at *
    generalize crc (L0 ++ recsB ys) = cr at *
    have HA1 : Hid (∀ A1 : World, Below A.heap.size A A1 → J (frontP L0 ys) A1 ∧ A1.cell? ⟨W.heap.size, 0, none⟩ = some (.func (.yield l) #[] #[]) ∧ A1.heap[D]? = some (.deferred (some [])) ∧ W.heap.size + 2 ≤ A1.heap.size) := fun A1 hb =>
      ⟨HJ.out _ A A1 none H1.out (gbelow hb) (fun r e => by cases e), boxed_cell (i := 0) ((hb.block _ (by omega)).trans H2.out) rfl, (hb.block D (Array.getElem?_eq_some_iff.1 HK.out).1).trans HK.out, by have := hb.size; omega⟩
    have HEND : Hid (∀ (w5 A2 : World) (e : Ending), w5.heap[D]? = some (.deferred (some [])) → ((e = .returned (.bool true) ∧ J (frontP L0 ys ++ [lastP L0 ys]) A2 ∧ KeepsFrom W.heap.size w5 A2 ∧ KeptOn (fun k => k < w.heap.size ∨ (W.heap.size ≤ k ∧ k < W.heap.size + 2)) w5 A2) ∨ (e = .returned (.bool false) ∧ Jx (frontP L0 ys ++ [lastP L0 ys]) A2 ∧ KeepsFrom W.heap.size w5 A2)) →
        ∃ bb, e = .returned (.bool bb) ∧ A2.heap[D]? = some (.deferred (some [])) ∧ ((∃ xs, xs = allP L0 ys ∧ J xs A2) ∨ (∃ pre, pre <+: allP L0 ys ∧ Jx pre A2))) := by
      rintro w5 A2 e hk (⟨rfl, hj, hkf, _⟩ | ⟨rfl, hj, hkf⟩)
      · exact ⟨true, rfl, hkf.same D _ (by omega) hk rfl, .inl ⟨_, rfl, hj⟩⟩
      · exact ⟨false, rfl, hkf.same D _ (by omega) hk rfl, .inr ⟨_, List.prefix_refl _, hj⟩⟩
    clear h1 h2 h3 hK
    have hd1 : 1 ≤ n := by omega
    have hfw : ∀ f, Fence.wide.fn f := fun _ => trivial
    gi_wp2
    gi_region_with (first
      | (gi_at_call 144; refine (callsIn_wide.2 (HPK.out _)).mono ?_; rintro e w4 ⟨rfl, rfl⟩)
      | (gi_at_call 124; refine (callsIn_wide.2 (HNT.out _)).mono ?_; rintro e w5 ⟨rfl, hb5⟩; obtain ⟨j5, d5, k5, z5⟩ := HA1.out w5 (unDrew hb5); obtain ⟨fn, tmps, assign, body, hy, hRd⟩ := HY.out (frontP L0 ys) (lastP L0 ys) w5 z5 j5 (List.prefix_refl _); rw [HLP.out] at hy)
      | (refine hRd.mono ?_; rintro e A2 h; obtain ⟨bb, rfl, hk2, hfin⟩ := HEND.out w5 A2 _ k5 h))
    all_goals
      have HF2 : Hid _ := hfin
      clear hfin
      gi_wp2
      refine ⟨by simp, .inl ⟨_, _, rfl, run_takeDeferred hk2, ?_⟩⟩
      refine ⟨_, results_none rfl _ _ _, .inl ⟨_, rfl, ?_⟩⟩
      rcases HF2.out with ⟨xs, h5, h6⟩ | ⟨pre, h5, h6⟩
      · exact .inl ⟨xs, h5, OwnItW.putObj HJ.out _ h6 (by omega) hk2 rfl⟩
      · exact .inr ⟨pre, h5, OwnItW.putObj HJX.out _ h6 (by omega) hk2 rfl⟩
  case stop =>
    rintro D cd ys A hD hS ⟨rfl, h2⟩ hK
    have H2 : Hid (Jx (frontP L0 ys) A) := h2
    have HS : Hid _ := hS
    clear h2 hS
    gi_wp2
    refine ⟨by simp, .inl ⟨_, _, rfl, run_takeDeferred hK, ?_⟩⟩
    exact ⟨_, results_none rfl _ _ _, .inl ⟨_, rfl, .inr ⟨_, frontP_pre L0 rs ys HS.out, OwnItW.putObj HJX.out _ H2.out (by omega) hK rfl⟩⟩⟩
  case panic =>
    rintro D ch ys A hD hP
    exact hP.elim
end Go.Proofs.Ytdjmhagclcfnfaa
