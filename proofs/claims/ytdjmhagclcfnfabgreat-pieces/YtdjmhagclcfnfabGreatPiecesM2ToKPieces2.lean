/- PiecesM2, KPiecesM, Sw2, KPieces, KPieces2 -/
import Derived.Test.YtdjmhagclcfnfabGreatRJoinToPiecesM
import Derived.Laws.AppendOwnNone
import Derived.Test.YtdjmhagclcfnfabGreatPChunkWToPSplit
import Derived.Test.YtdjmhagclcfnfabGreatJoinMToPSplit1
import Derived.Test.YtdjmhagclcfnfabGreatRWriteToRJoinM
import Derived.OpenShut
/- Chunks, purely: in any order they are the stream again. -/
namespace Go.Proofs.YtdjmhagclcfnfabGreat
open Go.RowKit Go.Shelf

/-- The chunks of a stream. -/
def ckAt (f t b z : Nat) (rs : List Rc) (st : List Nat) (i : Nat) : Ck := ⟨f, t, b, z, rs.length, i, st.length, partR st rs i⟩
def cksOf (f t b z : Nat) (rs : List Rc) (st : List Nat) : List Ck := (List.range st.length).map (ckAt f t b z rs st)

theorem chunksOf_map (g : Nat → List UInt8) (c : Nat → Ck) : ∀ (is : List Nat), (∀ i ∈ is, chunkR (g i) = .inr (c i)) → chunksOf (is.map g) = .inr (is.map c)
  | [], _ => rfl
  | i :: is, h => by
    rw [List.map_cons, chunksOf, h i (by simp)]
    simp only [chunksOf_map g c is (fun j hj => h j (by simp [hj])), List.map_cons]

theorem part_ok (f t b z : Nat) (rs : List Rc) (limit : Int) (hw : wellHead f t b z = true) (ho : recsOk b z (-1) rs = true) (i : Nat) (hi : i < (startsR limit rs).length) :
    chunkR (chunkB f t b z rs.length i (startsR limit rs).length (partR (startsR limit rs) rs i)) = .inr (ckAt f t b z rs (startsR limit rs) i) := by
  obtain ⟨h1, h2, h3, h4, h5, h6, h7, h8, h9⟩ : (0 : Int) ≤ f ∧ (f : Int) ≤ 2147483647 ∧ (1 : Int) ≤ t ∧ (t : Int) ≤ 2147483647 ∧ (f : Int) ≠ t ∧ (1 : Int) ≤ b ∧ (b : Int) ≤ 100 ∧ (1 : Int) ≤ z ∧ (z : Int) ≤ 64 := of_decide_eq_true hw
  have hn := recsOk_length b z rs ho (by omega)
  have hu : (startsR limit rs).length ≤ rs.length + 1 := (stK_up limit rs rs.length (Nat.le_refl _)).2.2.1
  obtain ⟨la, hla, hpk⟩ := recsOk_part b z rs ho ((startsR limit rs)[i]?.getD 0) (endAt (startsR limit rs) rs.length i)
  refine chunk_back f t b z rs.length i (startsR limit rs).length _ hw (recsOk_low b z _ la (-1) hpk hla) ?_ (by omega) hi (by omega)
  unfold partR
  rw [List.length_drop, List.length_take]
  omega

/-- Of one number there is one. -/
theorem filter_one (f t b z : Nat) (rs : List Rc) (st : List Nat) (n : Nat) (hn : n < st.length) : (cksOf f t b z rs st).filter (fun c => c.nu == n) = [ckAt f t b z rs st n] := by
  unfold cksOf
  rw [List.filter_map]
  have : (List.range st.length).filter ((fun c : Ck => c.nu == n) ∘ ckAt f t b z rs st) = [n] := by
    have h1 : ((fun c : Ck => c.nu == n) ∘ ckAt f t b z rs st) = fun i => i == n := by
      funext i
      rfl
    rw [h1]
    generalize st.length = m at *
    induction m with
    | zero => omega
    | succ m ih =>
      rw [List.range_succ, List.filter_append]
      by_cases hm : n = m
      · subst hm
        rw [List.filter_eq_nil_iff.2 (fun x hx => by have := List.mem_range.1 hx; simp; omega)]
        simp
      · rw [ih (by omega)]
        rw [List.filter_cons_of_neg (by simpa using fun e => hm e.symm)]
        simp
  rw [this]
  rfl
theorem perm_filter_one {f t b z : Nat} {rs : List Rc} {st : List Nat} {cs : List Ck} (hp : cs.Perm (cksOf f t b z rs st)) (n : Nat) (hn : n < st.length) : cs.filter (fun c => c.nu == n) = [ckAt f t b z rs st n] := by
  have := hp.filter (fun c => c.nu == n)
  rw [filter_one f t b z rs st n hn] at this
  exact List.perm_singleton.1 this
theorem perm_gather {f t b z : Nat} {rs : List Rc} {limit : Int} {cs : List Ck} (hp : cs.Perm (cksOf f t b z rs (startsR limit rs))) : gatherAll cs (startsR limit rs).length = rs := by
  have h : gatherAll cs (startsR limit rs).length = ((List.range (startsR limit rs).length).map (partR (startsR limit rs) rs)).flatten := by
    unfold gatherAll
    rw [List.flatMap_def]
    congr 1
    refine List.map_congr_left fun n hn => ?_
    unfold gathered
    rw [perm_filter_one hp n (List.mem_range.1 hn)]
    simp [ckAt]
  rw [h, parts_all]
/-- **In any order the chunks are the stream again.** -/
theorem join_perm {f t b z : Nat} {rs : List Rc} {limit : Int} {a : Ck} {cs : List Ck} (hp : (a :: cs).Perm (cksOf f t b z rs (startsR limit rs))) (ho : recsOk b z (-1) rs = true) : joinC (.inr (a :: cs)) = .inr (f, t, b, z, rs) := by
  have hall : ∀ c ∈ a :: cs, c.f = f ∧ c.t = t ∧ c.b = b ∧ c.z = z ∧ c.all = rs.length ∧ c.many = (startsR limit rs).length := fun c hc => by
    have := hp.mem_iff.1 hc
    obtain ⟨i, _, rfl⟩ := List.mem_map.1 this
    exact ⟨rfl, rfl, rfl, rfl, rfl, rfl⟩
  obtain ⟨a1, a2, a3, a4, a5, a6⟩ := hall a (by simp)
  have hg := perm_gather hp
  have hok : joinOk a (a :: cs) = true := by
    rw [joinOk_iff, a3, a4, a5, a6, hg]
    refine ⟨?_, ?_, ?_, ho, rfl⟩
    · rw [hp.length_eq]
      simp [cksOf]
    · intro c hc
      obtain ⟨c1, c2, c3, c4, c5, c6⟩ := hall c hc
      unfold sameHead
      exact decide_eq_true ⟨by rw [c1, a1], by rw [c2, a2], by rw [c3, a3], by rw [c4, a4], by rw [c5, a5], by rw [c6, a6]⟩
    · intro n hn
      rw [perm_filter_one hp n hn]
      rfl
  show (if joinOk a (a :: cs) = true then _ else _) = _
  rw [if_pos hok, a1, a2, a3, a4, a6, hg]

theorem join_not {a : Ck} {cs : List Ck} (h : joinOk a (a :: cs) = true → False) : joinC (.inr (a :: cs)) = .inl 13 := by
  show (if joinOk a (a :: cs) = true then _ else _) = _
  rw [if_neg h]
/-- .. one that is missing. -/
theorem join_less {a : Ck} {cs : List Ck} (h : (a :: cs).length ≠ a.many) : joinC (.inr (a :: cs)) = .inl 13 :=
  join_not fun hj => h ((joinOk_iff a (a :: cs)).1 hj).1
/-- .. a number that comes not just once. -/
theorem join_twice {a : Ck} {cs : List Ck} (n : Nat) (hn : n < a.many) (h : ((a :: cs).filter (fun c => c.nu == n)).length ≠ 1) : joinC (.inr (a :: cs)) = .inl 13 :=
  join_not fun hj => h (((joinOk_iff a (a :: cs)).1 hj).2.2.1 n hn)
/-- .. one of another stream. -/
theorem join_strange {a c : Ck} {cs : List Ck} (hc : c ∈ a :: cs) (h : c.t ≠ a.t) : joinC (.inr (a :: cs)) = .inl 13 :=
  join_not fun hj => h (of_decide_eq_true (((joinOk_iff a (a :: cs)).1 hj).2.1 c hc)).2.1

/-- How long the records are. -/
def bytesR (rs : List Rc) : Nat := (recsB rs).length
theorem bytesR_append (xs ys : List Rc) : bytesR (xs ++ ys) = bytesR xs + bytesR ys := by simp [bytesR, recsB]
theorem chunkB_length (f t b z all nu many : Nat) (rs : List Rc) : (chunkB f t b z all nu many rs).length = 28 + bytesR rs := by
  simp [chunkB, chunkA, headB_length, lowB_length, bytesR]
  omega
theorem lenR_le_most : ∀ (rs : List Rc) (k : Nat) (h : k < rs.length), lenR rs[k] ≤ mostR rs := by
  intro rs k h
  have h1 : ∀ (xs : List Rc) (m : Nat), m ≤ xs.foldl (fun m r => max m (lenR r)) m ∧ ∀ r ∈ xs, lenR r ≤ xs.foldl (fun m r => max m (lenR r)) m := by
    intro xs
    induction xs with
    | nil => intro m; simp
    | cons x xs ih =>
      intro m
      obtain ⟨i1, i2⟩ := ih (max m (lenR x))
      rw [List.foldl_cons]
      refine ⟨by omega, fun r hr => ?_⟩
      rcases List.mem_cons.1 hr with rfl | hr
      · omega
      · exact i2 r hr
  exact (h1 rs 0).2 _ (List.getElem_mem h)
/-- The last chunk that has been begun, and those ahead, go into the limit. -/
theorem stK_fits (limit : Int) (rs : List Rc) (hm : ((28 + mostR rs : Nat) : Int) ≤ limit) : ∀ k, k ≤ rs.length →
    (∃ pre la, (stK limit rs k).1 = pre ++ [la] ∧ la ≤ k ∧ (stK limit rs k).2 = 28 + bytesR ((rs.take k).drop la)) ∧ ((stK limit rs k).2 : Int) ≤ limit ∧
    ∀ i, i + 1 < (stK limit rs k).1.length → ((28 + bytesR ((rs.take ((stK limit rs k).1[i + 1]?.getD 0)).drop ((stK limit rs k).1[i]?.getD 0)) : Nat) : Int) ≤ limit
  | 0, _ => by
    refine ⟨⟨[], 0, rfl, Nat.le_refl _, by simp [stK, bytesR, recsB]⟩, by simp only [stK]; omega, fun i hi => ?_⟩
    simp [stK] at hi
  | k + 1, hk => by
    obtain ⟨⟨pre, la, e1, e2, e3⟩, e4, e5⟩ := stK_fits limit rs hm k (by omega)
    have hle := lenR_le_most rs k (by omega)
    rw [stK_succ limit rs k (by omega)]
    generalize stK limit rs k = S at *
    obtain ⟨st, sz⟩ := S
    dsimp only at e1 e3 e4 e5
    have htk : (rs.take (k + 1)).drop la = (rs.take k).drop la ++ [rs[k]] := by
      rw [List.take_succ_eq_append_getElem (by omega), List.drop_append_of_le_length (by rw [List.length_take]; omega)]
    have hb1 : bytesR [rs[k]] = lenR rs[k] := by simp [bytesR, recsB, lenR]
    unfold stepSt
    split
    · rename_i hc
      dsimp only at hc ⊢
      refine ⟨⟨st, k, rfl, by omega, ?_⟩, by omega, fun i hi => ?_⟩
      · rw [List.take_succ_eq_append_getElem (by omega), List.drop_append_of_le_length (by rw [List.length_take]; omega), List.drop_of_length_le (by rw [List.length_take]; omega), List.nil_append, hb1]
      · rw [List.length_append, List.length_singleton] at hi
        by_cases hi2 : i + 1 < st.length
        · rw [List.getElem?_append_left hi2, List.getElem?_append_left (by omega)]
          exact e5 i hi2
        · have hi3 : i + 1 = st.length := by omega
          have hl : (st ++ [k])[i]? = some la := by
            rw [List.getElem?_append_left (by omega)]
            have hi4 := hi3
            rw [e1, List.length_append, List.length_singleton] at hi4
            rw [e1, List.getElem?_append_right (by omega), show i - pre.length = 0 from by omega]
            rfl
          have hl1 : (st ++ [k])[i + 1]? = some k := by
            rw [List.getElem?_append_right (by omega), show i + 1 - st.length = 0 from by omega]
            rfl
          rw [hl, hl1]
          simp only [Option.getD_some]
          rw [← e3]
          exact e4
    · rename_i hc
      dsimp only at hc ⊢
      refine ⟨⟨pre, la, e1, by omega, ?_⟩, by omega, e5⟩
      rw [htk, bytesR_append, hb1, e3]
      omega
theorem chunks_fit (f t b z : Nat) (rs : List Rc) (limit : Int) (hm : ((28 + mostR rs : Nat) : Int) ≤ limit) : ∀ q ∈ chunksR f t b z rs (startsR limit rs), (q.length : Int) ≤ limit := by
  intro q hq
  obtain ⟨i, hi, rfl⟩ := List.mem_map.1 hq
  rw [List.mem_range] at hi
  obtain ⟨⟨pre, la, e1, e2, e3⟩, e4, e5⟩ := stK_fits limit rs hm rs.length (Nat.le_refl _)
  rw [chunkB_length]
  unfold partR endAt
  have hst : startsR limit rs = (stK limit rs rs.length).1 := rfl
  rw [hst] at hi ⊢
  by_cases hi2 : i + 1 < (stK limit rs rs.length).1.length
  · have := e5 i hi2
    rw [List.getElem?_eq_getElem hi2, Option.getD_some] at this ⊢
    exact this
  · have hl1 : (stK limit rs rs.length).1[i + 1]? = none := List.getElem?_eq_none (by omega)
    have hl : (stK limit rs rs.length).1[i]? = some la := by
      rw [e1, List.length_append, List.length_singleton] at hi hi2
      rw [e1, List.getElem?_append_right (by omega), show i - pre.length = 0 from by omega]
      rfl
    rw [hl, hl1, Option.getD_some, Option.getD_none, ← e3]
    exact e4
end Go.Proofs.YtdjmhagclcfnfabGreat
/- Chunks, purely: what Join says of them all, of them but one, of one twice, of one of another stream. -/
namespace Go.Proofs.YtdjmhagclcfnfabGreat
open Go.RowKit Go.Shelf

/-- Where the limit takes any one record, there are no more chunks than records, but for the first. -/
theorem stK_len (limit : Int) (rs : List Rc) (hm : ((28 + mostR rs : Nat) : Int) ≤ limit) : ∀ k, k ≤ rs.length → (stK limit rs k).1.length ≤ max 1 k
  | 0, _ => by simp [stK]
  | 1, h => by
    have hle := lenR_le_most rs 0 (by omega)
    rw [stK_succ limit rs 0 (by omega)]
    unfold stepSt
    rw [show stK limit rs 0 = ([0], 28) from rfl]
    dsimp only
    rw [if_neg (by omega)]
    simp
  | k + 2, h => by
    have ih := stK_len limit rs hm (k + 1) (by omega)
    rw [stK_succ limit rs (k + 1) (by omega)]
    unfold stepSt
    split
    · rw [List.length_append, List.length_singleton]
      omega
    · dsimp only
      omega
theorem perm_map_back {α β : Type} {g : α → β} {us vs : List β} (h : us.Perm vs) : ∀ l : List α, vs = l.map g → ∃ l' : List α, l'.Perm l ∧ us = l'.map g := by
  induction h with
  | nil => intro l e; exact ⟨l, List.Perm.refl _, e⟩
  | cons x _ ih =>
    intro l e
    rcases l with _ | ⟨i, l⟩
    · simp at e
    · rw [List.map_cons, List.cons.injEq] at e
      obtain ⟨l', h1, h2⟩ := ih l e.2
      exact ⟨i :: l', h1.cons i, by rw [List.map_cons, h2, e.1]⟩
  | swap x y l0 =>
    intro l e
    rcases l with _ | ⟨i, _ | ⟨j, l⟩⟩
    · simp at e
    · simp at e
    · rw [List.map_cons, List.map_cons, List.cons.injEq, List.cons.injEq] at e
      exact ⟨j :: i :: l, List.Perm.swap _ _ _, by rw [List.map_cons, List.map_cons, ← e.1, ← e.2.1, ← e.2.2]⟩
  | trans _ _ ih1 ih2 =>
    intro l e
    obtain ⟨l1, h1, e1⟩ := ih2 l e
    obtain ⟨l2, h2, e2⟩ := ih1 l1 e1
    exact ⟨l2, h2.trans h1, e2⟩

/-- A stream's chunks in some order: by their numbers. -/
theorem chunks_nums {f t b z : Nat} {rs : List Rc} {limit : Int} {ms : List (List UInt8)} (h : ms.Perm (chunksR f t b z rs (startsR limit rs))) :
    ∃ is : List Nat, is.Perm (List.range (startsR limit rs).length) ∧ ms = is.map (fun i => chunkB f t b z rs.length i (startsR limit rs).length (partR (startsR limit rs) rs i)) := perm_map_back h _ rfl
theorem nums_chunks (f t b z : Nat) (rs : List Rc) (limit : Int) (hw : wellHead f t b z = true) (ho : recsOk b z (-1) rs = true) (is : List Nat) (hi : ∀ i ∈ is, i < (startsR limit rs).length) :
    chunksOf (is.map (fun i => chunkB f t b z rs.length i (startsR limit rs).length (partR (startsR limit rs) rs i))) = .inr (is.map (ckAt f t b z rs (startsR limit rs))) :=
  chunksOf_map _ _ is fun i h => part_ok f t b z rs limit hw ho i (hi i h)
theorem joinR_some (ts : List (List UInt8)) (h1 : 1 ≤ ts.length) (h2 : ts.length ≤ 100) : joinR ts = joinC (chunksOf ts) := by
  unfold joinR
  rw [if_neg (by omega)]
theorem joinR_all {f t b z : Nat} {rs : List Rc} {limit : Int} {ms : List (List UInt8)} (hw : wellHead f t b z = true) (ho : recsOk b z (-1) rs = true) (h : ms.Perm (chunksR f t b z rs (startsR limit rs))) (h1 : 1 ≤ ms.length) (h2 : ms.length ≤ 100) :
    joinR ms = .inr (f, t, b, z, rs) := by
  obtain ⟨is, hp, rfl⟩ := chunks_nums h
  rw [joinR_some _ h1 h2, nums_chunks f t b z rs limit hw ho is (fun i hi => List.mem_range.1 (hp.mem_iff.1 hi))]
  rcases is with _ | ⟨i, is⟩
  · simp at h1
  · exact join_perm (a := ckAt f t b z rs (startsR limit rs) i) (cs := is.map (ckAt f t b z rs (startsR limit rs))) (hp.map (ckAt f t b z rs (startsR limit rs))) ho
theorem less_mem {α : Type} {is : List α} {w : Nat} {i : α} (h : i ∈ is.take w ++ is.drop (w + 1)) : i ∈ is := by
  rcases List.mem_append.1 h with h | h
  · exact List.mem_of_mem_take h
  · exact List.mem_of_mem_drop h
theorem joinR_less {f t b z : Nat} {rs : List Rc} {limit : Int} {ms : List (List UInt8)} (hw : wellHead f t b z = true) (ho : recsOk b z (-1) rs = true) (h : ms.Perm (chunksR f t b z rs (startsR limit rs))) (h1 : 2 ≤ ms.length) (h2 : ms.length ≤ 100) (w : Nat) (hwl : w < ms.length) :
    joinR (ms.take w ++ ms.drop (w + 1)) = .inl 13 := by
  obtain ⟨is, hp, rfl⟩ := chunks_nums h
  rw [List.length_map] at h1 h2 hwl
  have hl := hp.length_eq
  rw [List.length_range] at hl
  rw [← List.map_take, ← List.map_drop, ← List.map_append]
  have hll : (is.take w ++ is.drop (w + 1)).length = is.length - 1 := by
    rw [List.length_append, List.length_take, List.length_drop]
    omega
  rw [joinR_some _ (by rw [List.length_map, hll]; omega) (by rw [List.length_map, hll]; omega)]
  rw [nums_chunks f t b z rs limit hw ho _ (fun i hi => List.mem_range.1 (hp.mem_iff.1 (less_mem hi)))]
  generalize is.take w ++ is.drop (w + 1) = js at *
  rcases js with _ | ⟨i, js⟩
  · simp at hll
    omega
  · refine join_less (a := ckAt f t b z rs (startsR limit rs) i) (cs := js.map (ckAt f t b z rs (startsR limit rs))) ?_
    show _ ≠ (startsR limit rs).length
    rw [List.length_cons] at hll ⊢
    rw [List.length_map]
    omega
theorem joinR_twice {f t b z : Nat} {rs : List Rc} {limit : Int} {ms : List (List UInt8)} (hw : wellHead f t b z = true) (ho : recsOk b z (-1) rs = true) (h : ms.Perm (chunksR f t b z rs (startsR limit rs))) (h1 : 1 ≤ ms.length) (h2 : ms.length ≤ 100) (w q : Nat) (hwl : w < ms.length) (hql : q < ms.length) (hne : q ≠ w) :
    joinR (ms.set w ms[q]) = .inl 13 := by
  obtain ⟨is, hp, rfl⟩ := chunks_nums h
  rw [List.length_map] at h1 h2
  have hwl' : w < is.length := by rw [List.length_map] at hwl; exact hwl
  have hql' : q < is.length := by rw [List.length_map] at hql; exact hql
  have hl := hp.length_eq
  rw [List.length_range] at hl
  have hnd : is.Nodup := hp.nodup_iff.2 List.nodup_range
  have hin : ∀ i ∈ is, i < (startsR limit rs).length := fun i hi => List.mem_range.1 (hp.mem_iff.1 hi)
  rw [List.getElem_map, ← List.map_set]
  have hmem : ∀ i ∈ is.set w is[q], i ∈ is ∧ i ≠ is[w] := fun i hi => by
    obtain ⟨j, hj, rfl⟩ := List.mem_iff_getElem.1 hi
    rw [List.length_set] at hj
    rw [List.getElem_set]
    split
    · exact ⟨List.getElem_mem hql', fun e => hne ((List.getElem_inj hnd).1 e)⟩
    · rename_i hjw
      exact ⟨List.getElem_mem hj, fun e => hjw ((List.getElem_inj hnd).1 e).symm⟩
  have hll : (is.set w is[q]).length = is.length := List.length_set
  rw [joinR_some _ (by rw [List.length_map, hll]; omega) (by rw [List.length_map, hll]; omega)]
  rw [nums_chunks f t b z rs limit hw ho _ (fun i hi => hin i (hmem i hi).1)]
  have hn := hin _ (List.getElem_mem hwl')
  generalize is[w] = n at *
  generalize is.set w is[q] = js at *
  rcases js with _ | ⟨i, js⟩
  · simp at hll
    omega
  · refine join_twice (a := ckAt f t b z rs (startsR limit rs) i) (cs := js.map (ckAt f t b z rs (startsR limit rs))) n hn ?_
    rw [List.filter_eq_nil_iff.2]
    · simp
    · intro c hc
      obtain ⟨j, hj, rfl⟩ : ∃ j, j ∈ i :: js ∧ ckAt f t b z rs (startsR limit rs) j = c := by
        rw [← List.map_cons] at hc
        exact List.mem_map.1 hc
      have := (hmem j hj).2
      simpa [ckAt] using this
theorem joinR_strange {f t b z : Nat} {t2 : Nat} {rs : List Rc} {limit : Int} {ms : List (List UInt8)} (hw : wellHead f t b z = true) (hw2 : wellHead f t2 b z = true) (ho : recsOk b z (-1) rs = true) (h : ms.Perm (chunksR f t b z rs (startsR limit rs))) (h1 : 2 ≤ ms.length) (h2 : ms.length ≤ 100) (w v : Nat) (hwl : w < ms.length)
    (hv : v < (chunksR f t2 b z rs (startsR limit rs)).length) (hne : t2 ≠ t) : joinR (ms.take w ++ ms.drop (w + 1) ++ [(chunksR f t2 b z rs (startsR limit rs))[v]]) = .inl 13 := by
  obtain ⟨is, hp, rfl⟩ := chunks_nums h
  rw [List.length_map] at h1 h2 hwl
  have hl := hp.length_eq
  rw [List.length_range] at hl
  rw [← List.map_take, ← List.map_drop, ← List.map_append]
  have hll : (is.take w ++ is.drop (w + 1)).length = is.length - 1 := by
    rw [List.length_append, List.length_take, List.length_drop]
    omega
  have hv' : v < (startsR limit rs).length := by simpa [chunksR] using hv
  have hg : (chunksR f t2 b z rs (startsR limit rs))[v] = chunkB f t2 b z rs.length v (startsR limit rs).length (partR (startsR limit rs) rs v) := by simp [chunksR]
  rw [hg, joinR_some _ (by rw [List.length_append, List.length_map, hll, List.length_singleton]; omega) (by rw [List.length_append, List.length_map, hll, List.length_singleton]; omega)]
  rw [chunksOf_ok _ _ _ _ (nums_chunks f t b z rs limit hw ho _ (fun i hi => List.mem_range.1 (hp.mem_iff.1 (less_mem hi)))) (part_ok f t2 b z rs limit hw2 ho v hv')]
  generalize is.take w ++ is.drop (w + 1) = js at *
  rcases js with _ | ⟨i, js⟩
  · simp at hll
    omega
  · exact join_strange (a := ckAt f t b z rs (startsR limit rs) i) (c := ckAt f t2 b z rs (startsR limit rs) v) (cs := js.map (ckAt f t b z rs (startsR limit rs)) ++ [ckAt f t2 b z rs (startsR limit rs) v]) (by simp) hne
end Go.Proofs.YtdjmhagclcfnfabGreat
/- Texts appended many at once: 'append(o, m[:at]...)', 'append(o, m[at:]...)'. -/
namespace Go.Proofs.YtdjmhagclcfnfabGreat
open Go.RowKit Go.Shelf

/-- The texts that a source holds. -/
def SrcS (W : World) (xv : Value) (ys : List ByteArray) : Prop :=
  (xv = .slice none 0 0 ∧ ys = []) ∨ ∃ ad c, xv = .slice (some ad) ys.length c ∧ ∀ j u, (strVals ys)[j]? = some u → W.cell? (Addr.add ad j) = some u
theorem wpList_append_txs (w : World) {ops : Array Oper} {rest : List Oper} {o : Oper} {a : Act} {Q : Exit → Act → World → Prop} (hgd : o.guard = none) (s x : Operand)
    (ho : o.op = .call { callee := .builtin .append, args := #[s, x], argTypes := #[31, 31] })
    (B : Nat) (v : Value) (cs : List ByteArray) (xv : Value) (ys : List ByteArray) (hs : a.eval s = v) (hown : OwnsS B w v cs) (hx : a.eval x = xv) (hys : SrcS w xv ys) (hl : cs.length + ys.length ≤ 2000) (hB : B ≤ w.heap.size)
    (h : ∀ v' w', OwnsS B w' v' (cs ++ ys) → w.grownBy w' v.ownBlock → wpList Tryz.prog ops Q rest (a.put o.dst v') w') : wpList Tryz.prog ops Q (o :: rest) a w := by
  obtain ⟨i0, hi, hz0, hz1, hz2⟩ := info_parts Tryz.infoStr
  rcases hys with ⟨rfl, rfl⟩ | ⟨ad, c, rfl, hc⟩
  · refine wpList_append_own_none hgd s x 31 ho B 9 i0 1 Tryz.underlying31 hi v cs.length (strVals cs) hs hown hx ?_
    exact h v w (by rw [List.append_nil]; exact hown) ⟨rfl, rfl, rfl, Nat.le_refl _, fun _ _ _ => rfl⟩
  · have hml : cs.length + ys.length ≤ maxLen := Nat.le_trans hl (by decide)
    refine wpList_append_own w hgd s x 31 ho B 9 i0 _ 1 16 Tryz.underlying31 hi hz0 hz1 hz2 rfl (by decide) _ _ _ hs hown ad ys.length c (strVals ys) hx (strVals_length ys) hc (strVals_one ys) hml (by omega) hB ?_
    intro v' w' ho' hg' _
    refine h v' w' ?_ hg'
    unfold OwnsS
    rw [List.length_append, show strVals (cs ++ ys) = strVals cs ++ strVals ys from by simp [strVals]]
    exact ho'
/-- The front of a list. -/
theorem OwnsS.front {B : Nat} {W : World} {a : Option Addr} {l cp : Nat} {cs : List ByteArray} (h : OwnsS B W (.slice a l cp) cs) (k : Nat) (hk : k ≤ cs.length) : SrcS W (.slice a k cp) (cs.take k) := by
  have h0 : W.ownsRow B 9 1 (.slice a l cp) cs.length (strVals cs) := h
  rcases h0.2 with ⟨e, hn⟩ | ⟨g, cap, cur, e, _⟩
  · simp only [Value.slice.injEq] at e
    obtain ⟨rfl, rfl, rfl⟩ := e
    obtain rfl : cs = [] := List.eq_nil_of_length_eq_zero hn
    obtain rfl : k = 0 := by simpa using hk
    exact .inl ⟨rfl, rfl⟩
  · simp only [Value.slice.injEq] at e
    obtain ⟨rfl, rfl, rfl⟩ := e
    refine .inr ⟨⟨g, 0, none⟩, cp, by rw [List.length_take, Nat.min_eq_left hk], fun j u hj => ?_⟩
    have hlt := (List.getElem?_eq_some_iff.1 hj).1
    simp only [strVals, List.length_map, List.length_take] at hlt
    have hjc : j < cs.length := by omega
    have hj2 : (strVals cs)[j]? = some u := by
      rw [strVals_at _ j (by rw [List.length_take]; omega), List.getElem_take] at hj
      rw [strVals_at cs j hjc]
      exact hj
    exact h0.cells (g := g) rfl j u hj2
/-- .. and what stands behind it. -/
theorem OwnsS.behind {B : Nat} {W : World} {a : Option Addr} {l cp : Nat} {cs : List ByteArray} (h : OwnsS B W (.slice a l cp) cs) (k : Nat) (hk : k ≤ cs.length) : SrcS W (.slice (if cp = k then a else Option.map (fun x => x.add k) a) (cs.length - k) (cp - k)) (cs.drop k) := by
  have h0 : W.ownsRow B 9 1 (.slice a l cp) cs.length (strVals cs) := h
  rcases h0.2 with ⟨e, hn⟩ | ⟨g, cap, cur, e, _, _, hc, _⟩
  · simp only [Value.slice.injEq] at e
    obtain ⟨rfl, rfl, rfl⟩ := e
    obtain rfl : cs = [] := List.eq_nil_of_length_eq_zero hn
    obtain rfl : k = 0 := by simpa using hk
    exact .inl ⟨rfl, rfl⟩
  · simp only [Value.slice.injEq] at e
    obtain ⟨rfl, rfl, rfl⟩ := e
    by_cases hck : cp = k
    · refine .inr ⟨⟨g, 0, none⟩, cp - k, ?_, fun j u hj => ?_⟩
      · rw [if_pos hck, List.length_drop]
      · have hlt := (List.getElem?_eq_some_iff.1 hj).1
        simp only [strVals, List.length_map, List.length_drop] at hlt
        omega
    · refine .inr ⟨⟨g, k, none⟩, cp - k, ?_, fun j u hj => ?_⟩
      · rw [if_neg hck, List.length_drop]
        simp only [Option.map_some, Addr.add_lit, Nat.zero_add]
      · have hlt := (List.getElem?_eq_some_iff.1 hj).1
        simp only [strVals, List.length_map, List.length_drop] at hlt
        have hj2 : (strVals cs)[k + j]? = some u := by
          rw [strVals_at _ j (by rw [List.length_drop]; omega), List.getElem_drop] at hj
          rw [strVals_at cs (k + j) (by omega)]
          exact hj
        have := h0.cells (g := g) rfl (k + j) u hj2
        rw [Addr.add_lit] at this ⊢
        rw [Nat.zero_add] at this
        exact this
theorem SrcS.below {W W' : World} {xv : Value} {ys : List ByteArray} (h : SrcS W xv ys) (hb : Below W.heap.size W W') : SrcS W' xv ys := by
  rcases h with h | ⟨ad, c, e, hc⟩
  · exact .inl h
  · refine .inr ⟨ad, c, e, fun j u hj => ?_⟩
    have h1 := hc j u hj
    exact (World.cell?_of_block (hb.block _ (World.block_lt_of_cell? W _ h1))).trans h1
theorem SrcS.kept {W W' : World} {xv : Value} {ys : List ByteArray} (h : SrcS W xv ys) (hg : W.grownBy W' none) : SrcS W' xv ys := by
  rcases h with h | ⟨ad, c, e, hc⟩
  · exact .inl h
  · refine .inr ⟨ad, c, e, fun j u hj => ?_⟩
    have h1 := hc j u hj
    have hb := World.block_lt_of_cell? W _ h1
    exact (World.cell?_of_block (hg.block _ hb (by simp))).trans h1
end Go.Proofs.YtdjmhagclcfnfabGreat
/- The walk of Pieces. -/
namespace Go.Proofs.YtdjmhagclcfnfabGreat
open Go.RowKit Go.Shelf

/-- Split of a text that is read, where the limit is wide enough. -/
theorem split_good (f t b z : Nat) (rs : List Rc) (limit : Int) (hw : wellHead f t b z = true) (ho : recsOk b z (-1) rs = true) (hm : ((28 + mostR rs : Nat) : Int) ≤ limit) : splitR (serB f t b z rs) limit = .inr (chunksR f t b z rs (startsR limit rs)) := by
  unfold splitR
  rw [parse_back f t b z rs hw ho]
  simp only []
  rw [if_neg (by omega)]
theorem split_small (f t b z : Nat) (rs : List Rc) (limit : Int) (hw : wellHead f t b z = true) (ho : recsOk b z (-1) rs = true) (hm : limit < 28) : splitR (serB f t b z rs) limit = .inl 12 := by
  unfold splitR
  rw [parse_back f t b z rs hw ho]
  simp only []
  rw [if_pos (by omega)]
theorem mostR_le (b z : Nat) (rs : List Rc) (hz : z ≤ 64) (ho : recsOk b z (-1) rs = true) : mostR rs ≤ 3 + z := by
  have h1 : ∀ (xs : List Rc) (m : Nat), m ≤ 3 + z → (∀ r ∈ xs, lenR r ≤ 3 + z) → xs.foldl (fun m r => max m (lenR r)) m ≤ 3 + z := by
    intro xs
    induction xs with
    | nil => intro m hm _; exact hm
    | cons x xs ih =>
      intro m hm hx
      rw [List.foldl_cons]
      have := hx x (by simp)
      exact ih _ (by omega) (fun r hr => hx r (by simp [hr]))
  refine h1 rs 0 (by omega) fun r hr => ?_
  obtain ⟨k, hk, rfl⟩ := List.mem_iff_getElem.1 hr
  have h := (recsOk_at b z rs (-1) ho k hk).2.2
  unfold lenR recB
  have hs : rs[k].data.data.toList.length = rs[k].data.size := by simp
  split
  · simp [lowB_length]
  · rename_i hf
    rw [if_neg hf] at h
    rw [List.length_cons, List.length_append, lowB_length, hs]
    omega
theorem toldP_good {l : List UInt8} {limit : Int} {w w' : World} {e : Ending} {ts : List (List UInt8)} (h : ToldP l limit w e w') (hs : splitR l limit = .inr ts) :
    ∃ a c, e = .returned (.tuple #[.slice a ts.length c, .int .i64 0]) ∧ OwnsS w.heap.size w' (.slice a ts.length c) (ts.map mkB) ∧ w.grownBy w' none := by
  obtain ⟨hg, (⟨k, hk, rfl⟩ | ⟨ts', v, hk, rfl, ho⟩)⟩ := h
  · rw [hs] at hk; cases hk
  · rw [hs] at hk; cases hk
    have ho2 := own1_strs ho
    obtain ⟨a, c, e⟩ := ho2.slice
    rw [List.length_map] at e
    subst e
    exact ⟨a, c, rfl, ho2, hg⟩

theorem OwnsS.tss_lists {B : Nat} {W : World} {v : Value} {ms : List (List UInt8)} (h : OwnsS B W v (ms.map mkB)) : Txs W.heap.size W v ms := by
  have := h.tss.txs
  rw [List.map_map] at this
  have e : ms.map ((fun q : ByteArray => q.data.toList) ∘ mkB) = ms := by
    conv => rhs; rw [← List.map_id ms]
    exact List.map_congr_left fun q _ => by simp [mkB]
  rw [e] at this
  exact this
theorem pjoin_owns {B : Nat} {W : World} {v : Value} {ms : List (List UInt8)} (h : OwnsS B W v (ms.map mkB)) (hl : ∀ t ∈ ms, t.length ≤ 1000) (hn : ms.length ≤ 1000) : Calls Tryz.prog 10 #[v] W (ToldJ ms W) :=
  pjoin v ms W h.tss_lists (fun t ht => Nat.le_trans (hl t ht) (by decide)) (Nat.le_trans hn (by decide))
theorem toldJ_ok {ms : List (List UInt8)} {w w' : World} {e : Ending} {f t b z : Nat} {rs : List Rc} (h : ToldJ ms w e w') (hj : joinR ms = .inr (f, t, b, z, rs)) : e = .returned (.tuple #[.string ⟨(serB f t b z rs).toArray⟩, .int .i64 0]) ∧ w.grownBy w' none := by
  obtain ⟨hg, (⟨k, hk, rfl⟩ | ⟨f', t', b', z', rs', hk, rfl⟩)⟩ := h
  · rw [hj] at hk; cases hk
  · rw [hj] at hk; cases hk
    exact ⟨rfl, hg⟩
theorem toldJ_err {ms : List (List UInt8)} {w w' : World} {e : Ending} {k : Int} (h : ToldJ ms w e w') (hj : joinR ms = .inl k) : e = .returned (.tuple #[.string ⟨#[]⟩, .int .i64 k]) ∧ w.grownBy w' none := by
  obtain ⟨hg, (⟨k', hk, rfl⟩ | ⟨f', t', b', z', rs', hk, rfl⟩)⟩ := h
  · rw [hj] at hk; cases hk
    exact ⟨rfl, hg⟩
  · rw [hj] at hk; cases hk
theorem toldP_bad {l : List UInt8} {limit : Int} {w w' : World} {e : Ending} {k : Int} (h : ToldP l limit w e w') (hs : splitR l limit = .inl k) : e = .returned (.tuple #[.slice none 0 0, .int .i64 k]) ∧ w.grownBy w' none := by
  obtain ⟨hg, (⟨k', hk, rfl⟩ | ⟨ts', v, hk, rfl, ho⟩)⟩ := h
  · rw [hs] at hk; cases hk
    exact ⟨rfl, hg⟩
  · rw [hs] at hk; cases hk
theorem Ints.up {w W : World} {v : Value} {xs : List Int} (h : Ints w.heap.size w v xs) (hg : w.grownBy W none) : Ints W.heap.size W v xs := by
  have h2 := h.below (below_of_grown hg)
  rcases h2 with h2 | ⟨b, o, cap, e, hlt, hc⟩
  · exact .inl h2
  · exact .inr ⟨b, o, cap, e, Nat.lt_of_lt_of_le hlt hg.size, hc⟩
theorem OwnsS.cap {B : Nat} {W : World} {a : Option Addr} {l c : Nat} {cs : List ByteArray} (h : OwnsS B W (.slice a l c) cs) : cs.length ≤ c := by
  have h0 : W.ownsRow B 9 1 (.slice a l c) cs.length (strVals cs) := h
  rcases h0.2 with ⟨e, hn⟩ | ⟨g', cap', cur, e, hb, hg, h1, h2, h3, h4⟩
  · omega
  · cases e
    exact h1
theorem OwnsS.some {B : Nat} {W : World} {a : Option Addr} {l c : Nat} {cs : List ByteArray} (h : OwnsS B W (.slice a l c) cs) (h1 : 1 ≤ cs.length) : ∃ g, a = some ⟨g, 0, none⟩ ∧ B ≤ g ∧ g < W.heap.size := by
  have h0 : W.ownsRow B 9 1 (.slice a l c) cs.length (strVals cs) := h
  rcases h0.2 with ⟨e, hn⟩ | ⟨g', cap', cur, e, hb, hg, _⟩
  · omega
  · cases e
    exact ⟨g', rfl, hb, (Array.getElem?_eq_some_iff.1 hg).1⟩

theorem OwnsS.thaw {B : Nat} {W : World} {g n cap : Nat} {cs : List ByteArray} (h : OwnsS B W (.slice (Option.some ⟨g, 0, none⟩) n cap) cs) (o : Nat) : W.frozen? ⟨g, o, none⟩ = false := by
  have h0 : W.ownsRow B 9 1 (.slice (Option.some ⟨g, 0, none⟩) n cap) cs.length (strVals cs) := h
  rcases h0.2 with ⟨e, _⟩ | ⟨g', cap, cur, e, _, hgb, _⟩
  · cases e
  · simp only [Value.slice.injEq, Option.some.injEq, Addr.mk.injEq] at e
    obtain ⟨⟨rfl, _⟩, _⟩ := e
    exact boxed_frozen hgb
theorem toldJ_shape {ms : List (List UInt8)} {w w' : World} {e : Ending} (h : ToldJ ms w e w') : ∃ (o : Array UInt8) (k : Int), e = .returned (.tuple #[.string ⟨o⟩, .int .i64 k]) ∧ w.grownBy w' none ∧ (∀ k', joinR ms = .inl k' → k = k') ∧ (∀ f t b z rs, joinR ms = .inr (f, t, b, z, rs) → k = 0 ∧ o = (serB f t b z rs).toArray) := by
  obtain ⟨hg, (⟨k, hk, rfl⟩ | ⟨f, t, b, z, rs, hk, rfl⟩)⟩ := h
  · exact ⟨_, k, rfl, hg, fun k' h' => (by rw [hk] at h'; cases h'; rfl), fun f t b z rs h' => (by rw [hk] at h'; cases h')⟩
  · exact ⟨_, 0, rfl, hg, fun k' h' => (by rw [hk] at h'; cases h'), fun f t b z rs h' => by rw [hk] at h'; cases h'; exact ⟨rfl, rfl⟩⟩
theorem i64_wrap (x : Int) : I64 (wrap64 x) := by unfold I64 wrap64; omega

set_option maxRecDepth 100000 in
set_option maxHeartbeats 4000000 in
theorem pieces_walk (x y lm wh : Int) (v v2 : Value) (xs ys : List Int) (w : World) (hx : I64 x) (hy : I64 y) (hlm : I64 lm) (hwh' : I64 wh) (hv : Ints w.heap.size w v xs) (hxs : ∀ c ∈ xs, I64 c) (hxl : xs.length ≤ 9223372036854775807) (hv2 : Ints w.heap.size w v2 ys) (hys : ∀ c ∈ ys, I64 c) (hyl : ys.length ≤ 9223372036854775807) :
    Calls Tryz.prog 3 #[.int .i64 x, .int .i64 y, v, .int .i64 lm, v2, .int .i64 wh] w fun e w' => e = .returned (.bool true) ∧ w.grownBy w' none := by
  obtain ⟨a, cap, rfl⟩ := hv.slice
  obtain ⟨a2, cap2, rfl⟩ := hv2.slice
  have hn : pickN x 100 + 1 ≤ 100 := pickN_lt x 100 (by omega)
  have hz : pickN y 64 + 1 ≤ 64 := pickN_lt y 64 (by omega)
  have hlp : pickN lm 300 < 300 := pickN_lt lm 300 (by omega)
  have HV : Hid (∀ W, w.grownBy W none → Ints W.heap.size W (.slice a xs.length cap) xs) := fun W h => hv.up h
  have HV2 : Hid (∀ W, w.grownBy W none → Ints w.heap.size W (.slice a2 ys.length cap2) ys) := fun W h => hv2.below (below_of_grown h)
  have HM : Hid (∀ t W, w.grownBy W none → _) := fun t W h => made_fn 1 t (pickN x 100 + 1) (pickN y 64 + 1) (.slice a xs.length cap) xs false W (HV.out W h) hxs hxl (by omega) (by omega)
  have HS : Hid (∀ W, _) := fun W => shape_any x y W hx hy
  have HPL : Hid (∀ W, _) := fun W => pick_at lm 300 300 W hlm rfl (by omega) (by omega)
  have hwh2 : wellHead 1 2 ((pickN x 100 + 1 : Nat) : Int) ((pickN y 64 + 1 : Nat) : Int) = true := decide_eq_true ⟨by omega, by omega, by omega, by omega, by omega, by omega, by omega, by omega, by omega⟩
  have hwh3 : wellHead 1 3 ((pickN x 100 + 1 : Nat) : Int) ((pickN y 64 + 1 : Nat) : Int) = true := decide_eq_true ⟨by omega, by omega, by omega, by omega, by omega, by omega, by omega, by omega, by omega⟩
  have hok := (madeR_ok (pickN x 100 + 1) (pickN y 64 + 1) xs false (pickN x 100 + 1) (Nat.le_refl _)).1
  have hml := mostR_le (pickN x 100 + 1) (pickN y 64 + 1) _ hz hok
  generalize pickN x 100 + 1 = n at *
  generalize pickN y 64 + 1 = z at *
  generalize pickN lm 300 = lp at *
  generalize madeR z xs false n = rs at *
  have hfit : ((28 + mostR rs : Nat) : Int) ≤ 31 + (z : Int) + (lp : Int) := by omega
  have hsm := serB_small 1 2 n z rs (by omega) (by omega) hok
  have HSP : Hid _ := split_good 1 2 n z rs (31 + (z : Int) + (lp : Int)) hwh2 hok hfit
  have HSO : Hid _ := split_good 1 3 n z rs (31 + (z : Int) + (lp : Int)) hwh3 hok hfit
  have HSS : Hid _ := split_small 1 2 n z rs 27 hwh2 hok (by omega)
  have HT2 : Hid (∀ sv W, Recs W.heap.size W sv rs → _) := fun sv W h => text_good 1 2 n z sv rs W h hwh2 hok
  have HT3 : Hid (∀ sv W, Recs W.heap.size W sv rs → _) := fun sv W h => text_good 1 3 n z sv rs W h hwh3 hok
  go_enter Tryz.func3, Tryz.ntmps3
  go_wp2_with fail
  refine (HS.out _).mono ?_
  rintro e w1 ⟨rfl, rfl⟩
  go_wp2_with fail
  refine (HM.out 2 w1 (drew_grown _ 0 _)).mono ?_
  rintro e w2 ⟨sv, rfl, hown, hg2⟩
  obtain ⟨al, cl, rfl⟩ := hown.recs.slice
  have HG2 : Hid (w1.grownBy w2 none) := hg2
  have R2 : Hid (∀ o, Recs (World.alloc w2 o).heap.size (World.alloc w2 o) (.slice al rs.length cl) rs) := fun o => (OwnsR.alloc hown o).recs
  have hL0 : (serB 1 2 n z rs).isEmpty = false := isEmpty_false (by omega)
  clear hg2 hown hv hv2 hx hy hxs hxl hlm
  generalize hL : serB 1 2 n z rs = L at *
  go_wp2_with fail
  refine (HT2.out _ _ (R2.out _)).mono ?_
  rintro e w3 ⟨rfl, hg3⟩
  have G3 : Hid (w1.grownBy w3 none) := gtrans (gallocR HG2.out _) hg3
  clear hg3 R2 HG2
  go_wp2_with fail
  refine (HPL.out _).mono ?_
  rintro e wx ⟨rfl, rfl⟩
  go_wp2_with fail
  refine (psplit L (31 + (z : Int) + (lp : Int)) _ (by omega) (by omega) (by omega)).mono ?_
  intro e w4 h4
  obtain ⟨at4, ct4, rfl, ho4, hg4⟩ := toldP_good h4 HSP.out
  have HST : Hid _ := stK_up (31 + (z : Int) + (lp : Int)) rs rs.length (Nat.le_refl _)
  have hTl : (chunksR 1 2 n z rs (startsR (31 + (z : Int) + (lp : Int)) rs)).length = (startsR (31 + (z : Int) + (lp : Int)) rs).length := by simp [chunksR]
  have hrl := recsOk_length n z rs hok (by omega)
  have hsl1 : 1 ≤ (startsR (31 + (z : Int) + (lp : Int)) rs).length := HST.out.2.2.2.1
  have hsl2 : (startsR (31 + (z : Int) + (lp : Int)) rs).length ≤ 100 := by have := stK_len (31 + (z : Int) + (lp : Int)) rs hfit rs.length (Nat.le_refl _); unfold startsR; omega
  have HFIT : Hid (∀ q ∈ chunksR 1 2 n z rs (startsR (31 + (z : Int) + (lp : Int)) rs), (q.length : Int) ≤ 31 + (z : Int) + (lp : Int)) := chunks_fit 1 2 n z rs _ hfit
  have G4 : Hid (w1.grownBy w4 none) := gtrans G3.out hg4
  have O4 : Hid (OwnsS wx.heap.size w4 (.slice at4 (chunksR 1 2 n z rs (startsR (31 + (z : Int) + (lp : Int)) rs)).length ct4) ((chunksR 1 2 n z rs (startsR (31 + (z : Int) + (lp : Int)) rs)).map mkB)) := ho4
  clear h4 ho4 hg4 HST
  obtain ⟨T, hT⟩ : ∃ T, T = chunksR 1 2 n z rs (startsR (31 + (z : Int) + (lp : Int)) rs) := ⟨_, rfl⟩
  rw [← hT] at hTl HFIT O4 ⊢
  have HTT : Hid _ := hT
  clear hT
  have hT1 : 1 ≤ T.length := by omega
  have hT2 : T.length ≤ 100 := by omega
  have d4 : ((T.length : Int) == 0) = false := by rw [beq_eq_false_iff_ne]; omega
  have HTL : Hid _ := hTl
  clear hTl hsl1 hsl2
  have TS4 : Hid (∀ W, w4.grownBy W none → Tss W.heap.size W (.slice at4 T.length ct4) (T.map mkB)) := fun W h => (O4.out.tss).moved (below_of_grown h)
  have HYS : Hid (∀ k, I64 (ys.getD k 0)) := by
    intro k
    rw [List.getD_eq_getElem?_getD]
    by_cases hk : k < ys.length
    · rw [List.getElem?_eq_getElem hk, Option.getD_some]
      exact hys _ (List.getElem_mem hk)
    · rw [List.getElem?_eq_none (by omega), Option.getD_none]
      exact ⟨by omega, by omega⟩
  clear hys
  go_wp2
  go_loopw [20, 21] (fun mv i wr => ∃ (k : Nat) (ms : List (List UInt8)), k ≤ T.length ∧ i = .int .i64 k ∧ ms.Perm (T.take k) ∧ OwnsS w4.heap.size wr mv (ms.map mkB) ∧ w4.grownBy wr none) (fun _ i _ => T.length - (intOf i).toNat)
  case atStart => exact ⟨0, [], Nat.zero_le _, rfl, List.Perm.refl _, World.ownsRow_nil _ _ _ _, drew_grown _ 0 _⟩
  case round =>
    obtain ⟨k, ms, hk, rfl, hpm, hO, hG⟩ := hrel
    have hmk : ms.length = k := by rw [hpm.length_eq, List.length_take]; omega
    by_cases hlt : k < T.length
    · obtain ⟨tb, toff, ha, htb, q0⟩ := (TS4.out _ hG).at (k := k) (by rw [List.length_map]; exact hlt)
      subst ha
      rw [List.getElem_map] at q0
      have hsz : (mkB T[k]).size = T[k].length := by simp [mkB, ByteArray.size]
      have hfk := HFIT.out _ (List.getElem_mem hlt)
      have HPM2 : Hid (∀ p, p ≤ ms.length → (ms.take p ++ [T[k]] ++ ms.drop p).Perm (T.take (k + 1))) := fun p hp => by
        rw [List.take_succ_eq_append_getElem hlt, List.append_assoc, List.singleton_append]
        refine List.perm_middle.trans ?_
        rw [List.take_append_drop]
        exact ((hpm.cons T[k])).trans (List.perm_append_singleton _ _).symm
      have HN : Hid (∀ u : Unit, _) := fun _ => nth_any w1.heap.size _ ys k wr (HV2.out _ (gtrans G4.out hG)) (by omega) hyl
      have HI := HYS.out k
      generalize ys.getD k 0 = c at *
      have HPK : Hid (∀ u : Unit, _) := fun _ => pick_at c ((k : Int) + 1) (k + 1) wr HI (by omega) (by omega) (by omega)
      have hp := pickN_lt c (k + 1) (by omega)
      generalize pickN c (k + 1) = p at *
      obtain ⟨am, cm, hmv⟩ := hO.slice
      rw [List.length_map, hmk] at hmv
      subst hmv
      have HF1 : Hid _ := hO.front p (by rw [List.length_map]; omega)
      have HF2 : Hid _ := hO.behind p (by rw [List.length_map]; omega)
      rw [List.length_map, hmk] at HF2
      have hcm : (k : Int) ≤ (cm : Int) := by have := hO.cap; rw [List.length_map, hmk] at this; omega
      have HG : Hid (w4.grownBy wr none) := hG
      have d6 : decide (31 + (z : Int) + (lp : Int) < (T[k].length : Int)) = false := by simp; omega
      have twl : tb < wr.heap.size := htb
      generalize T[k] = tk at *
      have b1 : (0 : Int) ≤ (p : Int) := by omega
      have b2 : (p : Int) ≤ (k : Int) := by omega
      have b3 : (p : Int) ≤ (cm : Int) := by omega
      clear hpm hO hG
      go_wp2_with fail
      refine (HN.out ()).mono ?_
      rintro e wy ⟨rfl, rfl⟩
      go_wp2_with fail
      refine (HPK.out ()).mono ?_
      rintro e wz ⟨rfl, rfl⟩
      have HOA : Hid (OwnsS wz.heap.size wz (.slice none 0 0) []) := World.ownsRow_nil _ _ _ _
      have hl1 : ([] : List ByteArray).length + ((ms.map mkB).take p).length ≤ 2000 := by rw [List.length_take, List.length_map]; simp; omega
      have HQ : Hid (∀ W, Below wz.heap.size wz W → W.cell? ⟨tb, toff + k, none⟩ = some (.string (mkB tk))) := fun W h => (h.cell (p := ⟨tb, toff + k, none⟩) twl).trans q0
      have hl2 : ([] ++ (ms.map mkB).take p).length ≤ 2000 := by rw [List.nil_append, List.length_take, List.length_map]; omega
      have hl3 : ([] ++ (ms.map mkB).take p ++ [mkB tk]).length + ((ms.map mkB).drop p).length ≤ 2000 := by
        rw [List.nil_append, List.length_append, List.length_take, List.length_drop, List.length_map]
        simp
        omega
      have HL5 : Hid (([] ++ (ms.map mkB).take p).length = p) := by show _ = _; rw [List.nil_append, List.length_take, List.length_map]; omega
      have HL6 : Hid (([] ++ (ms.map mkB).take p ++ [mkB tk]).length = p + 1) := by show _ = _; rw [List.length_append, HL5.out]; rfl
      have HL7 : Hid (([] ++ (ms.map mkB).take p ++ [mkB tk] ++ (ms.map mkB).drop p).length = k + 1) := by show _ = _; rw [List.length_append, HL6.out, List.length_drop, List.length_map]; omega
      go_wp2_with (at_builtin; first
        | (have guard1 := HOA; clear guard1; refine wpList_append_txs _ rfl _ _ rfl wz.heap.size _ [] _ _ rfl HOA.out rfl HF1.out hl1 (Nat.le_refl _) ?_; intro v5 w5 hO5 hg5; obtain ⟨a5, c5, hv5⟩ := hO5.slice; rw [HL5.out] at hv5; subst hv5; have B5 : Hid (Below wz.heap.size wz w5) := below_of_grown hg5; have O5 : Hid (OwnsS wz.heap.size w5 _ ([] ++ (ms.map mkB).take p)) := hO5; have q5 := HQ.out _ B5.out; have z5 : wz.heap.size ≤ w5.heap.size := hg5.size; have t5 : tb < w5.heap.size := (by omega); clear hO5 hg5 HOA)
        | (have guard2 := O5; clear guard2; refine wpList_append_sw _ rfl _ _ rfl wz.heap.size _ ([] ++ (ms.map mkB).take p) rfl (OwnsS.alloc O5.out _) ⟨_, 0, none⟩ (mkB tk) rfl (cells_new2 _ _ _ _ (by simp)) hl2 (by simp; omega) ?_; intro v6 w6 hO6 hg6 _ _; obtain ⟨a6, c6, hv6⟩ := hO6.slice; rw [HL6.out] at hv6; subst hv6; have O6 : Hid (OwnsS wz.heap.size w6 _ ([] ++ (ms.map mkB).take p ++ [mkB tk])) := hO6; have B6 : Hid (Below wz.heap.size wz w6) := (B5.out.alloc z5 _).grown hg6 (by simp; omega) (OwnsS.own_ge O5.out); clear hO6 hg6 O5)
        | (have guard3 := O6; clear guard3; refine wpList_append_txs _ rfl _ _ rfl wz.heap.size _ ([] ++ (ms.map mkB).take p ++ [mkB tk]) _ _ rfl O6.out rfl (SrcS.below HF2.out B6.out) hl3 B6.out.size ?_; intro v7 w7 hO7 hg7; obtain ⟨a7, c7, hv7⟩ := hO7.slice; rw [HL7.out] at hv7; subst hv7; have O7 : Hid (OwnsS wz.heap.size w7 _ ([] ++ (ms.map mkB).take p ++ [mkB tk] ++ (ms.map mkB).drop p)) := hO7; have B7 : Hid (Below wz.heap.size wz w7) := B6.out.grown hg7 B6.out.size (OwnsS.own_ge O6.out); clear hO7 hg7 O6))
      have HLM : Hid ([] ++ (ms.map mkB).take p ++ [mkB tk] ++ (ms.map mkB).drop p = (ms.take p ++ [tk] ++ ms.drop p).map mkB) := by show _ = _; simp
      go_roundw
      case rel => exact ⟨k + 1, ms.take p ++ [tk] ++ ms.drop p, by omega, by go_num, HPM2.out p (by omega), by rw [← HLM.out]; exact OwnsS.base O7.out HG.out.size, gtrans HG.out (gbelow B7.out)⟩
      case measure => simp [intOf]; omega
    · obtain rfl : k = T.length := by omega
      rw [List.take_of_length_le (Nat.le_refl _)] at hpm
      have HPM : Hid (ms.Perm T) := hpm
      have hmk : ms.length = T.length := hpm.length_eq
      obtain ⟨am, cm, hmv⟩ := hO.slice
      rw [List.length_map, hmk] at hmv
      subst hmv
      have hcm : (T.length : Int) ≤ (cm : Int) := by have := hO.cap; rw [List.length_map, hmk] at this; omega
      have HO : Hid (OwnsS w4.heap.size wr (.slice am T.length cm) (ms.map mkB)) := hO
      have HG : Hid (w4.grownBy wr none) := hG
      have HML : Hid (∀ t ∈ ms, t.length ≤ 1000) := fun t ht => by have := HFIT.out t (hpm.mem_iff.1 ht); omega
      have HPC : Hid (ms.Perm (chunksR 1 2 n z rs (startsR (31 + (z : Int) + (lp : Int)) rs))) := by show List.Perm _ _; rw [← HTT.out]; exact hpm
      have HJA : Hid _ := joinR_all hwh2 hok HPC.out (by omega) (by omega)
      have hnlt : ¬ (T.length : Int) < (T.length : Int) := by omega
      have HLESS : Hid (∀ c, c < T.length → ∃ kh : Int, joinR (ms.take c ++ ms.drop (c + 1)) = .inl kh ∧ ((kh = 13 ∧ 2 ≤ T.length) ∨ (kh = 1 ∧ T.length = 1))) := fun c hc => by
        by_cases h1 : T.length = 1
        · refine ⟨1, ?_, .inr ⟨rfl, h1⟩⟩
          have e : ms.take c ++ ms.drop (c + 1) = [] := List.eq_nil_of_length_eq_zero (by rw [List.length_append, List.length_take, List.length_drop]; omega)
          rw [e]
          rfl
        · exact ⟨13, joinR_less hwh2 hok HPC.out (by omega) (by omega) c (by omega), .inl ⟨rfl, by omega⟩⟩
      clear hpm hO hG hlt
      have HJ1 : Hid (∀ W, wr.grownBy W none → _) := fun W h => pjoin_owns (OwnsS.kept HO.out h) HML.out (by omega)
      go_wp2_with fail
      refine (HJ1.out _ ⟨rfl, rfl, rfl, Nat.le_refl _, fun _ _ _ => rfl⟩).mono ?_
      intro e w5 h5
      obtain ⟨e5, g5⟩ := toldJ_ok h5 HJA.out
      rw [hL] at e5
      subst e5
      have G5 : Hid (wr.grownBy w5 none) := g5
      clear h5 g5
      go_wp2_with fail
      refine (psplit L 27 _ (by omega) (by omega) (by omega)).mono ?_
      intro e w6 h6
      obtain ⟨rfl, g6⟩ := toldP_bad h6 HSS.out
      have G6 : Hid (wr.grownBy w6 none) := gtrans G5.out g6
      clear h6 g6
      go_wp2_with fail
      refine (pick_at wh T.length T.length _ hwh' rfl (by omega) (by omega)).mono ?_
      rintro e w7 ⟨rfl, rfl⟩
      have hcT := pickN_lt wh T.length (by omega)
      generalize pickN wh T.length = c at *
      have HF1 : Hid (SrcS w7 (.slice am c cm) ((ms.map mkB).take c)) := (HO.out.front c (by rw [List.length_map]; omega)).kept G6.out
      have HF2 : Hid _ := (HO.out.behind (c + 1) (by rw [List.length_map]; omega)).kept G6.out
      rw [List.length_map, hmk] at HF2
      have HF3 : Hid (SrcS w7 (.slice am T.length cm) ((ms.map mkB).take T.length)) := (HO.out.front T.length (by rw [List.length_map]; omega)).kept G6.out
      have b1 : (0 : Int) ≤ (c : Int) := by omega
      have b2 : (c : Int) ≤ (T.length : Int) := by omega
      have b3 : (c : Int) ≤ (cm : Int) := by omega
      have b4 : (0 : Int) ≤ (c : Int) + 1 := by omega
      have b5 : (c : Int) + 1 ≤ (T.length : Int) := by omega
      have b6 : (c : Int) + 1 ≤ (cm : Int) := by omega
      have hmm : (ms.map mkB).length = T.length := by rw [List.length_map]; omega
      have HOA : Hid (OwnsS w7.heap.size w7 (.slice none 0 0) []) := World.ownsRow_nil _ _ _ _
      have hl1 : ([] : List ByteArray).length + ((ms.map mkB).take c).length ≤ 2000 := by rw [List.length_take, hmm]; simp; omega
      have hl2 : ([] ++ (ms.map mkB).take c).length + ((ms.map mkB).drop (c + 1)).length ≤ 2000 := by rw [List.nil_append, List.length_take, List.length_drop, hmm]; omega
      have HL5 : Hid (([] ++ (ms.map mkB).take c).length = c) := by show _ = _; rw [List.nil_append, List.length_take, hmm]; omega
      have HL6 : Hid (([] ++ (ms.map mkB).take c ++ (ms.map mkB).drop (c + 1)).length = T.length - 1) := by show _ = _; rw [List.length_append, HL5.out, List.length_drop, hmm]; omega
      by_cases hcc : cm = c + 1
      case' pos => (subst hcc; rw [if_pos rfl, Nat.sub_self] at HF2)
      case' neg => (rw [if_neg hcc] at HF2)
      all_goals (
        go_wp2_with (at_builtin; first
          | (have guard1 := HOA; clear guard1; refine wpList_append_txs _ rfl _ _ rfl w7.heap.size _ [] _ _ rfl HOA.out rfl HF1.out hl1 (Nat.le_refl _) ?_; intro v8 w8 hO8 hg8; obtain ⟨a8, c8, hv8⟩ := hO8.slice; rw [HL5.out] at hv8; subst hv8; have B8 : Hid (Below w7.heap.size w7 w8) := below_of_grown hg8; have O8 : Hid (OwnsS w7.heap.size w8 _ ([] ++ (ms.map mkB).take c)) := hO8; clear hO8 hg8 HOA)
          | (have guard2 := O8; clear guard2; refine wpList_append_txs _ rfl _ _ rfl w7.heap.size _ ([] ++ (ms.map mkB).take c) _ _ rfl O8.out rfl (SrcS.below HF2.out B8.out) hl2 B8.out.size ?_; intro v9 w9 hO9 hg9; obtain ⟨a9, c9, hv9⟩ := hO9.slice; rw [HL6.out] at hv9; subst hv9; have B9 : Hid (Below w7.heap.size w7 w9) := B8.out.grown hg9 B8.out.size (OwnsS.own_ge O8.out); have O9 : Hid (OwnsS w7.heap.size w9 _ ([] ++ (ms.map mkB).take c ++ (ms.map mkB).drop (c + 1))) := hO9; clear hO9 hg9 O8 B8 HF2))
        have HM9 : Hid ([] ++ (ms.map mkB).take c ++ (ms.map mkB).drop (c + 1) = (ms.take c ++ ms.drop (c + 1)).map mkB) := (by show _ = _; simp)
        have OL : Hid (OwnsS w7.heap.size w9 (.slice a9 (T.length - 1) c9) ((ms.take c ++ ms.drop (c + 1)).map mkB)) := (by show OwnsS _ _ _ _; rw [← HM9.out]; exact O9.out)
        clear O9
        have HLL : Hid ((ms.take c ++ ms.drop (c + 1)).length = T.length - 1) := (by show _ = _; rw [List.length_append, List.length_take, List.length_drop]; omega)
        obtain ⟨kh, hkh, hkk⟩ := HLESS.out c hcT
        have HKH : Hid _ := hkh
        clear hkh
        have HJ2 : Hid (∀ u : Unit, _) := fun _ => pjoin_owns OL.out (fun t ht => HML.out t (less_mem ht)) (by rw [HLL.out]; omega)
        refine (HJ2.out ()).mono ?_
        intro e w10 h10
        obtain ⟨rfl, g10⟩ := toldJ_err h10 HKH.out
        have G10 : Hid (w9.grownBy w10 none) := g10
        clear h10 g10 HJ2
        have B10 : Hid (Below w7.heap.size w7 w10) := B9.out.trans ((below_of_grown G10.out).mono B9.out.size)
        have HOB : Hid (OwnsS w10.heap.size w10 (.slice none 0 0) []) := World.ownsRow_nil _ _ _ _
        have hl7 : ([] : List ByteArray).length + ((ms.map mkB).take T.length).length ≤ 2000 := (by rw [List.length_take, hmm]; simp; omega)
        have HL8 : Hid (([] ++ (ms.map mkB).take T.length).length = T.length) := (by show _ = _; rw [List.nil_append, List.length_take, hmm]; omega)
        go_wp2_with (at_builtin; first | (have guard1 := HOB; clear guard1; refine wpList_append_txs _ rfl _ _ rfl w10.heap.size _ [] _ _ rfl HOB.out rfl (SrcS.below HF3.out B10.out) hl7 (Nat.le_refl _) ?_; intro v11 w11 hO11 hg11; obtain ⟨a11, c11, hv11⟩ := hO11.slice; rw [HL8.out] at hv11; subst hv11; have G11 : Hid (w10.grownBy w11 none) := hg11; have O11 : Hid (OwnsS w10.heap.size w11 _ ([] ++ (ms.map mkB).take T.length)) := hO11; clear hO11 hg11 HOB))
        refine (pick_at (wrap64 (wh.tdiv 7)) T.length T.length _ (i64_wrap _) rfl (by omega) (by omega)).mono ?_
        rintro e w12 ⟨rfl, rfl⟩
        have hqT := pickN_lt (wrap64 (wh.tdiv 7)) T.length (by omega)
        generalize pickN (wrap64 (wh.tdiv 7)) T.length = q at *
        have HM11 : Hid ([] ++ (ms.map mkB).take T.length = ms.map mkB) := (by show _ = _; rw [List.nil_append, List.take_of_length_le (by omega)])
        have G7 : Hid (wr.grownBy w12 none) := gtrans G6.out (gtrans (gbelow B10.out) G11.out)
        obtain ⟨g11, hg11, hb11, hz11⟩ := OwnsS.some O11.out (by rw [HL8.out]; omega)
        subst hg11
        have O12 : Hid (OwnsS w10.heap.size w12 (.slice (some ⟨g11, 0, none⟩) T.length c11) (ms.map mkB)) := (by show OwnsS _ _ _ _; rw [← HM11.out]; exact O11.out)
        clear O11
        have hqm : q < ms.length := (by omega)
        have hcm2 : c < ms.length := (by omega)
        obtain ⟨tb2, toff2, ha2, htb2, q2⟩ := (OwnsS.tss (OwnsS.kept HO.out G7.out)).at (k := q) (by rw [hmm]; exact hqT)
        subst ha2
        rw [List.getElem_map] at q2
        have q3 := OwnsS.row O12.out c (by rw [hmm]; exact hcT)
        have z3 := OwnsS.thaw O12.out c
        have e1 : (0 : Int) ≤ (q : Int) := (by omega)
        have e2 : (q : Int) < (T.length : Int) := (by omega)
        have e3 : (c : Int) < (T.length : Int) := (by omega)
        have HTW : Hid _ := OwnsS.store O12.out c (mkB ms[q])
        have HMT : Hid ((ms.map mkB).set c (mkB ms[q]) = (ms.set c ms[q]).map mkB) := (by show _ = _; rw [List.map_set])
        rw [HMT.out] at HTW
        have HTL2 : Hid (∀ t ∈ ms.set c ms[q], t.length ≤ 1000) := (fun t ht => (List.mem_or_eq_of_mem_set ht).elim (HML.out t) (fun e => e ▸ HML.out _ (List.getElem_mem hqm)))
        have BA : Hid (Below w10.heap.size w10 (w12.setCell ⟨g11, c, none⟩ (.string (mkB ms[q])))) := (below_of_grown G11.out).setCell hb11 _
        have HTWC : Hid ((q ≠ c → joinR (ms.set c ms[q]) = .inl 13) ∧ (q = c → joinR (ms.set c ms[q]) = .inr (1, 2, n, z, rs))) := (by
          refine ⟨fun h => joinR_twice hwh2 hok HPC.out (by omega) (by omega) c q hcm2 hqm h, fun h => ?_⟩
          subst h
          rw [List.set_getElem_self]
          exact HJA.out)
        go_wp2_with fail
        generalize w12.setCell ⟨g11, c, none⟩ (.string (mkB ms[q])) = wA at *
        refine (pjoin_owns HTW.out HTL2.out (by rw [List.length_set]; omega)).mono ?_
        intro e w13 h13
        obtain ⟨o13, k13, rfl, g13, hi13, ho13⟩ := toldJ_shape h13
        have HK13 : Hid (k13 = 13 ∨ (k13 = 0 ∧ o13 = L.toArray)) := (by
          by_cases hqc : q = c
          · have := ho13 _ _ _ _ _ (HTWC.out.2 hqc)
            rw [hL] at this
            exact .inr this
          · exact .inl (hi13 _ (HTWC.out.1 hqc)))
        have B13 : Hid (Below w10.heap.size w10 w13) := BA.out.trans ((below_of_grown g13).mono BA.out.size)
        have G13 : Hid (w9.grownBy w13 none) := gtrans G10.out (gbelow B13.out)
        have GW : Hid (w1.grownBy w13 none) := gtrans G4.out (gtrans HG.out (gtrans G6.out (gtrans (gbelow B9.out) G13.out)))
        clear h13 g13 hi13 ho13 HTW O12 q2 q3 z3
        go_wp2_with fail
        refine (HM.out 3 w13 GW.out).mono ?_
        rintro e w14 ⟨sv2, rfl, hown2, hg14⟩
        obtain ⟨al2, cl2, rfl⟩ := hown2.recs.slice
        have R14 : Hid (Recs w14.heap.size w14 (.slice al2 rs.length cl2) rs) := hown2.recs
        have G14 : Hid (w13.grownBy w14 none) := hg14
        clear hg14 hown2
        go_wp2_with fail
        refine (HT3.out _ _ R14.out).mono ?_
        rintro e w15 ⟨rfl, hg15⟩
        have G15 : Hid (w13.grownBy w15 none) := gtrans G14.out hg15
        clear hg15 R14
        have hsm3 := serB_small 1 3 n z rs (by omega) (by omega) hok
        have HS3 : Hid _ := HSO.out
        generalize serB 1 3 n z rs = L3 at *
        go_wp2_with fail
        refine (psplit L3 (31 + (z : Int) + (lp : Int)) _ (by omega) (by omega) (by omega)).mono ?_
        intro e w16 h16
        obtain ⟨at16, ct16, rfl, ho16, hg16⟩ := toldP_good h16 HS3.out
        have HCL : Hid ((chunksR 1 3 n z rs (startsR (31 + (z : Int) + (lp : Int)) rs)).length = T.length) := (by show _ = _; rw [HTL.out]; simp [chunksR])
        rw [HCL.out] at ho16 ⊢
        have HFO : Hid (2 ≤ T.length → ∀ v (hv : v < (chunksR 1 3 n z rs (startsR (31 + (z : Int) + (lp : Int)) rs)).length), joinR (ms.take c ++ ms.drop (c + 1) ++ [(chunksR 1 3 n z rs (startsR (31 + (z : Int) + (lp : Int)) rs))[v]]) = .inl 13) := (fun h2 v hv => joinR_strange hwh2 hwh3 hok HPC.out (by omega) (by omega) c v (by omega) hv (by decide))
        have HFL : Hid (∀ t ∈ chunksR 1 3 n z rs (startsR (31 + (z : Int) + (lp : Int)) rs), t.length ≤ 1000) := (fun t ht => by have := chunks_fit 1 3 n z rs _ hfit t ht; omega)
        generalize chunksR 1 3 n z rs (startsR (31 + (z : Int) + (lp : Int)) rs) = U at *
        have hUT : U.length = T.length := HCL.out
        have hcU : c < U.length := (by omega)
        obtain ⟨tb3, toff3, ha3, htb3, q3⟩ := (OwnsS.tss ho16).at (k := c) (by rw [List.length_map]; exact hcU)
        subst ha3
        rw [List.getElem_map] at q3
        have HFOc : Hid _ := fun h2 => HFO.out h2 c hcU
        have HFLc : Hid _ := HFL.out U[c] (List.getElem_mem hcU)
        have G16 : Hid (w13.grownBy w16 none) := gtrans G15.out hg16
        clear h16 ho16 hg16 HFO HFL HS3
        generalize U[c] = uc at *
        clear hcU hUT HCL
        have OL2 : Hid (OwnsS w7.heap.size w16 (.slice a9 (T.length - 1) c9) ((ms.take c ++ ms.drop (c + 1)).map mkB)) := OwnsS.kept OL.out (gtrans G13.out G16.out)
        have B16 : Hid (Below w7.heap.size w7 w16) := B9.out.trans ((below_of_grown (gtrans G13.out G16.out)).mono B9.out.size)
        have z16 : w7.heap.size ≤ w16.heap.size := B16.out.size
        have f3 : (c : Int) < (T.length : Int) := (by omega)
        have hl17 : ((ms.take c ++ ms.drop (c + 1)).map mkB).length ≤ 2000 := (by rw [List.length_map, HLL.out]; omega)
        have HL17 : Hid (((ms.take c ++ ms.drop (c + 1)).map mkB ++ [mkB uc]).length = T.length) := (by show _ = _; rw [List.length_append, List.length_map, HLL.out, List.length_singleton]; omega)
        go_wp2_with (at_builtin; first | (have guard1 := OL2; clear guard1; refine wpList_append_sw _ rfl _ _ rfl w7.heap.size _ ((ms.take c ++ ms.drop (c + 1)).map mkB) rfl (OwnsS.alloc OL2.out _) ⟨_, 0, none⟩ (mkB uc) rfl (cells_new2 _ _ _ _ (by simp)) hl17 (by simp; omega) ?_; intro v17 w17 hO17 hg17 _ _; obtain ⟨a17, c17, hv17⟩ := hO17.slice; rw [HL17.out] at hv17; subst hv17; have O17 : Hid (OwnsS w7.heap.size w17 _ ((ms.take c ++ ms.drop (c + 1)).map mkB ++ [mkB uc])) := hO17; have B17 : Hid (Below w7.heap.size w7 w17) := (B16.out.alloc z16 _).grown hg17 (by simp; omega) (OwnsS.own_ge OL2.out); clear hO17 hg17 OL2))
        have HM18 : Hid ((ms.take c ++ ms.drop (c + 1)).map mkB ++ [mkB uc] = (ms.take c ++ ms.drop (c + 1) ++ [uc]).map mkB) := (by show _ = _; simp)
        have O18 : Hid (OwnsS w7.heap.size w17 (.slice a17 T.length c17) ((ms.take c ++ ms.drop (c + 1) ++ [uc]).map mkB)) := (by show OwnsS _ _ _ _; rw [← HM18.out]; exact O17.out)
        refine (pjoin_owns O18.out (fun t ht => (List.mem_append.1 ht).elim (fun h => HML.out t (less_mem h)) (fun h => (List.mem_singleton.1 h) ▸ HFLc.out)) (by rw [List.length_append, HLL.out, List.length_singleton]; omega)).mono ?_
        intro e w18 h18
        obtain ⟨o18, k18, rfl, g18, hi18, -⟩ := toldJ_shape h18
        have HK18 : Hid (k18 = 13 ∨ (k18 ≠ 13 ∧ T.length = 1)) := (by
          show _ ∨ _
          by_cases h1 : k18 = 13
          · exact .inl h1
          · by_cases h2 : T.length = 1
            · exact .inr ⟨h1, h2⟩
            · exact .inl (hi18 _ (HFOc.out (by omega))))
        have GF : Hid (w1.grownBy w18 none) := gtrans G4.out (gtrans HG.out (gtrans G6.out (gtrans (gbelow B17.out) g18)))
        clear h18 g18 hi18 O17 O18 HTWC HLESS q3
        rcases hkk with ⟨rfl, hT9⟩ | ⟨rfl, hT9⟩ <;> rcases HK13.out with rfl | ⟨rfl, rfl⟩ <;> rcases HK18.out with rfl | ⟨h18, hT8⟩
        all_goals (go_wp2; go_ret; exact ⟨rfl, GF.out⟩))
end Go.Proofs.YtdjmhagclcfnfabGreat
/- The statement on Pieces. -/
namespace Go.Proofs.YtdjmhagclcfnfabGreat
open Go.ChangeShapes Go.WideShapes Go.ChangeAt Go.RowKit

set_option maxRecDepth 100000 in
theorem pieces_lifted (os : Os) (started : os.Started) (H : Type) (enc : TypeId × Value → H) :
    ReturnsInHanded {} Tryz.checked os 3 .any (Rows.piecesSpec.pre6 enc Tryz.prog Tryz.f3 Rows.piecesRow.domain false) (Rows.piecesSpec.post enc Tryz.prog Tryz.f3 false true false false) := by
  refine returnsInHanded_of_change_sized (C := Tryz.checked) Tryz.own started (by kernel_rfl) Tryz.func3
    (ChangeSpec.witness6 (enc := enc) (C := Tryz.checked) false ⟨#[], #[.int .i64 0, .int .i64 0, .slice none 0 0, .int .i64 0, .slice none 0 0, .int .i64 0], []⟩ 8 (by kernel_rfl) (by kernel_rfl) (by kernel_rfl) (by kernel_rfl)) ?_
  intro W base args ds gs before hval0 hW _ _ _
  have hval : ∀ (j : Nat) t v, Tryz.f3.params[j]? = some t → args[j]? = some v → Value.okWide Tryz.prog W .any base t v := hval0
  have hW' := hW
  obtain ⟨p, q, hA0, hV, rfl, _, _⟩ := hW
  have hA : DataW.TrodAll enc Tryz.prog W 0 (fun _ => true) true Tryz.f3.params.toList args.toList ds p := hA0
  rw [Tryz.params3] at hA hval
  obtain ⟨v0, vs0, d0, ds0, p0, q0, hargs, rfl, rfl, h0, r0⟩ := trodAll_cons hA
  obtain ⟨v1, vs1, d1, ds1, p1, q1, rfl, rfl, rfl, h1, r1⟩ := trodAll_cons r0
  obtain ⟨v2, vs2, d2, ds2, p2, q2, rfl, rfl, rfl, h2, r2⟩ := trodAll_cons r1
  obtain ⟨v3, vs3, d3, ds3, p3, q3, rfl, rfl, rfl, h3, r3⟩ := trodAll_cons r2
  obtain ⟨v4, vs4, d4, ds4, p4, q4, rfl, rfl, rfl, h4, r4⟩ := trodAll_cons r3
  obtain ⟨v5, vs5, d5, ds5, p5, q5, rfl, rfl, rfl, h5, r5⟩ := trodAll_cons r4
  obtain ⟨rfl, rfl, rfl⟩ := trodAll_nil r5
  obtain rfl : args = #[v0, v1, v2, v3, v4, v5] := by cases args; simp_all
  obtain ⟨rfl, rfl⟩ := trodVars_none hV
  obtain ⟨a0, rfl, rfl, rfl, w0⟩ := open_int Tryz.underlying3 (hval 0 3 v0 rfl rfl) h0
  obtain ⟨a1, rfl, rfl, rfl, w1⟩ := open_int Tryz.underlying3 (hval 1 3 v1 rfl rfl) h1
  obtain ⟨a3, rfl, rfl, rfl, w3⟩ := open_int Tryz.underlying3 (hval 3 3 v3 rfl rfl) h3
  obtain ⟨a5, rfl, rfl, rfl, w5⟩ := open_int Tryz.underlying3 (hval 5 3 v5 rfl rfl) h5
  obtain ⟨xs, hi, hx, hl⟩ := open_nums (hval 2 22 v2 rfl rfl) h2
  obtain ⟨ys, hi2, hx2, hl2⟩ := open_nums (hval 4 22 v4 rfl rfl) h4
  clear hA0 hval0
  simp only [List.append_nil] at hW'
  have hlt : ∀ x ∈ p2, x.block < W.heap.size := fun x hx => by simpa using hW'.lt x (by simp [hx])
  have hlt4 : ∀ x ∈ p4, x.block < W.heap.size := fun x hx => by simpa using hW'.lt x (by simp [hx])
  refine (pieces_walk a0 a1 a3 a5 v2 v4 xs ys W (wf_i64 w0) (wf_i64 w1) (wf_i64 w3) (wf_i64 w5) hi hx hl hi2 hx2 hl2).mono fun e W' ⟨he, hg⟩ => ?_
  subst he
  have hb := below_of_grown hg
  refine ⟨_, rfl, _, _, _, [], [] ++ ([] ++ (p2 ++ ([] ++ (p4 ++ ([] ++ []))))), [], hW', ?_, ?_, rfl, hb.frame _, fun h => by cases h⟩
  · exact trodAll_cons_mk (shut_bool Tryz.underlying4 _) trodAll_mk0
  · exact trodAll_cons_mk (shut_int Tryz.underlying3 w0) (trodAll_cons_mk (shut_int Tryz.underlying3 w1) (trodAll_cons_mk (Below.trod Tryz.laidOut (by kernel_rfl) (of_decide_eq_true (by kernel_rfl)) h2 hb hlt) (trodAll_cons_mk (shut_int Tryz.underlying3 w3) (trodAll_cons_mk (Below.trod Tryz.laidOut (by kernel_rfl) (of_decide_eq_true (by kernel_rfl)) h4 hb hlt4) (trodAll_cons_mk (shut_int Tryz.underlying3 w5) trodAll_mk0)))))

theorem pieces_holds : Rows.PiecesSaid :=
  OpenClaim.holds_of_wide 3 Tryz.f3 rfl rfl rfl rfl rfl rfl rfl ⟨rfl, rfl, rfl, rfl, rfl⟩ rfl rfl rfl rfl rfl (by kernel_rfl) Tryz.func3 (by kernel_rfl)
    (of_decide_eq_true (by kernel_rfl)) (by unfold Func.isWrapper; first | (rw [if_pos (by decide +kernel)]; kernel_rfl) | (rw [if_neg (by decide +kernel)]; exact ⟨rfl, rfl⟩))
    (fun os started H enc _ => pieces_lifted os started H enc)
end Go.Proofs.YtdjmhagclcfnfabGreat
