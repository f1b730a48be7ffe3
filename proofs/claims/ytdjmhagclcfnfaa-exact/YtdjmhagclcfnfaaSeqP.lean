/- As Seq, for rounds that may give up by a panic, and for an iterator that tells in what world it ends. Of no program. -/
import Derived.Test.YtdjmhagclcfnfaaSeq2
namespace Go.Proofs.Ytdjmhagclcfnfaa
open Go.RowKit

variable {F : Fence} {n : Nat} {P : Program}

/-- What is asked at a round's end, a panic taken in. -/
def roundPostP (P : Program) (l : Nat) (R : Ending → World → Prop) : Exit → Act → World → Prop
  | .panic ch, a, w => a.defers = [] ∧ R (.panicked ch) w
  | e, a, w => roundPost P l R e a w

/-- A round out of its body's walk; the function is one of the program's. -/
theorem roundIn_of_wpIn_p {l : Nat} {f : FuncId} {fn : Func} {tmps : Array Value} {assign body : Code} {w : World} {R : Ending → World → Prop} (hf : P.funcs[f]? = some fn) (hF : F.fn f)
    (h : assign.wpIn (F.inRound l) n P (Exit.then (fun a₁ w₁ => ∃ w₂, (Instr.beginRound l).run P w₁ = .ok () w₂ ∧ body.wpIn (F.inRound l) n P (roundPostP P l R) a₁ w₂) (fun _ _ _ => False)) { tmps := tmps, defers := [] } w) :
    RoundIn F n P l f tmps assign body w R := by
  refine ⟨hF, fun c cs hr => ?_⟩
  obtain ⟨b, hb⟩ : ∃ b : Frame, b = { (default : Frame) with fn := f, kind := .normal, roundOf := some l } := ⟨_, rfl⟩
  have hbf : b.fn = f := by rw [hb]
  have hbr : b.roundOf = some l := by rw [hb]
  have hbk : b.kind = .normal := by rw [hb]
  have hb0 : Frame.round l f tmps assign body .normal = b.atR { tmps := tmps, defers := [] } [.code assign, .beginRound, .code body] := by
    rw [hb]
    simp [Frame.round, Frame.atR]
  have hr' : (F.inRound l).room ((c :: cs).length + 1 + n) := hr
  have hF' : (F.inRound l).fn b.fn := by rw [hbf]; exact hF
  clear hb
  obtain ⟨e, a₁, w₁, hq, harr⟩ := h b [.beginRound, .code body] (c :: cs) hbr hF' hr'
  rw [← hb0] at harr
  cases e with
  | normal =>
    obtain ⟨w₂, hbr2, hbody⟩ := hq
    have s1 : StepsIn (Machine.fenced P (F.inRound l)) P (lone (b.atR a₁ [.beginRound, .code body]) (c :: cs) w₁) (lone (b.atR a₁ [.code body]) (c :: cs) w₂) :=
      .one (fenced_calm (fr := b.atR a₁ [.beginRound, .code body]) hF' hr' rfl) (stepR_beginRound hbr hbr2)
    obtain ⟨e₂, a₂, w₃, hq₂, harr₂⟩ := hbody b [] (c :: cs) hbr hF' hr'
    have s0 := StepsIn.trans harr s1
    cases e₂ with
    | normal =>
      obtain ⟨v, w₄, hend, hR⟩ := hq₂
      exact ⟨.returned v, w₄, hR, s0.trans (StepsIn.trans harr₂ (.one (fenced_calm (fr := b.atR a₂ []) hF' hr' rfl) (stepR_round_end hbr hbk hend)))⟩
    | ret =>
      obtain ⟨v, w₄, hend, hR⟩ := hq₂
      obtain ⟨k₁, hs⟩ := harr₂.2 (by rw [hbr]; rfl)
      exact ⟨.returned v, w₄, hR, s0.trans (StepsIn.trans hs (.one (fenced_calm (fr := b.atR a₂ (.code .ret :: k₁)) hF' hr' rfl) (stepR_round_ret hbr hbk hend)))⟩
    | exit id =>
      obtain ⟨v, w₄, hend, hR⟩ := hq₂
      obtain ⟨k₁, hk, hs⟩ := harr₂.2 (by rw [hbr]; rfl) rfl
      exact ⟨.returned v, w₄, hR, s0.trans (StepsIn.trans hs (.one (fenced_calm (fr := b.atR a₂ (.code (.exit id) :: k₁)) hF' hr' rfl) (stepR_round_exit hbr hbk hk hend)))⟩
    | goto t =>
      obtain ⟨v, w₄, hend, hR⟩ := hq₂
      obtain ⟨k₁, hk, hs⟩ := harr₂.2 (by rw [hbr]; rfl) rfl
      exact ⟨.returned v, w₄, hR, s0.trans (StepsIn.trans hs (.one (fenced_calm (fr := b.atR a₂ (.code (.goto t) :: k₁)) hF' hr' rfl) (stepR_round_goto hbr hbk hk hend)))⟩
    | panic chain =>
      obtain ⟨hd, hR⟩ := hq₂
      obtain ⟨todo, hs⟩ := harr₂
      have hleave : ({ b.atR a₂ todo with mode := .panicking chain } : Frame).leaving P w₃ (.panicked chain) := ⟨rfl, hd, fn, by rw [← hf, ← hbf]; rfl⟩
      exact ⟨.panicked chain, w₃, hR, s0.trans (StepsIn.trans hs (.one (fenced_leaving hF' hr' hleave) (step_leave_panicked hleave)))⟩
    | outgrown => exact hq₂.elim
  | exit id => exact hq.elim
  | goto t => exact hq.elim
  | ret => exact hq.elim
  | panic chain => exact hq.elim
  | outgrown => exact hq.elim

/-- A walk in an activation of f alone. -/
def wpAt (F : Fence) (n : Nat) (P : Program) (f : FuncId) (c : Code) (Q : Exit → Act → World → Prop) (a : Act) (w : World) : Prop :=
  ∀ (b : Frame) (k : List Item) (cs : List Frame), b.fn = f → b.roundOf = F.round → F.fn b.fn → F.room (cs.length + 1 + n) →
    ∃ e a' w', Q e a' w' ∧ ArrivesIn (Machine.fenced P F) P (lone (b.atR a (.code c :: k)) cs w) b k cs e a' w'

variable {f : FuncId} {Q : Exit → Act → World → Prop} {a : Act} {w : World}

theorem wpAt_of {c : Code} (h : c.wpIn F n P Q a w) : wpAt F n P f c Q a w := fun b k cs _ h1 h2 h3 => h b k cs h1 h2 h3

theorem wpAt_seq {x y : Code} (h : wpAt F n P f x (Exit.then (wpAt F n P f y Q) Q) a w) : wpAt F n P f (.seq x y) Q a w := by
  intro b k cs hbf hro hb hr
  have h0 : (lone (b.atR a (.code (.seq x y) :: k)) cs w).fenced P F := fenced_calm hb hr rfl
  obtain ⟨e, a₁, w₁, hq, harr⟩ := h b (.code y :: k) cs hbf hro hb hr
  cases e with
  | normal =>
    obtain ⟨e₂, a₂, w₂, hq₂, harr₂⟩ := hq b k cs hbf hro hb hr
    exact ⟨e₂, a₂, w₂, hq₂, .of_steps (.head h0 stepR_seq harr) harr₂⟩
  | exit id => exact ⟨_, a₁, w₁, hq, .of_steps (.one h0 stepR_seq) (.pass (x := .code y) rfl (fun _ _ => .inl (by simp)) harr)⟩
  | goto l => exact ⟨_, a₁, w₁, hq, .of_steps (.one h0 stepR_seq) (.pass (x := .code y) rfl (fun _ _ => .inl (by simp)) harr)⟩
  | ret => exact ⟨_, a₁, w₁, hq, .of_steps (.one h0 stepR_seq) (.pass (x := .code y) rfl (fun _ _ => .inl (by simp)) harr)⟩
  | panic ch => exact ⟨_, a₁, w₁, hq, .of_steps (.one h0 stepR_seq) (.pass (x := .code y) rfl (fun _ _ => .inl (by simp)) harr)⟩
  | outgrown => exact ⟨_, a₁, w₁, hq, .of_steps (.one h0 stepR_seq) (.pass (x := .code y) rfl (fun _ _ => .inl (by simp)) harr)⟩
/-- The first part by its own walk. -/
theorem wpAt_seq_k {x y : Code} (h : ∀ K : Act → World → Prop, (∀ a w, wpAt F n P f y Q a w → K a w) → x.wpIn F n P (Exit.then K Q) a w) : wpAt F n P f (.seq x y) Q a w :=
  wpAt_seq (wpAt_of (h _ fun _ _ h => h))

theorem wpAt_block {id : Nat} {c : Code} (h : wpAt F n P f c (Exit.inBlock id Q) a w) : wpAt F n P f (.block id c) Q a w := by
  intro b k cs hbf hro hb hr
  have h0 : (lone (b.atR a (.code (.block id c) :: k)) cs w).fenced P F := fenced_calm hb hr rfl
  obtain ⟨e, a₁, w₁, hq, harr⟩ := h b (.inBlock id :: k) cs hbf hro hb hr
  have hg : ∀ l, gotoIn l (.inBlock id :: k) = gotoIn l k := fun l => by simp [gotoIn]
  cases e with
  | normal => exact ⟨.normal, a₁, w₁, hq, .head h0 stepR_block (StepsIn.trans harr (.one (fenced_calm hb hr rfl) stepR_inBlock))⟩
  | exit i =>
    by_cases hid : i = id
    · rw [Exit.inBlock, if_pos hid] at hq
      exact ⟨.normal, a₁, w₁, hq, .head h0 stepR_block (harr.1 k (by simp [exitTo, hid]))⟩
    · rw [Exit.inBlock, if_neg hid] at hq
      have hx : exitTo i (.inBlock id :: k) = exitTo i k := by
        have : (id == i) = false := by simpa using fun h : id = i => hid h.symm
        simp [exitTo, this]
      rw [ArrivesIn, hx] at harr
      exact ⟨.exit i, a₁, w₁, hq, fun k' hk => .head h0 stepR_block (harr.1 k' hk), fun hr' hk => let ⟨k₁, h1, h2⟩ := harr.2 hr' hk; ⟨k₁, h1, .head h0 stepR_block h2⟩⟩
  | goto l =>
    rw [ArrivesIn, hg] at harr
    exact ⟨_, a₁, w₁, hq, fun k' hk => .head h0 stepR_block (harr.1 k' hk), fun hr' hk => let ⟨k₁, h1, h2⟩ := harr.2 hr' hk; ⟨k₁, h1, .head h0 stepR_block h2⟩⟩
  | ret => exact ⟨_, a₁, w₁, hq, .of_steps (.one h0 stepR_block) harr⟩
  | panic ch => exact ⟨_, a₁, w₁, hq, .of_steps (.one h0 stepR_block) harr⟩
  | outgrown => exact ⟨_, a₁, w₁, hq, .of_steps (.one h0 stepR_block) harr⟩

theorem wpAt_rangeFunc {g : Operand} {ps : Array Tmp} {assign body : Code} (hFf : F.fn f)
    (h : ∃ (l : Nat) (mark : List Deferred) (w₁ : World) (d : Deferred) (w₁' : World) (g' : FuncId) (args : Array Value) (w₂ : World),
      (Instr.enterLoop f a.tmps ps assign body F.round).run P w = .ok (l, mark) w₁ ∧
      (resolve a.eval (rangeCall g l) 0).run P w₁ = .ok d w₁' ∧
      (∀ f', Target.leads P w₁' d.target d.args = some f' → F.fn f') ∧
      (invoke d.target d.args).run P w₁' = .ok (.enter g' args) w₂ ∧
      (F.depth.isSome = true → 1 ≤ n) ∧
      CallsIn F (n - 1) P g' args w₂ (rangePost F n P l Q { a with defers := mark ++ a.defers })) :
    wpAt F n P f (.rangeFunc g ps assign body) Q a w := by
  rintro b k cs rfl hro hb hr
  obtain ⟨l, mark, w₁, d, w₁', g', args, w₂, he, hres, hlead, hinv, hn, hF, hcall⟩ := h
  rw [← hro] at he
  have h0 : (lone (b.atR a (.code (.rangeFunc g ps assign body) :: k)) cs w).fenced P F := by
    refine fenced_lone (.inl hb) (fun f' hf' => hlead f' ?_) (Fence.room_le hr (by omega))
    have hev := Frame.eval_atR b a (.code (.rangeFunc g ps assign body) :: k)
    simp only [Frame.atR] at hev
    simp only [Frame.about, Frame.atR, he, hev, hres] at hf'
    exact hf'
  have henter := stepR_rangeFunc (P := P) (b := b) (a := a) (k := k) (cs := cs) (w := w) he hres hinv
  obtain ⟨A, hA⟩ : ∃ A : Act, A = { a with defers := mark ++ a.defers } := ⟨_, rfl⟩
  rw [← hA] at henter hcall
  have hroom : F.room ((b.atR A (.inRangeFunc l :: k) :: cs).length + 1 + (n - 1)) := Fence.room_enter hr hn
  obtain ⟨e, w₃, fr, hR, hsteps, hfn, hleave⟩ := hcall (b.atR A (.inRangeFunc l :: k) :: cs) hroom
  cases e with
  | outgrown =>
    obtain ⟨a₀, w₀, hq⟩ := hR
    exact ⟨.outgrown, a₀, w₀, hq, .inr (Outgrown.of_steps (.one henter) hsteps)⟩
  | returned v =>
    have hl : (lone fr (b.atR A (.inRangeFunc l :: k) :: cs) w₃).fenced P F := fenced_leaving (hfn ▸ hF) hroom hleave
    obtain ⟨jump, w₄, hend, hj⟩ := hR
    have sback : StepsIn (Machine.fenced P F) P (lone (b.atR a (.code (.rangeFunc g ps assign body) :: k)) cs w) (lone (b.atR A ((jump.map Item.code).toList ++ k)) cs w₄) := by
      refine .head h0 henter (StepsIn.trans hsteps (.head hl ?_ (.one (fenced_calm (fr := b.atR A (.endRangeFunc l :: k)) hb hr rfl) (stepR_endRangeFunc hend))))
      rw [← finish_atR_inRangeFunc l v]
      exact step_leave_returned hleave
    cases jump with
    | none => exact ⟨.normal, _, w₄, hj, sback⟩
    | some c =>
      obtain ⟨e', a'', w₅, hq, harr⟩ := hj b k cs hro hb hr
      exact ⟨e', a'', w₅, hq, .of_steps sback harr⟩
  | panicked chain =>
    have hl : (lone fr (b.atR A (.inRangeFunc l :: k) :: cs) w₃).fenced P F := fenced_leaving (hfn ▸ hF) hroom hleave
    refine ⟨.panic chain, _, w₃, hR, .inRangeFunc l :: k, .head h0 henter (StepsIn.trans hsteps (.one hl ?_))⟩
    rw [← Frame.raise_atR]
    exact step_leave_panicked hleave

/-- A function's contract from its body's walk in its own activation. -/
theorem callsIn_of_wpAt {fn : Func} {c : Code} {args : Array Value} {R : Ending → World → Prop}
    (hf : P.funcs[f]? = some fn) (hb : fn.body = some c) (hF : F.fn f)
    (h : wpAt F n P f c (bodyPostM F n P fn R) { tmps := args ++ Array.replicate (fn.ntmps - args.size) undef, defers := [] } w) (hro : F.round = none := by rfl) : CallsIn F n P f args w R := by
  refine ⟨hF, fun cs hr => ?_⟩
  obtain ⟨b, hbd⟩ : ∃ b : Frame, b = { (default : Frame) with fn := f, kind := .normal, roundOf := none } := ⟨_, rfl⟩
  have henter : Frame.enter P f args .normal = b.atR { tmps := args ++ Array.replicate (fn.ntmps - args.size) undef, defers := [] } [.code c] := by
    rw [hbd]
    simp [Frame.enter, Frame.atR, hf, hb]
  have hbf : b.fn = f := by rw [hbd]
  have hbr : b.roundOf = none := by rw [hbd]
  have hbk : b.kind = .normal := by rw [hbd]
  have hf' : P.funcs[b.fn]? = some fn := by rw [hbf]; exact hf
  have hFb : F.fn b.fn := by rw [hbf]; exact hF
  clear hbd
  obtain ⟨e, a', w', hq, harr⟩ := h b [] cs hbf (by rw [hbr, hro]) hFb hr
  rw [← henter] at harr
  have out : ∀ (m : FrameMode) (todo : List Item), LeavesInM F n P fn a'.tmps R a'.defers m w' → StepsIn (Machine.fenced P F) P (lone (Frame.enter P f args .normal) cs w) (lone { b.atR a' todo with mode := m } cs w') →
      ∃ e w'' fr, R e w'' ∧ ComesIn (Machine.fenced P F) P (lone (Frame.enter P f args .normal) cs w) (lone fr cs w'') e ∧ fr.fn = f ∧ fr.leaving P w'' e := by
    intro m todo hl hs₀
    obtain ⟨e', w'', fr', hR, hs, hfn, hl⟩ := leaves_stepsInM a'.defers m w' { b.atR a' todo with mode := m } cs rfl rfl rfl hf' hbk hFb hr hl
    exact ⟨e', w'', fr', hR, ComesIn.of_steps hs₀ hs, hfn.trans hbf, hl⟩
  cases e with
  | normal => exact out .returning [] hq (StepsIn.trans harr (.one (fenced_calm (fr := b.atR a' []) hFb hr rfl) (stepR_end hbr)))
  | ret =>
    obtain ⟨todo, hs₀⟩ := harr.1 hbr
    exact out .returning todo hq hs₀
  | panic chain =>
    obtain ⟨todo, hs₀⟩ := harr
    exact out (.panicking chain) todo hq hs₀
  | exit id => exact hq.elim
  | goto l => exact hq.elim
  | outgrown => exact ⟨.outgrown, w', b, hq, harr.resolve_left (by rw [hbk]; simp), hbf, trivial⟩

/-- THE ITERATOR's CONTRACT: as SeqC; a round may give up (Jp); Fin tells of the world too. -/
def SeqP {α : Type} (F : Fence) (n : Nat) (P : Program) (g : Nat) (lb : Array Value) (encs : α → Array Value) (K : Nat → Prop) (bi : Option Nat) (G : List α → α → Prop) (Fin : List α → World → Prop) (Stop : List α → Prop) (Pan : List PanicEntry → List α → Prop) (w : World) : Prop :=
  ∀ (l : Nat) (J Jx : List α → World → Prop) (Jp : List PanicEntry → List α → World → Prop) (W : World), Below w.heap.size w W → OwnIt bi W.heap.size J → OwnIt bi W.heap.size Jx → (∀ ch, OwnIt bi W.heap.size (Jp ch)) →
    (∀ pre x W1, J pre W1 → G pre x → YieldAt F (n - 1) P l (encs x) W1 fun e W' =>
      (e = .returned (.bool true) ∧ J (pre ++ [x]) W' ∧ KeptOn K W1 W') ∨ (e = .returned (.bool false) ∧ Jx (pre ++ [x]) W') ∨ (∃ ch, e = .panicked ch ∧ Jp ch (pre ++ [x]) W')) →
    J [] W →
    CallsIn F n P g (#[.func (.yield l) #[] #[]] ++ lb) W fun e W' =>
      (∃ v, e = .returned v ∧ ((∃ xs, Fin xs W' ∧ J xs W') ∨ (∃ pre, Stop pre ∧ Jx pre W'))) ∨ (∃ ch xs, e = .panicked ch ∧ ((Pan ch xs ∧ J xs W') ∨ (Stop xs ∧ Jp ch xs W')))

/-- How a round's body may be left. -/
def roundEndP {α : Type} (B : Nat) (K : Nat → Prop) (I : List α → World → Prop) (Ix : Code → List α → World → Prop) (Ip : List PanicEntry → List α → World → Prop) (xs : List α) (W : World) : Exit → Act → World → Prop
  | .panic ch, a, W' => a.defers = [] ∧ KeepsFrom B W W' ∧ Ip ch xs W'
  | e, a, W' => roundEnd B K I Ix xs W e a W'

theorem round_lawP {α : Type} {l D B : Nat} {KK : Nat → Prop} {m : Nat} {r : Loop} {args : Array Value} {W : World} {bi : Option Nat} {I : List α → World → Prop} {Ix : Code → List α → World → Prop} {Ip : List PanicEntry → List α → World → Prop} {Ax : Act → World → Prop} {pre xs : List α} {fnn : Func}
    (hfn : P.funcs[r.fn]? = some fnn) (hl : W.heap[l]? = some (.loop r)) (hD : W.heap[D]? = some (.deferred (some []))) (hst : r.state = .ready) (hps : args.size = r.params.size) (hF : F.fn r.fn) (hBl : B ≤ l) (hBD : B ≤ D) (hKK : ∀ k, KK k → k < B) (hDl : D ≠ l)
    (hI : OwnIt bi B I) (hIx : ∀ c, OwnIt bi B (Ix c)) (hAx : ∀ a', OwnIt bi B (fun (_ : Unit) W => Ax a' W))
    (hassign : ∀ K : Act → World → Prop, (∀ a' W', KeepsFrom B W W' → KeptOn KK W W' → I pre W' → Ax a' W' → K a' W') →
      r.assign.wpIn (F.inRound l) m P (Exit.then K (fun _ _ _ => False)) { tmps := (r.params.zip args).foldl (fun t (p, v) => t.setIfInBounds p v) r.tmps, defers := [] } W)
    (hbody : ∀ a' W', I pre W' → Ax a' W' → r.body.wpIn (F.inRound l) m P (roundEndP B KK I Ix Ip xs W') a' W') :
    YieldAt F m P l args W fun e W' =>
      (e = .returned (.bool true) ∧ (I xs W' ∧ W'.heap[l]? = some (.loop { r with state := .ready, pending := none }) ∧ W'.heap[D]? = some (.deferred (some []))) ∧ KeptOn KK W W') ∨
      (e = .returned (.bool false) ∧ ∃ c, Ix c xs W' ∧ W'.heap[l]? = some (.loop { r with state := .done, pending := some c }) ∧ W'.heap[D]? = some (.deferred (some []))) ∨
      (∃ ch, e = .panicked ch ∧ Ip ch xs W' ∧ W'.heap[D]? = some (.deferred (some []))) := by
  refine ⟨r.fn, _, r.assign, r.body, run_yield hl hps, roundIn_of_wpIn_p hfn hF (hassign _ ?_)⟩
  intro a' W1 hk1 hb1 hi1 hax
  have hl1 := hk1.same _ _ hBl hl rfl
  have hD1 := hk1.same _ _ hBD hD rfl
  refine ⟨_, run_beginRound hl1 hst, ?_⟩
  have hlt : l < W1.heap.size := (Array.getElem?_eq_some_iff.1 hl1).1
  generalize hW2 : W1.putObj l (.loop { r with state := .busy }) = W2
  have hl2 : W2.heap[l]? = some (.loop { r with state := .busy }) := by rw [← hW2]; exact World.putObj_heap_same hlt
  have hD2 : W2.heap[D]? = some (.deferred (some [])) := by rw [← hW2]; exact (World.putObj_heap_other hDl).trans hD1
  have hi2 : I pre W2 := by rw [← hW2]; exact hI.putObj _ hi1 hBl hl1 rfl
  have hax2 : Ax a' W2 := by rw [← hW2]; exact (hAx a').putObj (s := ()) _ hax hBl hl1 rfl
  have hnl : ¬ KK l := fun h => by have := hKK l h; omega
  have hb2 : KeptOn KK W W2 := by
    rw [← hW2]
    exact hb1.putObj hnl _
  clear hW2
  refine wpIn_mono (hbody a' W2 hi2 hax2) ?_
  have fin : ∀ (jump : Option Code) (W3 : World), KeepsFrom B W2 W3 →
      (Instr.endRound l jump).run P W3 = .ok (.bool jump.isNone) (W3.putObj l (.loop { r with state := if jump.isNone then .ready else .done, pending := jump })) ∧
      W3.heap[l]? = some (.loop { r with state := .busy }) ∧
      (W3.putObj l (.loop { r with state := if jump.isNone then .ready else .done, pending := jump })).heap[l]? = some (.loop { r with state := if jump.isNone then .ready else .done, pending := jump }) ∧
      (W3.putObj l (.loop { r with state := if jump.isNone then .ready else .done, pending := jump })).heap[D]? = some (.deferred (some [])) := fun jump W3 hk3 => by
    have hl3 := hk3.same _ _ hBl hl2 rfl
    have hrun := run_endRound (P := P) jump hl3
    exact ⟨hrun, hl3, World.putObj_heap_same (Array.getElem?_eq_some_iff.1 hl3).1, (World.putObj_heap_other hDl).trans (hk3.same _ _ hBD hD2 rfl)⟩
  rintro e a3 W3 hp
  cases e with
  | normal =>
    obtain ⟨hk3, hb3, hi3⟩ := hp
    obtain ⟨hr, hl3, hl4, hD4⟩ := fin none W3 hk3
    refine ⟨_, _, hr, .inl ⟨rfl, ⟨hI.putObj _ hi3 hBl hl3 rfl, hl4, hD4⟩, ?_⟩⟩
    exact (hb2.trans hb3).putObj hnl _
  | ret =>
    obtain ⟨hk3, hi3⟩ := hp
    obtain ⟨hr, hl3, hl4, hD4⟩ := fin (some .ret) W3 hk3
    exact ⟨_, _, hr, .inr (.inl ⟨rfl, .ret, (hIx _).putObj _ hi3 hBl hl3 rfl, hl4, hD4⟩)⟩
  | exit id =>
    obtain ⟨hk3, hi3⟩ := hp
    obtain ⟨hr, hl3, hl4, hD4⟩ := fin (some (.exit id)) W3 hk3
    exact ⟨_, _, hr, .inr (.inl ⟨rfl, .exit id, (hIx _).putObj _ hi3 hBl hl3 rfl, hl4, hD4⟩)⟩
  | goto t =>
    obtain ⟨hk3, hi3⟩ := hp
    obtain ⟨hr, hl3, hl4, hD4⟩ := fin (some (.goto t)) W3 hk3
    exact ⟨_, _, hr, .inr (.inl ⟨rfl, .goto t, (hIx _).putObj _ hi3 hBl hl3 rfl, hl4, hD4⟩)⟩
  | panic ch =>
    obtain ⟨hd, hk3, hi3⟩ := hp
    exact ⟨hd, .inr (.inr ⟨ch, rfl, hi3, hk3.same _ _ hBD hD2 rfl⟩)⟩
  | outgrown => exact hp.elim

/-- **THE STATEMENT**, in an activation of f, over an iterator with its contract. -/
theorem range_lawP {α : Type} {g : Operand} {ps : Array Tmp} {assign body : Code} {fnn : Func}
    (hfn : P.funcs[f]? = some fnn) (hFf : F.fn f) (hro : F.round = none) (h1 : 1 ≤ n) {gf : Nat} {lb : Array Value} (hg : a.eval g = .func (.func gf) #[] lb) (hFg : F.fn gf) (eg : ∀ args w, (callFunc gf args).run P w = .ok (.enter gf args) w)
    {encs : α → Array Value} {KK : Nat → Prop} {bi : Option Nat} {G : List α → α → Prop} {Fin : List α → World → Prop} {Stop : List α → Prop} {Pan : List PanicEntry → List α → Prop} {w0 : World} (hseq : SeqP F (n - 1) P gf lb encs KK bi G Fin Stop Pan w0)
    (hb0 : Below w0.heap.size w0 w) (hKK : ∀ k, KK k → k < w.heap.size) (hbi : ∀ b, bi = some b → b < w.heap.size) (hps : ∀ x, (encs x).size = ps.size)
    (I : List α → World → Prop) (Ix : Code → List α → World → Prop) (Ip : List PanicEntry → List α → World → Prop) (hI : OwnIt bi w.heap.size I) (hIx : ∀ c, OwnIt bi w.heap.size (Ix c)) (hIp : ∀ c, OwnIt bi w.heap.size (Ip c)) (hFin : OwnIt none w.heap.size Fin) (h0 : I [] w)
    (Ax : α → Act → World → Prop) (hAx : ∀ x a', OwnIt bi w.heap.size (fun (_ : Unit) W => Ax x a' W))
    (hassign : ∀ (l : Nat) (pre : List α) (x : α) (W : World) (K : Act → World → Prop), w.heap.size + 2 ≤ W.heap.size → I pre W → (∀ a' W', KeepsFrom w.heap.size W W' → KeptOn KK W W' → I pre W' → Ax x a' W' → K a' W') →
      assign.wpIn (F.inRound l) (n - 1 - 1) P (Exit.then K (fun _ _ _ => False)) { tmps := (ps.zip (encs x)).foldl (fun t (p, v) => t.setIfInBounds p v) a.tmps, defers := [] } W)
    (hbody : ∀ (l : Nat) (pre : List α) (x : α) (a' : Act) (W : World), I pre W → Ax x a' W → G pre x → body.wpIn (F.inRound l) (n - 1 - 1) P (roundEndP w.heap.size KK I Ix Ip (pre ++ [x]) W) a' W)
    (hdone : ∀ (D : Nat) (xs : List α) (W : World), w.heap.size ≤ D → Fin xs W → I xs W → W.heap[D]? = some (.deferred (some [])) → Q .normal (marked a D) W)
    (hstop : ∀ (D : Nat) (c : Code) (pre : List α) (W : World), w.heap.size ≤ D → Stop pre → Ix c pre W → W.heap[D]? = some (.deferred (some [])) → c.wpIn F n P Q (marked a D) W)
    (hpanic : ∀ (D : Nat) (ch : List PanicEntry) (xs : List α) (W : World), w.heap.size ≤ D → ((Pan ch xs ∧ I xs W) ∨ (Stop xs ∧ Ip ch xs W)) → W.heap[D]? = some (.deferred (some [])) → Q (.panic ch) (marked a D) W) :
    wpAt F n P f (.rangeFunc g ps assign body) Q a w := by
  refine wpAt_rangeFunc hFf ?_
  rw [hro]
  obtain ⟨L, hL⟩ : ∃ L : Loop, L = { state := .ready, pending := none, fn := f, tmps := a.tmps, params := ps, assign, body, defers := w.heap.size } := ⟨_, rfl⟩
  obtain ⟨W1, hW1⟩ : ∃ W1, (w.alloc (.deferred (some []))).alloc (.loop L) = W1 := ⟨_, rfl⟩
  have hs1 : W1.heap.size = w.heap.size + 2 := by rw [← hW1]; simp
  have hL1 : W1.heap[w.heap.size + 1]? = some (.loop L) := by
    rw [← hW1]; have := World.alloc_heap_new (w.alloc (.deferred (some []))) (.loop L); rwa [World.size_alloc] at this
  have hK1 : W1.heap[w.heap.size]? = some (.deferred (some [])) := by
    rw [← hW1]; exact (Below.heap_alloc _ _ _ (by simp)).trans (World.alloc_heap_new w _)
  have hI1 : I [] W1 := by rw [← hW1]; exact hI.alloc _ (hI.alloc _ h0)
  have hb1 : Below w0.heap.size w0 W1 := by
    rw [← hW1]; exact hb0.trans ((((Below.refl _ w).alloc (Nat.le_refl _) _).alloc (by simp) _).mono hb0.size)
  refine ⟨w.heap.size + 1, [{ target := .collected w.heap.size, args := #[] }], W1, { target := .fn (.func gf) lb, args := #[.func (.yield (w.heap.size + 1)) #[] #[]] }, W1, gf,
    #[.func (.yield (w.heap.size + 1)) #[] #[]] ++ lb, W1, ?_, ?_, ?_, ?_, fun _ => h1, ?_⟩
  · rw [← hW1, hL]; exact run_enterLoop_outer _ _ _ _ _
  · simp only [resolve, hg]
    simp [go_sem]
  · intro f' hf'; simp [Target.leads] at hf'; subst hf'; exact hFg
  · simp [invoke, go_sem, eg]
  · have hkeep : ∀ {A A' : World} {row : Option Nat} {k : Nat} {o : Obj}, A.grownBy A' row → ItRow bi W1.heap.size A row → A.heap[k]? = some o → o.isCells = false → k < w.heap.size + 2 → w.heap.size ≤ k → A'.heap[k]? = some o := by
      intro A A' row k o hg' hr hk ho hk2 hk3
      refine (hg'.block k (Array.getElem?_eq_some_iff.1 hk).1 (fun e => ?_)).trans hk
      rcases hr k e.symm with e2 | ⟨h2, _⟩
      · have := hbi k e2.symm; omega
      · omega
    have hlow : ∀ {A : World} {row : Option Nat}, ItRow bi W1.heap.size A row → ItRow bi w.heap.size A row :=
      fun hr r e => (hr r e).imp id (fun ⟨h2, h3⟩ => ⟨by omega, h3⟩)
    refine (hseq (w.heap.size + 1)
      (fun pre W => (I pre W ∧ W.heap[w.heap.size + 1]? = some (.loop L) ∧ W.heap[w.heap.size]? = some (.deferred (some []))) ∧ w.heap.size + 2 ≤ W.heap.size)
      (fun pre W => ∃ c, Ix c pre W ∧ W.heap[w.heap.size + 1]? = some (.loop { L with state := .done, pending := some c }) ∧ W.heap[w.heap.size]? = some (.deferred (some [])))
      (fun ch pre W => Ip ch pre W ∧ W.heap[w.heap.size]? = some (.deferred (some [])))
      W1 hb1
      (fun s A A' row hs hg' hr => ⟨⟨hI s A A' row hs.1.1 hg' (hlow hr), hkeep hg' hr hs.1.2.1 rfl (by omega) (by omega), hkeep hg' hr hs.1.2.2 rfl (by omega) (by omega)⟩, Nat.le_trans hs.2 hg'.size⟩)
      (fun s A A' row hs hg' hr => by
        obtain ⟨c, hc, hl, hk⟩ := hs
        exact ⟨c, hIx c s A A' row hc hg' (hlow hr), hkeep hg' hr hl rfl (by omega) (by omega), hkeep hg' hr hk rfl (by omega) (by omega)⟩)
      (fun ch s A A' row hs hg' hr => ⟨hIp ch s A A' row hs.1 hg' (hlow hr), hkeep hg' hr hs.2 rfl (by omega) (by omega)⟩)
      ?_ ⟨⟨hI1, hL1, hK1⟩, by omega⟩).mono ?_
    · rintro pre x W ⟨⟨hi, hl, hk⟩, hsz⟩ hG
      have hr := round_lawP (F := F) (P := P) (m := n - 1 - 1) (args := encs x) (B := w.heap.size) (KK := KK) (Ax := Ax x) (pre := pre) (xs := pre ++ [x]) (I := I) (Ix := Ix) (Ip := Ip) (bi := bi)
        (by rw [hL]; exact hfn) hl hk (by rw [hL]) (by rw [hL]; exact hps x) (by rw [hL]; exact hFf) (by omega) (by omega) hKK (by omega) hI hIx (hAx x)
        (by rw [hL]; exact fun K hK => hassign _ pre x W K hsz hi hK) (by rw [hL]; exact fun a' W' h2 h3 => hbody _ pre x a' W' h2 h3 hG)
      rw [show ({ L with state := .ready, pending := none } : Loop) = L by rw [hL]] at hr
      obtain ⟨f0, t0, as0, bd0, hy0, hr0⟩ := hr
      have hz : ∀ A : World, A.heap[w.heap.size + 1]? = some (.loop L) → w.heap.size + 2 ≤ A.heap.size := fun A h => by have := (Array.getElem?_eq_some_iff.1 h).1; omega
      refine ⟨f0, t0, as0, bd0, hy0, hr0.mono ?_⟩
      rintro e W' (⟨he, h1, h2⟩ | h | h)
      · exact .inl ⟨he, ⟨h1, hz _ h1.2.1⟩, h2⟩
      · exact .inr (.inl h)
      · exact .inr (.inr h)
    · rintro e W2 (⟨v, rfl, (⟨xs, hS, ⟨hi, hl, hk⟩, -⟩ | ⟨pre, hSp, c, hi, hl, hk⟩)⟩ | ⟨ch, xs, rfl, (⟨hP, ⟨hi, hl, hk⟩, -⟩ | ⟨hP, hi, hk⟩)⟩)
      · exact ⟨none, _, by have := run_endLoop (P := P) hl (by rw [hL]; simp); rw [hL] at this; exact this, hdone _ xs _ (Nat.le_refl _) (hFin.putObj _ hS (by omega) hl rfl) (hI.putObj _ hi (by omega) hl rfl) ((World.putObj_heap_other (by omega)).trans hk)⟩
      · exact ⟨some c, _, by have := run_endLoop (P := P) hl (by simp); exact this, hstop _ c pre _ (Nat.le_refl _) hSp ((hIx c).putObj _ hi (by omega) hl rfl) ((World.putObj_heap_other (by omega)).trans hk)⟩
      · exact hpanic _ ch xs W2 (Nat.le_refl _) (.inl ⟨hP, hi⟩) hk
      · exact hpanic _ ch xs W2 (Nat.le_refl _) (.inr ⟨hP, hi⟩) hk
end Go.Proofs.Ytdjmhagclcfnfaa
