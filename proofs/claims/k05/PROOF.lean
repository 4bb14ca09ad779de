import PyProof.Rows.All
import Wide.All
import OpenK.AllK
import Wide.FinOn
import HandS.ForMost
import HandS.IsInst
import HandS.Style
import HandS.Set
import HandS.Strs
import HandS.SetBool
import HandS.SetFor
import PySem.Challenge.RW_ringproofs_k05_trees_by_their_sizes
import HandS.Zip
import HandS.Deep
import HandS.Flow
import PyProof.Rows.RegFStrParts
import HandS.FStr
import HandS.Text
import HandS.CallLocal
import HandS.Codes
import PyProof.StrLaws
import HandS.More
import HandS.SortInts
import KE.SortKeyHeap
import HandS.SortKw
import HandS.Iter
import HandS.ExcValue
import PyProof.Rows.StrMeet
import KE.DataFind
import OpenK.KMore
set_option Elab.async false
set_option linter.all false
set_option maxRecDepth 100000
set_option maxHeartbeats 4000000
/-! Two rules that the layer lacks: a comprehension that makes a set of ints, and set(xs) of a list of ints whose table is known well enough to be sorted afterwards. -/
namespace Rp
open PySem PySem.Spec PyProof.Rows L2 PpSet

section addi
variable {X : Cx}
/-- an int goes into a tracked set of ints -/
theorem putInt {pins : List (Addr × Obj)} {σ : L2.St} {H : Hp} {s : Shared} {E : Value → Shared → Prop} {D : Addr} {S : Int → Bool} {n : Nat} {y : Int} {t : Tok} {Q : Value → Shared → Prop}
    (I : Inv X pins σ H s) (hD : H D = some (SetO X.w D S n)) (few : n + 1 < scanBound)
    (go : ∀ s', Inv X pins σ (upd H D (SetO X.w D (fun j => S j || decide (j = y)) (if S y = true then n else n + 1))) s' → Q .none s') :
    wpAny (model X.prog X.w) X.A (call (.builtin "set.add") [.ref D, .int y t]) Q E s :=
  setR_add (setO_get I hD) few fun h' same now =>
    have there : ∃ u, h'.get? D = some u := let ⟨o, _, _, _, ho, _⟩ := now; ⟨o, ho⟩
    go _ (I.write (e := D) (t' := s.toks + 1) (by rw [hD]; trivial) (.inl rfl) (fun b u ne hu => (same.2 b ne).trans hu) there (setO_new now))

/-- what {e for x in .. if ..} asks where e is an int -/
def tScI (w : World) (wi : TI) (g : TG) (tt : TT) (te : TE) (vs : List Nat) : TE := fun σ H Q => wi σ H fun J H1 => ∀ D, H1 D = none →
  ∃ W : Nat → Nat → Hp → Prop, (∃ m, W 0 m (upd H1 D (SetO w D (fun _ => false) 0))) ∧ ∀ i m H, W i m H → (J.stop i H ∧ Q (.ref D) H) ∨
    (J.go i H ∧ ∃ Nx : Hp → Prop, (∀ H', Nx H' → ∃ m', m' < m ∧ W (i + 1) m' H') ∧ ∀ x H', J.yld i H x H' → g x (wipe σ vs) H' fun σ2 H2 => wipe σ2 vs = wipe σ vs ∧
      tt σ2 H2 fun b H3 => if b = true then te σ2 H3 fun y H4 => ∃ (k : Int) (S : Int → Bool) (n : Nat), y = .int k ∧ H4 D = some (SetO w D S n) ∧ n + 1 < scanBound ∧
        Nx (upd H4 D (SetO w D (fun j => S j || decide (j = k)) (if S k = true then n else n + 1))) else Nx H3)

abbrev emptySet (w : World) : Obj := { cls := .type "set", dict := none, data := .set #[] 0 (.fresh 0 0 (!w.params.followText "set-order")) }

theorem pe_scI {elt tg iter : Expr} {ifs : List Expr} {scope : Scope} {own : List (PySem.Str × Nat)} {pos : Pos} {wi : TI} {g : TG} {tt : TT} {te : TE}
    (hc : X.calm = true) (hN : X.N.Nodup) (hi : PI X tg iter wi) (ok : BlkOk X.N X.env.scope scope own)
    (hg : ∀ (s : Shared) (H : Hp) (C : Addr) (cl : List (PySem.Str × Addr)) (fp : List Addr), PG (X.blk s H scope (compEnvC scope cl C X.env) fp) tg g)
    (ht : ∀ (s : Shared) (H : Hp) (C : Addr) (cl : List (PySem.Str × Addr)) (fp : List Addr), PTs (X.blk s H scope (compEnvC scope cl C X.env) fp) ifs tt)
    (he : ∀ (s : Shared) (H : Hp) (C : Addr) (cl : List (PySem.Str × Addr)) (fp : List Addr), PE (X.blk s H scope (compEnvC scope cl C X.env) fp) elt te)
    (hs : ∀ x, foldedSetIterable iter X.env x = pure x := by intro _; rfl) :
    PE X (.SetComp elt [⟨tg, iter, ifs, 0⟩] scope pos) (tScI X.w wi g tt te (own.map (·.2))) := by
  refine ⟨fun pins s σ H Q I h => ?_⟩
  rw [eval_SetComp]
  have caught : ∀ y ∈ scope.names, y.2 = .free → ∃ c, X.env.cells.lookup y.1 = some c := fun y hy e =>
    (ok.free y hy e).elim (fun k => I.ok.has _ (.inl k)) fun k => I.ok.has _ (.inr k)
  refine wpAny_comprehension_free (use := none) rfl hs (closure_ok caught) ok.kind (fun y hy e => (ok.uniq y hy).trans (by rw [e])) (thn (hi.run pins s σ H _ I h) fun xv s1 hx => thn hx fun itv s2 h2 => ?_)
  obtain ⟨it, fp, tn, J, H2, rfl, I2, T, st2, f2, q⟩ := h2
  refine newSet_ok (newEnv_comp ?_)
  -- the new set's place
  obtain ⟨D, hD⟩ : ∃ D, s2.heap.objs.size = D := ⟨_, rfl⟩
  rw [hD]
  obtain ⟨W, ⟨m0, w0⟩, turn⟩ := q D (I2.hok.fresh (Nat.le_of_eq hD))
  obtain ⟨s3, hs3⟩ : ∃ s3 : Shared, { s2 with heap := s2.heap.push (emptySet X.w) } = s3 := ⟨_, rfl⟩
  have h3 : s3.heap = s2.heap.push (emptySet X.w) := by rw [← hs3]
  have I3 : Inv X pins σ (upd H2 D (SetO X.w D (fun _ => false) 0)) s3 := by
    have z := I2.laid (a := D) (o := SetO X.w D (fun _ => false) 0) (t' := s2.toks) (h' := s2.heap.push (emptySet X.w)) (fun b o e => Heap.get?_push_of_some _ e) (Nat.le_of_eq hD) (by rw [← hD]; exact setO_new (setR_fresh X.w))
    exact hs3 ▸ z
  have low : ∀ b ∈ fp, b < s2.heap.objs.size := fun b hb => let ⟨o, e, _⟩ := T.obj _ _ st2 b hb; Heap.lt_size e
  have f3 : ∀ b ∈ fp, FpOk X pins (upd H2 D (SetO X.w D (fun _ => false) 0)) b ∧ b < s3.heap.objs.size := fun b hb =>
    ⟨⟨(upd_ne (by rw [← hD]; exact Nat.ne_of_lt (low b hb))).trans (f2 b hb).1, (f2 b hb).2⟩, by rw [h3, Heap.size_push]; exact Nat.lt_succ_of_lt (low b hb)⟩
  have st3 : tn 0 s3.heap := T.keep _ _ _ st2 fun b _ o e => h3 ▸ Heap.get?_push_of_some _ e
  have I4 := block_start I3 ok hN f3
  obtain ⟨H3, hH3⟩ : ∃ H3, upd H2 D (SetO X.w D (fun _ => false) 0) = H3 := ⟨_, rfl⟩
  rw [hH3] at I3 f3 I4 w0
  obtain ⟨C, hC⟩ : ∃ C, s3.heap.objs.size = C := ⟨_, rfl⟩
  rw [hC] at I4
  have pg := hg s3 H3 C (cellsFrom (C + 1) scope.names (cloFrom X.env.cells scope.names [])) fp
  have pt := ht s3 H3 C (cellsFrom (C + 1) scope.names (cloFrom X.env.cells scope.names [])) fp
  have pe := he s3 H3 C (cellsFrom (C + 1) scope.names (cloFrom X.env.cells scope.names [])) fp
  subst hs3
  have hC' : (s2.heap.push (emptySet X.w)).objs.size = C := hC
  show codeAny _ _ (.compStart (.SetComp elt [⟨tg, iter, ifs, 0⟩] scope pos) 0 (.ref it) (.ref D) (compEnvC scope (cellsFrom ((s2.heap.push (emptySet X.w)).objs.size + 1) scope.names (cloFrom X.env.cells scope.names [])) (s2.heap.push (emptySet X.w)).objs.size X.env))
    (compPost (model X.prog X.w) X.A X.xe none (EP X pins σ Q) (.ref D) (s2.heap.push (emptySet X.w)).objs.size) { s2 with heap := pushCells ((s2.heap.push (emptySet X.w)).push { cls := .type "dict", data := .dict #[] }) scope.names }
  rw [hC']
  obtain ⟨ce, hce⟩ : ∃ ce, compEnvC scope (cellsFrom (C + 1) scope.names (cloFrom X.env.cells scope.names [])) C X.env = ce := ⟨_, rfl⟩
  rw [hce] at I4 pg pt pe ⊢
  have cL : ce.locals = C := by subst hce; rfl
  obtain ⟨s4, hs4⟩ : ∃ s4 : Shared, { s2 with heap := pushCells ((s2.heap.push (emptySet X.w)).push { cls := .type "dict", data := .dict #[] }) scope.names } = s4 := ⟨_, rfl⟩
  have I4 : Inv (X.blk _ H3 scope ce fp) [] (wipe σ (own.map (·.2))) H3 s4 := hs4 ▸ I4
  rw [hs4]
  have st4 : tn 0 s4.heap := T.keep _ _ _ st3 fun b _ o e => by rw [← hs4]; exact pushCells_keeps _ _ _ _ (Heap.get?_push_of_some _ e)
  obtain ⟨Y, hY⟩ : ∃ Y, X.blk { s2 with heap := s2.heap.push (emptySet X.w) } H3 scope ce fp = Y := ⟨_, rfl⟩
  have rest : ∀ {σ' : L2.St} {H' : Hp} {s' : Shared}, Inv Y [] σ' H' s' → (∀ b ∈ fp, H' b = none) → ∀ b ∈ fp, FpOk Y [] H' b := by
    subst hY
    intro σ' H' s' I' hn b hb
    exact ⟨hn b hb, (I'.ok.exf b hb).1, I'.ok.exfs b hb, .inl hb, fun x c e => (I'.ok.exf b hb).2 x c e, fun p hp => absurd (show p ∈ ([] : List (Addr × Obj)) ++ [] from hp) (by simp)⟩
  have round : codeAny (model X.prog X.w) X.A (.compLoop (.SetComp elt [⟨tg, iter, ifs, 0⟩] scope pos) 0 (.ref it) (.ref D) ce) (compPost (model X.prog X.w) X.A X.xe none (EP X pins σ Q) (.ref D) C) s4 := by
    refine compLoopS_any (fun n s' => ∃ i H', Inv Y [] (wipe σ (own.map (·.2))) H' s' ∧ tn i s'.heap ∧ (∀ b ∈ fp, H' b = none) ∧ W i n H') ?_ m0 ⟨0, H3, hY ▸ I4, st4, fun b hb => (f3 b hb).1.1, w0⟩
    rintro n s5 ⟨i, H5, I5, st5, n5, w5⟩
    rcases turn i n H5 w5 with ⟨stop, qq⟩ | ⟨go, Nx, hNx, step⟩
    · subst hY
      refine thnF (T.done (X.blk _ H3 scope ce fp) rfl rfl rfl hc i [] s5 _ H5 (fun _ _ => False) I5 (rest I5 n5) st5 stop) fun r s6 ⟨hr, I6⟩ => ?_
      subst hr
      have I7 : Inv X pins σ H5 s6 := I3.call' (ch := fp) I6.os I6.base I6.hok I6.bare fun b hb => ⟨(f3 b hb).1.2.2.2.1, (f3 b hb).1.2.1, (f3 b hb).1.2.2.2.2.1, (f3 b hb).1.2.2.2.2.2⟩
      have nC : H5 C = none := cL ▸ (show H5 ce.locals = none from I6.free)
      obtain ⟨m, hn, _⟩ := I6.loc
      have hn : s6.heap.Ns C m := cL ▸ (show s6.heap.Ns ce.locals m from hn)
      refine ⟨m, hn, fun h'' sb => ?_⟩
      obtain ⟨g0, g1, g2, g3, g4, g5⟩ := I3.fpOk (Nat.le_of_eq hC) nC
      exact ⟨.ref D, H5, I7.turned (t' := s6.toks) (fun b o hb e => (sb.2 b hb).trans e) g0 g1 g3 g4 g5, rfl, qq⟩
    · have ti := T.item Y (by subst hY; rfl) (by subst hY; rfl) (by subst hY; rfl) (by subst hY; exact hc) i [] s5 _ H5 (fun _ _ => False) I5 (rest I5 n5) st5 go
      subst hY
      refine thnF ti fun r s6 ⟨u, hr, h6⟩ => ?_
      subst hr
      refine thnF h6 fun _ s7 ⟨x, H7, I7, r7, y7, st7, n7⟩ => ?_
      refine thnF (pg.run _ s7 _ H7 x u _ (I7.pinned (rest I7 n7) (T.obj _ _ st7)) r7 (step x H7 y7)) fun _ s8 ⟨σ8, H8, I8, hw8, q8⟩ => ?_
      refine thnF (pt.run _ s8 σ8 H8 _ I8 q8) fun b s9 ⟨H9, I9, q9⟩ => ?_
      have turned : ∀ {s' : Shared} {H' : Hp}, Inv (X.blk { s2 with heap := s2.heap.push (emptySet X.w) } H3 scope ce fp) ([] ++ pinsAt fp s7.heap) σ8 H' s' → Nx H' → ∃ m, m < n ∧ ∃ i H', Inv (X.blk { s2 with heap := s2.heap.push (emptySet X.w) } H3 scope ce fp) [] (wipe σ (own.map (·.2))) H' s' ∧ tn i s'.heap ∧ (∀ b ∈ fp, H' b = none) ∧ W i m H' := by
        intro s' H' I' nx
        obtain ⟨m', hm, w'⟩ := hNx H' nx
        have pin : ∀ b ∈ fp, ∀ o, s7.heap.get? b = some o → s'.heap.get? b = some o ∧ H' b = none := fun b hb o e =>
          let z := I'.pin (b, o) (List.mem_append_right _ (List.mem_append_right _ (mem_pinsAt hb e))); ⟨z.1, z.2.1⟩
        refine ⟨m', hm, i + 1, H', (I'.unpinned (pins := [])).weak (by rw [← hw8, wipe_length]) (fun j v e => (wipe_some (by rw [hw8]; exact e)).1), T.keep _ _ _ st7 fun b hb o e => (pin b hb o e).1, fun b hb => ?_, w'⟩
        obtain ⟨o, e, _⟩ := T.obj _ _ st7 b hb
        exact (pin b hb o e).2
      cases b with
      | false => simp only [Bool.false_eq_true, if_false] at q9 ⊢; exact turned I9 q9
      | true =>
        simp only [if_true] at q9 ⊢
        refine thnF (pe.run _ s9 σ8 H9 _ I9 q9) fun z s10 ⟨yv, H10, I10, r10, k, S0, n0, ey, hD10, few, nx⟩ => ?_
        subst ey
        obtain ⟨t, rfl⟩ := r10
        exact putInt (X := X.blk _ H3 scope ce fp) I10 hD10 few fun s11 I11 => turned I11 nx
  exact codeAny_compStart_set round (T.self X.A 0 _ _ _ st4 round)

/-- the walk over a list that the block leaves as it is -/
theorem scI_list {w : World} {K : PySem.W.Frag} {a : Addr} {xs : List V} {g : TG} {tt : TT} {te : TE} {vs : List Nat} {σ : L2.St} {H1 : Hp} {D : Addr} {Qd : Hp → Prop}
    (Pv : Nat → Hp → Prop) (h0 : Pv 0 (upd H1 D (SetO w D (fun _ => false) 0))) (hl : ∀ i H, i ≤ xs.length → Pv i H → SqL K H a xs)
    (hs : ∀ i x H, xs[i]? = some x → Pv i H → g x (wipe σ vs) H fun σ2 H2 => wipe σ2 vs = wipe σ vs ∧ tt σ2 H2 fun b H3 => if b = true then te σ2 H3 fun y H4 =>
      ∃ (k : Int) (S : Int → Bool) (n : Nat), y = .int k ∧ H4 D = some (SetO w D S n) ∧ n + 1 < scanBound ∧ Pv (i + 1) (upd H4 D (SetO w D (fun j => S j || decide (j = k)) (if S k = true then n else n + 1))) else Pv (i + 1) H3)
    (hd : ∀ H, Pv xs.length H → Qd H) :
    ∃ W : Nat → Nat → Hp → Prop, (∃ m, W 0 m (upd H1 D (SetO w D (fun _ => false) 0))) ∧ ∀ i m H, W i m H → ((Itl K a).stop i H ∧ Qd H) ∨
      ((Itl K a).go i H ∧ ∃ Nx : Hp → Prop, (∀ H', Nx H' → ∃ m', m' < m ∧ W (i + 1) m' H') ∧ ∀ x H', (Itl K a).yld i H x H' → g x (wipe σ vs) H' fun σ2 H2 => wipe σ2 vs = wipe σ vs ∧
        tt σ2 H2 fun b H3 => if b = true then te σ2 H3 fun y H4 => ∃ (k : Int) (S : Int → Bool) (n : Nat), y = .int k ∧ H4 D = some (SetO w D S n) ∧ n + 1 < scanBound ∧
          Nx (upd H4 D (SetO w D (fun j => S j || decide (j = k)) (if S k = true then n else n + 1))) else Nx H3) := by
  refine ⟨fun i m H => m + i = xs.length ∧ Pv i H, ⟨xs.length, by simp, h0⟩, ?_⟩
  rintro i m H ⟨em, p⟩
  have here := hl i H (by omega) p
  rcases Nat.lt_or_ge i xs.length with lt | ge
  · refine .inr ⟨⟨xs, xs[i], here, by simp [lt]⟩, Pv (i + 1), fun H' p' => ⟨m - 1, by omega, by omega, p'⟩, fun x H' ⟨e, y⟩ => ?_⟩
    subst e
    exact hs i x _ (y xs here) p
  · have e : i = xs.length := by omega
    subst e
    exact .inl ⟨⟨xs, here, Nat.le_refl _⟩, hd H p⟩
end addi
end Rp

namespace Rp
open PySem PySem.Spec PyProof.Rows L2 PpSet
section
variable {P : Program} {w : World} {A : Around} {E : Value → Shared → Prop} {s : Shared}
set_option maxHeartbeats 6400000 in
theorem set_of_list {l : Addr} {items : Array Value} (ns : List Int) {Q : Value → Shared → Prop} (calm : A.handled = none) (hl : s.heap.IsList l items) (hi : IntsAre items.toList ns) (few : ns.length + 1 < scanBound)
    (go : ∀ (h' : Heap) (tk c : Nat), SetR w h' s.heap.objs.size (fun j => decide (j ∈ ns)) c → c ≤ ns.length → (∀ b o, s.heap.get? b = some o → h'.get? b = some o) → Q (.ref s.heap.objs.size) { s with heap := h', toks := tk }) :
    wpAny (model P w) A (call (.type "set") [.ref l]) Q E s := by
  have cnt : items.size = ns.length := by have q := IntsAre.length hi; rwa [Array.length_toList] at q
  obtain ⟨c, tl, hmro⟩ := F.called_set.mro
  have hmade := F.called_set.made
  have hsub := F.called_set.sub
  refine wpAny_call (codeAny_of_tree ?_)
  show wpAny _ _ (callAny (.type "set") _) _ _ _
  refine wpAny_pure ⟨Code.quiet_builtin _ (by decide +kernel), codeAny_builtin F.entry_type_call ?_⟩
  rw [Around.under_plain (weight_type_call_type "set" [.ref l] []) rfl]
  have h1 := F.called_set.notType
  have h2 := F.called_set.canCreate
  have hct := F.typeCall_set_1 (.ref l)
  repeat (any_goals (first | assumption | wp_step))
  refine codeAny_mono (code_set_led1 (.ref l) (E := E) (Q₁ := fun obj z => obj = .ref s.heap.objs.size ∧ z = { s with heap := s.heap.push (emptySet w) }) ⟨rfl, rfl⟩) fun r s₁ hr => ?_
  cases r with
  | error e => exact hr
  | ok fl =>
    cases fl with
    | ret obj =>
      obtain ⟨rfl, rfl⟩ := hr
      have atNew : (s.heap.push (emptySet w)).get? s.heap.objs.size = some (emptySet w) := Heap.get?_push_size _ rfl
      have hT : Shared.TypeIs { s with heap := s.heap.push (emptySet w) } (.ref s.heap.objs.size) "set" := ⟨_, atNew, rfl⟩
      have hli := F.called_set.init.lookup
      have hbi := F.called_set.init.bind (.ref s.heap.objs.size)
      repeat (any_goals (first | assumption | wp_step))
      refine codeAny_mono (codeAny_call_builtin (R := wants (fun r z => r = .none ∧ ∃ h' tk c, z = { s with heap := h', toks := tk } ∧ SetR w h' s.heap.objs.size (fun j => decide (j ∈ ns)) c ∧ c ≤ ns.length ∧
        (∀ b o, s.heap.get? b = some o → h'.get? b = some o)) E) F.called_set.init.plain F.entry_set_init (check_set_init_1 hT ?_)) fun r₂ s₂ hr₂ => ?_
      · obtain ⟨⟨ocls, odict, odata, oslots⟩, hol, hcl, nl, hdl⟩ := hl
        simp only at hcl hdl
        subst hcl hdl
        have hol' : (s.heap.push (emptySet w)).get? l = some { cls := .type "list", dict := odict, data := .seq items nl, slots := oslots } := Heap.get?_push_of_some _ hol
        have hsls := F.sub_list_set
        have hslf := F.sub_list_frozenset
        have hne : (Value.type "list" == Value.type "dict") = false := by decide
        have here : (s.heap.push (emptySet w)).IsList l items := ⟨_, hol', rfl, nl, rfl⟩
        unfold Builtin.«set.__init__» noKeywords Builtin.Frozenset.updateFrom
        generalize hPI : pyIter = PI
        wp_walk
        subst hPI
        refine wpAny_pyIter_list here (wpAny_bind (wpAny_runValue ?_))
        have below : l < s.heap.objs.size := Heap.lt_size hol
        have top : (s.heap.push (emptySet w)).objs.size = s.heap.objs.size + 1 := Heap.size_push ..
        have apart : l ≠ (s.heap.push (emptySet w)).objs.size := by rw [top]; exact Nat.ne_of_lt (Nat.lt_succ_of_lt below)
        have out : s.heap.objs.size ∉ [(s.heap.push (emptySet w)).objs.size, l] := by
          simp only [List.mem_cons, List.not_mem_nil, or_false, not_or, top]
          exact ⟨Nat.ne_of_lt (Nat.lt_succ_self _), Nat.ne_of_gt below⟩
        have each : ∀ (i : Nat) (v : Value), items[i]? = some v → ∃ k t, ns[i]? = some k ∧ v = .int k t := by
          intro i v hv
          have lt : i < ns.length := by rw [← cnt]; exact (Array.getElem?_eq_some_iff.mp hv).1
          obtain ⟨t, e⟩ := PyProof.Rows.IntsAre.int_at hi i v (by rw [Array.getElem?_toList]; exact hv)
          exact ⟨ns[i], t, List.getElem?_eq_getElem lt, by rw [e, List.getD_eq_getElem?_getD, List.getElem?_eq_getElem lt]; rfl⟩
        refine set_update_ints ((Walks.list (by simp [calm]) _ l apart items).toS) s.heap.objs.size out ns cnt few each (items.size - 0) 0 _ (by omega) (Nat.zero_le _)
          ⟨⟨_, Heap.get?_push_size _ rfl, rfl, rfl⟩, here.push _⟩ ⟨0, Nat.le_refl 0, setR_new_at (Heap.get?_push_of_some _ atNew)⟩ fun s' c' hm hc' hS' => ?_
        obtain ⟨h', g2, d', tk', os'⟩ := s'
        have eg : g2 = s.gens := hm.gens
        have ed : d' = s.drawn := hm.drawn
        have eo : os' = s.os := hm.os
        subst eg ed eo
        show wpAny _ _ _ _ _ _
        refine wpAny_pure ?_
        show wpAny _ _ (ret Value.none) _ _ _
        refine wpAny_pure ⟨rfl, h', tk', c', rfl, hS', by omega, fun b o e => ?_⟩
        have lt := Heap.lt_size e
        exact hm.heap b o (by simp only [List.mem_cons, List.not_mem_nil, or_false, not_or, top]; exact ⟨Nat.ne_of_lt lt, Nat.ne_of_lt (Nat.lt_succ_of_lt lt)⟩) (Heap.get?_push_of_some _ (Heap.get?_push_of_some _ e))
      · cases r₂ with
        | error e => exact hr₂
        | ok fl₂ =>
          cases fl₂ with
          | ret r =>
            obtain ⟨rfl, h', tk, c', rfl, hS', hc', hk'⟩ := hr₂
            repeat (any_goals (first | assumption | wp_step))
            exact go _ _ _ hS' hc' hk'
          | _ => exact hr₂.elim
    | _ => exact hr.elim
end
section
variable {X : Cx}
theorem intsOf : ∀ {ns : List Int} {us : List Value}, Vals (ns.map V.int) us → PyProof.Rows.IntsAre us ns
  | [], _, .nil => .nil
  | n :: ns, _, .cons ⟨k, e⟩ t => by subst e; exact .cons n k (intsOf t)
/-- set(xs), xs a list of ints -/
def rSetI (K : PySem.W.Frag) (w : World) : List V → Hp → VK → Prop := fun vs H Q => ∃ (a : Addr) (ns : List Int), vs = [V.ref a] ∧ SqL K H a (ns.map V.int) ∧ ns.length < 1000 ∧
  ∀ (p : Addr) (c : Nat), H p = none → c ≤ ns.length → Q (.ref p) (upd H p (SetO w p (fun j => decide (j ∈ ns)) c))
theorem cr_setI (hc : X.calm = true) : CallR X (.type "set") (rSetI X.K X.w) := by
  intro pins s σ H vs us Q I r h
  obtain ⟨a, ns, rfl, hs, hn, q⟩ := h
  rw [Vals.ref1 r]
  obtain ⟨its, rv, pl, hz⟩ := I.list hs
  refine set_of_list ns (I.ok.hd hc) pl.isList (by simpa using intsOf rv) (by unfold scanBound; omega) fun h' tk c R hc' k => ?_
  have hn : H s.heap.objs.size = none := I.hok.fresh (Nat.le_refl _)
  exact ⟨.ref _, upd H s.heap.objs.size (SetO X.w s.heap.objs.size (fun j => decide (j ∈ ns)) c), I.laid (t' := tk) k (Nat.le_refl _) (setO_new R), rfl, q _ c hn hc'⟩
end
end Rp

namespace Rp
open PySem L2
/-! ### TERMs -/
inductive Tm where
  | v (n : Int) | z | s (t : Tm) | f (l r : Tm)
  deriving DecidableEq
namespace Tm
def size : Tm → Nat
  | v _ => 1 | z => 1 | s t => t.size + 1 | f l r => l.size + r.size + 1
def deep : Tm → Nat
  | v _ => 0 | z => 0 | s t => t.deep + 1 | f l r => max l.deep r.deep + 1
def nums : Tm → List Int
  | v n => [n] | z => [] | s t => t.nums | f l r => l.nums ++ r.nums
/-- all parts, the whole first, the right-hand ones ahead of the left-hand ones -/
def rpost : Tm → List Tm
  | v n => [v n] | z => [z] | s t => s t :: t.rpost | f l r => f l r :: (r.rpost ++ l.rpost)
def kids : Tm → List Tm
  | v _ => [] | z => [] | s t => [t] | f l r => [l, r]
theorem size_pos : ∀ t : Tm, 1 ≤ t.size
  | v _ => Nat.le_refl _ | z => Nat.le_refl _ | s _ => by unfold size; omega | f _ _ => by unfold size; omega
theorem deep_lt : ∀ t : Tm, t.deep < t.size
  | v _ => Nat.zero_lt_one | z => Nat.zero_lt_one | s t => by have := deep_lt t; unfold deep size; omega
  | f l r => by have := deep_lt l; have := deep_lt r; unfold deep size; omega
theorem rpost_len : ∀ t : Tm, t.rpost.length = t.size
  | v _ => rfl | z => rfl | s t => by unfold rpost size; rw [List.length_cons, rpost_len t]
  | f l r => by unfold rpost size; rw [List.length_cons, List.length_append, rpost_len l, rpost_len r]; omega
/-- an int among the parts -/
theorem mem_rpost (n : Int) : ∀ t : Tm, v n ∈ t.rpost ↔ n ∈ t.nums
  | v m => by unfold rpost nums; simp
  | z => by unfold rpost nums; simp
  | s t => by unfold rpost nums; have := mem_rpost n t; simp [this]
  | f l r => by unfold rpost nums; have := mem_rpost n l; have := mem_rpost n r; simp [*]; exact Or.comm
theorem rpost_kids (t : Tm) : t.rpost = t :: (t.kids.reverse.flatMap rpost) := by
  cases t <;> simp [rpost, kids]
theorem kids_size (t : Tm) : (t.kids.map size).sum + 1 = t.size := by
  cases t <;> simp [kids, size] <;> omega
theorem nums_len : ∀ t : Tm, t.nums.length ≤ t.size
  | v _ => Nat.le_refl _ | z => Nat.zero_le _ | s t => by have := nums_len t; unfold nums size; omega
  | f l r => by have := nums_len l; have := nums_len r; unfold nums size; rw [List.length_append]; omega
/-- all signs, as law's leaves has them -/
def signs : Tm → List V
  | v n => [.int n] | z => [.str "0"] | s t => .str "s" :: t.signs | f l r => .str "f" :: (l.signs ++ r.signs)
theorem signs_len : ∀ t : Tm, t.signs.length = t.size
  | v _ => rfl | z => rfl | s t => by unfold signs size; rw [List.length_cons, signs_len t]
  | f l r => by unfold signs size; rw [List.length_cons, List.length_append, signs_len l, signs_len r]
end Tm
/-- the ints of a row of ints and texts -/
def rowInts : List V → List Int
  | [] => []
  | .int n :: r => n :: rowInts r
  | _ :: r => rowInts r
theorem rowInts_append : ∀ a b : List V, rowInts (a ++ b) = rowInts a ++ rowInts b
  | [], b => rfl
  | x :: r, b => by cases x <;> simp [rowInts, rowInts_append r b]
theorem signs_nums : ∀ t : Tm, rowInts t.signs = t.nums
  | .v _ => rfl | .z => rfl | .s t => by simp [Tm.signs, Tm.nums, rowInts, signs_nums t]
  | .f l r => by simp [Tm.signs, Tm.nums, rowInts, rowInts_append, signs_nums l, signs_nums r]
/-- a row of ints and texts -/
def Flat2 : V → Prop
  | .int _ => True
  | .str _ => True
  | _ => False
theorem signs_flat : ∀ t : Tm, ∀ x ∈ t.signs, Flat2 x
  | .v _, x, h => by simp [Tm.signs] at h; subst h; trivial
  | .z, x, h => by simp [Tm.signs] at h; subst h; trivial
  | .s t, x, h => by
    simp only [Tm.signs, List.mem_cons] at h
    rcases h with h | h
    · subst h; trivial
    · exact signs_flat t x h
  | .f l r, x, h => by
    simp only [Tm.signs, List.mem_cons, List.mem_append] at h
    rcases h with h | h | h
    · subst h; trivial
    · exact signs_flat l x h
    · exact signs_flat r x h
/-! ### two rising rows of the same ints are one -/
theorem rising_one : ∀ {a b : List Int}, a.Pairwise (· < ·) → b.Pairwise (· < ·) → (∀ k, k ∈ a ↔ k ∈ b) → a = b
  | [], [], _, _, _ => rfl
  | [], y :: b, _, _, h => by have := (h y).2 (by simp); simp at this
  | x :: a, [], _, _, h => by have := (h x).1 (by simp); simp at this
  | x :: a, y :: b, ha, hb, h => by
    rw [List.pairwise_cons] at ha hb
    have exy : x = y := by
      rcases List.mem_cons.mp ((h x).1 (by simp)) with e | e
      · exact e
      · rcases List.mem_cons.mp ((h y).2 (by simp)) with e' | e'
        · exact e'.symm
        · have := hb.1 x e
          have := ha.1 y e'
          omega
    subst exy
    rw [rising_one ha.2 hb.2 fun k => ?_]
    constructor
    · intro hk
      rcases List.mem_cons.mp ((h k).1 (List.mem_cons_of_mem _ hk)) with e | e
      · have := ha.1 k hk; omega
      · exact e
    · intro hk
      rcases List.mem_cons.mp ((h k).2 (List.mem_cons_of_mem _ hk)) with e | e
      · have := hb.1 k hk; omega
      · exact e
/-! ### heaps -/
/-- all but b stays -/
def But (b : Addr) (H H' : Hp) : Prop := ∀ c o, H c = some o → c ≠ b → H' c = some o
theorem But.refl (b : Addr) (H : Hp) : But b H H := fun _ _ h _ => h
theorem But.trans {b : Addr} {H H1 H2 : Hp} (x : But b H H1) (y : But b H1 H2) : But b H H2 := fun c o h n => y c o (x c o h n) n
theorem but_of {b : Addr} {H H' : Hp} (x : Same H H') : But b H H' := fun c o h _ => x c o h
theorem same_new {H : Hp} {p : Addr} (h : H p = none) (o : HO) : Same H (upd H p o) := fun b u q => by rw [upd_ne (ne_of_none q h)]; exact q
theorem but_upd {H : Hp} {b : Addr} (o : HO) : But b H (upd H b o) := fun c u h n => by rw [upd_ne n]; exact h
/-- the box of draws: j bounds how often it was drawn from -/
structure BoxAt (H : Hp) (b : Addr) (j : Nat) : Prop where
  ex : ∃ x y z : Int, H b = some (.lst [.int x, .int y, .int z]) ∧ 0 ≤ x ∧ 0 ≤ y ∧ y < 10000000000 ∧ 0 ≤ z ∧ z ≤ (j : Int)
theorem BoxAt.same {H H' : Hp} {b : Addr} {j : Nat} (B : BoxAt H b j) (e : Same H H') : BoxAt H' b j := by
  obtain ⟨x, y, z, h, r⟩ := B.ex
  exact ⟨x, y, z, e _ _ h, r⟩
theorem BoxAt.more {H : Hp} {b : Addr} {j k : Nat} (B : BoxAt H b j) (h : j ≤ k) : BoxAt H b k := by
  obtain ⟨x, y, z, e, h1, h2, h3, h4, h5⟩ := B.ex
  exact ⟨x, y, z, e, h1, h2, h3, h4, by omega⟩
theorem BoxAt.some {H : Hp} {b : Addr} {j : Nat} (B : BoxAt H b j) : ∃ xs, H b = some (.lst xs) := by
  obtain ⟨x, y, z, e, _⟩ := B.ex
  exact ⟨_, e⟩
/-- a TERM stands as the value v -/
inductive TmAt (H : Hp) : V → Tm → Prop where
  | v (n : Int) : TmAt H (.int n) (.v n)
  | z {a : Addr} (h : H a = some (.tup [.str "0"])) : TmAt H (.ref a) .z
  | s {a : Addr} {x : V} {t : Tm} (h : H a = some (.tup [.str "s", x])) (q : TmAt H x t) : TmAt H (.ref a) (.s t)
  | f {a : Addr} {x y : V} {l r : Tm} (h : H a = some (.tup [.str "f", x, y])) (q : TmAt H x l) (q' : TmAt H y r) : TmAt H (.ref a) (.f l r)
theorem TmAt.mono {H H' : Hp} (e : ∀ a xs, H a = some (.tup xs) → H' a = some (.tup xs)) {v : V} {t : Tm} (h : TmAt H v t) : TmAt H' v t := by
  induction h with
  | v n => exact .v n
  | z h => exact .z (e _ _ h)
  | s h _ ih => exact .s (e _ _ h) ih
  | f h _ _ ih ih' => exact .f (e _ _ h) ih ih'
theorem TmAt.same {H H' : Hp} (e : Same H H') {v : V} {t : Tm} (h : TmAt H v t) : TmAt H' v t := h.mono fun a xs q => e a _ q
theorem TmAt.but {H H' : Hp} {b : Addr} {ys : List V} (e : But b H H') (hb : H b = some (.lst ys)) {v : V} {t : Tm} (h : TmAt H v t) : TmAt H' v t :=
  h.mono fun a xs q => e a _ q (ne_of q hb (by intro z; cases z))
/-! ### what is alike, kind by kind (to a depth) -/
def Plain : V → Prop
  | .non => True
  | .bl _ => True
  | .int _ => True
  | .str _ => True
  | _ => False
def Alike (H : Hp) : Nat → V → V → Prop
  | 0, x, y => Plain x ∧ x = y
  | n + 1, x, y => (Plain x ∧ x = y) ∨ ∃ a b xs ys, x = .ref a ∧ y = .ref b ∧ ((H a = some (.lst xs) ∧ H b = some (.lst ys)) ∨ (H a = some (.tup xs) ∧ H b = some (.tup ys))) ∧
      xs.length = ys.length ∧ xs.length ≤ 1000000 ∧ ∀ (i : Nat) (u v : V), xs[i]? = some u → ys[i]? = some v → Alike H n u v
theorem Alike.mono {H H' : Hp} (e : Same H H') : ∀ (n : Nat) {x y : V}, Alike H n x y → Alike H' n x y
  | 0, _, _, h => by unfold Alike at h ⊢; exact h
  | n + 1, x, y, h => by
    unfold Alike at h ⊢
    rcases h with h | ⟨a, b, xs, ys, h1, h2, h3, h4, h5, h6⟩
    · exact .inl h
    · exact .inr ⟨a, b, xs, ys, h1, h2, h3.imp (fun q => ⟨e _ _ q.1, e _ _ q.2⟩) (fun q => ⟨e _ _ q.1, e _ _ q.2⟩), h4, h5, fun i u v p q => Alike.mono e n (h6 i u v p q)⟩
theorem alike_ints {H : Hp} {n : Nat} {a b : Addr} {ns : List Int} (ha : H a = some (.lst (ns.map V.int))) (hb : H b = some (.lst (ns.map V.int))) (hl : ns.length ≤ 1000000) : Alike H (n + 1) (.ref a) (.ref b) := by
  unfold Alike
  refine .inr ⟨a, b, _, _, rfl, rfl, .inl ⟨ha, hb⟩, rfl, by rw [List.length_map]; exact hl, fun i u v h1 h2 => ?_⟩
  have e : u = v := Option.some.inj (h1.symm.trans h2)
  subst e
  rw [List.getElem?_map] at h1
  cases q : ns[i]? with
  | none => rw [q] at h1; cases h1
  | some k =>
    rw [q] at h1
    cases h1
    cases n with
    | zero => unfold Alike; exact ⟨trivial, rfl⟩
    | succ n => unfold Alike; exact .inl ⟨trivial, rfl⟩
end Rp

/-! Defs whose body asks for the repr of lists and tuples: their promise is kept where no repr is at work (the around's guards are told to be none), and so where the law itself is called. -/
namespace Rp
open PySem PySem.Spec PyProof.Rows L2
structure GnOk (P : Program) (w : World) (K : PySem.W.Frag) (mg : Str → Option Value) (base : Heap) (k : Nat) (f : Addr) (fd : FuncData) (ps : List Str) (sp : Sp) : Prop where
  len : ∀ vs H Q E, sp vs H Q E → vs.length = ps.length
  run : ∀ (A : Around) (outer : List Env) (s : Shared) (H : Hp) (args : Args) (us : List Value) (vs : List V) (Q : VK) (E : XK), A.guards = some [] → Room k A → Env0 P w K mg base A outer s H → BindsTo s fd args (ps.zip us) → Vals vs us → sp vs H Q E →
    codeAny (model P w) A (.call (.ref f) args) (CR CX0 outer P w H s Q E) s
section
variable {P : Program} {w : World} {K : PySem.W.Frag} {mg : Str → Option Value} {base : Heap}
/-- a def by its body, the guards told -/
theorem gok {x qual : Str} {st : Stmt} {f : Addr} {fd : FuncData} {N ps : List Str} {k : Nat} {sp : Sp} (F : Fun K x qual st f fd) (S : FnScope N ps (defScope st)) (len : ∀ vs H Q E, sp vs H Q E → vs.length = ps.length)
    (walk : ∀ (cdv : Value) (A : Around) (outer : List Env) (s : Shared) (H : Hp) (vs : List V) (Q : VK) (E : XK), A.guards = some [] → Room k (A.deeper (envOfC qual (defScope st) s.heap.objs.size f cdv)) → sp vs H Q E →
      ∃ t, PSs (cxOf CX0 P w K mg base N qual (defScope st) f cdv A outer s H E).nox (defBody st) t ∧ t { nx := fun _ H' => Q .non H', rt := Q } (start N vs) H) : GnOk P w K mg base (k + 1) f fd ps sp := by
  obtain ⟨oc, od, kV, doc, pm, an, cdv, ct, osl, rfl, lk, hcd⟩ := F.ex
  refine ⟨len, fun A outer s H args us vs Q E hg hr e0 hb r hsp => ?_⟩
  have K0 : K.In s.heap := e0.mod.kin.keeps fun b o e => (e0.bs b o e).1
  have L0 : s.heap.NoLimit := e0.mod.nolimit.keeps fun b o e => (e0.bs b o e).1
  have each : ∀ y ∈ ps.zip us, (defScope st).names.lookup y.1 = some .local ∨ ((defScope st).names.lookup y.1 = some .cell ∧ ((cellsFrom (s.heap.objs.size + 1) (defScope st).names []).lookup y.1).isSome = true) := by
    rintro ⟨n, v⟩ hy
    exact (S.par n (List.of_mem_zip hy).1).imp id fun q => ⟨q, PySem.W.cellsFrom_some _ _ _ (.inl q)⟩
  refine codeAny_call_function hr.depth (K0 _ _ lk) rfl S.co S.gen rfl (PySem.W.codeRec_of K0 hcd) (hb _ _ _ _ (wpAny_newFunctionEnv_cells S.kind each fun env he s1 z => ?_))
  subst he
  refine ⟨L0.keeps z.toInCall.keep, codeAny_func ?_⟩
  obtain ⟨t, ht, hq⟩ := walk cdv A outer s H vs Q E hg (hr.deeper _) hsp
  have I : L2.Inv (cxOf CX0 P w K mg base N qual (defScope st) f cdv A outer s H E) [] (start N vs) H s1 := inv_start S hr.hd e0 (len _ _ _ _ hsp) r z
  refine wpAny_mono (ht.nox.run [] s1 (start N vs) H _ I hq) (fun fl s' hs => ?_) fun e s' hs => hs
  rcases fl with _ | _ | _ | u
  · obtain ⟨_, H', J, q⟩ := hs
    exact ⟨V.non, H', J.os, J.bare, J.base, J.hok, rfl, q⟩
  · exact hs.choose_spec.choose_spec.2.elim
  · exact hs.choose_spec.choose_spec.2.elim
  · obtain ⟨v, _, H', J, rv, q⟩ := hs
    exact ⟨v, H', J.os, J.bare, J.base, J.hok, rv, q⟩
end
section
variable {X : Cx} {k : Nat} {f : Addr} {fd : FuncData} {ps : List Str} {sp : Sp} {E : XK} {x : Str} {p pos : Pos} {e : Expr} {es : List Expr} {t : TA}
theorem pe_callG (F : GnOk X.prog X.w X.K X.mg X.base k f fd ps sp) (hgd : X.A.guards = some []) (hr : Room k X.A) (hg : Gl X x) (hm : X.mg x = some (.ref f)) (hk : PySem.W.keepIn X.K (.ref f) = true) (hb : Binds X.K fd ps []) (ha : PA X (e :: es) t)
    (hdb : (x == ("__debug__" : Str)) = false := by decide) (he : starEach (e :: es) X.env = (false, eval e X.env) :: starEach es X.env := by rfl) (hpl : (backTo pos (starEach es X.env)).any (·.1) = false := by rfl) :
    PE X (.Call (.Name x p) (e :: es) [] pos) (tCall sp [] E0 t) := by
  refine ⟨fun pins s σ H Q I h => wpAny_Call_Name_kw (ld_glob I hg hm ?_ hdb)⟩
  refine PySem.W.callWith_K (h₀ := X.base) I.ok.mod.kin hk (thn (ha.run pos pins s σ H _ I h) fun us s1 ⟨vs, H1, I1, r, q⟩ => ⟨I1.kIn, ?_⟩) he hpl
  have q : sp vs H1 Q E0 := by
    have z : sp (vs ++ []) H1 Q E0 := q
    rwa [List.append_nil] at z
  have hl : us.length = ps.length := r.length.symm.trans (F.len _ _ _ _ q)
  have hb' := hb s1 us I1.kIn (by rw [List.append_nil]; exact hl)
  rw [List.append_nil] at hb'
  refine wpAny_call (codeAny_mono (F.run X.A X.stack s1 H1 ⟨us, []⟩ us vs Q E0 hgd hr I1.env0 hb' r q) fun r' s' hq => ?_)
  rcases r' with e' | fl
  · exact hq.elim
  · rcases fl with _ | _ | _ | u
    · exact hq.elim
    · exact hq.elim
    · exact hq.elim
    · exact I1.after hq
/-- repr(v), v data at any depth -/
def rReprD (K : PySem.W.Frag) : List V → Hp → VK → Prop := fun vs H Q => ∃ (v : V) (d : PyData), vs = [v] ∧ Dp K H v d ∧ d.showable = true ∧ d.hasDict = false ∧ d.depth ≤ 64 ∧ d.shown.length ≤ sizeLine ∧ Q (.str d.shown) H
theorem cr_reprD (hgd : X.A.guards = some []) (hu : X.A.units + 66 < cLine) : CallR X (.builtin "repr") (rReprD X.K) := by
  intro pins s σ H vs us Q I r h
  obtain ⟨v, d, rfl, hd, sh, nd, dp, sz, q⟩ := h
  obtain ⟨u, rfl, ru⟩ := vals1 r
  obtain ⟨as, rd⟩ := Dp.reads I d v u hd ru
  cases hd with
  | non => cases ru; exact PySem.P.repr_of_none ⟨.str "None", H, I.tok _, ⟨_, rfl⟩, by simpa [PyData.shown] using q⟩
  | bl b => cases ru; exact PySem.P.repr_of_bool ⟨.str (if b then "True" else "False"), H, I.tok _, ⟨_, rfl⟩, by simpa [PyData.shown] using q⟩
  | int i =>
    obtain ⟨t, rfl⟩ := ru
    exact PySem.P.repr_of_int (by simpa [PyData.showable] using sh) ⟨.str (toString i), H, I.tok _, ⟨_, rfl⟩, by simpa [PyData.shown] using q⟩
  | str x =>
    obtain ⟨t, rfl⟩ := ru
    exact PySem.P.repr_of_str ⟨.str (reprText x), H, I.tok _, ⟨_, rfl⟩, by simpa [PyData.shown] using q⟩ (by simpa [PyData.shown] using sz)
  | lst a b =>
    cases ru
    exact PySem.repr_of_reads' rd sh (fun e => by rw [nd] at e; cases e) hgd (by omega) (fun _ _ e => e) (fun h' u tk k => ⟨.str _, H, I.kept (t' := tk) k, ⟨u, rfl⟩, q⟩) sz
  | tup a b =>
    cases ru
    exact PySem.repr_of_reads' rd sh (fun e => by rw [nd] at e; cases e) hgd (by omega) (fun _ _ e => e) (fun h' u tk k => ⟨.str _, H, I.kept (t' := tk) k, ⟨u, rfl⟩, q⟩) sz
end
/-- the law's own call, its promise with the guards told -/
theorem law_callG {P : Program} {w : World} {K : PySem.W.Frag} {mg mb : Str → Option Value} {k : Nat} {fa a : Addr} {fd : FuncData} {x : Str} {sp : Sp} {s₁ : Shared} {vs : List Value} {ns : List Int}
    (KX : K.In s₁.heap) (hns : s₁.heap.Ns mainGlobals mg) (hb : s₁.heap.Ns builtinsNs mb) (hbb : ∀ x : Str, x ≠ "__name__" → mb x = bootBuiltins x) (hlim : s₁.heap.NoLimit) (hg : s₁.gens = #[])
    (ha : s₁.heap.get? a = some { cls := .type "list", data := .seq vs.toArray }) (hi : IntsAre vs ns) (hl : ns.length ≤ sizeLine) (hr : Room k callerA)
    (F : ∀ base : Heap, K.In base → base.Ns mainGlobals mg → GnOk P w K mg base k fa fd [x] sp) (bind : ∀ (s : Shared) (u : Value), BindsTo s fd ⟨[u], []⟩ [(x, u)])
    (ask : ∀ H : Hp, Only H → SqL K H a (ns.map V.int) → sp [.ref a] H (fun v _ => v = .bl true) E0) :
    codeAny (model P w) callerA (.call (.ref fa) ⟨[.ref a], []⟩) (fun r s' => r = .ok (.ret (.bool true)) ∧ OldK s₁.heap s'.heap ∧ s'.os = s₁.os ∧ AllBare s'.gens) s₁ := by
  have rv := vals_ints hi
  have lenV := hi.length
  have from_ : ∀ H : Hp, Only H → SqL K H a (ns.map V.int) → HOk P w H s₁.heap → (∀ b, H b ≠ none → b = a ∧ K.lookup a = none) →
      codeAny (model P w) callerA (.call (.ref fa) ⟨[.ref a], []⟩) (fun r s' => r = .ok (.ret (.bool true)) ∧ OldK s₁.heap s'.heap ∧ s'.os = s₁.os ∧ AllBare s'.gens) s₁ := by
    intro H only hS hok hA
    have free : ∀ {b : Addr} {o : Obj}, s₁.heap.get? b = some o → (b = a → False) → H b = none := fun {b o} _ n => by
      cases q : H b with
      | none => rfl
      | some u => exact (n (hA b (by rw [q]; simp)).1).elim
    have low : ∀ {b : Addr} {o : Obj}, s₁.heap.get? b = some o → H b = none → (hidT s₁.heap H).get? b = some o := fun e n => hidT_get e n
    have names : ∀ {b : Addr} {m : Str → Option Value}, s₁.heap.Ns b m → (hidT s₁.heap H).Ns b m := fun {b m} ⟨o, es, ep, e, d, r⟩ =>
      ⟨o, es, ep, low e (free e fun z => by subst z; rw [ha] at e; cases e; cases d), d, r⟩
    have hK : K.In (hidT s₁.heap H) := fun b o e => low (KX b o e) (by
      cases q : H b with
      | none => rfl
      | some u =>
        obtain ⟨z, zk⟩ := hA b (by rw [q]; simp)
        subst z
        rw [zk] at e; cases e)
    have M : Mod K mg (hidT s₁.heap H) := ⟨hK, names hns, ⟨mb, names hb, hbb⟩, let ⟨mc, h1, h2⟩ := hlim; ⟨mc, names h1, h2⟩⟩
    have e0 : Env0 P w K mg (hidT s₁.heap H) callerA [] s₁ H := ⟨rfl, M, fun b o e => of_hidT e, Nat.le_of_eq (hidT_size _ _), trivial, fun b z => absurd (show b ∈ ([] : List Addr) from z) (by simp), hok, .of_eq hg⟩
    refine codeAny_mono ((F _ hK (names hns)).run callerA [] s₁ H ⟨[.ref a], []⟩ [.ref a] [.ref a] _ _ rfl hr e0 (bind s₁ (.ref a)) (.cons rfl .nil) (ask H only hS)) fun r s' h => ?_
    rcases r with e | fl
    · exact h.elim
    · rcases fl with _ | _ | _ | u
      · exact h.elim
      · exact h.elim
      · exact h.elim
      · obtain ⟨v, H', os, bare, un, hok', r', q⟩ := h
        obtain rfl : v = .bl true := q
        obtain rfl : u = Value.bool true := r'
        refine ⟨rfl, OldK.of_keep fun b o e => ?_, os, bare⟩
        cases q : H b with
        | none => exact un.keep b o e q (by intro z; exact absurd (show b ∈ ([] : List Addr) from z) (by simp)) (by simp)
        | some u =>
          rcases only b with z | ⟨ob, xs, z⟩
          · rw [q] at z; cases z
          · obtain ⟨e1, _⟩ := hok b _ z
            obtain ⟨e2, _⟩ := hok' b _ (un.frzs b ob _ z)
            rw [e] at e1; cases e1
            exact e2
  cases hk : K.lookup a with
  | some o =>
    have e := KX a o hk
    rw [ha] at e
    cases e
    exact from_ (fun _ => none) (fun _ => .inl rfl) (.inr ⟨_, vs.toArray, _, hk, rfl, rfl, rfl, by rw [List.size_toArray, lenV]; exact hl, by simpa using rv⟩) (fun b u z => nomatch (show (none : Option HO) = some u from z)) fun b z => absurd rfl z
  | none =>
    have at_ : ∀ b, (fun b => if b = a then some (HO.frz { cls := .type "list", data := .seq vs.toArray } (.lst (ns.map V.int))) else none) b ≠ none → b = a := fun b z => by
      by_cases hb : b = a
      · exact hb
      · exact absurd (if_neg hb) z
    refine from_ _ (fun b => ?_) (.inl (.inr ⟨_, if_pos rfl⟩)) (fun b u z => ?_) fun b z => ⟨at_ b z, hk⟩
    · by_cases hb : b = a
      · exact .inr ⟨_, _, if_pos hb⟩
      · exact .inl (if_neg hb)
    · have hb := at_ b (fun e => by have y := z.symm.trans e; cases y)
      subst hb
      have z' := (if_pos rfl).symm.trans z
      cases z'
      exact ⟨ha, by rw [List.length_map]; exact hl, vs, _, rv, ha⟩
theorem walk_ofG {l : PySem.W.OpenLaw} {n k : Nat} {q : Program} {loose : List Str} {XP : (Str → Option Value) → Heap → Prop} {YP : World → Heap → Prop} {d : DefRec} {K : Params → PySem.W.Frag} {sp : PySem.W.Frag → Sp} {x : Str}
    (hn : l.most = some n) (hn2 : n ≤ sizeLine) (hdf : d.params.defaults = []) (hr : Room k callerA) (hY : ∀ (w : World) (h : Heap), YP w h → (K w.params).In h)
    (F : ∀ (w : World) (mg : Str → Option Value) (fa : Addr) (h : Heap), (K w.params).In h → h.Ns mainGlobals mg → mg d.name = some (.ref fa) →
      ∃ fd : FuncData, (∀ (s : Shared) (u : Value), BindsTo s fd ⟨[u], []⟩ [(x, u)]) ∧ ∀ base : Heap, (K w.params).In base → base.Ns mainGlobals mg → GnOk l.prog w (K w.params) mg base k fa fd [x] (sp (K w.params)))
    (ask : ∀ (K : PySem.W.Frag) (H : Hp) (a : Addr) (ns : List Int), ns.length ≤ n → Only H → SqL K H a (ns.map V.int) → sp K [.ref a] H (fun v _ => v = .bl true) E0) :
    PySem.W.WalkO q loose XP YP l.row.toRowW d [] (fun f vs => PySem.call f vs) := by
  refine Att.attach_call hn hdf fun w s₀ s₁ mg mb fa o pm cd doc a vs ns G Y ho hd hcd hmg hobj hints hlen hg => ?_
  obtain ⟨fd, hb, hF⟩ := F w mg fa _ (hY w _ Y) G.T.g hmg
  exact law_callG (hY w _ Y) G.T.g G.T.b G.T.builtins G.T.nolimit hg hobj hints (Nat.le_trans hlen hn2) hr hF hb fun H hO hS => ask _ H a ns hlen hO hS
end Rp

namespace Rp
open PySem L2
def top (i : Nat) : Stmt := PySem.Challenge.pw_ringproofs_k05_trees_by_their_sizes.main.body.getD i (.Pass ⟨0, 0, 0, 0⟩)
abbrev sParts : Stmt := top 1
abbrev sInside : Stmt := top 2
abbrev sFold : Stmt := top 3
abbrev sTextOf : Stmt := top 5
abbrev sTermText : Stmt := top 6
abbrev sOfSize : Stmt := top 8
abbrev sTrees : Stmt := top 9
abbrev sBox : Stmt := top 11
abbrev sTake : Stmt := top 12
abbrev sPick : Stmt := top 13
abbrev sTree : Stmt := top 14
abbrev sText : Stmt := top 15
abbrev sIsTree : Stmt := top 16
abbrev sRows : Stmt := top 17
abbrev sLaw : Stmt := top 18
end Rp

namespace Rp
open PySem L2
/-! ### promises -/
def spBox (K : PySem.W.Frag) : Sp := fun vs H Q _ => ∃ (a : Addr) (ns : List Int) (k : Int), vs = [.ref a, .int k] ∧ SqL K H a (ns.map V.int) ∧ ns.length ≤ 63 ∧ 0 ≤ k ∧ k ≤ 63 ∧
  ∀ (b : Addr) (H' : Hp), H b = none → BoxAt H' b 0 → Same H H' → Q (.ref b) H'
def spTake : Sp := fun vs H Q _ => ∃ (b : Addr) (c : Int) (j : Nat), vs = [.ref b, .int c] ∧ BoxAt H b j ∧ j ≤ 1000000 ∧ 1 ≤ c ∧ c ≤ 1000000 ∧
  ∀ (r : Int) (H' : Hp), 0 ≤ r → r < c → BoxAt H' b (j + 1) → But b H H' → Q (.int r) H'
def spPick : Sp := fun vs H Q _ => ∃ (b p : Addr) (xs : List V) (j : Nat), vs = [.ref b, .ref p] ∧ BoxAt H b j ∧ j ≤ 1000000 ∧ H p = some (.lst xs) ∧ p ≠ b ∧ 1 ≤ xs.length ∧ xs.length ≤ 1000000 ∧
  ∀ (v : V) (H' : Hp), v ∈ xs → BoxAt H' b (j + 1) → But b H H' → Q v H'
section
variable {P : Program} {w : World} {K : PySem.W.Frag} {mg : Str → Option Value} {base : Heap}
theorem fmod_pos {a c : Int} (h : 0 < c) : 0 ≤ a.fmod c ∧ a.fmod c < c := by
  rw [Int.fmod_eq_emod_of_nonneg a (Int.le_of_lt h)]
  exact ⟨Int.emod_nonneg a (by omega), Int.emod_lt_of_pos a h⟩
theorem fdiv_pos {a c : Int} (h : 0 < c) (ha : 0 ≤ a) : 0 ≤ a.fdiv c := by
  rw [Int.fdiv_eq_ediv_of_nonneg a (Int.le_of_lt h)]
  exact Int.ediv_nonneg ha (Int.le_of_lt h)
theorem scBox : FnScope ["_law_script", "_law_k", "_law_cell"] ["_law_script", "_law_k"] (defScope sBox) := ⟨rfl, rfl, rfl, by decide +kernel, rfl, by decide +kernel, by decide +kernel⟩
theorem ok_box {f : Addr} {fd : FuncData} (F : Fun K "_law_box" "_law_box" sBox f fd) (mLen : mg "len" = none) (mAbs : mg "abs" = none) (mInt : mg "int" = none) :
    FnOk P w K mg base CX0 1 f fd ["_law_script", "_law_k"] (spBox K) := by
  refine F.ok scBox (fun vs H Q E h => ?_) (fun cdv A outer s H vs Q E hr h => ?_)
  · obtain ⟨a, ns, k, rfl, _⟩ := h
    rfl
  obtain ⟨a, ns, k, rfl, hS, hl, h0, h1, q⟩ := h
  refine ⟨_, pss_cons (ps_set (i := 2) scBox.nd rfl (Or.inl rfl) pe_int)
    (pss_cons (ps_if (pt_cmpR op_lt (pv 1) (pe_callB call_len_seq (by rfl) mLen PySem.boot_len (pa_cons (pv 0) pa_nil)) (nomark _))
      (pss_one (ps_set (i := 2) scBox.nd rfl (Or.inl rfl) (pe_ix ix_list (pv 0) (pv 1) (fun _ _ => rfl)))) pss_nil)
    (pss_one (ps_ret (pe_lst (pa_cons
      (pe_op op_mul (pe_callB call_abs (by rfl) mAbs (by decide +kernel) (pa_cons (pv 2) pa_nil))
        (pe_callTy call_int1 (by rfl) mInt (by decide +kernel) (pa_cons (pe_cmpR op_ge (pe_callB call_abs (by rfl) mAbs (by decide +kernel) (pa_cons (pv 2) pa_nil)) (pe_op op_pow pe_int pe_int) (nomark _)) pa_nil)))
      (pa_cons (pe_op op_add (pe_op op_add (pe_op op_modN (pv 2) pe_int) (pe_op op_mul pe_int (pv 1))) pe_int) (pa_cons pe_int pa_nil))))))), ?_⟩
  refine ⟨_, rfl, _, rfl, a, _, rfl, .inl hS, _, _, rfl, rfl, _, rfl, ?_⟩
  have two : ∀ (b : Bool), -(2 ^ 64) < (if b = true then (1 : Int) else 0) ∧ (if b = true then (1 : Int) else 0) < 2 ^ 64 ∧ 0 ≤ (if b = true then (1 : Int) else 0) := by decide
  have pos : ∀ c : Int, 0 ≤ if c < 0 then -c else c := fun c => by split <;> omega
  have m := fun c : Int => fmod_pos (a := c) (c := 2147483629) (by decide)
  refine ite2 (fun c => ?_) (fun c => ?_)
  · have hk : k.toNat < ns.length := by
      have z : k < (((ns.map V.int).length : Nat) : Int) := of_decide_eq_true c
      rw [List.length_map] at z
      omega
    have it : atI (ns.map V.int) k = some (.int ns[k.toNat]) := at_of (j := k.toNat) (by omega) (by rw [List.getElem?_map, List.getElem?_eq_getElem hk]; rfl)
    refine ⟨_, rfl, _, rfl, a, _, _, _, rfl, rfl, hS, it, ?_⟩
    refine ⟨_, rfl, _, rfl, _, rfl, _, rfl, _, _, rfl, rfl, ⟨by decide, by decide, by decide⟩, _, _, rfl, rfl, .inr ⟨_, rfl, ?_⟩⟩
    refine ⟨_, _, rfl, rfl, .inr ⟨(two _).1, (two _).2.1⟩, _, rfl, _, _, rfl, rfl, (fun h => absurd h (by decide)), _, rfl, _, _, rfl, rfl, .inl ⟨by decide, by decide⟩, _, _, rfl, rfl, _, _, rfl, rfl, (by show 3 ≤ sizeLine; decide), fun b hb => ?_⟩
    have mm := m ns[k.toNat]
    exact q b _ hb ⟨_, _, _, upd_same, Int.mul_nonneg (pos _) (two _).2.2, by omega, by omega, by decide, by decide⟩ (same_new hb _)
  · refine ⟨_, rfl, _, rfl, _, rfl, _, rfl, _, _, rfl, rfl, ⟨by decide, by decide, by decide⟩, _, _, rfl, rfl, .inr ⟨_, rfl, ?_⟩⟩
    refine ⟨_, _, rfl, rfl, .inr ⟨(two _).1, (two _).2.1⟩, _, rfl, _, _, rfl, rfl, (fun h => absurd h (by decide)), _, rfl, _, _, rfl, rfl, .inl ⟨by decide, by decide⟩, _, _, rfl, rfl, _, _, rfl, rfl, (by show 3 ≤ sizeLine; decide), fun b hb => ?_⟩
    have mm := m 0
    exact q b _ hb ⟨_, _, _, upd_same, Int.mul_nonneg (pos _) (two _).2.2, by omega, by omega, by decide, by decide⟩ (same_new hb _)
theorem scTake : FnScope ["_law_box_here", "_law_count", "_law_found", "_law_once"] ["_law_box_here", "_law_count"] (defScope sTake) := ⟨rfl, rfl, rfl, by decide +kernel, rfl, by decide +kernel, by decide +kernel⟩
theorem ok_take {f : Addr} {fd : FuncData} (F : Fun K "_law_take" "_law_take" sTake f fd) : FnOk P w K mg base CX0 1 f fd ["_law_box_here", "_law_count"] spTake := by
  refine F.ok scTake (fun vs H Q E h => ?_) (fun cdv A outer s H vs Q E hr h => ?_)
  · obtain ⟨b, c, j, rfl, _⟩ := h
    rfl
  obtain ⟨b, c, j, rfl, B, hj, h1, h2, q⟩ := h
  obtain ⟨x, y, z, hb, x0, y0, y1, z0, z1⟩ := id B
  have s0 : SqL K H b [.int x, .int y, .int z] := .inl (.inl hb)
  have a0 : ∀ u v t : Int, atI [V.int u, .int v, .int t] 0 = some (.int u) := fun u v t => at_of (j := 0) rfl rfl
  have a1 : ∀ u v t : Int, atI [V.int u, .int v, .int t] 1 = some (.int v) := fun u v t => at_of (j := 1) rfl rfl
  have a2 : ∀ u v t : Int, atI [V.int u, .int v, .int t] 2 = some (.int t) := fun u v t => at_of (j := 2) rfl rfl
  refine ⟨_, pss_cons (ps_if (pt_cmpR op_gt (pe_ix ix_list (pv 0) pe_int (fun _ _ => rfl)) pe_int (nomark _))
      (pss_cons (ps_set (i := 2) scTake.nd rfl (Or.inl rfl) (pe_op op_modN (pe_ix ix_list (pv 0) pe_int (fun _ _ => rfl)) (pv 1)))
      (pss_cons (ps_asg (pe_op op_fdivN (pe_ix ix_list (pv 0) pe_int (fun _ _ => rfl)) (pv 1)) (pg_sub (pv 0) pe_int set_list))
      (pss_one (ps_ret (pv 2))))) pss_nil)
    (pss_cons (ps_asg (pe_op op_add (pe_ix ix_list (pv 0) pe_int (fun _ _ => rfl)) pe_int) (pg_sub (pv 0) pe_int set_list))
    (pss_cons (ps_set (i := 3) scTake.nd rfl (Or.inl rfl) (pe_op op_modN (pe_op op_pow (pe_op op_add (pe_ix ix_list (pv 0) pe_int (fun _ _ => rfl)) (pe_op op_mul pe_int (pe_ix ix_list (pv 0) pe_int (fun _ _ => rfl)))) pe_int) pe_int))
    (pss_one (ps_ret (pe_op op_modN (pe_op op_fdivN (pe_op op_modN (pe_op op_add (pe_op op_mul (pv 3) (pe_op op_add (pe_op op_modN (pv 3) pe_int) pe_int)) (pe_op op_mul (pe_ix ix_list (pv 0) pe_int (fun _ _ => rfl)) pe_int)) pe_int) pe_int) (pv 1)))))), ?_⟩
  refine ⟨_, rfl, b, _, _, _, rfl, rfl, s0, a0 _ _ _, _, _, rfl, rfl, _, rfl, ?_⟩
  refine ite2 (fun d => ?_) (fun d => ?_)
  · refine ⟨_, rfl, b, _, _, _, rfl, rfl, s0, a0 _ _ _, _, rfl, _, _, rfl, rfl, (by omega), ?_⟩
    refine ⟨_, rfl, b, _, _, _, rfl, rfl, s0, a0 _ _ _, _, rfl, _, _, rfl, rfl, ⟨by omega, by omega⟩, ?_⟩
    refine ⟨_, rfl, b, _, _, 0, rfl, rfl, hb, rfl, ?_⟩
    have m := fmod_pos (a := x) (c := c) (by omega)
    exact ⟨_, rfl, q _ _ m.1 m.2 ⟨_, _, _, upd_same, fdiv_pos (by omega) x0, y0, y1, z0, by omega⟩ (but_upd _)⟩
  · refine ⟨_, rfl, b, _, _, _, rfl, rfl, s0, a2 _ _ _, _, _, rfl, rfl, ?_⟩
    refine ⟨_, rfl, b, _, _, 2, rfl, rfl, hb, rfl, ?_⟩
    have hb' : (upd H b (.lst [.int x, .int y, .int (z + 1)])) b = some (.lst [.int x, .int y, .int (z + 1)]) := upd_same
    have s1 : SqL K (upd H b (.lst [.int x, .int y, .int (z + 1)])) b [.int x, .int y, .int (z + 1)] := .inl (.inl hb')
    refine ⟨_, rfl, b, _, _, _, rfl, rfl, s1, a1 _ _ _, _, rfl, b, _, _, _, rfl, rfl, s1, a2 _ _ _, _, _, rfl, rfl, .inl ⟨by decide, by decide⟩, _, _, rfl, rfl, _, _, rfl, rfl, ⟨by decide, by decide, by omega⟩, _, _, rfl, rfl, (fun h => absurd h (by decide)), ?_⟩
    generalize (y + 39373 * (z + 1)) ^ Int.toNat 5 = g
    have m := fmod_pos (a := g) (c := 2147483647) (by decide)
    refine ⟨_, rfl, _, rfl, _, _, rfl, rfl, (fun h => absurd h (by decide)), _, _, rfl, rfl, _, _, rfl, rfl, .inl ⟨by omega, by omega⟩, _, rfl, b, _, _, _, rfl, rfl, s1, a2 _ _ _, _, _, rfl, rfl, .inl ⟨by omega, by omega⟩, _, _, rfl, rfl, _, _, rfl, rfl, (fun h => absurd h (by decide)), _, _, rfl, rfl, ⟨by decide, by decide⟩, _, rfl, _, _, rfl, rfl, (by omega), ?_⟩
    generalize Int.fdiv _ _ = e
    have m2 := fmod_pos (a := e) (c := c) (by omega)
    exact q _ _ m2.1 m2.2 ⟨_, _, _, upd_same, x0, y0, y1, by omega, by omega⟩ (but_upd _)
theorem scPick : FnScope ["_law_box_here", "_law_things"] ["_law_box_here", "_law_things"] (defScope sPick) := ⟨rfl, rfl, rfl, by decide +kernel, rfl, by decide +kernel, by decide +kernel⟩
theorem ok_pick {f fT : Addr} {fd fdT : FuncData} (F : Fun K "_law_pick" "_law_pick" sPick f fd) (FT : Fun K "_law_take" "_law_take" sTake fT fdT) (bT : Binds K fdT ["_law_box_here", "_law_count"] []) (mT : mg "_law_take" = some (.ref fT)) (mLen : mg "len" = none) :
    FnOk P w K mg base CX0 2 f fd ["_law_box_here", "_law_things"] spPick := by
  have GT : FnOk P w K mg base CX0 1 fT fdT ["_law_box_here", "_law_count"] spTake := ok_take FT
  refine F.ok scPick (fun vs H Q E h => ?_) (fun cdv A outer s H vs Q E hr h => ?_)
  · obtain ⟨b, p, xs, j, rfl, _⟩ := h
    rfl
  obtain ⟨b, p, xs, j, rfl, B, hj, hp, ne, l1, l2, q⟩ := h
  refine ⟨_, pss_one (ps_ret (pe_ix ix_list (pv 1) (pe_call GT hr rfl mT FT.kp bT .nil pass0 (pa_cons (pv 0) (pa_cons (pe_callB call_len_seq (by rfl) mLen PySem.boot_len (pa_cons (pv 1) pa_nil)) pa_nil))) (fun _ _ => rfl))), ?_⟩
  refine ⟨_, rfl, _, rfl, _, rfl, p, _, rfl, .inl (.inl (.inl hp)), b, _, j, rfl, B, hj, by omega, by omega, fun r H' r0 r1 B' o => ?_⟩
  have hr' : r.toNat < xs.length := by omega
  refine ⟨p, _, _, _, rfl, rfl, .inl (.inl (o _ _ hp ne)), at_of (j := r.toNat) (v := xs[r.toNat]) (by omega) (List.getElem?_eq_getElem hr'), ?_⟩
  exact q _ _ (List.getElem_mem hr') B' o
end
end Rp

namespace Rp
open PySem L2
def spTree (n : Nat) : Sp := fun vs H Q _ => ∃ (b p : Addr) (ns : List Int) (j : Nat) (room : Int), vs = [.ref b, .int room, .ref p] ∧ BoxAt H b j ∧ j + room.toNat ≤ 1000000 ∧ H p = some (.lst (ns.map V.int)) ∧ p ≠ b ∧ ns.length ≤ 100 ∧ 1 ≤ room ∧ room ≤ (n : Int) ∧
  ∀ (v : V) (t : Tm) (H' : Hp), TmAt H' v t → t.size = room.toNat → (∀ m ∈ t.nums, m ∈ ns) → BoxAt H' b (j + room.toNat) → But b H H' → Q v H'
def spFresh : Sp := fun vs H Q _ => ∃ (b : Addr) (j : Nat), vs = [.ref b] ∧ BoxAt H b j ∧ j + 9 ≤ 1000000 ∧
  ∀ (p : Addr) (ns : List Int) (H' : Hp), H p = none → H' p = some (.lst (ns.map V.int)) → (∀ m ∈ ns, 0 ≤ m ∧ m ≤ 99) → ns.length ≤ 4 → BoxAt H' b (j + 9) → But b H H' → Q (.ref p) H'
def spLeaves (n : Nat) : Sp := fun vs H Q _ => ∃ (v : V) (t : Tm), vs = [v] ∧ TmAt H v t ∧ t.size ≤ 1000 ∧ t.deep < n ∧ ∀ (p : Addr) (H' : Hp), H p = none → H' p = some (.lst t.signs) → Same H H' → Q (.ref p) H'
section
variable {P : Program} {w : World} {K : PySem.W.Frag} {mg : Str → Option Value} {base : Heap}
theorem none_left {k : Nat} {f : Addr} {fd : FuncData} {ps : List Str} {sp : Sp} (no : ∀ vs H Q E, ¬ sp vs H Q E) : FnOk P w K mg base CX0 k f fd ps sp :=
  ⟨fun vs H Q E h => absurd h (no vs H Q E), fun A outer s H args us vs Q E _ _ _ _ h => absurd h (no vs H Q E)⟩
theorem v1_ne {x y : Int} (c : ¬ decide (V.int x = V.int y) = true) : x ≠ y := fun e => c (by rw [e]; simp)
theorem v1_eq {x y : Int} (c : decide (V.int x = V.int y) = true) : x = y := V.int.inj (of_decide_eq_true c)
theorem scTree : FnScope ["_law_box_here", "_law_room", "_law_fresh", "_law_left"] ["_law_box_here", "_law_room", "_law_fresh"] (defScope sTree) := ⟨rfl, rfl, rfl, by decide +kernel, rfl, by decide +kernel, by decide +kernel⟩
theorem ok_tree {n : Nat} {f fT fP : Addr} {fd fdT fdP : FuncData} (F : Fun K "_law_tree" "_law_tree" sTree f fd) (b3 : Binds K fd ["_law_box_here", "_law_room", "_law_fresh"] []) (mTree : mg "_law_tree" = some (.ref f))
    (G : FnOk P w K mg base CX0 (n + 2) f fd ["_law_box_here", "_law_room", "_law_fresh"] (spTree n))
    (FT : Fun K "_law_take" "_law_take" sTake fT fdT) (bT : Binds K fdT ["_law_box_here", "_law_count"] []) (mT : mg "_law_take" = some (.ref fT))
    (FP : Fun K "_law_pick" "_law_pick" sPick fP fdP) (bP : Binds K fdP ["_law_box_here", "_law_things"] []) (mP : mg "_law_pick" = some (.ref fP)) (mLen : mg "len" = none) (mList : mg "list" = none) :
    FnOk P w K mg base CX0 (n + 3) f fd ["_law_box_here", "_law_room", "_law_fresh"] (spTree (n + 1)) := by
  have GT : FnOk P w K mg base CX0 1 fT fdT ["_law_box_here", "_law_count"] spTake := ok_take FT
  have GP : FnOk P w K mg base CX0 2 fP fdP ["_law_box_here", "_law_things"] spPick := ok_pick FP FT bT mT mLen
  refine F.ok scTree (fun vs H Q E h => ?_) (fun cdv A outer s H vs Q E hr h => ?_)
  · obtain ⟨b, p, ns, j, room, rfl, _⟩ := h
    rfl
  obtain ⟨b, p, ns, j, room, rfl, B, hj, hp, pb, hl, r1, r2, q⟩ := h
  have hr1 : Room 1 _ := hr.mono (by omega)
  have hr2 : Room 2 _ := hr.mono (by omega)
  refine ⟨_, pss_cons (ps_if (pt_cmpR op_eq (pv 1) pe_int (nomark _)) (pss_one (ps_ret (pe_call GP hr2 rfl mP FP.kp bP .nil pass0
        (pa_cons (pv 0) (pa_cons (pe_op op_cat (pe_op op_rep (pe_callTy call_list_of (by rfl) mList (by decide +kernel) (pa_cons (pv 2) pa_nil)) pe_int) (pe_lst (pa_cons (pe_tup (pa_cons pe_str pa_nil)) pa_nil))) pa_nil))))) pss_nil)
    (pss_cons (ps_set (i := 3) scTree.nd rfl (Or.inl rfl) (pe_call GT hr1 rfl mT FT.kp bT .nil pass0 (pa_cons (pv 0) (pa_cons (pe_op op_sub (pv 1) pe_int) pa_nil))))
    (pss_cons (ps_if (pt_cmpR op_eq (pv 3) pe_int (nomark _)) (pss_one (ps_ret (pe_tup (pa_cons pe_str (pa_cons (pe_call G hr rfl mTree F.kp b3 .nil pass0 (pa_cons (pv 0) (pa_cons (pe_op op_sub (pv 1) pe_int) (pa_cons (pv 2) pa_nil)))) pa_nil))))) pss_nil)
    (pss_one (ps_ret (pe_tup (pa_cons pe_str (pa_cons (pe_call G hr rfl mTree F.kp b3 .nil pass0 (pa_cons (pv 0) (pa_cons (pv 3) (pa_cons (pv 2) pa_nil))))
      (pa_cons (pe_call G hr rfl mTree F.kp b3 .nil pass0 (pa_cons (pv 0) (pa_cons (pe_op op_sub (pe_op op_sub (pv 1) pe_int) (pv 3)) (pa_cons (pv 2) pa_nil)))) pa_nil)))))))), ?_⟩
  refine ⟨_, rfl, rfl, _, rfl, ?_⟩
  refine ite2 (fun c => ?_) (fun c => ?_)
  · -- a leaf
    have e1 : room = 1 := v1_eq c
    subst e1
    refine ⟨_, rfl, _, rfl, p, _, rfl, .inl (.inl (.inl hp)), fun l hl1 => ?_⟩
    refine ⟨l, _, _, rfl, rfl, upd_same, by decide, by decide, ?_, fun l2 hl2 => ?_⟩
    · rw [List.length_map]
      show ns.length * 2 ≤ sizeLine
      have : (1000 : Nat) ≤ sizeLine := by decide
      omega
    refine ⟨(by show 1 ≤ sizeLine; decide), fun t ht => ?_⟩
    refine ⟨(by show 1 ≤ sizeLine; decide), fun l3 hl3 => ?_⟩
    have z2 : upd (upd (upd H l (.lst (ns.map V.int))) l2 (.lst (List.replicate (Int.toNat 2) (ns.map V.int)).flatten)) t (.tup [.str "0"]) l2 = some (.lst (List.replicate (Int.toNat 2) (ns.map V.int)).flatten) := by
      rw [upd_ne (ne_of_none upd_same ht)]
      exact upd_same
    have ne3 : l2 ≠ l3 := ne_of_none z2 hl3
    refine ⟨l2, l3, _, _, rfl, rfl, by rw [upd_ne ne3]; exact z2, upd_same, ?_, fun l4 hl4 => ?_⟩
    · have : (1000 : Nat) ≤ sizeLine := by decide
      simp
      omega
    have s1 := same_new hl1 (.lst (ns.map V.int))
    have s2 := same_new hl2 (.lst (List.replicate (Int.toNat 2) (ns.map V.int)).flatten)
    have s3 := same_new ht (.tup [.str "0"])
    have s4 := same_new hl3 (.lst [.ref t])
    have s5 := same_new hl4 (.lst ((List.replicate (Int.toNat 2) (ns.map V.int)).flatten ++ [.ref t]))
    have sA : Same H _ := s1.trans (s2.trans (s3.trans (s4.trans s5)))
    obtain ⟨ys, hb⟩ := B.some
    refine ⟨b, l4, _, j, rfl, B.same sA, by omega, upd_same, ?_, by simp; omega, ?_, fun v H' hv B' o => ?_⟩
    · intro e
      subst e
      exact absurd ((s1.trans (s2.trans (s3.trans s4))) _ _ hb) (by rw [hl4]; intro z; cases z)
    · simp
      omega
    have hz := (s4.trans s5) _ _ (upd_same : upd (upd (upd H l (.lst (ns.map V.int))) l2 (.lst (List.replicate (Int.toNat 2) (ns.map V.int)).flatten)) t (.tup [.str "0"]) t = some (.tup [.str "0"]))
    rcases List.mem_append.mp hv with hv | hv
    · have hv' : v ∈ ns.map V.int := by
        rw [List.mem_flatten] at hv
        obtain ⟨l', h1, h2⟩ := hv
        rw [List.mem_replicate] at h1
        rw [← h1.2]
        exact h2
      obtain ⟨m, hm, rfl⟩ := List.mem_map.mp hv'
      exact q _ (.v m) H' (.v m) rfl (fun k hk => by simp [Tm.nums] at hk; subst hk; exact hm) B' ((but_of sA).trans o)
    · have ev : v = .ref t := by simpa using hv
      subst ev
      exact q _ .z H' (.z (o _ _ hz (ne_of hz (B.same sA).some.choose_spec (by intro z; cases z)))) rfl (fun k hk => by simp [Tm.nums] at hk) B' ((but_of sA).trans o)
  · have n1 : room ≠ 1 := v1_ne c
    refine ⟨_, rfl, _, rfl, _, _, rfl, rfl, b, _, j, rfl, B, by omega, by omega, by omega, fun left H1 l0 l1 B1 o1 => ?_⟩
    have hp1 := o1 _ _ hp pb
    refine ⟨_, rfl, rfl, _, rfl, ?_⟩
    refine ite2 (fun d => ?_) (fun d => ?_)
    · refine ⟨_, rfl, _, rfl, _, _, rfl, rfl, _, rfl, b, p, ns, j + 1, room - 1, rfl, B1, by omega, hp1, pb, hl, by omega, by omega, fun v t H2 T hs hm B2 o2 => ?_⟩
      refine ⟨(by show 2 ≤ sizeLine; decide), fun a ha => ?_⟩
      have sn := same_new ha (.tup [.str "s", v])
      refine q _ (.s t) _ (.s upd_same (T.same sn)) ?_ hm ((B2.same sn).more (by omega)) (o1.trans (o2.trans (but_of sn)))
      show t.size + 1 = _
      omega
    · have n2 : left ≠ 0 := v1_ne d
      refine ⟨_, rfl, _, rfl, _, rfl, b, p, ns, j + 1, left, rfl, B1, by omega, hp1, pb, hl, by omega, by omega, fun v t H2 T hs hm B2 o2 => ?_⟩
      refine ⟨_, rfl, _, rfl, _, _, rfl, rfl, _, rfl, _, _, rfl, rfl, _, rfl, b, p, ns, j + 1 + left.toNat, room - 1 - left, rfl, B2, by omega, o2 _ _ hp1 pb, pb, hl, by omega, by omega, fun v' t' H3 T' hs' hm' B3 o3 => ?_⟩
      refine ⟨(by show 3 ≤ sizeLine; decide), fun a ha => ?_⟩
      have sn := same_new ha (.tup [.str "f", v, v'])
      obtain ⟨ys, hb⟩ := B2.some
      refine q _ (.f t t') _ (.f upd_same ((T.but o3 hb).same sn) (T'.same sn)) ?_ ?_ ((B3.same sn).more (by omega)) (o1.trans (o2.trans (o3.trans (but_of sn))))
      · show t.size + t'.size + 1 = _
        omega
      · intro m h
        rcases List.mem_append.mp h with h | h
        · exact hm m h
        · exact hm' m h
theorem trees_ok {f fT fP : Addr} {fd fdT fdP : FuncData} (F : Fun K "_law_tree" "_law_tree" sTree f fd) (b3 : Binds K fd ["_law_box_here", "_law_room", "_law_fresh"] []) (mTree : mg "_law_tree" = some (.ref f))
    (FT : Fun K "_law_take" "_law_take" sTake fT fdT) (bT : Binds K fdT ["_law_box_here", "_law_count"] []) (mT : mg "_law_take" = some (.ref fT))
    (FP : Fun K "_law_pick" "_law_pick" sPick fP fdP) (bP : Binds K fdP ["_law_box_here", "_law_things"] []) (mP : mg "_law_pick" = some (.ref fP)) (mLen : mg "len" = none) (mList : mg "list" = none) :
    ∀ n : Nat, FnOk P w K mg base CX0 (n + 2) f fd ["_law_box_here", "_law_room", "_law_fresh"] (spTree n)
  | 0 => none_left fun vs H Q E h => by
    obtain ⟨b, p, ns, j, room, _, _, _, _, _, _, h1, h2, _⟩ := h
    omega
  | n + 1 => ok_tree F b3 mTree (trees_ok F b3 mTree FT bT mT FP bP mP mLen mList n) FT bT mT FP bP mP mLen mList
end
end Rp

namespace Rp
open PySem L2
section
variable {P : Program} {w : World} {K : PySem.W.Frag} {mg : Str → Option Value} {base : Heap}
theorem big1000 : (1000 : Nat) ≤ sizeLine := by decide
end
end Rp

namespace Rp
open PySem L2
/-- the value of a TERM is an int or a tuple that stands -/
theorem TmAt.ty {K : PySem.W.Frag} {H : Hp} {v : V} {t : Tm} (h : TmAt H v t) : (∃ n, v = .int n ∧ t = .v n) ∨ (∃ a xs, v = .ref a ∧ H a = some (.tup xs) ∧ TyX K H v (.type "tuple") ∧ (∀ n, t ≠ .v n)) := by
  cases h with
  | v n => exact .inl ⟨n, rfl, rfl⟩
  | z h => exact .inr ⟨_, _, rfl, h, .base (.tup h), fun n e => by cases e⟩
  | s h _ => exact .inr ⟨_, _, rfl, h, .base (.tup h), fun n e => by cases e⟩
  | f h _ _ => exact .inr ⟨_, _, rfl, h, .base (.tup h), fun n e => by cases e⟩
def signHead : Tm → Str
  | .v _ => "" | .z => "0" | .s _ => "s" | .f _ _ => "f"
/-- a TERM that is no variable: its tuple, its parts -/
theorem TmAt.tupled {H : Hp} {v : V} {t : Tm} (h : TmAt H v t) (no : ∀ n, t ≠ .v n) : ∃ a ks, v = .ref a ∧ H a = some (.tup (.str (signHead t) :: ks)) ∧ ks.length = t.kids.length ∧ ∀ (i : Nat) (x : V) (k : Tm), ks[i]? = some x → t.kids[i]? = some k → TmAt H x k := by
  cases h with
  | v n => exact absurd rfl (no n)
  | z h => exact ⟨_, [], rfl, h, rfl, fun i x k h => by simp at h⟩
  | @s a x t h q =>
    refine ⟨_, [x], rfl, h, rfl, fun i y k h1 h2 => ?_⟩
    cases i with
    | zero => simp [Tm.kids] at h1 h2; subst h1 h2; exact q
    | succ i => simp at h1
  | @f a x y l r h q q' =>
    refine ⟨_, [x, y], rfl, h, rfl, fun i u k h1 h2 => ?_⟩
    match i with
    | 0 => simp [Tm.kids] at h1 h2; subst h1 h2; exact q
    | 1 => simp [Tm.kids] at h1 h2; subst h1 h2; exact q'
    | i + 2 => simp at h1
theorem signs_kids : ∀ {t : Tm}, (∀ n, t ≠ .v n) → t.signs = .str (signHead t) :: t.kids.flatMap Tm.signs
  | .v n, h => absurd rfl (h n)
  | .z, _ => rfl
  | .s t, _ => by simp [Tm.signs, Tm.kids, signHead]
  | .f l r, _ => by simp [Tm.signs, Tm.kids, signHead]
theorem kid_deep {t k : Tm} (h : k ∈ t.kids) : k.deep < t.deep := by
  cases t with
  | v n => simp [Tm.kids] at h
  | z => simp [Tm.kids] at h
  | s t => simp [Tm.kids] at h; subst h; exact Nat.lt_succ_self _
  | f l r =>
    simp [Tm.kids] at h
    rcases h with h | h <;> subst h <;> (simp only [Tm.deep]; omega)
theorem kid_size {t k : Tm} (h : k ∈ t.kids) : k.size < t.size := by
  cases t with
  | v n => simp [Tm.kids] at h
  | z => simp [Tm.kids] at h
  | s t => simp [Tm.kids] at h; subst h; exact Nat.lt_succ_self _
  | f l r =>
    simp [Tm.kids] at h
    rcases h with h | h <;> subst h <;> (simp only [Tm.size]; omega)
theorem take_flat {t : Tm} (i : Nat) : ((t.kids.take i).flatMap Tm.signs).length ≤ t.size := by
  cases t with
  | v n => simp [Tm.kids]
  | z => simp [Tm.kids]
  | s t =>
    match i with
    | 0 => simp
    | i + 1 => simp [Tm.kids, Tm.signs_len, Tm.size]
  | f l r =>
    match i with
    | 0 => simp
    | 1 => simp [Tm.kids, Tm.signs_len, Tm.size]; try omega
    | i + 2 => simp [Tm.kids, Tm.signs_len, Tm.size]; try omega
theorem cut_tail (x : V) (ks : List V) : cutV (x :: ks) (some 1) none = ks := by
  have e : HT.sIx (x :: ks).length 0 (some 1) = 1 := by
    have := HT.sIx_nat (x :: ks).length 0 1
    rw [List.length_cons] at this ⊢
    rw [show (some 1 : Option Int) = some ((1 : Nat) : Int) from rfl, this]
    omega
  unfold cutV
  rw [e, HT.sIx_none, List.drop_one, List.tail_cons, List.take_of_length_le (by simp)]
theorem cut_part (x : V) (ks : List V) : ¬ (HT.sIx (x :: ks).length 0 (some 1) = 0 ∧ HT.sIx (x :: ks).length (x :: ks).length none = (x :: ks).length) := by
  have := HT.sIx_nat (x :: ks).length 0 1
  rw [List.length_cons] at this ⊢
  rw [show (some 1 : Option Int) = some ((1 : Nat) : Int) from rfl, this]
  omega
section
variable {P : Program} {w : World} {K : PySem.W.Frag} {mg : Str → Option Value} {base : Heap}
theorem kit_ii : PySem.W.kitOne K (.type "int") (.type "int") = some true := kit_ty (by decide +kernel)
theorem kit_ti : PySem.W.kitOne K (.type "tuple") (.type "int") = some false := kit_ty (by decide +kernel)
theorem kit_si : PySem.W.kitOne K (.type "str") (.type "int") = some false := kit_ty (by decide +kernel)
end
end Rp

namespace Rp
open PySem PySem.Spec PyProof.Rows L2
/-- list.extend by any tuple object -/
theorem extend_by (l : Addr) (xs : Array Value) (n : Nat) (b : Addr) (od : Option Addr) (ys : Array Value) (m : Nat) (sl : Array (Option Value)) (short : ¬(!xs.isEmpty && Builtin.List.listTooLong (xs.size + ys.size)) = true) (h1 : xs.size ≤ sizeLine) (h2 : xs.size + ys.size ≤ sizeLine + 1) :
    Meets (Builtin.«list.extend» ⟨[.ref l, .ref b], []⟩) (fun _ R s => s.heap.get? l = some { cls := .type "list", data := .seq xs n } ∧ s.heap.get? b = some ⟨.type "tuple", od, .seq ys m, sl⟩ ∧
      R (.ok (.ret Value.none)) { s with heap := s.heap.update l (Obj.mapSeq fun x => x ++ ys) }) :=
  .of_wp fun prog w A R s ⟨hl, hb, h⟩ => by
    obtain ⟨hp, g, d, tk, os⟩ := s
    have g1 := sub_list_list
    have g2 := sub_tuple_list
    have g3 := sub_tuple_tuple
    have g4 := sub_list_tuple
    have both : (xs ++ ys).size ≤ sizeLine + 1 := by rw [Array.size_append]; exact h2
    wp_walk using (wpAny_updateSeq hl rfl (hz := h1) (_hz' := both)), wpAny_loadPart' hl, wpAny_loadPart' hb
    exact ⟨_, rfl, h⟩
section
variable {X : Cx}
/-- xs.extend(t), t a tuple -/
def rExtT (K : PySem.W.Frag) : V → List V → Hp → VK → Prop := fun x vs H Q => ∃ (l b : Addr) (xs zs : List V), x = .ref l ∧ vs = [.ref b] ∧ H l = some (.lst xs) ∧ SqT K H b zs ∧ xs.length + zs.length ≤ sizeLine ∧ Q .non (upd H l (.lst (xs ++ zs)))
theorem mt_extendT : MtM X "list.extend" (rExtT X.K) := by
  intro pins s σ H x vs v us Q I rx rv h
  obtain ⟨l, b, xs, zs, rfl, rfl, hH, hB, few, q⟩ := h
  cases rx
  obtain ⟨u, rfl, ru⟩ := rv.one
  cases ru
  obtain ⟨z, its, n, r, hl, e⟩ := I.lstM hH
  obtain ⟨its2, r2, ⟨⟨c2, d2, dat2, sl2⟩, e2, hc2, n2, hd2⟩, hz2⟩ := I.tuple hB
  simp only at hc2 hd2
  subst hc2 hd2
  have l1 := r.length
  have l2 := r2.length
  have room : its.toArray.size + its2.toArray.size ≤ sizeLine := by rw [List.size_toArray, List.size_toArray]; omega
  have short : ¬ (!its.toArray.isEmpty && Builtin.List.listTooLong (its.toArray.size + its2.toArray.size)) = true := by
    rw [notLongL room, Bool.and_false]; exact Bool.false_ne_true
  refine call_meets PySem.F.slot_list_extend ⟨_, e, rfl⟩ PySem.F.entry_list_extend (PySem.F.args_list_extend_2 _ _) (extend_by l its.toArray n b d2 its2.toArray n2 sl2 short (by rw [List.size_toArray]; omega) (by omega)) ⟨e, e2, ?_⟩
  refine ⟨.non, _, I.lset (its' := its ++ its2) (t' := s.toks) hH e (by simp) (r.append r2) ?_, rfl, q⟩
  rw [List.length_append]; omega
end
end Rp

namespace Rp
open PySem L2
/-- values and TERMs side by side -/
def AllAt (H : Hp) : List V → List Tm → Prop
  | [], [] => True
  | x :: xs, t :: ts => TmAt H x t ∧ AllAt H xs ts
  | _, _ => False
theorem AllAt.len {H : Hp} : ∀ {xs : List V} {ts : List Tm}, AllAt H xs ts → xs.length = ts.length
  | [], [], _ => rfl
  | x :: xs, t :: ts, h => congrArg (· + 1) (AllAt.len h.2)
theorem AllAt.append {H : Hp} : ∀ {xs ys : List V} {ts us : List Tm}, AllAt H xs ts → AllAt H ys us → AllAt H (xs ++ ys) (ts ++ us)
  | [], _, [], _, _, h => h
  | x :: xs, _, t :: ts, _, h, h' => ⟨h.1, AllAt.append h.2 h'⟩
theorem AllAt.parted {H : Hp} : ∀ {xs ys : List V} {ts : List Tm}, AllAt H (xs ++ ys) ts → ∃ t1 t2, ts = t1 ++ t2 ∧ AllAt H xs t1 ∧ AllAt H ys t2
  | [], _, ts, h => ⟨[], ts, rfl, trivial, h⟩
  | x :: xs, ys, t :: ts, h => by
    obtain ⟨t1, t2, e, h1, h2⟩ := AllAt.parted (xs := xs) h.2
    exact ⟨t :: t1, t2, by rw [e]; rfl, ⟨h.1, h1⟩, h2⟩
theorem AllAt.mono {H H' : Hp} (e : ∀ a xs, H a = some (.tup xs) → H' a = some (.tup xs)) : ∀ {xs : List V} {ts : List Tm}, AllAt H xs ts → AllAt H' xs ts
  | [], [], _ => trivial
  | x :: xs, t :: ts, h => ⟨h.1.mono e, AllAt.mono e h.2⟩
theorem AllAt.back {H : Hp} : ∀ {xs : List V} {ts : List Tm}, AllAt H xs ts → AllAt H xs.reverse ts.reverse
  | [], [], _ => trivial
  | x :: xs, t :: ts, h => by
    rw [List.reverse_cons, List.reverse_cons]
    exact (AllAt.back h.2).append ⟨h.1, trivial⟩
theorem AllAt.get {H : Hp} : ∀ {xs : List V} {ts : List Tm} {i : Nat} {x : V}, AllAt H xs ts → xs[i]? = some x → ∃ t, ts[i]? = some t ∧ TmAt H x t
  | x :: xs, t :: ts, 0, y, h, e => by simp at e; subst e; exact ⟨t, rfl, h.1⟩
  | x :: xs, t :: ts, i + 1, y, h, e => by simpa using AllAt.get h.2 (by simpa using e)
theorem AllAt.of {H : Hp} : ∀ {xs : List V} {ts : List Tm}, xs.length = ts.length → (∀ (i : Nat) (x : V) (k : Tm), xs[i]? = some x → ts[i]? = some k → TmAt H x k) → AllAt H xs ts
  | [], [], _, _ => trivial
  | x :: xs, t :: ts, l, h => ⟨h 0 x t rfl rfl, AllAt.of (by simpa using l) fun i y k a b => h (i + 1) y k (by simpa using a) (by simpa using b)⟩
def spParts : Sp := fun vs H Q _ => ∃ (v : V) (t : Tm), vs = [v] ∧ TmAt H v t ∧ ∀ (p : Addr) (ks : List V) (H' : Hp), H p = none → H' p = some (.tup ks) → AllAt H' ks t.kids → Same H H' → Q (.ref p) H'
def spInside : Sp := fun vs H Q _ => ∃ (v : V) (t : Tm), vs = [v] ∧ TmAt H v t ∧ t.size ≤ 1000 ∧ ∀ (p : Addr) (xs : List V) (H' : Hp), H p = none → H' p = some (.lst xs) → AllAt H' xs t.rpost.reverse → Same H H' → Q (.ref p) H'
def spSize : Sp := fun vs H Q _ => ∃ (v : V) (t : Tm), vs = [v] ∧ TmAt H v t ∧ t.size ≤ 1000 ∧ ∀ H', Same H H' → Q (.int (t.size : Nat)) H'
def spVars : Sp := fun vs H Q _ => ∃ (v : V) (t : Tm), vs = [v] ∧ TmAt H v t ∧ t.size ≤ 60 ∧ ∀ (p : Addr) (ns : List Int) (H' : Hp), H p = none → H' p = some (.lst (ns.map V.int)) → ns.Pairwise (· < ·) → (∀ k, k ∈ ns ↔ k ∈ t.nums) → Same H H' → Q (.ref p) H'
section
variable {P : Program} {w : World} {K : PySem.W.Frag} {mg : Str → Option Value} {base : Heap}
theorem scParts : FnScope ["term"] ["term"] (defScope sParts) := ⟨rfl, rfl, rfl, by decide +kernel, rfl, by decide +kernel, by decide +kernel⟩
theorem ok_parts {f : Addr} {fd : FuncData} (F : Fun K "_parts" "_parts" sParts f fd) (mIsi : mg "isinstance" = none) (mInt : mg "int" = none) : FnOk P w K mg base CX0 1 f fd ["term"] spParts := by
  refine F.ok scParts (fun vs H Q E h => ?_) (fun cdv A outer s H vs Q E hr h => ?_)
  · obtain ⟨v, t, rfl, _⟩ := h
    rfl
  obtain ⟨v, t, rfl, T, q⟩ := h
  refine ⟨_, pss_one (ps_ret (pe_ifExp (pt_val (pe_callB call_isi (by rfl) mIsi (by decide +kernel) (pa_cons (pv 0) (pa_cons (pe_bltn (v := .ty "int") (by rfl) mInt (by decide +kernel) rfl) pa_nil)))) (pe_tup pa_nil) (pe_slice sl_tup (pv 0) (po_some pe_int) po_none))), ?_⟩
  rcases T.ty (K := K) with ⟨m, rfl, rfl⟩ | ⟨a, xs, rfl, ha, ty, no⟩
  · refine ⟨_, rfl, _, _, _, _, true, rfl, .ty "int", .base (.int m), kit_ii, true, rfl, iteT ?_⟩
    exact ⟨(by show 0 ≤ sizeLine; decide), fun p hp => q p [] _ hp upd_same trivial (same_new hp _)⟩
  · obtain ⟨a', ks, e, ha', hk, hks⟩ := T.tupled no
    cases e
    refine ⟨_, rfl, _, _, _, _, false, rfl, .ty "int", ty, kit_ti, false, rfl, iteF ?_⟩
    refine ⟨_, rfl, 1, rfl, a, _, rfl, .inl (.inl ha'), cut_part _ _, fun p hp => ?_⟩
    rw [cut_tail]
    have s1 := same_new hp (.tup ks)
    exact q p ks _ hp upd_same (AllAt.of hk fun i x k a b => (hks i x k a b).same s1) s1
theorem scInside : FnScope ["term", "found", "todo", "part"] ["term"] (defScope sInside) := ⟨rfl, rfl, rfl, by decide +kernel, rfl, by decide +kernel, by decide +kernel⟩
/-- how many parts are still to come -/
def leftOf (n : Nat) (σ : List (Option V)) (H : Hp) : Nat := match σ with
  | _ :: some (V.ref p) :: _ => (match H p with
    | some (HO.lst xs) => n - xs.length
    | _ => 0)
  | _ => 0
theorem leftOf_is {n : Nat} {v : Option V} {p : Addr} {r : List (Option V)} {H : Hp} {xs : List V} (h : H p = some (.lst xs)) : leftOf n (v :: some (.ref p) :: r) H = n - xs.length := by
  unfold leftOf
  simp [h]
theorem ok_inside {f fP : Addr} {fd fdP : FuncData} (F : Fun K "inside_out" "inside_out" sInside f fd) (FP : Fun K "_parts" "_parts" sParts fP fdP) (bP : Binds K fdP ["term"] []) (mP : mg "_parts" = some (.ref fP)) (mIsi : mg "isinstance" = none) (mInt : mg "int" = none) :
    FnOk P w K mg base CX0 2 f fd ["term"] spInside := by
  have GP : FnOk P w K mg base CX0 1 fP fdP ["term"] spParts := ok_parts FP mIsi mInt
  refine F.ok scInside (fun vs H Q E h => ?_) (fun cdv A outer s H vs Q E hr h => ?_)
  · obtain ⟨v, t, rfl, _⟩ := h
    rfl
  obtain ⟨v, t, rfl, T, hz, q⟩ := h
  refine ⟨_, pss_cons (ps_set (i := 1) scInside.nd rfl (Or.inl rfl) (pe_lst pa_nil))
    (pss_cons (ps_set (i := 2) scInside.nd rfl (Or.inl rfl) (pe_lst (pa_cons (pv 0) pa_nil)))
    (pss_cons (ps_while PassesOwn.never (pt_truth (pv 2) (by intro _; rfl))
      (pss_cons (ps_set (i := 3) scInside.nd rfl (Or.inl rfl) (pe_bm0 PySem.F.plainAttrs_list PySem.F.slot_list_pop PySem.F.type_list_pop mt_pop (pv 2)))
      (pss_cons (ps_expr (pe_bm PySem.F.plainAttrs_list PySem.F.slot_list_append PySem.F.type_list_append mt_append (pv 1) (pa_cons (pv 3) pa_nil)))
      (pss_one (ps_expr (pe_bm PySem.F.plainAttrs_list PySem.F.slot_list_extend PySem.F.type_list_extend mt_extendT (pv 2) (pa_cons (pe_call GP hr rfl mP FP.kp bP .nil pass0 (pa_cons (pv 3) pa_nil)) pa_nil)))))))
    (pss_one (ps_ret (pe_revL (pv 1)))))), ?_⟩
  refine ⟨(by show 0 ≤ sizeLine; decide), fun p hp => ?_⟩
  refine ⟨_, rfl, (by show 1 ≤ sizeLine; decide), fun d hd => ?_⟩
  have s1 := same_new hp (.lst [])
  have s2 := same_new hd (.lst [v])
  have s12 : Same H _ := s1.trans s2
  have pd : p ≠ d := ne_of_none upd_same hd
  dsimp only [gName, tSeq]
  refine while_by (fun σ H2 => ∃ (fxs txs : List V) (fs ts : List Tm) (x : Option V), σ = [some v, some (.ref p), some (.ref d), x] ∧ H2 p = some (.lst fxs) ∧ H2 d = some (.lst txs) ∧ AllAt H2 fxs fs ∧ AllAt H2 txs ts ∧ fs ++ ts.reverse.flatMap Tm.rpost = t.rpost ∧ Same H H2)
    (leftOf t.size) ⟨[], [v], [], [t], none, rfl, s2 _ _ upd_same, upd_same, trivial, ⟨T.same s12, trivial⟩, by simp, s12⟩ ?_ (fun σ H Q Q' m ⟨v, hv, k, hk, q⟩ => ⟨v, hv, k, hk, m _ _ q⟩)
  rintro σ H2 ⟨fxs, txs, fs, ts, x, rfl, h1, h2, A1, A2, eq, sH⟩
  refine ⟨_, rfl, !txs.isEmpty, .inl ⟨txs, .inl (.inl h2), rfl⟩, ?_⟩
  have tot := congrArg List.length eq
  rw [List.length_append, Tm.rpost_len, ← A1.len] at tot
  rcases List.eq_nil_or_concat txs with e | ⟨M, y, e⟩
  · subst e
    refine iteF ?_
    have e2 : ts = [] := by have := A2.len; cases ts with | nil => rfl | cons => simp at this
    subst e2
    have e3 : fs = t.rpost := by simpa using eq
    subst e3
    refine ⟨_, rfl, p, _, rfl, .inl (.inl h1), fun r hr2 => ?_⟩
    have s3 := same_new hr2 (.lst fxs.reverse)
    refine q r _ _ (sH.free hr2) upd_same (A1.back.mono fun a xs z => s3 _ _ z) (sH.trans s3)
  · rw [List.concat_eq_append] at e
    subst e
    have ne : (!(M ++ [y]).isEmpty) = true := by simp
    rw [ne]
    refine iteT ?_
    obtain ⟨L, k', e2, AM, Ay⟩ := A2.parted
    subst e2
    obtain ⟨k, rfl, Tk⟩ : ∃ k, k' = [k] ∧ TmAt H2 y k := by
      match k', Ay with
      | [k], Ay => exact ⟨k, rfl, Ay.1⟩
    have ek : fs ++ (k :: (k.kids.reverse.flatMap Tm.rpost ++ L.reverse.flatMap Tm.rpost)) = t.rpost := by
      rw [← eq]
      simp [Tm.rpost_kids k]
    have room : fxs.length < t.size := by
      have := congrArg List.length ek
      rw [List.length_append, Tm.rpost_len, ← A1.len, List.length_cons] at this
      omega
    have big := big1000
    -- part = todo.pop()
    refine ⟨_, rfl, .inl ⟨rfl, _, .inl (.inl h2)⟩, d, _, y, rfl, rfl, h2, by simp, ?_⟩
    rw [List.dropLast_concat]
    have dp : d ≠ p := fun z => pd z.symm
    have t3 : ∀ a xs, H2 a = some (.tup xs) → upd H2 d (.lst M) a = some (.tup xs) := fun a xs z => by rw [upd_ne (ne_of z h2 (by intro z; cases z))]; exact z
    -- found.append(part)
    refine ⟨_, rfl, .inl ⟨rfl, fxs, .inl (.inl (by rw [upd_ne pd]; exact h1))⟩, _, rfl, p, fxs, y, rfl, rfl, (by rw [upd_ne pd]; exact h1), by omega, ?_⟩
    have h1' : (upd (upd H2 d (.lst M)) p (.lst (fxs ++ [y]))) p = some (.lst (fxs ++ [y])) := upd_same
    have h2' : (upd (upd H2 d (.lst M)) p (.lst (fxs ++ [y]))) d = some (.lst M) := by rw [upd_ne dp]; exact upd_same
    have t4 : ∀ a xs, H2 a = some (.tup xs) → (upd (upd H2 d (.lst M)) p (.lst (fxs ++ [y]))) a = some (.tup xs) := fun a xs z => by
      rw [upd_ne (ne_of z h1 (by intro z; cases z))]; exact t3 a xs z
    have pn : H p = none := hp
    have dn : H d = none := s1.free hd
    have sH4 : Same H (upd (upd H2 d (.lst M)) p (.lst (fxs ++ [y]))) := fun b o z => by
      rw [upd_ne (ne_of_none z pn), upd_ne (ne_of_none z dn)]; exact sH b o z
    -- todo.extend(_parts(part))
    refine ⟨_, rfl, .inl ⟨rfl, M, .inl (.inl h2')⟩, _, rfl, y, k, rfl, Tk.mono t4, fun g ks H5 hg h5 A5 s5 => ?_⟩
    have kl := A5.len
    have lim : M.length + ks.length ≤ sizeLine := by
      have a1 := congrArg List.length ek
      have a2 : k.kids.length ≤ 2 := by cases k <;> simp [Tm.kids]
      have a3 : L.length ≤ (L.reverse.flatMap Tm.rpost).length := by
        have : ∀ l : List Tm, l.length ≤ (l.flatMap Tm.rpost).length := by
          intro l
          induction l with
          | nil => simp
          | cons z l ih => rw [List.flatMap_cons, List.length_append, Tm.rpost_len, List.length_cons]; have := Tm.size_pos z; omega
        have := this L.reverse
        rwa [List.length_reverse] at this
      have a4 := AM.len
      rw [List.length_append, List.length_cons, List.length_append, Tm.rpost_len] at a1
      have a5 : (1000 : Nat) + 1000 ≤ sizeLine := by decide
      omega
    refine ⟨d, g, M, ks, rfl, rfl, s5 _ _ h2', .inl (.inl h5), lim, ?_⟩
    have h1'' := s5 _ _ h1'
    have t6 : ∀ a xs, H5 a = some (.tup xs) → upd H5 d (.lst (M ++ ks)) a = some (.tup xs) := fun a xs z => by rw [upd_ne (ne_of z (s5 _ _ h2') (by intro z; cases z))]; exact z
    have t7 : ∀ a xs, H2 a = some (.tup xs) → upd H5 d (.lst (M ++ ks)) a = some (.tup xs) := fun a xs z => t6 a xs (s5 _ _ (t4 a xs z))
    have h1d : (upd H5 d (.lst (M ++ ks))) p = some (.lst (fxs ++ [y])) := by rw [upd_ne pd]; exact h1''
    refine ⟨⟨fxs ++ [y], M ++ ks, fs ++ [k], L ++ k.kids, some y, rfl, h1d, upd_same, (A1.mono t7).append ⟨Tk.mono t7, trivial⟩, (AM.mono t7).append (A5.mono t6), ?_, ?_⟩, ?_⟩
    · rw [← ek]; simp
    · intro b o z
      rw [upd_ne (ne_of_none z dn)]
      exact s5 _ _ (sH4 b o z)
    · show leftOf t.size (some v :: some (.ref p) :: _) _ < leftOf t.size (some v :: some (.ref p) :: _) H2
      rw [leftOf_is h1d, leftOf_is h1, List.length_append, List.length_singleton]
      omega
end
end Rp

namespace Rp
open PySem L2 RZ
/-- [.. for a, b in zip(xs, ys)], both lists or both tuples, as long -/
theorem lc_pairs {J : It} {xs ys : List V} {g : TG} {tt : TT} {te : TE} {vs : List Nat} {σ : L2.St} {H1 : Hp} {D : Addr} {Qd : Hp → Prop} (same : xs.length = ys.length) (Pv : Nat → Hp → Prop)
    (stops : ∀ H, Pv xs.length H → J.stop xs.length H) (goes : ∀ i H, i < xs.length → Pv i H → J.go i H)
    (gives : ∀ i H v H', Pv i H → J.yld i H v H' → ∃ T x y, v = .ref T ∧ xs[i]? = some x ∧ ys[i]? = some y ∧ H T = none ∧ H' = upd H T (.tup [x, y]))
    (h0 : Pv 0 (upd H1 D (.lst [])))
    (hs : ∀ (i : Nat) (x y : V) (T : Addr) (H : Hp), xs[i]? = some x → ys[i]? = some y → Pv i H → H T = none → g (.ref T) (wipe σ vs) (upd H T (.tup [x, y])) fun σ2 H2 => wipe σ2 vs = wipe σ vs ∧
      tt σ2 H2 fun b H3 => if b = true then te σ2 H3 fun y H4 => ∃ acc, H4 D = some (.lst acc) ∧ acc.length < sizeLine ∧ Pv (i + 1) (upd H4 D (.lst (acc ++ [y]))) else Pv (i + 1) H3)
    (hd : ∀ H, Pv xs.length H → Qd H) :
    ∃ W : Nat → Nat → Hp → Prop, (∃ m, W 0 m (upd H1 D (.lst []))) ∧ ∀ i m H, W i m H → (J.stop i H ∧ Qd H) ∨
      (J.go i H ∧ ∃ Nx : Hp → Prop, (∀ H', Nx H' → ∃ m', m' < m ∧ W (i + 1) m' H') ∧ ∀ x H', J.yld i H x H' → g x (wipe σ vs) H' fun σ2 H2 => wipe σ2 vs = wipe σ vs ∧
        tt σ2 H2 fun b H3 => if b = true then te σ2 H3 fun y H4 => ∃ acc, H4 D = some (.lst acc) ∧ acc.length < sizeLine ∧ Nx (upd H4 D (.lst (acc ++ [y]))) else Nx H3) := by
  refine ⟨fun i m H => m + i = xs.length ∧ Pv i H, ⟨xs.length, by simp, h0⟩, ?_⟩
  rintro i m H ⟨em, p⟩
  rcases Nat.lt_or_ge i xs.length with lt | ge
  · refine .inr ⟨goes i H lt p, Pv (i + 1), fun H' p' => ⟨m - 1, by omega, by omega, p'⟩, fun v H' y => ?_⟩
    obtain ⟨T, x, y', rfl, hx, hy, hT, rfl⟩ := gives i H v H' p y
    exact hs i x y' T H hx hy p hT
  · have e : i = xs.length := by omega
    subst e
    exact .inl ⟨stops H p, hd H p⟩
def spSame (n : Nat) : Sp := fun vs H Q _ => ∃ (x y : V) (m : Nat), vs = [x, y] ∧ n = m + 1 ∧ Alike H m x y ∧ ∀ H', Same H H' → Q (.bl true) H'
section
variable {P : Program} {w : World} {K : PySem.W.Frag} {mg : Str → Option Value} {base : Heap}
structure SameG (mg : Str → Option Value) : Prop where
  isi : mg "isinstance" = none
  list : mg "list" = none
  tuple : mg "tuple" = none
  len : mg "len" = none
  all : mg "all" = none
  zip : mg "zip" = none
  str : mg "str" = none
  int : mg "int" = none
  bool : mg "bool" = none
theorem kitB_of {K : PySem.W.Frag} {a b : String} {r : Bool} (h : kitB a b = some r) : PySem.W.kitOne K (.type a) (.type b) = some r := h
theorem kit_lt {K : PySem.W.Frag} {a : String} {p r : Bool} (h1 : kitB a "list" = some p) (h2 : kitB a "tuple" = some r) : PySem.W.kitAny K (.type a) [.type "list", .type "tuple"] = some (p || r) := by
  refine kitAny_cons (kitB_of h1) (fun e => ?_) (fun e => by rw [e]; rfl)
  refine kitAny_cons (kitB_of h2) (fun e2 => by rw [e, e2]; exact kitAny_nil) (fun e2 => by rw [e, e2]; rfl)
end
end Rp

/-! Data of any depth: what stands as which, and which data are TERMs. -/
namespace Rp
open PySem L2
mutual
/-- the value v stands as the data d; its lists are others than the box b -/
def DAt (H : Hp) (b : Addr) : V → PyData → Prop
  | v, .none => v = .non
  | v, .bool c => v = .bl c
  | v, .int i => v = .int i
  | v, .str x => v = .str x
  | v, .list ds => ∃ (a : Addr) (xs : List V), v = .ref a ∧ a ≠ b ∧ H a = some (.lst xs) ∧ DAtAll H b xs ds
  | v, .tuple ds => ∃ (a : Addr) (xs : List V), v = .ref a ∧ H a = some (.tup xs) ∧ DAtAll H b xs ds
  | _, .dict _ => False
def DAtAll (H : Hp) (b : Addr) : List V → List PyData → Prop
  | xs, [] => xs = []
  | xs, d :: ds => ∃ (x : V) (r : List V), xs = x :: r ∧ DAt H b x d ∧ DAtAll H b r ds
end
mutual
theorem DAt.dp {K : PySem.W.Frag} {H : Hp} {b : Addr} : ∀ (d : PyData) {v : V}, DAt H b v d → Dp K H v d
  | .none, _, h => by unfold DAt at h; subst h; exact .non
  | .bool _, _, h => by unfold DAt at h; subst h; exact .bl _
  | .int _, _, h => by unfold DAt at h; subst h; exact .int _
  | .str _, _, h => by unfold DAt at h; subst h; exact .str _
  | .list ds, _, h => by
    unfold DAt at h
    obtain ⟨a, xs, rfl, _, e, q⟩ := h
    exact .lst (.inl (.inl e)) (DAtAll.dp ds q)
  | .tuple ds, _, h => by
    unfold DAt at h
    obtain ⟨a, xs, rfl, e, q⟩ := h
    exact .tup (.inl (.inl e)) (DAtAll.dp ds q)
  | .dict _, _, h => by unfold DAt at h; exact h.elim
theorem DAtAll.dp {K : PySem.W.Frag} {H : Hp} {b : Addr} : ∀ (ds : List PyData) {xs : List V}, DAtAll H b xs ds → DpAll K H xs ds
  | [], _, h => by unfold DAtAll at h; subst h; exact .nil
  | d :: ds, _, h => by
    unfold DAtAll at h
    obtain ⟨x, r, rfl, q, q'⟩ := h
    exact .cons (DAt.dp d q) (DAtAll.dp ds q')
end
mutual
theorem DAt.mono {H H' : Hp} {b : Addr} (et : ∀ a xs, H a = some (.tup xs) → H' a = some (.tup xs)) (el : ∀ a xs, a ≠ b → H a = some (.lst xs) → H' a = some (.lst xs)) : ∀ (d : PyData) {v : V}, DAt H b v d → DAt H' b v d
  | .none, _, h => by unfold DAt at h ⊢; exact h
  | .bool _, _, h => by unfold DAt at h ⊢; exact h
  | .int _, _, h => by unfold DAt at h ⊢; exact h
  | .str _, _, h => by unfold DAt at h ⊢; exact h
  | .list ds, _, h => by
    unfold DAt at h ⊢
    obtain ⟨a, xs, e, n, q, q'⟩ := h
    exact ⟨a, xs, e, n, el _ _ n q, DAtAll.mono et el ds q'⟩
  | .tuple ds, _, h => by
    unfold DAt at h ⊢
    obtain ⟨a, xs, e, q, q'⟩ := h
    exact ⟨a, xs, e, et _ _ q, DAtAll.mono et el ds q'⟩
  | .dict _, _, h => by unfold DAt at h; exact h.elim
theorem DAtAll.mono {H H' : Hp} {b : Addr} (et : ∀ a xs, H a = some (.tup xs) → H' a = some (.tup xs)) (el : ∀ a xs, a ≠ b → H a = some (.lst xs) → H' a = some (.lst xs)) : ∀ (ds : List PyData) {xs : List V}, DAtAll H b xs ds → DAtAll H' b xs ds
  | [], _, h => by unfold DAtAll at h ⊢; exact h
  | d :: ds, _, h => by
    unfold DAtAll at h ⊢
    obtain ⟨x, r, e, q, q'⟩ := h
    exact ⟨x, r, e, DAt.mono et el d q, DAtAll.mono et el ds q'⟩
end
theorem DAt.same {H H' : Hp} {b : Addr} (e : Same H H') {d : PyData} {v : V} (h : DAt H b v d) : DAt H' b v d := DAt.mono (fun a _ q => e a _ q) (fun a _ _ q => e a _ q) d h
theorem DAt.but {H H' : Hp} {b : Addr} {ys : List V} (e : But b H H') (hb : H b = some (.lst ys)) {d : PyData} {v : V} (h : DAt H b v d) : DAt H' b v d :=
  DAt.mono (fun a _ q => e a _ q (ne_of q hb (by intro z; cases z))) (fun a _ n q => e a _ q n) d h
theorem DAtAll.same {H H' : Hp} {b : Addr} (e : Same H H') {ds : List PyData} {xs : List V} (h : DAtAll H b xs ds) : DAtAll H' b xs ds := DAtAll.mono (fun a _ q => e a _ q) (fun a _ _ q => e a _ q) ds h
theorem DAtAll.but {H H' : Hp} {b : Addr} {ys : List V} (e : But b H H') (hb : H b = some (.lst ys)) {ds : List PyData} {xs : List V} (h : DAtAll H b xs ds) : DAtAll H' b xs ds :=
  DAtAll.mono (fun a _ q => e a _ q (ne_of q hb (by intro z; cases z))) (fun a _ n q => e a _ q n) ds h
theorem DAtAll.nil {H : Hp} {b : Addr} : DAtAll H b [] [] := by unfold DAtAll; rfl
theorem DAtAll.cons {H : Hp} {b : Addr} {x : V} {xs : List V} {d : PyData} {ds : List PyData} (h : DAt H b x d) (h' : DAtAll H b xs ds) : DAtAll H b (x :: xs) (d :: ds) := by unfold DAtAll; exact ⟨x, xs, rfl, h, h'⟩
theorem DAtAll.head {H : Hp} {b : Addr} {x : V} {xs : List V} {ds : List PyData} (h : DAtAll H b (x :: xs) ds) : ∃ d ds', ds = d :: ds' ∧ DAt H b x d ∧ DAtAll H b xs ds' := by
  cases ds with
  | nil => unfold DAtAll at h; cases h
  | cons d ds =>
    unfold DAtAll at h
    obtain ⟨y, r, e, q, q'⟩ := h
    cases e
    exact ⟨d, ds, rfl, q, q'⟩
theorem DAtAll.len {H : Hp} {b : Addr} : ∀ {xs : List V} {ds : List PyData}, DAtAll H b xs ds → xs.length = ds.length
  | xs, [], h => by unfold DAtAll at h; subst h; rfl
  | xs, d :: ds, h => by
    unfold DAtAll at h
    obtain ⟨x, r, rfl, _, q⟩ := h
    rw [List.length_cons, List.length_cons, DAtAll.len q]
theorem DAtAll.append {H : Hp} {b : Addr} : ∀ {xs ys : List V} {ds es : List PyData}, DAtAll H b xs ds → DAtAll H b ys es → DAtAll H b (xs ++ ys) (ds ++ es)
  | xs, ys, [], es, h, h' => by unfold DAtAll at h; subst h; exact h'
  | xs, ys, d :: ds, es, h, h' => by
    unfold DAtAll at h
    obtain ⟨x, r, rfl, q, q'⟩ := h
    exact .cons q (DAtAll.append q' h')
theorem DAtAll.parted {H : Hp} {b : Addr} : ∀ {xs ys : List V} {ds : List PyData}, DAtAll H b (xs ++ ys) ds → ∃ d1 d2, ds = d1 ++ d2 ∧ DAtAll H b xs d1 ∧ DAtAll H b ys d2
  | [], ys, ds, h => ⟨[], ds, rfl, .nil, h⟩
  | x :: xs, ys, ds, h => by
    obtain ⟨d, ds', rfl, q, q'⟩ := DAtAll.head h
    obtain ⟨d1, d2, rfl, h1, h2⟩ := DAtAll.parted q'
    exact ⟨d :: d1, d2, rfl, .cons q h1, h2⟩
theorem DAtAll.take {H : Hp} {b : Addr} : ∀ {xs : List V} {ds : List PyData} (n : Nat), DAtAll H b xs ds → DAtAll H b (xs.take n) (ds.take n)
  | xs, ds, 0, h => by simp; exact .nil
  | [], ds, n + 1, h => by have := h.len; cases ds with | nil => simpa using DAtAll.nil | cons => simp at this
  | x :: xs, ds, n + 1, h => by
    obtain ⟨d, ds', rfl, q, q'⟩ := DAtAll.head h
    exact .cons q (DAtAll.take n q')
theorem DAtAll.drop {H : Hp} {b : Addr} : ∀ {xs : List V} {ds : List PyData} (n : Nat), DAtAll H b xs ds → DAtAll H b (xs.drop n) (ds.drop n)
  | xs, ds, 0, h => by simpa using h
  | [], ds, n + 1, h => by have := h.len; cases ds with | nil => simpa using DAtAll.nil | cons => simp at this
  | x :: xs, ds, n + 1, h => by
    obtain ⟨d, ds', rfl, q, q'⟩ := DAtAll.head h
    simpa using DAtAll.drop n q'
theorem DAtAll.back {H : Hp} {b : Addr} : ∀ {xs : List V} {ds : List PyData}, DAtAll H b xs ds → DAtAll H b xs.reverse ds.reverse
  | [], ds, h => by have := h.len; cases ds with | nil => simpa using DAtAll.nil | cons => simp at this
  | x :: xs, ds, h => by
    obtain ⟨d, ds', rfl, q, q'⟩ := DAtAll.head h
    rw [List.reverse_cons, List.reverse_cons]
    exact (DAtAll.back q').append (.cons q .nil)
theorem DAtAll.get {H : Hp} {b : Addr} : ∀ {xs : List V} {ds : List PyData} {i : Nat} {x : V}, DAtAll H b xs ds → xs[i]? = some x → ∃ d, ds[i]? = some d ∧ DAt H b x d
  | [], ds, i, x, h, e => by simp at e
  | y :: xs, ds, 0, x, h, e => by
    obtain ⟨d, ds', rfl, q, q'⟩ := DAtAll.head h
    simp at e
    subst e
    exact ⟨d, rfl, q⟩
  | y :: xs, ds, i + 1, x, h, e => by
    obtain ⟨d, ds', rfl, q, q'⟩ := DAtAll.head h
    simpa using DAtAll.get q' (by simpa using e)
/-! ### TERMs as data -/
def tmD : Tm → PyData
  | .v n => .int n
  | .z => .tuple [.str "0"]
  | .s t => .tuple [.str "s", tmD t]
  | .f l r => .tuple [.str "f", tmD l, tmD r]
theorem TmAt.dat {H : Hp} {b : Addr} {v : V} {t : Tm} (h : TmAt H v t) : DAt H b v (tmD t) := by
  induction h with
  | v n => unfold tmD DAt; rfl
  | z h => unfold tmD DAt; exact ⟨_, _, rfl, h, .cons (by unfold DAt; rfl) .nil⟩
  | s h _ ih => unfold tmD DAt; exact ⟨_, _, rfl, h, .cons (by unfold DAt; rfl) (.cons ih .nil)⟩
  | f h _ _ ih ih' => unfold tmD DAt; exact ⟨_, _, rfl, h, .cons (by unfold DAt; rfl) (.cons ih (.cons ih' .nil))⟩
theorem DAtAll.nil_of {H : Hp} {b : Addr} {xs : List V} (h : DAtAll H b xs []) : xs = [] := by unfold DAtAll at h; exact h
theorem DAtAll.cons_of {H : Hp} {b : Addr} {xs : List V} {d : PyData} {ds : List PyData} (h : DAtAll H b xs (d :: ds)) : ∃ x r, xs = x :: r ∧ DAt H b x d ∧ DAtAll H b r ds := by unfold DAtAll at h; exact h
theorem DAt.str_of {H : Hp} {b : Addr} {v : V} {x : Str} (h : DAt H b v (.str x)) : v = .str x := by unfold DAt at h; exact h
theorem DAt.int_of {H : Hp} {b : Addr} {v : V} {x : Int} (h : DAt H b v (.int x)) : v = .int x := by unfold DAt at h; exact h
theorem DAt.tup_of {H : Hp} {b : Addr} {v : V} {ds : List PyData} (h : DAt H b v (.tuple ds)) : ∃ (a : Addr) (xs : List V), v = .ref a ∧ H a = some (.tup xs) ∧ DAtAll H b xs ds := by unfold DAt at h; exact h
theorem DAt.lst_of {H : Hp} {b : Addr} {v : V} {ds : List PyData} (h : DAt H b v (.list ds)) : ∃ (a : Addr) (xs : List V), v = .ref a ∧ a ≠ b ∧ H a = some (.lst xs) ∧ DAtAll H b xs ds := by unfold DAt at h; exact h
theorem DAt.tm {H : Hp} {b : Addr} : ∀ (t : Tm) {v : V}, DAt H b v (tmD t) → TmAt H v t
  | .v n, _, h => by rw [DAt.int_of h]; exact .v n
  | .z, _, h => by
    obtain ⟨a, xs, rfl, e, q⟩ := DAt.tup_of h
    obtain ⟨x, r, rfl, q1, q2⟩ := q.cons_of
    cases q1.str_of
    cases q2.nil_of
    exact .z e
  | .s t, _, h => by
    obtain ⟨a, xs, rfl, e, q⟩ := DAt.tup_of h
    obtain ⟨x, r, rfl, q1, q2⟩ := q.cons_of
    obtain ⟨y, r', rfl, q3, q4⟩ := q2.cons_of
    cases q1.str_of
    cases q4.nil_of
    exact .s e (DAt.tm t q3)
  | .f l r, _, h => by
    obtain ⟨a, xs, rfl, e, q⟩ := DAt.tup_of h
    obtain ⟨x, r1, rfl, q1, q2⟩ := q.cons_of
    obtain ⟨y, r2, rfl, q3, q4⟩ := q2.cons_of
    obtain ⟨y', r3, rfl, q5, q6⟩ := q4.cons_of
    cases q1.str_of
    cases q6.nil_of
    exact .f e (DAt.tm l q3) (DAt.tm r q5)
def IsT (d : PyData) : Prop := ∃ t, d = tmD t ∧ ∀ n ∈ t.nums, 0 ≤ n ∧ n ≤ 99
/-- a sign with as many parts as it takes -/
def Shaped (d : PyData) : Prop := ∃ (x : Str) (ds : List PyData), d = .tuple (.str x :: ds) ∧ ((x = "0" ∧ ds.length = 0) ∨ (x = "s" ∧ ds.length = 1) ∨ (x = "f" ∧ ds.length = 2))
theorem isT_shaped {x : Str} {ds : List PyData} (h : (x = "0" ∧ ds.length = 0) ∨ (x = "s" ∧ ds.length = 1) ∨ (x = "f" ∧ ds.length = 2)) : IsT (.tuple (.str x :: ds)) ↔ ∀ d ∈ ds, IsT d := by
  have s0 : ("0" : Str) ≠ "s" := by decide +kernel
  have s1 : ("0" : Str) ≠ "f" := by decide +kernel
  have s2 : ("s" : Str) ≠ "f" := by decide +kernel
  rcases h with ⟨rfl, h⟩ | ⟨rfl, h⟩ | ⟨rfl, h⟩
  · match ds, h with
    | [], _ => exact ⟨fun _ d hd => by simp at hd, fun _ => ⟨.z, rfl, fun n hn => by simp [Tm.nums] at hn⟩⟩
  · match ds, h with
    | [d], _ =>
      constructor
      · rintro ⟨t, e, g⟩ d' hd
        simp at hd
        subst hd
        cases t with
        | s t => unfold tmD at e; injection e with e; injection e with _ e; injection e with e _; exact ⟨t, e, g⟩
        | v n => cases e
        | z => unfold tmD at e; injection e with e; injection e with e _; injection e with e; exact absurd e.symm s0
        | f l r => unfold tmD at e; injection e with e; injection e with e _; injection e with e; exact absurd e s2
      · intro h
        obtain ⟨t, rfl, g⟩ := h d (by simp)
        exact ⟨.s t, rfl, g⟩
  · match ds, h with
    | [d, d'], _ =>
      constructor
      · rintro ⟨t, e, g⟩ d2 hd
        cases t with
        | f l r =>
          unfold tmD at e
          injection e with e
          injection e with _ e
          injection e with e1 e
          injection e with e2 _
          simp at hd
          rcases hd with rfl | rfl
          · exact ⟨l, e1, fun n hn => g n (by simp [Tm.nums, hn])⟩
          · exact ⟨r, e2, fun n hn => g n (by simp [Tm.nums, hn])⟩
        | v n => cases e
        | z => unfold tmD at e; injection e with e; injection e with e _; injection e with e; exact absurd e.symm s1
        | s t => unfold tmD at e; injection e with e; injection e with e _; injection e with e; exact absurd e.symm s2
      · intro h
        obtain ⟨l, rfl, g1⟩ := h d (by simp)
        obtain ⟨r, rfl, g2⟩ := h d' (by simp)
        refine ⟨.f l r, rfl, fun n hn => ?_⟩
        rcases List.mem_append.mp hn with q | q
        · exact g1 n q
        · exact g2 n q
theorem isT_int {n : Int} : IsT (.int n) ↔ 0 ≤ n ∧ n ≤ 99 := by
  constructor
  · rintro ⟨t, e, g⟩
    cases t with
    | v m => unfold tmD at e; injection e with e; subst e; exact g _ (by simp [Tm.nums])
    | z => cases e
    | s t => cases e
    | f l r => cases e
  · intro h
    exact ⟨.v n, rfl, fun m hm => by simp [Tm.nums] at hm; subst hm; exact h⟩
theorem isT_other {d : PyData} (h : ¬ Shaped d) (h' : ∀ n, d ≠ .int n) : ¬ IsT d := by
  rintro ⟨t, rfl, g⟩
  cases t with
  | v n => exact h' n rfl
  | z => exact h ⟨"0", [], rfl, .inl ⟨rfl, rfl⟩⟩
  | s t => exact h ⟨"s", [_], rfl, .inr (.inl ⟨rfl, rfl⟩)⟩
  | f l r => exact h ⟨"f", [_, _], rfl, .inr (.inr ⟨rfl, rfl⟩)⟩
end Rp

namespace Rp
open PySem PySem.Spec PyProof.Rows L2
def tyD : PyData → String
  | .none => "NoneType" | .bool _ => "bool" | .int _ => "int" | .str _ => "str" | .list _ => "list" | .tuple _ => "tuple" | .dict _ => "dict"
theorem DAt.tyx {K : PySem.W.Frag} {H : Hp} {b : Addr} {v : V} {d : PyData} (h : DAt H b v d) : TyX K H v (.type (tyD d)) := by
  cases d with
  | none => unfold DAt at h; subst h; exact .base .non
  | bool c => unfold DAt at h; subst h; exact .base (.bl c)
  | int i => unfold DAt at h; subst h; exact .base (.int i)
  | str x => unfold DAt at h; subst h; exact .base (.str x)
  | list ds => obtain ⟨a, xs, rfl, _, e, _⟩ := h.lst_of; exact .base (.lst e)
  | tuple ds => obtain ⟨a, xs, rfl, e, _⟩ := h.tup_of; exact .base (.tup e)
  | dict ds => unfold DAt at h; exact h.elim
def isI : PyData → Bool | .int _ => true | .bool _ => true | _ => false
def isB : PyData → Bool | .bool _ => true | _ => false
def isS : PyData → Bool | .str _ => true | _ => false
def isU : PyData → Bool | .tuple _ => true | _ => false
def isL : PyData → Bool | .list _ => true | _ => false
def isNum : PyData → Bool | .int _ => true | _ => false
section
variable {K : PySem.W.Frag}
theorem kitI (d : PyData) : PySem.W.kitOne K (.type (tyD d)) (.type "int") = some (isI d) := by cases d <;> exact kit_ty (by simp only [tyD, isI]; decide +kernel)
theorem kitB' (d : PyData) : PySem.W.kitOne K (.type (tyD d)) (.type "bool") = some (isB d) := by cases d <;> exact kit_ty (by simp only [tyD, isB]; decide +kernel)
theorem kitS (d : PyData) : PySem.W.kitOne K (.type (tyD d)) (.type "str") = some (isS d) := by cases d <;> exact kit_ty (by simp only [tyD, isS]; decide +kernel)
theorem kitU (d : PyData) : PySem.W.kitOne K (.type (tyD d)) (.type "tuple") = some (isU d) := by cases d <;> exact kit_ty (by simp only [tyD, isU]; decide +kernel)
theorem kitL (d : PyData) : PySem.W.kitOne K (.type (tyD d)) (.type "list") = some (isL d) := by cases d <;> exact kit_ty (by simp only [tyD, isL]; decide +kernel)
end
def okD (d : PyData) : Prop := d.canLay0 = true ∧ d.depth ≤ 60
theorem okAll {ds : List PyData} (h : PyData.canLayAll0 ds = true) (k : Nat) (hk : PyData.depthAll ds ≤ k) : ∀ d ∈ ds, d.canLay0 = true ∧ d.depth ≤ k := by
  induction ds with
  | nil => intro d hd; simp at hd
  | cons x ds ih =>
    simp only [PyData.canLayAll0, Bool.and_eq_true] at h
    simp only [PyData.depthAll] at hk
    intro d hd
    rcases List.mem_cons.mp hd with rfl | hd
    · exact ⟨h.1, by omega⟩
    · exact ih h.2 (by omega) d hd
theorem okD.tup {ds : List PyData} (h : okD (.tuple ds)) : ∀ d ∈ ds, okD d := fun d hd => by
  have h1 : PyData.canLayAll0 ds = true := by have := h.1; simpa [PyData.canLay0] using this
  have h2 : PyData.depthAll ds + 1 ≤ 60 := by have := h.2; simpa [PyData.depth] using this
  have := okAll h1 59 (by omega) d hd
  exact ⟨this.1, by omega⟩
theorem eqv_str {x : Str} {d : PyData} : PyData.eqv (.str x) d = true ↔ d = .str x := by
  cases d <;> simp [PyData.eqv]
  exact eq_comm
theorem eqv_tup {xs ys : List PyData} : PyData.eqv (.tuple xs) (.tuple ys) = PyData.eqvAll xs ys := by simp only [PyData.eqv]
theorem eqv_int {i j : Int} : PyData.eqv (.int i) (.int j) = (i == j) := by simp only [PyData.eqv]
theorem eqvAll_cons {x y : PyData} {xs ys : List PyData} : PyData.eqvAll (x :: xs) (y :: ys) = (PyData.eqv x y && PyData.eqvAll xs ys) := by simp only [PyData.eqvAll]
theorem eqvAll_nil : PyData.eqvAll [] [] = true := by simp only [PyData.eqvAll]
theorem hu65 {A : Around} {k : Nat} (hr : Room k A) : A.units + 65 < cLine := by have := hr.un; omega
def shapesD : PyData := .tuple [.tuple [.str "0", .int 1], .tuple [.str "s", .int 2], .tuple [.str "f", .int 3]]
def shapesL : List PyData := [.tuple [.str "0", .int 1], .tuple [.str "s", .int 2], .tuple [.str "f", .int 3]]
theorem shapes_any {d0 : PyData} {ds : List PyData} : (shapesL.any fun y => PyData.eqv y (.tuple [d0, .int ((ds.length + 1 : Nat) : Int)])) = true ↔ Shaped (.tuple (d0 :: ds)) := by
  have one : ∀ (x : Str) (n : Int), PyData.eqv (.tuple [.str x, .int n]) (.tuple [d0, .int ((ds.length + 1 : Nat) : Int)]) = true ↔ d0 = .str x ∧ n = ((ds.length + 1 : Nat) : Int) := by
    intro x n
    rw [eqv_tup, eqvAll_cons, eqvAll_cons, eqvAll_nil, eqv_int]
    simp only [Bool.and_true, Bool.and_eq_true, eqv_str, beq_iff_eq]
  simp only [shapesL, List.any_cons, List.any_nil, Bool.or_false, Bool.or_eq_true, one]
  constructor
  · rintro (⟨rfl, e⟩ | ⟨rfl, e⟩ | ⟨rfl, e⟩)
    · exact ⟨"0", ds, rfl, .inl ⟨rfl, by omega⟩⟩
    · exact ⟨"s", ds, rfl, .inr (.inl ⟨rfl, by omega⟩)⟩
    · exact ⟨"f", ds, rfl, .inr (.inr ⟨rfl, by omega⟩)⟩
  · rintro ⟨x, ds', e, h⟩
    injection e with e
    injection e with e1 e2
    subst e1 e2
    rcases h with ⟨rfl, h⟩ | ⟨rfl, h⟩ | ⟨rfl, h⟩
    · exact .inl ⟨rfl, by omega⟩
    · exact .inr (.inl ⟨rfl, by omega⟩)
    · exact .inr (.inr ⟨rfl, by omega⟩)
/-- x in t, t a tuple of data of any depth -/
def rInT (K : PySem.W.Frag) : R2 := fun x y H Q => ∃ (d : PyData) (ds : List PyData), Dp K H x d ∧ Dp K H y (.tuple ds) ∧ SeqAt.shaped d = true ∧ SeqAt.shaped (.tuple ds) = true ∧ Q (.bl (ds.any fun y => PyData.eqv y d)) H
section
variable {X : Cx}
theorem op_inT (hu : X.A.units + 65 < cLine) : OpR X (compareOp .In) (rInT X.K) := by
  intro pins s σ H x y v u Q I rx ry h
  obtain ⟨d, ds, hd, he, sd, se, q⟩ := h
  obtain ⟨as, r1⟩ := Dp.reads I d x v hd rx
  obtain ⟨bs, r2⟩ := Dp.reads I (.tuple ds) y u he ry
  exact SeqAt.in_tuple_reads r2 r1 (SeqAt.canLay_of_shaped se) (SeqAt.canLay_of_shaped sd) (room_in_shaped sd hu) ⟨.bl _, H, I, rfl, q⟩
end
theorem shaped_of {d : PyData} (h : d.canLay0 = true) (h' : d.depth ≤ 64) : SeqAt.shaped d = true := by
  show (d.canLay0 && decide (d.depth ≤ 64)) = true
  rw [h, decide_eq_true h']
  rfl
def spNumber : Sp := fun vs H Q _ => ∃ (b : Addr) (v : V) (d : PyData), vs = [v] ∧ DAt H b v d ∧ Q (.bl (isNum d)) H
def isVar : PyData → Bool | .int n => decide (0 ≤ n) && decide (n ≤ 99) | _ => false
def spVariable : Sp := fun vs H Q _ => ∃ (b : Addr) (v : V) (d : PyData), vs = [v] ∧ DAt H b v d ∧ Q (.bl (isVar d)) H
def spShape : Sp := fun vs H Q _ => ∃ (b : Addr) (v : V) (d : PyData), vs = [v] ∧ DAt H b v d ∧ okD d ∧ ∀ (r : Bool) (H' : Hp), (r = true ↔ Shaped d) → Same H H' → Q (.bl r) H'
section
variable {P : Program} {w : World} {K : PySem.W.Frag} {mg : Str → Option Value} {base : Heap}
end
end Rp

/-! Data of small ints and a few short texts: how large they are, what is said of them. -/
namespace Rp
open PySem PySem.Spec PyProof.Rows L2
def okText (x : Str) : Prop := x = "" ∨ x = "0" ∨ x = "s" ∨ x = "f" ∨ x = "x" ∨ x = "g" ∨ x = "x0"
mutual
def fine (U : List Int) : PyData → Prop
  | .none => True | .bool _ => True | .int i => i ∈ U | .str x => okText x | .list ds => fineAll U ds | .tuple ds => fineAll U ds | .dict _ => False
def fineAll (U : List Int) : List PyData → Prop
  | [] => True
  | d :: ds => fine U d ∧ fineAll U ds
end
mutual
def nd : PyData → Nat
  | .list ds => ndAll ds + 1 | .tuple ds => ndAll ds + 1 | _ => 1
def ndAll : List PyData → Nat
  | [] => 0
  | d :: ds => nd d + ndAll ds
end
theorem nd_pos (d : PyData) : 1 ≤ nd d := by cases d <;> simp [nd]
theorem ndAll_append : ∀ a b : List PyData, ndAll (a ++ b) = ndAll a + ndAll b
  | [], b => by simp [ndAll]
  | x :: a, b => by simp only [List.cons_append, ndAll, ndAll_append a b]; omega
theorem ndAll_mem : ∀ {ds : List PyData} {d : PyData}, d ∈ ds → nd d ≤ ndAll ds
  | x :: ds, d, h => by
    simp only [ndAll]
    rcases List.mem_cons.mp h with rfl | h
    · omega
    · have := ndAll_mem h; omega
theorem ndAll_len : ∀ ds : List PyData, ds.length ≤ ndAll ds
  | [] => Nat.le_refl _
  | d :: ds => by have := ndAll_len ds; have := nd_pos d; simp only [ndAll, List.length_cons]; omega
theorem fineAll_iff {U : List Int} : ∀ {ds : List PyData}, fineAll U ds ↔ ∀ d ∈ ds, fine U d
  | [] => by simp [fineAll]
  | d :: ds => by simp only [fineAll, fineAll_iff (ds := ds), List.forall_mem_cons]
theorem depthAll_iff {k : Nat} : ∀ {ds : List PyData}, PyData.depthAll ds ≤ k ↔ ∀ d ∈ ds, d.depth ≤ k
  | [] => by simp [PyData.depthAll]
  | d :: ds => by simp only [PyData.depthAll, List.forall_mem_cons, ← depthAll_iff (ds := ds)]; omega
theorem okText_lay {x : Str} (h : okText x) : PyData.canLay0 (.str x) = true ∧ x.cps.size ≤ 2 := by
  rcases h with rfl | rfl | rfl | rfl | rfl | rfl | rfl <;> exact ⟨by decide +kernel, by decide +kernel⟩
/-- the few ints of a row of data -/
structure Few (U : List Int) : Prop where
  le : ∀ i ∈ U, -1 ≤ i ∧ i ≤ 100
  len : U.length ≤ 200
mutual
theorem fine_lay {U : List Int} (hU : Few U) : ∀ d : PyData, fine U d → d.canLay0 = true ∧ d.showable = true ∧ d.intsShort 13 = true ∧ d.hasDict = false ∧ d.weight + 1 ≤ 110 * nd d
  | .none, _ => ⟨rfl, rfl, rfl, rfl, by decide⟩
  | .bool b, _ => ⟨rfl, rfl, rfl, rfl, by simp [PyData.weight, nd]⟩
  | .int i, h => by
    have h : -1 ≤ i ∧ i ≤ 100 := hU.le i h
    have a : i.natAbs ≤ 100 := by omega
    have b := Nat.log2_le_self i.natAbs
    refine ⟨rfl, ?_, ?_, rfl, ?_⟩
    · simp only [PyData.showable, decide_eq_true_eq]; omega
    · simp only [PyData.intsShort, decide_eq_true_eq]; exact PyData.shown_int_le (by omega)
    · simp only [PyData.weight, nd]; split <;> omega
  | .str x, h => by
    have z := okText_lay h
    refine ⟨z.1, rfl, rfl, rfl, ?_⟩
    simp only [PyData.weight, nd]
    omega
  | .list ds, h => by
    have z := fine_layAll hU ds h
    simp only [PyData.canLay0, PyData.showable, PyData.intsShort, PyData.hasDict, PyData.weight, nd]
    refine ⟨z.1, z.2.1, z.2.2.1, z.2.2.2.1, by omega⟩
  | .tuple ds, h => by
    have z := fine_layAll hU ds h
    simp only [PyData.canLay0, PyData.showable, PyData.intsShort, PyData.hasDict, PyData.weight, nd]
    refine ⟨z.1, z.2.1, z.2.2.1, z.2.2.2.1, by omega⟩
  | .dict _, h => h.elim
theorem fine_layAll {U : List Int} (hU : Few U) : ∀ ds : List PyData, fineAll U ds → PyData.canLayAll0 ds = true ∧ PyData.showableAll ds = true ∧ PyData.intsShortAll 13 ds = true ∧ PyData.hasDictAll ds = false ∧ PyData.weightAll ds ≤ 110 * ndAll ds
  | [], _ => ⟨rfl, rfl, rfl, rfl, by decide⟩
  | d :: ds, h => by
    have h : fine U d ∧ fineAll U ds := h
    have a := fine_lay hU d h.1
    have b := fine_layAll hU ds h.2
    simp only [PyData.canLayAll0, PyData.showableAll, PyData.intsShortAll, PyData.hasDictAll, PyData.weightAll, ndAll, Bool.and_eq_true, Bool.or_eq_false_iff]
    exact ⟨⟨a.1, b.1⟩, ⟨a.2.1, b.2.1⟩, ⟨a.2.2.1, b.2.2.1⟩, ⟨a.2.2.2.1, b.2.2.2.1⟩, by omega⟩
end
/-- fine, of at most n nodes, at most k deep -/
structure Good (U : List Int) (n k : Nat) (d : PyData) : Prop where
  fine : fine U d
  nd : nd d ≤ n
  dp : d.depth ≤ k
theorem Good.more {U : List Int} {n k n' k' : Nat} {d : PyData} (h : Good U n k d) (hn : n ≤ n') (hk : k ≤ k') : Good U n' k' d := ⟨h.fine, by have := h.nd; omega, by have := h.dp; omega⟩
theorem Good.ok {U : List Int} (hU : Few U) {n k : Nat} {d : PyData} (h : Good U n k d) (hk : k ≤ 60) : okD d := ⟨(fine_lay hU d h.fine).1, by have := h.dp; omega⟩
theorem Good.shown {U : List Int} (hU : Few U) {n k : Nat} {d : PyData} (h : Good U n k d) (hn : n ≤ 9000) (hk : k ≤ 60) : d.showable = true ∧ d.hasDict = false ∧ d.depth ≤ 64 ∧ d.shown.length ≤ 15728653 := by
  obtain ⟨h1, h2, h3, h4, h5⟩ := fine_lay hU d h.fine
  have n1 := h.nd
  have k1 := h.dp
  refine ⟨h2, h4, by omega, shown_le13 ?_ h3⟩
  unfold PyData.layable0
  rw [h1, decide_eq_true (by omega : d.depth ≤ 64), decide_eq_true (by omega : d.weight ≤ 2 ^ 20)]
  rfl
theorem Good.tup {U : List Int} {n k : Nat} {ds : List PyData} (h : Good U n k (.tuple ds)) : (∀ d ∈ ds, Rp.fine U d) ∧ ndAll ds + 1 ≤ n ∧ ∀ d ∈ ds, d.depth + 1 ≤ k := by
  refine ⟨fineAll_iff.mp h.fine, by simpa [Rp.nd] using h.nd, fun d hd => ?_⟩
  have k1 : PyData.depthAll ds + 1 ≤ k := by simpa [PyData.depth] using h.dp
  have := depthAll_iff.mp (Nat.le_refl (PyData.depthAll ds)) d hd
  omega
theorem Good.lst {U : List Int} {n k : Nat} {ds : List PyData} (h : Good U n k (.list ds)) : (∀ d ∈ ds, Rp.fine U d) ∧ ndAll ds + 1 ≤ n ∧ ∀ d ∈ ds, d.depth + 1 ≤ k := by
  refine ⟨fineAll_iff.mp h.fine, by simpa [Rp.nd] using h.nd, fun d hd => ?_⟩
  have k1 : PyData.depthAll ds + 1 ≤ k := by simpa [PyData.depth] using h.dp
  have := depthAll_iff.mp (Nat.le_refl (PyData.depthAll ds)) d hd
  omega
theorem good_lst {U : List Int} {n k : Nat} {ds : List PyData} (h : ∀ d ∈ ds, fine U d) (hn : ndAll ds + 1 ≤ n) (hk : ∀ d ∈ ds, d.depth + 1 ≤ k) (k1 : 1 ≤ k) : Good U n k (.list ds) := by
  refine ⟨fineAll_iff.mpr h, by simpa [Rp.nd] using hn, ?_⟩
  have : PyData.depthAll ds ≤ k - 1 := depthAll_iff.mpr fun d hd => by have := hk d hd; omega
  simp only [PyData.depth]
  omega
theorem good_tup {U : List Int} {n k : Nat} {ds : List PyData} (h : ∀ d ∈ ds, fine U d) (hn : ndAll ds + 1 ≤ n) (hk : ∀ d ∈ ds, d.depth + 1 ≤ k) (k1 : 1 ≤ k) : Good U n k (.tuple ds) := by
  refine ⟨fineAll_iff.mpr h, by simpa [Rp.nd] using hn, ?_⟩
  have : PyData.depthAll ds ≤ k - 1 := depthAll_iff.mpr fun d hd => by have := hk d hd; omega
  simp only [PyData.depth]
  omega
/-- a TERM's data are good -/
theorem tm_good {U : List Int} : ∀ t : Tm, (∀ n ∈ t.nums, n ∈ U) → Good U (2 * t.size) (t.deep + 1) (tmD t)
  | .v n, h => ⟨h n (by simp [Tm.nums]), by simp [tmD, Rp.nd, Tm.size], by simp [tmD, PyData.depth]⟩
  | .z, _ => ⟨⟨.inr (.inl rfl), trivial⟩, by simp [tmD, Rp.nd, ndAll, Tm.size], by simp [tmD, PyData.depth, PyData.depthAll]⟩
  | .s t, h => by
    have g := tm_good t h
    have h1 := g.nd
    have h2 := g.dp
    unfold tmD
    refine good_tup (fun d hd => ?_) ?_ (fun d hd => ?_) (by omega)
    · simp at hd; rcases hd with rfl | rfl
      · exact .inr (.inr (.inl rfl))
      · exact g.fine
    · simp only [ndAll, Rp.nd, Tm.size]; omega
    · simp at hd; rcases hd with rfl | rfl
      · simp [PyData.depth, Tm.deep]
      · simp only [Tm.deep]; omega
  | .f l r, h => by
    have g := tm_good l fun n hn => h n (by simp [Tm.nums, hn])
    have g' := tm_good r fun n hn => h n (by simp [Tm.nums, hn])
    have h1 := g.nd
    have h2 := g.dp
    have h3 := g'.nd
    have h4 := g'.dp
    unfold tmD
    refine good_tup (fun d hd => ?_) ?_ (fun d hd => ?_) (by omega)
    · simp at hd; rcases hd with rfl | rfl | rfl
      · exact .inr (.inr (.inr (.inl rfl)))
      · exact g.fine
      · exact g'.fine
    · simp only [ndAll, Rp.nd, Tm.size]; omega
    · simp at hd; rcases hd with rfl | rfl | rfl
      · simp [PyData.depth, Tm.deep]
      · simp only [Tm.deep]; omega
      · simp only [Tm.deep]; omega
/-- ints of a TERM among the data's -/
theorem tm_fine {U : List Int} : ∀ t : Tm, fine U (tmD t) → ∀ n ∈ t.nums, n ∈ U
  | .v n, h, m, hm => by simp [Tm.nums] at hm; subst hm; exact h
  | .z, h, m, hm => by simp [Tm.nums] at hm
  | .s t, h, m, hm => tm_fine t h.2.1 m hm
  | .f l r, h, m, hm => by
    rcases List.mem_append.mp hm with q | q
    · exact tm_fine l h.2.1 m q
    · exact tm_fine r h.2.2.1 m q
theorem nodup_le : ∀ {L U : List Int}, L.Nodup → (∀ k ∈ L, k ∈ U) → L.length ≤ U.length
  | [], U, _, _ => Nat.zero_le _
  | x :: L, U, h, hs => by
    rw [List.nodup_cons] at h
    have hx := hs x (by simp)
    have := nodup_le (L := L) (U := U.erase x) h.2 fun k hk => (List.mem_erase_of_ne (fun e => h.1 (by rw [← e]; exact hk))).mpr (hs k (by simp [hk]))
    rw [List.length_erase_of_mem hx] at this
    have := List.length_pos_of_mem hx
    rw [List.length_cons]
    omega
/-- the other way: a TERM's data tell its size -/
theorem tm_size : ∀ t : Tm, t.size ≤ nd (tmD t) ∧ t.deep ≤ (tmD t).depth
  | .v n => ⟨by simp [tmD, nd, Tm.size], by simp [Tm.deep]⟩
  | .z => ⟨by simp [tmD, nd, Tm.size], by simp [Tm.deep]⟩
  | .s t => by
    have := tm_size t
    simp only [tmD, nd, ndAll, Tm.size, Tm.deep, PyData.depth, PyData.depthAll]
    omega
  | .f l r => by
    have := tm_size l
    have := tm_size r
    simp only [tmD, nd, ndAll, Tm.size, Tm.deep, PyData.depth, PyData.depthAll]
    omega
end Rp

/-! xs[a:] = ys, ys another list: what the layer has no statement of. -/
namespace Rp
open PySem PySem.Spec PyProof.Rows L2
theorem tail_bounds {k n : Nat} (h : k ≤ n) : sliceBounds (some (k : Int)) none none n = ((k : Int), (n : Int), 1) := by
  simp only [sliceBounds, Option.getD_none, show ¬ ((k : Int) < 0) by omega, if_false, show (1 : Int) > 0 by decide, if_true]
  congr 1
  · omega
theorem tail_items (old fresh : List Value) (k : Nat) : old.toArray.extract 0 k ++ fresh.toArray ++ old.toArray.extract old.toArray.size old.toArray.size = (old.take k ++ fresh).toArray := by
  apply Array.toList_inj.mp
  simp
section
variable {prog : Program} {w : World} {A : Around} {E : Value → Shared → Prop} {s : Shared}
theorem store_tail {at_ src cut : Addr} {old fresh : Array Value} {n1 n2 : Nat} {vlo : Value} {k : Nat} {Q : Unit → Shared → Prop} (oe : s.heap.get? at_ = some { cls := .type "list", data := .seq old n1 })
    (fe : s.heap.get? src = some { cls := .type "list", data := .seq fresh n2 }) (apart : at_ ≠ src) (isCut : s.heap.IsSliceOf cut vlo .none .none) (pLo : IsPart vlo (some (k : Int))) (hk : k ≤ old.size) (room : old.size + fresh.size ≤ sizeLine)
    (go : Q () { s with heap := s.heap.update at_ (Obj.mapSeq fun xs => xs.extract 0 k ++ fresh ++ xs.extract old.size xs.size) }) : wpAny (model prog w) A (setItem (.ref at_) (.ref cut) (.ref src)) Q E s := by
  have lstIs : s.heap.IsList at_ old := PySem.IsL.isList oe
  have srcIs : s.heap.IsList src fresh := PySem.IsL.isList fe
  obtain ⟨oc, hoc, hcc, hdc⟩ := id isCut
  have cutIs : s.TypeIs (.ref cut) "slice" := ⟨oc, hoc, hcc⟩
  have noStep : ¬ ((rawPart none == rawInt 0) = true) := Bool.false_ne_true
  have other : Builtin.List.listSameRef (.ref at_) (.ref src) = false := by unfold Builtin.List.listSameRef; exact beq_eq_false_iff_ne.mpr apart
  have bound : ((fun xs : Array Value => xs.extract 0 k ++ fresh ++ xs.extract old.size xs.size) old).size ≤ sizeLine + 1 := by simp only [Array.size_append, Array.size_extract]; omega
  unfold setItem; try with_reducible refine wpAny_holding ?_
  first | refine wpAny_bind (wpAny_pure ?_) | skip
  refine wpAny_bind (wpAny_sequenceKey lstIs.typeIs (by decide) (wpAny_bind (wpAny_callSpecial?_slot (name := Str.ofString "__setitem__") lstIs.typeIs slot_list_setitem (wpAny_call_entry slot_list_setitem lstIs.typeIs entry_list_setitem ?_ (args_list_setitem _ _ _)))))
  show wpAny _ _ (Builtin.List.listSubscript? (.ref cut) >>= _) _ _ s
  refine wpAny_bind ?_; unfold Builtin.List.listSubscript?
  refine wpAny_bind (wpAny_specialOf cutIs slice_no_index ?_); simp only [Option.isNone_none, if_true]
  refine wpAny_pure ?_; show wpAny _ _ (typeOf (.ref cut) >>= _) _ _ s
  refine wpAny_bind (wpAny_typeOf cutIs ?_)
  first | rw [if_neg (by decide)] | refine PySem.W.KFB.if_not (by decide) ?_
  rw [listSliceParts_eq]; refine wpAny_bind (wpAny_bind (wpAny_field hoc hdc (x := .none) rfl (wpAny_bind (wpAny_listPart .none ?_))))
  rw [if_neg noStep]; refine wpAny_bind (wpAny_field hoc hdc (x := vlo) rfl (wpAny_bind (wpAny_listPart pLo ?_)))
  refine wpAny_bind (wpAny_field hoc hdc (x := .none) rfl (wpAny_bind (wpAny_listPart .none (wpAny_pure ?_))))
  first | simp only [other, Bool.false_eq_true, if_false] | refine PySem.W.KFB.if_not other ?_ | (dsimp only; rw [if_neg (by rw [other]; exact Bool.false_ne_true)])
  refine wpAny_bind (m := Builtin.List.listAllItems (.ref src) "must assign iterable to extended slice") ?_; unfold Builtin.List.listAllItems
  refine wpAny_bind (wpAny_typeOf srcIs.typeIs ?_)
  first | refine PySem.W.KFB.if_so (by decide) ?_ | rw [if_pos (by decide)] | simp only [beq_self_eq_true, Bool.true_or, if_true]
  unfold Builtin.List.listItems; refine wpAny_bind (wpAny_seqItems fe rfl (wpAny_pure ?_))
  refine wpAny_bind (wpAny_bind (wpAny_seqItems oe rfl (wpAny_pure ?_)))
  refine wpAny_bind (wpAny_of_eq ((sliceIndices_raw (some (k : Int)) none none old.size (by simp)).trans (congrArg (pure : Int × Int × Int → Sem (Int × Int × Int)) (tail_bounds hk))) ?_)
  show wpAny _ _ (if ((1 : Int) == 1) = true then _ else _) _ _ s; rw [if_pos (by decide)]
  refine wpAny_bind (wpAny_rule ?_); have small := notLongL room
  first | simp only [small, Bool.false_eq_true, if_false] | refine PySem.W.KFB.if_not small ?_
  first | refine wpAny_bind (wpAny_pure ?_) | skip
  show wpAny _ _ (updateSeq at_ (fun xs => xs.extract 0 ((k : Int)).toNat ++ fresh ++ xs.extract (max (k : Int) (old.size : Int)).toNat xs.size) >>= _) _ _ s
  rw [show (max (k : Int) (old.size : Int)).toNat = old.size by omega, Int.toNat_natCast]
  refine wpAny_bind (wpAny_updateSeq (hz := Nat.le_trans (Nat.le_add_right _ _) room) (_hz' := bound) oe rfl (wpAny_bind (wpAny_letGo ?_)))
  first | exact wpAny_bind (wpAny_pure (wpAny_pure ⟨.none, rfl, wpAny_pure go⟩)) | exact wpAny_pure ⟨.none, rfl, wpAny_pure go⟩
end
/-- xs[a:] = ys -/
def tTail (to : TE) (ta : TO) (tv : TE) : TS := fun D σ H => tv σ H fun y H1 => to σ H1 fun x H2 => ta σ H2 fun i H3 => ∃ (l b : Addr) (xs ys : List V) (k : Nat), y = .ref b ∧ x = .ref l ∧ i = some (k : Int) ∧ H3 l = some (.lst xs) ∧ H3 b = some (.lst ys) ∧ l ≠ b ∧ k ≤ xs.length ∧ xs.length + ys.length ≤ sizeLine ∧
  D.nx σ (upd H3 l (.lst (xs.take k ++ ys)))
section
variable {X : Cx} {o e value : Expr} {pos pos' p2 : Pos} {td tv : TE} {ta : TO}
theorem ps_tail (ho : PE X o td) (hi : PO X (some e) ta) (hv : PE X value tv) (hs : swapsWith value (some (.Subscript o (.Slice (some e) none none p2) pos')) pos.line X.env = pure false := by rfl) :
    PS X (.Assign [.Subscript o (.Slice (some e) none none p2) pos'] value pos) (tTail td ta tv) := by
  refine ⟨fun pins s σ H D I h => wpAny_Assign_Subscript (thn (hv.run pins s σ H _ I h) fun r s1 ⟨v, H1, I1, rv, q1⟩ => thn (ho.run pins s1 σ H1 _ I1 q1) fun u s2 ⟨x, H2, I2, rx, q2⟩ => ?_) hs⟩
  refine wpAny_Slice (thn (hi.run pins s2 σ H2 _ I2 q2) fun vl s3 ⟨i, H3, I3, pl, q3⟩ => ?_)
  obtain ⟨l, b, xs, ys, k, rfl, rfl, rfl, hl, hb, ne, hk, room, go⟩ := q3
  rw [evalPart_none]
  refine wpAny_pure (wpAny_pure ?_)
  cases rv
  cases rx
  have I4 : Inv X pins σ H3 { s3 with heap := s3.heap.push { cls := .type "slice", data := .fields #[vl, .none, .none] } } := I3.kept (t' := s3.toks) fun c ob w => Heap.get?_push_of_some _ w
  obtain ⟨_, old, n1, ro, lo, oe⟩ := I4.lstM hl
  obtain ⟨_, fresh, n2, rf, lf, fe⟩ := I4.lstM hb
  refine store_tail (k := k) oe fe ne (Heap.IsSliceOf.new ..) pl (by rw [List.size_toArray]; omega) (by rw [List.size_toArray, List.size_toArray]; omega) ?_
  refine ⟨σ, _, I4.lset (its' := old.take k ++ fresh) (t' := s3.toks) hl oe ?_ (Vals.append (ro.take _) rf) ?_, go⟩
  · exact tail_items old fresh k
  · rw [List.length_append, List.length_take]; omega
end
end Rp

/-! Texts of TERMs, and the fold that makes them. -/
namespace Rp
open PySem PySem.Spec PyProof.Rows L2
namespace Tm
/-- a sign with the texts of its parts -/
def put1 : Tm → List Str → Str
  | v n, _ => "x" ++ (Str.ofString (toString n))
  | z, _ => "0"
  | s _, ys => "s" ++ "(" ++ Txt.join "," ys ++ ")"
  | f _ _, ys => "f" ++ "(" ++ Txt.join "," ys ++ ")"
def txt : Tm → Str
  | v n => put1 (v n) []
  | z => put1 z []
  | s t => put1 (s t) [t.txt]
  | f l r => put1 (f l r) [l.txt, r.txt]
theorem txt_kids (t : Tm) : t.txt = t.put1 (t.kids.map txt) := by cases t <;> rfl
def small (t : Tm) : Prop := ∀ n ∈ t.nums, 0 ≤ n ∧ n ≤ 99
end Tm
theorem slen (a b : Str) : (a ++ b).length = a.length + b.length := Str.length_append a b
theorem num_len {n : Int} (h : 0 ≤ n ∧ n ≤ 99) : (Str.ofString (toString n)).length ≤ 3 := by
  rw [PySem.ofString_length]
  exact int_text_length_le10 (k := 2) (by decide) (by omega)
theorem join1 (a x : Str) : Txt.join a [x] = x := by rw [TL.join_eq]; simp [Str.join]
theorem join2 (a x y : Str) : Txt.join a [x, y] = x ++ a ++ y := by rw [TL.join_eq]; simp [Str.join]
theorem txt_len : ∀ t : Tm, t.small → t.txt.length ≤ 4 * t.size
  | .v n, h => by
    have := num_len (h n (by simp [Tm.nums]))
    show (("x" : Str) ++ (Str.ofString (toString n))).length ≤ 4
    rw [slen]
    have : ("x" : Str).length = 1 := by decide +kernel
    omega
  | .z, _ => by decide +kernel
  | .s t, h => by
    have := txt_len t h
    show (("s" : Str) ++ "(" ++ Txt.join "," [t.txt] ++ ")").length ≤ 4 * (t.size + 1)
    rw [join1, slen, slen, slen]
    have a : ("s" : Str).length = 1 := by decide +kernel
    have b : ("(" : Str).length = 1 := by decide +kernel
    have c : (")" : Str).length = 1 := by decide +kernel
    omega
  | .f l r, h => by
    have := txt_len l fun n hn => h n (by simp [Tm.nums, hn])
    have := txt_len r fun n hn => h n (by simp [Tm.nums, hn])
    show (("f" : Str) ++ "(" ++ Txt.join "," [l.txt, r.txt] ++ ")").length ≤ 4 * (l.size + r.size + 1)
    rw [join2, slen, slen, slen, slen, slen]
    have a : ("f" : Str).length = 1 := by decide +kernel
    have b : ("(" : Str).length = 1 := by decide +kernel
    have c : (")" : Str).length = 1 := by decide +kernel
    have d : ("," : Str).length = 1 := by decide +kernel
    omega
/-! ### the stack -/
def runs : List Tm → List Tm → List Tm → Prop
  | S, [], S' => S = S'
  | S, k :: r, S' => ∃ S0, S = S0 ++ k.kids ∧ runs (S0 ++ [k]) r S'
theorem runs_post : ∀ (t : Tm) (S r S' : List Tm), runs (S ++ [t]) r S' → runs S (t.rpost.reverse ++ r) S'
  | .v n, S, r, S', h => by simp only [Tm.rpost, List.reverse_singleton, List.singleton_append]; exact ⟨S, by simp [Tm.kids], h⟩
  | .z, S, r, S', h => by simp only [Tm.rpost, List.reverse_singleton, List.singleton_append]; exact ⟨S, by simp [Tm.kids], h⟩
  | .s t, S, r, S', h => by
    simp only [Tm.rpost, List.reverse_cons, List.append_assoc, List.singleton_append]
    exact runs_post t S _ _ ⟨S, by simp [Tm.kids], h⟩
  | .f l r', S, r, S', h => by
    simp only [Tm.rpost, List.reverse_cons, List.reverse_append, List.append_assoc, List.singleton_append]
    refine runs_post l S _ _ (runs_post r' (S ++ [l]) _ _ ⟨S, by simp [Tm.kids], h⟩)
theorem part_of : ∀ {t k : Tm}, k ∈ t.rpost → k.size ≤ t.size ∧ ∀ n ∈ k.nums, n ∈ t.nums
  | .v n, k, h => by simp [Tm.rpost] at h; subst h; exact ⟨Nat.le_refl _, fun n h => h⟩
  | .z, k, h => by simp [Tm.rpost] at h; subst h; exact ⟨Nat.le_refl _, fun n h => h⟩
  | .s t, k, h => by
    simp [Tm.rpost] at h
    rcases h with rfl | h
    · exact ⟨Nat.le_refl _, fun n h => h⟩
    · have := part_of h
      exact ⟨by simp only [Tm.size]; omega, this.2⟩
  | .f l r, k, h => by
    simp [Tm.rpost] at h
    rcases h with rfl | h | h
    · exact ⟨Nat.le_refl _, fun n h => h⟩
    · have := part_of h
      exact ⟨by simp only [Tm.size]; omega, fun n hn => List.mem_append.mpr (.inr (this.2 n hn))⟩
    · have := part_of h
      exact ⟨by simp only [Tm.size]; omega, fun n hn => List.mem_append.mpr (.inl (this.2 n hn))⟩
def spTextOf (K : PySem.W.Frag) : Sp := fun vs H Q _ => ∃ (v : V) (t : Tm) (a : Addr), vs = [v, .ref a] ∧ TmAt H v t ∧ t.small ∧ t.size ≤ 1000 ∧ H a = some (.lst ((t.kids.map Tm.txt).map V.str)) ∧ Q (.str t.txt) H
def spFold (fO : Addr) : Sp := fun vs H Q _ => ∃ (v : V) (t : Tm), vs = [v, .ref fO] ∧ TmAt H v t ∧ t.small ∧ t.size ≤ 1000 ∧ ∀ H', Same H H' → Q (.str t.txt) H'
def spTermText : Sp := fun vs H Q _ => ∃ (v : V) (t : Tm), vs = [v] ∧ TmAt H v t ∧ t.small ∧ t.size ≤ 1000 ∧ ∀ H', Same H H' → Q (.str t.txt) H'
section
variable {P : Program} {w : World} {K : PySem.W.Frag} {mg : Str → Option Value} {base : Heap}
theorem scTextOf : FnScope ["part", "texts", "inner"] ["part", "texts"] (defScope sTextOf) := ⟨rfl, rfl, rfl, by decide +kernel, rfl, by decide +kernel, by decide +kernel⟩
theorem ok_textof {f : Addr} {fd : FuncData} (F : Fun K "_text_of" "_text_of" sTextOf f fd) (mIsi : mg "isinstance" = none) (mInt : mg "int" = none) : FnOk P w K mg base CX0 1 f fd ["part", "texts"] (spTextOf K) := by
  refine F.ok scTextOf (fun vs H Q E h => ?_) (fun cdv A outer s H vs Q E hr h => ?_)
  · obtain ⟨v, t, a, rfl, _⟩ := h
    rfl
  obtain ⟨v, t, a, rfl, T, sm, sz, ha, q⟩ := h
  refine ⟨_, pss_cons (ps_if (pt_val (pe_callB (id := "isinstance") call_isi (by rfl) mIsi (by decide +kernel) (pa_cons (pv 0) (pa_cons (pe_bltn (v := .ty "int") (by rfl) mInt (by decide +kernel) rfl) pa_nil)))) (pss_one (ps_ret (pe_joined (.cons pe_str (.cons (pe_fmt (pv 0)) .nil))))) pss_nil)
    (pss_cons (ps_if (pt_not (pt_truth (pv 1) (by intro _; rfl))) (pss_one (ps_ret (pe_ix ix_tup (pv 0) pe_int (fun _ _ => rfl)))) pss_nil)
    (pss_cons (ps_set (i := 2) scTextOf.nd rfl (Or.inl rfl) (pe_bm PySem.F.plainAttrs_str PySem.F.slot_str_join PySem.F.type_str_join mt_join pe_str (pa_cons (pv 1) pa_nil)))
    (pss_one (ps_ret (pe_joined (.cons (pe_fmt (pe_ix ix_tup (pv 0) pe_int (fun _ _ => rfl))) (.cons pe_str (.cons (pe_fmt (pv 2)) (.cons pe_str .nil))))))))), ?_⟩
  have tl := txt_len t sm
  have big : (10000 : Nat) ≤ sizeLine := by decide
  rcases T.ty (K := K) with ⟨m, rfl, rfl⟩ | ⟨b, xs, rfl, hb, ty, no⟩
  · refine ⟨_, rfl, _, _, _, _, true, rfl, .ty "int", .base (.int m), kit_ii, true, rfl, iteT ?_⟩
    have hm := sm m (by simp [Tm.nums])
    refine ⟨_, rfl, ?_, _, rfl, .inr ⟨m, rfl, ?_, ?_⟩⟩
    · rw [Str.empty_append]; exact Nat.le_trans (by decide +kernel : ("x" : Str).length ≤ 10) (by decide)
    · have := Nat.log2_le_self m.natAbs
      omega
    · refine ⟨_, rfl, ?_, ?_⟩
      · rw [Str.empty_append, slen]
        have := num_len hm
        have : ("x" : Str).length = 1 := by decide +kernel
        exact Nat.le_trans (by omega : _ ≤ 10) (by decide)
      · rw [Str.empty_append]
        exact q
  · obtain ⟨a', ks, e, ha', hk, hks⟩ := T.tupled no
    cases e
    refine ⟨_, rfl, _, _, _, _, false, rfl, .ty "int", ty, kit_ti, false, rfl, iteF ?_⟩
    refine ⟨_, rfl, _, .inl ⟨_, .inl (.inl ha), rfl⟩, ?_⟩
    have lim : ∀ x : Str, x.length ≤ 10000 → x.length ≤ sizeLine := fun x h => Nat.le_trans h big
    have l1 : ("s" : Str).length = 1 := by decide +kernel
    have l2 : ("f" : Str).length = 1 := by decide +kernel
    have l3 : ("(" : Str).length = 1 := by decide +kernel
    have l4 : (")" : Str).length = 1 := by decide +kernel
    have l5 : ("," : Str).length = 1 := by decide +kernel
    cases t with
    | v n => exact absurd rfl (no n)
    | z =>
      refine iteT ⟨_, rfl, _, _, _, _, rfl, rfl, .inl (.inl ha'), at_of (j := 0) rfl rfl, q⟩
    | s t =>
      have tz : (Txt.join "," [t.txt]).length ≤ 9000 := by
        rw [join1]; have := txt_len t sm; simp only [Tm.size] at sz; omega
      refine iteF ⟨rfl, _, rfl, _, a, [t.txt], rfl, rfl, .inl (.inl (.inl ha)), ?_, ?_⟩
      · simp only [List.map_cons, List.map_nil, List.sum_cons, List.sum_nil, List.length_cons, List.length_nil]
        have := txt_len t sm; simp only [Tm.size] at sz; omega
      refine ⟨_, rfl, _, _, _, _, rfl, rfl, .inl (.inl ha'), at_of (j := 0) rfl rfl, .inl ⟨_, rfl, lim _ ?_, _, rfl, lim _ ?_, _, rfl, lim _ ?_, _, rfl, .inl ⟨_, rfl, lim _ ?_, _, rfl, lim _ ?_, _, rfl, lim _ ?_, ?_⟩⟩⟩
      · show ("s" : Str).length ≤ _; omega
      · show (Str.empty ++ ("s" : Str)).length ≤ _; rw [Str.empty_append]; omega
      · show (Str.empty ++ ("s" : Str) ++ "(").length ≤ _; rw [Str.empty_append, slen]; omega
      · omega
      · show (Str.empty ++ ("s" : Str) ++ "(" ++ Txt.join "," [t.txt]).length ≤ _; rw [Str.empty_append, slen, slen]; omega
      · show (Str.empty ++ ("s" : Str) ++ "(" ++ Txt.join "," [t.txt] ++ ")").length ≤ _; rw [Str.empty_append, slen, slen, slen]; omega
      · show Q (.str (Str.empty ++ ("s" : Str) ++ "(" ++ Txt.join "," [t.txt] ++ ")")) H; rw [Str.empty_append]; exact q
    | f l r =>
      have tz : (Txt.join "," [l.txt, r.txt]).length ≤ 9000 := by
        rw [join2, slen, slen]; have := txt_len l (fun n hn => sm n (by simp [Tm.nums, hn])); have := txt_len r (fun n hn => sm n (by simp [Tm.nums, hn])); simp only [Tm.size] at sz; omega
      refine iteF ⟨rfl, _, rfl, _, a, [l.txt, r.txt], rfl, rfl, .inl (.inl (.inl ha)), ?_, ?_⟩
      · simp only [List.map_cons, List.map_nil, List.sum_cons, List.sum_nil, List.length_cons, List.length_nil]
        have := txt_len l (fun n hn => sm n (by simp [Tm.nums, hn])); have := txt_len r (fun n hn => sm n (by simp [Tm.nums, hn])); simp only [Tm.size] at sz; omega
      refine ⟨_, rfl, _, _, _, _, rfl, rfl, .inl (.inl ha'), at_of (j := 0) rfl rfl, .inl ⟨_, rfl, lim _ ?_, _, rfl, lim _ ?_, _, rfl, lim _ ?_, _, rfl, .inl ⟨_, rfl, lim _ ?_, _, rfl, lim _ ?_, _, rfl, lim _ ?_, ?_⟩⟩⟩
      · show ("f" : Str).length ≤ _; omega
      · show (Str.empty ++ ("f" : Str)).length ≤ _; rw [Str.empty_append]; omega
      · show (Str.empty ++ ("f" : Str) ++ "(").length ≤ _; rw [Str.empty_append, slen]; omega
      · omega
      · show (Str.empty ++ ("f" : Str) ++ "(" ++ Txt.join "," [l.txt, r.txt]).length ≤ _; rw [Str.empty_append, slen, slen]; omega
      · show (Str.empty ++ ("f" : Str) ++ "(" ++ Txt.join "," [l.txt, r.txt] ++ ")").length ≤ _; rw [Str.empty_append, slen, slen, slen]; omega
      · show Q (.str (Str.empty ++ ("f" : Str) ++ "(" ++ Txt.join "," [l.txt, r.txt] ++ ")")) H; rw [Str.empty_append]; exact q
end
end Rp

namespace Rp
open PySem PySem.Spec PyProof.Rows L2
theorem drop_min {α : Type} (xs : List α) (i : Nat) : xs.drop (min i xs.length) = xs.drop i := by
  rcases Nat.le_total i xs.length with h | h
  · rw [Nat.min_eq_left h]
  · rw [Nat.min_eq_right h, List.drop_length, List.drop_of_length_le h]
theorem cut_from {xs : List V} {i : Nat} {a : Int} (h : a = (i : Nat)) : cutV xs (some a) none = xs.drop i := by
  subst h
  unfold cutV
  rw [HT.sIx_none, HT.sIx_nat, drop_min]
  refine List.take_of_length_le ?_
  rw [List.length_drop]
  omega
section
variable {P : Program} {w : World} {K : PySem.W.Frag} {mg : Str → Option Value} {base : Heap}
theorem scFold : FnScope ["term", "made_of", "made", "part", "first"] ["term", "made_of"] (defScope sFold) := ⟨rfl, rfl, rfl, by decide +kernel, rfl, by decide +kernel, by decide +kernel⟩
theorem ok_fold {f fI fP fO : Addr} {fd dI dP dO : FuncData} (F : Fun K "fold" "fold" sFold f fd)
    (GI : FnOk P w K mg base CX0 2 fI dI ["term"] spInside) (kI : PySem.W.keepIn K (.ref fI) = true) (bI : Binds K dI ["term"] []) (mI : mg "inside_out" = some (.ref fI))
    (GP : FnOk P w K mg base CX0 1 fP dP ["term"] spParts) (kP : PySem.W.keepIn K (.ref fP) = true) (bP : Binds K dP ["term"] []) (mP : mg "_parts" = some (.ref fP))
    (GO : FnOk P w K mg base CX0 1 fO dO ["part", "texts"] (spTextOf K)) (kO : PySem.W.keepIn K (.ref fO) = true) (bO : Binds K dO ["part", "texts"] []) (mLen : mg "len" = none) :
    FnOk P w K mg base CX0 3 f fd ["term", "made_of"] (spFold fO) := by
  refine F.ok scFold (fun vs H Q E h => ?_) (fun cdv A outer s H vs Q E hr h => ?_)
  · obtain ⟨v, t, rfl, _⟩ := h
    rfl
  obtain ⟨v, t, rfl, T, sm, sz, q⟩ := h
  have r1 : Room 1 _ := hr.mono (by decide)
  refine ⟨_, pss_cons (ps_set (i := 2) scFold.nd rfl (Or.inl rfl) (pe_lst pa_nil))
    (pss_cons (ps_for PassesOwn.never rfl (pi_list (pe_call GI hr rfl mI kI bI .nil pass0 (pa_cons (pv 0) pa_nil))) (pg_name (i := 3) scFold.nd rfl (Or.inl rfl))
      (pss_cons (ps_set (i := 4) scFold.nd rfl (Or.inl rfl) (pe_op op_sub (pe_callB call_len_seq (by rfl) mLen PySem.boot_len (pa_cons (pv 2) pa_nil)) (pe_callB call_len_seq (by rfl) mLen PySem.boot_len (pa_cons (pe_call GP r1 rfl mP kP bP .nil pass0 (pa_cons (pv 3) pa_nil)) pa_nil))))
      (pss_one (ps_tail (pv 2) (po_some (pv 4)) (pe_lst (pa_cons (pe_callL (i := 1) GO r1 rfl (Or.inl rfl) kO bO .nil pass0 (pa_cons (pv 3) (pa_cons (pe_slice sl_list (pv 2) (po_some (pv 4)) po_none) pa_nil))) pa_nil))))))
    (pss_one (ps_ret (pe_ix ix_list (pv 2) pe_int (fun _ _ => rfl))))), ?_⟩
  refine ⟨(by show 0 ≤ sizeLine; decide), fun m hm => ?_⟩
  have s0 := same_new hm (.lst ([] : List V))
  refine ⟨_, rfl, v, t, rfl, T.same s0, sz, fun p xs H1 hp h1 A1 s1 => ?_⟩
  have hm1 := s1 _ _ (upd_same : (upd H m (.lst ([] : List V))) m = some (.lst []))
  have pm : p ≠ m := (ne_of_none (upd_same : (upd H m (.lst ([] : List V))) m = some (.lst [])) hp).symm
  have len := A1.len
  rw [List.length_reverse, Tm.rpost_len] at len
  have post : t.rpost.reverse.length = t.size := by rw [List.length_reverse, Tm.rpost_len]
  have big : (10000 : Nat) ≤ sizeLine := by decide
  refine ⟨p, rfl, ⟨_, .inl (.inl h1)⟩, for_list (K := K) (a := p) (xs := xs) (fun i σ H2 => ∃ (S : List Tm) (x3 x4 : Option V), σ = [some v, some (.ref fO), some (.ref m), x3, x4] ∧ H2 m = some (.lst ((S.map Tm.txt).map V.str)) ∧
      runs S (t.rpost.reverse.drop i) [t] ∧ (∀ k ∈ S, k ∈ t.rpost) ∧ S.length ≤ i ∧ But m H1 H2) ⟨[], none, none, rfl, hm1, ?_, by simp, by simp, But.refl _ _⟩ (fun i σ H2 _ ⟨_, _, _, _, _, _, _, _, o⟩ => .inl (.inl (o _ _ h1 pm))) ?_ ?_⟩
  · have := runs_post t [] [] [t] rfl
    simpa using this
  · rintro i x σ H2 hi ⟨S, x3, x4, rfl, h2, run, parts, sl, o2⟩
    obtain ⟨k, hk, Tk⟩ := A1.get hi
    have li : i < t.rpost.reverse.length := (List.getElem?_eq_some_iff.mp hk).1
    have ek : t.rpost.reverse.drop i = k :: t.rpost.reverse.drop (i + 1) := by
      rw [List.drop_eq_getElem_cons li, (List.getElem?_eq_some_iff.mp hk).2]
    rw [ek] at run
    obtain ⟨S0, rfl, run⟩ := run
    have km : k ∈ t.rpost := List.mem_reverse.mp (List.mem_of_getElem? hk)
    have pk := part_of km
    have smk : k.small := fun n hn => sm n (pk.2 n hn)
    have T2 := Tk.but o2 hm1
    rw [List.length_append] at sl
    refine ⟨_, rfl, m, _, rfl, .inl (.inl (.inl h2)), _, rfl, x, k, rfl, T2, fun g ks H3 hg h3 A3 s3 => ?_⟩
    have kl := A3.len
    refine ⟨g, _, rfl, .inr (.inl (.inl h3)), _, _, rfl, rfl, ?_⟩
    have h23 := s3 _ _ h2
    have first : (((((S0 ++ k.kids).map Tm.txt).map V.str).length : Nat) : Int) - ((ks.length : Nat) : Int) = ((S0.length : Nat) : Int) := by
      rw [List.length_map, List.length_map, List.length_append, kl]; omega
    refine ⟨rfl, _, rfl, _, rfl, _, rfl, _, rfl, m, _, rfl, .inl (.inl h23), fun d hd => ?_⟩
    have dm : d ≠ m := (ne_of_none h23 hd).symm
    rw [cut_from (i := S0.length) first]
    have cut : (((S0 ++ k.kids).map Tm.txt).map V.str).drop S0.length = (k.kids.map Tm.txt).map V.str := by
      rw [List.map_append, List.map_append, List.drop_left' (by rw [List.length_map, List.length_map])]
    rw [cut]
    have s4 := same_new hd (.lst ((k.kids.map Tm.txt).map V.str))
    refine ⟨x, k, d, rfl, (T2.same s3).same s4, smk, by omega, upd_same, ?_⟩
    refine ⟨(by show 1 ≤ sizeLine; decide), fun b hb => ?_⟩
    have s5 := same_new hb (.lst [V.str k.txt])
    have h25 := s5 _ _ (s4 _ _ h23)
    refine ⟨_, rfl, _, rfl, _, rfl, m, b, _, _, S0.length, rfl, rfl, congrArg some first, h25, upd_same, ne_of_none (s4 _ _ h23) hb, ?_, ?_, ?_⟩
    · rw [List.length_map, List.length_map, List.length_append]; omega
    · rw [List.length_map, List.length_map, List.length_append, List.length_singleton]; omega
    · refine ⟨S0 ++ [k], _, _, rfl, ?_, run, ?_, ?_, ?_⟩
      · rw [upd_same, List.map_append, List.map_append, List.take_left' (by rw [List.length_map, List.length_map]), List.map_append, List.map_append]
        rfl
      · intro k' hk'
        rcases List.mem_append.mp hk' with z | z
        · exact parts k' (by simp [z])
        · simp at z; subst z; exact km
      · rw [List.length_append, List.length_singleton]
        have := List.length_append (as := S0) (bs := k.kids)
        omega
      · intro c o' z nc
        rw [upd_ne nc]
        exact s5 _ _ (s4 _ _ (s3 _ _ (o2 _ _ z nc)))
  · rintro σ H2 ⟨S, x3, x4, rfl, h2, run, parts, sl, o2⟩
    rw [List.drop_of_length_le (by omega)] at run
    obtain rfl : S = [t] := run
    refine ⟨_, rfl, m, _, _, _, rfl, rfl, .inl (.inl h2), at_of (j := 0) rfl rfl, q H2 ?_⟩
    exact fun c o z => o2 c o (s1 _ _ (s0 _ _ z)) (ne_of_none z hm)
theorem scTermText : FnScope ["term"] ["term"] (defScope sTermText) := ⟨rfl, rfl, rfl, by decide +kernel, rfl, by decide +kernel, by decide +kernel⟩
theorem ok_termtext {f fF fO : Addr} {fd dF : FuncData} (F : Fun K "term_text" "term_text" sTermText f fd)
    (GF : FnOk P w K mg base CX0 3 fF dF ["term", "made_of"] (spFold fO)) (kF : PySem.W.keepIn K (.ref fF) = true) (bF : Binds K dF ["term", "made_of"] []) (mF : mg "fold" = some (.ref fF)) (mO : mg "_text_of" = some (.ref fO)) :
    FnOk P w K mg base CX0 4 f fd ["term"] spTermText := by
  refine F.ok scTermText (fun vs H Q E h => ?_) (fun cdv A outer s H vs Q E hr h => ?_)
  · obtain ⟨v, t, rfl, _⟩ := h
    rfl
  obtain ⟨v, t, rfl, T, sm, sz, q⟩ := h
  refine ⟨_, pss_one (ps_ret (pe_call GF hr rfl mF kF bF .nil pass0 (pa_cons (pv 0) (pa_cons (pe_glob (v := .ref fO) rfl mO rfl) pa_nil)))), ?_⟩
  exact ⟨_, rfl, v, t, rfl, T, sm, sz, q⟩
end
end Rp

/-! sorted(d) of a dict whose keys are ints. -/
namespace Rp
open PySem PySem.Spec PyProof.Rows L2
theorem int_keys_at : ∀ {us : List Value} {ks : List Int}, us.length = ks.length → (∀ (j : Nat) (v : Value), us[j]? = some v → ∃ (x : Int) (t : Tok), ks[j]? = some x ∧ v = Value.int x t) → IntsAre us ks
  | [], [], _, _ => .nil
  | u :: us, k :: ks, hl, h => by
    obtain ⟨x, t, e1, rfl⟩ := h 0 u rfl
    obtain rfl : k = x := Option.some.inj e1
    refine .cons _ t (int_keys_at (by simpa using hl) fun j v e => ?_)
    obtain ⟨num, tok, at1, is1⟩ := h (j + 1) v (by simpa using e)
    exact ⟨num, tok, by simpa using at1, is1⟩
  | [], _ :: _, long, _ => by simp at long
  | _ :: _, [], long, _ => by simp at long
section
variable {X : Cx}
theorem cr_sortedDI (calm : X.calm = true) : CallR X (.builtin "sorted") (fun xs H Q => ∃ (a : Addr) (kvs : List (Key × V)) (ks : List Int), xs = [.ref a] ∧ Rd H a (.dK kvs) ∧ kvs.map (·.1) = ks.map Sum.inl ∧ ks.length < 64 ∧
    ∀ (ns : List Int) (p : Addr), ns.Perm ks → ns.Pairwise (· ≤ ·) → H p = none → Q (.ref p) (upd H p (.lst (ns.map V.int)))) := by
  intro pins s σ H xs us Q I r told
  obtain ⟨a, kvs, ks, rfl, hd, keysAre, few, go⟩ := told
  obtain ⟨u, rfl, rx⟩ := vals1 r
  cases rx
  obtain ⟨z, lo, vs, rel, dd⟩ := dk_rd I.hok hd
  obtain ⟨ep, at_⟩ := dd.dictAt
  have keyList : vs.map (·.1) = ks.map Sum.inl := rel.keys.symm.trans keysAre
  have long : vs.length = ks.length := by have e := congrArg List.length keyList; rw [List.length_map, List.length_map] at e; exact e
  have room : vs.length ≤ sizeLine := by rw [long, sizeLine_eq]; omega
  refine Calls.call_function_entry PyProof.Rows.kind_sorted PyProof.Rows.plain_sorted PyProof.Rows.entry_sorted (PyProof.Rows.args_sorted1 _) ?_; unfold Builtin.«sorted»
  refine wpAny_bind (m := checkCount "sorted" 1 1 _) (wpAny_pure (wpAny_bind (PySem.W.kdu_collect (A := X.A.in1) (PySem.W.kdl_dict (knd := mixKind X.prog X.w) (kvs := vs) (ep := ep) lo) (I.ok.hd calm) at_ room fun h' tk acc old got => ?_)))
  have many : acc.toList.length = ks.length := by rw [Array.length_toList, got.1, long]
  have numsAre : IntsAre acc.toList ks := int_keys_at many fun j v e => by
    obtain ⟨k, x, e1, e2⟩ := got.2 j v (by rw [← Array.getElem?_toList]; exact e)
    have keyAt : (vs.map (·.1))[j]? = some k := by rw [List.getElem?_map, e1]; rfl
    rw [keyList, List.getElem?_map] at keyAt
    cases look : ks[j]? with
    | none => rw [look] at keyAt; cases keyAt
    | some y =>
      rw [look] at keyAt
      obtain rfl : Sum.inl y = k := Option.some.inj keyAt
      rcases keyIs_shape (show keyIs (Sum.inl y) v = true from e2) with ⟨i, t, ek, ev⟩ | ⟨z, t, ek, ev⟩
      · cases ek; exact ⟨y, t, rfl, ev⟩
      · cases ek
  have J : Inv X pins σ H { s with heap := h', toks := tk } := I.kept old
  refine wpAny_bind (wpAny_newList ?_ (by rw [many, sizeLine_eq]; omega))
  have made : (h'.push (seqObj "list" acc.toList.toArray 0)).get? h'.objs.size = some (seqObj "list" acc.toList.toArray 0) := Heap.get?_push_size _ rfl
  show wpAny _ _ _ _ _ { s with heap := h'.push (seqObj "list" acc.toList.toArray 0), toks := tk }
  refine wpAny_bind (wpAny_holding (wpAny_call_entry PyProof.Rows.slot_list_sort ⟨_, made, rfl⟩ PyProof.Rows.entry_list_sort
    (SrtO.list_sort_ord (s := { s with heap := h'.push (seqObj "list" acc.toList.toArray 0), toks := tk }) SrtO.swo_int made (by rw [many, sizeLine_eq]; omega) (fun h2 => SrtO.ints_sortable numsAre h2) fun out o1 o2 => ⟨_, rfl, ?_⟩) (PyProof.Rows.args_list_sort _)))
  obtain ⟨k1, k2, k3⟩ := SrtO.ints_out numsAre o1 o2
  obtain ⟨ep', he'⟩ := PyProof.Rows.sortedHeap_at (vs := acc.toList) (out := out.toArray) made
  have fits : ((out.map SrtO.iv).map V.int).length ≤ sizeLine := by rw [List.length_map, k2.length_eq]; exact Nat.le_trans (Nat.le_of_lt few) (by decide)
  refine wpAny_pure ⟨_, rfl, .ref h'.objs.size, upd H h'.objs.size (.lst ((out.map SrtO.iv).map V.int)), J.laid (t' := tk) (fun b u e => ?_) (Nat.le_refl _) ⟨fits, out, ep', vals_of_ints k1, he'⟩, rfl, go _ _ k2 k3 (J.hok.fresh (Nat.le_refl _))⟩
  have lt := Heap.lt_size e
  rw [PyProof.Rows.sortedHeap_old (Nat.ne_of_lt lt) (by rw [size_push']; exact Nat.lt_succ_of_lt lt)]
  exact Heap.get?_push_of_some _ e
end
end Rp

set_option maxHeartbeats 8000000
namespace Rp
open PySem PySem.Spec PyProof.Rows L2 TL
def spFresh1 : Sp := fun vs H Q _ => ∃ (b : Addr) (j : Nat), vs = [.ref b] ∧ BoxAt H b j ∧ j + 9 ≤ 1000000 ∧
  ∀ (p : Addr) (ns : List Int) (H' : Hp), H p = none → H' p = some (.lst (ns.map V.int)) → (∀ m ∈ ns, 0 ≤ m ∧ m ≤ 99) → ns.length ≤ 4 → 0 < ns.length → BoxAt H' b (j + 9) → But b H H' → Q (.ref p) H'
def spLText (n : Nat) : Sp := fun vs H Q _ => ∃ (v : V) (t : Tm), vs = [v] ∧ TmAt H v t ∧ t.small ∧ t.size ≤ 1000 ∧ t.deep < n ∧ ∀ H', Same H H' → Q (.str t.txt) H'
section
variable {P : Program} {w : World} {K : PySem.W.Frag} {mg : Str → Option Value} {base : Heap}
theorem kid_nums {t k : Tm} (h : k ∈ t.kids) : ∀ n ∈ k.nums, n ∈ t.nums := by
  cases t with
  | v n => simp [Tm.kids] at h
  | z => simp [Tm.kids] at h
  | s t => simp [Tm.kids] at h; subst h; exact fun n hn => hn
  | f l r =>
    simp [Tm.kids] at h
    rcases h with rfl | rfl
    · exact fun n hn => List.mem_append.mpr (.inl hn)
    · exact fun n hn => List.mem_append.mpr (.inr hn)
theorem scLText : FnScope ["_law_term", "_law_part"] ["_law_term"] (defScope sText) := ⟨rfl, rfl, rfl, by decide +kernel, rfl, by decide +kernel, by decide +kernel⟩
theorem ok_ltext {n : Nat} {f : Addr} {fd : FuncData} (F : Fun K "_law_text" "_law_text" sText f fd) (b1 : Binds K fd ["_law_term"] []) (mF : mg "_law_text" = some (.ref f)) (G : FnOk P w K mg base CX0 n f fd ["_law_term"] (spLText n)) (M : SameG mg) :
    FnOk P w K mg base CX0 (n + 1) f fd ["_law_term"] (spLText (n + 1)) := by
  refine F.ok scLText (fun vs H Q E h => ?_) (fun cdv A outer s H vs Q E hr h => ?_)
  · obtain ⟨v, t, rfl, _⟩ := h
    rfl
  obtain ⟨v, t, rfl, T, sm, sz, dp, q⟩ := h
  refine ⟨_, pss_cons (ps_if (pt_val (pe_callB (id := "isinstance") call_isi (by rfl) M.isi (by decide +kernel) (pa_cons (pv 0) (pa_cons (pe_bltn (v := .ty "int") (by rfl) M.int (by decide +kernel) rfl) pa_nil))))
      (pss_one (ps_ret (pe_op op_add_str pe_str (pe_callTy call_str_int (by rfl) M.str (by decide +kernel) (pa_cons (pv 0) pa_nil))))) pss_nil)
    (pss_cons (ps_if (pt_cmpR op_eq (pe_callB call_len_seq (by rfl) M.len PySem.boot_len (pa_cons (pv 0) pa_nil)) pe_int (nomark _)) (pss_one (ps_ret pe_str)) pss_nil)
    (pss_one (ps_ret (pe_op op_add_str (pe_op op_add_str (pe_op op_add_str (pe_ix ix_tup (pv 0) pe_int (fun _ _ => rfl)) pe_str) (pe_bm PySem.F.plainAttrs_str PySem.F.slot_str_join PySem.F.type_str_join mt_join pe_str (pa_cons
      (pe_lc (own := [("_law_part", 1)]) (g := gName 1) (tt := tYes) (te := tCall (spLText n) [] E0 (tCons (tVar 1) tNil)) rfl scLText.nd (pi_tup (pe_slice sl_tup (pv 0) (po_some pe_int) po_none))
        (blkOk_by (N := ["_law_term", "_law_part"]) (sc := defScope sText) (by decide +kernel)) (fun _ _ _ _ _ => pg_name (i := 1) scLText.nd rfl (Or.inl rfl))
        (fun _ _ _ _ _ => pts_nil) (fun _ _ _ _ _ => pe_call G hr (by rfl) mF F.kp b1 .nil pass0 (pa_cons (pv 1) pa_nil))) pa_nil))) pe_str)))), ?_⟩
  have big : (10000 : Nat) ≤ sizeLine := by decide
  have tl0 := txt_len t sm
  rcases T.ty (K := K) with ⟨m, rfl, rfl⟩ | ⟨a, xs, rfl, ha, ty, no⟩
  · have hm := sm m (by simp [Tm.nums])
    refine ⟨_, rfl, _, _, _, _, true, rfl, .ty "int", .base (.int m), kit_ii, true, rfl, iteT ?_⟩
    refine ⟨_, rfl, m, rfl, ?_, "x", _, rfl, rfl, ?_, q H (Same.refl H)⟩
    · have := Nat.log2_le_self m.natAbs; omega
    · have := num_len hm
      have : ("x" : Str).length = 1 := by decide +kernel
      show 1 + (Str.ofString (toString m)).length ≤ _
      omega
  · obtain ⟨a', ks, e, ha', hk, hks⟩ := T.tupled no
    cases e
    refine ⟨_, rfl, _, _, _, _, false, rfl, .ty "int", ty, kit_ti, false, rfl, iteF ?_⟩
    have l3 : ("(" : Str).length = 1 := by decide +kernel
    have l4 : (")" : Str).length = 1 := by decide +kernel
    have l5 : ("," : Str).length = 1 := by decide +kernel
    have kid_ok : ∀ (x : V) (i : Nat), ks[i]? = some x → ∃ k, t.kids[i]? = some k ∧ TmAt H x k ∧ k.small ∧ k.size ≤ 1000 ∧ k.deep < n := by
      intro x i hx
      have hil : i < t.kids.length := by rw [← hk]; exact (List.getElem?_eq_some_iff.mp hx).1
      have hki : t.kids[i]? = some t.kids[i] := List.getElem?_eq_getElem hil
      have mem : t.kids[i] ∈ t.kids := List.getElem_mem hil
      have d1 := kid_deep mem
      have z1 := kid_size mem
      refine ⟨_, hki, hks i x _ hx hki, ?_, by omega, by omega⟩
      exact fun k hk' => sm k (kid_nums mem k hk')
    by_cases hz : ks = []
    · subst hz
      have tz : t = .z := by
        cases t with
        | v n => exact absurd rfl (no n)
        | z => rfl
        | s t => simp [Tm.kids] at hk
        | f l r => simp [Tm.kids] at hk
      subst tz
      exact ⟨_, rfl, a, _, rfl, .inr (.inl (.inl ha')), rfl, true, congrArg V.bl (decide_eq_true rfl), iteT (q H (Same.refl H))⟩
    · have kpos : 0 < ks.length := List.length_pos_iff.mpr hz
      refine ⟨_, rfl, a, _, rfl, .inr (.inl (.inl ha')), rfl, false, congrArg V.bl (decide_eq_false (fun z => by injection z with z; rw [List.length_cons] at z; omega)), iteF ?_⟩
      have hl1 : (signHead t).length = 1 := by
        cases t with
        | v n => exact absurd rfl (no n)
        | z => show ("0" : Str).length = 1; decide +kernel
        | s t => show ("s" : Str).length = 1; decide +kernel
        | f l r => show ("f" : Str).length = 1; decide +kernel
      refine ⟨_, rfl, a, _, _, _, rfl, rfl, .inl (.inl ha'), at_of (j := 0) rfl rfl, signHead t, "(", rfl, rfl, by omega, ?_⟩
      refine ⟨rfl, _, rfl, 1, rfl, a, _, rfl, .inl (.inl ha'), cut_part _ _, fun p hp => ?_⟩
      rw [cut_tail]
      have s1 := same_new hp (.tup ks)
      refine ⟨p, rfl, ⟨_, .inl (.inl upd_same)⟩, fun D hD => lc_tup (K := K) (a := p) (xs := ks) (fun i H2 => H2 D = some (.lst (((t.kids.take i).map Tm.txt).map V.str)) ∧ Same (upd H p (.tup ks)) H2) ⟨upd_same, same_new hD _⟩ (fun i H2 _ h => .inl (.inl (h.2 _ _ upd_same))) ?_ ?_⟩
      · rintro i x H2 hi ⟨h2, s2⟩
        obtain ⟨k, hki, Tk, smk, szk, dk⟩ := kid_ok x i hi
        refine ⟨rfl, ?_⟩
        refine ⟨_, rfl, x, k, rfl, (Tk.same s1).same s2, smk, szk, dk, fun H3 s3 => ⟨_, s3 _ _ h2, ?_, ?_, ?_⟩⟩
        · rw [List.length_map, List.length_map, List.length_take]
          have : t.kids.length ≤ 2 := by cases t <;> simp [Tm.kids]
          omega
        · have tk : t.kids.take (i + 1) = t.kids.take i ++ [k] := by rw [List.take_add_one, hki]; rfl
          rw [upd_same, tk, List.map_append, List.map_append]; rfl
        · intro c o z
          rw [upd_ne (ne_of_none z hD)]
          exact s3 _ _ (s2 _ _ z)
      · rintro H2 ⟨h2, s2⟩
        rw [hk, List.take_of_length_le (Nat.le_refl _)] at h2
        have tt := Tm.txt_kids t
        have pt : t.txt = signHead t ++ "(" ++ Txt.join "," (t.kids.map Tm.txt) ++ ")" := by
          rw [tt]
          cases t with
          | v n => exact absurd rfl (no n)
          | z => simp [Tm.kids] at hk; exact absurd hk hz
          | s t => rfl
          | f l r => rfl
        have lt := congrArg Str.length pt
        rw [slen, slen, slen] at lt
        refine ⟨",", D, t.kids.map Tm.txt, rfl, rfl, .inl (.inl (.inl h2)), ?_, ?_⟩
        · have each : ∀ k ∈ t.kids, k.txt.length ≤ 4000 := fun k hk' => by
            obtain ⟨i, hi, rfl⟩ := List.getElem_of_mem hk'
            obtain ⟨k', h1, _, h3, h4, _⟩ := kid_ok (ks[i]'(by omega)) i (List.getElem?_eq_getElem (by omega))
            rw [List.getElem?_eq_getElem hi] at h1
            cases h1
            have := txt_len _ h3
            omega
          rw [l5]
          match hkk : t.kids, each with
          | [], _ => simp
          | [k], each => simp; have := each k (by simp); omega
          | [k, k'], each => simp; have := each k (by simp); have := each k' (by simp); omega
          | k :: k' :: k'' :: r, _ => cases t <;> simp [Tm.kids] at hkk
        · refine ⟨signHead t ++ "(", _, rfl, rfl, by rw [slen]; omega, ?_⟩
          refine ⟨signHead t ++ "(" ++ Txt.join "," (t.kids.map Tm.txt), ")", rfl, rfl, by rw [slen, slen]; omega, ?_⟩
          rw [← pt]
          exact q H2 (s1.trans s2)
theorem ltext_ok {f : Addr} {fd : FuncData} (F : Fun K "_law_text" "_law_text" sText f fd) (b1 : Binds K fd ["_law_term"] []) (mF : mg "_law_text" = some (.ref f)) (M : SameG mg) : ∀ n : Nat, FnOk P w K mg base CX0 n f fd ["_law_term"] (spLText n)
  | 0 => none_left fun vs H Q E h => by
    obtain ⟨v, t, _, _, _, _, h, _⟩ := h
    omega
  | n + 1 => ok_ltext F b1 mF (ltext_ok F b1 mF M n) M
end
end Rp

namespace Rp
open PySem PySem.Spec PyProof.Rows L2
def spIsTree (n : Nat) : Sp := fun vs H Q _ => ∃ (b : Addr) (v : V) (d : PyData), vs = [v] ∧ DAt H b v d ∧ okD d ∧ d.depth < n ∧ ∀ (r : Bool) (H' : Hp), (r = true ↔ IsT d) → Same H H' → Q (.bl r) H'
theorem three_in {x : Str} : inV (.str x) [.str "0", .str "s", .str "f"] = decide (x = "0" ∨ x = "s" ∨ x = "f") := by
  have e : ∀ a : Str, eqV (.str a) (.str x) = decide (x = a) := fun a => by unfold eqV; rw [Bool.eq_iff_iff]; simp; exact eq_comm
  simp [inV, e]
def arity : List (Key × V) := [(.inr "0", .int 1), (.inr "s", .int 2), (.inr "f", .int 3)]
theorem arity_0 : valV (mergeK [] arity) (.inr "0") = some (.int 1) := by decide +kernel
theorem arity_s : valV (mergeK [] arity) (.inr "s") = some (.int 2) := by decide +kernel
theorem arity_f : valV (mergeK [] arity) (.inr "f") = some (.int 3) := by decide +kernel
theorem eqv_nil {ds : List PyData} : PyData.eqv (.tuple ds) (.tuple []) = ds.isEmpty := by
  rw [eqv_tup]
  cases ds <;> simp [PyData.eqvAll]
section
variable {P : Program} {w : World} {K : PySem.W.Frag} {mg : Str → Option Value} {base : Heap}
theorem scIsTree : FnScope ["_law_thing", "_law_part"] ["_law_thing"] (defScope sIsTree) := ⟨rfl, rfl, rfl, by decide +kernel, rfl, by decide +kernel, by decide +kernel⟩
theorem ok_istree {n : Nat} {f : Addr} {fd : FuncData} (F : Fun K "_law_is_tree" "_law_is_tree" sIsTree f fd) (bF : Binds K fd ["_law_thing"] []) (mF : mg "_law_is_tree" = some (.ref f))
    (G : FnOk P w K mg base CX0 n f fd ["_law_thing"] (spIsTree n)) (M : SameG mg) : FnOk P w K mg base CX0 (n + 1) f fd ["_law_thing"] (spIsTree (n + 1)) := by
  refine F.ok scIsTree (fun vs H Q E h => ?_) (fun cdv A outer s H vs Q E hr h => ?_)
  · obtain ⟨b, v, d, rfl, _⟩ := h
    rfl
  obtain ⟨b, v, d, rfl, D, ok, hd, q⟩ := h
  refine ⟨_, pss_cons (ps_if (pt_val (pe_callB (id := "isinstance") call_isi (by rfl) M.isi (by decide +kernel) (pa_cons (pv 0) (pa_cons (pe_bltn (v := .ty "int") (by rfl) M.int (by decide +kernel) rfl) pa_nil))))
      (pss_one (ps_ret (pe_and (pe_not (pe_callB (id := "isinstance") call_isi (by rfl) M.isi (by decide +kernel) (pa_cons (pv 0) (pa_cons (pe_bltn (v := .ty "bool") (by rfl) M.bool (by decide +kernel) rfl) pa_nil)))) (pe_one (pe_chain op_le op_le pe_int (pv 0) pe_int))))) pss_nil)
    (pss_cons (ps_if (PW.pt (pw_or (pt_not (pt_val (pe_callB (id := "isinstance") call_isi (by rfl) M.isi (by decide +kernel) (pa_cons (pv 0) (pa_cons (pe_bltn (v := .ty "tuple") (by rfl) M.tuple (by decide +kernel) rfl) pa_nil)))))
      (pw_or (pt_cmpR (op_eqD hr.units) (pv 0) (pe_tup pa_nil) (nomark _))
      (pw_or1 (pt_not (pt_val (pe_callB (id := "isinstance") call_isi (by rfl) M.isi (by decide +kernel) (pa_cons (pe_ix ix_tup (pv 0) pe_int (fun _ _ => rfl)) (pa_cons (pe_bltn (v := .ty "str") (by rfl) M.str (by decide +kernel) rfl) pa_nil)))))))))
      (pss_one (ps_ret pe_bl)) pss_nil)
    (pss_cons (ps_if (pt_cmpR op_notIn_seq (pe_ix ix_tup (pv 0) pe_int (fun _ _ => rfl)) (pe_tup (pa_cons pe_str (pa_cons pe_str (pa_cons pe_str pa_nil)))) (by rfl)) (pss_one (ps_ret pe_bl)) pss_nil)
    (pss_one (ps_ret (pe_and (pe_cmpR op_eq (pe_callB call_len_seq (by rfl) M.len PySem.boot_len (pa_cons (pv 0) pa_nil))
        (pe_dget (hu_of hr) (pe_disp (pps_cons pe_str pe_int (pps_cons pe_str pe_int (pps_cons pe_str pe_int pps_nil))) rfl rfl (by simp) (by decide)) (pe_ix ix_tup (pv 0) pe_int (fun _ _ => rfl)) (fun _ _ => rfl)) (nomark _))
      (pe_one (pe_callB (cr_all rfl) (by rfl) M.all (by decide +kernel) (pa_cons (pe_lc (own := [("_law_part", 1)]) (g := gName 1) (tt := tYes) (te := tCall (spIsTree n) [] E0 (tCons (tVar 1) tNil)) rfl scIsTree.nd
            (pi_tup (pe_slice sl_tup (pv 0) (po_some pe_int) po_none))
            (blkOk_by (N := ["_law_thing", "_law_part"]) (sc := defScope sIsTree) (by decide +kernel)) (fun _ _ _ _ _ => pg_name (i := 1) scIsTree.nd rfl (Or.inl rfl))
            (fun _ _ _ _ _ => pts_nil) (fun _ _ _ _ _ => pe_call G hr (by rfl) mF F.kp bF .nil pass0 (pa_cons (pv 1) pa_nil))) pa_nil)))))))), ?_⟩
  refine ⟨_, rfl, _, _, _, _, isI d, rfl, .ty "int", D.tyx, kitI d, isI d, rfl, ?_⟩
  have no_other : (∀ ds, d ≠ .tuple ds) → (∀ n, d ≠ .int n) → isI d = false → isU d = false → ∀ (H' : Hp), Same H H' → Q (.bl false) H' := fun h1 h2 _ _ H' s' =>
    q false H' ⟨(fun e => nomatch e), fun z => absurd z (isT_other (fun ⟨x, ds, e, _⟩ => h1 _ e) h2)⟩ s'
  cases d with
  | int i =>
    cases D.int_of
    refine iteT ?_
    refine ⟨_, rfl, _, _, _, _, false, rfl, .ty "bool", D.tyx, kitB' _, false, rfl, true, rfl, iteT ?_⟩
    refine ⟨_, rfl, _, _, rfl, rfl, decide (0 ≤ i), rfl, ?_⟩
    cases e : decide (0 ≤ i) with
    | false => exact iteF (q _ _ ⟨(fun e => nomatch e), fun z => by have := (isT_int.mp z).1; simp at e; omega⟩ (Same.refl H))
    | true => exact iteT ⟨_, _, rfl, rfl, q _ _ (by rw [isT_int]; simp at e ⊢; intro _; exact e) (Same.refl H)⟩
  | bool c =>
    refine iteT ?_
    refine ⟨_, rfl, _, _, _, _, true, rfl, .ty "bool", D.tyx, kitB' _, true, rfl, false, rfl, iteF ?_⟩
    exact q _ _ ⟨(fun e => nomatch e), fun z => absurd z (isT_other (fun ⟨x, ds, e, _⟩ => nomatch e) (fun _ e => nomatch e))⟩ (Same.refl H)
  | tuple ds =>
    obtain ⟨a, xs, rfl, ha, A'⟩ := D.tup_of
    refine iteF ?_
    refine ⟨_, rfl, _, _, _, _, true, rfl, .ty "tuple", D.tyx, kitU _, true, rfl, iteF ?_⟩
    refine ⟨_, rfl, (by show 0 ≤ sizeLine; decide), fun p hp => ?_⟩
    have s1 := same_new hp (.tup ([] : List V))
    refine ⟨.tuple ds, .tuple [], (D.same s1).dp, .tup (.inl (.inl upd_same)) .nil, shaped_of ok.1 (by have := ok.2; omega), by decide +kernel, ds.isEmpty, congrArg V.bl eqv_nil, ?_⟩
    cases xs with
    | nil =>
      have e0 : ds = [] := by have := A'.len; cases ds with | nil => rfl | cons => simp at this
      subst e0
      refine iteT (q false _ ⟨(fun e => nomatch e), fun z => absurd z (isT_other ?_ (fun _ e => nomatch e))⟩ s1)
      rintro ⟨x, ds', e, _⟩
      injection e with e
      cases e
    | cons x0 xr =>
      obtain ⟨d0, dr, rfl, D0, Dr⟩ := A'.head
      refine iteF ?_
      have ha1 := s1 _ _ ha
      refine ⟨_, rfl, a, _, _, _, rfl, rfl, .inl (.inl ha1), at_of (j := 0) rfl rfl, _, _, _, _, isS d0, rfl, .ty "str", (D0.same s1).tyx, kitS d0, isS d0, rfl, ?_⟩
      have shaped_str : ∀ {x : Str}, d0 = .str x → ¬ (x = "0" ∨ x = "s" ∨ x = "f") → ¬ Shaped (.tuple (d0 :: dr)) := by
        rintro x rfl no ⟨x', ds', e, h⟩
        injection e with e
        injection e with e1 e2
        injection e1 with e1
        subst e1
        rcases h with ⟨h, _⟩ | ⟨h, _⟩ | ⟨h, _⟩
        · exact no (.inl h)
        · exact no (.inr (.inl h))
        · exact no (.inr (.inr h))
      have shaped_no : (∀ x, d0 ≠ .str x) → ¬ Shaped (.tuple (d0 :: dr)) := by
        rintro no ⟨x', ds', e, h⟩
        injection e with e
        injection e with e1 e2
        exact no _ e1
      cases d0 with
      | str x =>
        refine iteF ?_
        cases D0.str_of
        refine ⟨_, rfl, a, _, _, _, rfl, rfl, .inl (.inl ha1), at_of (j := 0) rfl rfl, (by show 3 ≤ sizeLine; decide), fun g hg => ?_⟩
        have s2 := same_new hg (.tup [V.str "0", .str "s", .str "f"])
        have s12 := s1.trans s2
        refine ⟨g, _, rfl, .inr (.inl (.inl upd_same)), rfl, rfl, _, rfl, ?_⟩
        rw [if_pos rfl, three_in]
        by_cases hx : x = "0" ∨ x = "s" ∨ x = "f"
        · rw [decide_eq_true hx]
          refine iteF ?_
          have ha2 := s12 _ _ ha
          refine ⟨_, rfl, a, _, rfl, .inr (.inl (.inl ha2)), fun p2 hp2 => ?_⟩
          refine ⟨upd_same, arity, rfl, by decide, ?_⟩
          rw [upd_upd]
          have s3 := same_new hp2 (.dK (mergeK [] arity))
          have ha3 := s3 _ _ ha2
          obtain ⟨ar, har, hav⟩ : ∃ ar : Nat, valV (mergeK [] arity) (.inr x) = some (.int ar) ∧ ((x = "0" ∧ ar = 1) ∨ (x = "s" ∧ ar = 2) ∨ (x = "f" ∧ ar = 3)) := by
            rcases hx with rfl | rfl | rfl
            · exact ⟨1, arity_0, .inl ⟨rfl, rfl⟩⟩
            · exact ⟨2, arity_s, .inr (.inl ⟨rfl, rfl⟩)⟩
            · exact ⟨3, arity_f, .inr (.inr ⟨rfl, rfl⟩)⟩
          refine ⟨_, rfl, a, _, _, _, rfl, rfl, .inl (.inl ha3), at_of (j := 0) rfl rfl, p2, _, rfl, har ▸ DGet.k (k := .inr x) upd_same, ?_⟩
          have el := Dr.len
          have sh : (((V.str x :: xr).length : Nat) : Int) = (ar : Nat) ↔ ((x = "0" ∧ dr.length = 0) ∨ (x = "s" ∧ dr.length = 1) ∨ (x = "f" ∧ dr.length = 2)) := by
            have s0 : ("0" : Str) ≠ "s" := by decide +kernel
            have s1 : ("0" : Str) ≠ "f" := by decide +kernel
            have s2 : ("s" : Str) ≠ "f" := by decide +kernel
            rw [List.length_cons, el]
            rcases hav with ⟨rfl, rfl⟩ | ⟨rfl, rfl⟩ | ⟨rfl, rfl⟩
            · exact ⟨fun h => .inl ⟨rfl, by omega⟩, fun h => by rcases h with ⟨_, h⟩ | ⟨h, _⟩ | ⟨h, _⟩; (· omega); (· exact absurd h s0); (· exact absurd h s1)⟩
            · exact ⟨fun h => .inr (.inl ⟨rfl, by omega⟩), fun h => by rcases h with ⟨h, _⟩ | ⟨_, h⟩ | ⟨h, _⟩; (· exact absurd h.symm s0); (· omega); (· exact absurd h s2)⟩
            · exact ⟨fun h => .inr (.inr ⟨rfl, by omega⟩), fun h => by rcases h with ⟨h, _⟩ | ⟨h, _⟩ | ⟨_, h⟩; (· exact absurd h.symm s1); (· exact absurd h.symm s2); (· omega)⟩
          refine ⟨rfl, decide (V.int (((V.str x :: xr).length : Nat) : Int) = V.int (ar : Nat)), rfl, ?_⟩
          by_cases he : (((V.str x :: xr).length : Nat) : Int) = (ar : Nat)
          · have hs := sh.mp he
            rw [decide_eq_true (by rw [he])]
            refine iteT ?_
            refine ⟨_, rfl, 1, rfl, a, _, rfl, .inl (.inl ha3), cut_part _ _, fun p4 hp4 => ?_⟩
            rw [cut_tail]
            have s4 := same_new hp4 (.tup xr)
            have s14 := s12.trans (s3.trans s4)
            refine ⟨p4, rfl, ⟨_, .inl (.inl upd_same)⟩, fun D5 hD5 => lc_tup (K := K) (a := p4) (xs := xr) (fun i H2 => ∃ bs : List Bool, H2 D5 = some (.lst (bs.map V.bl)) ∧ bs.length = i ∧ (∀ (j : Nat) (r : Bool) (e : PyData), bs[j]? = some r → dr[j]? = some e → (r = true ↔ IsT e)) ∧
                Same _ H2) ⟨[], upd_same, rfl, fun j r e z => by simp at z, same_new hD5 _⟩ (fun i H2 _ ⟨_, _, _, _, s⟩ => .inl (.inl (s _ _ upd_same))) ?_ ?_⟩
            · rintro i x' H2 hi ⟨bs, h5, lb, each, s5⟩
              obtain ⟨e, he1, De⟩ := Dr.get hi
              have em : e ∈ dr := List.mem_of_getElem? he1
              have oke := ok.tup e (by simp [em])
              have depe : e.depth < n := by
                have h1 : PyData.depthAll (.str x :: dr) + 1 < n + 1 := hd
                have := depthAll_iff.mp (Nat.le_refl (PyData.depthAll (.str x :: dr))) e (by simp [em])
                omega
              have li : i < dr.length := (List.getElem?_eq_some_iff.mp he1).1
              have ld : dr.length ≤ 2 := by rcases hs with ⟨_, h⟩ | ⟨_, h⟩ | ⟨_, h⟩ <;> omega
              refine ⟨rfl, ?_⟩
              refine ⟨_, rfl, b, x', e, rfl, De.same (s14.trans s5), oke, depe, fun r H6 hr6 s6 => ?_⟩
              refine ⟨_, s6 _ _ h5, ?_, bs ++ [r], ?_, by rw [List.length_append, lb]; rfl, ?_, ?_⟩
              · rw [List.length_map]; exact Nat.lt_of_lt_of_le (by omega : bs.length < 1000) (by decide)
              · rw [upd_same, List.map_append]; rfl
              · intro j r' e' z1 z2
                rcases Nat.lt_or_ge j bs.length with lt | ge
                · rw [List.getElem?_append_left lt] at z1
                  exact each j r' e' z1 z2
                · rw [List.getElem?_append_right ge] at z1
                  obtain ⟨z3, z4⟩ := List.getElem?_eq_some_iff.mp z1
                  simp at z3
                  have ej : j = i := by omega
                  subst ej
                  rw [he1] at z2
                  cases z2
                  simp [lb] at z1
                  rw [← z1]
                  exact hr6
              · intro c o z
                have nD : c ≠ D5 := fun e => by subst e; rw [hD5] at z; cases z
                rw [upd_ne nD]
                exact s6 _ _ (s5 _ _ z)
            · rintro H2 ⟨bs, h5, lb, each, s5⟩
              refine ⟨D5, bs, rfl, .inl (.inl h5), q _ _ ?_ (s14.trans s5)⟩
              rw [isT_shaped hs, List.all_eq_true]
              have lbd : bs.length = dr.length := by rw [lb, el]
              constructor
              · intro h e he
                obtain ⟨j, lj, rfl⟩ := List.getElem_of_mem he
                exact (each j bs[j] dr[j] (List.getElem?_eq_getElem (by omega)) (List.getElem?_eq_getElem lj)).mp (h _ (List.getElem_mem _))
              · intro h r hr
                obtain ⟨j, lj, rfl⟩ := List.getElem_of_mem hr
                exact (each j bs[j] dr[j] (List.getElem?_eq_getElem lj) (List.getElem?_eq_getElem (by omega))).mpr (h _ (List.getElem_mem _))
          · rw [decide_eq_false (fun z => he (by injection z))]
            refine iteF (q false _ ⟨(fun e => nomatch e), fun z => absurd z (isT_other ?_ (fun _ e => nomatch e))⟩ (s12.trans s3))
            rintro ⟨x', ds', e, h⟩
            injection e with e
            injection e with e1 e2
            injection e1 with e1
            subst e1 e2
            exact he (sh.mpr h)
        · rw [decide_eq_false hx]
          exact iteT (q false _ ⟨(fun e => nomatch e), fun z => absurd z (isT_other (shaped_str rfl hx) (fun _ e => nomatch e))⟩ s12)
      | _ => exact iteT (q false _ ⟨(fun e => nomatch e), fun z => absurd z (isT_other (shaped_no (fun _ e => nomatch e)) (fun _ e => nomatch e))⟩ s1)
  | _ =>
    refine iteF ⟨_, rfl, _, _, _, _, false, rfl, .ty "tuple", D.tyx, kitU _, false, rfl, iteT ?_⟩
    exact no_other (fun _ e => nomatch e) (fun _ e => nomatch e) rfl rfl _ (Same.refl H)
theorem istree_ok {f : Addr} {fd : FuncData} (F : Fun K "_law_is_tree" "_law_is_tree" sIsTree f fd) (bF : Binds K fd ["_law_thing"] []) (mF : mg "_law_is_tree" = some (.ref f)) (M : SameG mg) :
    ∀ n : Nat, FnOk P w K mg base CX0 n f fd ["_law_thing"] (spIsTree n)
  | 0 => none_left fun vs H Q E h => by
    obtain ⟨b, v, d, _, _, _, h, _⟩ := h
    omega
  | n + 1 => ok_istree F bF mF (istree_ok F bF mF M n) M
end
end Rp

/-! sorted(xs, key=f), f a def with a promise that gives texts and leaves the heap as it is. -/
namespace Rp
open PySem PySem.Spec PySem.W PyProof.Rows L2 TL
/-- by the texts beside -/
def leS : V × Str → V × Str → Bool := dataLe false fun p => PyData.str p.2
def rSortK (K : PySem.W.Frag) (f : Addr) (sp : Sp) : List V → List V → Hp → VK → Prop := fun vs zs H Q => ∃ (a : Addr) (ps : List (V × Str)), vs = [.ref a] ∧ zs = [.ref f] ∧ SqL K H a (ps.map (·.1)) ∧
  (∀ p ∈ ps, ∀ (H1 : Hp) (Q1 : VK), Same H H1 → (∀ H2, Same H1 H2 → Q1 (.str p.2) H2) → sp [p.1] H1 Q1 fun _ _ _ => False) ∧
  ∀ (l : Addr) (H1 : Hp), Same H H1 → H l = none → H1 l = some (.lst ((ps.mergeSort leS).map (·.1))) → Q (.ref l) H1
section
variable {X : Cx} {pins : List (Addr × Obj)} {σ : L2.St} {H : Hp} {s : Shared}
/-- a list of ours that stood untracked is tracked -/
theorem track {a : Addr} {o : HO} (I : Inv X pins σ H s) (F : FpOk X pins H a) (new : ObjOk X.prog X.w (upd H a o) s.heap a o) : Inv X pins σ (upd H a o) s := by
  obtain ⟨hn, h1, h2, h3, h4, h5⟩ := F
  have u : Un (frs X.stack) [a] H (upd H a o) s.heap s.heap :=
    { keep := fun b ob e n nf nx => e
      slot := fun b ob e n nf nx => ⟨ob.slots, e⟩
      free := fun b ob e n nx => by rw [upd_ne (by simpa using nx)]; exact n
      there := fun b ob e nx => ⟨ob, e⟩
      tups := fun b xs e => by rw [upd_ne (ne_of_none e hn)]; exact e
      frzs := fun b ob v e => by rw [upd_ne (ne_of_none e hn)]; exact e
      tbls := fun b ps e => ⟨#[], by rw [upd_ne (ne_of_none e hn), e]; simp⟩ }
  exact I.call (ch := [a]) (g' := s.gens) (d' := s.drawn) (t' := s.toks) u (I.hok.laidN (fun _ _ e => e) hn new) I.bare fun b hb => by
    obtain rfl : b = a := by simpa using hb
    exact ⟨h3, h1, h4, h5⟩
theorem each_vals {xs : List V} {us : List Value} (r : EachIs (fun u (x : V) => RelV x u) us xs) : Vals xs us := by
  induction r with
  | nil => exact .nil
  | cons h _ ih => exact .cons h ih
theorem vals_each {ps : List (V × Str)} : ∀ {us : List Value}, Vals (ps.map (·.1)) us → EachIs (fun u (p : V × Str) => RelV p.1 u) us ps := by
  induction ps with
  | nil => intro us r; cases r; exact .nil
  | cons p ps ih => intro us r; cases r with | cons h t => exact .cons h (ih t)
theorem each_fst {us : List Value} {ps : List (V × Str)} (r : EachIs (fun u (p : V × Str) => RelV p.1 u) us ps) : Vals (ps.map (·.1)) us := by
  induction r with
  | nil => exact .nil
  | cons h _ ih => exact .cons h ih
theorem same_trans {H H1 H2 : Hp} (a : ∀ b o, H b = some o → H1 b = some o) (c : ∀ b o, H1 b = some o → H2 b = some o) : ∀ b o, H b = some o → H2 b = some o := fun b o h => c b o (a b o h)
theorem cr_sortK {k : Nat} {f : Addr} {sp : Sp} (F : FnR X.prog X.w X.K X.mg X.base CX0 k f sp) (hr : Room (k + 2) X.A) : CallRK X (.builtin "sorted") [Str.ofString "key"] (rSortK X.K f sp) := by
  intro pins s σ H vs zs us ws Q I r rz h
  obtain ⟨a0, ps, rfl, rfl, hs, turn, q⟩ := h
  obtain rfl := Vals.ref1 r
  obtain rfl := Vals.ref1 rz
  obtain ⟨its, rv, hl, hz⟩ := I.list hs
  have len : its.length = ps.length := by rw [← rv.length, List.length_map]
  have hZ : its.length ≤ sizeLine := by rw [← rv.length]; exact hz
  have hr2 : Room k X.A.in1.in1 := (Room.in1 (Room.in1 hr) : Room k X.A.in1.in1)
  refine sorted_of_sort hl.isList hZ (ksk_s1 _ _) (fun x => ksk_l1 _ _) fun E' => ?_
  show wpAny (model X.prog X.w) X.A.in1.in1 (ksk_tree (s.heap.objs.size + 1) (.ref f) false) _ E' { s with heap := copyHeap s.heap its }
  have ho := copyHeap_at s.heap its
  have hsz : (copyHeap s.heap its).objs.size = s.heap.objs.size + 2 := by
    unfold copyHeap
    rw [size_push', Heap.size_update, size_push']
  have old : ∀ b o, s.heap.get? b = some o → (copyHeap s.heap its).get? b = some o := fun b o e => copyHeap_old e
  generalize hA : s.heap.objs.size + 1 = a at ho ⊢
  have al : s.heap.objs.size ≤ a := by omega
  generalize copyHeap s.heap its = h1 at ho hsz old ⊢
  obtain ⟨e1, ho1⟩ : ∃ e1, (h1.update a (Obj.mapSeq fun _ => (#[] : Array Value))).get? a = some (seqObj "list" #[] e1) := ⟨_, get?_update_seq ho fun _ => #[]⟩
  unfold ksk_tree
  refine wpAny_bind (listItems_at ho rfl ?_)
  refine wpAny_bind (listUpdate_at ho rfl ?_ (by rw [List.size_toArray]; exact hZ) (Nat.zero_le _))
  refine wpAny_bind (seqEpoch_at ho1 rfl ?_)
  refine wpAny_bind (wpAny_newTuple ?_ (by show its.length ≤ _; exact hZ))
  refine wpAny_bind (wpAny_newList ?_ (Nat.zero_le _))
  refine wpAny_holding ?_
  have sb := Heap.SameBut.update h1 a (Obj.mapSeq fun _ => (#[] : Array Value))
  have sz2 : (h1.update a (Obj.mapSeq fun _ => (#[] : Array Value))).objs.size = s.heap.objs.size + 2 := by rw [Heap.size_update]; exact hsz
  have old2 : ∀ b o, s.heap.get? b = some o → (h1.update a (Obj.mapSeq fun _ => (#[] : Array Value))).get? b = some o := fun b o e => (sb.2 b (Nat.ne_of_lt (Nat.lt_of_lt_of_le (Heap.lt_size e) al))).trans (old b o e)
  generalize h1.update a (Obj.mapSeq fun _ => (#[] : Array Value)) = h2 at ho1 sz2 old2 ⊢
  have sz3 : (h2.push (seqObj "tuple" its.toArray 0)).objs.size = s.heap.objs.size + 3 := by rw [size_push', sz2]
  have ho3 : ((h2.push (seqObj "tuple" its.toArray 0)).push (seqObj "list" #[] 0)).get? a = some (seqObj "list" #[] e1) := Heap.get?_push_of_some _ (Heap.get?_push_of_some _ ho1)
  have hk3 : ((h2.push (seqObj "tuple" its.toArray 0)).push (seqObj "list" #[] 0)).get? (h2.push (seqObj "tuple" its.toArray 0)).objs.size = some (seqObj "list" #[] 0) := Heap.get?_push_size _ rfl
  have old3 : ∀ b o, s.heap.get? b = some o → ((h2.push (seqObj "tuple" its.toArray 0)).push (seqObj "list" #[] 0)).get? b = some o := fun b o e => Heap.get?_push_of_some _ (Heap.get?_push_of_some _ (old2 b o e))
  have I3 : Inv X pins σ H { s with heap := ((h2.push (seqObj "tuple" its.toArray 0)).push (seqObj "list" #[] 0)) } := I.kept (t' := s.toks) old3
  show wpAny (model X.prog X.w) X.A.in1.in1 (ksk_rest a (.ref f) false its.toArray e1 (.ref (h2.push (seqObj "tuple" its.toArray 0)).objs.size)) _ E' { s with heap := ((h2.push (seqObj "tuple" its.toArray 0)).push (seqObj "list" #[] 0)) }
  generalize hkS : (h2.push (seqObj "tuple" its.toArray 0)).objs.size = kS at hk3 ⊢
  have kl : s.heap.objs.size ≤ kS := by omega
  have ka : kS ≠ a := by omega
  have Ha : H a = none := I.hok.fresh al
  have Hk : H kS = none := I.hok.fresh kl
  generalize ((h2.push (seqObj "tuple" its.toArray 0)).push (seqObj "list" #[] 0)) = h3 at ho3 hk3 I3 ⊢
  have nofr : ∀ b, s.heap.objs.size ≤ b → b ∉ frs X.stack := fun b hb z => by
    rcases List.mem_cons.mp (I.stkSub b z) with e | e
    · exact absurd (e ▸ hb : s.heap.objs.size ≤ X.env.locals) (Nat.not_le.mpr I.lt)
    · exact I.nofs hb e
  unfold ksk_rest
  refine wpAny_bind (wpAny_rule ?_)
  rw [List.forIn_toArray]
  refine wpAny_bind (ksk_fold (fun i s' => ∃ (H' : Hp) (kA : Array Value) (e : Nat), Inv X pins σ H' s' ∧ Same H H' ∧ H' a = none ∧ H' kS = none ∧ s'.heap.get? kS = some (seqObj "list" kA e) ∧ s'.heap.get? a = some (seqObj "list" #[] e1) ∧ EachIs (fun u (p : V × Str) => RelV (.str p.2) u) kA.toList (ps.take i)) its 0 _
    ⟨H, #[], 0, I3, Same.refl H, Ha, Hk, hk3, ho3, by rw [List.take_zero]; exact .nil⟩ ?step ?done)
  case step =>
    rintro j x s' hx ⟨H', kA, e, I', sm, na, nk, gk, ga, ek⟩
    simp only [Nat.zero_add] at ek ⊢
    have hj : j < its.length := (List.getElem?_eq_some_iff.mp hx).1
    obtain ⟨p, hp⟩ : ∃ p, ps[j]? = some p := ⟨_, List.getElem?_eq_getElem (by omega)⟩
    have rx : RelV p.1 x := by
      obtain ⟨u, hu, ru⟩ := rv.get (i := j) (x := p.1) (by rw [List.getElem?_map, hp]; rfl)
      rw [hx] at hu
      cases hu
      exact ru
    have tk : ps.take (j + 1) = ps.take j ++ [p] := by rw [List.take_add_one, hp]; rfl
    have kz : kA.size ≤ its.length := by
      have h1 := ek.length
      rw [Array.length_toList, List.length_take] at h1
      omega
    have e0 := I'.env0
    have e2 : Env0 X.prog X.w X.K X.mg X.base X.A.in1.in1 X.stack s' H' := ⟨e0.frames, e0.mod, e0.bs, e0.bsz, e0.funs, e0.frf, e0.hok, e0.bare⟩
    refine wpAny_bind (wpAny_attempt (wpAny_call (codeAny_mono (F X.A.in1.in1 X.stack s' H' [x] [p.1] (fun v H2 => v = .str p.2 ∧ Same H' H2) _ hr2 e2 (.cons rx .nil) (turn p (List.mem_of_getElem? hp) H' _ sm fun H2 s2 => ⟨rfl, s2⟩)) fun rr s2 hrr => ?_)))
    cases rr with
    | error er => exact False.elim hrr
    | ok fl =>
      cases fl with
      | next => exact False.elim hrr
      | brk => exact False.elim hrr
      | cont => exact False.elim hrr
      | ret v =>
        obtain ⟨v', H2, os, bare, un, hok, rv', ev, sm2⟩ := (show CE X.stack X.prog X.w H' _ _ v s2 from hrr)
        subst ev
        have I2 : Inv X pins σ H2 s2 := I'.call' os un hok bare (fun b y => absurd y List.not_mem_nil)
        have gk2 := un.keep _ _ gk nk (nofr _ kl) List.not_mem_nil
        have ga2 := un.keep _ _ ga na (nofr _ al) List.not_mem_nil
        have nk2 := un.free _ _ gk nk List.not_mem_nil
        have na2 := un.free _ _ ga na List.not_mem_nil
        try dsimp only
        have s1 := Heap.SameBut.update s2.heap kS (Obj.mapSeq (·.push v))
        obtain ⟨c2, hc2⟩ : ∃ c2, (s2.heap.update kS (Obj.mapSeq (·.push v))).get? kS = some (seqObj "list" (kA.push v) c2) := ⟨_, get?_update_seq gk2 (·.push v)⟩
        have ea : (kA.push v).toList = kA.toList ++ [v] := by simp
        refine wpAny_bind (listUpdate_at gk2 rfl ?_ (Nat.le_trans kz hZ) (Nat.le_trans (Nat.le_of_eq (Array.size_push ..)) (Nat.succ_le_succ (Nat.le_trans kz hZ))))
        refine wpAny_pure ⟨rfl, H2, kA.push v, c2, ?_, sm.trans sm2, na2, nk2, hc2, (s1.2 a ka.symm).trans ga2, ?_⟩
        · exact I2.turnedL (t' := s2.toks) (ch := [kS]) (fun b o hb e => (s1.2 b (by simpa using hb)).trans e) fun b hb => by
            obtain rfl : b = kS := by simpa using hb
            exact I.fpOk kl nk2
        · rw [ea, tk]
          exact each_snoc (R := fun u (p : V × Str) => RelV (.str p.2) u) rv' ek
  case done =>
    rintro s' ⟨H', kA, e, I', sm, na, nk, gk, ga, ek⟩
    have tk : ps.take (0 + its.length) = ps := List.take_of_length_le (by omega)
    rw [tk] at ek
    have kz : kA.size = its.length := by
      have h1 := ek.length
      rw [Array.length_toList] at h1
      omega
    have er : EachIs (fun v d => ∃ as, Reads s'.heap v d as) kA.toList (ps.map fun p => PyData.str p.2) := by
      have all : ∀ {us : List Value} {qs : List (V × Str)}, EachIs (fun u (p : V × Str) => RelV (.str p.2) u) us qs → EachIs (fun v d => ∃ as, Reads s'.heap v d as) us (qs.map fun p => PyData.str p.2) := by
        intro us qs r
        induction r with
        | nil => exact .nil
        | cons h _ ih =>
          obtain ⟨t, rfl⟩ := h
          exact .cons ⟨[], .str _ t⟩ ih
      exact all ek
    have hal : AllAlike (ps.map fun p => PyData.str p.2) := fun d hd d' hd' => by
      obtain ⟨p, _, rfl⟩ := List.mem_map.mp hd
      obtain ⟨p', _, rfl⟩ := List.mem_map.mp hd'
      rfl
    have hsk : Sortable (ps.map fun p => PyData.str p.2) := .inr fun d hd => by
      obtain ⟨p, _, rfl⟩ := List.mem_map.mp hd
      exact ⟨fun z => (by cases z), fun xs z => (by cases z)⟩
    have hu : ∀ d, d ∈ (ps.map fun p => PyData.str p.2) → X.A.in1.in1.units + d.depth < cLine := fun d hd => by
      obtain ⟨p, _, rfl⟩ := List.mem_map.mp hd
      have := hr2.un
      show X.A.in1.in1.units + 0 < cLine
      omega
    refine wpAny_bind (listItems_at gk rfl ?_)
    -- a heap without the keys
    have fr := Heap.SameBut.update s'.heap kS (fun o => { o with data := .freed })
    have hk0 : (s'.heap.update kS (fun o => { o with data := .freed })).get? kS = none := by
      have h1 := ((Heap.get?_eq_some s'.heap kS _).mp gk).1
      unfold Heap.get?
      rw [Heap.objs_update_self, h1]
      rfl
    refine keyH_end (κ := dataKind s'.heap (ps.map fun p => PyData.str p.2)) (h₁ := s'.heap.update kS (fun o => { o with data := .freed })) (vs := its) (fun b o hb e => ?_) hk0 gk ga ka (SortsAt.data er hal hsk hu) kz hZ fun h' tk c kp hD => ?_
    · by_cases hbk : b = kS
      · rw [hbk, hk0] at e; cases e
      · exact (fr.2 b hbk).symm.trans e
    have out := keyedOut_each (rev := false) (k := fun p : V × Str => PyData.str p.2) (R := fun u (p : V × Str) => RelV p.1 u) (bs := ps) ⟨s'.heap, kA.toList, hal, rfl, er⟩ (vals_each rv)
    have ov := each_fst out
    refine ⟨rfl, .ref a, upd H' a (.lst ((ps.mergeSort leS).map (·.1))), ?_, rfl, q a _ (fun b o z => ?_) Ha upd_same⟩
    · have keepAll : ∀ b o, b ∉ [kS, a] → s'.heap.get? b = some o → h'.get? b = some o := fun b o hb e => by
        simp only [List.mem_cons, List.not_mem_nil, or_false, not_or] at hb
        exact kp b o hb.2 ((fr.2 b hb.1).trans e)
      have I4 : Inv X pins σ H' { s' with heap := h', toks := tk } := I'.turnedL (t' := tk) (ch := [kS, a]) keepAll fun b hb => by
        simp only [List.mem_cons, List.not_mem_nil, or_false] at hb
        rcases hb with rfl | rfl
        · exact I.fpOk kl nk
        · exact I.fpOk al na
      refine track I4 (I.fpOk al na) ⟨?_, _, c, ov, hD⟩
      rw [List.length_map, List.length_mergeSort, ← len]
      exact hZ
    · rw [upd_ne (ne_of_none z Ha)]
      exact sm _ _ z
end
end Rp

/-! Trees by their sizes, told without the heap. -/
namespace Rp
open PySem PySem.Spec PyProof.Rows L2 TL
def leT (a b : Tm) : Bool := decide (a.txt.cps.toList ≤ b.txt.cps.toList)
def sortT (l : List Tm) : List Tm := l.mergeSort leT
def rowAt (rows : List (List Tm)) (n : Nat) : List Tm := rows.getD n []
def ofSize (n : Nat) (rows : List (List Tm)) : List Tm := if n = 1 then [.z] else (rowAt rows (n - 1)).map Tm.s ++ (List.range (n - 2)).flatMap fun i => (rowAt rows (i + 1)).flatMap fun l => (rowAt rows (n - 2 - i)).map fun r => Tm.f l r
def rowsL : Nat → List (List Tm)
  | 0 => [[]]
  | n + 1 => rowsL n ++ [sortT (ofSize (n + 1) (rowsL n))]
def treesL (n : Nat) : List Tm := (rowsL n).flatten
theorem rowsL_len : ∀ n, (rowsL n).length = n + 1
  | 0 => rfl
  | n + 1 => by show (rowsL n ++ [_]).length = _; rw [List.length_append, rowsL_len n]; rfl
theorem rowAt_old {rows : List (List Tm)} {r : List Tm} {k : Nat} (h : k < rows.length) : rowAt (rows ++ [r]) k = rowAt rows k := by
  unfold rowAt
  rw [List.getD_eq_getElem?_getD, List.getD_eq_getElem?_getD, List.getElem?_append_left h]
theorem rowAt_new {rows : List (List Tm)} {r : List Tm} : rowAt (rows ++ [r]) rows.length = r := by
  unfold rowAt
  rw [List.getD_eq_getElem?_getD]
  simp
theorem size_pos : ∀ t : Tm, 1 ≤ t.size
  | .v _ => by show 1 ≤ 1; decide
  | .z => by show 1 ≤ 1; decide
  | .s t => by show 1 ≤ t.size + 1; omega
  | .f l r => by show 1 ≤ l.size + r.size + 1; omega
def Full (rows : List (List Tm)) (k : Nat) : Prop := (rowAt rows k).Nodup ∧ ∀ t, t ∈ rowAt rows k ↔ (t.nums = [] ∧ t.size = k)
theorem ofSize_full {n : Nat} {rows : List (List Tm)} (h : ∀ k ≤ n, Full rows k) : (ofSize (n + 1) rows).Nodup ∧ ∀ t, t ∈ ofSize (n + 1) rows ↔ (t.nums = [] ∧ t.size = n + 1) := by
  unfold ofSize
  by_cases e : n + 1 = 1
  · rw [if_pos e]
    refine ⟨by simp, fun t => ?_⟩
    rw [List.mem_singleton, e]
    constructor
    · rintro rfl; exact ⟨rfl, rfl⟩
    · rintro ⟨h1, h2⟩
      cases t with
      | v n => simp [Tm.nums] at h1
      | z => rfl
      | s t => have := size_pos t; simp only [Tm.size] at h2; omega
      | f l r => have := size_pos l; simp only [Tm.size] at h2; omega
  · rw [if_neg e]
    have n1 : 1 ≤ n := by omega
    have e2 : n + 1 - 2 = n - 1 := by omega
    rw [show n + 1 - 1 = n by omega, e2]
    constructor
    · rw [List.nodup_append]
      refine ⟨?_, ?_, ?_⟩
      · exact List.Pairwise.map _ (fun a b (h : a ≠ b) z => h (by injection z)) (h n (Nat.le_refl _)).1
      · unfold List.Nodup
        rw [List.pairwise_flatMap]
        refine ⟨fun i hi => ?_, ?_⟩
        · have hi := List.mem_range.mp hi
          rw [List.pairwise_flatMap]
          refine ⟨fun l hl => List.Pairwise.map _ (fun a b (h : a ≠ b) z => h (by injection z)) (h _ (by omega)).1, ?_⟩
          refine (h (i + 1) (by omega)).1.imp fun {a b} ab x hx y hy z => ?_
          obtain ⟨r, _, rfl⟩ := List.mem_map.mp hx
          obtain ⟨r', _, e'⟩ := List.mem_map.mp hy
          rw [← e'] at z
          injection z with z1 z2
          exact ab z1
        · refine List.nodup_range.imp fun {a b} ab x hx y hy z => ?_
          obtain ⟨l, hl, hx⟩ := List.mem_flatMap.mp hx
          obtain ⟨l', hl', hy⟩ := List.mem_flatMap.mp hy
          obtain ⟨r, hr, rfl⟩ := List.mem_map.mp hx
          obtain ⟨r', hr', e'⟩ := List.mem_map.mp hy
          rw [← e'] at z
          injection z with z1 z2
          subst z1
          by_cases la : a + 1 ≤ n
          · by_cases lb : b + 1 ≤ n
            · have s1 := (((h (a + 1) la).2 l).1 hl).2
              have s2 := (((h (b + 1) lb).2 l).1 hl').2
              omega
            · have : n - 1 - b = 0 := by omega
              rw [this] at hr'
              have := size_pos r'
              have := (((h 0 (by omega)).2 r').1 hr').2
              omega
          · have : n - 1 - a = 0 := by omega
            rw [this] at hr
            have := size_pos r
            have := (((h 0 (by omega)).2 r).1 hr).2
            omega
      · intro x hx y hy z
        obtain ⟨t, _, rfl⟩ := List.mem_map.mp hx
        obtain ⟨i, _, hy⟩ := List.mem_flatMap.mp hy
        obtain ⟨l, _, hy⟩ := List.mem_flatMap.mp hy
        obtain ⟨r, _, e'⟩ := List.mem_map.mp hy
        rw [← e'] at z
        cases z
    · intro t
      rw [List.mem_append]
      constructor
      · rintro (ht | ht)
        · obtain ⟨u, hu, rfl⟩ := List.mem_map.mp ht
          have := ((h n (Nat.le_refl _)).2 u).1 hu
          exact ⟨this.1, by simp only [Tm.size]; omega⟩
        · obtain ⟨i, hi, ht⟩ := List.mem_flatMap.mp ht
          have hi := List.mem_range.mp hi
          obtain ⟨l, hl, ht⟩ := List.mem_flatMap.mp ht
          obtain ⟨r, hr, rfl⟩ := List.mem_map.mp ht
          have h1 := ((h (i + 1) (by omega)).2 l).1 hl
          have h2 := ((h (n - 1 - i) (by omega)).2 r).1 hr
          exact ⟨by simp [Tm.nums, h1.1, h2.1], by simp only [Tm.size]; omega⟩
      · rintro ⟨h1, h2⟩
        cases t with
        | v m => simp [Tm.nums] at h1
        | z => simp only [Tm.size] at h2; omega
        | s u => exact .inl (List.mem_map.mpr ⟨u, ((h n (Nat.le_refl _)).2 u).2 ⟨h1, by simp only [Tm.size] at h2; omega⟩, rfl⟩)
        | f l r =>
          have pl := size_pos l
          have pr := size_pos r
          simp only [Tm.size] at h2
          simp only [Tm.nums, List.append_eq_nil_iff] at h1
          refine .inr (List.mem_flatMap.mpr ⟨l.size - 1, List.mem_range.mpr (by omega), List.mem_flatMap.mpr ⟨l, ?_, List.mem_map.mpr ⟨r, ?_, rfl⟩⟩⟩)
          · rw [show l.size - 1 + 1 = l.size by omega]
            exact ((h l.size (by omega)).2 l).2 ⟨h1.1, rfl⟩
          · rw [show n - 1 - (l.size - 1) = r.size by omega]
            exact ((h r.size (by omega)).2 r).2 ⟨h1.2, rfl⟩
theorem rows_full : ∀ n, ∀ k ≤ n, Full (rowsL n) k
  | 0, k, hk => by
    obtain rfl : k = 0 := by omega
    refine ⟨by simp [rowAt, rowsL], fun t => ⟨fun h => by simp [rowAt, rowsL] at h, fun h => ?_⟩⟩
    have := size_pos t
    omega
  | n + 1, k, hk => by
    have ih := rows_full n
    show Full (rowsL n ++ [sortT (ofSize (n + 1) (rowsL n))]) k
    by_cases e : k = n + 1
    · subst e
      have q : rowAt (rowsL n ++ [sortT (ofSize (n + 1) (rowsL n))]) (n + 1) = sortT (ofSize (n + 1) (rowsL n)) := by
        have := rowAt_new (rows := rowsL n) (r := sortT (ofSize (n + 1) (rowsL n)))
        rwa [rowsL_len] at this
      unfold Full
      rw [q]
      have f := ofSize_full ih
      have pm : (sortT (ofSize (n + 1) (rowsL n))).Perm (ofSize (n + 1) (rowsL n)) := List.mergeSort_perm _ _
      exact ⟨pm.nodup_iff.mpr f.1, fun t => by rw [pm.mem_iff]; exact f.2 t⟩
    · unfold Full
      rw [rowAt_old (by rw [rowsL_len]; omega)]
      exact ih k (by omega)
theorem mem_rows {n : Nat} {row : List Tm} (h : row ∈ rowsL n) : ∃ k ≤ n, row = rowAt (rowsL n) k := by
  obtain ⟨k, hk, e⟩ := List.getElem_of_mem h
  refine ⟨k, by rw [rowsL_len] at hk; omega, ?_⟩
  unfold rowAt
  rw [List.getD_eq_getElem?_getD, List.getElem?_eq_getElem hk, ← e]
  rfl
theorem trees_mem {n : Nat} {t : Tm} : t ∈ treesL n ↔ t.nums = [] ∧ t.size ≤ n := by
  unfold treesL
  rw [List.mem_flatten]
  constructor
  · rintro ⟨row, hr, ht⟩
    obtain ⟨k, hk, rfl⟩ := mem_rows hr
    have := ((rows_full n k hk).2 t).1 ht
    exact ⟨this.1, by omega⟩
  · rintro ⟨h1, h2⟩
    refine ⟨rowAt (rowsL n) t.size, ?_, ((rows_full n t.size h2).2 t).2 ⟨h1, rfl⟩⟩
    unfold rowAt
    rw [List.getD_eq_getElem?_getD, List.getElem?_eq_getElem (by rw [rowsL_len]; omega)]
    exact List.getElem_mem _
theorem trees_nodup (n : Nat) : (treesL n).Nodup := by
  unfold treesL List.Nodup
  rw [List.pairwise_flatten]
  refine ⟨fun row hr => ?_, ?_⟩
  · obtain ⟨k, hk, rfl⟩ := mem_rows hr
    exact (rows_full n k hk).1
  · rw [List.pairwise_iff_getElem]
    intro i j hi hj ij x hx y hy e
    subst e
    have li := hi
    have lj := hj
    rw [rowsL_len] at li lj
    have q : ∀ k (hk : k < (rowsL n).length), (rowsL n)[k] = rowAt (rowsL n) k := fun k hk => by
      unfold rowAt
      rw [List.getD_eq_getElem?_getD, List.getElem?_eq_getElem hk]
      rfl
    rw [q] at hx hy
    have h1 := ((rows_full n i (by omega)).2 x).1 hx
    have h2 := ((rows_full n j (by omega)).2 x).1 hy
    omega
theorem trees_count {n : Nat} {t : Tm} (h : t.nums = []) (hs : t.size ≤ n) : (treesL n).count t = 1 := by
  rw [List.Nodup.count (trees_nodup n), if_pos (trees_mem.mpr ⟨h, hs⟩)]
/-! how many -/
def ofLen (n : Nat) (ls : List Nat) : Nat := if n = 1 then 1 else ls.getD (n - 1) 0 + ((List.range (n - 2)).map fun i => ls.getD (i + 1) 0 * ls.getD (n - 2 - i) 0).sum
def lensL : Nat → List Nat
  | 0 => [0]
  | n + 1 => lensL n ++ [ofLen (n + 1) (lensL n)]
theorem rowAt_len {rows : List (List Tm)} {k : Nat} : (rowAt rows k).length = (rows.map List.length).getD k 0 := by
  unfold rowAt
  rw [List.getD_eq_getElem?_getD, List.getD_eq_getElem?_getD, List.getElem?_map]
  cases rows[k]? <;> rfl
theorem len_flat {α β : Type} {g : α → List β} {c : Nat} : ∀ {l : List α}, (∀ a ∈ l, (g a).length = c) → (l.flatMap g).length = l.length * c
  | [], _ => by simp
  | a :: l, h => by
    rw [List.flatMap_cons, List.length_append, h a (by simp), len_flat fun b hb => h b (by simp [hb]), List.length_cons, Nat.add_mul]
    omega
theorem ofSize_len {n : Nat} {rows : List (List Tm)} : (ofSize n rows).length = ofLen n (rows.map List.length) := by
  unfold ofSize ofLen
  split
  · rfl
  · rw [List.length_append, List.length_map, rowAt_len, List.length_flatMap]
    congr 1
    congr 1
    refine List.map_congr_left fun i _ => ?_
    rw [len_flat (c := (rowAt rows (n - 2 - i)).length) fun a _ => by rw [List.length_map], rowAt_len, rowAt_len]
theorem rowsL_lens : ∀ n, (rowsL n).map List.length = lensL n
  | 0 => rfl
  | n + 1 => by
    show (rowsL n ++ [sortT (ofSize (n + 1) (rowsL n))]).map List.length = lensL n ++ [ofLen (n + 1) (lensL n)]
    rw [List.map_append, rowsL_lens n]
    congr 1
    show [(sortT _).length] = _
    unfold sortT
    rw [List.length_mergeSort, ofSize_len, rowsL_lens n]
theorem lens7 : lensL 7 = [0, 1, 1, 2, 4, 9, 21, 51] := by decide +kernel
theorem lens_le {n : Nat} (h : n ≤ 7) : ∀ row ∈ rowsL n, row.length ≤ 51 := by
  have all : ∀ n ≤ 7, ∀ x ∈ lensL n, x ≤ 51 := by decide +kernel
  intro row hr
  refine all n h _ ?_
  rw [← rowsL_lens]
  exact List.mem_map_of_mem hr
theorem ofLen_le {n : Nat} (h : n ≤ 6) : ofLen (n + 1) (lensL n) ≤ 51 := by
  have all : ∀ n ≤ 6, ofLen (n + 1) (lensL n) ≤ 51 := by decide +kernel
  exact all n h
end Rp

set_option maxHeartbeats 8000000
/-! _of_size, trees. -/
namespace Rp
open PySem PySem.Spec PyProof.Rows L2 TL
def RowsAt (H : Hp) (rs : List Addr) (rows : List (List Tm)) : Prop := rs.length = rows.length ∧ ∀ (i : Nat) (r : Addr), rs[i]? = some r → ∃ xs, H r = some (.lst xs) ∧ AllAt H xs (rowAt rows i)
theorem AllAt.same {H H' : Hp} (e : Same H H') {xs : List V} {ts : List Tm} (h : AllAt H xs ts) : AllAt H' xs ts := h.mono fun a zs z => e _ _ z
theorem RowsAt.same {H H' : Hp} (e : Same H H') {rs : List Addr} {rows : List (List Tm)} (h : RowsAt H rs rows) : RowsAt H' rs rows := ⟨h.1, fun i r hr => let ⟨xs, a, b⟩ := h.2 i r hr; ⟨xs, e _ _ a, b.same e⟩⟩
theorem keepL {H : Hp} {D : Addr} {xs : List V} {o : HO} (h : H D = some (.lst xs)) : ∀ q zs, H q = some (.tup zs) → (upd H D o) q = some (.tup zs) := fun q zs z => by
  rw [upd_ne (ne_of z h (by intro e; cases e))]; exact z
def SmRows (rows : List (List Tm)) : Prop := (∀ row ∈ rows, row.length ≤ 51) ∧ ∀ row ∈ rows, ∀ t ∈ row, t.nums = [] ∧ t.size ≤ 7
def spOfSize : Sp := fun vs H Q _ => ∃ (l : Addr) (rs : List Addr) (rows : List (List Tm)) (n : Nat), vs = [.int (n : Nat), .ref l] ∧ H l = some (.lst (rs.map V.ref)) ∧ RowsAt H rs rows ∧ rows.length = n ∧ 1 ≤ n ∧ n ≤ 7 ∧ (∀ row ∈ rows, row.length ≤ 51) ∧ (ofSize n rows).length ≤ 51 ∧
  ∀ (p : Addr) (xs : List V) (H' : Hp), H p = none → H' p = some (.lst xs) → AllAt H' xs (ofSize n rows) → Same H H' → Q (.ref p) H'
abbrev NOf : List Str := ["signs", "ahead", "found", "few", "tree", "left", "right"]
def teS : TE := tTup (tCons (tC (.str "s")) (tCons (tVar 4) tNil))
def teF : TE := tTup (tCons (tC (.str "f")) (tCons (tVar 5) (tCons (tVar 6) tNil)))
def rSubI : R2 := rI0 fun i j => .int (i - j)
def wiR (K : PySem.W.Frag) : TI := iList K (tOp (rIxL K) (tVar 1) (tOp rSubI (tOp rSubI (tVar 0) (tC (.int 1))) (tVar 3)))
theorem rowAt_few {rows : List (List Tm)} (h : ∀ row ∈ rows, row.length ≤ 51) (k : Nat) : (rowAt rows k).length ≤ 51 := by
  unfold rowAt
  rw [List.getD_eq_getElem?_getD]
  cases e : rows[k]? with
  | none => show ([] : List Tm).length ≤ 51; decide
  | some r => exact h r (List.mem_of_getElem? e)
theorem walk_lst5 {K : PySem.W.Frag} {a : Addr} {xs : List V} {B : V → Hp → (Hp → Prop) → Prop} {H1 : Hp} {Done : Hp → Prop} (Pv : Nat → Hp → Prop) (h0 : Pv 0 H1) (hl : ∀ i H, i ≤ xs.length → Pv i H → SqL K H a xs)
    (hs : ∀ i x H, xs[i]? = some x → Pv i H → B x H (Pv (i + 1))) (hd : ∀ H, Pv xs.length H → Done H) :
    ∃ W : Nat → Nat → Hp → Prop, (∃ m, W 0 m H1) ∧ ∀ i m H, W i m H →
      ((Itl K a).stop i H ∧ Done H) ∨ ((Itl K a).go i H ∧ ∃ Nx : Hp → Prop, (∀ H', Nx H' → ∃ m', m' < m ∧ W (i + 1) m' H') ∧ ∀ x H', (Itl K a).yld i H x H' → B x H' Nx) := by
  refine ⟨fun i m H => m = xs.length - i ∧ i ≤ xs.length ∧ Pv i H, ⟨xs.length, by simp, Nat.zero_le _, h0⟩, ?_⟩
  rintro i m H ⟨rfl, hi, p⟩
  have q := hl i H hi p
  by_cases hlt : i < xs.length
  · refine .inr ⟨⟨xs, xs[i], q, by simp [hlt]⟩, Pv (i + 1), fun H' p' => ⟨xs.length - (i + 1), by omega, rfl, hlt, p'⟩, fun x H' y => ?_⟩
    obtain ⟨e, y⟩ := y
    subst e
    exact hs i x _ (y xs q) p
  · have e : i = xs.length := by omega
    subst e
    exact .inl ⟨⟨xs, q, Nat.le_refl _⟩, hd H p⟩
theorem same_none {H H' : Hp} {b : Addr} (e : Same H H') (h : H' b = none) : H b = none := by
  cases q : H b with
  | none => rfl
  | some u => have := e _ _ q; rw [h] at this; cases this
section
variable {P : Program} {w : World} {K : PySem.W.Frag} {mg : Str → Option Value} {base : Heap}
theorem scOf : FnScope NOf ["signs", "ahead"] (defScope sOfSize) := ⟨rfl, rfl, rfl, by decide +kernel, rfl, by decide +kernel, by decide +kernel⟩
theorem ok_ofsize {f : Addr} {fd : FuncData} (F : Fun K "_of_size" "_of_size" sOfSize f fd) (mRange : mg "range" = none) : FnOk P w K mg base CX0 1 f fd ["signs", "ahead"] spOfSize := by
  refine F.ok scOf (fun vs H Q E h => ?_) (fun cdv A outer s H vs Q E hr h => ?_)
  · obtain ⟨l, rs, rows, n, rfl, _⟩ := h
    rfl
  obtain ⟨l, rs, rows, n, rfl, hl, R, rl, n1, n7, few, all, q⟩ := h
  refine ⟨_, (pss_cons (ps_if (pt_cmpR op_eq (pv 0) pe_int (nomark _)) (pss_one (ps_ret (pe_lst (pa_cons (pe_tup (pa_cons pe_str pa_nil)) pa_nil)))) pss_nil)
    (pss_cons (ps_setLc (i := 2) (own := [("tree", 4)]) (g := gName 4) (tt := tYes) (te := teS) rfl scOf.nd rfl rfl (by rfl) (pi_list (pe_ix ix_list (pv 1) (pe_op op_sub (pv 0) pe_int) (fun _ _ => rfl))) (blkOk_by (N := NOf) (sc := defScope sOfSize) (by decide +kernel)) (fun _ _ _ _ _ => (pg_name (i := 4) scOf.nd rfl (Or.inl rfl))) (fun _ _ _ _ _ => pts_nil) (fun _ _ _ _ _ => (pe_tup (pa_cons pe_str (pa_cons (pv 4) pa_nil)))))
    (pss_cons (ps_for PassesOwn.never rfl (pi_range2 (by rfl) mRange (pa_cons pe_int (pa_cons (pe_op op_sub (pv 0) pe_int) pa_nil))) (pg_name (i := 3) scOf.nd rfl (Or.inr rfl)) (pss_one (ps_expr (pe_bm PySem.F.plainAttrs_list PySem.F.slot_list_extend PySem.F.type_list_extend mt_extend (pv 2) (pa_cons (pe_lc2 (own := [("left", 5), ("right", 6)]) (vs1 := [6]) (g := gName 5) (tt := tYes) (wi1 := wiR K) (g1 := gName 6) (tt1 := tYes) (te := teF) rfl scOf.nd (pi_list (pe_ix ix_list (pv 1) (pv 3) (fun _ _ => rfl))) (blkOk_by (N := NOf) (sc := defScope sOfSize) (by decide +kernel)) (by decide) (fun _ _ _ _ _ => (pg_name (i := 5) scOf.nd rfl (Or.inl rfl))) (fun _ _ _ _ _ => pts_nil) (fun _ _ _ _ _ => pi_list (pe_ix ix_list (pv 1) (pe_op op_sub (pe_op op_sub (pv 0) pe_int) (pv 3)) (fun _ _ => rfl))) (fun _ _ _ _ _ => (pg_name (i := 6) scOf.nd rfl (Or.inl rfl))) (fun _ _ _ _ _ => pts_nil) (fun _ _ _ _ _ => (pe_tup (pa_cons pe_str (pa_cons (pv 5) (pa_cons (pv 6) pa_nil)))))) pa_nil)))))
    (pss_one (ps_ret (pv 2)))))), ?_⟩
  have big : (10000 : Nat) ≤ sizeLine := by decide
  have rsl := R.1
  refine ⟨_, rfl, rfl, decide (V.int (n : Nat) = V.int 1), rfl, ?_⟩
  by_cases e1 : V.int ((n : Nat) : Int) = V.int 1
  · have e1' : n = 1 := by have : ((n : Nat) : Int) = 1 := by simpa using e1
                           omega
    rw [decide_eq_true e1]
    refine iteT ⟨(by show 1 ≤ sizeLine; decide), fun z hz => ?_⟩
    have s1 := same_new hz (.tup [V.str "0"])
    refine ⟨(by show 1 ≤ sizeLine; decide), fun p hp => ?_⟩
    have s2 := same_new hp (.lst [V.ref z])
    refine q p [V.ref z] _ (same_none s1 hp) upd_same ?_ (s1.trans s2)
    have : ofSize n rows = [.z] := by unfold ofSize; rw [if_pos e1']
    rw [this]
    exact ⟨.z (s2 _ _ upd_same), trivial⟩
  have e1' : n ≠ 1 := fun e => e1 (by rw [e]; rfl)
  rw [decide_eq_false e1]
  obtain ⟨r0, hr0⟩ : ∃ r, rs[n - 1]? = some r := ⟨_, List.getElem?_eq_getElem (by omega)⟩
  obtain ⟨x0, hx0, A0⟩ := R.2 (n - 1) r0 hr0
  have x0l := A0.len
  have f0 := rowAt_few few (n - 1)
  refine iteF ⟨_, rfl, _, rfl, _, _, rfl, rfl, l, _, _, _, rfl, rfl, .inl (.inl hl), at_of (j := n - 1) (by omega) (by rw [List.getElem?_map, hr0]; rfl), r0, rfl, ⟨_, .inl (.inl hx0)⟩, fun D hD => lc_list (K := K) (a := r0) (xs := x0) (fun i H2 => ∃ ys : List V, H2 D = some (.lst ys) ∧ AllAt H2 ys (((rowAt rows (n - 1)).take i).map Tm.s) ∧ ys.length = i ∧ Same H H2)
    ⟨[], upd_same, trivial, rfl, same_new hD _⟩ (fun i H2 _ ⟨_, _, _, _, s⟩ => .inl (.inl (s _ _ hx0))) ?_ ?_⟩
  · rintro i x H2 hi ⟨ys, h2, A2, yl, s2⟩
    obtain ⟨t, ht, T⟩ := A0.get hi
    have li : i < x0.length := (List.getElem?_eq_some_iff.mp hi).1
    have tk : (rowAt rows (n - 1)).take (i + 1) = (rowAt rows (n - 1)).take i ++ [t] := by rw [List.take_add_one, ht]; rfl
    refine ⟨rfl, ?_⟩
    unfold teS
    refine ⟨_, rfl, (by show 2 ≤ sizeLine; decide), fun c hc => ?_⟩
    have s3 := same_new hc (.tup [V.str "s", x])
    have h3 := s3 _ _ h2
    refine ⟨ys, h3, by omega, ys ++ [.ref c], upd_same, ?_, by rw [List.length_append, yl]; rfl, fun b o z => by rw [upd_ne (ne_of_none z hD)]; exact s3 _ _ (s2 _ _ z)⟩
    rw [tk, List.map_append]
    have cD : c ≠ D := (ne_of_none h2 hc).symm
    exact ((A2.same s3).mono (keepL h3)).append ⟨.s (by rw [upd_ne cD, upd_same]) (((T.same s2).same s3).mono (keepL h3)), trivial⟩
  rintro H1 ⟨ys1, h1, A1, yl1, s1⟩
  rw [x0l, List.take_length] at A1
  have R1 := R.same s1
  have hl1 := s1 _ _ hl
  have lD : l ≠ D := ne_of_none hl hD
  refine ⟨_, rfl, _, _, rfl, rfl, _, _, rfl, ⟨by omega, by omega, by omega, by omega⟩, for_range (lo := 1) (n := (((n : Nat) : Int) - 1 - 1).toNat) (fun i σ H2 => ∃ (x3 : Option V) (ys : List V), σ = [some (.int (n : Nat)), some (.ref l), some (.ref D), x3, none, none, none] ∧
      H2 D = some (.lst ys) ∧ AllAt H2 ys ((rowAt rows (n - 1)).map Tm.s ++ (List.range i).flatMap fun i => (rowAt rows (i + 1)).flatMap fun l => (rowAt rows (n - 2 - i)).map fun r => Tm.f l r) ∧ (∀ b o, b ≠ D → H1 b = some o → H2 b = some o))
    ⟨_, ys1, rfl, h1, by simpa using A1, fun b o _ z => z⟩ ?_ ?_⟩
  · rintro i σ H2 hi ⟨x3, ys, rfl, h2, A2, o2⟩
    have hi' : i < n - 2 := by omega
    have al2 := A2.len
    have part : ((rowAt rows (n - 1)).map Tm.s ++ (List.range i).flatMap fun i => (rowAt rows (i + 1)).flatMap fun l => (rowAt rows (n - 2 - i)).map fun r => Tm.f l r).length ≤ 51 := by
      have e : ofSize n rows = (rowAt rows (n - 1)).map Tm.s ++ (List.range (n - 2)).flatMap fun i => (rowAt rows (i + 1)).flatMap fun l => (rowAt rows (n - 2 - i)).map fun r => Tm.f l r := by unfold ofSize; rw [if_neg e1']
      rw [e] at all
      refine Nat.le_trans ?_ all
      rw [List.length_append, List.length_append]
      refine Nat.add_le_add_left (List.Sublist.length_le ?_) _
      have er : List.range (n - 2) = List.range i ++ (List.range (n - 2)).drop i := by
        have := List.take_append_drop i (List.range (n - 2))
        rw [List.take_range, Nat.min_eq_left (by omega)] at this
        exact this.symm
      rw [er, List.flatMap_append]
      exact List.sublist_append_left _ _
    obtain ⟨ra, hra⟩ : ∃ r, rs[i + 1]? = some r := ⟨_, List.getElem?_eq_getElem (by omega)⟩
    obtain ⟨rb, hrb⟩ : ∃ r, rs[n - 2 - i]? = some r := ⟨_, List.getElem?_eq_getElem (by omega)⟩
    obtain ⟨xa, hxa, Aa⟩ := R.2 _ _ hra
    obtain ⟨xb, hxb, Ab⟩ := R.2 _ _ hrb
    have xal := Aa.len
    have xbl := Ab.len
    have fa := rowAt_few few (i + 1)
    have fb := rowAt_few few (n - 2 - i)
    have hl2 := o2 _ _ lD hl1
    have hxa2 := o2 _ _ (ne_of_none hxa hD) (s1 _ _ hxa)
    have hxb2 := o2 _ _ (ne_of_none hxb hD) (s1 _ _ hxb)
    have k12 : ∀ q zs, H q = some (.tup zs) → H2 q = some (.tup zs) := fun q zs z => o2 _ _ (ne_of_none z hD) (s1 _ _ z)
    have Aa2 := Aa.mono k12
    have Ab2 := Ab.mono k12
    have ei : (1 : Int) + (i : Nat) = ((i + 1 : Nat) : Int) := by omega
    refine ⟨_, rfl, .inl ⟨rfl, _, .inl (.inl h2)⟩, ?_⟩
    refine ⟨_, rfl, _, rfl, l, _, _, _, rfl, rfl, .inl (.inl hl2), at_of (j := i + 1) ei (by rw [List.getElem?_map, hra]; rfl), ra, rfl, ⟨_, .inl (.inl hxa2)⟩, fun D2 hD2 => walk_lst5 (K := K) (a := ra) (xs := xa) (fun a H3 => ∃ zs : List V, H3 D2 = some (.lst zs) ∧ AllAt H3 zs (((rowAt rows (i + 1)).take a).flatMap fun l => (rowAt rows (n - 2 - i)).map fun r => Tm.f l r) ∧ Same H2 H3)
      ⟨[], upd_same, trivial, same_new hD2 _⟩ (fun a H3 _ ⟨_, _, _, s⟩ => .inl (.inl (s _ _ hxa2))) ?_ ?_⟩
    · rintro a x H3 ha ⟨zs, h3, A3, s3⟩
      obtain ⟨t, ht, T⟩ := Aa2.get ha
      have la : a < xa.length := (List.getElem?_eq_some_iff.mp ha).1
      have tk : (rowAt rows (i + 1)).take (a + 1) = (rowAt rows (i + 1)).take a ++ [t] := by rw [List.take_add_one, ht]; rfl
      have zl := A3.len
      have zfew : zs.length ≤ 51 * 51 := by
        rw [zl, len_flat (c := (rowAt rows (n - 2 - i)).length) fun a _ => by rw [List.length_map]]
        refine Nat.mul_le_mul ?_ fb
        rw [List.length_take]; omega
      have lD2 : l ≠ D2 := ne_of_none hl2 hD2
      have rbD2 : rb ≠ D2 := ne_of_none hxb2 hD2
      refine ⟨rfl, ?_⟩
      unfold wiR
      refine ⟨_, rfl, _, rfl, _, _, rfl, rfl, _, rfl, _, _, rfl, rfl, l, _, _, _, rfl, rfl, .inl (.inl (s3 _ _ hl2)), at_of (j := n - 2 - i) (by omega) (by rw [List.getElem?_map, hrb]; rfl), rb, rfl, ⟨_, .inl (.inl (s3 _ _ hxb2))⟩, walk_lst5 (K := K) (a := rb) (xs := xb) (fun c H4 => ∃ ws : List V, H4 D2 = some (.lst ws) ∧ AllAt H4 ws ((((rowAt rows (i + 1)).take a).flatMap fun l => (rowAt rows (n - 2 - i)).map fun r => Tm.f l r) ++ ((rowAt rows (n - 2 - i)).take c).map fun r => Tm.f t r) ∧ (∀ b o, b ≠ D2 → H3 b = some o → H4 b = some o))
        ⟨zs, h3, by simpa using A3, fun b o _ z => z⟩ (fun c H4 _ ⟨_, _, _, o⟩ => .inl (.inl (o _ _ rbD2 (s3 _ _ hxb2)))) ?_ ?_⟩
      · rintro c y H4 hc ⟨ws, h4, A4, o4⟩
        obtain ⟨u, hu, U⟩ := Ab2.get hc
        have lc : c < xb.length := (List.getElem?_eq_some_iff.mp hc).1
        have tk2 : (rowAt rows (n - 2 - i)).take (c + 1) = (rowAt rows (n - 2 - i)).take c ++ [u] := by rw [List.take_add_one, hu]; rfl
        have wl := A4.len
        have wfew : ws.length ≤ 51 * 51 + 51 := by
          rw [wl, List.length_append, List.length_map, List.length_take, ← zl]; omega
        have k24 : ∀ q zs, H2 q = some (.tup zs) → H4 q = some (.tup zs) := fun q zs z => o4 _ _ (ne_of_none z hD2) (s3 _ _ z)
        refine ⟨rfl, ?_⟩
        unfold teF
        refine ⟨_, rfl, _, rfl, (by show 3 ≤ sizeLine; decide), fun g hg => ?_⟩
        have s5 := same_new hg (.tup [V.str "f", x, y])
        have h5 := s5 _ _ h4
        have gD : g ≠ D2 := (ne_of_none h4 hg).symm
        have k25 : ∀ q zs, H2 q = some (.tup zs) → (upd (upd H4 g (.tup [V.str "f", x, y])) D2 (.lst (ws ++ [.ref g]))) q = some (.tup zs) := fun q zs z => keepL h5 _ _ (s5 _ _ (k24 _ _ z))
        refine ⟨ws, h5, by omega, ws ++ [.ref g], upd_same, ?_, fun b o nb z => by rw [upd_ne nb]; exact s5 _ _ (o4 _ _ nb z)⟩
        rw [tk2, List.map_append, ← List.append_assoc]
        exact ((A4.same s5).mono (keepL h5)).append ⟨.f (by rw [upd_ne gD, upd_same]) (T.mono k25) (U.mono k25), trivial⟩
      · rintro H4 ⟨ws, h4, A4, o4⟩
        rw [xbl, List.take_length] at A4
        refine ⟨ws, h4, ?_, fun b o z => o4 _ _ (ne_of_none z hD2) (s3 _ _ z)⟩
        rw [tk, List.flatMap_append]
        simpa using A4
    · rintro H3 ⟨zs, h3, A3, s3⟩
      rw [xal, List.take_length] at A3
      have zl := A3.len
      have zfew : zs.length ≤ 51 * 51 := by
        rw [zl, len_flat (c := (rowAt rows (n - 2 - i)).length) fun a _ => by rw [List.length_map]]
        exact Nat.mul_le_mul fa fb
      have h32 := s3 _ _ h2
      refine ⟨D, D2, _, _, rfl, rfl, h32, h3, by omega, ?_⟩
      refine ⟨_, ys ++ zs, rfl, upd_same, ?_, fun b o nb z => by rw [upd_ne nb]; exact s3 _ _ (o2 _ _ nb z)⟩
      rw [List.range_succ, List.flatMap_append, ← List.append_assoc]
      exact ((A2.same s3).mono (keepL h32)).append (by simpa using A3.mono (keepL h32))
  · rintro σ H2 ⟨x3, ys, rfl, h2, A2, o2⟩
    have en : (((n : Nat) : Int) - 1 - 1).toNat = n - 2 := by omega
    rw [en] at A2
    have e : ofSize n rows = (rowAt rows (n - 1)).map Tm.s ++ (List.range (n - 2)).flatMap fun i => (rowAt rows (i + 1)).flatMap fun l => (rowAt rows (n - 2 - i)).map fun r => Tm.f l r := by unfold ofSize; rw [if_neg e1']
    exact ⟨_, rfl, q D ys H2 hD h2 (e ▸ A2) fun b o z => o2 _ _ (ne_of_none z hD) (s1 _ _ z)⟩
end
end Rp

set_option maxHeartbeats 8000000
/-! trees. -/
namespace Rp
open PySem PySem.Spec PyProof.Rows L2 TL
theorem leS_eq : leS = fun a b => decide (a.2.cps.toList ≤ b.2.cps.toList) := PySem.W.dataLe_str fun p : V × Str => p.2
def zTxt (z : V × Tm) : V × Str := (z.1, z.2.txt)
theorem all_zip {H : Hp} : ∀ {xs : List V} {ts : List Tm}, AllAt H xs ts → (∀ z ∈ xs.zip ts, TmAt H z.1 z.2) ∧ (xs.zip ts).map (·.2) = ts ∧ ((xs.zip ts).map zTxt).map (·.1) = xs
  | [], [], _ => ⟨by simp, rfl, rfl⟩
  | x :: xs, t :: ts, h => by
    obtain ⟨h1, h2, h3⟩ := all_zip h.2
    refine ⟨fun z hz => ?_, ?_, ?_⟩
    · rcases List.mem_cons.mp hz with rfl | hz
      · exact h.1
      · exact h1 z hz
    · rw [List.zip_cons_cons, List.map_cons, h2]
    · rw [List.zip_cons_cons, List.map_cons, List.map_cons, h3]; rfl
theorem all_unzip {H : Hp} : ∀ {zs : List (V × Tm)}, (∀ z ∈ zs, TmAt H z.1 z.2) → AllAt H ((zs.map zTxt).map (·.1)) (zs.map (·.2))
  | [], _ => trivial
  | z :: zs, h => ⟨h z (by simp), all_unzip fun y hy => h y (by simp [hy])⟩
theorem sorted_all {H : Hp} {xs : List V} {ts : List Tm} (h : AllAt H xs ts) : AllAt H ((((xs.zip ts).map zTxt).mergeSort leS).map (·.1)) (sortT ts) := by
  obtain ⟨h1, h2, h3⟩ := all_zip h
  have e1 : ((xs.zip ts).map zTxt).mergeSort leS = ((xs.zip ts).mergeSort fun a b => leT a.2 b.2).map zTxt := by
    rw [List.map_mergeSort]
    intro a _ b _
    rw [leS_eq]
    rfl
  have e2 : sortT ts = ((xs.zip ts).mergeSort fun a b => leT a.2 b.2).map (·.2) := by
    rw [List.map_mergeSort (s := leT), h2]
    · rfl
    · intro a _ b _; rfl
  rw [e1, e2]
  exact all_unzip fun z hz => h1 z ((List.mergeSort_perm _ _).mem_iff.mp hz)
def spTrees : Sp := fun vs H Q _ => ∃ n : Nat, vs = [.int (n : Nat)] ∧ 1 ≤ n ∧ n ≤ 7 ∧ ∀ (p : Addr) (xs : List V) (H' : Hp), H p = none → H' p = some (.lst xs) → AllAt H' xs (treesL n) → Same H H' → Q (.ref p) H'
abbrev NTr : List Str := ["most", "by_size", "signs", "row", "tree"]
section
variable {P : Program} {w : World} {K : PySem.W.Frag} {mg : Str → Option Value} {base : Heap}
theorem scTr : FnScope NTr ["most"] (defScope sTrees) := ⟨rfl, rfl, rfl, by decide +kernel, rfl, by decide +kernel, by decide +kernel⟩
theorem ok_trees {f fO fT : Addr} {fd dO dT : FuncData} (F : Fun K "trees" "trees" sTrees f fd)
    (GO : FnOk P w K mg base CX0 1 fO dO ["signs", "ahead"] spOfSize) (kO : PySem.W.keepIn K (.ref fO) = true) (bO : Binds K dO ["signs", "ahead"] []) (mO : mg "_of_size" = some (.ref fO))
    (GT : FnOk P w K mg base CX0 4 fT dT ["term"] spTermText) (kT : PySem.W.keepIn K (.ref fT) = true) (bT : Binds K dT ["term"] []) (mT : mg "term_text" = some (.ref fT))
    (mRange : mg "range" = none) (mSorted : mg "sorted" = none) : FnOk P w K mg base CX0 7 f fd ["most"] spTrees := by
  have FR : FnR P w K mg base CX0 4 fT spTermText := (FnOk.raw GT bT .nil).imp fun vs H Q E h => by simpa using h
  refine F.ok scTr (fun vs H Q E h => ?_) (fun cdv A outer s H vs Q E hr h => ?_)
  · obtain ⟨n, rfl, _⟩ := h
    rfl
  obtain ⟨n, rfl, n1, n7, q⟩ := h
  have r1 : Room 1 _ := hr.mono (by decide)
  have r2 : Room 6 _ := hr
  refine ⟨_, (pss_cons (ps_set (i := 1) scTr.nd rfl (Or.inl rfl) (pe_lst (pa_cons (pe_lst pa_nil) pa_nil)))
    (pss_cons (ps_for PassesOwn.never rfl (pi_range2 (by rfl) mRange (pa_cons pe_int (pa_cons (pe_op op_add (pv 0) pe_int) pa_nil))) (pg_name (i := 2) scTr.nd rfl (Or.inl rfl)) (pss_one (ps_expr (pe_bm PySem.F.plainAttrs_list PySem.F.slot_list_append PySem.F.type_list_append mt_append (pv 1) (pa_cons (pe_callBK (cr_sortK FR r2) (by rfl) mSorted (by decide +kernel) (pa_cons (pe_call GO r1 rfl mO kO bO .nil pass0 (pa_cons (pv 2) (pa_cons (pv 1) pa_nil))) pa_nil) (pk_cons (pe_glob (v := .ref fT) rfl mT rfl) pk_nil)) pa_nil)))))
    (pss_one (ps_ret (pe_lc2 (own := [("row", 3), ("tree", 4)]) (vs1 := [4]) (g := gName 3) (tt := tYes) (wi1 := iList K (tVar 3)) (g1 := gName 4) (tt1 := tYes) (te := tVar 4) rfl scTr.nd (pi_list (pv 1)) (blkOk_by (N := NTr) (sc := defScope sTrees) (by decide +kernel)) (by decide) (fun _ _ _ _ _ => (pg_name (i := 3) scTr.nd rfl (Or.inl rfl))) (fun _ _ _ _ _ => pts_nil) (fun _ _ _ _ _ => pi_list (pv 3)) (fun _ _ _ _ _ => (pg_name (i := 4) scTr.nd rfl (Or.inl rfl))) (fun _ _ _ _ _ => pts_nil) (fun _ _ _ _ _ => pv 4)))))), ?_⟩
  have big : (10000 : Nat) ≤ sizeLine := by decide
  refine ⟨(by show 0 ≤ sizeLine; decide), fun r0 hr0 => ?_⟩
  have s1 := same_new hr0 (.lst ([] : List V))
  refine ⟨(by show 1 ≤ sizeLine; decide), fun D hD => ?_⟩
  have s2 := same_new hD (.lst [V.ref r0])
  have hr02 := s2 _ _ (upd_same (H := H) (a := r0) (o := .lst ([] : List V)))
  have r0D : r0 ≠ D := ne_of_none (upd_same (H := H) (a := r0) (o := .lst ([] : List V))) hD
  have HD : H D = none := same_none s1 hD
  have s12 := s1.trans s2
  have hD2 : (upd (upd H r0 (.lst [])) D (.lst [V.ref r0])) D = some (.lst [V.ref r0]) := upd_same
  generalize upd (upd H r0 (.lst [])) D (.lst [V.ref r0]) = H2 at s12 hr02 hD2 ⊢
  refine ⟨_, rfl, _, _, rfl, rfl, _, _, rfl, ⟨by omega, by omega, by omega, by omega⟩, for_range (lo := 1) (n := (((n : Nat) : Int) + 1 - 1).toNat) (fun i σ H3 => ∃ (x2 : Option V) (rs : List Addr), σ = [some (.int (n : Nat)), some (.ref D), x2, none, none] ∧
      H3 D = some (.lst (rs.map V.ref)) ∧ RowsAt H3 rs (rowsL i) ∧ (∀ r ∈ rs, r ≠ D) ∧ Same H H3)
    ⟨_, [r0], rfl, hD2, ⟨rfl, fun i r hi => ?_⟩, fun r hr => ?_, s12⟩ ?_ ?_⟩
  · match i with
    | 0 =>
      obtain rfl : r0 = r := by simpa using hi
      exact ⟨[], hr02, trivial⟩
    | i + 1 => simp at hi
  · obtain rfl : r = r0 := by simpa using hr
    exact r0D
  · rintro i σ H3 hi ⟨x2, rs, rfl, h3, R3, nD, s3⟩
    have i6 : i ≤ 6 := by omega
    have ei : (1 : Int) + (i : Nat) = ((i + 1 : Nat) : Int) := by omega
    have few := lens_le (n := i) (by omega)
    have all : (ofSize (i + 1) (rowsL i)).length ≤ 51 := by rw [ofSize_len, rowsL_lens]; exact ofLen_le i6
    refine ⟨_, rfl, .inl ⟨rfl, _, .inl (.inl h3)⟩, ?_⟩
    rw [ei]
    refine ⟨_, rfl, _, rfl, D, rs, rowsL i, i + 1, rfl, h3, R3, rowsL_len i, by omega, by omega, few, all, fun p xs H4 hp hp4 A4 s4 => ?_⟩
    have xl := A4.len
    obtain ⟨z1, z2, z3⟩ := all_zip A4
    refine ⟨p, (xs.zip (ofSize (i + 1) (rowsL i))).map zTxt, rfl, rfl, by rw [z3]; exact .inl (.inl hp4), fun y hy H5 Q1 s5 go => ?_, fun l H5 s5 hl hl5 => ?_⟩
    · obtain ⟨z, hz, rfl⟩ := List.mem_map.mp hy
      have zt := (List.of_mem_zip hz).2
      have fu := ((ofSize_full (n := i) (rows := rowsL i) fun k hk => rows_full i k hk).2 z.2).1 zt
      exact ⟨z.1, z.2, rfl, (z1 z hz).mono fun a zs y => s5 _ _ y, fun m hm => by rw [fu.1] at hm; simp at hm, by omega, fun H6 s6 => go H6 s6⟩
    have h5 := s5 _ _ (s4 _ _ h3)
    have lD : l ≠ D := (ne_of_none (s4 _ _ h3) hl).symm
    have rl := R3.1
    rw [rowsL_len] at rl
    refine ⟨D, _, _, rfl, rfl, h5, by rw [List.length_map]; omega, ?_⟩
    have As := (sorted_all A4).mono fun a zs y => s5 _ _ y
    refine ⟨_, rs ++ [l], rfl, by rw [upd_same, List.map_append]; rfl, ⟨by show _ = (rowsL i ++ [_]).length; rw [List.length_append, List.length_append, R3.1]; rfl, fun k r hk => ?_⟩, fun r hr => ?_, fun b o z => by rw [upd_ne (ne_of_none z HD)]; exact s5 _ _ (s4 _ _ (s3 _ _ z))⟩
    · show ∃ xs, _ ∧ AllAt _ xs (rowAt (rowsL i ++ [sortT (ofSize (i + 1) (rowsL i))]) k)
      by_cases ek : k < rs.length
      · rw [List.getElem?_append_left ek] at hk
        obtain ⟨ys, g1, g2⟩ := R3.2 k r hk
        rw [rowAt_old (by rw [rowsL_len]; omega)]
        exact ⟨ys, by rw [upd_ne (nD r (List.mem_of_getElem? hk))]; exact s5 _ _ (s4 _ _ g1), (g2.mono fun a zs y => s5 _ _ (s4 _ _ y)).mono (keepL h5)⟩
      · have ek' : k = rs.length := by
          have := (List.getElem?_eq_some_iff.mp hk).1
          rw [List.length_append, List.length_singleton] at this
          omega
        subst ek'
        obtain rfl : l = r := by simpa using hk
        have q2 : rowAt (rowsL i ++ [sortT (ofSize (i + 1) (rowsL i))]) rs.length = sortT (ofSize (i + 1) (rowsL i)) := by
          have q3 := rowAt_new (rows := rowsL i) (r := sortT (ofSize (i + 1) (rowsL i)))
          rw [rowsL_len] at q3
          rw [rl]
          exact q3
        rw [q2]
        exact ⟨_, by rw [upd_ne lD]; exact hl5, As.mono (keepL h5)⟩
    · rcases List.mem_append.mp hr with hr | hr
      · exact nD r hr
      · obtain rfl : r = l := by simpa using hr
        exact lD
  · rintro σ H3 ⟨x2, rs, rfl, h3, R3, nD, s3⟩
    have en : (((n : Nat) : Int) + 1 - 1).toNat = n := by omega
    rw [en] at R3
    have few := lens_le n7
    have rl := R3.1
    rw [rowsL_len] at rl
    refine ⟨_, rfl, D, rfl, ⟨_, .inl (.inl h3)⟩, fun D2 hD2 => walk_lst5 (K := K) (a := D) (xs := rs.map V.ref) (fun a H4 => ∃ zs : List V, H4 D2 = some (.lst zs) ∧ AllAt H4 zs (((rowsL n).take a).flatten) ∧ zs.length ≤ 51 * a ∧ Same H3 H4)
      ⟨[], upd_same, trivial, by simp, same_new hD2 _⟩ (fun a H4 _ ⟨_, _, _, _, s⟩ => .inl (.inl (s _ _ h3))) ?_ ?_⟩
    · rintro a x H4 ha ⟨zs, h4, A4, zl, s4⟩
      rw [List.getElem?_map] at ha
      obtain ⟨r, hr, rfl⟩ : ∃ r, rs[a]? = some r ∧ x = .ref r := by
        cases hq : rs[a]? with
        | none => rw [hq] at ha; cases ha
        | some r => rw [hq] at ha; exact ⟨r, rfl, by simpa using ha.symm⟩
      have la : a < rs.length := (List.getElem?_eq_some_iff.mp hr).1
      obtain ⟨xr, hxr, Ar⟩ := R3.2 a r hr
      have xl := Ar.len
      have fr := rowAt_few few a
      have er : (rowsL n)[a]? = some (rowAt (rowsL n) a) := by
        unfold rowAt
        rw [List.getD_eq_getElem?_getD, List.getElem?_eq_getElem (by rw [rowsL_len]; omega)]
        rfl
      have tk : (rowsL n).take (a + 1) = (rowsL n).take a ++ [rowAt (rowsL n) a] := by rw [List.take_add_one, er]; rfl
      have rD2 : r ≠ D2 := ne_of_none hxr hD2
      refine ⟨rfl, ?_⟩
      refine ⟨_, rfl, r, rfl, ⟨_, .inl (.inl (s4 _ _ hxr))⟩, walk_lst5 (K := K) (a := r) (xs := xr) (fun c H5 => ∃ ws : List V, H5 D2 = some (.lst ws) ∧ AllAt H5 ws (((rowsL n).take a).flatten ++ (rowAt (rowsL n) a).take c) ∧ ws.length = zs.length + c ∧ (∀ b o, b ≠ D2 → H4 b = some o → H5 b = some o))
        ⟨zs, h4, by simpa using A4, rfl, fun b o _ z => z⟩ (fun c H5 _ ⟨_, _, _, _, o⟩ => .inl (.inl (o _ _ rD2 (s4 _ _ hxr)))) ?_ ?_⟩
      · rintro c y H5 hc ⟨ws, h5, A5, wl, o5⟩
        obtain ⟨u, hu, U⟩ := Ar.get hc
        have lc : c < xr.length := (List.getElem?_eq_some_iff.mp hc).1
        have tk2 : (rowAt (rowsL n) a).take (c + 1) = (rowAt (rowsL n) a).take c ++ [u] := by rw [List.take_add_one, hu]; rfl
        have k35 : ∀ q zs, H3 q = some (.tup zs) → H5 q = some (.tup zs) := fun q zs z => o5 _ _ (ne_of_none z hD2) (s4 _ _ z)
        refine ⟨rfl, _, rfl, ws, h5, by omega, ws ++ [y], upd_same, ?_, by rw [List.length_append, List.length_singleton]; omega, fun b o nb z => by rw [upd_ne nb]; exact o5 _ _ nb z⟩
        rw [tk2, ← List.append_assoc]
        exact (A5.mono (keepL h5)).append ⟨(U.mono k35).mono (keepL h5), trivial⟩
      · rintro H5 ⟨ws, h5, A5, wl, o5⟩
        rw [xl, List.take_length] at A5
        refine ⟨ws, h5, ?_, by omega, fun b o z => o5 _ _ (ne_of_none z hD2) (s4 _ _ z)⟩
        rw [tk, List.flatten_append]
        simpa using A5
    · rintro H4 ⟨zs, h4, A4, zl, s4⟩
      rw [List.length_map, rl, List.take_of_length_le (by rw [rowsL_len]; exact Nat.le_refl _)] at A4
      exact q D2 zs H4 (same_none s3 hD2) h4 A4 (s3.trans s4)
end
end Rp

set_option maxHeartbeats 8000000
/-! The law's rows of texts. -/
namespace Rp
open PySem PySem.Spec PyProof.Rows L2 TL
def txtV (t : Tm) : V := .str t.txt
theorem str_ext {x y : Str} (h : x.cps.toList = y.cps.toList) : x = y := PySem.W.str_of_cps h
theorem cps_app (x y : Str) : (x ++ y).cps.toList = x.cps.toList ++ y.cps.toList := by
  show (x.cps ++ y.cps).toList = _
  rw [Array.toList_append]
theorem txt_s (t : Tm) : ("s(" : Str) ++ t.txt ++ ")" = (Tm.s t).txt := by
  refine str_ext ?_
  show _ = (("s" : Str) ++ "(" ++ Txt.join "," [t.txt] ++ ")").cps.toList
  have e : Txt.join "," [t.txt] = t.txt := rfl
  rw [e]
  simp only [cps_app]
  have : ("s(" : Str).cps.toList = ("s" : Str).cps.toList ++ ("(" : Str).cps.toList := by decide +kernel
  rw [this]
theorem txt_f (l r : Tm) : ("f(" : Str) ++ l.txt ++ "," ++ r.txt ++ ")" = (Tm.f l r).txt := by
  refine str_ext ?_
  show _ = (("f" : Str) ++ "(" ++ Txt.join "," [l.txt, r.txt] ++ ")").cps.toList
  have e : (Txt.join "," [l.txt, r.txt]).cps.toList = l.txt.cps.toList ++ (("," : Str).cps.toList ++ r.txt.cps.toList) := by
    show ((l.txt ++ ("," : Str)) ++ r.txt).cps.toList = _
    rw [cps_app, cps_app, List.append_assoc]
  simp only [cps_app, e]
  have : ("f(" : Str).cps.toList = ("f" : Str).cps.toList ++ ("(" : Str).cps.toList := by decide +kernel
  rw [this]
  simp only [List.append_assoc]
theorem rising_pair : ∀ {l : List Str} {p : Str}, risingS p l = true → (p :: l).Pairwise (fun a b => a.cps.toList ≤ b.cps.toList)
  | [], p, _ => by simp
  | x :: l, p, h => by
    have h' : (!ltCps x.cps.toList p.cps.toList && risingS x l) = true := h
    rw [Bool.and_eq_true] at h'
    have ih := rising_pair h'.2
    have px : p.cps.toList ≤ x.cps.toList := by
      have q := h'.1
      rw [ltCps_eq] at q
      simpa using q
    refine List.pairwise_cons.mpr ⟨fun y hy => ?_, ih⟩
    rcases List.mem_cons.mp hy with rfl | hy
    · exact px
    · exact List.le_trans px ((List.pairwise_cons.mp ih).1 y hy)
theorem sorted_pair {l : List Str} (h : sortedS l = true) : l.Pairwise (fun a b => a.cps.toList ≤ b.cps.toList) := by
  cases l with
  | nil => simp
  | cons x l => exact rising_pair h
theorem sorted_one {ts : List Tm} {ys : List Str} (pm : ys.Perm (ts.map Tm.txt)) (so : sortedS ys = true) : ys = (sortT ts).map Tm.txt := by
  have p2 : (sortT ts).Pairwise (fun a b => leT a b = true) := List.pairwise_mergeSort (fun a b c h1 h2 => by
      unfold leT at *
      rw [decide_eq_true_iff] at *
      exact List.le_trans h1 h2) (fun a b => by
      unfold leT
      rw [Bool.or_eq_true, decide_eq_true_iff, decide_eq_true_iff]
      exact List.le_total _ _) ts
  have p3 : ((sortT ts).map Tm.txt).Pairwise (fun a b => a.cps.toList ≤ b.cps.toList) := List.Pairwise.map _ (fun a b h => by
      unfold leT at h
      exact of_decide_eq_true h) p2
  refine List.Perm.eq_of_pairwise (fun a b _ _ h1 h2 => str_ext (List.le_antisymm h1 h2)) (sorted_pair so) p3 (pm.trans ?_)
  exact ((List.mergeSort_perm ts leT).map Tm.txt).symm
def TxAt (H : Hp) (r : Addr) (ts : List Tm) : Prop := H r = some (.lst (ts.map txtV))
def TxRows (H : Hp) (rs : List Addr) (rows : List (List Tm)) : Prop := rs.length = rows.length ∧ ∀ (k : Nat) (r : Addr), rs[k]? = some r → TxAt H r (rowAt rows k)
theorem TxRows.same {H H' : Hp} (e : Same H H') {rs : List Addr} {rows : List (List Tm)} (h : TxRows H rs rows) : TxRows H' rs rows := ⟨h.1, fun k r hr => e _ _ (h.2 k r hr)⟩
theorem tx_len {m k : Nat} (hk : k ≤ m) (h7 : m ≤ 7) {t : Tm} (ht : t ∈ rowAt (rowsL m) k) : t.txt.length ≤ 28 := by
  have f := ((rows_full m k hk).2 t).1 ht
  have := txt_len t fun n hn => by rw [f.1] at hn; simp at hn
  omega
theorem rows1 : rowsL 1 = [[], [Tm.z]] := by
  show [[]] ++ [sortT (ofSize 1 [[]])] = _
  have : ofSize 1 [[]] = [Tm.z] := rfl
  rw [this]
  unfold sortT
  simp
def spRowsT : Sp := fun vs H Q _ => vs = [.int 7] ∧ ∀ (p : Addr) (rs : List Addr) (H' : Hp), H' p = some (.lst (rs.map V.ref)) → TxRows H' rs (rowsL 7) → Same H H' → Q (.ref p) H'
abbrev NRw : List Str := ["_law_top", "_law_found", "_law_count", "_law_one", "_law_texts", "_law_left", "_law_two"]
def rAddT : R2 := fun x y H Q => ∃ i j, x = .str i ∧ y = .str j ∧ i.length + j.length ≤ sizeLine ∧ Q (.str (i ++ j)) H
def teA : TE := tOp rAddT (tOp rAddT (tC (.str "s(")) (tVar 3)) (tC (.str ")"))
def teB : TE := tOp rAddT (tOp rAddT (tOp rAddT (tOp rAddT (tC (.str "f(")) (tVar 3)) (tC (.str ","))) (tVar 6)) (tC (.str ")"))
section
variable {P : Program} {w : World} {K : PySem.W.Frag} {mg : Str → Option Value} {base : Heap}
theorem scRw : FnScope NRw ["_law_top"] (defScope sRows) := ⟨rfl, rfl, rfl, by decide +kernel, rfl, by decide +kernel, by decide +kernel⟩
theorem ok_rowst {f : Addr} {fd : FuncData} (F : Fun K "_law_rows" "_law_rows" sRows f fd) (mRange : mg "range" = none) (mSorted : mg "sorted" = none) : FnOk P w K mg base CX0 1 f fd ["_law_top"] spRowsT := by
  refine F.ok scRw (fun vs H Q E h => ?_) (fun cdv A outer s H vs Q E hr h => ?_)
  · obtain ⟨rfl, _⟩ := h
    rfl
  obtain ⟨rfl, q⟩ := h
  refine ⟨_, (pss_cons (ps_set (i := 1) scRw.nd rfl (Or.inl rfl) (pe_lst (pa_cons (pe_lst pa_nil) (pa_cons (pe_lst (pa_cons pe_str pa_nil)) pa_nil))))
    (pss_cons (ps_for PassesOwn.never rfl (pi_range2 (by rfl) mRange (pa_cons pe_int (pa_cons (pe_op op_add (pv 0) pe_int) pa_nil))) (pg_name (i := 2) scRw.nd rfl (Or.inl rfl)) (pss_cons (ps_setLc (i := 4) (own := [("_law_one", 3)]) (g := gName 3) (tt := tYes) (te := teA) rfl scRw.nd rfl rfl (by rfl) (pi_list (pe_ix ix_list (pv 1) (pe_op op_sub (pv 2) pe_int) (fun _ _ => rfl))) (blkOk_by (N := NRw) (sc := defScope sRows) (by decide +kernel)) (fun _ _ _ _ _ => (pg_name (i := 3) scRw.nd rfl (Or.inl rfl))) (fun _ _ _ _ _ => pts_nil) (fun _ _ _ _ _ => (pe_op op_add_str (pe_op op_add_str pe_str (pv 3)) pe_str)))
    (pss_cons (ps_for PassesOwn.never rfl (pi_range2 (by rfl) mRange (pa_cons pe_int (pa_cons (pe_op op_sub (pv 2) pe_int) pa_nil))) (pg_name (i := 5) scRw.nd rfl (Or.inl rfl)) (pss_one (ps_for PassesOwn.never rfl (pi_list (pe_ix ix_list (pv 1) (pv 5) (fun _ _ => rfl))) (pg_name (i := 3) scRw.nd rfl (Or.inr rfl)) (pss_one (ps_expr (pe_bm PySem.F.plainAttrs_list PySem.F.slot_list_extend PySem.F.type_list_extend mt_extend (pv 4) (pa_cons (pe_lc (own := [("_law_two", 6)]) (g := gName 6) (tt := tYes) (te := teB) rfl scRw.nd (pi_list (pe_ix ix_list (pv 1) (pe_op op_sub (pe_op op_sub (pv 2) pe_int) (pv 5)) (fun _ _ => rfl))) (blkOk_by (N := NRw) (sc := defScope sRows) (by decide +kernel)) (fun _ _ _ _ _ => (pg_name (i := 6) scRw.nd rfl (Or.inl rfl))) (fun _ _ _ _ _ => pts_nil) (fun _ _ _ _ _ => (pe_op op_add_str (pe_op op_add_str (pe_op op_add_str (pe_op op_add_str pe_str (pv 3)) pe_str) (pv 6)) pe_str))) pa_nil)))))))
    (pss_one (ps_expr (pe_bm PySem.F.plainAttrs_list PySem.F.slot_list_append PySem.F.type_list_append mt_append (pv 1) (pa_cons (pe_callB cr_sortedS (by rfl) mSorted (by decide +kernel) (pa_cons (pv 4) pa_nil)) pa_nil)))))))
    (pss_one (ps_ret (pv 1))))), ?_⟩
  have big : (10000 : Nat) ≤ sizeLine := by decide
  refine ⟨(by show 0 ≤ sizeLine; decide), fun r0 hr0 => ?_⟩
  have s1 := same_new hr0 (.lst ([] : List V))
  refine ⟨(by show 1 ≤ sizeLine; decide), fun r1 hr1 => ?_⟩
  have s2 := same_new hr1 (.lst [V.str "0"])
  refine ⟨(by show 2 ≤ sizeLine; decide), fun F0 hF0 => ?_⟩
  have s3 := same_new hF0 (.lst [V.ref r0, V.ref r1])
  have g0 := (s2.trans s3) _ _ (upd_same (H := H) (a := r0) (o := .lst ([] : List V)))
  have g1 := s3 _ _ (upd_same (H := upd H r0 (.lst [])) (a := r1) (o := .lst [V.str "0"]))
  have gF : (upd (upd (upd H r0 (.lst [])) r1 (.lst [V.str "0"])) F0 (.lst [V.ref r0, V.ref r1])) F0 = some (.lst [V.ref r0, V.ref r1]) := upd_same
  have n0 : r0 ≠ F0 := ne_of_none (s2 _ _ (upd_same (H := H) (a := r0) (o := .lst ([] : List V)))) hF0
  have n1 : r1 ≠ F0 := ne_of_none (upd_same (H := upd H r0 (.lst [])) (a := r1) (o := .lst [V.str "0"])) hF0
  have HF : H F0 = none := same_none (s1.trans s2) hF0
  have s13 := s1.trans (s2.trans s3)
  generalize upd (upd (upd H r0 (.lst [])) r1 (.lst [V.str "0"])) F0 (.lst [V.ref r0, V.ref r1]) = H3 at s13 g0 g1 gF ⊢
  clear s1 s2 s3 hr0 hr1 hF0
  refine ⟨_, rfl, _, _, rfl, rfl, _, _, rfl, ⟨by decide, by decide, by decide, by decide⟩, for_range (lo := 2) (n := 6) (fun i σ H4 => ∃ (x2 x3 x4 x5 : Option V) (rs : List Addr), σ = [some (.int 7), some (.ref F0), x2, x3, x4, x5, none] ∧
      H4 F0 = some (.lst (rs.map V.ref)) ∧ TxRows H4 rs (rowsL (i + 1)) ∧ (∀ r ∈ rs, r ≠ F0) ∧ Same H H4)
    ⟨_, _, _, _, [r0, r1], rfl, gF, ⟨by rw [rowsL_len]; rfl, fun k r hk => ?_⟩, fun r hr => ?_, s13⟩ ?_ ?_⟩
  · show TxAt H3 r (rowAt (rowsL 1) k)
    rw [rows1]
    match k with
    | 0 =>
      obtain rfl : r0 = r := by simpa using hk
      exact g0
    | 1 =>
      obtain rfl : r1 = r := by simpa using hk
      exact g1
    | k + 2 => simp at hk
  · simp only [List.mem_cons, List.not_mem_nil, or_false] at hr
    rcases hr with rfl | rfl
    · exact n0
    · exact n1
  · rintro i σ H4 hi ⟨x2, x3, x4, x5, rs, rfl, h4, R4, nF, s4⟩
    have rl := R4.1
    rw [rowsL_len] at rl
    have few := lens_le (n := i + 1) (by omega)
    have all : (ofSize (i + 2) (rowsL (i + 1))).length ≤ 51 := by rw [ofSize_len, rowsL_lens]; exact ofLen_le (n := i + 1) (by omega)
    have tl : ∀ k ≤ i + 1, ∀ t ∈ rowAt (rowsL (i + 1)) k, t.txt.length ≤ 28 := fun k hk t ht => tx_len hk (by omega) ht
    have eO : ofSize (i + 2) (rowsL (i + 1)) = (rowAt (rowsL (i + 1)) (i + 1)).map Tm.s ++ (List.range i).flatMap fun j => (rowAt (rowsL (i + 1)) (j + 1)).flatMap fun l => (rowAt (rowsL (i + 1)) (i - j)).map fun r => Tm.f l r := by
      unfold ofSize
      rw [if_neg (by omega)]
      rfl
    rw [eO] at all
    obtain ⟨ra, hra⟩ : ∃ r, rs[i + 1]? = some r := ⟨_, List.getElem?_eq_getElem (by omega)⟩
    have ga := R4.2 _ _ hra
    have fa := rowAt_few few (i + 1)
    refine ⟨_, rfl, _, rfl, _, _, rfl, rfl, F0, _, _, _, rfl, rfl, .inl (.inl h4), at_of (j := i + 1) (by omega) (by rw [List.getElem?_map, hra]; rfl), ra, rfl, ⟨_, .inl (.inl ga)⟩, fun D hD => lc_list (K := K) (a := ra) (xs := (rowAt (rowsL (i + 1)) (i + 1)).map txtV) (fun a H5 => H5 D = some (.lst ((((rowAt (rowsL (i + 1)) (i + 1)).take a).map Tm.s).map txtV)) ∧ Same H4 H5)
      ⟨upd_same, same_new hD _⟩ (fun a H5 _ ⟨_, s⟩ => .inl (.inl (s _ _ ga))) ?_ ?_⟩
    · rintro a x H5 ha ⟨h5, s5⟩
      rw [List.getElem?_map] at ha
      obtain ⟨t, ht, rfl⟩ : ∃ t, (rowAt (rowsL (i + 1)) (i + 1))[a]? = some t ∧ x = txtV t := by
        cases hq : (rowAt (rowsL (i + 1)) (i + 1))[a]? with
        | none => rw [hq] at ha; cases ha
        | some t => rw [hq] at ha; exact ⟨t, rfl, by simpa using ha.symm⟩
      have tt := tl (i + 1) (Nat.le_refl _) t (List.mem_of_getElem? ht)
      have la := (List.getElem?_eq_some_iff.mp ht).1
      refine ⟨rfl, ?_⟩
      unfold teA
      refine ⟨_, rfl, _, _, rfl, rfl, ?_, _, _, rfl, rfl, ?_, ?_⟩
      · show 2 + t.txt.length ≤ sizeLine; omega
      · rw [slen]; show 2 + t.txt.length + 1 ≤ sizeLine; omega
      rw [txt_s]
      refine ⟨_, h5, by rw [List.length_map, List.length_map, List.length_take]; omega, ?_, fun b o z => by rw [upd_ne (ne_of_none z hD)]; exact s5 _ _ z⟩
      rw [upd_same, List.take_add_one, ht, List.map_append, List.map_append]
      rfl
    rintro H5 ⟨h5, s5⟩
    rw [List.length_map, List.take_length] at h5
    have HD4 : H4 D = none := hD
    have FD : F0 ≠ D := ne_of_none h4 hD
    have h45 := s5 _ _ h4
    have R5 := R4.same s5
    have rD : ∀ k r, rs[k]? = some r → r ≠ D := fun k r hk => ne_of_none (R4.2 k r hk) hD
    refine ⟨_, rfl, _, _, rfl, rfl, _, _, rfl, ⟨by omega, by omega, by omega, by omega⟩, for_range (lo := 1) (n := (((2 : Int) + (i : Nat)) - 1 - 1).toNat) (fun j σ H6 => ∃ (y3 y5 : Option V), σ = [some (.int 7), some (.ref F0), some (.int (2 + (i : Nat))), y3, some (.ref D), y5, none] ∧
        H6 D = some (.lst (((rowAt (rowsL (i + 1)) (i + 1)).map Tm.s ++ (List.range j).flatMap fun j => (rowAt (rowsL (i + 1)) (j + 1)).flatMap fun l => (rowAt (rowsL (i + 1)) (i - j)).map fun r => Tm.f l r).map txtV)) ∧ (∀ b o, b ≠ D → H5 b = some o → H6 b = some o))
      ⟨_, _, rfl, by simpa using h5, fun b o _ z => z⟩ ?_ ?_⟩
    · rintro j σ H6 hj ⟨y3, y5, rfl, h6, o6⟩
      have hj' : j < i := by omega
      obtain ⟨rb, hrb⟩ : ∃ r, rs[j + 1]? = some r := ⟨_, List.getElem?_eq_getElem (by omega)⟩
      obtain ⟨rc, hrc⟩ : ∃ r, rs[i - j]? = some r := ⟨_, List.getElem?_eq_getElem (by omega)⟩
      have gb := R5.2 _ _ hrb
      have gc := R5.2 _ _ hrc
      have fb := rowAt_few few (j + 1)
      have fc := rowAt_few few (i - j)
      have bD := rD _ _ hrb
      have cD := rD _ _ hrc
      have ej : (1 : Int) + (j : Nat) = ((j + 1 : Nat) : Int) := by omega
      generalize hpre : (rowAt (rowsL (i + 1)) (i + 1)).map Tm.s ++ (List.range j).flatMap (fun j => (rowAt (rowsL (i + 1)) (j + 1)).flatMap fun l => (rowAt (rowsL (i + 1)) (i - j)).map fun r => Tm.f l r) = pre at h6
      have part : (pre ++ (rowAt (rowsL (i + 1)) (j + 1)).flatMap fun l => (rowAt (rowsL (i + 1)) (i - j)).map fun r => Tm.f l r).length ≤ 51 := by
        refine Nat.le_trans ?_ all
        rw [← hpre, List.append_assoc]
        refine List.Sublist.length_le (List.Sublist.append (List.Sublist.refl _) ?_)
        have er : List.range i = List.range (j + 1) ++ (List.range i).drop (j + 1) := by
          have := List.take_append_drop (j + 1) (List.range i)
          rw [List.take_range, Nat.min_eq_left (by omega)] at this
          exact this.symm
        rw [er, List.flatMap_append, List.range_succ, List.flatMap_append]
        refine List.Sublist.trans ?_ (List.sublist_append_left _ _)
        simp
      refine ⟨_, rfl, _, rfl, F0, _, _, _, rfl, rfl, .inl (.inl (o6 _ _ FD h45)), at_of (j := j + 1) ej (by rw [List.getElem?_map, hrb]; rfl), rb, rfl, ⟨_, .inl (.inl (o6 _ _ bD gb))⟩, for_list (K := K) (a := rb) (xs := (rowAt (rowsL (i + 1)) (j + 1)).map txtV) (fun a σ H7 => ∃ (z3 : Option V), σ = [some (.int 7), some (.ref F0), some (.int (2 + (i : Nat))), z3, some (.ref D), some (.int (1 + (j : Nat))), none] ∧
          H7 D = some (.lst ((pre ++ ((rowAt (rowsL (i + 1)) (j + 1)).take a).flatMap fun l => (rowAt (rowsL (i + 1)) (i - j)).map fun r => Tm.f l r).map txtV)) ∧ (∀ b o, b ≠ D → H5 b = some o → H7 b = some o))
        ⟨_, rfl, by simpa using h6, o6⟩ (fun a σ H7 _ ⟨_, _, _, o⟩ => .inl (.inl (o _ _ bD gb))) ?_ ?_⟩
      · rintro a x σ H7 ha ⟨z3, rfl, h7, o7⟩
        rw [List.getElem?_map] at ha
        obtain ⟨t, ht, rfl⟩ : ∃ t, (rowAt (rowsL (i + 1)) (j + 1))[a]? = some t ∧ x = txtV t := by
          cases hq : (rowAt (rowsL (i + 1)) (j + 1))[a]? with
          | none => rw [hq] at ha; cases ha
          | some t => rw [hq] at ha; exact ⟨t, rfl, by simpa using ha.symm⟩
        have tt := tl (j + 1) (by omega) t (List.mem_of_getElem? ht)
        have la := (List.getElem?_eq_some_iff.mp ht).1
        have part2 : (pre ++ ((rowAt (rowsL (i + 1)) (j + 1)).take (a + 1)).flatMap fun l => (rowAt (rowsL (i + 1)) (i - j)).map fun r => Tm.f l r).length ≤ 51 := by
          refine Nat.le_trans ?_ part
          refine List.Sublist.length_le (List.Sublist.append (List.Sublist.refl _) ?_)
          have e := List.take_append_drop (a + 1) (rowAt (rowsL (i + 1)) (j + 1))
          have : ((rowAt (rowsL (i + 1)) (j + 1)).take (a + 1) ++ (rowAt (rowsL (i + 1)) (j + 1)).drop (a + 1)).flatMap (fun l => (rowAt (rowsL (i + 1)) (i - j)).map fun r => Tm.f l r) = (rowAt (rowsL (i + 1)) (j + 1)).flatMap (fun l => (rowAt (rowsL (i + 1)) (i - j)).map fun r => Tm.f l r) := by rw [e]
          rw [← this, List.flatMap_append]
          exact List.sublist_append_left _ _
        have tk : (rowAt (rowsL (i + 1)) (j + 1)).take (a + 1) = (rowAt (rowsL (i + 1)) (j + 1)).take a ++ [t] := by rw [List.take_add_one, ht]; rfl
        rw [tk, List.flatMap_append, ← List.append_assoc] at part2
        refine ⟨_, rfl, .inl ⟨rfl, _, .inl (.inl h7)⟩, ?_⟩
        refine ⟨_, rfl, _, rfl, _, _, rfl, rfl, _, rfl, _, _, rfl, rfl, F0, _, _, _, rfl, rfl, .inl (.inl (o7 _ _ FD h45)), at_of (j := i - j) (by omega) (by rw [List.getElem?_map, hrc]; rfl), rc, rfl, ⟨_, .inl (.inl (o7 _ _ cD gc))⟩, fun D2 hD2 => lc_list (K := K) (a := rc) (xs := (rowAt (rowsL (i + 1)) (i - j)).map txtV) (fun c H8 => H8 D2 = some (.lst ((((rowAt (rowsL (i + 1)) (i - j)).take c).map fun r => Tm.f t r).map txtV)) ∧ Same H7 H8)
          ⟨upd_same, same_new hD2 _⟩ (fun c H8 _ ⟨_, s⟩ => .inl (.inl (s _ _ (o7 _ _ cD gc)))) ?_ ?_⟩
        · rintro c y H8 hc ⟨h8, s8⟩
          rw [List.getElem?_map] at hc
          obtain ⟨u, hu, rfl⟩ : ∃ u, (rowAt (rowsL (i + 1)) (i - j))[c]? = some u ∧ y = txtV u := by
            cases hq : (rowAt (rowsL (i + 1)) (i - j))[c]? with
            | none => rw [hq] at hc; cases hc
            | some u => rw [hq] at hc; exact ⟨u, rfl, by simpa using hc.symm⟩
          have uu := tl (i - j) (by omega) u (List.mem_of_getElem? hu)
          have lc := (List.getElem?_eq_some_iff.mp hu).1
          refine ⟨rfl, ?_⟩
          unfold teB
          refine ⟨_, rfl, _, _, rfl, rfl, ?_, _, _, rfl, rfl, ?_, _, rfl, _, _, rfl, rfl, ?_, _, _, rfl, rfl, ?_, ?_⟩
          · show 2 + t.txt.length ≤ sizeLine; omega
          · rw [slen]; show 2 + t.txt.length + 1 ≤ sizeLine; omega
          · rw [slen, slen]; show 2 + t.txt.length + 1 + u.txt.length ≤ sizeLine; omega
          · rw [slen, slen, slen]; show 2 + t.txt.length + 1 + u.txt.length + 1 ≤ sizeLine; omega
          rw [txt_f]
          refine ⟨_, h8, by rw [List.length_map, List.length_map, List.length_take]; omega, ?_, fun b o z => by rw [upd_ne (ne_of_none z hD2)]; exact s8 _ _ z⟩
          rw [upd_same, List.take_add_one, hu, List.map_append, List.map_append]
          rfl
        rintro H8 ⟨h8, s8⟩
        rw [List.length_map, List.take_length] at h8
        have h78 := s8 _ _ h7
        rw [List.length_append] at part2
        have l1 := part2
        refine ⟨D, D2, _, _, rfl, rfl, h78, h8, ?_, ?_⟩
        · rw [List.length_map, List.length_map, List.length_map]
          simp only [List.flatMap_singleton, List.length_map] at l1
          omega
        refine ⟨_, rfl, ?_, fun b o nb z => by rw [upd_ne nb]; exact s8 _ _ (o7 _ _ nb z)⟩
        rw [upd_same, tk, List.flatMap_append, ← List.append_assoc, List.map_append (l₂ := List.flatMap _ [t])]
        simp
      · rintro σ H7 ⟨z3, rfl, h7, o7⟩
        rw [List.length_map, List.take_length] at h7
        refine ⟨_, _, rfl, ?_, o7⟩
        rw [h7, List.range_succ, List.flatMap_append, ← List.append_assoc, hpre]
        simp
    · rintro σ H6 ⟨y3, y5, rfl, h6, o6⟩
      have en : (((2 : Int) + (i : Nat)) - 1 - 1).toNat = i := by omega
      rw [en, ← eO] at h6
      rw [← eO] at all
      have h46 := o6 _ _ FD h45
      refine ⟨_, rfl, .inl ⟨rfl, _, .inl (.inl h46)⟩, ?_⟩
      have em : (ofSize (i + 2) (rowsL (i + 1))).map txtV = ((ofSize (i + 2) (rowsL (i + 1))).map Tm.txt).map V.str := by rw [List.map_map]; rfl
      rw [em] at h6
      refine ⟨_, rfl, D, _, rfl, .inl (.inl h6), by rw [List.length_map]; omega, fun ys p pm so hp => ?_⟩
      obtain rfl := sorted_one pm so
      have s7 := same_new hp (.lst (((sortT (ofSize (i + 2) (rowsL (i + 1)))).map Tm.txt).map V.str))
      have pF : p ≠ F0 := (ne_of_none h46 hp).symm
      have s46 : Same H4 H6 := fun b o z => o6 _ _ (ne_of_none z HD4) (s5 _ _ z)
      refine ⟨F0, _, _, rfl, rfl, s7 _ _ h46, by rw [List.length_map]; omega, ?_⟩
      refine ⟨_, _, _, _, rs ++ [p], rfl, by rw [upd_same, List.map_append]; rfl, ⟨by show _ = (rowsL (i + 1) ++ [_]).length; rw [List.length_append, List.length_append, R4.1]; rfl, fun k r hk => ?_⟩, fun r hr => ?_, fun b o z => by rw [upd_ne (ne_of_none z HF)]; exact s7 _ _ (s46 _ _ (s4 _ _ z))⟩
      · show TxAt _ r (rowAt (rowsL (i + 1) ++ [sortT (ofSize (i + 2) (rowsL (i + 1)))]) k)
        by_cases ek : k < rs.length
        · rw [List.getElem?_append_left ek] at hk
          rw [rowAt_old (by rw [rowsL_len]; omega)]
          unfold TxAt
          rw [upd_ne (nF r (List.mem_of_getElem? hk))]
          exact s7 _ _ (s46 _ _ (R4.2 k r hk))
        · have ek' : k = rs.length := by
            have := (List.getElem?_eq_some_iff.mp hk).1
            rw [List.length_append, List.length_singleton] at this
            omega
          subst ek'
          obtain rfl : p = r := by simpa using hk
          have q2 : rowAt (rowsL (i + 1) ++ [sortT (ofSize (i + 2) (rowsL (i + 1)))]) rs.length = sortT (ofSize (i + 2) (rowsL (i + 1))) := by
            have q3 := rowAt_new (rows := rowsL (i + 1)) (r := sortT (ofSize (i + 2) (rowsL (i + 1))))
            rw [rowsL_len] at q3
            rw [rl]
            exact q3
          rw [q2]
          unfold TxAt
          rw [upd_ne pF, upd_same, List.map_map]
          rfl
      · rcases List.mem_append.mp hr with hr | hr
        · exact nF r hr
        · obtain rfl : r = p := by simpa using hr
          exact pF
  · rintro σ H4 ⟨x2, x3, x4, x5, rs, rfl, h4, R4, nF, s4⟩
    exact ⟨_, rfl, q F0 rs H4 h4 R4 s4⟩
end
end Rp

/-! xs.count(x) of data; a def called with keywords alone; rows' data. -/
namespace Rp
open PySem PySem.Spec PyProof.Rows L2 TL
section
variable {X : Cx} {p pos : Pos} {x : Str} {kws : List Keyword} {tk : TA}
def rCntD (K : PySem.W.Frag) : V → List V → Hp → VK → Prop := fun x xs H Q => ∃ (l : Addr) (ys : List V) (y : V) (ds : List PyData) (d : PyData), x = .ref l ∧ xs = [y] ∧ SqL K H l ys ∧ DpAll K H ys ds ∧ Dp K H y d ∧ PyData.plainAll ds = true ∧ d.plain = true ∧ d.depth ≤ 50 ∧ Q (.int ((ds.countP fun z => PyData.eqv z d : Nat) : Int)) H
theorem mt_countD (hu : X.A.units + 64 < cLine) : MtR X "list.count" (rCntD X.K) := by
  intro pins s σ H x xs v us Q I rx rxs h
  obtain ⟨l, ys, y, ds, d, rfl, rfl, hl, A, D, pa, pd, dd, q⟩ := h
  cases rx
  obtain ⟨u, rfl, ru⟩ := rxs.one
  obtain ⟨its, rv, pl, _⟩ := I.list hl
  obtain ⟨as, r1⟩ := Dp.readsAll I ds ys its A rv
  obtain ⟨bs, r2⟩ := Dp.reads I d y u D ru
  refine SeqAt.count_list_data (xs := ds) (d := d) pl.isList (by simpa using r1) r2 pa pd ?_ ⟨.int ((ds.countP fun z => PyData.eqv z d : Nat) : Int), H, I.tok _, ⟨s.toks, rfl⟩, q⟩
  have := Nat.min_le_right (PyData.depthAll ds) d.depth
  omega
variable {CX : CXT} {k : Nat} {f : Addr} {fd : FuncData} {ps ks : List Str} {sp : Sp} {E : XK} {g : List Value → List Value → List Value} {gV : List V → List V → List V}
/-- f(k = v, ..) -/
theorem pe_callK0 (F : FnOk X.prog X.w X.K X.mg X.base CX k f fd ps sp) (hr : Room k X.A) (hg : Gl X x) (hm : X.mg x = some (.ref f)) (hk : PySem.W.keepIn X.K (.ref f) = true) (hb : KBinds X.K fd ps ks g gV) (hx : Passes CX X E)
    (hkw : PK X kws tk) (hall : (backToKw pos (keywordEach kws X.env)).all (·.1.isSome) = true := by rfl) (hks : (backToKw pos (keywordEach kws X.env)).filterMap (·.1) = ks := by rfl)
    (hdb : (x == ("__debug__" : Str)) = false := by decide) (hpl : ((backTo pos (starEach [] X.env)).any (·.1) || (backToKw pos (keywordEach kws X.env)).any (·.1.isNone)) = false := by rfl) :
    PE X (.Call (.Name x p) [] kws pos) (tCallK sp gV E tNil tk) := by
  refine ⟨fun pins s σ H Q I h => ?_⟩
  refine wpAny_Call_Name_kw (ld_glob I hg hm ?_ hdb)
  refine PySem.W.callWith_KW0 (h₀ := X.base) I.ok.mod.kin hk hall (thn (hkw.run pos pins s σ H _ I h) fun ws s2 ⟨zs, H2, I2, rz, q2⟩ => ⟨I2.kIn, ?_⟩) hpl
  rw [hks]
  exact run_fnk F hr hb hx I2 .nil rz q2
theorem kb_trees {K : PySem.W.Frag} {f : Addr} {fd : FuncData} (F : Fun K "trees" "trees" sTrees f fd) : KBinds K fd ["most"] ["most"] (fun us ws => us ++ ws) fun vs zs => vs ++ zs := by
  obtain ⟨oc, od, kV, doc, pm, an, cdv, ct, osl, rfl, lk, hcd⟩ := F.ex
  refine ⟨fun s us ws _ hl => .of_eq ?_, fun r r' => r.append r'⟩
  match us, ws, hl with
  | [], [_], _ => rfl
  | [_], [], _ => rfl
end
theorem eqv_tm : ∀ {a b : Tm}, PyData.eqv (tmD a) (tmD b) = true ↔ a = b := by
  have n0s : ("0" : Str) ≠ "s" := by decide +kernel
  have n0f : ("0" : Str) ≠ "f" := by decide +kernel
  have nsf : ("s" : Str) ≠ "f" := by decide +kernel
  intro a
  induction a with
  | v n => intro b; cases b <;> simp [tmD, PyData.eqv]
  | z => intro b; cases b <;> simp [tmD, PyData.eqv, PyData.eqvAll]
  | s t ih =>
    intro b
    cases b with
    | s t' => simp only [tmD]; rw [eqv_tup, eqvAll_cons, eqvAll_cons, eqvAll_nil]; simp [PyData.eqv, ih]
    | _ => simp [tmD, PyData.eqv, PyData.eqvAll]
  | f l r ih1 ih2 =>
    intro b
    cases b with
    | f l' r' => simp only [tmD]; rw [eqv_tup, eqvAll_cons, eqvAll_cons, eqvAll_cons, eqvAll_nil]; simp [PyData.eqv, ih1, ih2]
    | _ => simp [tmD, PyData.eqv, PyData.eqvAll]
theorem dp_ints {K : PySem.W.Frag} {H : Hp} : ∀ l : List Int, DpAll K H (l.map V.int) (l.map PyData.int)
  | [] => .nil
  | n :: l => .cons (.int n) (dp_ints l)
theorem ints_shaped (l : List Int) : SeqAt.shaped (.list (l.map PyData.int)) = true := by
  have c : PyData.canLayAll0 (l.map PyData.int) = true := by
    induction l with
    | nil => rfl
    | cons a l ih => show (true && PyData.canLayAll0 (l.map PyData.int)) = true; rw [ih]; rfl
  have d : PyData.depthAll (l.map PyData.int) ≤ 1 := by
    induction l with
    | nil => decide
    | cons a l ih =>
      have := ih (by
        have c' : (true && PyData.canLayAll0 (l.map PyData.int)) = true := c
        simpa using c')
      simp only [List.map_cons, PyData.depthAll, PyData.depth]; omega
  refine shaped_of c ?_
  show PyData.depthAll _ + 1 ≤ 64
  omega
theorem eqv_intsA : ∀ {a b : List Int}, PyData.eqvAll (a.map PyData.int) (b.map PyData.int) = decide (a = b)
  | [], [] => by simp only [List.map_nil, PyData.eqvAll]; rfl
  | [], b :: bs => by simp only [List.map_nil, List.map_cons, PyData.eqvAll]; rfl
  | a :: as, [] => by simp only [List.map_nil, List.map_cons, PyData.eqvAll]; rfl
  | a :: as, b :: bs => by
    rw [List.map_cons, List.map_cons, eqvAll_cons, eqv_int, eqv_intsA]
    by_cases h : a = b
    · subst h; simp
    · simp [h]
theorem eqv_ints {a b : List Int} : PyData.eqv (.list (a.map PyData.int)) (.list (b.map PyData.int)) = decide (a = b) := by
  rw [← eqv_intsA]; simp only [PyData.eqv]
theorem eqv_strsA : ∀ {a b : List Str}, PyData.eqvAll (a.map PyData.str) (b.map PyData.str) = decide (a = b)
  | [], [] => by simp only [List.map_nil, PyData.eqvAll]; rfl
  | [], b :: bs => by simp only [List.map_nil, List.map_cons, PyData.eqvAll]; rfl
  | a :: as, [] => by simp only [List.map_nil, List.map_cons, PyData.eqvAll]; rfl
  | a :: as, b :: bs => by
    have e : PyData.eqv (.str a) (.str b) = decide (a = b) := by
      rw [Bool.eq_iff_iff, eqv_str, decide_eq_true_iff]
      exact ⟨fun h => by injection h with h; exact h.symm, fun h => by rw [h]⟩
    rw [List.map_cons, List.map_cons, eqvAll_cons, e, eqv_strsA]
    by_cases h : a = b
    · subst h; simp
    · simp [h]
theorem eqv_strs {a b : List Str} : PyData.eqv (.list (a.map PyData.str)) (.list (b.map PyData.str)) = decide (a = b) := by
  rw [← eqv_strsA]; simp only [PyData.eqv]
theorem dp_strs {K : PySem.W.Frag} {H : Hp} : ∀ l : List Str, DpAll K H (l.map V.str) (l.map PyData.str)
  | [] => .nil
  | n :: l => .cons (.str n) (dp_strs l)
theorem strOk_app (x y : Str) : PyData.strOk (x ++ y) = (PyData.strOk x && PyData.strOk y) := by
  show (x.cps ++ y.cps).all _ = _
  rw [Array.all_append]
  rfl
theorem txt_ok : ∀ t : Tm, t.nums = [] → PyData.strOk t.txt = true
  | .v n, h => by simp [Tm.nums] at h
  | .z, _ => by decide +kernel
  | .s t, h => by
    rw [← txt_s, strOk_app, strOk_app, txt_ok t h, show PyData.strOk "s(" = true by decide +kernel, show PyData.strOk ")" = true by decide +kernel]; rfl
  | .f l r, h => by
    simp only [Tm.nums, List.append_eq_nil_iff] at h
    rw [← txt_f, strOk_app, strOk_app, strOk_app, strOk_app, txt_ok l h.1, txt_ok r h.2, show PyData.strOk "f(" = true by decide +kernel, show PyData.strOk ")" = true by decide +kernel, show PyData.strOk "," = true by decide +kernel]; rfl
theorem strs_shaped (l : List Str) (h : ∀ x ∈ l, PyData.strOk x = true) : SeqAt.shaped (.list (l.map PyData.str)) = true := by
  have c : PyData.canLayAll0 (l.map PyData.str) = true := by
    induction l with
    | nil => rfl
    | cons a l ih =>
      simp only [List.map_cons, PyData.canLayAll0, PyData.canLay0, h a (by simp), ih fun x hx => h x (by simp [hx])]
      rfl
  have d : PyData.depthAll (l.map PyData.str) ≤ 1 := by
    clear c h
    induction l with
    | nil => decide
    | cons a l ih => simp only [List.map_cons, PyData.depthAll, PyData.depth]; omega
  refine shaped_of c ?_
  show PyData.depthAll _ + 1 ≤ 64
  omega
theorem tm_lay : ∀ t : Tm, (tmD t).canLay0 = true ∧ (tmD t).depth ≤ t.size ∧ (tmD t).plain = true
  | .v n => ⟨by unfold tmD; rfl, by unfold tmD; show 0 ≤ _; omega, by unfold tmD; rfl⟩
  | .z => ⟨by decide +kernel, by unfold tmD; show 1 ≤ 1; omega, by unfold tmD; rfl⟩
  | .s t => by
    have ih := tm_lay t
    have a : PyData.strOk "s" = true := by decide +kernel
    unfold tmD
    simp only [a, PyData.canLay0, PyData.canLayAll0, PyData.depth, PyData.depthAll, PyData.plain, PyData.plainAll, ih.1, ih.2.2, Tm.size]
    exact ⟨rfl, by omega, rfl⟩
  | .f l r => by
    have i1 := tm_lay l
    have i2 := tm_lay r
    have p1 := size_pos l
    have p2 := size_pos r
    have a : PyData.strOk "f" = true := by decide +kernel
    unfold tmD
    simp only [a, PyData.canLay0, PyData.canLayAll0, PyData.depth, PyData.depthAll, PyData.plain, PyData.plainAll, i1.1, i1.2.2, i2.1, i2.2.2, Tm.size]
    exact ⟨rfl, by omega, rfl⟩
theorem tms_dp {K : PySem.W.Frag} {H : Hp} : ∀ {xs : List V} {ts : List Tm}, AllAt H xs ts → DpAll K H xs (ts.map tmD)
  | [], [], _ => .nil
  | _ :: _, _ :: _, h => .cons ((TmAt.dat (b := 0) h.1).dp) (tms_dp h.2)
theorem tms_plain : ∀ ts : List Tm, PyData.plainAll (ts.map tmD) = true
  | [] => rfl
  | t :: ts => by simp only [List.map_cons, PyData.plainAll, (tm_lay t).2.2, tms_plain ts]; rfl
theorem tms_count {ts : List Tm} {t : Tm} : (ts.map tmD).countP (fun z => PyData.eqv z (tmD t)) = ts.count t := by
  rw [List.countP_map, List.count]
  refine List.countP_congr fun u _ => ?_
  show PyData.eqv (tmD u) (tmD t) = true ↔ (u == t) = true
  rw [eqv_tm, beq_iff_eq]
theorem rowsL_pre {n : Nat} : ∀ {m : Nat}, n ≤ m → (rowsL m).take (n + 1) = rowsL n
  | 0, h => by
    obtain rfl : n = 0 := by omega
    rfl
  | m + 1, h => by
    by_cases e : n = m + 1
    · subst e
      rw [List.take_of_length_le]
      rw [rowsL_len]; omega
    · show (rowsL m ++ [_]).take (n + 1) = _
      rw [List.take_append_of_le_length (by rw [rowsL_len]; omega)]
      exact rowsL_pre (by omega)
theorem trees_due {n : Nat} (h7 : n ≤ 7) : (((rowsL 7).drop 1).take n).flatten = treesL n := by
  unfold treesL
  rw [← rowsL_pre h7]
  have e : ∃ r, rowsL 7 = [] :: r := by
    have h0 : (rowsL 7).take 1 = rowsL 0 := rowsL_pre (n := 0) (by omega)
    cases hr : rowsL 7 with
    | nil => have := rowsL_len 7; rw [hr] at this; cases this
    | cons a r =>
      rw [hr] at h0
      have : [a] = [[]] := by simpa [rowsL] using h0
      exact ⟨r, by injection this with z; rw [z]⟩
  obtain ⟨r, e⟩ := e
  rw [e]
  simp
end Rp

set_option maxHeartbeats 16000000
/-! The law k05. -/
namespace Rp
open PySem PySem.Spec PyProof.Rows L2 TL
def spLaw (K : PySem.W.Frag) : Sp := fun vs H Q _ => ∃ (a : Addr) (ns : List Int), vs = [.ref a] ∧ SqL K H a (ns.map V.int) ∧ ns.length ≤ 63 ∧ ∀ H', Q (.bl true) H'
theorem cut_drop {xs : List V} (n : Nat) : cutV xs (some (n : Int)) none = xs.drop n := by
  unfold cutV
  rw [HT.sIx_none, HT.sIx_nat]
  rcases Nat.le_total n xs.length with h | h
  · rw [Nat.min_eq_left h, List.take_of_length_le (by rw [List.length_drop]; omega)]
  · rw [Nat.min_eq_right h, List.drop_eq_nil_of_le h, List.drop_eq_nil_of_le (Nat.le_refl _)]
    simp
theorem cut_part1 {xs : List V} {n : Nat} (h : n + 1 ≤ xs.length) : cutV xs (some (1 : Int)) (some ((n : Int) + 1)) = (xs.drop 1).take n := by
  have e : (n : Int) + 1 = ((n + 1 : Nat) : Int) := rfl
  have e1 : (1 : Int) = ((1 : Nat) : Int) := rfl
  unfold cutV
  rw [e, e1, HT.sIx_nat, HT.sIx_nat, Nat.min_eq_left h, Nat.min_eq_left (by omega)]
  rfl
theorem same_mono {H H' : Hp} (e : Same H H') : ∀ a xs, H a = some (.tup xs) → H' a = some (.tup xs) := fun a xs z => e _ _ z
theorem box_ne {H : Hp} {a b : Addr} {j : Nat} (B : BoxAt H b j) (h : H a = none) : a ≠ b := by
  obtain ⟨x, y, z, hb, _⟩ := B.ex
  exact (ne_of_none hb h).symm
def teLen (K : PySem.W.Frag) : TE := tCB (fun xs H Q => ∃ p ys, xs = [.ref p] ∧ (SqL K H p ys ∨ SqT K H p ys) ∧ Q (.int ys.length) H) (tCons (tVar 2) tNil)
def teTx : TE := tCall (spLText 9) [] E0 (tCons (tVar 9) tNil)
def teIt : TE := tCall (spIsTree 9) [] E0 (tCons (tVar 9) tNil)
def rowLens : List Int := [1, 1, 2, 4, 9, 21, 51]
theorem rowLens_at : ∀ i < 7, rowLens[i]? = some (((lensL 7).getD (i + 1) 0 : Nat) : Int) := by decide +kernel
section
variable {P : Program} {w : World} {K : PySem.W.Frag} {mg : Str → Option Value} {base : Heap}
abbrev NLw : List Str := ["_law_script", "_law_rows_here", "_law_row", "_law_k", "_law_box_here", "_law_top", "_law_most_told", "_law_due", "_law_told", "_law_term", "_law_turn"]
theorem scLaw : FnScope NLw ["_law_script"] (defScope sLaw) := ⟨rfl, rfl, rfl, by decide +kernel, rfl, by decide +kernel, by decide +kernel⟩
theorem ok_law {f fRw fB fT fTr fTx fIt fTree : Addr} {fd dRw dB dT dTr dTx dIt dTree : FuncData} (F : Fun K "law" "law" sLaw f fd) (FTr : Fun K "trees" "trees" sTrees fTr dTr)
    (GRw : FnOk P w K mg base CX0 1 fRw dRw ["_law_top"] spRowsT) (kRw : PySem.W.keepIn K (.ref fRw) = true) (bRw : Binds K dRw ["_law_top"] []) (mRw : mg "_law_rows" = some (.ref fRw))
    (GB : FnOk P w K mg base CX0 1 fB dB ["_law_script", "_law_k"] (spBox K)) (kB : PySem.W.keepIn K (.ref fB) = true) (bB : Binds K dB ["_law_script", "_law_k"] []) (mB : mg "_law_box" = some (.ref fB))
    (GT : FnOk P w K mg base CX0 1 fT dT ["_law_box_here", "_law_count"] spTake) (kT : PySem.W.keepIn K (.ref fT) = true) (bT : Binds K dT ["_law_box_here", "_law_count"] []) (mT : mg "_law_take" = some (.ref fT))
    (GTr : FnOk P w K mg base CX0 7 fTr dTr ["most"] spTrees) (kTr : PySem.W.keepIn K (.ref fTr) = true) (bTr : Binds K dTr ["most"] []) (mTr : mg "trees" = some (.ref fTr))
    (GTx : FnOk P w K mg base CX0 9 fTx dTx ["_law_term"] (spLText 9)) (kTx : PySem.W.keepIn K (.ref fTx) = true) (bTx : Binds K dTx ["_law_term"] []) (mTx : mg "_law_text" = some (.ref fTx))
    (GIt : FnOk P w K mg base CX0 9 fIt dIt ["_law_thing"] (spIsTree 9)) (kIt : PySem.W.keepIn K (.ref fIt) = true) (bIt : Binds K dIt ["_law_thing"] []) (mIt : mg "_law_is_tree" = some (.ref fIt))
    (GTree : FnOk P w K mg base CX0 9 fTree dTree ["_law_box_here", "_law_room", "_law_fresh"] (spTree 7)) (kTree : PySem.W.keepIn K (.ref fTree) = true) (bTree : Binds K dTree ["_law_box_here", "_law_room", "_law_fresh"] []) (mTree : mg "_law_tree" = some (.ref fTree))
    (M : SameG mg) (mRange : mg "range" = none) (mMin : mg "min" = none) : GnOk P w K mg base 66 f fd ["_law_script"] (spLaw K) := by
  refine gok F scLaw (fun vs H Q E h => ?_) (fun cdv A outer s H vs Q E hg hr h => ?_)
  · obtain ⟨a, ns, rfl, _⟩ := h
    rfl
  obtain ⟨a, ns, rfl, hS, hl, q⟩ := h
  have r1 : Room 1 _ := hr.mono (by decide)
  have r7 : Room 7 _ := hr.mono (by decide)
  have hr9 : Room 9 _ := hr.mono (by decide)
  refine ⟨_, (pss_cons (ps_set (i := 1) scLaw.nd rfl (Or.inl rfl) (pe_call GRw r1 rfl mRw kRw bRw .nil pass0 (pa_cons pe_int pa_nil)))
    (pss_cons (ps_if (pt_cmpR (op_neD hr.units) (pe_lc (own := [("_law_row", 2)]) (g := gName 2) (tt := tYes) (te := (teLen K)) rfl scLaw.nd (pi_list (pe_slice sl_list (pv 1) (po_some pe_int) po_none)) (blkOk_by (N := NLw) (sc := defScope sLaw) (by decide +kernel)) (fun _ _ _ _ _ => (pg_name (i := 2) scLaw.nd rfl (Or.inl rfl))) (fun _ _ _ _ _ => pts_nil) (fun _ _ _ _ _ => (pe_callB call_len_seq (by rfl) M.len PySem.boot_len (pa_cons (pv 2) pa_nil)))) (pe_lst (pa_cons pe_int (pa_cons pe_int (pa_cons pe_int (pa_cons pe_int (pa_cons pe_int (pa_cons pe_int (pa_cons pe_int pa_nil)))))))) (nomark _)) (pss_one (ps_ret pe_bl)) pss_nil)
    (pss_cons (ps_for PassesOwn.never rfl (pi_range1 (by rfl) mRange (pa_cons (pe_op op_add pe_int (pe_callB (call_min2 rfl) (by rfl) mMin (by decide +kernel) (pa_cons pe_int (pa_cons (pe_callB call_len_seq (by rfl) M.len PySem.boot_len (pa_cons (pv 0) pa_nil)) pa_nil)))) pa_nil)) (pg_name (i := 3) scLaw.nd rfl (Or.inl rfl)) (pss_cons (ps_set (i := 4) scLaw.nd rfl (Or.inl rfl) (pe_call GB r1 rfl mB kB bB .nil pass0 (pa_cons (pv 0) (pa_cons (pv 3) pa_nil))))
    (pss_cons (ps_set (i := 5) scLaw.nd rfl (Or.inl rfl) (pe_op op_add pe_int (pe_call GT r1 rfl mT kT bT .nil pass0 (pa_cons (pv 4) (pa_cons pe_int pa_nil)))))
    (pss_cons (ps_for PassesOwn.never rfl (pi_tup (pe_tup (pa_cons (pv 5) (pa_cons pe_int (pa_cons (pe_op op_add pe_int (pe_call GT r1 rfl mT kT bT .nil pass0 (pa_cons (pv 4) (pa_cons pe_int pa_nil)))) pa_nil))))) (pg_name (i := 6) scLaw.nd rfl (Or.inl rfl)) (pss_cons (ps_par (i := 7) (j := 8) rfl scLaw.nd rfl rfl (by decide) rfl rfl (pa_cons (pe_lst pa_nil) (pa_cons (pe_call GTr r7 rfl mTr kTr bTr .nil pass0 (pa_cons (pv 6) pa_nil)) pa_nil)) (by rfl))
    (pss_cons (ps_for PassesOwn.never rfl (pi_list (pe_slice sl_list (pv 1) (po_some pe_int) (po_some (pe_op op_add (pv 6) pe_int)))) (pg_name (i := 2) scLaw.nd rfl (Or.inl rfl)) (pss_one (ps_expr (pe_bm PySem.F.plainAttrs_list PySem.F.slot_list_extend PySem.F.type_list_extend mt_extend (pv 7) (pa_cons (pv 2) pa_nil)))))
    (pss_cons (ps_if (PW.pt (pw_or (pt_not (pt_val (pe_callB (id := "isinstance") call_isi (by rfl) M.isi (by decide +kernel) (pa_cons (pv 8) (pa_cons (pe_bltn (v := .ty "list") (by rfl) M.list (by decide +kernel) rfl) pa_nil))))) (pw_or1 (pt_cmpR (op_neD hr.units) (pe_lc (own := [("_law_term", 9)]) (g := gName 9) (tt := tYes) (te := teTx) rfl scLaw.nd (pi_list (pv 8)) (blkOk_by (N := NLw) (sc := defScope sLaw) (by decide +kernel)) (fun _ _ _ _ _ => (pg_name (i := 9) scLaw.nd rfl (Or.inl rfl))) (fun _ _ _ _ _ => pts_nil) (fun _ _ _ _ _ => (pe_call GTx hr9 (by rfl) mTx kTx bTx .nil pass0 (pa_cons (pv 9) pa_nil)))) (pv 7) (nomark _))))) (pss_one (ps_ret pe_bl)) pss_nil)
    (pss_cons (ps_if (pt_not (pt_val (pe_callB (cr_all rfl) (by rfl) M.all (by decide +kernel) (pa_cons (pe_lc (own := [("_law_term", 9)]) (g := gName 9) (tt := tYes) (te := teIt) rfl scLaw.nd (pi_list (pv 8)) (blkOk_by (N := NLw) (sc := defScope sLaw) (by decide +kernel)) (fun _ _ _ _ _ => (pg_name (i := 9) scLaw.nd rfl (Or.inl rfl))) (fun _ _ _ _ _ => pts_nil) (fun _ _ _ _ _ => (pe_call GIt hr9 (by rfl) mIt kIt bIt .nil pass0 (pa_cons (pv 9) pa_nil)))) pa_nil)))) (pss_one (ps_ret pe_bl)) pss_nil)
    (pss_cons (ps_expr (pe_bm0 PySem.F.plainAttrs_list PySem.F.slot_list_reverse PySem.F.type_list_reverse mt_reverse (pv 8)))
    (pss_cons (ps_expr (pe_bm PySem.F.plainAttrs_list PySem.F.slot_list_append PySem.F.type_list_append mt_append (pv 8) (pa_cons pe_int pa_nil)))
    (pss_one (ps_if (pt_cmpR (op_neD hr.units) (pe_lc (own := [("_law_term", 9)]) (g := gName 9) (tt := tYes) (te := teTx) rfl scLaw.nd (pi_list (pe_call GTr r7 rfl mTr kTr bTr .nil pass0 (pa_cons (pv 6) pa_nil))) (blkOk_by (N := NLw) (sc := defScope sLaw) (by decide +kernel)) (fun _ _ _ _ _ => (pg_name (i := 9) scLaw.nd rfl (Or.inl rfl))) (fun _ _ _ _ _ => pts_nil) (fun _ _ _ _ _ => (pe_call GTx hr9 (by rfl) mTx kTx bTx .nil pass0 (pa_cons (pv 9) pa_nil)))) (pv 7) (nomark _)) (pss_one (ps_ret pe_bl)) pss_nil)))))))))
    (pss_one (ps_for PassesOwn.never rfl (pi_range1 (by rfl) mRange (pa_cons pe_int pa_nil)) (pg_name (i := 10) scLaw.nd rfl (Or.inl rfl)) (pss_cons (ps_set (i := 9) scLaw.nd rfl (Or.inl rfl) (pe_call GTree hr9 rfl mTree kTree bTree .nil pass0 (pa_cons (pv 4) (pa_cons (pe_op op_add pe_int (pe_call GT r1 rfl mT kT bT .nil pass0 (pa_cons (pv 4) (pa_cons (pv 5) pa_nil)))) (pa_cons (pe_lst pa_nil) pa_nil)))))
    (pss_one (ps_if (pt_cmpR op_ne (pe_bm PySem.F.plainAttrs_list PySem.F.slot_list_count PySem.F.type_list_count (mt_countD hr.units) (pe_call GTr r7 rfl mTr kTr bTr .nil pass0 (pa_cons (pv 5) pa_nil)) (pa_cons (pv 9) pa_nil)) pe_int (nomark _)) (pss_one (ps_ret pe_bl)) pss_nil)))))))))
    (pss_one (ps_ret (pe_cmpR (op_eqD hr.units) (pe_callK0 GTr r7 rfl mTr kTr (kb_trees FTr) pass0 (pk_cons pe_int pk_nil)) (pe_lst (pa_cons (pe_tup (pa_cons pe_str pa_nil)) pa_nil)) (nomark _))))))), ?_⟩
  have big : (10000 : Nat) ≤ sizeLine := by decide
  have lim : ∀ n : Int, 0 ≤ n → 0 ≤ (if n < 1 then n else 1) ∧ (if n < 1 then n else 1) ≤ 1 := by
    intro n hn
    split <;> omega
  have lim2 := lim (((ns.map V.int).length : Nat) : Int) (by omega)
  refine ⟨rfl, fun R0 rs H1 hR TR s1 => ?_⟩
  have rl := TR.1
  rw [rowsL_len] at rl
  have few := lens_le (n := 7) (Nat.le_refl _)
  have rowlen : ∀ i, (rowAt (rowsL 7) i).length = (lensL 7).getD i 0 := fun i => by rw [rowAt_len, rowsL_lens]
  have small : ∀ n ≤ 7, ∀ t ∈ treesL n, t.nums = [] ∧ t.size ≤ 7 := fun n h7 t ht => by
    have := trees_mem.1 ht
    exact ⟨this.1, by omega⟩
  have treesFew : ∀ n ≤ 7, (treesL n).length ≤ 408 := fun n h7 => by
    rw [← trees_due h7, List.length_flatten]
    have e : ∀ l : List (List Tm), (∀ r ∈ l, r.length ≤ 51) → (l.map List.length).sum ≤ 51 * l.length := by
      intro l
      induction l with
      | nil => intro _; simp
      | cons r l ih => intro h; have := ih fun x hx => h x (by simp [hx]); have := h r (by simp); simp only [List.map_cons, List.sum_cons, List.length_cons, Nat.mul_add]; omega
    have e2 := e (((rowsL 7).drop 1).take n) fun r hr => few r (List.mem_of_mem_drop (List.mem_of_mem_take hr))
    have l8 : (((rowsL 7).drop 1).take n).length ≤ 8 := by rw [List.length_take, List.length_drop, rowsL_len]; omega
    omega
  -- how many
  refine ⟨_, rfl, 1, rfl, R0, _, rfl, .inl (.inl hR), fun l hl0 => ?_⟩
  have s2 := same_new hl0 (.lst (cutV (rs.map V.ref) (some (1 : Int)) none))
  have hl2 : (upd H1 l (.lst (cutV (rs.map V.ref) (some (1 : Int)) none))) l = some (.lst ((rs.drop 1).map V.ref)) := by
    rw [upd_same, List.map_drop]; exact congrArg (fun z => some (HO.lst z)) (cut_drop 1)
  generalize upd H1 l (.lst (cutV (rs.map V.ref) (some (1 : Int)) none)) = H2 at s2 hl2 ⊢
  refine ⟨l, rfl, ⟨_, .inl (.inl hl2)⟩, fun D hD => lc_list (K := K) (a := l) (xs := (rs.drop 1).map V.ref) (fun i H3 => H3 D = some (.lst ((rowLens.take i).map V.int)) ∧ Same H2 H3)
    ⟨upd_same, same_new hD _⟩ (fun i H3 _ ⟨_, s⟩ => .inl (.inl (s _ _ hl2))) ?_ ?_⟩
  · rintro i x H3 hi ⟨h3, s3⟩
    rw [List.getElem?_map, List.getElem?_drop] at hi
    obtain ⟨r, hr0, rfl⟩ : ∃ r, rs[1 + i]? = some r ∧ x = .ref r := by
      cases hq : rs[1 + i]? with
      | none => rw [hq] at hi; cases hi
      | some r => rw [hq] at hi; exact ⟨r, rfl, by simpa using hi.symm⟩
    have li := (List.getElem?_eq_some_iff.mp hr0).1
    have hrow := s3 _ _ (s2 _ _ (TR.2 (1 + i) r hr0))
    refine ⟨rfl, ?_⟩
    unfold teLen
    refine ⟨_, rfl, r, _, rfl, .inl (.inl (.inl hrow)), _, h3, by rw [List.length_map, List.length_take]; show min i 7 < _; omega, ?_, fun b o z => by rw [upd_ne (ne_of_none z hD)]; exact s3 _ _ z⟩
    rw [upd_same, List.take_add_one, rowLens_at i (by omega), List.length_map, rowlen, List.map_append, Nat.add_comm 1 i]
    rfl
  rintro H3 ⟨h3, s3⟩
  have e7 : ((rs.drop 1).map V.ref).length = 7 := by rw [List.length_map, List.length_drop, rl]
  rw [e7] at h3
  refine ⟨(by show 7 ≤ sizeLine; decide), fun l2 hl20 => ?_⟩
  have s4 := same_new hl20 (.lst [V.int 1, V.int 1, V.int 2, V.int 4, V.int 9, V.int 21, V.int 51])
  refine ⟨.list (rowLens.map PyData.int), .list (rowLens.map PyData.int), .lst (.inl (.inl (s4 _ _ h3))) (dp_ints _), .lst (.inl (.inl upd_same)) (dp_ints rowLens), ints_shaped _, ints_shaped _, _, rfl, ?_⟩
  rw [eqv_ints, decide_eq_true rfl]
  have s14 := s1.trans (s2.trans (s3.trans s4))
  have hS4 : SqL K (upd H3 l2 (.lst [V.int 1, V.int 1, V.int 2, V.int 4, V.int 9, V.int 21, V.int 51])) a (ns.map V.int) := s14.seq hS
  have s24 := s2.trans (s3.trans s4)
  have hR4 := s24 _ _ hR
  have TR4 := TR.same s24
  generalize upd H3 l2 (.lst [V.int 1, V.int 1, V.int 2, V.int 4, V.int 9, V.int 21, V.int 51]) = H4 at hS4 hR4 TR4 ⊢
  clear s24 s14 s4 hl20 h3 s3 hD hl2 s2 hl0 hS TR hR s1 e7
  refine iteF ⟨_, rfl, a, _, rfl, .inl hS4, _, _, rfl, _, _, rfl, rfl, _, rfl, by omega, by omega, for_range (lo := 0) (fun i σ H5 => ∃ (y2 y3 y4 y5 y6 y7 y8 y9 y10 : Option V), σ = [some (.ref a), some (.ref R0), y2, y3, y4, y5, y6, y7, y8, y9, y10] ∧ Same H4 H5)
    ⟨_, _, _, _, _, _, _, _, _, rfl, Same.refl _⟩ ?_ ?_⟩
  · rintro i σ H5 hi ⟨y2, y3, y4, y5, y6, y7, y8, y9, y10, rfl, s5⟩
    have i1 : (i : Int) ≤ 1 := by omega
    clear lim lim2
    refine ⟨_, rfl, _, rfl, a, ns, _, rfl, s5.seq hS4, hl, by omega, by omega, fun b H6 hb B6 s6 => ?_⟩
    refine ⟨_, rfl, b, _, _, rfl, B6, by omega, by decide, by decide, fun c H7 c0 c1 B7 o7 => ?_⟩
    refine ⟨_, _, rfl, rfl, ?_⟩
    obtain ⟨c', rfl⟩ := Int.eq_ofNat_of_zero_le c0
    have t1 : 1 ≤ (1 + c') := by omega
    have t7 : (1 + c') ≤ 7 := by omega
    refine ⟨_, rfl, _, rfl, b, _, _, rfl, B7, by omega, by decide, by decide, fun z H8 z0 z1 B8 o8 => ?_⟩
    refine ⟨_, _, rfl, rfl, ?_⟩
    obtain ⟨z', rfl⟩ := Int.eq_ofNat_of_zero_le z0
    refine ⟨(by show 3 ≤ sizeLine; decide), fun tt htt => ?_⟩
    have s9 := same_new htt (.tup [(fun i j : Int => V.int (i + j)) 1 (c' : Int), V.int 7, (fun i j : Int => V.int (i + j)) 1 (z' : Int)])
    have htt9 : (upd H8 tt (.tup [(fun i j : Int => V.int (i + j)) 1 (c' : Int), V.int 7, (fun i j : Int => V.int (i + j)) 1 (z' : Int)])) tt = some (.tup [(fun i j : Int => V.int (i + j)) 1 (c' : Int), V.int 7, (fun i j : Int => V.int (i + j)) 1 (z' : Int)]) := upd_same
    have B9 := B8.same s9
    have told : ∀ x ∈ [(fun i j : Int => V.int (i + j)) 1 (c' : Int), V.int 7, (fun i j : Int => V.int (i + j)) 1 (z' : Int)], ∃ m : Nat, x = .int (m : Nat) ∧ 1 ≤ m ∧ m ≤ 7 := by
      intro x hx
      simp only [List.mem_cons, List.not_mem_nil, or_false] at hx
      rcases hx with rfl | rfl | rfl
      · exact ⟨(1 + c'), rfl, t1, t7⟩
      · exact ⟨7, rfl, by decide, by decide⟩
      · exact ⟨(1 + z'), rfl, by omega, by omega⟩
    have k49 : ∀ x o, H4 x = some o → (upd H8 tt (.tup [(fun i j : Int => V.int (i + j)) 1 (c' : Int), V.int 7, (fun i j : Int => V.int (i + j)) 1 (z' : Int)])) x = some o := fun x o h => by
      have xb := ne_of_none (s5 _ _ h) hb
      exact s9 _ _ (o8 _ _ (o7 _ _ (s6 _ _ (s5 _ _ h)) xb) xb)
    generalize upd H8 tt (.tup [(fun i j : Int => V.int (i + j)) 1 (c' : Int), V.int 7, (fun i j : Int => V.int (i + j)) 1 (z' : Int)]) = H9 at s9 htt9 B9 k49 ⊢
    generalize [(fun i j : Int => V.int (i + j)) 1 (c' : Int), V.int 7, (fun i j : Int => V.int (i + j)) 1 (z' : Int)] = ts at htt9 told
    have hR9 := k49 _ _ hR4
    have TR9 := TR4.same k49
    refine ⟨tt, rfl, ⟨_, .inl (.inl htt9)⟩, for_tup (K := K) (a := tt) (xs := ts) (fun e σ H10 => ∃ (x2 x6 x7 x8 x9 x10 : Option V), σ = [some (.ref a), some (.ref R0), x2, some (.int (0 + (i : Int))), some (.ref b), some (.int ((1 + c' : Nat) : Int)), x6, x7, x8, x9, x10] ∧ Same H9 H10)
      ⟨_, _, _, _, _, _, rfl, Same.refl _⟩ (fun e σ H10 _ ⟨_, _, _, _, _, _, _, s⟩ => .inl (.inl (s _ _ htt9))) ?_ ?_⟩
    · rintro e x σ H10 hx ⟨x2, x6, x7, x8, x9, x10, rfl, s10⟩
      obtain ⟨m, rfl, m1, m7⟩ := told x (List.mem_of_getElem? hx)
      have hR10 := s10 _ _ hR9
      have TR10 := TR9.same s10
      have tf := treesFew m m7
      have sm := small m m7
      refine ⟨(by show 0 ≤ sizeLine; decide), fun Du hDu => ?_⟩
      have s11 := same_new hDu (.lst ([] : List V))
      have hDu11 : (upd H10 Du (.lst ([] : List V))) Du = some (.lst []) := upd_same
      generalize upd H10 Du (.lst ([] : List V)) = H11 at s11 hDu11 ⊢
      refine ⟨_, rfl, m, rfl, m1, m7, fun T0 xs H12 hT0 hT12 A12 s12 => ⟨_, _, rfl, ?_⟩⟩
      have hDu12 := s12 _ _ hDu11
      have TDu : T0 ≠ Du := (ne_of_none hDu11 hT0).symm
      have s1012 := s11.trans s12
      have hR12 := s1012 _ _ hR10
      have xl := A12.len
      refine ⟨_, rfl, 1, rfl, _, rfl, _, _, rfl, rfl, _, rfl, R0, _, rfl, .inl (.inl hR12), fun l hl0 => ?_⟩
      have s13 := same_new hl0 (.lst (cutV (rs.map V.ref) (some (1 : Int)) (some ((m : Int) + 1))))
      have hl13 : (upd H12 l (.lst (cutV (rs.map V.ref) (some (1 : Int)) (some ((m : Int) + 1))))) l = some (.lst (((rs.drop 1).take m).map V.ref)) := by
        rw [upd_same, List.map_take, List.map_drop]; exact congrArg (fun z => some (HO.lst z)) (cut_part1 (by rw [List.length_map]; omega))
      generalize upd H12 l (.lst (cutV (rs.map V.ref) (some (1 : Int)) (some ((m : Int) + 1)))) = H13 at s13 hl13 ⊢
      have hDu13 := s13 _ _ hDu12
      have lDu : l ≠ Du := (ne_of_none hDu12 hl0).symm
      have rDu : ∀ k r, rs[k]? = some r → r ≠ Du := fun k r hk => ne_of_none (TR10.2 k r hk) hDu
      have TR13 := TR10.same (s1012.trans s13)
      refine ⟨l, rfl, ⟨_, .inl (.inl hl13)⟩, for_list (K := K) (a := l) (xs := ((rs.drop 1).take m).map V.ref) (fun g σ H14 => ∃ (w2 : Option V), σ = [some (.ref a), some (.ref R0), w2, some (.int (0 + (i : Int))), some (.ref b), some (.int ((1 + c' : Nat) : Int)), some (.int (m : Nat)), some (.ref Du), some (.ref T0), x9, x10] ∧
          H14 Du = some (.lst ((((rowsL 7).drop 1).take g).flatten.map txtV)) ∧ (((rowsL 7).drop 1).take g).flatten.length ≤ 51 * g ∧ (∀ c o, c ≠ Du → H13 c = some o → H14 c = some o))
        ⟨_, rfl, hDu13, by simp, fun c o _ z => z⟩ (fun g σ H14 _ ⟨_, _, _, _, o⟩ => .inl (.inl (o _ _ lDu hl13))) ?_ ?_⟩
      · rintro g x σ H14 hg ⟨w2, rfl, h14, f14, o14⟩
        rw [List.getElem?_map] at hg
        obtain ⟨r, hr0, rfl⟩ : ∃ r, ((rs.drop 1).take m)[g]? = some r ∧ x = .ref r := by
          cases hq : ((rs.drop 1).take m)[g]? with
          | none => rw [hq] at hg; cases hg
          | some r => rw [hq] at hg; exact ⟨r, rfl, by simpa using hg.symm⟩
        have lg := (List.getElem?_eq_some_iff.mp hr0).1
        rw [List.length_take, List.length_drop] at lg
        rw [List.getElem?_take_of_lt (by omega), List.getElem?_drop] at hr0
        have hrow := o14 _ _ (rDu _ _ hr0) (TR13.2 _ _ hr0)
        have fr := rowAt_few few (1 + g)
        have er : ((rowsL 7).drop 1)[g]? = some (rowAt (rowsL 7) (1 + g)) := by
          rw [List.getElem?_drop]
          unfold rowAt
          rw [List.getD_eq_getElem?_getD, List.getElem?_eq_getElem (by rw [rowsL_len]; omega)]
          rfl
        have tk : ((rowsL 7).drop 1).take (g + 1) = ((rowsL 7).drop 1).take g ++ [rowAt (rowsL 7) (1 + g)] := by rw [List.take_add_one, er]; rfl
        refine ⟨_, rfl, .inl ⟨rfl, _, .inl (.inl h14)⟩, _, rfl, Du, r, _, _, rfl, rfl, h14, hrow, by rw [List.length_map, List.length_map]; omega, ?_⟩
        refine ⟨_, rfl, ?_, ?_, fun c o nc z => by rw [upd_ne nc]; exact o14 _ _ nc z⟩
        · rw [upd_same, tk, List.flatten_append, List.map_append]
          simp
        · rw [tk, List.flatten_append, List.length_append]
          have e : [rowAt (rowsL 7) (1 + g)].flatten.length = (rowAt (rowsL 7) (1 + g)).length := by simp
          omega
      rintro σ H14 ⟨w2, rfl, h14, f14, o14⟩
      have lm : (((rs.drop 1).take m).map V.ref).length = m := by rw [List.length_map, List.length_take, List.length_drop]; omega
      rw [lm, trees_due m7] at h14
      have hT14 := o14 _ _ TDu (s13 _ _ hT12)
      have A14 : AllAt H14 xs (treesL m) := A12.mono fun c zs z => o14 _ _ (ne_of_none (s12 _ _ hDu11) hl0 |> fun _ => (ne_of z hDu12 (by intro e; cases e))) (s13 _ _ z)
      have k1014 : ∀ c o, H10 c = some o → H14 c = some o := fun c o z => o14 _ _ (ne_of_none z hDu) (s13 _ _ (s1012 _ _ z))
      have em : (treesL m).map txtV = ((treesL m).map Tm.txt).map V.str := by rw [List.map_map]; rfl
      have sok : ∀ y ∈ (treesL m).map Tm.txt, PyData.strOk y = true := fun y hy => by
        obtain ⟨t, ht, rfl⟩ := List.mem_map.mp hy
        exact txt_ok t (sm t ht).1
      have tsm : ∀ t ∈ treesL m, t.small := fun t ht n hn => by rw [(sm t ht).1] at hn; simp at hn
      have td : ∀ t ∈ treesL m, t.deep < 9 := fun t ht => by have := Tm.deep_lt t; have := (sm t ht).2; omega
      -- what is told
      refine ⟨_, rfl, _, _, _, _, true, rfl, .ty "list", .base (.lst hT14), kitB_of (by decide +kernel), true, rfl, iteF ?_⟩
      refine ⟨_, rfl, T0, rfl, ⟨_, .inl (.inl hT14)⟩, fun D hD => lc_list (K := K) (a := T0) (xs := xs) (fun g H15 => H15 D = some (.lst (((treesL m).take g).map txtV)) ∧ Same H14 H15)
        ⟨upd_same, same_new hD _⟩ (fun g H15 _ ⟨_, s⟩ => .inl (.inl (s _ _ hT14))) ?_ ?_⟩
      · rintro g x H15 hg ⟨h15, s15⟩
        obtain ⟨t, ht, Tx⟩ := A14.get hg
        have tm := List.mem_of_getElem? ht
        have lg := (List.getElem?_eq_some_iff.mp ht).1
        refine ⟨rfl, ?_⟩
        unfold teTx
        refine ⟨_, rfl, x, t, rfl, Tx.same s15, tsm t tm, by have := (sm t tm).2; omega, td t tm, fun H16 s16 => ⟨_, s16 _ _ h15, by rw [List.length_map, List.length_take]; omega, ?_, fun c o z => by rw [upd_ne (ne_of_none z hD)]; exact s16 _ _ (s15 _ _ z)⟩⟩
        rw [upd_same, List.take_add_one, ht, List.map_append]
        rfl
      rintro H15 ⟨h15, s15⟩
      rw [xl, List.take_length] at h15
      refine ⟨_, rfl, .list (((treesL m).map Tm.txt).map PyData.str), .list (((treesL m).map Tm.txt).map PyData.str), .lst (.inl (.inl (em ▸ h15))) (dp_strs _), .lst (.inl (.inl (em ▸ s15 _ _ h14))) (dp_strs _), strs_shaped _ sok, strs_shaped _ sok, _, rfl, ?_⟩
      rw [eqv_strs, decide_eq_true rfl]
      refine iteF ?_
      have hT15 := s15 _ _ hT14
      refine ⟨_, rfl, T0, rfl, ⟨_, .inl (.inl hT15)⟩, fun D2 hD2 => lc_list (K := K) (a := T0) (xs := xs) (fun g H16 => H16 D2 = some (.lst (List.replicate g (V.bl true))) ∧ Same H15 H16)
        ⟨upd_same, same_new hD2 _⟩ (fun g H16 _ ⟨_, s⟩ => .inl (.inl (s _ _ hT15))) ?_ ?_⟩
      · rintro g x H16 hg ⟨h16, s16⟩
        obtain ⟨t, ht, Tx⟩ := A14.get hg
        have tm := List.mem_of_getElem? ht
        have lg := (List.getElem?_eq_some_iff.mp ht).1
        have tl := tm_lay t
        have ts7 := (sm t tm).2
        refine ⟨rfl, ?_⟩
        unfold teIt
        refine ⟨_, rfl, (0 : Nat), x, tmD t, rfl, TmAt.dat ((Tx.same s15).same s16), ⟨tl.1, by omega⟩, by omega, fun r H17 ir s17 => ?_⟩
        obtain rfl : r = true := ir.mpr ⟨t, rfl, tsm t tm⟩
        refine ⟨_, s17 _ _ h16, by rw [List.length_replicate]; omega, ?_, fun c o z => by rw [upd_ne (ne_of_none z hD2)]; exact s17 _ _ (s16 _ _ z)⟩
        rw [upd_same, List.replicate_succ']
      rintro H16 ⟨h16, s16⟩
      have ea : (List.replicate xs.length true).all id = true := by rw [List.all_eq_true]; intro y hy; rw [List.eq_of_mem_replicate hy]; rfl
      refine ⟨D2, List.replicate xs.length true, rfl, .inl (.inl (by rw [List.map_replicate]; exact h16)), ?_⟩
      rw [ea]
      refine ⟨true, rfl, iteF ?_⟩
      have s1416 := s15.trans s16
      have hT16 := s1416 _ _ hT14
      have HT0 : H10 T0 = none := same_none s11 hT0
      refine ⟨_, rfl, .inl ⟨rfl, _, .inl (.inl hT16)⟩, T0, xs, rfl, rfl, hT16, ?_⟩
      have hT17 : (upd H16 T0 (.lst xs.reverse)) T0 = some (.lst xs.reverse) := upd_same
      have o17 : ∀ c o, c ≠ T0 → H16 c = some o → (upd H16 T0 (.lst xs.reverse)) c = some o := fun c o nc z => by rw [upd_ne nc]; exact z
      generalize upd H16 T0 (.lst xs.reverse) = H17 at hT17 o17 ⊢
      refine ⟨_, rfl, .inl ⟨rfl, _, .inl (.inl hT17)⟩, T0, _, _, rfl, rfl, hT17, by rw [List.length_reverse]; omega, ?_⟩
      have o18 : ∀ c o, c ≠ T0 → H16 c = some o → (upd H17 T0 (.lst (xs.reverse ++ [V.int 0]))) c = some o := fun c o nc z => by rw [upd_ne nc]; exact o17 _ _ nc z
      generalize upd H17 T0 (.lst (xs.reverse ++ [V.int 0])) = H18 at o18 ⊢
      have hDu18 := o18 _ _ TDu.symm (s1416 _ _ h14)
      refine ⟨_, rfl, m, rfl, m1, m7, fun T1 ys H19 hT10 hT19 A19 s19 => ?_⟩
      have yl := A19.len
      refine ⟨T1, rfl, ⟨_, .inl (.inl hT19)⟩, fun D3 hD3 => lc_list (K := K) (a := T1) (xs := ys) (fun g H20 => H20 D3 = some (.lst (((treesL m).take g).map txtV)) ∧ Same H19 H20)
        ⟨upd_same, same_new hD3 _⟩ (fun g H20 _ ⟨_, s⟩ => .inl (.inl (s _ _ hT19))) ?_ ?_⟩
      · rintro g x H20 hg ⟨h20, s20⟩
        obtain ⟨t, ht, Tx⟩ := A19.get hg
        have tm := List.mem_of_getElem? ht
        have lg := (List.getElem?_eq_some_iff.mp ht).1
        refine ⟨rfl, ?_⟩
        unfold teTx
        refine ⟨_, rfl, x, t, rfl, Tx.same s20, tsm t tm, by have := (sm t tm).2; omega, td t tm, fun H21 s21 => ⟨_, s21 _ _ h20, by rw [List.length_map, List.length_take]; omega, ?_, fun c o z => by rw [upd_ne (ne_of_none z hD3)]; exact s21 _ _ (s20 _ _ z)⟩⟩
        rw [upd_same, List.take_add_one, ht, List.map_append]
        rfl
      rintro H20 ⟨h20, s20⟩
      rw [yl, List.take_length] at h20
      refine ⟨_, rfl, .list (((treesL m).map Tm.txt).map PyData.str), .list (((treesL m).map Tm.txt).map PyData.str), .lst (.inl (.inl (em ▸ h20))) (dp_strs _), .lst (.inl (.inl (em ▸ s20 _ _ (s19 _ _ hDu18)))) (dp_strs _), strs_shaped _ sok, strs_shaped _ sok, _, rfl, ?_⟩
      rw [eqv_strs, decide_eq_true rfl]
      refine iteF ⟨_, _, _, _, _, _, rfl, fun c o z => ?_⟩
      have z10 := s10 _ _ z
      exact s20 _ _ (s19 _ _ (o18 _ _ (ne_of_none z10 HT0) (s1416 _ _ (k1014 _ _ z10))))
    rintro σ H10 ⟨x2, x6, x7, x8, x9, x10, rfl, s10⟩
    have B10 := B9.same s10
    have hb9 := B9.ex
    refine ⟨6, rfl, by decide, by decide, for_range (lo := 0) (n := 6) (fun n σ H11 => ∃ (x2 x6 x7 x8 x9 x10 : Option V), σ = [some (.ref a), some (.ref R0), x2, some (.int (0 + (i : Int))), some (.ref b), some (.int ((1 + c' : Nat) : Int)), x6, x7, x8, x9, x10] ∧ BoxAt H11 b (2 + 8 * n) ∧ But b H10 H11)
      ⟨_, _, _, _, _, _, rfl, B10, But.refl _ _⟩ ?_ ?_⟩
    · rintro n σ H11 hn ⟨x2, x6, x7, x8, x9, x10, rfl, B11, o11⟩
      refine ⟨_, rfl, _, rfl, _, rfl, b, _, _, rfl, B11, by omega, by omega, by omega, fun c2 H12 c20 c21 B12 o12 => ?_⟩
      refine ⟨_, _, rfl, rfl, (by show 0 ≤ sizeLine; decide), fun g hg => ?_⟩
      have s13 := same_new hg (.lst ([] : List V))
      have B13 := B12.same s13
      refine ⟨b, g, [], _, _, rfl, B13, by omega, upd_same, box_ne B12 hg, by decide, by omega, by omega, fun v t H14 T sz nn B14 o14 => ?_⟩
      have tn : t.nums = [] := List.eq_nil_iff_forall_not_mem.mpr fun x hx => by simpa using nn x hx
      have tz : t.size ≤ (1 + c') := by omega
      refine ⟨_, rfl, (1 + c'), rfl, t1, t7, fun T1 xs H15 hT10 hT15 A15 s15 => ?_⟩
      have tl := tm_lay t
      refine ⟨.inl ⟨rfl, _, .inl (.inl hT15)⟩, _, rfl, T1, xs, v, (treesL (1 + c')).map tmD, tmD t, rfl, rfl, .inl (.inl hT15), tms_dp A15, (TmAt.dat (b := 0) (T.same s15)).dp, tms_plain _, tl.2.2, by omega, ?_⟩
      rw [tms_count, trees_count tn tz]
      refine ⟨rfl, false, rfl, iteF ?_⟩
      refine ⟨_, _, _, _, _, _, rfl, (B14.same s15).more (by omega), ?_⟩
      exact o11.trans (o12.trans ((but_of s13).trans (o14.trans (but_of s15))))
    · rintro σ H11 ⟨x2, x6, x7, x8, x9, x10, rfl, B11, o11⟩
      refine ⟨_, _, _, _, _, _, _, _, _, rfl, fun c o z => ?_⟩
      have cb := ne_of_none (s5 _ _ z) hb
      exact o11 _ _ (s10 _ _ (k49 _ _ z)) cb
  rintro σ H5 ⟨y2, y3, y4, y5, y6, y7, y8, y9, y10, rfl, s5⟩
  refine ⟨1, rfl, by decide, by decide, fun T1 xs H6 hT10 hT6 A6 s6 => ?_⟩
  refine ⟨(by show 1 ≤ sizeLine; decide), fun z hz => ?_⟩
  have s7 := same_new hz (.tup [V.str "0"])
  refine ⟨(by show 1 ≤ sizeLine; decide), fun l hl0 => ?_⟩
  have s8 := same_new hl0 (.lst [V.ref z])
  have e1 : treesL 1 = [Tm.z] := by unfold treesL; rw [rows1]; rfl
  rw [e1] at A6
  have Az : AllAt (upd (upd H6 z (.tup [V.str "0"])) l (.lst [V.ref z])) [V.ref z] [Tm.z] := ⟨.z (s8 _ _ upd_same), trivial⟩
  have sh : SeqAt.shaped (.list ([Tm.z].map tmD)) = true := by decide +kernel
  refine ⟨.list ([Tm.z].map tmD), .list ([Tm.z].map tmD), .lst (.inl (.inl ((s7.trans s8) _ _ hT6))) (tms_dp (A6.mono fun c zs y => (s7.trans s8) _ _ y)), .lst (.inl (.inl upd_same)) (tms_dp Az), sh, sh, ?_⟩
  have ev : PyData.eqv (.list ([Tm.z].map tmD)) (.list ([Tm.z].map tmD)) = true := by decide +kernel
  rw [ev]
  exact q _
end
end Rp

namespace Rp
open PySem L2
theorem all_mk {l : PySem.W.OpenLaw} {w : World} {K : PySem.W.Frag} {h : Heap} {mg : Str → Option Value} {fa f1 f2 f3 f4 f5 f6 f7 f8 f9 f10 f11 f12 f13 f14 f15 : Addr} (X : K.In h) (G : h.Ns mainGlobals mg) (hfa : mg "law" = some (.ref fa))
    {od1 an1 od2 an2 od3 an3 od4 an4 od5 an5 od6 an6 od7 an7 od8 an8 od9 an9 od10 an10 od11 an11 od12 an12 od13 an13 od14 an14 od15 an15 : Option Addr} {sl1 sl2 sl3 sl4 sl5 sl6 sl7 sl8 sl9 sl10 sl11 sl12 sl13 sl14 sl15 : Array (Option Value)} {oc1 kV1 dc1 pm1 cd1 ct1 oc2 kV2 dc2 pm2 cd2 ct2 oc3 kV3 dc3 pm3 cd3 ct3 oc4 kV4 dc4 pm4 cd4 ct4 oc5 kV5 dc5 pm5 cd5 ct5 oc6 kV6 dc6 pm6 cd6 ct6 oc7 kV7 dc7 pm7 cd7 ct7 oc8 kV8 dc8 pm8 cd8 ct8 oc9 kV9 dc9 pm9 cd9 ct9 oc10 kV10 dc10 pm10 cd10 ct10 oc11 kV11 dc11 pm11 cd11 ct11 oc12 kV12 dc12 pm12 cd12 ct12 oc13 kV13 dc13 pm13 cd13 ct13 oc14 kV14 dc14 pm14 cd14 ct14 oc15 kV15 dc15 pm15 cd15 ct15 : Value}
    (a1 : PySem.W.nsIn K mainGlobals "_parts" = some (some (.ref f1))) (l1 : K.lookup f1 = some ⟨oc1, od1, .func (PySem.W.fnOf "_parts" "_parts" (defArgs sParts) (defBody sParts) (defScope sParts) .none kV1 dc1 pm1 an1 cd1 ct1), sl1⟩) (c1 : PySem.W.codeIn K cd1 "_parts" = true) (k1 : PySem.W.keepIn K (.ref f1) = true)
    (a2 : PySem.W.nsIn K mainGlobals "inside_out" = some (some (.ref f2))) (l2 : K.lookup f2 = some ⟨oc2, od2, .func (PySem.W.fnOf "inside_out" "inside_out" (defArgs sInside) (defBody sInside) (defScope sInside) .none kV2 dc2 pm2 an2 cd2 ct2), sl2⟩) (c2 : PySem.W.codeIn K cd2 "inside_out" = true) (k2 : PySem.W.keepIn K (.ref f2) = true)
    (a3 : PySem.W.nsIn K mainGlobals "_text_of" = some (some (.ref f3))) (l3 : K.lookup f3 = some ⟨oc3, od3, .func (PySem.W.fnOf "_text_of" "_text_of" (defArgs sTextOf) (defBody sTextOf) (defScope sTextOf) .none kV3 dc3 pm3 an3 cd3 ct3), sl3⟩) (c3 : PySem.W.codeIn K cd3 "_text_of" = true) (k3 : PySem.W.keepIn K (.ref f3) = true)
    (a4 : PySem.W.nsIn K mainGlobals "fold" = some (some (.ref f4))) (l4 : K.lookup f4 = some ⟨oc4, od4, .func (PySem.W.fnOf "fold" "fold" (defArgs sFold) (defBody sFold) (defScope sFold) .none kV4 dc4 pm4 an4 cd4 ct4), sl4⟩) (c4 : PySem.W.codeIn K cd4 "fold" = true) (k4 : PySem.W.keepIn K (.ref f4) = true)
    (a5 : PySem.W.nsIn K mainGlobals "term_text" = some (some (.ref f5))) (l5 : K.lookup f5 = some ⟨oc5, od5, .func (PySem.W.fnOf "term_text" "term_text" (defArgs sTermText) (defBody sTermText) (defScope sTermText) .none kV5 dc5 pm5 an5 cd5 ct5), sl5⟩) (c5 : PySem.W.codeIn K cd5 "term_text" = true) (k5 : PySem.W.keepIn K (.ref f5) = true)
    (a6 : PySem.W.nsIn K mainGlobals "_of_size" = some (some (.ref f6))) (l6 : K.lookup f6 = some ⟨oc6, od6, .func (PySem.W.fnOf "_of_size" "_of_size" (defArgs sOfSize) (defBody sOfSize) (defScope sOfSize) .none kV6 dc6 pm6 an6 cd6 ct6), sl6⟩) (c6 : PySem.W.codeIn K cd6 "_of_size" = true) (k6 : PySem.W.keepIn K (.ref f6) = true)
    (a7 : PySem.W.nsIn K mainGlobals "trees" = some (some (.ref f7))) (l7 : K.lookup f7 = some ⟨oc7, od7, .func (PySem.W.fnOf "trees" "trees" (defArgs sTrees) (defBody sTrees) (defScope sTrees) .none kV7 dc7 pm7 an7 cd7 ct7), sl7⟩) (c7 : PySem.W.codeIn K cd7 "trees" = true) (k7 : PySem.W.keepIn K (.ref f7) = true)
    (a8 : PySem.W.nsIn K mainGlobals "_law_box" = some (some (.ref f8))) (l8 : K.lookup f8 = some ⟨oc8, od8, .func (PySem.W.fnOf "_law_box" "_law_box" (defArgs sBox) (defBody sBox) (defScope sBox) .none kV8 dc8 pm8 an8 cd8 ct8), sl8⟩) (c8 : PySem.W.codeIn K cd8 "_law_box" = true) (k8 : PySem.W.keepIn K (.ref f8) = true)
    (a9 : PySem.W.nsIn K mainGlobals "_law_take" = some (some (.ref f9))) (l9 : K.lookup f9 = some ⟨oc9, od9, .func (PySem.W.fnOf "_law_take" "_law_take" (defArgs sTake) (defBody sTake) (defScope sTake) .none kV9 dc9 pm9 an9 cd9 ct9), sl9⟩) (c9 : PySem.W.codeIn K cd9 "_law_take" = true) (k9 : PySem.W.keepIn K (.ref f9) = true)
    (a10 : PySem.W.nsIn K mainGlobals "_law_pick" = some (some (.ref f10))) (l10 : K.lookup f10 = some ⟨oc10, od10, .func (PySem.W.fnOf "_law_pick" "_law_pick" (defArgs sPick) (defBody sPick) (defScope sPick) .none kV10 dc10 pm10 an10 cd10 ct10), sl10⟩) (c10 : PySem.W.codeIn K cd10 "_law_pick" = true) (k10 : PySem.W.keepIn K (.ref f10) = true)
    (a11 : PySem.W.nsIn K mainGlobals "_law_tree" = some (some (.ref f11))) (l11 : K.lookup f11 = some ⟨oc11, od11, .func (PySem.W.fnOf "_law_tree" "_law_tree" (defArgs sTree) (defBody sTree) (defScope sTree) .none kV11 dc11 pm11 an11 cd11 ct11), sl11⟩) (c11 : PySem.W.codeIn K cd11 "_law_tree" = true) (k11 : PySem.W.keepIn K (.ref f11) = true)
    (a12 : PySem.W.nsIn K mainGlobals "_law_text" = some (some (.ref f12))) (l12 : K.lookup f12 = some ⟨oc12, od12, .func (PySem.W.fnOf "_law_text" "_law_text" (defArgs sText) (defBody sText) (defScope sText) .none kV12 dc12 pm12 an12 cd12 ct12), sl12⟩) (c12 : PySem.W.codeIn K cd12 "_law_text" = true) (k12 : PySem.W.keepIn K (.ref f12) = true)
    (a13 : PySem.W.nsIn K mainGlobals "_law_is_tree" = some (some (.ref f13))) (l13 : K.lookup f13 = some ⟨oc13, od13, .func (PySem.W.fnOf "_law_is_tree" "_law_is_tree" (defArgs sIsTree) (defBody sIsTree) (defScope sIsTree) .none kV13 dc13 pm13 an13 cd13 ct13), sl13⟩) (c13 : PySem.W.codeIn K cd13 "_law_is_tree" = true) (k13 : PySem.W.keepIn K (.ref f13) = true)
    (a14 : PySem.W.nsIn K mainGlobals "_law_rows" = some (some (.ref f14))) (l14 : K.lookup f14 = some ⟨oc14, od14, .func (PySem.W.fnOf "_law_rows" "_law_rows" (defArgs sRows) (defBody sRows) (defScope sRows) .none kV14 dc14 pm14 an14 cd14 ct14), sl14⟩) (c14 : PySem.W.codeIn K cd14 "_law_rows" = true) (k14 : PySem.W.keepIn K (.ref f14) = true)
    (a15 : PySem.W.nsIn K mainGlobals "law" = some (some (.ref f15))) (l15 : K.lookup f15 = some ⟨oc15, od15, .func (PySem.W.fnOf "law" "law" (defArgs sLaw) (defBody sLaw) (defScope sLaw) .none kV15 dc15 pm15 an15 cd15 ct15), sl15⟩) (c15 : PySem.W.codeIn K cd15 "law" = true) (k15 : PySem.W.keepIn K (.ref f15) = true)
    (z1 : PySem.W.nsIn K mainGlobals "isinstance" = some none)
    (z2 : PySem.W.nsIn K mainGlobals "int" = some none)
    (z3 : PySem.W.nsIn K mainGlobals "len" = some none)
    (z4 : PySem.W.nsIn K mainGlobals "range" = some none)
    (z5 : PySem.W.nsIn K mainGlobals "sorted" = some none)
    (z6 : PySem.W.nsIn K mainGlobals "abs" = some none)
    (z7 : PySem.W.nsIn K mainGlobals "list" = some none)
    (z8 : PySem.W.nsIn K mainGlobals "min" = some none)
    (z9 : PySem.W.nsIn K mainGlobals "tuple" = some none)
    (z10 : PySem.W.nsIn K mainGlobals "all" = some none)
    (z11 : PySem.W.nsIn K mainGlobals "zip" = some none)
    (z12 : PySem.W.nsIn K mainGlobals "str" = some none)
    (z13 : PySem.W.nsIn K mainGlobals "bool" = some none)
    : ∃ fd : FuncData, (∀ (s : Shared) (v : Value), BindsTo s fd ⟨[v], []⟩ [("_law_script", v)]) ∧ ∀ base : Heap, K.In base → base.Ns mainGlobals mg → GnOk l.prog w K mg base 66 fa fd ["_law_script"] (spLaw K) := by
  have e := hfa.symm.trans (PySem.W.mg_of X G a15)
  cases e
  have F1 := fun_mk (st := sParts) l1 c1 k1
  have b1 := F1.binds (ps := ["term"]) fun _ _ _ _ _ _ us hl => match us, hl with | [_], _ => rfl
  have m1 := PySem.W.mg_of X G a1
  have F2 := fun_mk (st := sInside) l2 c2 k2
  have b2 := F2.binds (ps := ["term"]) fun _ _ _ _ _ _ us hl => match us, hl with | [_], _ => rfl
  have m2 := PySem.W.mg_of X G a2
  have F3 := fun_mk (st := sTextOf) l3 c3 k3
  have b3 := F3.binds (ps := ["part", "texts"]) fun _ _ _ _ _ _ us hl => match us, hl with | [_, _], _ => rfl
  have m3 := PySem.W.mg_of X G a3
  have F4 := fun_mk (st := sFold) l4 c4 k4
  have b4 := F4.binds (ps := ["term", "made_of"]) fun _ _ _ _ _ _ us hl => match us, hl with | [_, _], _ => rfl
  have m4 := PySem.W.mg_of X G a4
  have F5 := fun_mk (st := sTermText) l5 c5 k5
  have b5 := F5.binds (ps := ["term"]) fun _ _ _ _ _ _ us hl => match us, hl with | [_], _ => rfl
  have m5 := PySem.W.mg_of X G a5
  have F6 := fun_mk (st := sOfSize) l6 c6 k6
  have b6 := F6.binds (ps := ["signs", "ahead"]) fun _ _ _ _ _ _ us hl => match us, hl with | [_, _], _ => rfl
  have m6 := PySem.W.mg_of X G a6
  have F7 := fun_mk (st := sTrees) l7 c7 k7
  have b7 := F7.binds (ps := ["most"]) fun _ _ _ _ _ _ us hl => match us, hl with | [_], _ => rfl
  have m7 := PySem.W.mg_of X G a7
  have F8 := fun_mk (st := sBox) l8 c8 k8
  have b8 := F8.binds (ps := ["_law_script", "_law_k"]) fun _ _ _ _ _ _ us hl => match us, hl with | [_, _], _ => rfl
  have m8 := PySem.W.mg_of X G a8
  have F9 := fun_mk (st := sTake) l9 c9 k9
  have b9 := F9.binds (ps := ["_law_box_here", "_law_count"]) fun _ _ _ _ _ _ us hl => match us, hl with | [_, _], _ => rfl
  have m9 := PySem.W.mg_of X G a9
  have F10 := fun_mk (st := sPick) l10 c10 k10
  have b10 := F10.binds (ps := ["_law_box_here", "_law_things"]) fun _ _ _ _ _ _ us hl => match us, hl with | [_, _], _ => rfl
  have m10 := PySem.W.mg_of X G a10
  have F11 := fun_mk (st := sTree) l11 c11 k11
  have b11 := F11.binds (ps := ["_law_box_here", "_law_room", "_law_fresh"]) fun _ _ _ _ _ _ us hl => match us, hl with | [_, _, _], _ => rfl
  have m11 := PySem.W.mg_of X G a11
  have F12 := fun_mk (st := sText) l12 c12 k12
  have b12 := F12.binds (ps := ["_law_term"]) fun _ _ _ _ _ _ us hl => match us, hl with | [_], _ => rfl
  have m12 := PySem.W.mg_of X G a12
  have F13 := fun_mk (st := sIsTree) l13 c13 k13
  have b13 := F13.binds (ps := ["_law_thing"]) fun _ _ _ _ _ _ us hl => match us, hl with | [_], _ => rfl
  have m13 := PySem.W.mg_of X G a13
  have F14 := fun_mk (st := sRows) l14 c14 k14
  have b14 := F14.binds (ps := ["_law_top"]) fun _ _ _ _ _ _ us hl => match us, hl with | [_], _ => rfl
  have m14 := PySem.W.mg_of X G a14
  have F15 := fun_mk (st := sLaw) l15 c15 k15
  have y1 := PySem.W.mg_none_of X G z1
  have y2 := PySem.W.mg_none_of X G z2
  have y3 := PySem.W.mg_none_of X G z3
  have y4 := PySem.W.mg_none_of X G z4
  have y5 := PySem.W.mg_none_of X G z5
  have y6 := PySem.W.mg_none_of X G z6
  have y7 := PySem.W.mg_none_of X G z7
  have y8 := PySem.W.mg_none_of X G z8
  have y9 := PySem.W.mg_none_of X G z9
  have y10 := PySem.W.mg_none_of X G z10
  have y11 := PySem.W.mg_none_of X G z11
  have y12 := PySem.W.mg_none_of X G z12
  have y13 := PySem.W.mg_none_of X G z13
  refine ⟨PySem.W.fnOf "law" "law" (defArgs sLaw) (defBody sLaw) (defScope sLaw) .none kV15 dc15 pm15 an15 cd15 ct15, fun s v => .of_eq rfl, fun base _ _ => ?_⟩
  have M : SameG mg := ⟨y1, y7, y9, y3, y10, y11, y12, y2, y13⟩
  have G1_ := ok_parts (P := l.prog) (w := w) (mg := mg) (base := base) F1 y1 y2
  have G2_ := ok_inside (P := l.prog) (w := w) (mg := mg) (base := base) F2 F1 b1 m1 y1 y2
  have G3_ := ok_textof (P := l.prog) (w := w) (mg := mg) (base := base) F3 y1 y2
  have G4_ := ok_fold (P := l.prog) (w := w) (mg := mg) (base := base) F4 G2_ k2 b2 m2 G1_ k1 b1 m1 G3_ k3 b3 y3
  have G5_ := ok_termtext (P := l.prog) (w := w) (mg := mg) (base := base) F5 G4_ k4 b4 m4 m3
  have G6_ := ok_ofsize (P := l.prog) (w := w) (mg := mg) (base := base) F6 y4
  have G7_ := ok_trees (P := l.prog) (w := w) (mg := mg) (base := base) F7 G6_ k6 b6 m6 G5_ k5 b5 m5 y4 y5
  have G8_ := ok_box (P := l.prog) (w := w) (mg := mg) (base := base) F8 y3 y6 y2
  have G9_ := ok_take (P := l.prog) (w := w) (mg := mg) (base := base) F9
  have G10_ := ok_pick (P := l.prog) (w := w) (mg := mg) (base := base) F10 F9 b9 m9 y3
  have G11_ := trees_ok (P := l.prog) (w := w) (mg := mg) (base := base) F11 b11 m11 F9 b9 m9 F10 b10 m10 y3 y7 7
  have G12_ := ltext_ok (P := l.prog) (w := w) (mg := mg) (base := base) F12 b12 m12 M 9
  have G13_ := istree_ok (P := l.prog) (w := w) (mg := mg) (base := base) F13 b13 m13 M 9
  have G14_ := ok_rowst (P := l.prog) (w := w) (mg := mg) (base := base) F14 y4 y5
  exact ok_law F15 F7 G14_ k14 b14 m14 G8_ k8 b8 m8 G9_ k9 b9 m9 G7_ k7 b7 m7 G12_ k12 b12 m12 G13_ k13 b13 m13 G11_ k11 b11 m11 M y4 y8
theorem walk {l : PySem.W.OpenLaw} {q : Program} {loose : List Str} {XP : (Str → Option Value) → Heap → Prop} {YP : World → Heap → Prop} {d : DefRec} {K : Params → PySem.W.Frag} (hn : l.most = some 63) (hdf : d.params.defaults = [])
    (hY : ∀ (w : World) (h : Heap), YP w h → (K w.params).In h)
    (F : ∀ (w : World) (mg : Str → Option Value) (fa : Addr) (h : Heap), (K w.params).In h → h.Ns mainGlobals mg → mg d.name = some (.ref fa) →
      ∃ fd : FuncData, (∀ (s : Shared) (u : Value), BindsTo s fd ⟨[u], []⟩ [("_law_script", u)]) ∧ ∀ base : Heap, (K w.params).In base → base.Ns mainGlobals mg → GnOk l.prog w (K w.params) mg base 66 fa fd ["_law_script"] (spLaw (K w.params))) :
    PySem.W.WalkO q loose XP YP l.row.toRowW d [] (fun f vs => PySem.call f vs) :=
  walk_ofG (n := 63) (k := 66) (x := "_law_script") (sp := spLaw) hn (by decide) hdf ⟨rfl, by decide, by decide⟩ hY F (fun _ _ a ns hl _ hS => ⟨a, ns, rfl, hS, hl, fun _ => rfl⟩)
end Rp
open PySem PySem.W PyProof.Rows
set_option maxRecDepth 100000 in
set_option maxHeartbeats 0 in
theorem PySem.Challenge.cw_ringproofs_k05_trees_by_their_sizes_holds : PySem.Challenge.rw_ringproofs_k05_trees_by_their_sizes.Holds := by
  w_on; o_law; k_head; (case hw => w_witness2)
  k_fill
  refine Rp.walk (l := PySem.Challenge.rw_ringproofs_k05_trees_by_their_sizes) rfl rfl (fun w h Y => PySem.W.kIn_of Y) ?F
  case F =>
    intro w mg fa h KX G hmg
    refine' Rp.all_mk KX G hmg ?a1 ?l1 ?c1 ?k1 ?a2 ?l2 ?c2 ?k2 ?a3 ?l3 ?c3 ?k3 ?a4 ?l4 ?c4 ?k4 ?a5 ?l5 ?c5 ?k5 ?a6 ?l6 ?c6 ?k6 ?a7 ?l7 ?c7 ?k7 ?a8 ?l8 ?c8 ?k8 ?a9 ?l9 ?c9 ?k9 ?a10 ?l10 ?c10 ?k10 ?a11 ?l11 ?c11 ?k11 ?a12 ?l12 ?c12 ?k12 ?a13 ?l13 ?c13 ?k13 ?a14 ?l14 ?c14 ?k14 ?a15 ?l15 ?c15 ?k15 ?z1 ?z2 ?z3 ?z4 ?z5 ?z6 ?z7 ?z8 ?z9 ?z10 ?z11 ?z12 ?z13
    (case a1 => k_is); (case l1 => k_is); (case c1 => k_is); (case k1 => k_is)
    (case a2 => k_is); (case l2 => k_is); (case c2 => k_is); (case k2 => k_is)
    (case a3 => k_is); (case l3 => k_is); (case c3 => k_is); (case k3 => k_is)
    (case a4 => k_is); (case l4 => k_is); (case c4 => k_is); (case k4 => k_is)
    (case a5 => k_is); (case l5 => k_is); (case c5 => k_is); (case k5 => k_is)
    (case a6 => k_is); (case l6 => k_is); (case c6 => k_is); (case k6 => k_is)
    (case a7 => k_is); (case l7 => k_is); (case c7 => k_is); (case k7 => k_is)
    (case a8 => k_is); (case l8 => k_is); (case c8 => k_is); (case k8 => k_is)
    (case a9 => k_is); (case l9 => k_is); (case c9 => k_is); (case k9 => k_is)
    (case a10 => k_is); (case l10 => k_is); (case c10 => k_is); (case k10 => k_is)
    (case a11 => k_is); (case l11 => k_is); (case c11 => k_is); (case k11 => k_is)
    (case a12 => k_is); (case l12 => k_is); (case c12 => k_is); (case k12 => k_is)
    (case a13 => k_is); (case l13 => k_is); (case c13 => k_is); (case k13 => k_is)
    (case a14 => k_is); (case l14 => k_is); (case c14 => k_is); (case k14 => k_is)
    (case a15 => k_is); (case l15 => k_is); (case c15 => k_is); (case k15 => k_is)
    (case z1 => k_is); (case z2 => k_is); (case z3 => k_is); (case z4 => k_is)
    (case z5 => k_is); (case z6 => k_is); (case z7 => k_is); (case z8 => k_is)
    (case z9 => k_is); (case z10 => k_is); (case z11 => k_is); (case z12 => k_is)
    (case z13 => k_is)

