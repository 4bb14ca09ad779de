import PyProof.Rows.All
import Wide.All
import OpenK.AllK
import Wide.FinOn
import HandS.ForMost
import HandS.IsInst
import HandS.Style
import HandS.Set
import HandS.Strs
import HandS.SetBool
import HandS.SetFor
import PySem.Challenge.RW_ringproofs_k08_terms_by_names_and_great
import HandS.Zip
import HandS.Deep
import HandS.Flow
import PyProof.Rows.RegFStrParts
import HandS.FStr
import HandS.Text
import HandS.CallLocal
import HandS.Codes
import PyProof.StrLaws
import HandS.Rev
import HandS.StrMore
import HandS.ReplaceLit
import HandS.ReplaceDef
import HandS.TupAny
import HandS.Conv
import KE.KDictPairs
import HandS.Nested
import HandS.Walk
import HandS.Steps
import HandS.Star
import HandS.More
import HandS.SortInts
import KE.SortKeyHeap
import HandS.SortKw
import HandS.Iter
import HandS.ExcValue
import OpenK.KMore
import HandS.EndTab
import KE.KNest
set_option Elab.async false
set_option linter.all false
set_option maxRecDepth 100000
set_option maxHeartbeats 4000000
/-! Two rules that the layer lacks: a comprehension that makes a set of ints, and set(xs) of a list of ints whose table is known well enough to be sorted afterwards. -/
namespace Rp
open PySem PySem.Spec PyProof.Rows L2 PpSet

section addi
variable {X : Cx}
/-- an int goes into a tracked set of ints -/
theorem putInt {pins : List (Addr × Obj)} {σ : L2.St} {H : Hp} {s : Shared} {E : Value → Shared → Prop} {D : Addr} {S : Int → Bool} {n : Nat} {y : Int} {t : Tok} {Q : Value → Shared → Prop}
    (I : Inv X pins σ H s) (hD : H D = some (SetO X.w D S n)) (few : n + 1 < scanBound)
    (go : ∀ s', Inv X pins σ (upd H D (SetO X.w D (fun j => S j || decide (j = y)) (if S y = true then n else n + 1))) s' → Q .none s') :
    wpAny (model X.prog X.w) X.A (call (.builtin "set.add") [.ref D, .int y t]) Q E s :=
  setR_add (setO_get I hD) few fun h' same now =>
    have there : ∃ u, h'.get? D = some u := let ⟨o, _, _, _, ho, _⟩ := now; ⟨o, ho⟩
    go _ (I.write (e := D) (t' := s.toks + 1) (by rw [hD]; trivial) (.inl rfl) (fun b u ne hu => (same.2 b ne).trans hu) there (setO_new now))

/-- what {e for x in .. if ..} asks where e is an int -/
def tScI (w : World) (wi : TI) (g : TG) (tt : TT) (te : TE) (vs : List Nat) : TE := fun σ H Q => wi σ H fun J H1 => ∀ D, H1 D = none →
  ∃ W : Nat → Nat → Hp → Prop, (∃ m, W 0 m (upd H1 D (SetO w D (fun _ => false) 0))) ∧ ∀ i m H, W i m H → (J.stop i H ∧ Q (.ref D) H) ∨
    (J.go i H ∧ ∃ Nx : Hp → Prop, (∀ H', Nx H' → ∃ m', m' < m ∧ W (i + 1) m' H') ∧ ∀ x H', J.yld i H x H' → g x (wipe σ vs) H' fun σ2 H2 => wipe σ2 vs = wipe σ vs ∧
      tt σ2 H2 fun b H3 => if b = true then te σ2 H3 fun y H4 => ∃ (k : Int) (S : Int → Bool) (n : Nat), y = .int k ∧ H4 D = some (SetO w D S n) ∧ n + 1 < scanBound ∧
        Nx (upd H4 D (SetO w D (fun j => S j || decide (j = k)) (if S k = true then n else n + 1))) else Nx H3)

abbrev emptySet (w : World) : Obj := { cls := .type "set", dict := none, data := .set #[] 0 (.fresh 0 0 (!w.params.followText "set-order")) }

theorem pe_scI {elt tg iter : Expr} {ifs : List Expr} {scope : Scope} {own : List (PySem.Str × Nat)} {pos : Pos} {wi : TI} {g : TG} {tt : TT} {te : TE}
    (hc : X.calm = true) (hN : X.N.Nodup) (hi : PI X tg iter wi) (ok : BlkOk X.N X.env.scope scope own)
    (hg : ∀ (s : Shared) (H : Hp) (C : Addr) (cl : List (PySem.Str × Addr)) (fp : List Addr), PG (X.blk s H scope (compEnvC scope cl C X.env) fp) tg g)
    (ht : ∀ (s : Shared) (H : Hp) (C : Addr) (cl : List (PySem.Str × Addr)) (fp : List Addr), PTs (X.blk s H scope (compEnvC scope cl C X.env) fp) ifs tt)
    (he : ∀ (s : Shared) (H : Hp) (C : Addr) (cl : List (PySem.Str × Addr)) (fp : List Addr), PE (X.blk s H scope (compEnvC scope cl C X.env) fp) elt te)
    (hs : ∀ x, foldedSetIterable iter X.env x = pure x := by intro _; rfl) :
    PE X (.SetComp elt [⟨tg, iter, ifs, 0⟩] scope pos) (tScI X.w wi g tt te (own.map (·.2))) := by
  refine ⟨fun pins s σ H Q I h => ?_⟩
  rw [eval_SetComp]
  have caught : ∀ y ∈ scope.names, y.2 = .free → ∃ c, X.env.cells.lookup y.1 = some c := fun y hy e =>
    (ok.free y hy e).elim (fun k => I.ok.has _ (.inl k)) fun k => I.ok.has _ (.inr k)
  refine wpAny_comprehension_free (use := none) rfl hs (closure_ok caught) ok.kind (fun y hy e => (ok.uniq y hy).trans (by rw [e])) (thn (hi.run pins s σ H _ I h) fun xv s1 hx => thn hx fun itv s2 h2 => ?_)
  obtain ⟨it, fp, tn, J, H2, rfl, I2, T, st2, f2, q⟩ := h2
  refine newSet_ok (newEnv_comp ?_)
  -- the new set's place
  obtain ⟨D, hD⟩ : ∃ D, s2.heap.objs.size = D := ⟨_, rfl⟩
  rw [hD]
  obtain ⟨W, ⟨m0, w0⟩, turn⟩ := q D (I2.hok.fresh (Nat.le_of_eq hD))
  obtain ⟨s3, hs3⟩ : ∃ s3 : Shared, { s2 with heap := s2.heap.push (emptySet X.w) } = s3 := ⟨_, rfl⟩
  have h3 : s3.heap = s2.heap.push (emptySet X.w) := by rw [← hs3]
  have I3 : Inv X pins σ (upd H2 D (SetO X.w D (fun _ => false) 0)) s3 := by
    have z := I2.laid (a := D) (o := SetO X.w D (fun _ => false) 0) (t' := s2.toks) (h' := s2.heap.push (emptySet X.w)) (fun b o e => Heap.get?_push_of_some _ e) (Nat.le_of_eq hD) (by rw [← hD]; exact setO_new (setR_fresh X.w))
    exact hs3 ▸ z
  have low : ∀ b ∈ fp, b < s2.heap.objs.size := fun b hb => let ⟨o, e, _⟩ := T.obj _ _ st2 b hb; Heap.lt_size e
  have f3 : ∀ b ∈ fp, FpOk X pins (upd H2 D (SetO X.w D (fun _ => false) 0)) b ∧ b < s3.heap.objs.size := fun b hb =>
    ⟨⟨(upd_ne (by rw [← hD]; exact Nat.ne_of_lt (low b hb))).trans (f2 b hb).1, (f2 b hb).2⟩, by rw [h3, Heap.size_push]; exact Nat.lt_succ_of_lt (low b hb)⟩
  have st3 : tn 0 s3.heap := T.keep _ _ _ st2 fun b _ o e => h3 ▸ Heap.get?_push_of_some _ e
  have I4 := block_start I3 ok hN f3
  obtain ⟨H3, hH3⟩ : ∃ H3, upd H2 D (SetO X.w D (fun _ => false) 0) = H3 := ⟨_, rfl⟩
  rw [hH3] at I3 f3 I4 w0
  obtain ⟨C, hC⟩ : ∃ C, s3.heap.objs.size = C := ⟨_, rfl⟩
  rw [hC] at I4
  have pg := hg s3 H3 C (cellsFrom (C + 1) scope.names (cloFrom X.env.cells scope.names [])) fp
  have pt := ht s3 H3 C (cellsFrom (C + 1) scope.names (cloFrom X.env.cells scope.names [])) fp
  have pe := he s3 H3 C (cellsFrom (C + 1) scope.names (cloFrom X.env.cells scope.names [])) fp
  subst hs3
  have hC' : (s2.heap.push (emptySet X.w)).objs.size = C := hC
  show codeAny _ _ (.compStart (.SetComp elt [⟨tg, iter, ifs, 0⟩] scope pos) 0 (.ref it) (.ref D) (compEnvC scope (cellsFrom ((s2.heap.push (emptySet X.w)).objs.size + 1) scope.names (cloFrom X.env.cells scope.names [])) (s2.heap.push (emptySet X.w)).objs.size X.env))
    (compPost (model X.prog X.w) X.A X.xe none (EP X pins σ Q) (.ref D) (s2.heap.push (emptySet X.w)).objs.size) { s2 with heap := pushCells ((s2.heap.push (emptySet X.w)).push { cls := .type "dict", data := .dict #[] }) scope.names }
  rw [hC']
  obtain ⟨ce, hce⟩ : ∃ ce, compEnvC scope (cellsFrom (C + 1) scope.names (cloFrom X.env.cells scope.names [])) C X.env = ce := ⟨_, rfl⟩
  rw [hce] at I4 pg pt pe ⊢
  have cL : ce.locals = C := by subst hce; rfl
  obtain ⟨s4, hs4⟩ : ∃ s4 : Shared, { s2 with heap := pushCells ((s2.heap.push (emptySet X.w)).push { cls := .type "dict", data := .dict #[] }) scope.names } = s4 := ⟨_, rfl⟩
  have I4 : Inv (X.blk _ H3 scope ce fp) [] (wipe σ (own.map (·.2))) H3 s4 := hs4 ▸ I4
  rw [hs4]
  have st4 : tn 0 s4.heap := T.keep _ _ _ st3 fun b _ o e => by rw [← hs4]; exact pushCells_keeps _ _ _ _ (Heap.get?_push_of_some _ e)
  obtain ⟨Y, hY⟩ : ∃ Y, X.blk { s2 with heap := s2.heap.push (emptySet X.w) } H3 scope ce fp = Y := ⟨_, rfl⟩
  have rest : ∀ {σ' : L2.St} {H' : Hp} {s' : Shared}, Inv Y [] σ' H' s' → (∀ b ∈ fp, H' b = none) → ∀ b ∈ fp, FpOk Y [] H' b := by
    subst hY
    intro σ' H' s' I' hn b hb
    exact ⟨hn b hb, (I'.ok.exf b hb).1, I'.ok.exfs b hb, .inl hb, fun x c e => (I'.ok.exf b hb).2 x c e, fun p hp => absurd (show p ∈ ([] : List (Addr × Obj)) ++ [] from hp) (by simp)⟩
  have round : codeAny (model X.prog X.w) X.A (.compLoop (.SetComp elt [⟨tg, iter, ifs, 0⟩] scope pos) 0 (.ref it) (.ref D) ce) (compPost (model X.prog X.w) X.A X.xe none (EP X pins σ Q) (.ref D) C) s4 := by
    refine compLoopS_any (fun n s' => ∃ i H', Inv Y [] (wipe σ (own.map (·.2))) H' s' ∧ tn i s'.heap ∧ (∀ b ∈ fp, H' b = none) ∧ W i n H') ?_ m0 ⟨0, H3, hY ▸ I4, st4, fun b hb => (f3 b hb).1.1, w0⟩
    rintro n s5 ⟨i, H5, I5, st5, n5, w5⟩
    rcases turn i n H5 w5 with ⟨stop, qq⟩ | ⟨go, Nx, hNx, step⟩
    · subst hY
      refine thnF (T.done (X.blk _ H3 scope ce fp) rfl rfl rfl hc i [] s5 _ H5 (fun _ _ => False) I5 (rest I5 n5) st5 stop) fun r s6 ⟨hr, I6⟩ => ?_
      subst hr
      have I7 : Inv X pins σ H5 s6 := I3.call' (ch := fp) I6.os I6.base I6.hok I6.bare fun b hb => ⟨(f3 b hb).1.2.2.2.1, (f3 b hb).1.2.1, (f3 b hb).1.2.2.2.2.1, (f3 b hb).1.2.2.2.2.2⟩
      have nC : H5 C = none := cL ▸ (show H5 ce.locals = none from I6.free)
      obtain ⟨m, hn, _⟩ := I6.loc
      have hn : s6.heap.Ns C m := cL ▸ (show s6.heap.Ns ce.locals m from hn)
      refine ⟨m, hn, fun h'' sb => ?_⟩
      obtain ⟨g0, g1, g2, g3, g4, g5⟩ := I3.fpOk (Nat.le_of_eq hC) nC
      exact ⟨.ref D, H5, I7.turned (t' := s6.toks) (fun b o hb e => (sb.2 b hb).trans e) g0 g1 g3 g4 g5, rfl, qq⟩
    · have ti := T.item Y (by subst hY; rfl) (by subst hY; rfl) (by subst hY; rfl) (by subst hY; exact hc) i [] s5 _ H5 (fun _ _ => False) I5 (rest I5 n5) st5 go
      subst hY
      refine thnF ti fun r s6 ⟨u, hr, h6⟩ => ?_
      subst hr
      refine thnF h6 fun _ s7 ⟨x, H7, I7, r7, y7, st7, n7⟩ => ?_
      refine thnF (pg.run _ s7 _ H7 x u _ (I7.pinned (rest I7 n7) (T.obj _ _ st7)) r7 (step x H7 y7)) fun _ s8 ⟨σ8, H8, I8, hw8, q8⟩ => ?_
      refine thnF (pt.run _ s8 σ8 H8 _ I8 q8) fun b s9 ⟨H9, I9, q9⟩ => ?_
      have turned : ∀ {s' : Shared} {H' : Hp}, Inv (X.blk { s2 with heap := s2.heap.push (emptySet X.w) } H3 scope ce fp) ([] ++ pinsAt fp s7.heap) σ8 H' s' → Nx H' → ∃ m, m < n ∧ ∃ i H', Inv (X.blk { s2 with heap := s2.heap.push (emptySet X.w) } H3 scope ce fp) [] (wipe σ (own.map (·.2))) H' s' ∧ tn i s'.heap ∧ (∀ b ∈ fp, H' b = none) ∧ W i m H' := by
        intro s' H' I' nx
        obtain ⟨m', hm, w'⟩ := hNx H' nx
        have pin : ∀ b ∈ fp, ∀ o, s7.heap.get? b = some o → s'.heap.get? b = some o ∧ H' b = none := fun b hb o e =>
          let z := I'.pin (b, o) (List.mem_append_right _ (List.mem_append_right _ (mem_pinsAt hb e))); ⟨z.1, z.2.1⟩
        refine ⟨m', hm, i + 1, H', (I'.unpinned (pins := [])).weak (by rw [← hw8, wipe_length]) (fun j v e => (wipe_some (by rw [hw8]; exact e)).1), T.keep _ _ _ st7 fun b hb o e => (pin b hb o e).1, fun b hb => ?_, w'⟩
        obtain ⟨o, e, _⟩ := T.obj _ _ st7 b hb
        exact (pin b hb o e).2
      cases b with
      | false => simp only [Bool.false_eq_true, if_false] at q9 ⊢; exact turned I9 q9
      | true =>
        simp only [if_true] at q9 ⊢
        refine thnF (pe.run _ s9 σ8 H9 _ I9 q9) fun z s10 ⟨yv, H10, I10, r10, k, S0, n0, ey, hD10, few, nx⟩ => ?_
        subst ey
        obtain ⟨t, rfl⟩ := r10
        exact putInt (X := X.blk _ H3 scope ce fp) I10 hD10 few fun s11 I11 => turned I11 nx
  exact codeAny_compStart_set round (T.self X.A 0 _ _ _ st4 round)

/-- the walk over a list that the block leaves as it is -/
theorem scI_list {w : World} {K : PySem.W.Frag} {a : Addr} {xs : List V} {g : TG} {tt : TT} {te : TE} {vs : List Nat} {σ : L2.St} {H1 : Hp} {D : Addr} {Qd : Hp → Prop}
    (Pv : Nat → Hp → Prop) (h0 : Pv 0 (upd H1 D (SetO w D (fun _ => false) 0))) (hl : ∀ i H, i ≤ xs.length → Pv i H → SqL K H a xs)
    (hs : ∀ i x H, xs[i]? = some x → Pv i H → g x (wipe σ vs) H fun σ2 H2 => wipe σ2 vs = wipe σ vs ∧ tt σ2 H2 fun b H3 => if b = true then te σ2 H3 fun y H4 =>
      ∃ (k : Int) (S : Int → Bool) (n : Nat), y = .int k ∧ H4 D = some (SetO w D S n) ∧ n + 1 < scanBound ∧ Pv (i + 1) (upd H4 D (SetO w D (fun j => S j || decide (j = k)) (if S k = true then n else n + 1))) else Pv (i + 1) H3)
    (hd : ∀ H, Pv xs.length H → Qd H) :
    ∃ W : Nat → Nat → Hp → Prop, (∃ m, W 0 m (upd H1 D (SetO w D (fun _ => false) 0))) ∧ ∀ i m H, W i m H → ((Itl K a).stop i H ∧ Qd H) ∨
      ((Itl K a).go i H ∧ ∃ Nx : Hp → Prop, (∀ H', Nx H' → ∃ m', m' < m ∧ W (i + 1) m' H') ∧ ∀ x H', (Itl K a).yld i H x H' → g x (wipe σ vs) H' fun σ2 H2 => wipe σ2 vs = wipe σ vs ∧
        tt σ2 H2 fun b H3 => if b = true then te σ2 H3 fun y H4 => ∃ (k : Int) (S : Int → Bool) (n : Nat), y = .int k ∧ H4 D = some (SetO w D S n) ∧ n + 1 < scanBound ∧
          Nx (upd H4 D (SetO w D (fun j => S j || decide (j = k)) (if S k = true then n else n + 1))) else Nx H3) := by
  refine ⟨fun i m H => m + i = xs.length ∧ Pv i H, ⟨xs.length, by simp, h0⟩, ?_⟩
  rintro i m H ⟨em, p⟩
  have here := hl i H (by omega) p
  rcases Nat.lt_or_ge i xs.length with lt | ge
  · refine .inr ⟨⟨xs, xs[i], here, by simp [lt]⟩, Pv (i + 1), fun H' p' => ⟨m - 1, by omega, by omega, p'⟩, fun x H' ⟨e, y⟩ => ?_⟩
    subst e
    exact hs i x _ (y xs here) p
  · have e : i = xs.length := by omega
    subst e
    exact .inl ⟨⟨xs, here, Nat.le_refl _⟩, hd H p⟩
end addi
end Rp

namespace Rp
open PySem PySem.Spec PyProof.Rows L2 PpSet
section
variable {P : Program} {w : World} {A : Around} {E : Value → Shared → Prop} {s : Shared}
set_option maxHeartbeats 6400000 in
theorem set_of_list {l : Addr} {items : Array Value} (ns : List Int) {Q : Value → Shared → Prop} (calm : A.handled = none) (hl : s.heap.IsList l items) (hi : IntsAre items.toList ns) (few : ns.length + 1 < scanBound)
    (go : ∀ (h' : Heap) (tk c : Nat), SetR w h' s.heap.objs.size (fun j => decide (j ∈ ns)) c → c ≤ ns.length → (∀ b o, s.heap.get? b = some o → h'.get? b = some o) → Q (.ref s.heap.objs.size) { s with heap := h', toks := tk }) :
    wpAny (model P w) A (call (.type "set") [.ref l]) Q E s := by
  have cnt : items.size = ns.length := by have q := IntsAre.length hi; rwa [Array.length_toList] at q
  obtain ⟨c, tl, hmro⟩ := F.called_set.mro
  have hmade := F.called_set.made
  have hsub := F.called_set.sub
  refine wpAny_call (codeAny_of_tree ?_)
  show wpAny _ _ (callAny (.type "set") _) _ _ _
  refine wpAny_pure ⟨Code.quiet_builtin _ (by decide +kernel), codeAny_builtin F.entry_type_call ?_⟩
  rw [Around.under_plain (weight_type_call_type "set" [.ref l] []) rfl]
  have h1 := F.called_set.notType
  have h2 := F.called_set.canCreate
  have hct := F.typeCall_set_1 (.ref l)
  repeat (any_goals (first | assumption | wp_step))
  refine codeAny_mono (code_set_led1 (.ref l) (E := E) (Q₁ := fun obj z => obj = .ref s.heap.objs.size ∧ z = { s with heap := s.heap.push (emptySet w) }) ⟨rfl, rfl⟩) fun r s₁ hr => ?_
  cases r with
  | error e => exact hr
  | ok fl =>
    cases fl with
    | ret obj =>
      obtain ⟨rfl, rfl⟩ := hr
      have atNew : (s.heap.push (emptySet w)).get? s.heap.objs.size = some (emptySet w) := Heap.get?_push_size _ rfl
      have hT : Shared.TypeIs { s with heap := s.heap.push (emptySet w) } (.ref s.heap.objs.size) "set" := ⟨_, atNew, rfl⟩
      have hli := F.called_set.init.lookup
      have hbi := F.called_set.init.bind (.ref s.heap.objs.size)
      repeat (any_goals (first | assumption | wp_step))
      refine codeAny_mono (codeAny_call_builtin (R := wants (fun r z => r = .none ∧ ∃ h' tk c, z = { s with heap := h', toks := tk } ∧ SetR w h' s.heap.objs.size (fun j => decide (j ∈ ns)) c ∧ c ≤ ns.length ∧
        (∀ b o, s.heap.get? b = some o → h'.get? b = some o)) E) F.called_set.init.plain F.entry_set_init (check_set_init_1 hT ?_)) fun r₂ s₂ hr₂ => ?_
      · obtain ⟨⟨ocls, odict, odata, oslots⟩, hol, hcl, nl, hdl⟩ := hl
        simp only at hcl hdl
        subst hcl hdl
        have hol' : (s.heap.push (emptySet w)).get? l = some { cls := .type "list", dict := odict, data := .seq items nl, slots := oslots } := Heap.get?_push_of_some _ hol
        have hsls := F.sub_list_set
        have hslf := F.sub_list_frozenset
        have hne : (Value.type "list" == Value.type "dict") = false := by decide
        have here : (s.heap.push (emptySet w)).IsList l items := ⟨_, hol', rfl, nl, rfl⟩
        unfold Builtin.«set.__init__» noKeywords Builtin.Frozenset.updateFrom
        generalize hPI : pyIter = PI
        wp_walk
        subst hPI
        refine wpAny_pyIter_list here (wpAny_bind (wpAny_runValue ?_))
        have below : l < s.heap.objs.size := Heap.lt_size hol
        have top : (s.heap.push (emptySet w)).objs.size = s.heap.objs.size + 1 := Heap.size_push ..
        have apart : l ≠ (s.heap.push (emptySet w)).objs.size := by rw [top]; exact Nat.ne_of_lt (Nat.lt_succ_of_lt below)
        have out : s.heap.objs.size ∉ [(s.heap.push (emptySet w)).objs.size, l] := by
          simp only [List.mem_cons, List.not_mem_nil, or_false, not_or, top]
          exact ⟨Nat.ne_of_lt (Nat.lt_succ_self _), Nat.ne_of_gt below⟩
        have each : ∀ (i : Nat) (v : Value), items[i]? = some v → ∃ k t, ns[i]? = some k ∧ v = .int k t := by
          intro i v hv
          have lt : i < ns.length := by rw [← cnt]; exact (Array.getElem?_eq_some_iff.mp hv).1
          obtain ⟨t, e⟩ := PyProof.Rows.IntsAre.int_at hi i v (by rw [Array.getElem?_toList]; exact hv)
          exact ⟨ns[i], t, List.getElem?_eq_getElem lt, by rw [e, List.getD_eq_getElem?_getD, List.getElem?_eq_getElem lt]; rfl⟩
        refine set_update_ints ((Walks.list (by simp [calm]) _ l apart items).toS) s.heap.objs.size out ns cnt few each (items.size - 0) 0 _ (by omega) (Nat.zero_le _)
          ⟨⟨_, Heap.get?_push_size _ rfl, rfl, rfl⟩, here.push _⟩ ⟨0, Nat.le_refl 0, setR_new_at (Heap.get?_push_of_some _ atNew)⟩ fun s' c' hm hc' hS' => ?_
        obtain ⟨h', g2, d', tk', os'⟩ := s'
        have eg : g2 = s.gens := hm.gens
        have ed : d' = s.drawn := hm.drawn
        have eo : os' = s.os := hm.os
        subst eg ed eo
        show wpAny _ _ _ _ _ _
        refine wpAny_pure ?_
        show wpAny _ _ (ret Value.none) _ _ _
        refine wpAny_pure ⟨rfl, h', tk', c', rfl, hS', by omega, fun b o e => ?_⟩
        have lt := Heap.lt_size e
        exact hm.heap b o (by simp only [List.mem_cons, List.not_mem_nil, or_false, not_or, top]; exact ⟨Nat.ne_of_lt lt, Nat.ne_of_lt (Nat.lt_succ_of_lt lt)⟩) (Heap.get?_push_of_some _ (Heap.get?_push_of_some _ e))
      · cases r₂ with
        | error e => exact hr₂
        | ok fl₂ =>
          cases fl₂ with
          | ret r =>
            obtain ⟨rfl, h', tk, c', rfl, hS', hc', hk'⟩ := hr₂
            repeat (any_goals (first | assumption | wp_step))
            exact go _ _ _ hS' hc' hk'
          | _ => exact hr₂.elim
    | _ => exact hr.elim
end
section
variable {X : Cx}
theorem intsOf : ∀ {ns : List Int} {us : List Value}, Vals (ns.map V.int) us → PyProof.Rows.IntsAre us ns
  | [], _, .nil => .nil
  | n :: ns, _, .cons ⟨k, e⟩ t => by subst e; exact .cons n k (intsOf t)
/-- set(xs), xs a list of ints -/
def rSetI (K : PySem.W.Frag) (w : World) : List V → Hp → VK → Prop := fun vs H Q => ∃ (a : Addr) (ns : List Int), vs = [V.ref a] ∧ SqL K H a (ns.map V.int) ∧ ns.length < 1000 ∧
  ∀ (p : Addr) (c : Nat), H p = none → c ≤ ns.length → Q (.ref p) (upd H p (SetO w p (fun j => decide (j ∈ ns)) c))
theorem cr_setI (hc : X.calm = true) : CallR X (.type "set") (rSetI X.K X.w) := by
  intro pins s σ H vs us Q I r h
  obtain ⟨a, ns, rfl, hs, hn, q⟩ := h
  rw [Vals.ref1 r]
  obtain ⟨its, rv, pl, hz⟩ := I.list hs
  refine set_of_list ns (I.ok.hd hc) pl.isList (by simpa using intsOf rv) (by unfold scanBound; omega) fun h' tk c R hc' k => ?_
  have hn : H s.heap.objs.size = none := I.hok.fresh (Nat.le_refl _)
  exact ⟨.ref _, upd H s.heap.objs.size (SetO X.w s.heap.objs.size (fun j => decide (j ∈ ns)) c), I.laid (t' := tk) k (Nat.le_refl _) (setO_new R), rfl, q _ c hn hc'⟩
end
end Rp

namespace Rp
open PySem L2
/-! ### TERMs -/
inductive Tm where
  | v (n : Int) | z | s (t : Tm) | f (l r : Tm)
  deriving DecidableEq
namespace Tm
def size : Tm → Nat
  | v _ => 1 | z => 1 | s t => t.size + 1 | f l r => l.size + r.size + 1
def deep : Tm → Nat
  | v _ => 0 | z => 0 | s t => t.deep + 1 | f l r => max l.deep r.deep + 1
def nums : Tm → List Int
  | v n => [n] | z => [] | s t => t.nums | f l r => l.nums ++ r.nums
/-- all parts, the whole first, the right-hand ones ahead of the left-hand ones -/
def rpost : Tm → List Tm
  | v n => [v n] | z => [z] | s t => s t :: t.rpost | f l r => f l r :: (r.rpost ++ l.rpost)
def kids : Tm → List Tm
  | v _ => [] | z => [] | s t => [t] | f l r => [l, r]
theorem size_pos : ∀ t : Tm, 1 ≤ t.size
  | v _ => Nat.le_refl _ | z => Nat.le_refl _ | s _ => by unfold size; omega | f _ _ => by unfold size; omega
theorem deep_lt : ∀ t : Tm, t.deep < t.size
  | v _ => Nat.zero_lt_one | z => Nat.zero_lt_one | s t => by have := deep_lt t; unfold deep size; omega
  | f l r => by have := deep_lt l; have := deep_lt r; unfold deep size; omega
theorem rpost_len : ∀ t : Tm, t.rpost.length = t.size
  | v _ => rfl | z => rfl | s t => by unfold rpost size; rw [List.length_cons, rpost_len t]
  | f l r => by unfold rpost size; rw [List.length_cons, List.length_append, rpost_len l, rpost_len r]; omega
/-- an int among the parts -/
theorem mem_rpost (n : Int) : ∀ t : Tm, v n ∈ t.rpost ↔ n ∈ t.nums
  | v m => by unfold rpost nums; simp
  | z => by unfold rpost nums; simp
  | s t => by unfold rpost nums; have := mem_rpost n t; simp [this]
  | f l r => by unfold rpost nums; have := mem_rpost n l; have := mem_rpost n r; simp [*]; exact Or.comm
theorem rpost_kids (t : Tm) : t.rpost = t :: (t.kids.reverse.flatMap rpost) := by
  cases t <;> simp [rpost, kids]
theorem kids_size (t : Tm) : (t.kids.map size).sum + 1 = t.size := by
  cases t <;> simp [kids, size] <;> omega
theorem nums_len : ∀ t : Tm, t.nums.length ≤ t.size
  | v _ => Nat.le_refl _ | z => Nat.zero_le _ | s t => by have := nums_len t; unfold nums size; omega
  | f l r => by have := nums_len l; have := nums_len r; unfold nums size; rw [List.length_append]; omega
/-- all signs, as law's leaves has them -/
def signs : Tm → List V
  | v n => [.int n] | z => [.str "0"] | s t => .str "s" :: t.signs | f l r => .str "f" :: (l.signs ++ r.signs)
theorem signs_len : ∀ t : Tm, t.signs.length = t.size
  | v _ => rfl | z => rfl | s t => by unfold signs size; rw [List.length_cons, signs_len t]
  | f l r => by unfold signs size; rw [List.length_cons, List.length_append, signs_len l, signs_len r]
end Tm
/-- the ints of a row of ints and texts -/
def rowInts : List V → List Int
  | [] => []
  | .int n :: r => n :: rowInts r
  | _ :: r => rowInts r
theorem rowInts_append : ∀ a b : List V, rowInts (a ++ b) = rowInts a ++ rowInts b
  | [], b => rfl
  | x :: r, b => by cases x <;> simp [rowInts, rowInts_append r b]
theorem signs_nums : ∀ t : Tm, rowInts t.signs = t.nums
  | .v _ => rfl | .z => rfl | .s t => by simp [Tm.signs, Tm.nums, rowInts, signs_nums t]
  | .f l r => by simp [Tm.signs, Tm.nums, rowInts, rowInts_append, signs_nums l, signs_nums r]
/-- a row of ints and texts -/
def Flat2 : V → Prop
  | .int _ => True
  | .str _ => True
  | _ => False
theorem signs_flat : ∀ t : Tm, ∀ x ∈ t.signs, Flat2 x
  | .v _, x, h => by simp [Tm.signs] at h; subst h; trivial
  | .z, x, h => by simp [Tm.signs] at h; subst h; trivial
  | .s t, x, h => by
    simp only [Tm.signs, List.mem_cons] at h
    rcases h with h | h
    · subst h; trivial
    · exact signs_flat t x h
  | .f l r, x, h => by
    simp only [Tm.signs, List.mem_cons, List.mem_append] at h
    rcases h with h | h | h
    · subst h; trivial
    · exact signs_flat l x h
    · exact signs_flat r x h
/-! ### two rising rows of the same ints are one -/
theorem rising_one : ∀ {a b : List Int}, a.Pairwise (· < ·) → b.Pairwise (· < ·) → (∀ k, k ∈ a ↔ k ∈ b) → a = b
  | [], [], _, _, _ => rfl
  | [], y :: b, _, _, h => by have := (h y).2 (by simp); simp at this
  | x :: a, [], _, _, h => by have := (h x).1 (by simp); simp at this
  | x :: a, y :: b, ha, hb, h => by
    rw [List.pairwise_cons] at ha hb
    have exy : x = y := by
      rcases List.mem_cons.mp ((h x).1 (by simp)) with e | e
      · exact e
      · rcases List.mem_cons.mp ((h y).2 (by simp)) with e' | e'
        · exact e'.symm
        · have := hb.1 x e
          have := ha.1 y e'
          omega
    subst exy
    rw [rising_one ha.2 hb.2 fun k => ?_]
    constructor
    · intro hk
      rcases List.mem_cons.mp ((h k).1 (List.mem_cons_of_mem _ hk)) with e | e
      · have := ha.1 k hk; omega
      · exact e
    · intro hk
      rcases List.mem_cons.mp ((h k).2 (List.mem_cons_of_mem _ hk)) with e | e
      · have := hb.1 k hk; omega
      · exact e
/-! ### heaps -/
/-- all but b stays -/
def But (b : Addr) (H H' : Hp) : Prop := ∀ c o, H c = some o → c ≠ b → H' c = some o
theorem But.refl (b : Addr) (H : Hp) : But b H H := fun _ _ h _ => h
theorem But.trans {b : Addr} {H H1 H2 : Hp} (x : But b H H1) (y : But b H1 H2) : But b H H2 := fun c o h n => y c o (x c o h n) n
theorem but_of {b : Addr} {H H' : Hp} (x : Same H H') : But b H H' := fun c o h _ => x c o h
theorem same_new {H : Hp} {p : Addr} (h : H p = none) (o : HO) : Same H (upd H p o) := fun b u q => by rw [upd_ne (ne_of_none q h)]; exact q
theorem but_upd {H : Hp} {b : Addr} (o : HO) : But b H (upd H b o) := fun c u h n => by rw [upd_ne n]; exact h
/-- the box of draws: j bounds how often it was drawn from -/
structure BoxAt (H : Hp) (b : Addr) (j : Nat) : Prop where
  ex : ∃ x y z : Int, H b = some (.lst [.int x, .int y, .int z]) ∧ 0 ≤ x ∧ 0 ≤ y ∧ y < 10000000000 ∧ 0 ≤ z ∧ z ≤ (j : Int)
theorem BoxAt.same {H H' : Hp} {b : Addr} {j : Nat} (B : BoxAt H b j) (e : Same H H') : BoxAt H' b j := by
  obtain ⟨x, y, z, h, r⟩ := B.ex
  exact ⟨x, y, z, e _ _ h, r⟩
theorem BoxAt.more {H : Hp} {b : Addr} {j k : Nat} (B : BoxAt H b j) (h : j ≤ k) : BoxAt H b k := by
  obtain ⟨x, y, z, e, h1, h2, h3, h4, h5⟩ := B.ex
  exact ⟨x, y, z, e, h1, h2, h3, h4, by omega⟩
theorem BoxAt.some {H : Hp} {b : Addr} {j : Nat} (B : BoxAt H b j) : ∃ xs, H b = some (.lst xs) := by
  obtain ⟨x, y, z, e, _⟩ := B.ex
  exact ⟨_, e⟩
/-- a TERM stands as the value v -/
inductive TmAt (H : Hp) : V → Tm → Prop where
  | v (n : Int) : TmAt H (.int n) (.v n)
  | z {a : Addr} (h : H a = some (.tup [.str "0"])) : TmAt H (.ref a) .z
  | s {a : Addr} {x : V} {t : Tm} (h : H a = some (.tup [.str "s", x])) (q : TmAt H x t) : TmAt H (.ref a) (.s t)
  | f {a : Addr} {x y : V} {l r : Tm} (h : H a = some (.tup [.str "f", x, y])) (q : TmAt H x l) (q' : TmAt H y r) : TmAt H (.ref a) (.f l r)
theorem TmAt.mono {H H' : Hp} (e : ∀ a xs, H a = some (.tup xs) → H' a = some (.tup xs)) {v : V} {t : Tm} (h : TmAt H v t) : TmAt H' v t := by
  induction h with
  | v n => exact .v n
  | z h => exact .z (e _ _ h)
  | s h _ ih => exact .s (e _ _ h) ih
  | f h _ _ ih ih' => exact .f (e _ _ h) ih ih'
theorem TmAt.same {H H' : Hp} (e : Same H H') {v : V} {t : Tm} (h : TmAt H v t) : TmAt H' v t := h.mono fun a xs q => e a _ q
theorem TmAt.but {H H' : Hp} {b : Addr} {ys : List V} (e : But b H H') (hb : H b = some (.lst ys)) {v : V} {t : Tm} (h : TmAt H v t) : TmAt H' v t :=
  h.mono fun a xs q => e a _ q (ne_of q hb (by intro z; cases z))
/-! ### what is alike, kind by kind (to a depth) -/
def Plain : V → Prop
  | .non => True
  | .bl _ => True
  | .int _ => True
  | .str _ => True
  | _ => False
def Alike (H : Hp) : Nat → V → V → Prop
  | 0, x, y => Plain x ∧ x = y
  | n + 1, x, y => (Plain x ∧ x = y) ∨ ∃ a b xs ys, x = .ref a ∧ y = .ref b ∧ ((H a = some (.lst xs) ∧ H b = some (.lst ys)) ∨ (H a = some (.tup xs) ∧ H b = some (.tup ys))) ∧
      xs.length = ys.length ∧ xs.length ≤ 1000000 ∧ ∀ (i : Nat) (u v : V), xs[i]? = some u → ys[i]? = some v → Alike H n u v
theorem Alike.mono {H H' : Hp} (e : Same H H') : ∀ (n : Nat) {x y : V}, Alike H n x y → Alike H' n x y
  | 0, _, _, h => by unfold Alike at h ⊢; exact h
  | n + 1, x, y, h => by
    unfold Alike at h ⊢
    rcases h with h | ⟨a, b, xs, ys, h1, h2, h3, h4, h5, h6⟩
    · exact .inl h
    · exact .inr ⟨a, b, xs, ys, h1, h2, h3.imp (fun q => ⟨e _ _ q.1, e _ _ q.2⟩) (fun q => ⟨e _ _ q.1, e _ _ q.2⟩), h4, h5, fun i u v p q => Alike.mono e n (h6 i u v p q)⟩
theorem alike_ints {H : Hp} {n : Nat} {a b : Addr} {ns : List Int} (ha : H a = some (.lst (ns.map V.int))) (hb : H b = some (.lst (ns.map V.int))) (hl : ns.length ≤ 1000000) : Alike H (n + 1) (.ref a) (.ref b) := by
  unfold Alike
  refine .inr ⟨a, b, _, _, rfl, rfl, .inl ⟨ha, hb⟩, rfl, by rw [List.length_map]; exact hl, fun i u v h1 h2 => ?_⟩
  have e : u = v := Option.some.inj (h1.symm.trans h2)
  subst e
  rw [List.getElem?_map] at h1
  cases q : ns[i]? with
  | none => rw [q] at h1; cases h1
  | some k =>
    rw [q] at h1
    cases h1
    cases n with
    | zero => unfold Alike; exact ⟨trivial, rfl⟩
    | succ n => unfold Alike; exact .inl ⟨trivial, rfl⟩
end Rp

/-! Defs whose body asks for the repr of lists and tuples: their promise is kept where no repr is at work (the around's guards are told to be none), and so where the law itself is called. -/
namespace Rp
open PySem PySem.Spec PyProof.Rows L2
structure GnOk (P : Program) (w : World) (K : PySem.W.Frag) (mg : Str → Option Value) (base : Heap) (k : Nat) (f : Addr) (fd : FuncData) (ps : List Str) (sp : Sp) : Prop where
  len : ∀ vs H Q E, sp vs H Q E → vs.length = ps.length
  run : ∀ (A : Around) (outer : List Env) (s : Shared) (H : Hp) (args : Args) (us : List Value) (vs : List V) (Q : VK) (E : XK), A.guards = some [] → Room k A → Env0 P w K mg base A outer s H → BindsTo s fd args (ps.zip us) → Vals vs us → sp vs H Q E →
    codeAny (model P w) A (.call (.ref f) args) (CR CX0 outer P w H s Q E) s
section
variable {P : Program} {w : World} {K : PySem.W.Frag} {mg : Str → Option Value} {base : Heap}
/-- a def by its body, the guards told -/
theorem gok {x qual : Str} {st : Stmt} {f : Addr} {fd : FuncData} {N ps : List Str} {k : Nat} {sp : Sp} (F : Fun K x qual st f fd) (S : FnScope N ps (defScope st)) (len : ∀ vs H Q E, sp vs H Q E → vs.length = ps.length)
    (walk : ∀ (cdv : Value) (A : Around) (outer : List Env) (s : Shared) (H : Hp) (vs : List V) (Q : VK) (E : XK), A.guards = some [] → Room k (A.deeper (envOfC qual (defScope st) s.heap.objs.size f cdv)) → sp vs H Q E →
      ∃ t, PSs (cxOf CX0 P w K mg base N qual (defScope st) f cdv A outer s H E).nox (defBody st) t ∧ t { nx := fun _ H' => Q .non H', rt := Q } (start N vs) H) : GnOk P w K mg base (k + 1) f fd ps sp := by
  obtain ⟨oc, od, kV, doc, pm, an, cdv, ct, osl, rfl, lk, hcd⟩ := F.ex
  refine ⟨len, fun A outer s H args us vs Q E hg hr e0 hb r hsp => ?_⟩
  have K0 : K.In s.heap := e0.mod.kin.keeps fun b o e => (e0.bs b o e).1
  have L0 : s.heap.NoLimit := e0.mod.nolimit.keeps fun b o e => (e0.bs b o e).1
  have each : ∀ y ∈ ps.zip us, (defScope st).names.lookup y.1 = some .local ∨ ((defScope st).names.lookup y.1 = some .cell ∧ ((cellsFrom (s.heap.objs.size + 1) (defScope st).names []).lookup y.1).isSome = true) := by
    rintro ⟨n, v⟩ hy
    exact (S.par n (List.of_mem_zip hy).1).imp id fun q => ⟨q, PySem.W.cellsFrom_some _ _ _ (.inl q)⟩
  refine codeAny_call_function hr.depth (K0 _ _ lk) rfl S.co S.gen rfl (PySem.W.codeRec_of K0 hcd) (hb _ _ _ _ (wpAny_newFunctionEnv_cells S.kind each fun env he s1 z => ?_))
  subst he
  refine ⟨L0.keeps z.toInCall.keep, codeAny_func ?_⟩
  obtain ⟨t, ht, hq⟩ := walk cdv A outer s H vs Q E hg (hr.deeper _) hsp
  have I : L2.Inv (cxOf CX0 P w K mg base N qual (defScope st) f cdv A outer s H E) [] (start N vs) H s1 := inv_start S hr.hd e0 (len _ _ _ _ hsp) r z
  refine wpAny_mono (ht.nox.run [] s1 (start N vs) H _ I hq) (fun fl s' hs => ?_) fun e s' hs => hs
  rcases fl with _ | _ | _ | u
  · obtain ⟨_, H', J, q⟩ := hs
    exact ⟨V.non, H', J.os, J.bare, J.base, J.hok, rfl, q⟩
  · exact hs.choose_spec.choose_spec.2.elim
  · exact hs.choose_spec.choose_spec.2.elim
  · obtain ⟨v, _, H', J, rv, q⟩ := hs
    exact ⟨v, H', J.os, J.bare, J.base, J.hok, rv, q⟩
end
section
variable {X : Cx} {k : Nat} {f : Addr} {fd : FuncData} {ps : List Str} {sp : Sp} {E : XK} {x : Str} {p pos : Pos} {e : Expr} {es : List Expr} {t : TA}
theorem pe_callG (F : GnOk X.prog X.w X.K X.mg X.base k f fd ps sp) (hgd : X.A.guards = some []) (hr : Room k X.A) (hg : Gl X x) (hm : X.mg x = some (.ref f)) (hk : PySem.W.keepIn X.K (.ref f) = true) (hb : Binds X.K fd ps []) (ha : PA X (e :: es) t)
    (hdb : (x == ("__debug__" : Str)) = false := by decide) (he : starEach (e :: es) X.env = (false, eval e X.env) :: starEach es X.env := by rfl) (hpl : (backTo pos (starEach es X.env)).any (·.1) = false := by rfl) :
    PE X (.Call (.Name x p) (e :: es) [] pos) (tCall sp [] E0 t) := by
  refine ⟨fun pins s σ H Q I h => wpAny_Call_Name_kw (ld_glob I hg hm ?_ hdb)⟩
  refine PySem.W.callWith_K (h₀ := X.base) I.ok.mod.kin hk (thn (ha.run pos pins s σ H _ I h) fun us s1 ⟨vs, H1, I1, r, q⟩ => ⟨I1.kIn, ?_⟩) he hpl
  have q : sp vs H1 Q E0 := by
    have z : sp (vs ++ []) H1 Q E0 := q
    rwa [List.append_nil] at z
  have hl : us.length = ps.length := r.length.symm.trans (F.len _ _ _ _ q)
  have hb' := hb s1 us I1.kIn (by rw [List.append_nil]; exact hl)
  rw [List.append_nil] at hb'
  refine wpAny_call (codeAny_mono (F.run X.A X.stack s1 H1 ⟨us, []⟩ us vs Q E0 hgd hr I1.env0 hb' r q) fun r' s' hq => ?_)
  rcases r' with e' | fl
  · exact hq.elim
  · rcases fl with _ | _ | _ | u
    · exact hq.elim
    · exact hq.elim
    · exact hq.elim
    · exact I1.after hq
/-- repr(v), v data at any depth -/
def rReprD (K : PySem.W.Frag) : List V → Hp → VK → Prop := fun vs H Q => ∃ (v : V) (d : PyData), vs = [v] ∧ Dp K H v d ∧ d.showable = true ∧ d.hasDict = false ∧ d.depth ≤ 64 ∧ d.shown.length ≤ sizeLine ∧ Q (.str d.shown) H
theorem cr_reprD (hgd : X.A.guards = some []) (hu : X.A.units + 66 < cLine) : CallR X (.builtin "repr") (rReprD X.K) := by
  intro pins s σ H vs us Q I r h
  obtain ⟨v, d, rfl, hd, sh, nd, dp, sz, q⟩ := h
  obtain ⟨u, rfl, ru⟩ := vals1 r
  obtain ⟨as, rd⟩ := Dp.reads I d v u hd ru
  cases hd with
  | non => cases ru; exact PySem.P.repr_of_none ⟨.str "None", H, I.tok _, ⟨_, rfl⟩, by simpa [PyData.shown] using q⟩
  | bl b => cases ru; exact PySem.P.repr_of_bool ⟨.str (if b then "True" else "False"), H, I.tok _, ⟨_, rfl⟩, by simpa [PyData.shown] using q⟩
  | int i =>
    obtain ⟨t, rfl⟩ := ru
    exact PySem.P.repr_of_int (by simpa [PyData.showable] using sh) ⟨.str (toString i), H, I.tok _, ⟨_, rfl⟩, by simpa [PyData.shown] using q⟩
  | str x =>
    obtain ⟨t, rfl⟩ := ru
    exact PySem.P.repr_of_str ⟨.str (reprText x), H, I.tok _, ⟨_, rfl⟩, by simpa [PyData.shown] using q⟩ (by simpa [PyData.shown] using sz)
  | lst a b =>
    cases ru
    exact PySem.repr_of_reads' rd sh (fun e => by rw [nd] at e; cases e) hgd (by omega) (fun _ _ e => e) (fun h' u tk k => ⟨.str _, H, I.kept (t' := tk) k, ⟨u, rfl⟩, q⟩) sz
  | tup a b =>
    cases ru
    exact PySem.repr_of_reads' rd sh (fun e => by rw [nd] at e; cases e) hgd (by omega) (fun _ _ e => e) (fun h' u tk k => ⟨.str _, H, I.kept (t' := tk) k, ⟨u, rfl⟩, q⟩) sz
end
/-- the law's own call, its promise with the guards told -/
theorem law_callG {P : Program} {w : World} {K : PySem.W.Frag} {mg mb : Str → Option Value} {k : Nat} {fa a : Addr} {fd : FuncData} {x : Str} {sp : Sp} {s₁ : Shared} {vs : List Value} {ns : List Int}
    (KX : K.In s₁.heap) (hns : s₁.heap.Ns mainGlobals mg) (hb : s₁.heap.Ns builtinsNs mb) (hbb : ∀ x : Str, x ≠ "__name__" → mb x = bootBuiltins x) (hlim : s₁.heap.NoLimit) (hg : s₁.gens = #[])
    (ha : s₁.heap.get? a = some { cls := .type "list", data := .seq vs.toArray }) (hi : IntsAre vs ns) (hl : ns.length ≤ sizeLine) (hr : Room k callerA)
    (F : ∀ base : Heap, K.In base → base.Ns mainGlobals mg → GnOk P w K mg base k fa fd [x] sp) (bind : ∀ (s : Shared) (u : Value), BindsTo s fd ⟨[u], []⟩ [(x, u)])
    (ask : ∀ H : Hp, Only H → SqL K H a (ns.map V.int) → sp [.ref a] H (fun v _ => v = .bl true) E0) :
    codeAny (model P w) callerA (.call (.ref fa) ⟨[.ref a], []⟩) (fun r s' => r = .ok (.ret (.bool true)) ∧ OldK s₁.heap s'.heap ∧ s'.os = s₁.os ∧ AllBare s'.gens) s₁ := by
  have rv := vals_ints hi
  have lenV := hi.length
  have from_ : ∀ H : Hp, Only H → SqL K H a (ns.map V.int) → HOk P w H s₁.heap → (∀ b, H b ≠ none → b = a ∧ K.lookup a = none) →
      codeAny (model P w) callerA (.call (.ref fa) ⟨[.ref a], []⟩) (fun r s' => r = .ok (.ret (.bool true)) ∧ OldK s₁.heap s'.heap ∧ s'.os = s₁.os ∧ AllBare s'.gens) s₁ := by
    intro H only hS hok hA
    have free : ∀ {b : Addr} {o : Obj}, s₁.heap.get? b = some o → (b = a → False) → H b = none := fun {b o} _ n => by
      cases q : H b with
      | none => rfl
      | some u => exact (n (hA b (by rw [q]; simp)).1).elim
    have low : ∀ {b : Addr} {o : Obj}, s₁.heap.get? b = some o → H b = none → (hidT s₁.heap H).get? b = some o := fun e n => hidT_get e n
    have names : ∀ {b : Addr} {m : Str → Option Value}, s₁.heap.Ns b m → (hidT s₁.heap H).Ns b m := fun {b m} ⟨o, es, ep, e, d, r⟩ =>
      ⟨o, es, ep, low e (free e fun z => by subst z; rw [ha] at e; cases e; cases d), d, r⟩
    have hK : K.In (hidT s₁.heap H) := fun b o e => low (KX b o e) (by
      cases q : H b with
      | none => rfl
      | some u =>
        obtain ⟨z, zk⟩ := hA b (by rw [q]; simp)
        subst z
        rw [zk] at e; cases e)
    have M : Mod K mg (hidT s₁.heap H) := ⟨hK, names hns, ⟨mb, names hb, hbb⟩, let ⟨mc, h1, h2⟩ := hlim; ⟨mc, names h1, h2⟩⟩
    have e0 : Env0 P w K mg (hidT s₁.heap H) callerA [] s₁ H := ⟨rfl, M, fun b o e => of_hidT e, Nat.le_of_eq (hidT_size _ _), trivial, fun b z => absurd (show b ∈ ([] : List Addr) from z) (by simp), hok, .of_eq hg⟩
    refine codeAny_mono ((F _ hK (names hns)).run callerA [] s₁ H ⟨[.ref a], []⟩ [.ref a] [.ref a] _ _ rfl hr e0 (bind s₁ (.ref a)) (.cons rfl .nil) (ask H only hS)) fun r s' h => ?_
    rcases r with e | fl
    · exact h.elim
    · rcases fl with _ | _ | _ | u
      · exact h.elim
      · exact h.elim
      · exact h.elim
      · obtain ⟨v, H', os, bare, un, hok', r', q⟩ := h
        obtain rfl : v = .bl true := q
        obtain rfl : u = Value.bool true := r'
        refine ⟨rfl, OldK.of_keep fun b o e => ?_, os, bare⟩
        cases q : H b with
        | none => exact un.keep b o e q (by intro z; exact absurd (show b ∈ ([] : List Addr) from z) (by simp)) (by simp)
        | some u =>
          rcases only b with z | ⟨ob, xs, z⟩
          · rw [q] at z; cases z
          · obtain ⟨e1, _⟩ := hok b _ z
            obtain ⟨e2, _⟩ := hok' b _ (un.frzs b ob _ z)
            rw [e] at e1; cases e1
            exact e2
  cases hk : K.lookup a with
  | some o =>
    have e := KX a o hk
    rw [ha] at e
    cases e
    exact from_ (fun _ => none) (fun _ => .inl rfl) (.inr ⟨_, vs.toArray, _, hk, rfl, rfl, rfl, by rw [List.size_toArray, lenV]; exact hl, by simpa using rv⟩) (fun b u z => nomatch (show (none : Option HO) = some u from z)) fun b z => absurd rfl z
  | none =>
    have at_ : ∀ b, (fun b => if b = a then some (HO.frz { cls := .type "list", data := .seq vs.toArray } (.lst (ns.map V.int))) else none) b ≠ none → b = a := fun b z => by
      by_cases hb : b = a
      · exact hb
      · exact absurd (if_neg hb) z
    refine from_ _ (fun b => ?_) (.inl (.inr ⟨_, if_pos rfl⟩)) (fun b u z => ?_) fun b z => ⟨at_ b z, hk⟩
    · by_cases hb : b = a
      · exact .inr ⟨_, _, if_pos hb⟩
      · exact .inl (if_neg hb)
    · have hb := at_ b (fun e => by have y := z.symm.trans e; cases y)
      subst hb
      have z' := (if_pos rfl).symm.trans z
      cases z'
      exact ⟨ha, by rw [List.length_map]; exact hl, vs, _, rv, ha⟩
theorem walk_ofG {l : PySem.W.OpenLaw} {n k : Nat} {q : Program} {loose : List Str} {XP : (Str → Option Value) → Heap → Prop} {YP : World → Heap → Prop} {d : DefRec} {K : Params → PySem.W.Frag} {sp : PySem.W.Frag → Sp} {x : Str}
    (hn : l.most = some n) (hn2 : n ≤ sizeLine) (hdf : d.params.defaults = []) (hr : Room k callerA) (hY : ∀ (w : World) (h : Heap), YP w h → (K w.params).In h)
    (F : ∀ (w : World) (mg : Str → Option Value) (fa : Addr) (h : Heap), (K w.params).In h → h.Ns mainGlobals mg → mg d.name = some (.ref fa) →
      ∃ fd : FuncData, (∀ (s : Shared) (u : Value), BindsTo s fd ⟨[u], []⟩ [(x, u)]) ∧ ∀ base : Heap, (K w.params).In base → base.Ns mainGlobals mg → GnOk l.prog w (K w.params) mg base k fa fd [x] (sp (K w.params)))
    (ask : ∀ (K : PySem.W.Frag) (H : Hp) (a : Addr) (ns : List Int), ns.length ≤ n → Only H → SqL K H a (ns.map V.int) → sp K [.ref a] H (fun v _ => v = .bl true) E0) :
    PySem.W.WalkO q loose XP YP l.row.toRowW d [] (fun f vs => PySem.call f vs) := by
  refine Att.attach_call hn hdf fun w s₀ s₁ mg mb fa o pm cd doc a vs ns G Y ho hd hcd hmg hobj hints hlen hg => ?_
  obtain ⟨fd, hb, hF⟩ := F w mg fa _ (hY w _ Y) G.T.g hmg
  exact law_callG (hY w _ Y) G.T.g G.T.b G.T.builtins G.T.nolimit hg hobj hints (Nat.le_trans hlen hn2) hr hF hb fun H hO hS => ask _ H a ns hlen hO hS
end Rp

namespace Rp
open PySem L2
def top (i : Nat) : Stmt := PySem.Challenge.pw_ringproofs_k08_terms_by_names_and_great.main.body.getD i (.Pass ⟨0, 0, 0, 0⟩)
abbrev sNumber : Stmt := top 4
abbrev sVariable : Stmt := top 5
abbrev sShape : Stmt := top 6
abbrev sTerm : Stmt := top 7
abbrev sParts : Stmt := top 8
abbrev sInside : Stmt := top 9
abbrev sFold : Stmt := top 10
abbrev sVars : Stmt := top 11
abbrev sSize : Stmt := top 12
abbrev sClosed : Stmt := top 13
abbrev sIsPair : Stmt := top 14
abbrev sIsBinding : Stmt := top 15
abbrev sPut : Stmt := top 16
abbrev sTextOf : Stmt := top 22
abbrev sTermText : Stmt := top 23
abbrev sNumberOf : Stmt := top 24
abbrev sFromSigns : Stmt := top 25
abbrev sTermOrNone : Stmt := top 26
abbrev sTermIn : Stmt := top 27
abbrev sBindingText : Stmt := top 28
abbrev sPairIn : Stmt := top 29
abbrev sBindingOrNone : Stmt := top 30
abbrev sBindingIn : Stmt := top 31
abbrev sOfSize : Stmt := top 33
abbrev sTrees : Stmt := top 34
abbrev sBox : Stmt := top 36
abbrev sTake : Stmt := top 37
abbrev sPick : Stmt := top 38
abbrev sSame : Stmt := top 39
abbrev sTree : Stmt := top 40
abbrev sText : Stmt := top 41
abbrev sLeaves : Stmt := top 42
abbrev sPutL : Stmt := top 43
abbrev sLawBT : Stmt := top 44
abbrev sTall : Stmt := top 45
abbrev sRight : Stmt := top 46
abbrev sLaw : Stmt := top 47
end Rp

namespace Rp
open PySem L2
/-! ### promises -/
def spBox (K : PySem.W.Frag) : Sp := fun vs H Q _ => ∃ (a : Addr) (ns : List Int) (k : Int), vs = [.ref a, .int k] ∧ SqL K H a (ns.map V.int) ∧ ns.length ≤ 63 ∧ 0 ≤ k ∧ k ≤ 63 ∧
  ∀ (b : Addr) (H' : Hp), H b = none → BoxAt H' b 0 → Same H H' → Q (.ref b) H'
def spTake : Sp := fun vs H Q _ => ∃ (b : Addr) (c : Int) (j : Nat), vs = [.ref b, .int c] ∧ BoxAt H b j ∧ j ≤ 1000000 ∧ 1 ≤ c ∧ c ≤ 1000000 ∧
  ∀ (r : Int) (H' : Hp), 0 ≤ r → r < c → BoxAt H' b (j + 1) → But b H H' → Q (.int r) H'
def spPick : Sp := fun vs H Q _ => ∃ (b p : Addr) (xs : List V) (j : Nat), vs = [.ref b, .ref p] ∧ BoxAt H b j ∧ j ≤ 1000000 ∧ H p = some (.lst xs) ∧ p ≠ b ∧ 1 ≤ xs.length ∧ xs.length ≤ 1000000 ∧
  ∀ (v : V) (H' : Hp), v ∈ xs → BoxAt H' b (j + 1) → But b H H' → Q v H'
section
variable {P : Program} {w : World} {K : PySem.W.Frag} {mg : Str → Option Value} {base : Heap}
theorem fmod_pos {a c : Int} (h : 0 < c) : 0 ≤ a.fmod c ∧ a.fmod c < c := by
  rw [Int.fmod_eq_emod_of_nonneg a (Int.le_of_lt h)]
  exact ⟨Int.emod_nonneg a (by omega), Int.emod_lt_of_pos a h⟩
theorem fdiv_pos {a c : Int} (h : 0 < c) (ha : 0 ≤ a) : 0 ≤ a.fdiv c := by
  rw [Int.fdiv_eq_ediv_of_nonneg a (Int.le_of_lt h)]
  exact Int.ediv_nonneg ha (Int.le_of_lt h)
theorem scBox : FnScope ["_law_script", "_law_k", "_law_cell"] ["_law_script", "_law_k"] (defScope sBox) := ⟨rfl, rfl, rfl, by decide +kernel, rfl, by decide +kernel, by decide +kernel⟩
theorem ok_box {f : Addr} {fd : FuncData} (F : Fun K "_law_box" "_law_box" sBox f fd) (mLen : mg "len" = none) (mAbs : mg "abs" = none) (mInt : mg "int" = none) :
    FnOk P w K mg base CX0 1 f fd ["_law_script", "_law_k"] (spBox K) := by
  refine F.ok scBox (fun vs H Q E h => ?_) (fun cdv A outer s H vs Q E hr h => ?_)
  · obtain ⟨a, ns, k, rfl, _⟩ := h
    rfl
  obtain ⟨a, ns, k, rfl, hS, hl, h0, h1, q⟩ := h
  refine ⟨_, pss_cons (ps_set (i := 2) scBox.nd rfl (Or.inl rfl) pe_int)
    (pss_cons (ps_if (pt_cmpR op_lt (pv 1) (pe_callB call_len_seq (by rfl) mLen PySem.boot_len (pa_cons (pv 0) pa_nil)) (nomark _))
      (pss_one (ps_set (i := 2) scBox.nd rfl (Or.inl rfl) (pe_ix ix_list (pv 0) (pv 1) (fun _ _ => rfl)))) pss_nil)
    (pss_one (ps_ret (pe_lst (pa_cons
      (pe_op op_mul (pe_callB call_abs (by rfl) mAbs (by decide +kernel) (pa_cons (pv 2) pa_nil))
        (pe_callTy call_int1 (by rfl) mInt (by decide +kernel) (pa_cons (pe_cmpR op_ge (pe_callB call_abs (by rfl) mAbs (by decide +kernel) (pa_cons (pv 2) pa_nil)) (pe_op op_pow pe_int pe_int) (nomark _)) pa_nil)))
      (pa_cons (pe_op op_add (pe_op op_add (pe_op op_modN (pv 2) pe_int) (pe_op op_mul pe_int (pv 1))) pe_int) (pa_cons pe_int pa_nil))))))), ?_⟩
  refine ⟨_, rfl, _, rfl, a, _, rfl, .inl hS, _, _, rfl, rfl, _, rfl, ?_⟩
  have two : ∀ (b : Bool), -(2 ^ 64) < (if b = true then (1 : Int) else 0) ∧ (if b = true then (1 : Int) else 0) < 2 ^ 64 ∧ 0 ≤ (if b = true then (1 : Int) else 0) := by decide
  have pos : ∀ c : Int, 0 ≤ if c < 0 then -c else c := fun c => by split <;> omega
  have m := fun c : Int => fmod_pos (a := c) (c := 2147483629) (by decide)
  refine ite2 (fun c => ?_) (fun c => ?_)
  · have hk : k.toNat < ns.length := by
      have z : k < (((ns.map V.int).length : Nat) : Int) := of_decide_eq_true c
      rw [List.length_map] at z
      omega
    have it : atI (ns.map V.int) k = some (.int ns[k.toNat]) := at_of (j := k.toNat) (by omega) (by rw [List.getElem?_map, List.getElem?_eq_getElem hk]; rfl)
    refine ⟨_, rfl, _, rfl, a, _, _, _, rfl, rfl, hS, it, ?_⟩
    refine ⟨_, rfl, _, rfl, _, rfl, _, rfl, _, _, rfl, rfl, ⟨by decide, by decide, by decide⟩, _, _, rfl, rfl, .inr ⟨_, rfl, ?_⟩⟩
    refine ⟨_, _, rfl, rfl, .inr ⟨(two _).1, (two _).2.1⟩, _, rfl, _, _, rfl, rfl, (fun h => absurd h (by decide)), _, rfl, _, _, rfl, rfl, .inl ⟨by decide, by decide⟩, _, _, rfl, rfl, _, _, rfl, rfl, (by show 3 ≤ sizeLine; decide), fun b hb => ?_⟩
    have mm := m ns[k.toNat]
    exact q b _ hb ⟨_, _, _, upd_same, Int.mul_nonneg (pos _) (two _).2.2, by omega, by omega, by decide, by decide⟩ (same_new hb _)
  · refine ⟨_, rfl, _, rfl, _, rfl, _, rfl, _, _, rfl, rfl, ⟨by decide, by decide, by decide⟩, _, _, rfl, rfl, .inr ⟨_, rfl, ?_⟩⟩
    refine ⟨_, _, rfl, rfl, .inr ⟨(two _).1, (two _).2.1⟩, _, rfl, _, _, rfl, rfl, (fun h => absurd h (by decide)), _, rfl, _, _, rfl, rfl, .inl ⟨by decide, by decide⟩, _, _, rfl, rfl, _, _, rfl, rfl, (by show 3 ≤ sizeLine; decide), fun b hb => ?_⟩
    have mm := m 0
    exact q b _ hb ⟨_, _, _, upd_same, Int.mul_nonneg (pos _) (two _).2.2, by omega, by omega, by decide, by decide⟩ (same_new hb _)
theorem scTake : FnScope ["_law_box_here", "_law_count", "_law_found", "_law_once"] ["_law_box_here", "_law_count"] (defScope sTake) := ⟨rfl, rfl, rfl, by decide +kernel, rfl, by decide +kernel, by decide +kernel⟩
theorem ok_take {f : Addr} {fd : FuncData} (F : Fun K "_law_take" "_law_take" sTake f fd) : FnOk P w K mg base CX0 1 f fd ["_law_box_here", "_law_count"] spTake := by
  refine F.ok scTake (fun vs H Q E h => ?_) (fun cdv A outer s H vs Q E hr h => ?_)
  · obtain ⟨b, c, j, rfl, _⟩ := h
    rfl
  obtain ⟨b, c, j, rfl, B, hj, h1, h2, q⟩ := h
  obtain ⟨x, y, z, hb, x0, y0, y1, z0, z1⟩ := id B
  have s0 : SqL K H b [.int x, .int y, .int z] := .inl (.inl hb)
  have a0 : ∀ u v t : Int, atI [V.int u, .int v, .int t] 0 = some (.int u) := fun u v t => at_of (j := 0) rfl rfl
  have a1 : ∀ u v t : Int, atI [V.int u, .int v, .int t] 1 = some (.int v) := fun u v t => at_of (j := 1) rfl rfl
  have a2 : ∀ u v t : Int, atI [V.int u, .int v, .int t] 2 = some (.int t) := fun u v t => at_of (j := 2) rfl rfl
  refine ⟨_, pss_cons (ps_if (pt_cmpR op_gt (pe_ix ix_list (pv 0) pe_int (fun _ _ => rfl)) pe_int (nomark _))
      (pss_cons (ps_set (i := 2) scTake.nd rfl (Or.inl rfl) (pe_op op_modN (pe_ix ix_list (pv 0) pe_int (fun _ _ => rfl)) (pv 1)))
      (pss_cons (ps_asg (pe_op op_fdivN (pe_ix ix_list (pv 0) pe_int (fun _ _ => rfl)) (pv 1)) (pg_sub (pv 0) pe_int set_list))
      (pss_one (ps_ret (pv 2))))) pss_nil)
    (pss_cons (ps_asg (pe_op op_add (pe_ix ix_list (pv 0) pe_int (fun _ _ => rfl)) pe_int) (pg_sub (pv 0) pe_int set_list))
    (pss_cons (ps_set (i := 3) scTake.nd rfl (Or.inl rfl) (pe_op op_modN (pe_op op_pow (pe_op op_add (pe_ix ix_list (pv 0) pe_int (fun _ _ => rfl)) (pe_op op_mul pe_int (pe_ix ix_list (pv 0) pe_int (fun _ _ => rfl)))) pe_int) pe_int))
    (pss_one (ps_ret (pe_op op_modN (pe_op op_fdivN (pe_op op_modN (pe_op op_add (pe_op op_mul (pv 3) (pe_op op_add (pe_op op_modN (pv 3) pe_int) pe_int)) (pe_op op_mul (pe_ix ix_list (pv 0) pe_int (fun _ _ => rfl)) pe_int)) pe_int) pe_int) (pv 1)))))), ?_⟩
  refine ⟨_, rfl, b, _, _, _, rfl, rfl, s0, a0 _ _ _, _, _, rfl, rfl, _, rfl, ?_⟩
  refine ite2 (fun d => ?_) (fun d => ?_)
  · refine ⟨_, rfl, b, _, _, _, rfl, rfl, s0, a0 _ _ _, _, rfl, _, _, rfl, rfl, (by omega), ?_⟩
    refine ⟨_, rfl, b, _, _, _, rfl, rfl, s0, a0 _ _ _, _, rfl, _, _, rfl, rfl, ⟨by omega, by omega⟩, ?_⟩
    refine ⟨_, rfl, b, _, _, 0, rfl, rfl, hb, rfl, ?_⟩
    have m := fmod_pos (a := x) (c := c) (by omega)
    exact ⟨_, rfl, q _ _ m.1 m.2 ⟨_, _, _, upd_same, fdiv_pos (by omega) x0, y0, y1, z0, by omega⟩ (but_upd _)⟩
  · refine ⟨_, rfl, b, _, _, _, rfl, rfl, s0, a2 _ _ _, _, _, rfl, rfl, ?_⟩
    refine ⟨_, rfl, b, _, _, 2, rfl, rfl, hb, rfl, ?_⟩
    have hb' : (upd H b (.lst [.int x, .int y, .int (z + 1)])) b = some (.lst [.int x, .int y, .int (z + 1)]) := upd_same
    have s1 : SqL K (upd H b (.lst [.int x, .int y, .int (z + 1)])) b [.int x, .int y, .int (z + 1)] := .inl (.inl hb')
    refine ⟨_, rfl, b, _, _, _, rfl, rfl, s1, a1 _ _ _, _, rfl, b, _, _, _, rfl, rfl, s1, a2 _ _ _, _, _, rfl, rfl, .inl ⟨by decide, by decide⟩, _, _, rfl, rfl, _, _, rfl, rfl, ⟨by decide, by decide, by omega⟩, _, _, rfl, rfl, (fun h => absurd h (by decide)), ?_⟩
    generalize (y + 39373 * (z + 1)) ^ Int.toNat 5 = g
    have m := fmod_pos (a := g) (c := 2147483647) (by decide)
    refine ⟨_, rfl, _, rfl, _, _, rfl, rfl, (fun h => absurd h (by decide)), _, _, rfl, rfl, _, _, rfl, rfl, .inl ⟨by omega, by omega⟩, _, rfl, b, _, _, _, rfl, rfl, s1, a2 _ _ _, _, _, rfl, rfl, .inl ⟨by omega, by omega⟩, _, _, rfl, rfl, _, _, rfl, rfl, (fun h => absurd h (by decide)), _, _, rfl, rfl, ⟨by decide, by decide⟩, _, rfl, _, _, rfl, rfl, (by omega), ?_⟩
    generalize Int.fdiv _ _ = e
    have m2 := fmod_pos (a := e) (c := c) (by omega)
    exact q _ _ m2.1 m2.2 ⟨_, _, _, upd_same, x0, y0, y1, by omega, by omega⟩ (but_upd _)
theorem scPick : FnScope ["_law_box_here", "_law_things"] ["_law_box_here", "_law_things"] (defScope sPick) := ⟨rfl, rfl, rfl, by decide +kernel, rfl, by decide +kernel, by decide +kernel⟩
theorem ok_pick {f fT : Addr} {fd fdT : FuncData} (F : Fun K "_law_pick" "_law_pick" sPick f fd) (FT : Fun K "_law_take" "_law_take" sTake fT fdT) (bT : Binds K fdT ["_law_box_here", "_law_count"] []) (mT : mg "_law_take" = some (.ref fT)) (mLen : mg "len" = none) :
    FnOk P w K mg base CX0 2 f fd ["_law_box_here", "_law_things"] spPick := by
  have GT : FnOk P w K mg base CX0 1 fT fdT ["_law_box_here", "_law_count"] spTake := ok_take FT
  refine F.ok scPick (fun vs H Q E h => ?_) (fun cdv A outer s H vs Q E hr h => ?_)
  · obtain ⟨b, p, xs, j, rfl, _⟩ := h
    rfl
  obtain ⟨b, p, xs, j, rfl, B, hj, hp, ne, l1, l2, q⟩ := h
  refine ⟨_, pss_one (ps_ret (pe_ix ix_list (pv 1) (pe_call GT hr rfl mT FT.kp bT .nil pass0 (pa_cons (pv 0) (pa_cons (pe_callB call_len_seq (by rfl) mLen PySem.boot_len (pa_cons (pv 1) pa_nil)) pa_nil))) (fun _ _ => rfl))), ?_⟩
  refine ⟨_, rfl, _, rfl, _, rfl, p, _, rfl, .inl (.inl (.inl hp)), b, _, j, rfl, B, hj, by omega, by omega, fun r H' r0 r1 B' o => ?_⟩
  have hr' : r.toNat < xs.length := by omega
  refine ⟨p, _, _, _, rfl, rfl, .inl (.inl (o _ _ hp ne)), at_of (j := r.toNat) (v := xs[r.toNat]) (by omega) (List.getElem?_eq_getElem hr'), ?_⟩
  exact q _ _ (List.getElem_mem hr') B' o
end
end Rp

namespace Rp
open PySem L2
def spTree (n : Nat) : Sp := fun vs H Q _ => ∃ (b p : Addr) (ns : List Int) (j : Nat) (room : Int), vs = [.ref b, .int room, .ref p] ∧ BoxAt H b j ∧ j + room.toNat ≤ 1000000 ∧ H p = some (.lst (ns.map V.int)) ∧ p ≠ b ∧ ns.length ≤ 100 ∧ 1 ≤ room ∧ room ≤ (n : Int) ∧
  ∀ (v : V) (t : Tm) (H' : Hp), TmAt H' v t → t.size = room.toNat → (∀ m ∈ t.nums, m ∈ ns) → BoxAt H' b (j + room.toNat) → But b H H' → Q v H'
def spFresh : Sp := fun vs H Q _ => ∃ (b : Addr) (j : Nat), vs = [.ref b] ∧ BoxAt H b j ∧ j + 9 ≤ 1000000 ∧
  ∀ (p : Addr) (ns : List Int) (H' : Hp), H p = none → H' p = some (.lst (ns.map V.int)) → (∀ m ∈ ns, 0 ≤ m ∧ m ≤ 99) → ns.length ≤ 4 → BoxAt H' b (j + 9) → But b H H' → Q (.ref p) H'
def spLeaves (n : Nat) : Sp := fun vs H Q _ => ∃ (v : V) (t : Tm), vs = [v] ∧ TmAt H v t ∧ t.size ≤ 1000 ∧ t.deep < n ∧ ∀ (p : Addr) (H' : Hp), H p = none → H' p = some (.lst t.signs) → Same H H' → Q (.ref p) H'
section
variable {P : Program} {w : World} {K : PySem.W.Frag} {mg : Str → Option Value} {base : Heap}
theorem none_left {k : Nat} {f : Addr} {fd : FuncData} {ps : List Str} {sp : Sp} (no : ∀ vs H Q E, ¬ sp vs H Q E) : FnOk P w K mg base CX0 k f fd ps sp :=
  ⟨fun vs H Q E h => absurd h (no vs H Q E), fun A outer s H args us vs Q E _ _ _ _ h => absurd h (no vs H Q E)⟩
theorem v1_ne {x y : Int} (c : ¬ decide (V.int x = V.int y) = true) : x ≠ y := fun e => c (by rw [e]; simp)
theorem v1_eq {x y : Int} (c : decide (V.int x = V.int y) = true) : x = y := V.int.inj (of_decide_eq_true c)
theorem scTree : FnScope ["_law_box_here", "_law_room", "_law_fresh", "_law_left"] ["_law_box_here", "_law_room", "_law_fresh"] (defScope sTree) := ⟨rfl, rfl, rfl, by decide +kernel, rfl, by decide +kernel, by decide +kernel⟩
theorem ok_tree {n : Nat} {f fT fP : Addr} {fd fdT fdP : FuncData} (F : Fun K "_law_tree" "_law_tree" sTree f fd) (b3 : Binds K fd ["_law_box_here", "_law_room", "_law_fresh"] []) (mTree : mg "_law_tree" = some (.ref f))
    (G : FnOk P w K mg base CX0 (n + 2) f fd ["_law_box_here", "_law_room", "_law_fresh"] (spTree n))
    (FT : Fun K "_law_take" "_law_take" sTake fT fdT) (bT : Binds K fdT ["_law_box_here", "_law_count"] []) (mT : mg "_law_take" = some (.ref fT))
    (FP : Fun K "_law_pick" "_law_pick" sPick fP fdP) (bP : Binds K fdP ["_law_box_here", "_law_things"] []) (mP : mg "_law_pick" = some (.ref fP)) (mLen : mg "len" = none) (mList : mg "list" = none) :
    FnOk P w K mg base CX0 (n + 3) f fd ["_law_box_here", "_law_room", "_law_fresh"] (spTree (n + 1)) := by
  have GT : FnOk P w K mg base CX0 1 fT fdT ["_law_box_here", "_law_count"] spTake := ok_take FT
  have GP : FnOk P w K mg base CX0 2 fP fdP ["_law_box_here", "_law_things"] spPick := ok_pick FP FT bT mT mLen
  refine F.ok scTree (fun vs H Q E h => ?_) (fun cdv A outer s H vs Q E hr h => ?_)
  · obtain ⟨b, p, ns, j, room, rfl, _⟩ := h
    rfl
  obtain ⟨b, p, ns, j, room, rfl, B, hj, hp, pb, hl, r1, r2, q⟩ := h
  have hr1 : Room 1 _ := hr.mono (by omega)
  have hr2 : Room 2 _ := hr.mono (by omega)
  refine ⟨_, pss_cons (ps_if (pt_cmpR op_eq (pv 1) pe_int (nomark _)) (pss_one (ps_ret (pe_call GP hr2 rfl mP FP.kp bP .nil pass0
        (pa_cons (pv 0) (pa_cons (pe_op op_cat (pe_op op_rep (pe_callTy call_list_of (by rfl) mList (by decide +kernel) (pa_cons (pv 2) pa_nil)) pe_int) (pe_lst (pa_cons (pe_tup (pa_cons pe_str pa_nil)) pa_nil))) pa_nil))))) pss_nil)
    (pss_cons (ps_set (i := 3) scTree.nd rfl (Or.inl rfl) (pe_call GT hr1 rfl mT FT.kp bT .nil pass0 (pa_cons (pv 0) (pa_cons (pe_op op_sub (pv 1) pe_int) pa_nil))))
    (pss_cons (ps_if (pt_cmpR op_eq (pv 3) pe_int (nomark _)) (pss_one (ps_ret (pe_tup (pa_cons pe_str (pa_cons (pe_call G hr rfl mTree F.kp b3 .nil pass0 (pa_cons (pv 0) (pa_cons (pe_op op_sub (pv 1) pe_int) (pa_cons (pv 2) pa_nil)))) pa_nil))))) pss_nil)
    (pss_one (ps_ret (pe_tup (pa_cons pe_str (pa_cons (pe_call G hr rfl mTree F.kp b3 .nil pass0 (pa_cons (pv 0) (pa_cons (pv 3) (pa_cons (pv 2) pa_nil))))
      (pa_cons (pe_call G hr rfl mTree F.kp b3 .nil pass0 (pa_cons (pv 0) (pa_cons (pe_op op_sub (pe_op op_sub (pv 1) pe_int) (pv 3)) (pa_cons (pv 2) pa_nil)))) pa_nil)))))))), ?_⟩
  refine ⟨_, rfl, rfl, _, rfl, ?_⟩
  refine ite2 (fun c => ?_) (fun c => ?_)
  · -- a leaf
    have e1 : room = 1 := v1_eq c
    subst e1
    refine ⟨_, rfl, _, rfl, p, _, rfl, .inl (.inl (.inl hp)), fun l hl1 => ?_⟩
    refine ⟨l, _, _, rfl, rfl, upd_same, by decide, by decide, ?_, fun l2 hl2 => ?_⟩
    · rw [List.length_map]
      show ns.length * 2 ≤ sizeLine
      have : (1000 : Nat) ≤ sizeLine := by decide
      omega
    refine ⟨(by show 1 ≤ sizeLine; decide), fun t ht => ?_⟩
    refine ⟨(by show 1 ≤ sizeLine; decide), fun l3 hl3 => ?_⟩
    have z2 : upd (upd (upd H l (.lst (ns.map V.int))) l2 (.lst (List.replicate (Int.toNat 2) (ns.map V.int)).flatten)) t (.tup [.str "0"]) l2 = some (.lst (List.replicate (Int.toNat 2) (ns.map V.int)).flatten) := by
      rw [upd_ne (ne_of_none upd_same ht)]
      exact upd_same
    have ne3 : l2 ≠ l3 := ne_of_none z2 hl3
    refine ⟨l2, l3, _, _, rfl, rfl, by rw [upd_ne ne3]; exact z2, upd_same, ?_, fun l4 hl4 => ?_⟩
    · have : (1000 : Nat) ≤ sizeLine := by decide
      simp
      omega
    have s1 := same_new hl1 (.lst (ns.map V.int))
    have s2 := same_new hl2 (.lst (List.replicate (Int.toNat 2) (ns.map V.int)).flatten)
    have s3 := same_new ht (.tup [.str "0"])
    have s4 := same_new hl3 (.lst [.ref t])
    have s5 := same_new hl4 (.lst ((List.replicate (Int.toNat 2) (ns.map V.int)).flatten ++ [.ref t]))
    have sA : Same H _ := s1.trans (s2.trans (s3.trans (s4.trans s5)))
    obtain ⟨ys, hb⟩ := B.some
    refine ⟨b, l4, _, j, rfl, B.same sA, by omega, upd_same, ?_, by simp; omega, ?_, fun v H' hv B' o => ?_⟩
    · intro e
      subst e
      exact absurd ((s1.trans (s2.trans (s3.trans s4))) _ _ hb) (by rw [hl4]; intro z; cases z)
    · simp
      omega
    have hz := (s4.trans s5) _ _ (upd_same : upd (upd (upd H l (.lst (ns.map V.int))) l2 (.lst (List.replicate (Int.toNat 2) (ns.map V.int)).flatten)) t (.tup [.str "0"]) t = some (.tup [.str "0"]))
    rcases List.mem_append.mp hv with hv | hv
    · have hv' : v ∈ ns.map V.int := by
        rw [List.mem_flatten] at hv
        obtain ⟨l', h1, h2⟩ := hv
        rw [List.mem_replicate] at h1
        rw [← h1.2]
        exact h2
      obtain ⟨m, hm, rfl⟩ := List.mem_map.mp hv'
      exact q _ (.v m) H' (.v m) rfl (fun k hk => by simp [Tm.nums] at hk; subst hk; exact hm) B' ((but_of sA).trans o)
    · have ev : v = .ref t := by simpa using hv
      subst ev
      exact q _ .z H' (.z (o _ _ hz (ne_of hz (B.same sA).some.choose_spec (by intro z; cases z)))) rfl (fun k hk => by simp [Tm.nums] at hk) B' ((but_of sA).trans o)
  · have n1 : room ≠ 1 := v1_ne c
    refine ⟨_, rfl, _, rfl, _, _, rfl, rfl, b, _, j, rfl, B, by omega, by omega, by omega, fun left H1 l0 l1 B1 o1 => ?_⟩
    have hp1 := o1 _ _ hp pb
    refine ⟨_, rfl, rfl, _, rfl, ?_⟩
    refine ite2 (fun d => ?_) (fun d => ?_)
    · refine ⟨_, rfl, _, rfl, _, _, rfl, rfl, _, rfl, b, p, ns, j + 1, room - 1, rfl, B1, by omega, hp1, pb, hl, by omega, by omega, fun v t H2 T hs hm B2 o2 => ?_⟩
      refine ⟨(by show 2 ≤ sizeLine; decide), fun a ha => ?_⟩
      have sn := same_new ha (.tup [.str "s", v])
      refine q _ (.s t) _ (.s upd_same (T.same sn)) ?_ hm ((B2.same sn).more (by omega)) (o1.trans (o2.trans (but_of sn)))
      show t.size + 1 = _
      omega
    · have n2 : left ≠ 0 := v1_ne d
      refine ⟨_, rfl, _, rfl, _, rfl, b, p, ns, j + 1, left, rfl, B1, by omega, hp1, pb, hl, by omega, by omega, fun v t H2 T hs hm B2 o2 => ?_⟩
      refine ⟨_, rfl, _, rfl, _, _, rfl, rfl, _, rfl, _, _, rfl, rfl, _, rfl, b, p, ns, j + 1 + left.toNat, room - 1 - left, rfl, B2, by omega, o2 _ _ hp1 pb, pb, hl, by omega, by omega, fun v' t' H3 T' hs' hm' B3 o3 => ?_⟩
      refine ⟨(by show 3 ≤ sizeLine; decide), fun a ha => ?_⟩
      have sn := same_new ha (.tup [.str "f", v, v'])
      obtain ⟨ys, hb⟩ := B2.some
      refine q _ (.f t t') _ (.f upd_same ((T.but o3 hb).same sn) (T'.same sn)) ?_ ?_ ((B3.same sn).more (by omega)) (o1.trans (o2.trans (o3.trans (but_of sn))))
      · show t.size + t'.size + 1 = _
        omega
      · intro m h
        rcases List.mem_append.mp h with h | h
        · exact hm m h
        · exact hm' m h
theorem trees_ok {f fT fP : Addr} {fd fdT fdP : FuncData} (F : Fun K "_law_tree" "_law_tree" sTree f fd) (b3 : Binds K fd ["_law_box_here", "_law_room", "_law_fresh"] []) (mTree : mg "_law_tree" = some (.ref f))
    (FT : Fun K "_law_take" "_law_take" sTake fT fdT) (bT : Binds K fdT ["_law_box_here", "_law_count"] []) (mT : mg "_law_take" = some (.ref fT))
    (FP : Fun K "_law_pick" "_law_pick" sPick fP fdP) (bP : Binds K fdP ["_law_box_here", "_law_things"] []) (mP : mg "_law_pick" = some (.ref fP)) (mLen : mg "len" = none) (mList : mg "list" = none) :
    ∀ n : Nat, FnOk P w K mg base CX0 (n + 2) f fd ["_law_box_here", "_law_room", "_law_fresh"] (spTree n)
  | 0 => none_left fun vs H Q E h => by
    obtain ⟨b, p, ns, j, room, _, _, _, _, _, _, h1, h2, _⟩ := h
    omega
  | n + 1 => ok_tree F b3 mTree (trees_ok F b3 mTree FT bT mT FP bP mP mLen mList n) FT bT mT FP bP mP mLen mList
end
end Rp

namespace Rp
open PySem L2
section
variable {P : Program} {w : World} {K : PySem.W.Frag} {mg : Str → Option Value} {base : Heap}
theorem big1000 : (1000 : Nat) ≤ sizeLine := by decide
end
end Rp

namespace Rp
open PySem L2
/-- the value of a TERM is an int or a tuple that stands -/
theorem TmAt.ty {K : PySem.W.Frag} {H : Hp} {v : V} {t : Tm} (h : TmAt H v t) : (∃ n, v = .int n ∧ t = .v n) ∨ (∃ a xs, v = .ref a ∧ H a = some (.tup xs) ∧ TyX K H v (.type "tuple") ∧ (∀ n, t ≠ .v n)) := by
  cases h with
  | v n => exact .inl ⟨n, rfl, rfl⟩
  | z h => exact .inr ⟨_, _, rfl, h, .base (.tup h), fun n e => by cases e⟩
  | s h _ => exact .inr ⟨_, _, rfl, h, .base (.tup h), fun n e => by cases e⟩
  | f h _ _ => exact .inr ⟨_, _, rfl, h, .base (.tup h), fun n e => by cases e⟩
def signHead : Tm → Str
  | .v _ => "" | .z => "0" | .s _ => "s" | .f _ _ => "f"
/-- a TERM that is no variable: its tuple, its parts -/
theorem TmAt.tupled {H : Hp} {v : V} {t : Tm} (h : TmAt H v t) (no : ∀ n, t ≠ .v n) : ∃ a ks, v = .ref a ∧ H a = some (.tup (.str (signHead t) :: ks)) ∧ ks.length = t.kids.length ∧ ∀ (i : Nat) (x : V) (k : Tm), ks[i]? = some x → t.kids[i]? = some k → TmAt H x k := by
  cases h with
  | v n => exact absurd rfl (no n)
  | z h => exact ⟨_, [], rfl, h, rfl, fun i x k h => by simp at h⟩
  | @s a x t h q =>
    refine ⟨_, [x], rfl, h, rfl, fun i y k h1 h2 => ?_⟩
    cases i with
    | zero => simp [Tm.kids] at h1 h2; subst h1 h2; exact q
    | succ i => simp at h1
  | @f a x y l r h q q' =>
    refine ⟨_, [x, y], rfl, h, rfl, fun i u k h1 h2 => ?_⟩
    match i with
    | 0 => simp [Tm.kids] at h1 h2; subst h1 h2; exact q
    | 1 => simp [Tm.kids] at h1 h2; subst h1 h2; exact q'
    | i + 2 => simp at h1
theorem signs_kids : ∀ {t : Tm}, (∀ n, t ≠ .v n) → t.signs = .str (signHead t) :: t.kids.flatMap Tm.signs
  | .v n, h => absurd rfl (h n)
  | .z, _ => rfl
  | .s t, _ => by simp [Tm.signs, Tm.kids, signHead]
  | .f l r, _ => by simp [Tm.signs, Tm.kids, signHead]
theorem kid_deep {t k : Tm} (h : k ∈ t.kids) : k.deep < t.deep := by
  cases t with
  | v n => simp [Tm.kids] at h
  | z => simp [Tm.kids] at h
  | s t => simp [Tm.kids] at h; subst h; exact Nat.lt_succ_self _
  | f l r =>
    simp [Tm.kids] at h
    rcases h with h | h <;> subst h <;> (simp only [Tm.deep]; omega)
theorem kid_size {t k : Tm} (h : k ∈ t.kids) : k.size < t.size := by
  cases t with
  | v n => simp [Tm.kids] at h
  | z => simp [Tm.kids] at h
  | s t => simp [Tm.kids] at h; subst h; exact Nat.lt_succ_self _
  | f l r =>
    simp [Tm.kids] at h
    rcases h with h | h <;> subst h <;> (simp only [Tm.size]; omega)
theorem take_flat {t : Tm} (i : Nat) : ((t.kids.take i).flatMap Tm.signs).length ≤ t.size := by
  cases t with
  | v n => simp [Tm.kids]
  | z => simp [Tm.kids]
  | s t =>
    match i with
    | 0 => simp
    | i + 1 => simp [Tm.kids, Tm.signs_len, Tm.size]
  | f l r =>
    match i with
    | 0 => simp
    | 1 => simp [Tm.kids, Tm.signs_len, Tm.size]; try omega
    | i + 2 => simp [Tm.kids, Tm.signs_len, Tm.size]; try omega
theorem cut_tail (x : V) (ks : List V) : cutV (x :: ks) (some 1) none = ks := by
  have e : HT.sIx (x :: ks).length 0 (some 1) = 1 := by
    have := HT.sIx_nat (x :: ks).length 0 1
    rw [List.length_cons] at this ⊢
    rw [show (some 1 : Option Int) = some ((1 : Nat) : Int) from rfl, this]
    omega
  unfold cutV
  rw [e, HT.sIx_none, List.drop_one, List.tail_cons, List.take_of_length_le (by simp)]
theorem cut_part (x : V) (ks : List V) : ¬ (HT.sIx (x :: ks).length 0 (some 1) = 0 ∧ HT.sIx (x :: ks).length (x :: ks).length none = (x :: ks).length) := by
  have := HT.sIx_nat (x :: ks).length 0 1
  rw [List.length_cons] at this ⊢
  rw [show (some 1 : Option Int) = some ((1 : Nat) : Int) from rfl, this]
  omega
section
variable {P : Program} {w : World} {K : PySem.W.Frag} {mg : Str → Option Value} {base : Heap}
theorem kit_ii : PySem.W.kitOne K (.type "int") (.type "int") = some true := kit_ty (by decide +kernel)
theorem kit_ti : PySem.W.kitOne K (.type "tuple") (.type "int") = some false := kit_ty (by decide +kernel)
theorem kit_si : PySem.W.kitOne K (.type "str") (.type "int") = some false := kit_ty (by decide +kernel)
theorem scLeaves : FnScope ["_law_tree_here", "_law_found", "_law_part"] ["_law_tree_here"] (defScope sLeaves) := ⟨rfl, rfl, rfl, by decide +kernel, rfl, by decide +kernel, by decide +kernel⟩
theorem ok_leaves {n : Nat} {f : Addr} {fd : FuncData} (F : Fun K "_law_leaves" "_law_leaves" sLeaves f fd) (b1 : Binds K fd ["_law_tree_here"] []) (mF : mg "_law_leaves" = some (.ref f)) (G : FnOk P w K mg base CX0 n f fd ["_law_tree_here"] (spLeaves n))
    (mIsi : mg "isinstance" = none) (mInt : mg "int" = none) : FnOk P w K mg base CX0 (n + 1) f fd ["_law_tree_here"] (spLeaves (n + 1)) := by
  refine F.ok scLeaves (fun vs H Q E h => ?_) (fun cdv A outer s H vs Q E hr h => ?_)
  · obtain ⟨v, t, rfl, _⟩ := h
    rfl
  obtain ⟨v, t, rfl, T, hz, hd, q⟩ := h
  refine ⟨_, pss_cons (ps_if (pt_val (pe_callB call_isi (by rfl) mIsi (by decide +kernel) (pa_cons (pv 0) (pa_cons (pe_bltn (v := .ty "int") (by rfl) mInt (by decide +kernel) rfl) pa_nil)))) (pss_one (ps_ret (pe_lst (pa_cons (pv 0) pa_nil)))) pss_nil)
    (pss_cons (ps_set (i := 1) scLeaves.nd rfl (Or.inl rfl) (pe_lst (pa_cons (pe_ix ix_tup (pv 0) pe_int (fun _ _ => rfl)) pa_nil)))
    (pss_cons (ps_for PassesOwn.never rfl (pi_tup (pe_slice sl_tup (pv 0) (po_some pe_int) po_none)) (pg_name (i := 2) scLeaves.nd rfl (Or.inl rfl))
      (pss_one (ps_set (i := 1) scLeaves.nd rfl (Or.inl rfl) (pe_op op_cat (pv 1) (pe_call G hr rfl mF F.kp b1 .nil pass0 (pa_cons (pv 2) pa_nil))))))
    (pss_one (ps_ret (pv 1))))), ?_⟩
  rcases T.ty (K := K) with ⟨m, rfl, rfl⟩ | ⟨a, xs, rfl, ha, ty, no⟩
  · refine ⟨_, rfl, _, _, _, _, true, rfl, .ty "int", .base (.int m), kit_ii, true, rfl, iteT ?_⟩
    refine ⟨_, rfl, (by show 1 ≤ sizeLine; decide), fun p hp => q p _ hp upd_same (same_new hp _)⟩
  · obtain ⟨a', ks, e, ha', hk, hks⟩ := T.tupled no
    cases e
    refine ⟨_, rfl, _, _, _, _, false, rfl, .ty "int", ty, kit_ti, false, rfl, iteF ?_⟩
    refine ⟨_, rfl, a, _, _, _, rfl, rfl, .inl (.inl ha'), at_of (j := 0) rfl rfl, (by show 1 ≤ sizeLine; decide), fun p hp => ?_⟩
    have s1 := same_new hp (.lst [V.str (signHead t)])
    have hl3 : ks.length ≤ 2 := by rw [hk]; cases t <;> simp [Tm.kids]
    refine ⟨_, rfl, 1, rfl, a, _, rfl, .inl (.inl (s1 _ _ ha')), cut_part _ _, fun p2 hp2 => ?_⟩
    rw [cut_tail]
    have s2 := same_new hp2 (.tup ks)
    have s12 : Same H _ := s1.trans s2
    have q2 : upd (upd H p (.lst [V.str (signHead t)])) p2 (.tup ks) p2 = some (.tup ks) := upd_same
    refine ⟨p2, rfl, ⟨_, .inl (.inl upd_same)⟩, for_tup (K := K) (a := p2) (xs := ks) (fun i σ H2 => ∃ (p' : Addr) (pt : Option V), σ = [some (.ref a), some (.ref p'), pt] ∧ H p' = none ∧ H2 p' = some (.lst (.str (signHead t) :: (t.kids.take i).flatMap Tm.signs)) ∧
      Same H H2 ∧ H2 p2 = some (.tup ks)) ⟨p, none, rfl, hp, s2 _ _ upd_same, s12, upd_same⟩ (fun i σ H2 _ ⟨_, _, _, _, _, _, e⟩ => .inl (.inl e)) ?_ ?_⟩
    · rintro i x σ H2 hi ⟨p', pt, rfl, hn, hp', sH, h2⟩
      have hil : i < t.kids.length := by rw [← hk]; exact (List.getElem?_eq_some_iff.mp hi).1
      have hki : t.kids[i]? = some t.kids[i] := List.getElem?_eq_getElem hil
      have mem : t.kids[i] ∈ t.kids := List.getElem_mem hil
      have Tx := (hks i x _ hi hki).same sH
      refine ⟨_, rfl, _, rfl, x, t.kids[i], rfl, Tx, by have := kid_size mem; omega, by have := kid_deep mem; omega, fun p3 H3 hp3 e3 s3 => ?_⟩
      refine ⟨p', p3, _, _, rfl, rfl, s3 _ _ hp', e3, ?_, fun p4 hp4 => ?_⟩
      · have h1 := take_flat (t := t) i
        have h3 := kid_size mem
        have h4 := big1000
        have h5 : (1000 : Nat) + 1000 + 1 ≤ sizeLine := by decide
        rw [List.length_cons, Tm.signs_len]
        omega
      · have s4 := same_new hp4 (.lst ((.str (signHead t) :: (t.kids.take i).flatMap Tm.signs) ++ (t.kids[i]).signs))
        refine ⟨p4, _, rfl, (sH.trans s3).free hp4, ?_, sH.trans (s3.trans s4), s4 _ _ (s3 _ _ h2)⟩
        rw [upd_same, List.take_add_one, hki, List.cons_append, List.flatMap_append]
        simp
    · rintro σ H2 ⟨p', pt, rfl, hn, hp', sH, h2⟩
      refine ⟨_, rfl, q p' H2 hn ?_ sH⟩
      rw [hp', signs_kids no, hk, List.take_of_length_le (Nat.le_refl _)]
theorem leaves_ok {f : Addr} {fd : FuncData} (F : Fun K "_law_leaves" "_law_leaves" sLeaves f fd) (b1 : Binds K fd ["_law_tree_here"] []) (mF : mg "_law_leaves" = some (.ref f)) (mIsi : mg "isinstance" = none) (mInt : mg "int" = none) :
    ∀ n : Nat, FnOk P w K mg base CX0 n f fd ["_law_tree_here"] (spLeaves n)
  | 0 => none_left fun vs H Q E h => by
    obtain ⟨v, t, _, _, _, h1, _⟩ := h
    omega
  | n + 1 => ok_leaves F b1 mF (leaves_ok F b1 mF mIsi mInt n) mIsi mInt
end
end Rp

namespace Rp
open PySem PySem.Spec PyProof.Rows L2
/-- list.extend by any tuple object -/
theorem extend_by (l : Addr) (xs : Array Value) (n : Nat) (b : Addr) (od : Option Addr) (ys : Array Value) (m : Nat) (sl : Array (Option Value)) (short : ¬(!xs.isEmpty && Builtin.List.listTooLong (xs.size + ys.size)) = true) (h1 : xs.size ≤ sizeLine) (h2 : xs.size + ys.size ≤ sizeLine + 1) :
    Meets (Builtin.«list.extend» ⟨[.ref l, .ref b], []⟩) (fun _ R s => s.heap.get? l = some { cls := .type "list", data := .seq xs n } ∧ s.heap.get? b = some ⟨.type "tuple", od, .seq ys m, sl⟩ ∧
      R (.ok (.ret Value.none)) { s with heap := s.heap.update l (Obj.mapSeq fun x => x ++ ys) }) :=
  .of_wp fun prog w A R s ⟨hl, hb, h⟩ => by
    obtain ⟨hp, g, d, tk, os⟩ := s
    have g1 := sub_list_list
    have g2 := sub_tuple_list
    have g3 := sub_tuple_tuple
    have g4 := sub_list_tuple
    have both : (xs ++ ys).size ≤ sizeLine + 1 := by rw [Array.size_append]; exact h2
    wp_walk using (wpAny_updateSeq hl rfl (hz := h1) (_hz' := both)), wpAny_loadPart' hl, wpAny_loadPart' hb
    exact ⟨_, rfl, h⟩
section
variable {X : Cx}
/-- xs.extend(t), t a tuple -/
def rExtT (K : PySem.W.Frag) : V → List V → Hp → VK → Prop := fun x vs H Q => ∃ (l b : Addr) (xs zs : List V), x = .ref l ∧ vs = [.ref b] ∧ H l = some (.lst xs) ∧ SqT K H b zs ∧ xs.length + zs.length ≤ sizeLine ∧ Q .non (upd H l (.lst (xs ++ zs)))
theorem mt_extendT : MtM X "list.extend" (rExtT X.K) := by
  intro pins s σ H x vs v us Q I rx rv h
  obtain ⟨l, b, xs, zs, rfl, rfl, hH, hB, few, q⟩ := h
  cases rx
  obtain ⟨u, rfl, ru⟩ := rv.one
  cases ru
  obtain ⟨z, its, n, r, hl, e⟩ := I.lstM hH
  obtain ⟨its2, r2, ⟨⟨c2, d2, dat2, sl2⟩, e2, hc2, n2, hd2⟩, hz2⟩ := I.tuple hB
  simp only at hc2 hd2
  subst hc2 hd2
  have l1 := r.length
  have l2 := r2.length
  have room : its.toArray.size + its2.toArray.size ≤ sizeLine := by rw [List.size_toArray, List.size_toArray]; omega
  have short : ¬ (!its.toArray.isEmpty && Builtin.List.listTooLong (its.toArray.size + its2.toArray.size)) = true := by
    rw [notLongL room, Bool.and_false]; exact Bool.false_ne_true
  refine call_meets PySem.F.slot_list_extend ⟨_, e, rfl⟩ PySem.F.entry_list_extend (PySem.F.args_list_extend_2 _ _) (extend_by l its.toArray n b d2 its2.toArray n2 sl2 short (by rw [List.size_toArray]; omega) (by omega)) ⟨e, e2, ?_⟩
  refine ⟨.non, _, I.lset (its' := its ++ its2) (t' := s.toks) hH e (by simp) (r.append r2) ?_, rfl, q⟩
  rw [List.length_append]; omega
end
end Rp

namespace Rp
open PySem L2
/-- values and TERMs side by side -/
def AllAt (H : Hp) : List V → List Tm → Prop
  | [], [] => True
  | x :: xs, t :: ts => TmAt H x t ∧ AllAt H xs ts
  | _, _ => False
theorem AllAt.len {H : Hp} : ∀ {xs : List V} {ts : List Tm}, AllAt H xs ts → xs.length = ts.length
  | [], [], _ => rfl
  | x :: xs, t :: ts, h => congrArg (· + 1) (AllAt.len h.2)
theorem AllAt.append {H : Hp} : ∀ {xs ys : List V} {ts us : List Tm}, AllAt H xs ts → AllAt H ys us → AllAt H (xs ++ ys) (ts ++ us)
  | [], _, [], _, _, h => h
  | x :: xs, _, t :: ts, _, h, h' => ⟨h.1, AllAt.append h.2 h'⟩
theorem AllAt.parted {H : Hp} : ∀ {xs ys : List V} {ts : List Tm}, AllAt H (xs ++ ys) ts → ∃ t1 t2, ts = t1 ++ t2 ∧ AllAt H xs t1 ∧ AllAt H ys t2
  | [], _, ts, h => ⟨[], ts, rfl, trivial, h⟩
  | x :: xs, ys, t :: ts, h => by
    obtain ⟨t1, t2, e, h1, h2⟩ := AllAt.parted (xs := xs) h.2
    exact ⟨t :: t1, t2, by rw [e]; rfl, ⟨h.1, h1⟩, h2⟩
theorem AllAt.mono {H H' : Hp} (e : ∀ a xs, H a = some (.tup xs) → H' a = some (.tup xs)) : ∀ {xs : List V} {ts : List Tm}, AllAt H xs ts → AllAt H' xs ts
  | [], [], _ => trivial
  | x :: xs, t :: ts, h => ⟨h.1.mono e, AllAt.mono e h.2⟩
theorem AllAt.back {H : Hp} : ∀ {xs : List V} {ts : List Tm}, AllAt H xs ts → AllAt H xs.reverse ts.reverse
  | [], [], _ => trivial
  | x :: xs, t :: ts, h => by
    rw [List.reverse_cons, List.reverse_cons]
    exact (AllAt.back h.2).append ⟨h.1, trivial⟩
theorem AllAt.get {H : Hp} : ∀ {xs : List V} {ts : List Tm} {i : Nat} {x : V}, AllAt H xs ts → xs[i]? = some x → ∃ t, ts[i]? = some t ∧ TmAt H x t
  | x :: xs, t :: ts, 0, y, h, e => by simp at e; subst e; exact ⟨t, rfl, h.1⟩
  | x :: xs, t :: ts, i + 1, y, h, e => by simpa using AllAt.get h.2 (by simpa using e)
theorem AllAt.of {H : Hp} : ∀ {xs : List V} {ts : List Tm}, xs.length = ts.length → (∀ (i : Nat) (x : V) (k : Tm), xs[i]? = some x → ts[i]? = some k → TmAt H x k) → AllAt H xs ts
  | [], [], _, _ => trivial
  | x :: xs, t :: ts, l, h => ⟨h 0 x t rfl rfl, AllAt.of (by simpa using l) fun i y k a b => h (i + 1) y k (by simpa using a) (by simpa using b)⟩
def spParts : Sp := fun vs H Q _ => ∃ (v : V) (t : Tm), vs = [v] ∧ TmAt H v t ∧ ∀ (p : Addr) (ks : List V) (H' : Hp), H p = none → H' p = some (.tup ks) → AllAt H' ks t.kids → Same H H' → Q (.ref p) H'
def spInside : Sp := fun vs H Q _ => ∃ (v : V) (t : Tm), vs = [v] ∧ TmAt H v t ∧ t.size ≤ 1000 ∧ ∀ (p : Addr) (xs : List V) (H' : Hp), H p = none → H' p = some (.lst xs) → AllAt H' xs t.rpost.reverse → Same H H' → Q (.ref p) H'
def spSize : Sp := fun vs H Q _ => ∃ (v : V) (t : Tm), vs = [v] ∧ TmAt H v t ∧ t.size ≤ 1000 ∧ ∀ H', Same H H' → Q (.int (t.size : Nat)) H'
def spVars : Sp := fun vs H Q _ => ∃ (v : V) (t : Tm), vs = [v] ∧ TmAt H v t ∧ t.size ≤ 60 ∧ ∀ (p : Addr) (ns : List Int) (H' : Hp), H p = none → H' p = some (.lst (ns.map V.int)) → ns.Pairwise (· < ·) → (∀ k, k ∈ ns ↔ k ∈ t.nums) → Same H H' → Q (.ref p) H'
section
variable {P : Program} {w : World} {K : PySem.W.Frag} {mg : Str → Option Value} {base : Heap}
theorem scParts : FnScope ["term"] ["term"] (defScope sParts) := ⟨rfl, rfl, rfl, by decide +kernel, rfl, by decide +kernel, by decide +kernel⟩
theorem ok_parts {f : Addr} {fd : FuncData} (F : Fun K "_parts" "_parts" sParts f fd) (mIsi : mg "isinstance" = none) (mInt : mg "int" = none) : FnOk P w K mg base CX0 1 f fd ["term"] spParts := by
  refine F.ok scParts (fun vs H Q E h => ?_) (fun cdv A outer s H vs Q E hr h => ?_)
  · obtain ⟨v, t, rfl, _⟩ := h
    rfl
  obtain ⟨v, t, rfl, T, q⟩ := h
  refine ⟨_, pss_one (ps_ret (pe_ifExp (pt_val (pe_callB call_isi (by rfl) mIsi (by decide +kernel) (pa_cons (pv 0) (pa_cons (pe_bltn (v := .ty "int") (by rfl) mInt (by decide +kernel) rfl) pa_nil)))) (pe_tup pa_nil) (pe_slice sl_tup (pv 0) (po_some pe_int) po_none))), ?_⟩
  rcases T.ty (K := K) with ⟨m, rfl, rfl⟩ | ⟨a, xs, rfl, ha, ty, no⟩
  · refine ⟨_, rfl, _, _, _, _, true, rfl, .ty "int", .base (.int m), kit_ii, true, rfl, iteT ?_⟩
    exact ⟨(by show 0 ≤ sizeLine; decide), fun p hp => q p [] _ hp upd_same trivial (same_new hp _)⟩
  · obtain ⟨a', ks, e, ha', hk, hks⟩ := T.tupled no
    cases e
    refine ⟨_, rfl, _, _, _, _, false, rfl, .ty "int", ty, kit_ti, false, rfl, iteF ?_⟩
    refine ⟨_, rfl, 1, rfl, a, _, rfl, .inl (.inl ha'), cut_part _ _, fun p hp => ?_⟩
    rw [cut_tail]
    have s1 := same_new hp (.tup ks)
    exact q p ks _ hp upd_same (AllAt.of hk fun i x k a b => (hks i x k a b).same s1) s1
theorem scInside : FnScope ["term", "found", "todo", "part"] ["term"] (defScope sInside) := ⟨rfl, rfl, rfl, by decide +kernel, rfl, by decide +kernel, by decide +kernel⟩
/-- how many parts are still to come -/
def leftOf (n : Nat) (σ : List (Option V)) (H : Hp) : Nat := match σ with
  | _ :: some (V.ref p) :: _ => (match H p with
    | some (HO.lst xs) => n - xs.length
    | _ => 0)
  | _ => 0
theorem leftOf_is {n : Nat} {v : Option V} {p : Addr} {r : List (Option V)} {H : Hp} {xs : List V} (h : H p = some (.lst xs)) : leftOf n (v :: some (.ref p) :: r) H = n - xs.length := by
  unfold leftOf
  simp [h]
theorem ok_inside {f fP : Addr} {fd fdP : FuncData} (F : Fun K "inside_out" "inside_out" sInside f fd) (FP : Fun K "_parts" "_parts" sParts fP fdP) (bP : Binds K fdP ["term"] []) (mP : mg "_parts" = some (.ref fP)) (mIsi : mg "isinstance" = none) (mInt : mg "int" = none) :
    FnOk P w K mg base CX0 2 f fd ["term"] spInside := by
  have GP : FnOk P w K mg base CX0 1 fP fdP ["term"] spParts := ok_parts FP mIsi mInt
  refine F.ok scInside (fun vs H Q E h => ?_) (fun cdv A outer s H vs Q E hr h => ?_)
  · obtain ⟨v, t, rfl, _⟩ := h
    rfl
  obtain ⟨v, t, rfl, T, hz, q⟩ := h
  refine ⟨_, pss_cons (ps_set (i := 1) scInside.nd rfl (Or.inl rfl) (pe_lst pa_nil))
    (pss_cons (ps_set (i := 2) scInside.nd rfl (Or.inl rfl) (pe_lst (pa_cons (pv 0) pa_nil)))
    (pss_cons (ps_while PassesOwn.never (pt_truth (pv 2) (by intro _; rfl))
      (pss_cons (ps_set (i := 3) scInside.nd rfl (Or.inl rfl) (pe_bm0 PySem.F.plainAttrs_list PySem.F.slot_list_pop PySem.F.type_list_pop mt_pop (pv 2)))
      (pss_cons (ps_expr (pe_bm PySem.F.plainAttrs_list PySem.F.slot_list_append PySem.F.type_list_append mt_append (pv 1) (pa_cons (pv 3) pa_nil)))
      (pss_one (ps_expr (pe_bm PySem.F.plainAttrs_list PySem.F.slot_list_extend PySem.F.type_list_extend mt_extendT (pv 2) (pa_cons (pe_call GP hr rfl mP FP.kp bP .nil pass0 (pa_cons (pv 3) pa_nil)) pa_nil)))))))
    (pss_one (ps_ret (pe_revL (pv 1)))))), ?_⟩
  refine ⟨(by show 0 ≤ sizeLine; decide), fun p hp => ?_⟩
  refine ⟨_, rfl, (by show 1 ≤ sizeLine; decide), fun d hd => ?_⟩
  have s1 := same_new hp (.lst [])
  have s2 := same_new hd (.lst [v])
  have s12 : Same H _ := s1.trans s2
  have pd : p ≠ d := ne_of_none upd_same hd
  dsimp only [gName, tSeq]
  refine while_by (fun σ H2 => ∃ (fxs txs : List V) (fs ts : List Tm) (x : Option V), σ = [some v, some (.ref p), some (.ref d), x] ∧ H2 p = some (.lst fxs) ∧ H2 d = some (.lst txs) ∧ AllAt H2 fxs fs ∧ AllAt H2 txs ts ∧ fs ++ ts.reverse.flatMap Tm.rpost = t.rpost ∧ Same H H2)
    (leftOf t.size) ⟨[], [v], [], [t], none, rfl, s2 _ _ upd_same, upd_same, trivial, ⟨T.same s12, trivial⟩, by simp, s12⟩ ?_ (fun σ H Q Q' m ⟨v, hv, k, hk, q⟩ => ⟨v, hv, k, hk, m _ _ q⟩)
  rintro σ H2 ⟨fxs, txs, fs, ts, x, rfl, h1, h2, A1, A2, eq, sH⟩
  refine ⟨_, rfl, !txs.isEmpty, .inl ⟨txs, .inl (.inl h2), rfl⟩, ?_⟩
  have tot := congrArg List.length eq
  rw [List.length_append, Tm.rpost_len, ← A1.len] at tot
  rcases List.eq_nil_or_concat txs with e | ⟨M, y, e⟩
  · subst e
    refine iteF ?_
    have e2 : ts = [] := by have := A2.len; cases ts with | nil => rfl | cons => simp at this
    subst e2
    have e3 : fs = t.rpost := by simpa using eq
    subst e3
    refine ⟨_, rfl, p, _, rfl, .inl (.inl h1), fun r hr2 => ?_⟩
    have s3 := same_new hr2 (.lst fxs.reverse)
    refine q r _ _ (sH.free hr2) upd_same (A1.back.mono fun a xs z => s3 _ _ z) (sH.trans s3)
  · rw [List.concat_eq_append] at e
    subst e
    have ne : (!(M ++ [y]).isEmpty) = true := by simp
    rw [ne]
    refine iteT ?_
    obtain ⟨L, k', e2, AM, Ay⟩ := A2.parted
    subst e2
    obtain ⟨k, rfl, Tk⟩ : ∃ k, k' = [k] ∧ TmAt H2 y k := by
      match k', Ay with
      | [k], Ay => exact ⟨k, rfl, Ay.1⟩
    have ek : fs ++ (k :: (k.kids.reverse.flatMap Tm.rpost ++ L.reverse.flatMap Tm.rpost)) = t.rpost := by
      rw [← eq]
      simp [Tm.rpost_kids k]
    have room : fxs.length < t.size := by
      have := congrArg List.length ek
      rw [List.length_append, Tm.rpost_len, ← A1.len, List.length_cons] at this
      omega
    have big := big1000
    -- part = todo.pop()
    refine ⟨_, rfl, .inl ⟨rfl, _, .inl (.inl h2)⟩, d, _, y, rfl, rfl, h2, by simp, ?_⟩
    rw [List.dropLast_concat]
    have dp : d ≠ p := fun z => pd z.symm
    have t3 : ∀ a xs, H2 a = some (.tup xs) → upd H2 d (.lst M) a = some (.tup xs) := fun a xs z => by rw [upd_ne (ne_of z h2 (by intro z; cases z))]; exact z
    -- found.append(part)
    refine ⟨_, rfl, .inl ⟨rfl, fxs, .inl (.inl (by rw [upd_ne pd]; exact h1))⟩, _, rfl, p, fxs, y, rfl, rfl, (by rw [upd_ne pd]; exact h1), by omega, ?_⟩
    have h1' : (upd (upd H2 d (.lst M)) p (.lst (fxs ++ [y]))) p = some (.lst (fxs ++ [y])) := upd_same
    have h2' : (upd (upd H2 d (.lst M)) p (.lst (fxs ++ [y]))) d = some (.lst M) := by rw [upd_ne dp]; exact upd_same
    have t4 : ∀ a xs, H2 a = some (.tup xs) → (upd (upd H2 d (.lst M)) p (.lst (fxs ++ [y]))) a = some (.tup xs) := fun a xs z => by
      rw [upd_ne (ne_of z h1 (by intro z; cases z))]; exact t3 a xs z
    have pn : H p = none := hp
    have dn : H d = none := s1.free hd
    have sH4 : Same H (upd (upd H2 d (.lst M)) p (.lst (fxs ++ [y]))) := fun b o z => by
      rw [upd_ne (ne_of_none z pn), upd_ne (ne_of_none z dn)]; exact sH b o z
    -- todo.extend(_parts(part))
    refine ⟨_, rfl, .inl ⟨rfl, M, .inl (.inl h2')⟩, _, rfl, y, k, rfl, Tk.mono t4, fun g ks H5 hg h5 A5 s5 => ?_⟩
    have kl := A5.len
    have lim : M.length + ks.length ≤ sizeLine := by
      have a1 := congrArg List.length ek
      have a2 : k.kids.length ≤ 2 := by cases k <;> simp [Tm.kids]
      have a3 : L.length ≤ (L.reverse.flatMap Tm.rpost).length := by
        have : ∀ l : List Tm, l.length ≤ (l.flatMap Tm.rpost).length := by
          intro l
          induction l with
          | nil => simp
          | cons z l ih => rw [List.flatMap_cons, List.length_append, Tm.rpost_len, List.length_cons]; have := Tm.size_pos z; omega
        have := this L.reverse
        rwa [List.length_reverse] at this
      have a4 := AM.len
      rw [List.length_append, List.length_cons, List.length_append, Tm.rpost_len] at a1
      have a5 : (1000 : Nat) + 1000 ≤ sizeLine := by decide
      omega
    refine ⟨d, g, M, ks, rfl, rfl, s5 _ _ h2', .inl (.inl h5), lim, ?_⟩
    have h1'' := s5 _ _ h1'
    have t6 : ∀ a xs, H5 a = some (.tup xs) → upd H5 d (.lst (M ++ ks)) a = some (.tup xs) := fun a xs z => by rw [upd_ne (ne_of z (s5 _ _ h2') (by intro z; cases z))]; exact z
    have t7 : ∀ a xs, H2 a = some (.tup xs) → upd H5 d (.lst (M ++ ks)) a = some (.tup xs) := fun a xs z => t6 a xs (s5 _ _ (t4 a xs z))
    have h1d : (upd H5 d (.lst (M ++ ks))) p = some (.lst (fxs ++ [y])) := by rw [upd_ne pd]; exact h1''
    refine ⟨⟨fxs ++ [y], M ++ ks, fs ++ [k], L ++ k.kids, some y, rfl, h1d, upd_same, (A1.mono t7).append ⟨Tk.mono t7, trivial⟩, (AM.mono t7).append (A5.mono t6), ?_, ?_⟩, ?_⟩
    · rw [← ek]; simp
    · intro b o z
      rw [upd_ne (ne_of_none z dn)]
      exact s5 _ _ (sH4 b o z)
    · show leftOf t.size (some v :: some (.ref p) :: _) _ < leftOf t.size (some v :: some (.ref p) :: _) H2
      rw [leftOf_is h1d, leftOf_is h1, List.length_append, List.length_singleton]
      omega
end
end Rp

namespace Rp
open PySem L2
section
variable {P : Program} {w : World} {K : PySem.W.Frag} {mg : Str → Option Value} {base : Heap}
theorem scVars : FnScope ["term", "part"] ["term"] (defScope sVars) := ⟨rfl, rfl, rfl, by decide +kernel, rfl, by decide +kernel, by decide +kernel⟩
theorem back_len (t : Tm) : t.rpost.reverse.length = t.size := by rw [List.length_reverse, Tm.rpost_len]
theorem ok_vars {f fI : Addr} {fd fdI : FuncData} (F : Fun K "variables" "variables" sVars f fd) (GI : FnOk P w K mg base CX0 2 fI fdI ["term"] spInside) (kI : PySem.W.keepIn K (.ref fI) = true) (bI : Binds K fdI ["term"] []) (mI : mg "inside_out" = some (.ref fI))
    (mSorted : mg "sorted" = none) (mIsi : mg "isinstance" = none) (mInt : mg "int" = none) : FnOk P w K mg base CX0 3 f fd ["term"] spVars := by
  refine F.ok scVars (fun vs H Q E h => ?_) (fun cdv A outer s H vs Q E hr h => ?_)
  · obtain ⟨v, t, rfl, _⟩ := h
    rfl
  obtain ⟨v, t, rfl, T, hz, q⟩ := h
  refine ⟨_, pss_one (ps_ret (pe_callB (cr_sortedSet rfl) (by rfl) mSorted (by decide +kernel) (pa_cons (pe_scI (own := [("part", 1)]) (g := gName 1) (tt := tB (tCB (rIsi K) (tCons (tVar 1) (tCons (tC (.ty "int")) tNil)))) (te := tVar 1) rfl scVars.nd
      (pi_list (pe_call GI hr rfl mI kI bI .nil pass0 (pa_cons (pv 0) pa_nil))) (blkOk_by (N := ["term", "part"]) (sc := defScope sVars) (by decide +kernel)) (fun _ _ _ _ _ => pg_name (i := 1) scVars.nd rfl (Or.inl rfl))
      (fun _ _ _ _ _ => pts_one (pt_val (pe_callB (id := "isinstance") call_isi (by rfl) mIsi (by decide +kernel) (pa_cons (pv 1) (pa_cons (pe_bltn (v := .ty "int") (by rfl) mInt (by decide +kernel) rfl) pa_nil)))))
      (fun _ _ _ _ _ => pv 1)) pa_nil))), ?_⟩
  refine ⟨_, rfl, v, t, rfl, T, by omega, fun p xs H1 hp h A s1 => ?_⟩
  refine ⟨p, rfl, ⟨xs, .inl (.inl h)⟩, fun D hD => scI_list (K := K) (a := p) (xs := xs) (fun i H2 => ∃ (S : Int → Bool) (n : Nat), H2 D = some (SetO w D S n) ∧ n ≤ i ∧ (∀ k, S k = true ↔ Tm.v k ∈ t.rpost.reverse.take i) ∧
    (∀ b o, H1 b = some o → H2 b = some o)) ⟨_, 0, upd_same, Nat.le_refl _, fun k => by simp, fun b o z => by rw [upd_ne (ne_of_none z hD)]; exact z⟩ (fun i H2 _ ⟨_, _, _, _, _, z⟩ => .inl (.inl (z _ _ h))) ?_ ?_⟩
  · rintro i x H2 hi ⟨S, n, hS, hn, hm, hk⟩
    obtain ⟨k, hk1, Tk⟩ := A.get hi
    have lt : i < t.size := by rw [← back_len t, ← A.len]; exact (List.getElem?_eq_some_iff.mp hi).1
    have tk : t.rpost.reverse.take (i + 1) = t.rpost.reverse.take i ++ [k] := by rw [List.take_add_one, hk1]; rfl
    have Tk2 := Tk.mono (H' := H2) fun a ys z => hk _ _ z
    rcases Tk2.ty (K := K) with ⟨m, rfl, rfl⟩ | ⟨a, ys, rfl, ha, ty, no⟩
    · refine ⟨rfl, _, rfl, _, _, _, _, true, rfl, .ty "int", .base (.int m), kit_ii, true, rfl, iteT ?_⟩
      refine ⟨_, rfl, m, S, n, rfl, hS, (Nat.lt_of_le_of_lt (by omega : n + 1 ≤ 100) (by decide : 100 < scanBound)), ?_⟩
      refine ⟨_, _, upd_same, ?_, fun k => ?_, fun b o z => ?_⟩
      · split <;> omega
      · rw [tk, List.mem_append, ← hm k]
        simp
      · have nb : b ≠ D := fun e => by subst e; rw [hD] at z; cases z
        rw [upd_ne nb]
        exact hk b o z
    · refine ⟨rfl, _, rfl, _, _, _, _, false, rfl, .ty "int", ty, kit_ti, false, rfl, iteF ?_⟩
      refine ⟨S, n, hS, by omega, fun k' => ?_, hk⟩
      rw [tk, List.mem_append, ← hm k']
      simp
      intro e
      exact absurd e.symm (no k')
  · rintro H2 ⟨S, n, hS, hn, hm, hk⟩
    refine ⟨D, S, n, rfl, hS, ?_, fun ns p2 up mem len hp2 => ?_⟩
    · have := A.len
      rw [back_len] at this
      omega
    · refine q p2 ns _ ?_ upd_same up (fun k => ?_) ?_
      · exact s1.free (Same.free (H := H1) hk hp2)
      · rw [mem k, hm k, List.take_of_length_le (by rw [A.len]; exact Nat.le_refl _), List.mem_reverse, Tm.mem_rpost]
      · exact s1.trans (Same.trans (H1 := H2) hk (same_new hp2 _))
end
end Rp

namespace Rp
open PySem L2 RZ
/-- [.. for a, b in zip(xs, ys)], both lists or both tuples, as long -/
theorem lc_pairs {J : It} {xs ys : List V} {g : TG} {tt : TT} {te : TE} {vs : List Nat} {σ : L2.St} {H1 : Hp} {D : Addr} {Qd : Hp → Prop} (same : xs.length = ys.length) (Pv : Nat → Hp → Prop)
    (stops : ∀ H, Pv xs.length H → J.stop xs.length H) (goes : ∀ i H, i < xs.length → Pv i H → J.go i H)
    (gives : ∀ i H v H', Pv i H → J.yld i H v H' → ∃ T x y, v = .ref T ∧ xs[i]? = some x ∧ ys[i]? = some y ∧ H T = none ∧ H' = upd H T (.tup [x, y]))
    (h0 : Pv 0 (upd H1 D (.lst [])))
    (hs : ∀ (i : Nat) (x y : V) (T : Addr) (H : Hp), xs[i]? = some x → ys[i]? = some y → Pv i H → H T = none → g (.ref T) (wipe σ vs) (upd H T (.tup [x, y])) fun σ2 H2 => wipe σ2 vs = wipe σ vs ∧
      tt σ2 H2 fun b H3 => if b = true then te σ2 H3 fun y H4 => ∃ acc, H4 D = some (.lst acc) ∧ acc.length < sizeLine ∧ Pv (i + 1) (upd H4 D (.lst (acc ++ [y]))) else Pv (i + 1) H3)
    (hd : ∀ H, Pv xs.length H → Qd H) :
    ∃ W : Nat → Nat → Hp → Prop, (∃ m, W 0 m (upd H1 D (.lst []))) ∧ ∀ i m H, W i m H → (J.stop i H ∧ Qd H) ∨
      (J.go i H ∧ ∃ Nx : Hp → Prop, (∀ H', Nx H' → ∃ m', m' < m ∧ W (i + 1) m' H') ∧ ∀ x H', J.yld i H x H' → g x (wipe σ vs) H' fun σ2 H2 => wipe σ2 vs = wipe σ vs ∧
        tt σ2 H2 fun b H3 => if b = true then te σ2 H3 fun y H4 => ∃ acc, H4 D = some (.lst acc) ∧ acc.length < sizeLine ∧ Nx (upd H4 D (.lst (acc ++ [y]))) else Nx H3) := by
  refine ⟨fun i m H => m + i = xs.length ∧ Pv i H, ⟨xs.length, by simp, h0⟩, ?_⟩
  rintro i m H ⟨em, p⟩
  rcases Nat.lt_or_ge i xs.length with lt | ge
  · refine .inr ⟨goes i H lt p, Pv (i + 1), fun H' p' => ⟨m - 1, by omega, by omega, p'⟩, fun v H' y => ?_⟩
    obtain ⟨T, x, y', rfl, hx, hy, hT, rfl⟩ := gives i H v H' p y
    exact hs i x y' T H hx hy p hT
  · have e : i = xs.length := by omega
    subst e
    exact .inl ⟨stops H p, hd H p⟩
def spSame (n : Nat) : Sp := fun vs H Q _ => ∃ (x y : V) (m : Nat), vs = [x, y] ∧ n = m + 1 ∧ Alike H m x y ∧ ∀ H', Same H H' → Q (.bl true) H'
section
variable {P : Program} {w : World} {K : PySem.W.Frag} {mg : Str → Option Value} {base : Heap}
structure SameG (mg : Str → Option Value) : Prop where
  isi : mg "isinstance" = none
  list : mg "list" = none
  tuple : mg "tuple" = none
  len : mg "len" = none
  all : mg "all" = none
  zip : mg "zip" = none
  str : mg "str" = none
  int : mg "int" = none
  bool : mg "bool" = none
theorem scSame : FnScope ["_law_found", "_law_due", "_law_one", "_law_two"] ["_law_found", "_law_due"] (defScope sSame) := ⟨rfl, rfl, rfl, by decide +kernel, rfl, by decide +kernel, by decide +kernel⟩
theorem kitB_of {K : PySem.W.Frag} {a b : String} {r : Bool} (h : kitB a b = some r) : PySem.W.kitOne K (.type a) (.type b) = some r := h
theorem kit_lt {K : PySem.W.Frag} {a : String} {p r : Bool} (h1 : kitB a "list" = some p) (h2 : kitB a "tuple" = some r) : PySem.W.kitAny K (.type a) [.type "list", .type "tuple"] = some (p || r) := by
  refine kitAny_cons (kitB_of h1) (fun e => ?_) (fun e => by rw [e]; rfl)
  refine kitAny_cons (kitB_of h2) (fun e2 => by rw [e, e2]; exact kitAny_nil) (fun e2 => by rw [e, e2]; rfl)
theorem ok_same {n : Nat} {f : Addr} {fd : FuncData} (F : Fun K "_law_same" "_law_same" sSame f fd) (b2 : Binds K fd ["_law_found", "_law_due"] []) (mF : mg "_law_same" = some (.ref f)) (G : FnOk P w K mg base CX0 n f fd ["_law_found", "_law_due"] (spSame n)) (M : SameG mg) :
    FnOk P w K mg base CX0 (n + 1) f fd ["_law_found", "_law_due"] (spSame (n + 1)) := by
  refine F.ok scSame (fun vs H Q E h => ?_) (fun cdv A outer s H vs Q E hr h => ?_)
  · obtain ⟨x, y, m, rfl, _⟩ := h
    rfl
  obtain ⟨x, y, m, rfl, em, hA, q⟩ := h
  have em : n = m := by omega
  subst em
  refine ⟨_, pss_cons (ps_if (pt_val (pe_callB (id := "isinstance") call_isiT (by rfl) M.isi (by decide +kernel) (pa_cons (pv 1) (pa_cons (pe_tup (pa_cons (pe_bltn (v := .ty "list") (by rfl) M.list (by decide +kernel) rfl) (pa_cons (pe_bltn (v := .ty "tuple") (by rfl) M.tuple (by decide +kernel) rfl) pa_nil))) pa_nil))))
      (pss_cons (ps_if (PW.pt (pw_or (pt_cmpR op_ne
            (pe_callB (id := "isinstance") call_isi (by rfl) M.isi (by decide +kernel) (pa_cons (pv 0) (pa_cons (pe_bltn (v := .ty "list") (by rfl) M.list (by decide +kernel) rfl) pa_nil)))
            (pe_callB (id := "isinstance") call_isi (by rfl) M.isi (by decide +kernel) (pa_cons (pv 1) (pa_cons (pe_bltn (v := .ty "list") (by rfl) M.list (by decide +kernel) rfl) pa_nil))) (nomark _))
          (pw_or1 (pt_cmpR op_ne
            (pe_callB (id := "isinstance") call_isi (by rfl) M.isi (by decide +kernel) (pa_cons (pv 0) (pa_cons (pe_bltn (v := .ty "tuple") (by rfl) M.tuple (by decide +kernel) rfl) pa_nil)))
            (pe_callB (id := "isinstance") call_isi (by rfl) M.isi (by decide +kernel) (pa_cons (pv 1) (pa_cons (pe_bltn (v := .ty "tuple") (by rfl) M.tuple (by decide +kernel) rfl) pa_nil))) (nomark _))))) (pss_one (ps_ret pe_bl)) pss_nil)
      (pss_cons (ps_if (pt_cmpR op_ne (pe_callB call_len_seq (by rfl) M.len PySem.boot_len (pa_cons (pv 0) pa_nil)) (pe_callB call_len_seq (by rfl) M.len PySem.boot_len (pa_cons (pv 1) pa_nil)) (nomark _)) (pss_one (ps_ret pe_bl)) pss_nil)
      (pss_one (ps_ret (pe_callB (cr_all rfl) (by rfl) M.all (by decide +kernel) (pa_cons (pe_lc (own := [("_law_one", 2), ("_law_two", 3)]) (g := gTup K 2 (gCons (gName 2) (gCons (gName 3) gNil))) (tt := tYes) (te := tCall (spSame n) [] E0 (tCons (tVar 2) (tCons (tVar 3) tNil))) rfl scSame.nd
        (pi_zipA (by rfl) M.zip (pa_cons (pv 0) (pa_cons (pv 1) pa_nil))) (blkOk_by (N := ["_law_found", "_law_due", "_law_one", "_law_two"]) (sc := defScope sSame) (by decide +kernel))
        (fun _ _ _ _ _ => pg_tup (by rfl) (pgs_cons (pg_name (i := 2) scSame.nd rfl (Or.inl rfl)) (pgs_cons (pg_name (i := 3) scSame.nd rfl (Or.inl rfl)) pgs_nil)))
        (fun _ _ _ _ _ => pts_nil) (fun _ _ _ _ _ => pe_call G hr (by rfl) mF F.kp b2 .nil pass0 (pa_cons (pv 2) (pa_cons (pv 3) pa_nil)))) pa_nil)))))) pss_nil)
    (pss_cons (ps_if (PW.pt (pw_or (pt_cmpR op_isN (pv 1) pe_non (nomark _)) (pw_or1 (pt_val (pe_callB (id := "isinstance") call_isi (by rfl) M.isi (by decide +kernel) (pa_cons (pv 1) (pa_cons (pe_bltn (v := .ty "str") (by rfl) M.str (by decide +kernel) rfl) pa_nil)))))))
      (pss_one (ps_ret (pe_and (pe_cmpR op_eq (pv 0) (pv 1) (nomark _)) (pe_one (pe_cmpR op_eq
            (pe_callB (id := "isinstance") call_isi (by rfl) M.isi (by decide +kernel) (pa_cons (pv 0) (pa_cons (pe_bltn (v := .ty "str") (by rfl) M.str (by decide +kernel) rfl) pa_nil)))
            (pe_callB (id := "isinstance") call_isi (by rfl) M.isi (by decide +kernel) (pa_cons (pv 1) (pa_cons (pe_bltn (v := .ty "str") (by rfl) M.str (by decide +kernel) rfl) pa_nil))) (nomark _)))))) pss_nil)
    (pss_one (ps_ret (pe_and (pe_callB (id := "isinstance") call_isi (by rfl) M.isi (by decide +kernel) (pa_cons (pv 0) (pa_cons (pe_bltn (v := .ty "int") (by rfl) M.int (by decide +kernel) rfl) pa_nil)))
      (pe_and (pe_cmpR op_eq
            (pe_callB (id := "isinstance") call_isi (by rfl) M.isi (by decide +kernel) (pa_cons (pv 0) (pa_cons (pe_bltn (v := .ty "bool") (by rfl) M.bool (by decide +kernel) rfl) pa_nil)))
            (pe_callB (id := "isinstance") call_isi (by rfl) M.isi (by decide +kernel) (pa_cons (pv 1) (pa_cons (pe_bltn (v := .ty "bool") (by rfl) M.bool (by decide +kernel) rfl) pa_nil))) (nomark _))
        (pe_one (pe_cmpR op_eq (pv 0) (pv 1) (nomark _)))))))), ?_⟩
  refine ⟨_, rfl, (by show 2 ≤ sizeLine; decide), fun p hp => ?_⟩
  have s1 := same_new hp (.tup [V.ty "list", V.ty "tuple"])
  have plain : Plain x ∧ x = y ∨ ∃ m a b xs ys, n = m + 1 ∧ x = .ref a ∧ y = .ref b ∧ ((H a = some (.lst xs) ∧ H b = some (.lst ys)) ∨ (H a = some (.tup xs) ∧ H b = some (.tup ys))) ∧
      xs.length = ys.length ∧ xs.length ≤ 1000000 ∧ ∀ (i : Nat) (u v : V), xs[i]? = some u → ys[i]? = some v → Alike H m u v := by
    cases n with
    | zero => unfold Alike at hA; exact .inl hA
    | succ m =>
      unfold Alike at hA
      rcases hA with h | ⟨a, b, xs, ys, h⟩
      · exact .inl h
      · exact .inr ⟨m, a, b, xs, ys, rfl, h⟩
  rcases plain with ⟨px, rfl⟩ | ⟨m, a, b, xs, ys, rfl, rfl, rfl, kinds, hl, hz, each⟩
  · cases x with
    | int i =>
      refine ⟨_, p, _, _, [.type "list", .type "tuple"], false, rfl, upd_same, .cons (.ty _) (.cons (.ty _) .nil), .base (.int i), kit_lt (p := false) (r := false) (by decide +kernel) (by decide +kernel), false, rfl, iteF ?_⟩
      refine ⟨_, rfl, rfl, false, congrArg V.bl (decide_eq_false (fun z => nomatch z)), iteF ?_⟩
      refine ⟨_, rfl, _, _, _, _, false, rfl, .ty "str", .base (.int i), kitB_of (by decide +kernel), false, rfl, iteF ?_⟩
      refine ⟨_, rfl, _, _, _, _, true, rfl, .ty "int", .base (.int i), kitB_of (by decide +kernel), true, rfl, iteT ?_⟩
      refine ⟨_, rfl, _, _, _, _, false, rfl, .ty "bool", .base (.int i), kitB_of (by decide +kernel), _, rfl, _, _, _, _, false, rfl, .ty "bool", .base (.int i), kitB_of (by decide +kernel), rfl, true, congrArg V.bl (decide_eq_true rfl), iteT ?_⟩
      refine ⟨_, rfl, _, rfl, rfl, ?_⟩
      have e : decide (V.int i = V.int i) = true := decide_eq_true rfl
      rw [e]
      exact q _ s1
    | bl i =>
      refine ⟨_, p, _, _, [.type "list", .type "tuple"], false, rfl, upd_same, .cons (.ty _) (.cons (.ty _) .nil), .base (.bl i), kit_lt (p := false) (r := false) (by decide +kernel) (by decide +kernel), false, rfl, iteF ?_⟩
      refine ⟨_, rfl, rfl, false, congrArg V.bl (decide_eq_false (fun z => nomatch z)), iteF ?_⟩
      refine ⟨_, rfl, _, _, _, _, false, rfl, .ty "str", .base (.bl i), kitB_of (by decide +kernel), false, rfl, iteF ?_⟩
      refine ⟨_, rfl, _, _, _, _, true, rfl, .ty "int", .base (.bl i), kitB_of (by decide +kernel), true, rfl, iteT ?_⟩
      refine ⟨_, rfl, _, _, _, _, true, rfl, .ty "bool", .base (.bl i), kitB_of (by decide +kernel), _, rfl, _, _, _, _, true, rfl, .ty "bool", .base (.bl i), kitB_of (by decide +kernel), rfl, true, congrArg V.bl (decide_eq_true rfl), iteT ?_⟩
      refine ⟨_, rfl, _, rfl, rfl, ?_⟩
      have e : decide (V.bl i = V.bl i) = true := decide_eq_true rfl
      rw [e]
      exact q _ s1
    | str i =>
      refine ⟨_, p, _, _, [.type "list", .type "tuple"], false, rfl, upd_same, .cons (.ty _) (.cons (.ty _) .nil), .base (.str i), kit_lt (p := false) (r := false) (by decide +kernel) (by decide +kernel), false, rfl, iteF ?_⟩
      refine ⟨_, rfl, rfl, false, congrArg V.bl (decide_eq_false (fun z => nomatch z)), iteF ?_⟩
      refine ⟨_, rfl, _, _, _, _, true, rfl, .ty "str", .base (.str i), kitB_of (by decide +kernel), true, rfl, iteT ?_⟩
      refine ⟨_, rfl, _, rfl, rfl, true, congrArg V.bl (decide_eq_true rfl), iteT ?_⟩
      refine ⟨_, rfl, _, _, _, _, true, rfl, .ty "str", .base (.str i), kitB_of (by decide +kernel), _, rfl, _, _, _, _, true, rfl, .ty "str", .base (.str i), kitB_of (by decide +kernel), rfl, ?_⟩
      have e : decide (V.bl true = V.bl true) = true := decide_eq_true rfl
      rw [e]
      exact q _ s1
    | non =>
      refine ⟨_, p, _, _, [.type "list", .type "tuple"], false, rfl, upd_same, .cons (.ty _) (.cons (.ty _) .nil), .base .non, kit_lt (p := false) (r := false) (by decide +kernel) (by decide +kernel), false, rfl, iteF ?_⟩
      refine ⟨_, rfl, rfl, true, congrArg V.bl (decide_eq_true rfl), iteT ?_⟩
      refine iteT ?_
      refine ⟨_, rfl, _, rfl, rfl, true, congrArg V.bl (decide_eq_true rfl), iteT ?_⟩
      refine ⟨_, rfl, _, _, _, _, false, rfl, .ty "str", .base .non, kitB_of (by decide +kernel), _, rfl, _, _, _, _, false, rfl, .ty "str", .base .non, kitB_of (by decide +kernel), rfl, ?_⟩
      have e : decide (V.bl false = V.bl false) = true := decide_eq_true rfl
      rw [e]
      exact q _ s1
    | _ => exact px.elim
  · rcases kinds with ⟨ha, hb⟩ | ⟨ha, hb⟩
    · have ha1 := s1 _ _ ha
      have hb1 := s1 _ _ hb
      refine ⟨_, p, _, _, [.type "list", .type "tuple"], true, rfl, upd_same, .cons (.ty _) (.cons (.ty _) .nil), .base (.lst hb1), kit_lt (p := true) (r := false) (by decide +kernel) (by decide +kernel), true, rfl, iteT ?_⟩
      refine ⟨_, rfl, _, _, _, _, true, rfl, .ty "list", .base (.lst ha1), kitB_of (by decide +kernel), _, rfl, _, _, _, _, true, rfl, .ty "list", .base (.lst hb1), kitB_of (by decide +kernel), rfl, false, congrArg (fun z => V.bl (!z)) (decide_eq_true rfl), iteF ?_⟩
      refine ⟨_, rfl, _, _, _, _, false, rfl, .ty "tuple", .base (.lst ha1), kitB_of (by decide +kernel), _, rfl, _, _, _, _, false, rfl, .ty "tuple", .base (.lst hb1), kitB_of (by decide +kernel), rfl, false, congrArg (fun z => V.bl (!z)) (decide_eq_true rfl), iteF ?_⟩
      refine ⟨_, rfl, a, _, rfl, .inl (.inl (.inl ha1)), _, rfl, b, _, rfl, .inl (.inl (.inl hb1)), rfl, false, congrArg (fun z => V.bl (!z)) (decide_eq_true (by rw [hl])), iteF ?_⟩
      refine ⟨_, rfl, _, rfl, a, b, xs, ys, rfl, .inl ⟨.inl (.inl ha1), .inl (.inl hb1), fun D hD => ?_⟩⟩
      refine lc_pairs (J := Itz K a b) (xs := xs) (ys := ys) hl (fun i H2 => H2 D = some (.lst (List.replicate i (V.bl true))) ∧ Same _ H2)
        (fun H2 h => ⟨xs, ys, .inl (.inl (h.2 _ _ ha1)), .inl (.inl (h.2 _ _ hb1)), .inl (Nat.le_refl _)⟩)
        (fun i H2 lt h => ⟨xs, ys, xs[i], ys[i]'(by omega), .inl (.inl (h.2 _ _ ha1)), .inl (.inl (h.2 _ _ hb1)), List.getElem?_eq_getElem lt, List.getElem?_eq_getElem (by omega)⟩)
        (fun i H2 v H3 h ⟨T, u, v', e1, hT, e2, f1, f2⟩ => ⟨T, u, v', e1, f1 xs (.inl (.inl (h.2 _ _ ha1))), f2 ys (.inl (.inl (h.2 _ _ hb1))), hT, e2⟩)
        ⟨upd_same, same_new hD _⟩ (fun i u v T H2 hu hv h hT => ?_) (fun H2 h => ⟨D, List.replicate xs.length true, rfl, .inl (.inl (by rw [List.map_replicate]; exact h.1)), ?_⟩)
      · have sT := same_new hT (.tup [u, v])
        refine ⟨T, _, rfl, .inl (.inl upd_same), rfl, _, _, rfl, _, _, rfl, rfl, rfl, ?_⟩
        have lt : i < xs.length := (List.getElem?_eq_some_iff.mp hu).1
        refine ⟨_, rfl, _, rfl, u, v, m, rfl, rfl, Alike.mono (s1.trans (h.2.trans sT)) m (each i u v hu hv), fun H4 s4 => ⟨_, s4 _ _ (sT _ _ h.1), ?_, ?_, ?_⟩⟩
        · rw [List.length_replicate]; exact Nat.lt_of_lt_of_le (by omega : i < 1000000) (by decide)
        · rw [upd_same, List.replicate_succ']
        · intro c o z
          have nD : c ≠ D := fun e => by subst e; rw [hD] at z; cases z
          rw [upd_ne nD]
          exact s4 _ _ (sT _ _ (h.2 _ _ z))
      · have e : (List.replicate xs.length true).all id = true := by rw [List.all_eq_true]; intro x hx; rw [List.eq_of_mem_replicate hx]; rfl
        rw [e]
        exact q _ (s1.trans h.2)
    · have ha1 := s1 _ _ ha
      have hb1 := s1 _ _ hb
      refine ⟨_, p, _, _, [.type "list", .type "tuple"], true, rfl, upd_same, .cons (.ty _) (.cons (.ty _) .nil), .base (.tup hb1), kit_lt (p := false) (r := true) (by decide +kernel) (by decide +kernel), true, rfl, iteT ?_⟩
      refine ⟨_, rfl, _, _, _, _, false, rfl, .ty "list", .base (.tup ha1), kitB_of (by decide +kernel), _, rfl, _, _, _, _, false, rfl, .ty "list", .base (.tup hb1), kitB_of (by decide +kernel), rfl, false, congrArg (fun z => V.bl (!z)) (decide_eq_true rfl), iteF ?_⟩
      refine ⟨_, rfl, _, _, _, _, true, rfl, .ty "tuple", .base (.tup ha1), kitB_of (by decide +kernel), _, rfl, _, _, _, _, true, rfl, .ty "tuple", .base (.tup hb1), kitB_of (by decide +kernel), rfl, false, congrArg (fun z => V.bl (!z)) (decide_eq_true rfl), iteF ?_⟩
      refine ⟨_, rfl, a, _, rfl, .inr (.inl (.inl ha1)), _, rfl, b, _, rfl, .inr (.inl (.inl hb1)), rfl, false, congrArg (fun z => V.bl (!z)) (decide_eq_true (by rw [hl])), iteF ?_⟩
      refine ⟨_, rfl, _, rfl, a, b, xs, ys, rfl, .inr ⟨.inl (.inl ha1), .inl (.inl hb1), fun D hD => ?_⟩⟩
      refine lc_pairs (J := ItzT K a b) (xs := xs) (ys := ys) hl (fun i H2 => H2 D = some (.lst (List.replicate i (V.bl true))) ∧ Same _ H2)
        (fun H2 h => ⟨xs, ys, .inl (.inl (h.2 _ _ ha1)), .inl (.inl (h.2 _ _ hb1)), .inl (Nat.le_refl _)⟩)
        (fun i H2 lt h => ⟨xs, ys, xs[i], ys[i]'(by omega), .inl (.inl (h.2 _ _ ha1)), .inl (.inl (h.2 _ _ hb1)), List.getElem?_eq_getElem lt, List.getElem?_eq_getElem (by omega)⟩)
        (fun i H2 v H3 h ⟨T, u, v', e1, hT, e2, f1, f2⟩ => ⟨T, u, v', e1, f1 xs (.inl (.inl (h.2 _ _ ha1))), f2 ys (.inl (.inl (h.2 _ _ hb1))), hT, e2⟩)
        ⟨upd_same, same_new hD _⟩ (fun i u v T H2 hu hv h hT => ?_) (fun H2 h => ⟨D, List.replicate xs.length true, rfl, .inl (.inl (by rw [List.map_replicate]; exact h.1)), ?_⟩)
      · have sT := same_new hT (.tup [u, v])
        refine ⟨T, _, rfl, .inl (.inl upd_same), rfl, _, _, rfl, _, _, rfl, rfl, rfl, ?_⟩
        have lt : i < xs.length := (List.getElem?_eq_some_iff.mp hu).1
        refine ⟨_, rfl, _, rfl, u, v, m, rfl, rfl, Alike.mono (s1.trans (h.2.trans sT)) m (each i u v hu hv), fun H4 s4 => ⟨_, s4 _ _ (sT _ _ h.1), ?_, ?_, ?_⟩⟩
        · rw [List.length_replicate]; exact Nat.lt_of_lt_of_le (by omega : i < 1000000) (by decide)
        · rw [upd_same, List.replicate_succ']
        · intro c o z
          have nD : c ≠ D := fun e => by subst e; rw [hD] at z; cases z
          rw [upd_ne nD]
          exact s4 _ _ (sT _ _ (h.2 _ _ z))
      · have e : (List.replicate xs.length true).all id = true := by rw [List.all_eq_true]; intro x hx; rw [List.eq_of_mem_replicate hx]; rfl
        rw [e]
        exact q _ (s1.trans h.2)
theorem same_ok {f : Addr} {fd : FuncData} (F : Fun K "_law_same" "_law_same" sSame f fd) (b2 : Binds K fd ["_law_found", "_law_due"] []) (mF : mg "_law_same" = some (.ref f)) (M : SameG mg) :
    ∀ n : Nat, FnOk P w K mg base CX0 n f fd ["_law_found", "_law_due"] (spSame n)
  | 0 => none_left fun vs H Q E h => by
    obtain ⟨x, y, m, _, e, _⟩ := h
    omega
  | n + 1 => ok_same F b2 mF (same_ok F b2 mF M n) M
end
end Rp

/-! Data of any depth: what stands as which, and which data are TERMs. -/
namespace Rp
open PySem L2
/-- a tuple stands at a, plain or not -/
def TupAt (H : Hp) (a : Addr) (xs : List V) : Prop := H a = some (.tup xs) ∨ ∃ o, H a = some (.frz o (.tup xs))
theorem TupAt.same {H H' : Hp} {a : Addr} {xs : List V} (e : Same H H') (h : TupAt H a xs) : TupAt H' a xs := h.imp (fun q => e _ _ q) fun ⟨o, q⟩ => ⟨o, e _ _ q⟩
theorem TupAt.but {H H' : Hp} {b a : Addr} {ys xs : List V} (e : But b H H') (hb : H b = some (.lst ys)) (h : TupAt H a xs) : TupAt H' a xs :=
  h.imp (fun q => e _ _ q (ne_of q hb (by intro z; cases z))) fun ⟨o, q⟩ => ⟨o, e _ _ q (ne_of q hb (by intro z; cases z))⟩
mutual
/-- the value v stands as the data d; its lists are others than the box b -/
def DAt (H : Hp) (b : Addr) : V → PyData → Prop
  | v, .none => v = .non
  | v, .bool c => v = .bl c
  | v, .int i => v = .int i
  | v, .str x => v = .str x
  | v, .list ds => ∃ (a : Addr) (xs : List V), v = .ref a ∧ a ≠ b ∧ H a = some (.lst xs) ∧ DAtAll H b xs ds
  | v, .tuple ds => ∃ (a : Addr) (xs : List V), v = .ref a ∧ TupAt H a xs ∧ DAtAll H b xs ds
  | _, .dict _ => False
def DAtAll (H : Hp) (b : Addr) : List V → List PyData → Prop
  | xs, [] => xs = []
  | xs, d :: ds => ∃ (x : V) (r : List V), xs = x :: r ∧ DAt H b x d ∧ DAtAll H b r ds
end
mutual
theorem DAt.dp {K : PySem.W.Frag} {H : Hp} {b : Addr} : ∀ (d : PyData) {v : V}, DAt H b v d → Dp K H v d
  | .none, _, h => by unfold DAt at h; subst h; exact .non
  | .bool _, _, h => by unfold DAt at h; subst h; exact .bl _
  | .int _, _, h => by unfold DAt at h; subst h; exact .int _
  | .str _, _, h => by unfold DAt at h; subst h; exact .str _
  | .list ds, _, h => by
    unfold DAt at h
    obtain ⟨a, xs, rfl, _, e, q⟩ := h
    exact .lst (.inl (.inl e)) (DAtAll.dp ds q)
  | .tuple ds, _, h => by
    unfold DAt at h
    obtain ⟨a, xs, rfl, e, q⟩ := h
    exact .tup (.inl e) (DAtAll.dp ds q)
  | .dict _, _, h => by unfold DAt at h; exact h.elim
theorem DAtAll.dp {K : PySem.W.Frag} {H : Hp} {b : Addr} : ∀ (ds : List PyData) {xs : List V}, DAtAll H b xs ds → DpAll K H xs ds
  | [], _, h => by unfold DAtAll at h; subst h; exact .nil
  | d :: ds, _, h => by
    unfold DAtAll at h
    obtain ⟨x, r, rfl, q, q'⟩ := h
    exact .cons (DAt.dp d q) (DAtAll.dp ds q')
end
mutual
theorem DAt.mono {H H' : Hp} {b : Addr} (et : ∀ a xs, TupAt H a xs → TupAt H' a xs) (el : ∀ a xs, a ≠ b → H a = some (.lst xs) → H' a = some (.lst xs)) : ∀ (d : PyData) {v : V}, DAt H b v d → DAt H' b v d
  | .none, _, h => by unfold DAt at h ⊢; exact h
  | .bool _, _, h => by unfold DAt at h ⊢; exact h
  | .int _, _, h => by unfold DAt at h ⊢; exact h
  | .str _, _, h => by unfold DAt at h ⊢; exact h
  | .list ds, _, h => by
    unfold DAt at h ⊢
    obtain ⟨a, xs, e, n, q, q'⟩ := h
    exact ⟨a, xs, e, n, el _ _ n q, DAtAll.mono et el ds q'⟩
  | .tuple ds, _, h => by
    unfold DAt at h ⊢
    obtain ⟨a, xs, e, q, q'⟩ := h
    exact ⟨a, xs, e, et _ _ q, DAtAll.mono et el ds q'⟩
  | .dict _, _, h => by unfold DAt at h; exact h.elim
theorem DAtAll.mono {H H' : Hp} {b : Addr} (et : ∀ a xs, TupAt H a xs → TupAt H' a xs) (el : ∀ a xs, a ≠ b → H a = some (.lst xs) → H' a = some (.lst xs)) : ∀ (ds : List PyData) {xs : List V}, DAtAll H b xs ds → DAtAll H' b xs ds
  | [], _, h => by unfold DAtAll at h ⊢; exact h
  | d :: ds, _, h => by
    unfold DAtAll at h ⊢
    obtain ⟨x, r, e, q, q'⟩ := h
    exact ⟨x, r, e, DAt.mono et el d q, DAtAll.mono et el ds q'⟩
end
theorem DAt.same {H H' : Hp} {b : Addr} (e : Same H H') {d : PyData} {v : V} (h : DAt H b v d) : DAt H' b v d := DAt.mono (fun a _ q => q.same e) (fun a _ _ q => e a _ q) d h
theorem DAt.but {H H' : Hp} {b : Addr} {ys : List V} (e : But b H H') (hb : H b = some (.lst ys)) {d : PyData} {v : V} (h : DAt H b v d) : DAt H' b v d :=
  DAt.mono (fun a _ q => q.but e hb) (fun a _ n q => e a _ q n) d h
theorem DAtAll.same {H H' : Hp} {b : Addr} (e : Same H H') {ds : List PyData} {xs : List V} (h : DAtAll H b xs ds) : DAtAll H' b xs ds := DAtAll.mono (fun a _ q => q.same e) (fun a _ _ q => e a _ q) ds h
theorem DAtAll.but {H H' : Hp} {b : Addr} {ys : List V} (e : But b H H') (hb : H b = some (.lst ys)) {ds : List PyData} {xs : List V} (h : DAtAll H b xs ds) : DAtAll H' b xs ds :=
  DAtAll.mono (fun a _ q => q.but e hb) (fun a _ n q => e a _ q n) ds h
theorem DAtAll.nil {H : Hp} {b : Addr} : DAtAll H b [] [] := by unfold DAtAll; rfl
theorem DAtAll.cons {H : Hp} {b : Addr} {x : V} {xs : List V} {d : PyData} {ds : List PyData} (h : DAt H b x d) (h' : DAtAll H b xs ds) : DAtAll H b (x :: xs) (d :: ds) := by unfold DAtAll; exact ⟨x, xs, rfl, h, h'⟩
theorem DAtAll.head {H : Hp} {b : Addr} {x : V} {xs : List V} {ds : List PyData} (h : DAtAll H b (x :: xs) ds) : ∃ d ds', ds = d :: ds' ∧ DAt H b x d ∧ DAtAll H b xs ds' := by
  cases ds with
  | nil => unfold DAtAll at h; cases h
  | cons d ds =>
    unfold DAtAll at h
    obtain ⟨y, r, e, q, q'⟩ := h
    cases e
    exact ⟨d, ds, rfl, q, q'⟩
theorem DAtAll.len {H : Hp} {b : Addr} : ∀ {xs : List V} {ds : List PyData}, DAtAll H b xs ds → xs.length = ds.length
  | xs, [], h => by unfold DAtAll at h; subst h; rfl
  | xs, d :: ds, h => by
    unfold DAtAll at h
    obtain ⟨x, r, rfl, _, q⟩ := h
    rw [List.length_cons, List.length_cons, DAtAll.len q]
theorem DAtAll.append {H : Hp} {b : Addr} : ∀ {xs ys : List V} {ds es : List PyData}, DAtAll H b xs ds → DAtAll H b ys es → DAtAll H b (xs ++ ys) (ds ++ es)
  | xs, ys, [], es, h, h' => by unfold DAtAll at h; subst h; exact h'
  | xs, ys, d :: ds, es, h, h' => by
    unfold DAtAll at h
    obtain ⟨x, r, rfl, q, q'⟩ := h
    exact .cons q (DAtAll.append q' h')
theorem DAtAll.parted {H : Hp} {b : Addr} : ∀ {xs ys : List V} {ds : List PyData}, DAtAll H b (xs ++ ys) ds → ∃ d1 d2, ds = d1 ++ d2 ∧ DAtAll H b xs d1 ∧ DAtAll H b ys d2
  | [], ys, ds, h => ⟨[], ds, rfl, .nil, h⟩
  | x :: xs, ys, ds, h => by
    obtain ⟨d, ds', rfl, q, q'⟩ := DAtAll.head h
    obtain ⟨d1, d2, rfl, h1, h2⟩ := DAtAll.parted q'
    exact ⟨d :: d1, d2, rfl, .cons q h1, h2⟩
theorem DAtAll.take {H : Hp} {b : Addr} : ∀ {xs : List V} {ds : List PyData} (n : Nat), DAtAll H b xs ds → DAtAll H b (xs.take n) (ds.take n)
  | xs, ds, 0, h => by simp; exact .nil
  | [], ds, n + 1, h => by have := h.len; cases ds with | nil => simpa using DAtAll.nil | cons => simp at this
  | x :: xs, ds, n + 1, h => by
    obtain ⟨d, ds', rfl, q, q'⟩ := DAtAll.head h
    exact .cons q (DAtAll.take n q')
theorem DAtAll.drop {H : Hp} {b : Addr} : ∀ {xs : List V} {ds : List PyData} (n : Nat), DAtAll H b xs ds → DAtAll H b (xs.drop n) (ds.drop n)
  | xs, ds, 0, h => by simpa using h
  | [], ds, n + 1, h => by have := h.len; cases ds with | nil => simpa using DAtAll.nil | cons => simp at this
  | x :: xs, ds, n + 1, h => by
    obtain ⟨d, ds', rfl, q, q'⟩ := DAtAll.head h
    simpa using DAtAll.drop n q'
theorem DAtAll.back {H : Hp} {b : Addr} : ∀ {xs : List V} {ds : List PyData}, DAtAll H b xs ds → DAtAll H b xs.reverse ds.reverse
  | [], ds, h => by have := h.len; cases ds with | nil => simpa using DAtAll.nil | cons => simp at this
  | x :: xs, ds, h => by
    obtain ⟨d, ds', rfl, q, q'⟩ := DAtAll.head h
    rw [List.reverse_cons, List.reverse_cons]
    exact (DAtAll.back q').append (.cons q .nil)
theorem DAtAll.get {H : Hp} {b : Addr} : ∀ {xs : List V} {ds : List PyData} {i : Nat} {x : V}, DAtAll H b xs ds → xs[i]? = some x → ∃ d, ds[i]? = some d ∧ DAt H b x d
  | [], ds, i, x, h, e => by simp at e
  | y :: xs, ds, 0, x, h, e => by
    obtain ⟨d, ds', rfl, q, q'⟩ := DAtAll.head h
    simp at e
    subst e
    exact ⟨d, rfl, q⟩
  | y :: xs, ds, i + 1, x, h, e => by
    obtain ⟨d, ds', rfl, q, q'⟩ := DAtAll.head h
    simpa using DAtAll.get q' (by simpa using e)
/-! ### TERMs as data -/
def tmD : Tm → PyData
  | .v n => .int n
  | .z => .tuple [.str "0"]
  | .s t => .tuple [.str "s", tmD t]
  | .f l r => .tuple [.str "f", tmD l, tmD r]
theorem TmAt.dat {H : Hp} {b : Addr} {v : V} {t : Tm} (h : TmAt H v t) : DAt H b v (tmD t) := by
  induction h with
  | v n => unfold tmD DAt; rfl
  | z h => unfold tmD DAt; exact ⟨_, _, rfl, .inl h, .cons (by unfold DAt; rfl) .nil⟩
  | s h _ ih => unfold tmD DAt; exact ⟨_, _, rfl, .inl h, .cons (by unfold DAt; rfl) (.cons ih .nil)⟩
  | f h _ _ ih ih' => unfold tmD DAt; exact ⟨_, _, rfl, .inl h, .cons (by unfold DAt; rfl) (.cons ih (.cons ih' .nil))⟩
theorem DAtAll.nil_of {H : Hp} {b : Addr} {xs : List V} (h : DAtAll H b xs []) : xs = [] := by unfold DAtAll at h; exact h
theorem DAtAll.cons_of {H : Hp} {b : Addr} {xs : List V} {d : PyData} {ds : List PyData} (h : DAtAll H b xs (d :: ds)) : ∃ x r, xs = x :: r ∧ DAt H b x d ∧ DAtAll H b r ds := by unfold DAtAll at h; exact h
theorem DAt.str_of {H : Hp} {b : Addr} {v : V} {x : Str} (h : DAt H b v (.str x)) : v = .str x := by unfold DAt at h; exact h
theorem DAt.int_of {H : Hp} {b : Addr} {v : V} {x : Int} (h : DAt H b v (.int x)) : v = .int x := by unfold DAt at h; exact h
theorem DAt.tup_of {H : Hp} {b : Addr} {v : V} {ds : List PyData} (h : DAt H b v (.tuple ds)) : ∃ (a : Addr) (xs : List V), v = .ref a ∧ TupAt H a xs ∧ DAtAll H b xs ds := by unfold DAt at h; exact h
theorem DAt.lst_of {H : Hp} {b : Addr} {v : V} {ds : List PyData} (h : DAt H b v (.list ds)) : ∃ (a : Addr) (xs : List V), v = .ref a ∧ a ≠ b ∧ H a = some (.lst xs) ∧ DAtAll H b xs ds := by unfold DAt at h; exact h
def IsT (d : PyData) : Prop := ∃ t, d = tmD t ∧ ∀ n ∈ t.nums, 0 ≤ n ∧ n ≤ 99
/-- a sign with as many parts as it takes -/
def Shaped (d : PyData) : Prop := ∃ (x : Str) (ds : List PyData), d = .tuple (.str x :: ds) ∧ ((x = "0" ∧ ds.length = 0) ∨ (x = "s" ∧ ds.length = 1) ∨ (x = "f" ∧ ds.length = 2))
theorem isT_shaped {x : Str} {ds : List PyData} (h : (x = "0" ∧ ds.length = 0) ∨ (x = "s" ∧ ds.length = 1) ∨ (x = "f" ∧ ds.length = 2)) : IsT (.tuple (.str x :: ds)) ↔ ∀ d ∈ ds, IsT d := by
  have s0 : ("0" : Str) ≠ "s" := by decide +kernel
  have s1 : ("0" : Str) ≠ "f" := by decide +kernel
  have s2 : ("s" : Str) ≠ "f" := by decide +kernel
  rcases h with ⟨rfl, h⟩ | ⟨rfl, h⟩ | ⟨rfl, h⟩
  · match ds, h with
    | [], _ => exact ⟨fun _ d hd => by simp at hd, fun _ => ⟨.z, rfl, fun n hn => by simp [Tm.nums] at hn⟩⟩
  · match ds, h with
    | [d], _ =>
      constructor
      · rintro ⟨t, e, g⟩ d' hd
        simp at hd
        subst hd
        cases t with
        | s t => unfold tmD at e; injection e with e; injection e with _ e; injection e with e _; exact ⟨t, e, g⟩
        | v n => cases e
        | z => unfold tmD at e; injection e with e; injection e with e _; injection e with e; exact absurd e.symm s0
        | f l r => unfold tmD at e; injection e with e; injection e with e _; injection e with e; exact absurd e s2
      · intro h
        obtain ⟨t, rfl, g⟩ := h d (by simp)
        exact ⟨.s t, rfl, g⟩
  · match ds, h with
    | [d, d'], _ =>
      constructor
      · rintro ⟨t, e, g⟩ d2 hd
        cases t with
        | f l r =>
          unfold tmD at e
          injection e with e
          injection e with _ e
          injection e with e1 e
          injection e with e2 _
          simp at hd
          rcases hd with rfl | rfl
          · exact ⟨l, e1, fun n hn => g n (by simp [Tm.nums, hn])⟩
          · exact ⟨r, e2, fun n hn => g n (by simp [Tm.nums, hn])⟩
        | v n => cases e
        | z => unfold tmD at e; injection e with e; injection e with e _; injection e with e; exact absurd e.symm s1
        | s t => unfold tmD at e; injection e with e; injection e with e _; injection e with e; exact absurd e.symm s2
      · intro h
        obtain ⟨l, rfl, g1⟩ := h d (by simp)
        obtain ⟨r, rfl, g2⟩ := h d' (by simp)
        refine ⟨.f l r, rfl, fun n hn => ?_⟩
        rcases List.mem_append.mp hn with q | q
        · exact g1 n q
        · exact g2 n q
theorem isT_int {n : Int} : IsT (.int n) ↔ 0 ≤ n ∧ n ≤ 99 := by
  constructor
  · rintro ⟨t, e, g⟩
    cases t with
    | v m => unfold tmD at e; injection e with e; subst e; exact g _ (by simp [Tm.nums])
    | z => cases e
    | s t => cases e
    | f l r => cases e
  · intro h
    exact ⟨.v n, rfl, fun m hm => by simp [Tm.nums] at hm; subst hm; exact h⟩
theorem isT_other {d : PyData} (h : ¬ Shaped d) (h' : ∀ n, d ≠ .int n) : ¬ IsT d := by
  rintro ⟨t, rfl, g⟩
  cases t with
  | v n => exact h' n rfl
  | z => exact h ⟨"0", [], rfl, .inl ⟨rfl, rfl⟩⟩
  | s t => exact h ⟨"s", [_], rfl, .inr (.inl ⟨rfl, rfl⟩)⟩
  | f l r => exact h ⟨"f", [_, _], rfl, .inr (.inr ⟨rfl, rfl⟩)⟩
end Rp

namespace Rp
open PySem PySem.Spec PyProof.Rows L2
def tyD : PyData → String
  | .none => "NoneType" | .bool _ => "bool" | .int _ => "int" | .str _ => "str" | .list _ => "list" | .tuple _ => "tuple" | .dict _ => "dict"
theorem DAt.tyx {K : PySem.W.Frag} {H : Hp} {b : Addr} {v : V} {d : PyData} (h : DAt H b v d) : TyX K H v (.type (tyD d)) := by
  cases d with
  | none => unfold DAt at h; subst h; exact .base .non
  | bool c => unfold DAt at h; subst h; exact .base (.bl c)
  | int i => unfold DAt at h; subst h; exact .base (.int i)
  | str x => unfold DAt at h; subst h; exact .base (.str x)
  | list ds => obtain ⟨a, xs, rfl, _, e, _⟩ := h.lst_of; exact .base (.lst e)
  | tuple ds => obtain ⟨a, xs, rfl, e, _⟩ := h.tup_of; rcases e with e | ⟨o, e⟩; exact .base (.tup e); exact .fTuple e
  | dict ds => unfold DAt at h; exact h.elim
def isI : PyData → Bool | .int _ => true | .bool _ => true | _ => false
def isB : PyData → Bool | .bool _ => true | _ => false
def isS : PyData → Bool | .str _ => true | _ => false
def isU : PyData → Bool | .tuple _ => true | _ => false
def isL : PyData → Bool | .list _ => true | _ => false
def isNum : PyData → Bool | .int _ => true | _ => false
section
variable {K : PySem.W.Frag}
theorem kitI (d : PyData) : PySem.W.kitOne K (.type (tyD d)) (.type "int") = some (isI d) := by cases d <;> exact kit_ty (by simp only [tyD, isI]; decide +kernel)
theorem kitB' (d : PyData) : PySem.W.kitOne K (.type (tyD d)) (.type "bool") = some (isB d) := by cases d <;> exact kit_ty (by simp only [tyD, isB]; decide +kernel)
theorem kitS (d : PyData) : PySem.W.kitOne K (.type (tyD d)) (.type "str") = some (isS d) := by cases d <;> exact kit_ty (by simp only [tyD, isS]; decide +kernel)
theorem kitU (d : PyData) : PySem.W.kitOne K (.type (tyD d)) (.type "tuple") = some (isU d) := by cases d <;> exact kit_ty (by simp only [tyD, isU]; decide +kernel)
theorem kitL (d : PyData) : PySem.W.kitOne K (.type (tyD d)) (.type "list") = some (isL d) := by cases d <;> exact kit_ty (by simp only [tyD, isL]; decide +kernel)
end
def okD (d : PyData) : Prop := d.canLay0 = true ∧ d.depth ≤ 60
theorem okAll {ds : List PyData} (h : PyData.canLayAll0 ds = true) (k : Nat) (hk : PyData.depthAll ds ≤ k) : ∀ d ∈ ds, d.canLay0 = true ∧ d.depth ≤ k := by
  induction ds with
  | nil => intro d hd; simp at hd
  | cons x ds ih =>
    simp only [PyData.canLayAll0, Bool.and_eq_true] at h
    simp only [PyData.depthAll] at hk
    intro d hd
    rcases List.mem_cons.mp hd with rfl | hd
    · exact ⟨h.1, by omega⟩
    · exact ih h.2 (by omega) d hd
theorem okD.tup {ds : List PyData} (h : okD (.tuple ds)) : ∀ d ∈ ds, okD d := fun d hd => by
  have h1 : PyData.canLayAll0 ds = true := by have := h.1; simpa [PyData.canLay0] using this
  have h2 : PyData.depthAll ds + 1 ≤ 60 := by have := h.2; simpa [PyData.depth] using this
  have := okAll h1 59 (by omega) d hd
  exact ⟨this.1, by omega⟩
theorem eqv_str {x : Str} {d : PyData} : PyData.eqv (.str x) d = true ↔ d = .str x := by
  cases d <;> simp [PyData.eqv]
  exact eq_comm
theorem eqv_tup {xs ys : List PyData} : PyData.eqv (.tuple xs) (.tuple ys) = PyData.eqvAll xs ys := by simp only [PyData.eqv]
theorem eqv_int {i j : Int} : PyData.eqv (.int i) (.int j) = (i == j) := by simp only [PyData.eqv]
theorem eqvAll_cons {x y : PyData} {xs ys : List PyData} : PyData.eqvAll (x :: xs) (y :: ys) = (PyData.eqv x y && PyData.eqvAll xs ys) := by simp only [PyData.eqvAll]
theorem eqvAll_nil : PyData.eqvAll [] [] = true := by simp only [PyData.eqvAll]
theorem hu65 {A : Around} {k : Nat} (hr : Room k A) : A.units + 65 < cLine := by have := hr.un; omega
def shapesD : PyData := .tuple [.tuple [.str "0", .int 1], .tuple [.str "s", .int 2], .tuple [.str "f", .int 3]]
def shapesL : List PyData := [.tuple [.str "0", .int 1], .tuple [.str "s", .int 2], .tuple [.str "f", .int 3]]
theorem shapes_any {d0 : PyData} {ds : List PyData} : (shapesL.any fun y => PyData.eqv y (.tuple [d0, .int ((ds.length + 1 : Nat) : Int)])) = true ↔ Shaped (.tuple (d0 :: ds)) := by
  have one : ∀ (x : Str) (n : Int), PyData.eqv (.tuple [.str x, .int n]) (.tuple [d0, .int ((ds.length + 1 : Nat) : Int)]) = true ↔ d0 = .str x ∧ n = ((ds.length + 1 : Nat) : Int) := by
    intro x n
    rw [eqv_tup, eqvAll_cons, eqvAll_cons, eqvAll_nil, eqv_int]
    simp only [Bool.and_true, Bool.and_eq_true, eqv_str, beq_iff_eq]
  simp only [shapesL, List.any_cons, List.any_nil, Bool.or_false, Bool.or_eq_true, one]
  constructor
  · rintro (⟨rfl, e⟩ | ⟨rfl, e⟩ | ⟨rfl, e⟩)
    · exact ⟨"0", ds, rfl, .inl ⟨rfl, by omega⟩⟩
    · exact ⟨"s", ds, rfl, .inr (.inl ⟨rfl, by omega⟩)⟩
    · exact ⟨"f", ds, rfl, .inr (.inr ⟨rfl, by omega⟩)⟩
  · rintro ⟨x, ds', e, h⟩
    injection e with e
    injection e with e1 e2
    subst e1 e2
    rcases h with ⟨rfl, h⟩ | ⟨rfl, h⟩ | ⟨rfl, h⟩
    · exact .inl ⟨rfl, by omega⟩
    · exact .inr (.inl ⟨rfl, by omega⟩)
    · exact .inr (.inr ⟨rfl, by omega⟩)
/-- x in t, t a tuple of data of any depth -/
def rInT (K : PySem.W.Frag) : R2 := fun x y H Q => ∃ (d : PyData) (ds : List PyData), Dp K H x d ∧ Dp K H y (.tuple ds) ∧ SeqAt.shaped d = true ∧ SeqAt.shaped (.tuple ds) = true ∧ Q (.bl (ds.any fun y => PyData.eqv y d)) H
section
variable {X : Cx}
theorem op_inT (hu : X.A.units + 65 < cLine) : OpR X (compareOp .In) (rInT X.K) := by
  intro pins s σ H x y v u Q I rx ry h
  obtain ⟨d, ds, hd, he, sd, se, q⟩ := h
  obtain ⟨as, r1⟩ := Dp.reads I d x v hd rx
  obtain ⟨bs, r2⟩ := Dp.reads I (.tuple ds) y u he ry
  exact SeqAt.in_tuple_reads r2 r1 (SeqAt.canLay_of_shaped se) (SeqAt.canLay_of_shaped sd) (room_in_shaped sd hu) ⟨.bl _, H, I, rfl, q⟩
end
theorem shaped_of {d : PyData} (h : d.canLay0 = true) (h' : d.depth ≤ 64) : SeqAt.shaped d = true := by
  show (d.canLay0 && decide (d.depth ≤ 64)) = true
  rw [h, decide_eq_true h']
  rfl
def spNumber : Sp := fun vs H Q _ => ∃ (b : Addr) (v : V) (d : PyData), vs = [v] ∧ DAt H b v d ∧ Q (.bl (isNum d)) H
def isVar : PyData → Bool | .int n => decide (0 ≤ n) && decide (n ≤ 99) | _ => false
def spVariable : Sp := fun vs H Q _ => ∃ (b : Addr) (v : V) (d : PyData), vs = [v] ∧ DAt H b v d ∧ Q (.bl (isVar d)) H
def spShape : Sp := fun vs H Q _ => ∃ (b : Addr) (v : V) (d : PyData), vs = [v] ∧ DAt H b v d ∧ okD d ∧ ∀ (r : Bool) (H' : Hp), (r = true ↔ Shaped d) → Same H H' → Q (.bl r) H'
section
variable {P : Program} {w : World} {K : PySem.W.Frag} {mg : Str → Option Value} {base : Heap}
theorem scNumber : FnScope ["thing"] ["thing"] (defScope sNumber) := ⟨rfl, rfl, rfl, by decide +kernel, rfl, by decide +kernel, by decide +kernel⟩
theorem ok_number {f : Addr} {fd : FuncData} (F : Fun K "is_number" "is_number" sNumber f fd) (M : SameG mg) : FnOk P w K mg base CX0 1 f fd ["thing"] spNumber := by
  refine F.ok scNumber (fun vs H Q E h => ?_) (fun cdv A outer s H vs Q E hr h => ?_)
  · obtain ⟨b, v, d, rfl, _⟩ := h
    rfl
  obtain ⟨b, v, d, rfl, D, q⟩ := h
  refine ⟨_, pss_one (ps_ret (pe_and (pe_callB (id := "isinstance") call_isi (by rfl) M.isi (by decide +kernel) (pa_cons (pv 0) (pa_cons (pe_bltn (v := .ty "int") (by rfl) M.int (by decide +kernel) rfl) pa_nil)))
    (pe_one (pe_not (pe_callB (id := "isinstance") call_isi (by rfl) M.isi (by decide +kernel) (pa_cons (pv 0) (pa_cons (pe_bltn (v := .ty "bool") (by rfl) M.bool (by decide +kernel) rfl) pa_nil))))))), ?_⟩
  refine ⟨_, rfl, _, _, _, _, isI d, rfl, .ty "int", D.tyx, kitI d, isI d, rfl, ?_⟩
  have second : (fun (σ : L2.St) => isI d = true → isB d = !(isNum d)) [] := by cases d <;> simp [isI, isB, isNum]
  have first : isI d = false → isNum d = false := by cases d <;> simp [isI, isNum]
  cases e : isI d with
  | false => exact iteF (by have z := first e; rw [z] at q; exact q)
  | true =>
    refine iteT ⟨_, rfl, _, _, _, _, isB d, rfl, .ty "bool", D.tyx, kitB' d, isB d, rfl, ?_⟩
    have z := second e
    rw [z]
    simpa using q
theorem scVariable : FnScope ["thing"] ["thing"] (defScope sVariable) := ⟨rfl, rfl, rfl, by decide +kernel, rfl, by decide +kernel, by decide +kernel⟩
theorem ok_variable {f fN : Addr} {fd fdN : FuncData} {tk : Tok} (F : Fun K "is_variable" "is_variable" sVariable f fd) (GN : FnOk P w K mg base CX0 1 fN fdN ["thing"] spNumber) (kN : PySem.W.keepIn K (.ref fN) = true) (bN : Binds K fdN ["thing"] []) (mN : mg "is_number" = some (.ref fN))
    (mLast : mg "LAST_VARIABLE" = some (.int 99 tk)) : FnOk P w K mg base CX0 2 f fd ["thing"] spVariable := by
  refine F.ok scVariable (fun vs H Q E h => ?_) (fun cdv A outer s H vs Q E hr h => ?_)
  · obtain ⟨b, v, d, rfl, _⟩ := h
    rfl
  obtain ⟨b, v, d, rfl, D, q⟩ := h
  refine ⟨_, pss_one (ps_ret (pe_and (pe_call GN hr rfl mN kN bN .nil pass0 (pa_cons (pv 0) pa_nil)) (pe_one (pe_chain op_le op_le pe_int (pv 0) (pe_glob (v := .int 99) rfl mLast ⟨_, rfl⟩))))), ?_⟩
  refine ⟨_, rfl, b, v, d, rfl, D, isNum d, rfl, ?_⟩
  cases d with
  | int n =>
    have ev := D.int_of
    subst ev
    refine iteT ⟨_, rfl, _, _, rfl, rfl, decide (0 ≤ n), rfl, ?_⟩
    cases e : decide (0 ≤ n) with
    | false => exact iteF (by simpa [isVar, e] using q)
    | true => exact iteT ⟨_, _, rfl, rfl, by simpa [isVar, e] using q⟩
  | _ => exact iteF q
theorem scShape : FnScope ["thing"] ["thing"] (defScope sShape) := ⟨rfl, rfl, rfl, by decide +kernel, rfl, by decide +kernel, by decide +kernel⟩
theorem ok_shape {f aS : Addr} {fd : FuncData} (F : Fun K "_has_shape" "_has_shape" sShape f fd) (M : SameG mg) (mS : mg "SHAPES" = some (.ref aS)) (hS : ∀ H, Dp K H (.ref aS) shapesD) : FnOk P w K mg base CX0 1 f fd ["thing"] spShape := by
  refine F.ok scShape (fun vs H Q E h => ?_) (fun cdv A outer s H vs Q E hr h => ?_)
  · obtain ⟨b, v, d, rfl, _⟩ := h
    rfl
  obtain ⟨b, v, d, rfl, D, ok, q⟩ := h
  refine ⟨_, pss_cons (ps_if (PW.pt (pw_or (pt_not (pt_val (pe_callB (id := "isinstance") call_isi (by rfl) M.isi (by decide +kernel) (pa_cons (pv 0) (pa_cons (pe_bltn (v := .ty "tuple") (by rfl) M.tuple (by decide +kernel) rfl) pa_nil)))))
      (pw_or1 (pt_not (pt_truth (pv 0) (by intro _; rfl)))))) (pss_one (ps_ret pe_bl)) pss_nil)
    (pss_one (ps_ret (pe_cmpR (op_inT (hu65 hr)) (pe_tup (pa_cons (pe_ix ix_tup (pv 0) pe_int (fun _ _ => rfl)) (pa_cons (pe_callB call_len_seq (by rfl) M.len PySem.boot_len (pa_cons (pv 0) pa_nil)) pa_nil))) (pe_glob (v := .ref aS) rfl mS rfl) (by rfl)))), ?_⟩
  refine ⟨_, rfl, _, _, _, _, isU d, rfl, .ty "tuple", D.tyx, kitU d, isU d, rfl, ?_⟩
  cases d with
  | tuple ds =>
    obtain ⟨a, xs, rfl, ha, A'⟩ := D.tup_of
    refine iteF ⟨_, rfl, !xs.isEmpty, .inr (.inl ⟨xs, .inl ha, rfl⟩), ?_⟩
    cases xs with
    | nil =>
      refine iteT (q false H ⟨(fun e => nomatch e), ?_⟩ (Same.refl H))
      rintro ⟨x, ds', e, _⟩
      injection e with e
      subst e
      have := A'.len
      simp at this
    | cons x0 xr =>
      obtain ⟨d0, dr, rfl, D0, Dr⟩ := A'.head
      have el := Dr.len
      refine iteF ⟨_, rfl, a, _, _, _, rfl, rfl, .inl ha, at_of (j := 0) rfl rfl, _, rfl, a, _, rfl, .inr (.inl ha), (by show 2 ≤ sizeLine; decide), fun p hp => ?_⟩
      have s1 := same_new hp (.tup [x0, .int (((x0 :: xr).length : Nat) : Int)])
      have o0 := ok.tup d0 (by simp)
      refine ⟨.tuple [d0, .int ((dr.length + 1 : Nat) : Int)], shapesL, .tup (.inl (.inl upd_same)) (.cons (D0.same s1).dp (.cons ?_ .nil)), hS _, ?_, by decide +kernel, ?_⟩
      · rw [List.length_cons, el]; exact .int _
      · refine shaped_of ?_ ?_
        · simp [PyData.canLay0, PyData.canLayAll0, o0.1]
        · have := o0.2
          simp only [PyData.depth, PyData.depthAll]
          omega
      · exact q _ _ shapes_any s1
  | _ => exact iteT (q false H ⟨(fun e => nomatch e), (fun ⟨x, ds', e, _⟩ => nomatch e)⟩ (Same.refl H))
end
end Rp

/-! Data of small ints and a few short texts: how large they are, what is said of them. -/
namespace Rp
open PySem PySem.Spec PyProof.Rows L2
def okText (x : Str) : Prop := x = "" ∨ x = "0" ∨ x = "s" ∨ x = "f" ∨ x = "x" ∨ x = "g" ∨ x = "x0"
mutual
def fine (U : List Int) : PyData → Prop
  | .none => True | .bool _ => True | .int i => i ∈ U | .str x => okText x | .list ds => fineAll U ds | .tuple ds => fineAll U ds | .dict _ => False
def fineAll (U : List Int) : List PyData → Prop
  | [] => True
  | d :: ds => fine U d ∧ fineAll U ds
end
mutual
def nd : PyData → Nat
  | .list ds => ndAll ds + 1 | .tuple ds => ndAll ds + 1 | _ => 1
def ndAll : List PyData → Nat
  | [] => 0
  | d :: ds => nd d + ndAll ds
end
theorem nd_pos (d : PyData) : 1 ≤ nd d := by cases d <;> simp [nd]
theorem ndAll_append : ∀ a b : List PyData, ndAll (a ++ b) = ndAll a + ndAll b
  | [], b => by simp [ndAll]
  | x :: a, b => by simp only [List.cons_append, ndAll, ndAll_append a b]; omega
theorem ndAll_mem : ∀ {ds : List PyData} {d : PyData}, d ∈ ds → nd d ≤ ndAll ds
  | x :: ds, d, h => by
    simp only [ndAll]
    rcases List.mem_cons.mp h with rfl | h
    · omega
    · have := ndAll_mem h; omega
theorem ndAll_len : ∀ ds : List PyData, ds.length ≤ ndAll ds
  | [] => Nat.le_refl _
  | d :: ds => by have := ndAll_len ds; have := nd_pos d; simp only [ndAll, List.length_cons]; omega
theorem fineAll_iff {U : List Int} : ∀ {ds : List PyData}, fineAll U ds ↔ ∀ d ∈ ds, fine U d
  | [] => by simp [fineAll]
  | d :: ds => by simp only [fineAll, fineAll_iff (ds := ds), List.forall_mem_cons]
theorem depthAll_iff {k : Nat} : ∀ {ds : List PyData}, PyData.depthAll ds ≤ k ↔ ∀ d ∈ ds, d.depth ≤ k
  | [] => by simp [PyData.depthAll]
  | d :: ds => by simp only [PyData.depthAll, List.forall_mem_cons, ← depthAll_iff (ds := ds)]; omega
theorem okText_lay {x : Str} (h : okText x) : PyData.canLay0 (.str x) = true ∧ x.cps.size ≤ 2 := by
  rcases h with rfl | rfl | rfl | rfl | rfl | rfl | rfl <;> exact ⟨by decide +kernel, by decide +kernel⟩
/-- the few ints of a row of data -/
structure Few (U : List Int) : Prop where
  le : ∀ i ∈ U, -1 ≤ i ∧ i ≤ 100
  len : U.length ≤ 20
mutual
theorem fine_lay {U : List Int} (hU : Few U) : ∀ d : PyData, fine U d → d.canLay0 = true ∧ d.showable = true ∧ d.intsShort 13 = true ∧ d.hasDict = false ∧ d.weight + 1 ≤ 110 * nd d
  | .none, _ => ⟨rfl, rfl, rfl, rfl, by decide⟩
  | .bool b, _ => ⟨rfl, rfl, rfl, rfl, by simp [PyData.weight, nd]⟩
  | .int i, h => by
    have h : -1 ≤ i ∧ i ≤ 100 := hU.le i h
    have a : i.natAbs ≤ 100 := by omega
    have b := Nat.log2_le_self i.natAbs
    refine ⟨rfl, ?_, ?_, rfl, ?_⟩
    · simp only [PyData.showable, decide_eq_true_eq]; omega
    · simp only [PyData.intsShort, decide_eq_true_eq]; exact PyData.shown_int_le (by omega)
    · simp only [PyData.weight, nd]; split <;> omega
  | .str x, h => by
    have z := okText_lay h
    refine ⟨z.1, rfl, rfl, rfl, ?_⟩
    simp only [PyData.weight, nd]
    omega
  | .list ds, h => by
    have z := fine_layAll hU ds h
    simp only [PyData.canLay0, PyData.showable, PyData.intsShort, PyData.hasDict, PyData.weight, nd]
    refine ⟨z.1, z.2.1, z.2.2.1, z.2.2.2.1, by omega⟩
  | .tuple ds, h => by
    have z := fine_layAll hU ds h
    simp only [PyData.canLay0, PyData.showable, PyData.intsShort, PyData.hasDict, PyData.weight, nd]
    refine ⟨z.1, z.2.1, z.2.2.1, z.2.2.2.1, by omega⟩
  | .dict _, h => h.elim
theorem fine_layAll {U : List Int} (hU : Few U) : ∀ ds : List PyData, fineAll U ds → PyData.canLayAll0 ds = true ∧ PyData.showableAll ds = true ∧ PyData.intsShortAll 13 ds = true ∧ PyData.hasDictAll ds = false ∧ PyData.weightAll ds ≤ 110 * ndAll ds
  | [], _ => ⟨rfl, rfl, rfl, rfl, by decide⟩
  | d :: ds, h => by
    have h : fine U d ∧ fineAll U ds := h
    have a := fine_lay hU d h.1
    have b := fine_layAll hU ds h.2
    simp only [PyData.canLayAll0, PyData.showableAll, PyData.intsShortAll, PyData.hasDictAll, PyData.weightAll, ndAll, Bool.and_eq_true, Bool.or_eq_false_iff]
    exact ⟨⟨a.1, b.1⟩, ⟨a.2.1, b.2.1⟩, ⟨a.2.2.1, b.2.2.1⟩, ⟨a.2.2.2.1, b.2.2.2.1⟩, by omega⟩
end
/-- fine, of at most n nodes, at most k deep -/
structure Good (U : List Int) (n k : Nat) (d : PyData) : Prop where
  fine : fine U d
  nd : nd d ≤ n
  dp : d.depth ≤ k
theorem Good.more {U : List Int} {n k n' k' : Nat} {d : PyData} (h : Good U n k d) (hn : n ≤ n') (hk : k ≤ k') : Good U n' k' d := ⟨h.fine, by have := h.nd; omega, by have := h.dp; omega⟩
theorem Good.ok {U : List Int} (hU : Few U) {n k : Nat} {d : PyData} (h : Good U n k d) (hk : k ≤ 60) : okD d := ⟨(fine_lay hU d h.fine).1, by have := h.dp; omega⟩
theorem Good.shown {U : List Int} (hU : Few U) {n k : Nat} {d : PyData} (h : Good U n k d) (hn : n ≤ 9000) (hk : k ≤ 60) : d.showable = true ∧ d.hasDict = false ∧ d.depth ≤ 64 ∧ d.shown.length ≤ 15728653 := by
  obtain ⟨h1, h2, h3, h4, h5⟩ := fine_lay hU d h.fine
  have n1 := h.nd
  have k1 := h.dp
  refine ⟨h2, h4, by omega, shown_le13 ?_ h3⟩
  unfold PyData.layable0
  rw [h1, decide_eq_true (by omega : d.depth ≤ 64), decide_eq_true (by omega : d.weight ≤ 2 ^ 20)]
  rfl
theorem Good.tup {U : List Int} {n k : Nat} {ds : List PyData} (h : Good U n k (.tuple ds)) : (∀ d ∈ ds, Rp.fine U d) ∧ ndAll ds + 1 ≤ n ∧ ∀ d ∈ ds, d.depth + 1 ≤ k := by
  refine ⟨fineAll_iff.mp h.fine, by simpa [Rp.nd] using h.nd, fun d hd => ?_⟩
  have k1 : PyData.depthAll ds + 1 ≤ k := by simpa [PyData.depth] using h.dp
  have := depthAll_iff.mp (Nat.le_refl (PyData.depthAll ds)) d hd
  omega
theorem Good.lst {U : List Int} {n k : Nat} {ds : List PyData} (h : Good U n k (.list ds)) : (∀ d ∈ ds, Rp.fine U d) ∧ ndAll ds + 1 ≤ n ∧ ∀ d ∈ ds, d.depth + 1 ≤ k := by
  refine ⟨fineAll_iff.mp h.fine, by simpa [Rp.nd] using h.nd, fun d hd => ?_⟩
  have k1 : PyData.depthAll ds + 1 ≤ k := by simpa [PyData.depth] using h.dp
  have := depthAll_iff.mp (Nat.le_refl (PyData.depthAll ds)) d hd
  omega
theorem good_lst {U : List Int} {n k : Nat} {ds : List PyData} (h : ∀ d ∈ ds, fine U d) (hn : ndAll ds + 1 ≤ n) (hk : ∀ d ∈ ds, d.depth + 1 ≤ k) (k1 : 1 ≤ k) : Good U n k (.list ds) := by
  refine ⟨fineAll_iff.mpr h, by simpa [Rp.nd] using hn, ?_⟩
  have : PyData.depthAll ds ≤ k - 1 := depthAll_iff.mpr fun d hd => by have := hk d hd; omega
  simp only [PyData.depth]
  omega
theorem good_tup {U : List Int} {n k : Nat} {ds : List PyData} (h : ∀ d ∈ ds, fine U d) (hn : ndAll ds + 1 ≤ n) (hk : ∀ d ∈ ds, d.depth + 1 ≤ k) (k1 : 1 ≤ k) : Good U n k (.tuple ds) := by
  refine ⟨fineAll_iff.mpr h, by simpa [Rp.nd] using hn, ?_⟩
  have : PyData.depthAll ds ≤ k - 1 := depthAll_iff.mpr fun d hd => by have := hk d hd; omega
  simp only [PyData.depth]
  omega
/-- a TERM's data are good -/
theorem tm_good {U : List Int} : ∀ t : Tm, (∀ n ∈ t.nums, n ∈ U) → Good U (2 * t.size) (t.deep + 1) (tmD t)
  | .v n, h => ⟨h n (by simp [Tm.nums]), by simp [tmD, Rp.nd, Tm.size], by simp [tmD, PyData.depth]⟩
  | .z, _ => ⟨⟨.inr (.inl rfl), trivial⟩, by simp [tmD, Rp.nd, ndAll, Tm.size], by simp [tmD, PyData.depth, PyData.depthAll]⟩
  | .s t, h => by
    have g := tm_good t h
    have h1 := g.nd
    have h2 := g.dp
    unfold tmD
    refine good_tup (fun d hd => ?_) ?_ (fun d hd => ?_) (by omega)
    · simp at hd; rcases hd with rfl | rfl
      · exact .inr (.inr (.inl rfl))
      · exact g.fine
    · simp only [ndAll, Rp.nd, Tm.size]; omega
    · simp at hd; rcases hd with rfl | rfl
      · simp [PyData.depth, Tm.deep]
      · simp only [Tm.deep]; omega
  | .f l r, h => by
    have g := tm_good l fun n hn => h n (by simp [Tm.nums, hn])
    have g' := tm_good r fun n hn => h n (by simp [Tm.nums, hn])
    have h1 := g.nd
    have h2 := g.dp
    have h3 := g'.nd
    have h4 := g'.dp
    unfold tmD
    refine good_tup (fun d hd => ?_) ?_ (fun d hd => ?_) (by omega)
    · simp at hd; rcases hd with rfl | rfl | rfl
      · exact .inr (.inr (.inr (.inl rfl)))
      · exact g.fine
      · exact g'.fine
    · simp only [ndAll, Rp.nd, Tm.size]; omega
    · simp at hd; rcases hd with rfl | rfl | rfl
      · simp [PyData.depth, Tm.deep]
      · simp only [Tm.deep]; omega
      · simp only [Tm.deep]; omega
/-- ints of a TERM among the data's -/
theorem tm_fine {U : List Int} : ∀ t : Tm, fine U (tmD t) → ∀ n ∈ t.nums, n ∈ U
  | .v n, h, m, hm => by simp [Tm.nums] at hm; subst hm; exact h
  | .z, h, m, hm => by simp [Tm.nums] at hm
  | .s t, h, m, hm => tm_fine t h.2.1 m hm
  | .f l r, h, m, hm => by
    rcases List.mem_append.mp hm with q | q
    · exact tm_fine l h.2.1 m q
    · exact tm_fine r h.2.2.1 m q
theorem nodup_le : ∀ {L U : List Int}, L.Nodup → (∀ k ∈ L, k ∈ U) → L.length ≤ U.length
  | [], U, _, _ => Nat.zero_le _
  | x :: L, U, h, hs => by
    rw [List.nodup_cons] at h
    have hx := hs x (by simp)
    have := nodup_le (L := L) (U := U.erase x) h.2 fun k hk => (List.mem_erase_of_ne (fun e => h.1 (by rw [← e]; exact hk))).mpr (hs k (by simp [hk]))
    rw [List.length_erase_of_mem hx] at this
    have := List.length_pos_of_mem hx
    rw [List.length_cons]
    omega
/-- the other way: a TERM's data tell its size -/
theorem tm_size : ∀ t : Tm, t.size ≤ nd (tmD t) ∧ t.deep ≤ (tmD t).depth
  | .v n => ⟨by simp [tmD, nd, Tm.size], by simp [Tm.deep]⟩
  | .z => ⟨by simp [tmD, nd, Tm.size], by simp [Tm.deep]⟩
  | .s t => by
    have := tm_size t
    simp only [tmD, nd, ndAll, Tm.size, Tm.deep, PyData.depth, PyData.depthAll]
    omega
  | .f l r => by
    have := tm_size l
    have := tm_size r
    simp only [tmD, nd, ndAll, Tm.size, Tm.deep, PyData.depth, PyData.depthAll]
    omega
end Rp

namespace Rp
open PySem PySem.Spec PyProof.Rows L2
def spTerm : Sp := fun vs H Q _ => ∃ (b : Addr) (v : V) (d : PyData), vs = [v] ∧ DAt H b v d ∧ okD d ∧ nd d ≤ 1000 ∧ ∀ (r : Bool) (H' : Hp), (r = true ↔ IsT d) → Same H H' → Q (.bl r) H'
def spVarsU : Sp := fun vs H Q _ => ∃ (v : V) (t : Tm) (U : List Int), vs = [v] ∧ TmAt H v t ∧ t.size ≤ 1000 ∧ (∀ n ∈ t.nums, n ∈ U) ∧ U.length ≤ 60 ∧
  ∀ (p : Addr) (ns : List Int) (H' : Hp), H p = none → H' p = some (.lst (ns.map V.int)) → ns.Pairwise (· < ·) → (∀ k, k ∈ ns ↔ k ∈ t.nums) → Same H H' → Q (.ref p) H'
def spClosed : Sp := fun vs H Q _ => ∃ (b : Addr) (v : V) (d : PyData) (U : List Int), vs = [v] ∧ DAt H b v d ∧ Few U ∧ Good U 1000 60 d ∧ ∀ (r : Bool) (H' : Hp), (r = true ↔ ∃ t, d = tmD t ∧ t.nums = []) → Same H H' → Q (.bl r) H'
theorem isVar_iff {d : PyData} (h : ¬ Shaped d) : isVar d = true ↔ IsT d := by
  cases d with
  | int n => rw [isT_int]; simp [isVar]
  | _ => exact ⟨fun e => by simp [isVar] at e, fun e => absurd e (isT_other h fun n z => by cases z)⟩
section
variable {P : Program} {w : World} {K : PySem.W.Frag} {mg : Str → Option Value} {base : Heap}
theorem scTerm : FnScope ["thing", "todo", "part"] ["thing"] (defScope sTerm) := ⟨rfl, rfl, rfl, by decide +kernel, rfl, by decide +kernel, by decide +kernel⟩
theorem ok_term {f fS fV : Addr} {fd dS dV : FuncData} (F : Fun K "is_term" "is_term" sTerm f fd)
    (GS : FnOk P w K mg base CX0 1 fS dS ["thing"] spShape) (kS : PySem.W.keepIn K (.ref fS) = true) (bS : Binds K dS ["thing"] []) (mS : mg "_has_shape" = some (.ref fS))
    (GV : FnOk P w K mg base CX0 2 fV dV ["thing"] spVariable) (kV : PySem.W.keepIn K (.ref fV) = true) (bV : Binds K dV ["thing"] []) (mV : mg "is_variable" = some (.ref fV)) :
    FnOk P w K mg base CX0 3 f fd ["thing"] spTerm := by
  refine F.ok scTerm (fun vs H Q E h => ?_) (fun cdv A outer s H vs Q E hr h => ?_)
  · obtain ⟨b, v, d, rfl, _⟩ := h
    rfl
  obtain ⟨b, v, d, rfl, D, ok, hn, q⟩ := h
  have r1 : Room 1 _ := hr.mono (by decide)
  refine ⟨_, pss_cons (ps_set (i := 1) scTerm.nd rfl (Or.inl rfl) (pe_lst (pa_cons (pv 0) pa_nil)))
    (pss_cons (ps_while PassesOwn.never (pt_truth (pv 1) (by intro _; rfl))
      (pss_cons (ps_set (i := 2) scTerm.nd rfl (Or.inl rfl) (pe_bm0 PySem.F.plainAttrs_list PySem.F.slot_list_pop PySem.F.type_list_pop mt_pop (pv 1)))
      (pss_one (ps_if (pt_val (pe_call GS r1 rfl mS kS bS .nil pass0 (pa_cons (pv 2) pa_nil)))
        (pss_one (ps_expr (pe_bm PySem.F.plainAttrs_list PySem.F.slot_list_extend PySem.F.type_list_extend mt_extendT (pv 1) (pa_cons (pe_slice sl_tup (pv 2) (po_some pe_int) po_none) pa_nil))))
        (pss_one (ps_if (pt_not (pt_val (pe_call GV hr rfl mV kV bV .nil pass0 (pa_cons (pv 2) pa_nil)))) (pss_one (ps_ret pe_bl)) pss_nil))))))
    (pss_one (ps_ret pe_bl))), ?_⟩
  refine ⟨_, rfl, (by show 1 ≤ sizeLine; decide), fun p hp => ?_⟩
  have s1 := same_new hp (.lst [v])
  dsimp only [gName, tSeq]
  refine ⟨fun m σ H2 => ∃ (txs : List V) (ds : List PyData) (x : Option V), σ = [some v, some (.ref p), x] ∧ H2 p = some (.lst txs) ∧ DAtAll H b txs ds ∧ (IsT d ↔ ∀ e ∈ ds, IsT e) ∧ (∀ e ∈ ds, okD e) ∧ ndAll ds ≤ 1000 ∧ m = ndAll ds ∧ Same H H2,
    ⟨nd d, [v], [d], none, rfl, upd_same, .cons D .nil, by simp, by simpa using ok, by simp [ndAll]; exact hn, by simp [ndAll], s1⟩, ?_⟩
  rintro m σ H2 ⟨txs, ds, x, rfl, h2, A1, iff, oks, few, rfl, sH⟩
  refine ⟨_, rfl, !txs.isEmpty, .inl ⟨txs, .inl (.inl h2), rfl⟩, ?_⟩
  rcases List.eq_nil_or_concat txs with e | ⟨M, y, e⟩
  · subst e
    refine iteF ?_
    have e2 : ds = [] := by have := A1.len; cases ds with | nil => rfl | cons => simp at this
    subst e2
    exact q true H2 ⟨fun _ => iff.mpr (by simp), fun _ => rfl⟩ sH
  · rw [List.concat_eq_append] at e
    subst e
    have ne : (!(M ++ [y]).isEmpty) = true := by simp
    rw [ne]
    refine iteT ⟨_, fun _ _ h => h, ?_⟩
    obtain ⟨L, k', e2, AM, Ay⟩ := A1.parted
    subst e2
    obtain ⟨k, rest, rfl, Dk, Ar⟩ := Ay.head
    obtain rfl : rest = [] := by have := Ar.len; cases rest with | nil => rfl | cons => simp at this
    have okk : okD k := oks k (by simp)
    have ilast : IsT d ↔ (∀ e ∈ L, IsT e) ∧ IsT k := by
      rw [iff]
      constructor
      · intro h; exact ⟨fun e he => h e (by simp [he]), h k (by simp)⟩
      · intro h e he
        rcases List.mem_append.mp he with he | he
        · exact h.1 e he
        · simp at he; subst he; exact h.2
    rw [ndAll_append] at few
    -- part = todo.pop()
    refine ⟨_, rfl, .inl ⟨rfl, _, .inl (.inl h2)⟩, p, _, y, rfl, rfl, h2, by simp, ?_⟩
    rw [List.dropLast_concat]
    have pn : H p = none := hp
    have s3 : Same H (upd H2 p (.lst M)) := fun c o z => by rw [upd_ne (ne_of_none z pn)]; exact sH c o z
    have nk : ndAll [k] = nd k := by simp [ndAll]
    refine ⟨_, rfl, b, y, k, rfl, Dk.same s3, okk, fun r H4 hr4 s4 => ?_⟩
    have h4 := s4 _ _ (upd_same : (upd H2 p (.lst M)) p = some (.lst M))
    have sH4 : Same H H4 := s3.trans s4
    cases r with
    | true =>
      refine ⟨true, rfl, iteT ?_⟩
      obtain ⟨sg, ds', rfl, sh⟩ := hr4.mp rfl
      obtain ⟨a, xs, rfl, ha, Ak⟩ := Dk.tup_of
      obtain ⟨x0, ks, rfl, D0, Dks⟩ := Ak.cons_of
      have nks : nd (PyData.tuple (.str sg :: ds')) = ndAll ds' + 2 := by simp [nd, ndAll]; omega
      refine ⟨_, rfl, .inl ⟨rfl, M, .inl (.inl h4)⟩, _, rfl, 1, rfl, a, _, rfl, .inl (ha.same sH4), cut_part _ _, fun g hg => ?_⟩
      rw [cut_tail]
      have s5 := same_new hg (.tup ks)
      have lim : M.length + ks.length ≤ sizeLine := by
        have a1 := AM.len
        have a2 := Dks.len
        have a3 := ndAll_len L
        have a4 := ndAll_len ds'
        have a5 : (1000 : Nat) + 1000 ≤ sizeLine := by decide
        omega
      refine ⟨p, g, M, ks, rfl, rfl, s5 _ _ h4, .inl (.inl upd_same), lim, ?_⟩
      refine ⟨ndAll (L ++ ds'), ?_, M ++ ks, L ++ ds', _, rfl, upd_same, AM.append Dks, ?_, ?_, ?_, rfl, ?_⟩
      · rw [ndAll_append, ndAll_append]; omega
      · rw [ilast, isT_shaped sh]
        constructor
        · rintro ⟨h1, h2⟩ e he
          rcases List.mem_append.mp he with he | he
          · exact h1 e he
          · exact h2 e he
        · intro h
          exact ⟨fun e he => h e (by simp [he]), fun e he => h e (by simp [he])⟩
      · intro e he
        rcases List.mem_append.mp he with he | he
        · exact oks e (by simp [he])
        · exact okk.tup e (by simp [he])
      · rw [ndAll_append]; omega
      · intro c o z
        rw [upd_ne (ne_of_none z pn)]
        exact s5 _ _ (sH4 _ _ z)
    | false =>
      refine ⟨false, rfl, iteF ?_⟩
      have ns : ¬ Shaped k := fun z => by have := hr4.mpr z; cases this
      refine ⟨_, rfl, b, y, k, rfl, Dk.same sH4, isVar k, rfl, ?_⟩
      cases ev : isVar k with
      | false =>
        refine iteT (q false H4 ⟨(fun e => nomatch e), fun z => ?_⟩ sH4)
        have := (isVar_iff ns).mpr (ilast.mp z).2
        rw [ev] at this
        cases this
      | true =>
        refine iteF ?_
        have tk := (isVar_iff ns).mp ev
        refine ⟨ndAll L, ?_, M, L, _, rfl, h4, AM, ?_, fun e he => oks e (by simp [he]), by omega, rfl, sH4⟩
        · rw [ndAll_append, nk]; have := nd_pos k; omega
        · rw [ilast]; exact ⟨fun h => h.1, fun h => ⟨h, tk⟩⟩
end
end Rp

/-! xs[a:] = ys, ys another list: what the layer has no statement of. -/
namespace Rp
open PySem PySem.Spec PyProof.Rows L2
theorem tail_bounds {k n : Nat} (h : k ≤ n) : sliceBounds (some (k : Int)) none none n = ((k : Int), (n : Int), 1) := by
  simp only [sliceBounds, Option.getD_none, show ¬ ((k : Int) < 0) by omega, if_false, show (1 : Int) > 0 by decide, if_true]
  congr 1
  · omega
theorem tail_items (old fresh : List Value) (k : Nat) : old.toArray.extract 0 k ++ fresh.toArray ++ old.toArray.extract old.toArray.size old.toArray.size = (old.take k ++ fresh).toArray := by
  apply Array.toList_inj.mp
  simp
section
variable {prog : Program} {w : World} {A : Around} {E : Value → Shared → Prop} {s : Shared}
theorem store_tail {at_ src cut : Addr} {old fresh : Array Value} {n1 n2 : Nat} {vlo : Value} {k : Nat} {Q : Unit → Shared → Prop} (oe : s.heap.get? at_ = some { cls := .type "list", data := .seq old n1 })
    (fe : s.heap.get? src = some { cls := .type "list", data := .seq fresh n2 }) (apart : at_ ≠ src) (isCut : s.heap.IsSliceOf cut vlo .none .none) (pLo : IsPart vlo (some (k : Int))) (hk : k ≤ old.size) (room : old.size + fresh.size ≤ sizeLine)
    (go : Q () { s with heap := s.heap.update at_ (Obj.mapSeq fun xs => xs.extract 0 k ++ fresh ++ xs.extract old.size xs.size) }) : wpAny (model prog w) A (setItem (.ref at_) (.ref cut) (.ref src)) Q E s := by
  have lstIs : s.heap.IsList at_ old := PySem.IsL.isList oe
  have srcIs : s.heap.IsList src fresh := PySem.IsL.isList fe
  obtain ⟨oc, hoc, hcc, hdc⟩ := id isCut
  have cutIs : s.TypeIs (.ref cut) "slice" := ⟨oc, hoc, hcc⟩
  have noStep : ¬ ((rawPart none == rawInt 0) = true) := Bool.false_ne_true
  have other : Builtin.List.listSameRef (.ref at_) (.ref src) = false := by unfold Builtin.List.listSameRef; exact beq_eq_false_iff_ne.mpr apart
  have bound : ((fun xs : Array Value => xs.extract 0 k ++ fresh ++ xs.extract old.size xs.size) old).size ≤ sizeLine + 1 := by simp only [Array.size_append, Array.size_extract]; omega
  unfold setItem; try with_reducible refine wpAny_holding ?_
  first | refine wpAny_bind (wpAny_pure ?_) | skip
  refine wpAny_bind (wpAny_sequenceKey lstIs.typeIs (by decide) (wpAny_bind (wpAny_callSpecial?_slot (name := Str.ofString "__setitem__") lstIs.typeIs slot_list_setitem (wpAny_call_entry slot_list_setitem lstIs.typeIs entry_list_setitem ?_ (args_list_setitem _ _ _)))))
  show wpAny _ _ (Builtin.List.listSubscript? (.ref cut) >>= _) _ _ s
  refine wpAny_bind ?_; unfold Builtin.List.listSubscript?
  refine wpAny_bind (wpAny_specialOf cutIs slice_no_index ?_); simp only [Option.isNone_none, if_true]
  refine wpAny_pure ?_; show wpAny _ _ (typeOf (.ref cut) >>= _) _ _ s
  refine wpAny_bind (wpAny_typeOf cutIs ?_)
  first | rw [if_neg (by decide)] | refine PySem.W.KFB.if_not (by decide) ?_
  rw [listSliceParts_eq]; refine wpAny_bind (wpAny_bind (wpAny_field hoc hdc (x := .none) rfl (wpAny_bind (wpAny_listPart .none ?_))))
  rw [if_neg noStep]; refine wpAny_bind (wpAny_field hoc hdc (x := vlo) rfl (wpAny_bind (wpAny_listPart pLo ?_)))
  refine wpAny_bind (wpAny_field hoc hdc (x := .none) rfl (wpAny_bind (wpAny_listPart .none (wpAny_pure ?_))))
  first | simp only [other, Bool.false_eq_true, if_false] | refine PySem.W.KFB.if_not other ?_ | (dsimp only; rw [if_neg (by rw [other]; exact Bool.false_ne_true)])
  refine wpAny_bind (m := Builtin.List.listAllItems (.ref src) "must assign iterable to extended slice") ?_; unfold Builtin.List.listAllItems
  refine wpAny_bind (wpAny_typeOf srcIs.typeIs ?_)
  first | refine PySem.W.KFB.if_so (by decide) ?_ | rw [if_pos (by decide)] | simp only [beq_self_eq_true, Bool.true_or, if_true]
  unfold Builtin.List.listItems; refine wpAny_bind (wpAny_seqItems fe rfl (wpAny_pure ?_))
  refine wpAny_bind (wpAny_bind (wpAny_seqItems oe rfl (wpAny_pure ?_)))
  refine wpAny_bind (wpAny_of_eq ((sliceIndices_raw (some (k : Int)) none none old.size (by simp)).trans (congrArg (pure : Int × Int × Int → Sem (Int × Int × Int)) (tail_bounds hk))) ?_)
  show wpAny _ _ (if ((1 : Int) == 1) = true then _ else _) _ _ s; rw [if_pos (by decide)]
  refine wpAny_bind (wpAny_rule ?_); have small := notLongL room
  first | simp only [small, Bool.false_eq_true, if_false] | refine PySem.W.KFB.if_not small ?_
  first | refine wpAny_bind (wpAny_pure ?_) | skip
  show wpAny _ _ (updateSeq at_ (fun xs => xs.extract 0 ((k : Int)).toNat ++ fresh ++ xs.extract (max (k : Int) (old.size : Int)).toNat xs.size) >>= _) _ _ s
  rw [show (max (k : Int) (old.size : Int)).toNat = old.size by omega, Int.toNat_natCast]
  refine wpAny_bind (wpAny_updateSeq (hz := Nat.le_trans (Nat.le_add_right _ _) room) (_hz' := bound) oe rfl (wpAny_bind (wpAny_letGo ?_)))
  first | exact wpAny_bind (wpAny_pure (wpAny_pure ⟨.none, rfl, wpAny_pure go⟩)) | exact wpAny_pure ⟨.none, rfl, wpAny_pure go⟩
end
/-- xs[a:] = ys -/
def tTail (to : TE) (ta : TO) (tv : TE) : TS := fun D σ H => tv σ H fun y H1 => to σ H1 fun x H2 => ta σ H2 fun i H3 => ∃ (l b : Addr) (xs ys : List V) (k : Nat), y = .ref b ∧ x = .ref l ∧ i = some (k : Int) ∧ H3 l = some (.lst xs) ∧ H3 b = some (.lst ys) ∧ l ≠ b ∧ k ≤ xs.length ∧ xs.length + ys.length ≤ sizeLine ∧
  D.nx σ (upd H3 l (.lst (xs.take k ++ ys)))
section
variable {X : Cx} {o e value : Expr} {pos pos' p2 : Pos} {td tv : TE} {ta : TO}
theorem ps_tail (ho : PE X o td) (hi : PO X (some e) ta) (hv : PE X value tv) (hs : swapsWith value (some (.Subscript o (.Slice (some e) none none p2) pos')) pos.line X.env = pure false := by rfl) :
    PS X (.Assign [.Subscript o (.Slice (some e) none none p2) pos'] value pos) (tTail td ta tv) := by
  refine ⟨fun pins s σ H D I h => wpAny_Assign_Subscript (thn (hv.run pins s σ H _ I h) fun r s1 ⟨v, H1, I1, rv, q1⟩ => thn (ho.run pins s1 σ H1 _ I1 q1) fun u s2 ⟨x, H2, I2, rx, q2⟩ => ?_) hs⟩
  refine wpAny_Slice (thn (hi.run pins s2 σ H2 _ I2 q2) fun vl s3 ⟨i, H3, I3, pl, q3⟩ => ?_)
  obtain ⟨l, b, xs, ys, k, rfl, rfl, rfl, hl, hb, ne, hk, room, go⟩ := q3
  rw [evalPart_none]
  refine wpAny_pure (wpAny_pure ?_)
  cases rv
  cases rx
  have I4 : Inv X pins σ H3 { s3 with heap := s3.heap.push { cls := .type "slice", data := .fields #[vl, .none, .none] } } := I3.kept (t' := s3.toks) fun c ob w => Heap.get?_push_of_some _ w
  obtain ⟨_, old, n1, ro, lo, oe⟩ := I4.lstM hl
  obtain ⟨_, fresh, n2, rf, lf, fe⟩ := I4.lstM hb
  refine store_tail (k := k) oe fe ne (Heap.IsSliceOf.new ..) pl (by rw [List.size_toArray]; omega) (by rw [List.size_toArray, List.size_toArray]; omega) ?_
  refine ⟨σ, _, I4.lset (its' := old.take k ++ fresh) (t' := s3.toks) hl oe ?_ (Vals.append (ro.take _) rf) ?_, go⟩
  · exact tail_items old fresh k
  · rw [List.length_append, List.length_take]; omega
end
end Rp

/-! Texts of TERMs, and the fold that makes them. -/
namespace Rp
open PySem PySem.Spec PyProof.Rows L2
namespace Tm
/-- a sign with the texts of its parts -/
def put1 : Tm → List Str → Str
  | v n, _ => "x" ++ (Str.ofString (toString n))
  | z, _ => "0"
  | s _, ys => "s" ++ "(" ++ Txt.join "," ys ++ ")"
  | f _ _, ys => "f" ++ "(" ++ Txt.join "," ys ++ ")"
def txt : Tm → Str
  | v n => put1 (v n) []
  | z => put1 z []
  | s t => put1 (s t) [t.txt]
  | f l r => put1 (f l r) [l.txt, r.txt]
theorem txt_kids (t : Tm) : t.txt = t.put1 (t.kids.map txt) := by cases t <;> rfl
def small (t : Tm) : Prop := ∀ n ∈ t.nums, 0 ≤ n ∧ n ≤ 99
end Tm
theorem slen (a b : Str) : (a ++ b).length = a.length + b.length := Str.length_append a b
theorem num_len {n : Int} (h : 0 ≤ n ∧ n ≤ 99) : (Str.ofString (toString n)).length ≤ 3 := by
  rw [PySem.ofString_length]
  exact int_text_length_le10 (k := 2) (by decide) (by omega)
theorem join1 (a x : Str) : Txt.join a [x] = x := by rw [TL.join_eq]; simp [Str.join]
theorem join2 (a x y : Str) : Txt.join a [x, y] = x ++ a ++ y := by rw [TL.join_eq]; simp [Str.join]
theorem txt_len : ∀ t : Tm, t.small → t.txt.length ≤ 4 * t.size
  | .v n, h => by
    have := num_len (h n (by simp [Tm.nums]))
    show (("x" : Str) ++ (Str.ofString (toString n))).length ≤ 4
    rw [slen]
    have : ("x" : Str).length = 1 := by decide +kernel
    omega
  | .z, _ => by decide +kernel
  | .s t, h => by
    have := txt_len t h
    show (("s" : Str) ++ "(" ++ Txt.join "," [t.txt] ++ ")").length ≤ 4 * (t.size + 1)
    rw [join1, slen, slen, slen]
    have a : ("s" : Str).length = 1 := by decide +kernel
    have b : ("(" : Str).length = 1 := by decide +kernel
    have c : (")" : Str).length = 1 := by decide +kernel
    omega
  | .f l r, h => by
    have := txt_len l fun n hn => h n (by simp [Tm.nums, hn])
    have := txt_len r fun n hn => h n (by simp [Tm.nums, hn])
    show (("f" : Str) ++ "(" ++ Txt.join "," [l.txt, r.txt] ++ ")").length ≤ 4 * (l.size + r.size + 1)
    rw [join2, slen, slen, slen, slen, slen]
    have a : ("f" : Str).length = 1 := by decide +kernel
    have b : ("(" : Str).length = 1 := by decide +kernel
    have c : (")" : Str).length = 1 := by decide +kernel
    have d : ("," : Str).length = 1 := by decide +kernel
    omega
/-! ### the stack -/
def runs : List Tm → List Tm → List Tm → Prop
  | S, [], S' => S = S'
  | S, k :: r, S' => ∃ S0, S = S0 ++ k.kids ∧ runs (S0 ++ [k]) r S'
theorem runs_post : ∀ (t : Tm) (S r S' : List Tm), runs (S ++ [t]) r S' → runs S (t.rpost.reverse ++ r) S'
  | .v n, S, r, S', h => by simp only [Tm.rpost, List.reverse_singleton, List.singleton_append]; exact ⟨S, by simp [Tm.kids], h⟩
  | .z, S, r, S', h => by simp only [Tm.rpost, List.reverse_singleton, List.singleton_append]; exact ⟨S, by simp [Tm.kids], h⟩
  | .s t, S, r, S', h => by
    simp only [Tm.rpost, List.reverse_cons, List.append_assoc, List.singleton_append]
    exact runs_post t S _ _ ⟨S, by simp [Tm.kids], h⟩
  | .f l r', S, r, S', h => by
    simp only [Tm.rpost, List.reverse_cons, List.reverse_append, List.append_assoc, List.singleton_append]
    refine runs_post l S _ _ (runs_post r' (S ++ [l]) _ _ ⟨S, by simp [Tm.kids], h⟩)
theorem part_of : ∀ {t k : Tm}, k ∈ t.rpost → k.size ≤ t.size ∧ ∀ n ∈ k.nums, n ∈ t.nums
  | .v n, k, h => by simp [Tm.rpost] at h; subst h; exact ⟨Nat.le_refl _, fun n h => h⟩
  | .z, k, h => by simp [Tm.rpost] at h; subst h; exact ⟨Nat.le_refl _, fun n h => h⟩
  | .s t, k, h => by
    simp [Tm.rpost] at h
    rcases h with rfl | h
    · exact ⟨Nat.le_refl _, fun n h => h⟩
    · have := part_of h
      exact ⟨by simp only [Tm.size]; omega, this.2⟩
  | .f l r, k, h => by
    simp [Tm.rpost] at h
    rcases h with rfl | h | h
    · exact ⟨Nat.le_refl _, fun n h => h⟩
    · have := part_of h
      exact ⟨by simp only [Tm.size]; omega, fun n hn => List.mem_append.mpr (.inr (this.2 n hn))⟩
    · have := part_of h
      exact ⟨by simp only [Tm.size]; omega, fun n hn => List.mem_append.mpr (.inl (this.2 n hn))⟩
def spTextOf (K : PySem.W.Frag) : Sp := fun vs H Q _ => ∃ (v : V) (t : Tm) (a : Addr), vs = [v, .ref a] ∧ TmAt H v t ∧ t.small ∧ t.size ≤ 1000 ∧ H a = some (.lst ((t.kids.map Tm.txt).map V.str)) ∧ Q (.str t.txt) H
def spFold (fO : Addr) : Sp := fun vs H Q _ => ∃ (v : V) (t : Tm), vs = [v, .ref fO] ∧ TmAt H v t ∧ t.small ∧ t.size ≤ 1000 ∧ ∀ H', Same H H' → Q (.str t.txt) H'
def spTermText : Sp := fun vs H Q _ => ∃ (v : V) (t : Tm), vs = [v] ∧ TmAt H v t ∧ t.small ∧ t.size ≤ 1000 ∧ ∀ H', Same H H' → Q (.str t.txt) H'
section
variable {P : Program} {w : World} {K : PySem.W.Frag} {mg : Str → Option Value} {base : Heap}
theorem scTextOf : FnScope ["part", "texts", "inner"] ["part", "texts"] (defScope sTextOf) := ⟨rfl, rfl, rfl, by decide +kernel, rfl, by decide +kernel, by decide +kernel⟩
theorem ok_textof {f : Addr} {fd : FuncData} (F : Fun K "_text_of" "_text_of" sTextOf f fd) (mIsi : mg "isinstance" = none) (mInt : mg "int" = none) : FnOk P w K mg base CX0 1 f fd ["part", "texts"] (spTextOf K) := by
  refine F.ok scTextOf (fun vs H Q E h => ?_) (fun cdv A outer s H vs Q E hr h => ?_)
  · obtain ⟨v, t, a, rfl, _⟩ := h
    rfl
  obtain ⟨v, t, a, rfl, T, sm, sz, ha, q⟩ := h
  refine ⟨_, pss_cons (ps_if (pt_val (pe_callB (id := "isinstance") call_isi (by rfl) mIsi (by decide +kernel) (pa_cons (pv 0) (pa_cons (pe_bltn (v := .ty "int") (by rfl) mInt (by decide +kernel) rfl) pa_nil)))) (pss_one (ps_ret (pe_joined (.cons pe_str (.cons (pe_fmt (pv 0)) .nil))))) pss_nil)
    (pss_cons (ps_if (pt_not (pt_truth (pv 1) (by intro _; rfl))) (pss_one (ps_ret (pe_ix ix_tup (pv 0) pe_int (fun _ _ => rfl)))) pss_nil)
    (pss_cons (ps_set (i := 2) scTextOf.nd rfl (Or.inl rfl) (pe_bm PySem.F.plainAttrs_str PySem.F.slot_str_join PySem.F.type_str_join mt_join pe_str (pa_cons (pv 1) pa_nil)))
    (pss_one (ps_ret (pe_joined (.cons (pe_fmt (pe_ix ix_tup (pv 0) pe_int (fun _ _ => rfl))) (.cons pe_str (.cons (pe_fmt (pv 2)) (.cons pe_str .nil))))))))), ?_⟩
  have tl := txt_len t sm
  have big : (10000 : Nat) ≤ sizeLine := by decide
  rcases T.ty (K := K) with ⟨m, rfl, rfl⟩ | ⟨b, xs, rfl, hb, ty, no⟩
  · refine ⟨_, rfl, _, _, _, _, true, rfl, .ty "int", .base (.int m), kit_ii, true, rfl, iteT ?_⟩
    have hm := sm m (by simp [Tm.nums])
    refine ⟨_, rfl, ?_, _, rfl, .inr ⟨m, rfl, ?_, ?_⟩⟩
    · rw [Str.empty_append]; exact Nat.le_trans (by decide +kernel : ("x" : Str).length ≤ 10) (by decide)
    · have := Nat.log2_le_self m.natAbs
      omega
    · refine ⟨_, rfl, ?_, ?_⟩
      · rw [Str.empty_append, slen]
        have := num_len hm
        have : ("x" : Str).length = 1 := by decide +kernel
        exact Nat.le_trans (by omega : _ ≤ 10) (by decide)
      · rw [Str.empty_append]
        exact q
  · obtain ⟨a', ks, e, ha', hk, hks⟩ := T.tupled no
    cases e
    refine ⟨_, rfl, _, _, _, _, false, rfl, .ty "int", ty, kit_ti, false, rfl, iteF ?_⟩
    refine ⟨_, rfl, _, .inl ⟨_, .inl (.inl ha), rfl⟩, ?_⟩
    have lim : ∀ x : Str, x.length ≤ 10000 → x.length ≤ sizeLine := fun x h => Nat.le_trans h big
    have l1 : ("s" : Str).length = 1 := by decide +kernel
    have l2 : ("f" : Str).length = 1 := by decide +kernel
    have l3 : ("(" : Str).length = 1 := by decide +kernel
    have l4 : (")" : Str).length = 1 := by decide +kernel
    have l5 : ("," : Str).length = 1 := by decide +kernel
    cases t with
    | v n => exact absurd rfl (no n)
    | z =>
      refine iteT ⟨_, rfl, _, _, _, _, rfl, rfl, .inl (.inl ha'), at_of (j := 0) rfl rfl, q⟩
    | s t =>
      have tz : (Txt.join "," [t.txt]).length ≤ 9000 := by
        rw [join1]; have := txt_len t sm; simp only [Tm.size] at sz; omega
      refine iteF ⟨rfl, _, rfl, _, a, [t.txt], rfl, rfl, .inl (.inl (.inl ha)), ?_, ?_⟩
      · simp only [List.map_cons, List.map_nil, List.sum_cons, List.sum_nil, List.length_cons, List.length_nil]
        have := txt_len t sm; simp only [Tm.size] at sz; omega
      refine ⟨_, rfl, _, _, _, _, rfl, rfl, .inl (.inl ha'), at_of (j := 0) rfl rfl, .inl ⟨_, rfl, lim _ ?_, _, rfl, lim _ ?_, _, rfl, lim _ ?_, _, rfl, .inl ⟨_, rfl, lim _ ?_, _, rfl, lim _ ?_, _, rfl, lim _ ?_, ?_⟩⟩⟩
      · show ("s" : Str).length ≤ _; omega
      · show (Str.empty ++ ("s" : Str)).length ≤ _; rw [Str.empty_append]; omega
      · show (Str.empty ++ ("s" : Str) ++ "(").length ≤ _; rw [Str.empty_append, slen]; omega
      · omega
      · show (Str.empty ++ ("s" : Str) ++ "(" ++ Txt.join "," [t.txt]).length ≤ _; rw [Str.empty_append, slen, slen]; omega
      · show (Str.empty ++ ("s" : Str) ++ "(" ++ Txt.join "," [t.txt] ++ ")").length ≤ _; rw [Str.empty_append, slen, slen, slen]; omega
      · show Q (.str (Str.empty ++ ("s" : Str) ++ "(" ++ Txt.join "," [t.txt] ++ ")")) H; rw [Str.empty_append]; exact q
    | f l r =>
      have tz : (Txt.join "," [l.txt, r.txt]).length ≤ 9000 := by
        rw [join2, slen, slen]; have := txt_len l (fun n hn => sm n (by simp [Tm.nums, hn])); have := txt_len r (fun n hn => sm n (by simp [Tm.nums, hn])); simp only [Tm.size] at sz; omega
      refine iteF ⟨rfl, _, rfl, _, a, [l.txt, r.txt], rfl, rfl, .inl (.inl (.inl ha)), ?_, ?_⟩
      · simp only [List.map_cons, List.map_nil, List.sum_cons, List.sum_nil, List.length_cons, List.length_nil]
        have := txt_len l (fun n hn => sm n (by simp [Tm.nums, hn])); have := txt_len r (fun n hn => sm n (by simp [Tm.nums, hn])); simp only [Tm.size] at sz; omega
      refine ⟨_, rfl, _, _, _, _, rfl, rfl, .inl (.inl ha'), at_of (j := 0) rfl rfl, .inl ⟨_, rfl, lim _ ?_, _, rfl, lim _ ?_, _, rfl, lim _ ?_, _, rfl, .inl ⟨_, rfl, lim _ ?_, _, rfl, lim _ ?_, _, rfl, lim _ ?_, ?_⟩⟩⟩
      · show ("f" : Str).length ≤ _; omega
      · show (Str.empty ++ ("f" : Str)).length ≤ _; rw [Str.empty_append]; omega
      · show (Str.empty ++ ("f" : Str) ++ "(").length ≤ _; rw [Str.empty_append, slen]; omega
      · omega
      · show (Str.empty ++ ("f" : Str) ++ "(" ++ Txt.join "," [l.txt, r.txt]).length ≤ _; rw [Str.empty_append, slen, slen]; omega
      · show (Str.empty ++ ("f" : Str) ++ "(" ++ Txt.join "," [l.txt, r.txt] ++ ")").length ≤ _; rw [Str.empty_append, slen, slen, slen]; omega
      · show Q (.str (Str.empty ++ ("f" : Str) ++ "(" ++ Txt.join "," [l.txt, r.txt] ++ ")")) H; rw [Str.empty_append]; exact q
end
end Rp

namespace Rp
open PySem PySem.Spec PyProof.Rows L2
theorem drop_min {α : Type} (xs : List α) (i : Nat) : xs.drop (min i xs.length) = xs.drop i := by
  rcases Nat.le_total i xs.length with h | h
  · rw [Nat.min_eq_left h]
  · rw [Nat.min_eq_right h, List.drop_length, List.drop_of_length_le h]
theorem cut_from {xs : List V} {i : Nat} {a : Int} (h : a = (i : Nat)) : cutV xs (some a) none = xs.drop i := by
  subst h
  unfold cutV
  rw [HT.sIx_none, HT.sIx_nat, drop_min]
  refine List.take_of_length_le ?_
  rw [List.length_drop]
  omega
section
variable {P : Program} {w : World} {K : PySem.W.Frag} {mg : Str → Option Value} {base : Heap}
theorem scFold : FnScope ["term", "made_of", "made", "part", "first"] ["term", "made_of"] (defScope sFold) := ⟨rfl, rfl, rfl, by decide +kernel, rfl, by decide +kernel, by decide +kernel⟩
theorem ok_fold {f fI fP fO : Addr} {fd dI dP dO : FuncData} (F : Fun K "fold" "fold" sFold f fd)
    (GI : FnOk P w K mg base CX0 2 fI dI ["term"] spInside) (kI : PySem.W.keepIn K (.ref fI) = true) (bI : Binds K dI ["term"] []) (mI : mg "inside_out" = some (.ref fI))
    (GP : FnOk P w K mg base CX0 1 fP dP ["term"] spParts) (kP : PySem.W.keepIn K (.ref fP) = true) (bP : Binds K dP ["term"] []) (mP : mg "_parts" = some (.ref fP))
    (GO : FnOk P w K mg base CX0 1 fO dO ["part", "texts"] (spTextOf K)) (kO : PySem.W.keepIn K (.ref fO) = true) (bO : Binds K dO ["part", "texts"] []) (mLen : mg "len" = none) :
    FnOk P w K mg base CX0 3 f fd ["term", "made_of"] (spFold fO) := by
  refine F.ok scFold (fun vs H Q E h => ?_) (fun cdv A outer s H vs Q E hr h => ?_)
  · obtain ⟨v, t, rfl, _⟩ := h
    rfl
  obtain ⟨v, t, rfl, T, sm, sz, q⟩ := h
  have r1 : Room 1 _ := hr.mono (by decide)
  refine ⟨_, pss_cons (ps_set (i := 2) scFold.nd rfl (Or.inl rfl) (pe_lst pa_nil))
    (pss_cons (ps_for PassesOwn.never rfl (pi_list (pe_call GI hr rfl mI kI bI .nil pass0 (pa_cons (pv 0) pa_nil))) (pg_name (i := 3) scFold.nd rfl (Or.inl rfl))
      (pss_cons (ps_set (i := 4) scFold.nd rfl (Or.inl rfl) (pe_op op_sub (pe_callB call_len_seq (by rfl) mLen PySem.boot_len (pa_cons (pv 2) pa_nil)) (pe_callB call_len_seq (by rfl) mLen PySem.boot_len (pa_cons (pe_call GP r1 rfl mP kP bP .nil pass0 (pa_cons (pv 3) pa_nil)) pa_nil))))
      (pss_one (ps_tail (pv 2) (po_some (pv 4)) (pe_lst (pa_cons (pe_callL (i := 1) GO r1 rfl (Or.inl rfl) kO bO .nil pass0 (pa_cons (pv 3) (pa_cons (pe_slice sl_list (pv 2) (po_some (pv 4)) po_none) pa_nil))) pa_nil))))))
    (pss_one (ps_ret (pe_ix ix_list (pv 2) pe_int (fun _ _ => rfl))))), ?_⟩
  refine ⟨(by show 0 ≤ sizeLine; decide), fun m hm => ?_⟩
  have s0 := same_new hm (.lst ([] : List V))
  refine ⟨_, rfl, v, t, rfl, T.same s0, sz, fun p xs H1 hp h1 A1 s1 => ?_⟩
  have hm1 := s1 _ _ (upd_same : (upd H m (.lst ([] : List V))) m = some (.lst []))
  have pm : p ≠ m := (ne_of_none (upd_same : (upd H m (.lst ([] : List V))) m = some (.lst [])) hp).symm
  have len := A1.len
  rw [List.length_reverse, Tm.rpost_len] at len
  have post : t.rpost.reverse.length = t.size := by rw [List.length_reverse, Tm.rpost_len]
  have big : (10000 : Nat) ≤ sizeLine := by decide
  refine ⟨p, rfl, ⟨_, .inl (.inl h1)⟩, for_list (K := K) (a := p) (xs := xs) (fun i σ H2 => ∃ (S : List Tm) (x3 x4 : Option V), σ = [some v, some (.ref fO), some (.ref m), x3, x4] ∧ H2 m = some (.lst ((S.map Tm.txt).map V.str)) ∧
      runs S (t.rpost.reverse.drop i) [t] ∧ (∀ k ∈ S, k ∈ t.rpost) ∧ S.length ≤ i ∧ But m H1 H2) ⟨[], none, none, rfl, hm1, ?_, by simp, by simp, But.refl _ _⟩ (fun i σ H2 _ ⟨_, _, _, _, _, _, _, _, o⟩ => .inl (.inl (o _ _ h1 pm))) ?_ ?_⟩
  · have := runs_post t [] [] [t] rfl
    simpa using this
  · rintro i x σ H2 hi ⟨S, x3, x4, rfl, h2, run, parts, sl, o2⟩
    obtain ⟨k, hk, Tk⟩ := A1.get hi
    have li : i < t.rpost.reverse.length := (List.getElem?_eq_some_iff.mp hk).1
    have ek : t.rpost.reverse.drop i = k :: t.rpost.reverse.drop (i + 1) := by
      rw [List.drop_eq_getElem_cons li, (List.getElem?_eq_some_iff.mp hk).2]
    rw [ek] at run
    obtain ⟨S0, rfl, run⟩ := run
    have km : k ∈ t.rpost := List.mem_reverse.mp (List.mem_of_getElem? hk)
    have pk := part_of km
    have smk : k.small := fun n hn => sm n (pk.2 n hn)
    have T2 := Tk.but o2 hm1
    rw [List.length_append] at sl
    refine ⟨_, rfl, m, _, rfl, .inl (.inl (.inl h2)), _, rfl, x, k, rfl, T2, fun g ks H3 hg h3 A3 s3 => ?_⟩
    have kl := A3.len
    refine ⟨g, _, rfl, .inr (.inl (.inl h3)), _, _, rfl, rfl, ?_⟩
    have h23 := s3 _ _ h2
    have first : (((((S0 ++ k.kids).map Tm.txt).map V.str).length : Nat) : Int) - ((ks.length : Nat) : Int) = ((S0.length : Nat) : Int) := by
      rw [List.length_map, List.length_map, List.length_append, kl]; omega
    refine ⟨rfl, _, rfl, _, rfl, _, rfl, _, rfl, m, _, rfl, .inl (.inl h23), fun d hd => ?_⟩
    have dm : d ≠ m := (ne_of_none h23 hd).symm
    rw [cut_from (i := S0.length) first]
    have cut : (((S0 ++ k.kids).map Tm.txt).map V.str).drop S0.length = (k.kids.map Tm.txt).map V.str := by
      rw [List.map_append, List.map_append, List.drop_left' (by rw [List.length_map, List.length_map])]
    rw [cut]
    have s4 := same_new hd (.lst ((k.kids.map Tm.txt).map V.str))
    refine ⟨x, k, d, rfl, (T2.same s3).same s4, smk, by omega, upd_same, ?_⟩
    refine ⟨(by show 1 ≤ sizeLine; decide), fun b hb => ?_⟩
    have s5 := same_new hb (.lst [V.str k.txt])
    have h25 := s5 _ _ (s4 _ _ h23)
    refine ⟨_, rfl, _, rfl, _, rfl, m, b, _, _, S0.length, rfl, rfl, congrArg some first, h25, upd_same, ne_of_none (s4 _ _ h23) hb, ?_, ?_, ?_⟩
    · rw [List.length_map, List.length_map, List.length_append]; omega
    · rw [List.length_map, List.length_map, List.length_append, List.length_singleton]; omega
    · refine ⟨S0 ++ [k], _, _, rfl, ?_, run, ?_, ?_, ?_⟩
      · rw [upd_same, List.map_append, List.map_append, List.take_left' (by rw [List.length_map, List.length_map]), List.map_append, List.map_append]
        rfl
      · intro k' hk'
        rcases List.mem_append.mp hk' with z | z
        · exact parts k' (by simp [z])
        · simp at z; subst z; exact km
      · rw [List.length_append, List.length_singleton]
        have := List.length_append (as := S0) (bs := k.kids)
        omega
      · intro c o' z nc
        rw [upd_ne nc]
        exact s5 _ _ (s4 _ _ (s3 _ _ (o2 _ _ z nc)))
  · rintro σ H2 ⟨S, x3, x4, rfl, h2, run, parts, sl, o2⟩
    rw [List.drop_of_length_le (by omega)] at run
    obtain rfl : S = [t] := run
    refine ⟨_, rfl, m, _, _, _, rfl, rfl, .inl (.inl h2), at_of (j := 0) rfl rfl, q H2 ?_⟩
    exact fun c o z => o2 c o (s1 _ _ (s0 _ _ z)) (ne_of_none z hm)
theorem scTermText : FnScope ["term"] ["term"] (defScope sTermText) := ⟨rfl, rfl, rfl, by decide +kernel, rfl, by decide +kernel, by decide +kernel⟩
theorem ok_termtext {f fF fO : Addr} {fd dF : FuncData} (F : Fun K "term_text" "term_text" sTermText f fd)
    (GF : FnOk P w K mg base CX0 3 fF dF ["term", "made_of"] (spFold fO)) (kF : PySem.W.keepIn K (.ref fF) = true) (bF : Binds K dF ["term", "made_of"] []) (mF : mg "fold" = some (.ref fF)) (mO : mg "_text_of" = some (.ref fO)) :
    FnOk P w K mg base CX0 4 f fd ["term"] spTermText := by
  refine F.ok scTermText (fun vs H Q E h => ?_) (fun cdv A outer s H vs Q E hr h => ?_)
  · obtain ⟨v, t, rfl, _⟩ := h
    rfl
  obtain ⟨v, t, rfl, T, sm, sz, q⟩ := h
  refine ⟨_, pss_one (ps_ret (pe_call GF hr rfl mF kF bF .nil pass0 (pa_cons (pv 0) (pa_cons (pe_glob (v := .ref fO) rfl mO rfl) pa_nil)))), ?_⟩
  exact ⟨_, rfl, v, t, rfl, T, sm, sz, q⟩
end
end Rp

/-! A TERM's text, its brackets and commas blanked, cut at the blanks: its signs, ahead of their parts. -/
namespace Rp
open PySem PySem.Spec PyProof.Rows L2 TL
def blank1 (c d : Nat) : Nat := if d = c then 32 else d
theorem spl_ne (S : List Nat) : ∀ (k : Nat) (acc l : List Nat), spl S k acc l ≠ []
  | 0, acc, [] => by rw [spl_nil]; simp
  | k + 1, acc, [] => by rw [spl_nil]; simp
  | k + 1, acc, _ :: r => by show spl S k acc r ≠ []; exact spl_ne S k acc r
  | 0, acc, c :: r => by
    by_cases h : pre S (c :: r) = true
    · rw [spl_hit h]; simp
    · rw [spl_miss (by simpa using h)]; exact spl_ne S 0 _ r
theorem join_spl (c : Nat) : ∀ (l acc : List Nat), joinL [32] (spl [c] 0 acc l) = acc ++ l.map (blank1 c)
  | [], acc => by rw [spl_nil]; simp [joinL]
  | d :: r, acc => by
    by_cases h : d = c
    · have hp : pre [c] (d :: r) = true := by simp [pre, h]
      rw [spl_hit hp]
      have ih := join_spl c r []
      have ne := spl_ne [c] 0 [] r
      show joinL [32] (acc :: spl [c] 0 [] r) = _
      cases e : spl [c] 0 [] r with
      | nil => exact absurd e ne
      | cons q rest =>
        rw [e] at ih
        show acc ++ ([32] ++ joinL [32] (q :: rest)) = _
        rw [ih]
        simp [blank1, h]
    · have hp : pre [c] (d :: r) = false := by simp [pre, h]
      rw [spl_miss hp, join_spl c r]
      simp [blank1, h]
theorem repl_tl (x : Str) {c : Nat} (hc : c < 256) : tl (Txt.replace x ⟨#[c]⟩ ⟨#[32]⟩) = (tl x).map (blank1 c) := by
  rw [PySem.StrLaws.replace_one, tl_join, split_spl x ⟨#[c]⟩ (by show [c] ≠ []; simp) ?_]
  · show joinL [32] (spl [c] 0 [] (tl x)) = _
    rw [join_spl]
    simp
  · exact kind_ok (by simp [hc])
namespace Tm
def sgn : Tm → List Str
  | v n => ["x" ++ Str.ofString (toString n)]
  | z => ["0"]
  | s t => "s" :: t.sgn
  | f l r => "f" :: (l.sgn ++ r.sgn)
theorem sgn_len : ∀ t : Tm, t.sgn.length = t.size
  | v _ => rfl | z => rfl | s t => by simp [sgn, size, sgn_len t]
  | f l r => by simp [sgn, size, sgn_len l, sgn_len r]
end Tm
def b3 (d : Nat) : Nat := blank1 44 (blank1 41 (blank1 40 d))
theorem b3_same {d : Nat} (h : d ≠ 40 ∧ d ≠ 41 ∧ d ≠ 44) : b3 d = d := by
  unfold b3 blank1
  rw [if_neg h.1, if_neg h.2.1, if_neg h.2.2]
theorem b3_num {l : List Nat} (h : ∀ d ∈ l, 48 ≤ d ∧ d ≤ 57) : l.map b3 = l := by
  have : l.map b3 = l.map id := List.map_congr_left fun d hd => b3_same (by have := h d hd; omega)
  rw [this, List.map_id]
theorem numL_small (n : Nat) : ∀ d ∈ numL n, 48 ≤ d ∧ d ≤ 57 := fun d hd => numL_digits n d hd
def spc (t : Tm) : List Nat := (tl t.txt).map b3
theorem t_x : tl ("x" : Str) = [120] := by decide +kernel
theorem t_0 : tl ("0" : Str) = [48] := by decide +kernel
theorem t_s : tl ("s" : Str) = [115] := by decide +kernel
theorem t_f : tl ("f" : Str) = [102] := by decide +kernel
theorem t_open : tl ("(" : Str) = [40] := by decide +kernel
theorem t_close : tl (")" : Str) = [41] := by decide +kernel
theorem t_comma : tl ("," : Str) = [44] := by decide +kernel
theorem tl_int {n : Int} (h : 0 ≤ n) : tl (Str.ofString (toString n)) = numL n.toNat := by
  obtain ⟨k, rfl⟩ := Int.eq_ofNat_of_zero_le h
  rw [tl_num]
  rfl
theorem spc_v {n : Int} (h : 0 ≤ n) : spc (.v n) = 120 :: numL n.toNat := by
  show (tl (("x" : Str) ++ Str.ofString (toString n))).map b3 = _
  rw [tl_append, t_x, tl_int h, List.map_append, b3_num (numL_small _)]
  rfl
theorem spc_z : spc .z = [48] := by decide +kernel
theorem spc_s (t : Tm) : spc (.s t) = 115 :: 32 :: (spc t ++ [32]) := by
  show (tl (("s" : Str) ++ "(" ++ Txt.join "," [t.txt] ++ ")")).map b3 = _
  rw [join1, tl_append, tl_append, tl_append, t_s, t_open, t_close, List.map_append, List.map_append]
  rfl
theorem spc_f (l r : Tm) : spc (.f l r) = 102 :: 32 :: (spc l ++ 32 :: (spc r ++ [32])) := by
  show (tl (("f" : Str) ++ "(" ++ Txt.join "," [l.txt, r.txt] ++ ")")).map b3 = _
  rw [join2, tl_append, tl_append, tl_append, tl_append, tl_append, t_f, t_open, t_close, t_comma]
  simp only [List.map_append]
  show [102] ++ [32] ++ (spc l ++ [32] ++ spc r) ++ [32] = _
  simp
theorem space32 : Unicode.isSpace 32 = true := by decide +kernel
theorem nosp {d : Nat} (h : (48 ≤ d ∧ d ≤ 57) ∨ d = 115 ∨ d = 102 ∨ d = 120) : Unicode.isSpace d = false := by
  have all : ∀ k : Fin 128, ((48 ≤ k.val ∧ k.val ≤ 57) ∨ k.val = 115 ∨ k.val = 102 ∨ k.val = 120) → Unicode.isSpace k.val = false := by decide +kernel
  exact all ⟨d, by omega⟩ h
theorem word_step {p : List Nat} (hp : p ≠ []) (h : ∀ c ∈ p, Unicode.isSpace c = false) (ws : List (List Nat)) (rest : List Nat) : (p ++ 32 :: rest).foldl wstep (ws, []) = rest.foldl wstep (ws ++ [p], []) := by
  rw [List.foldl_append, wfold_word p ws [] h, List.nil_append, List.foldl_cons]
  have : wstep (ws, p) 32 = (ws ++ [p], []) := by unfold wstep; rw [if_pos space32]; exact if_neg hp
  rw [this]
theorem gap_step (ws : List (List Nat)) (rest : List Nat) : (32 :: rest).foldl wstep (ws, []) = rest.foldl wstep (ws, []) := by
  rw [List.foldl_cons]
  have : wstep (ws, []) 32 = (ws, []) := by unfold wstep; rw [if_pos space32]; exact if_pos rfl
  rw [this]
theorem fold_spc : ∀ (t : Tm) (_ : t.small) (ws : List (List Nat)) (rest : List Nat), (spc t ++ 32 :: rest).foldl wstep (ws, []) = rest.foldl wstep (ws ++ t.sgn.map tl, [])
  | .v n, h, ws, rest => by
    have h0 := (h n (by simp [Tm.nums])).1
    rw [spc_v h0, word_step (by simp) ?_]
    · show _ = List.foldl wstep (ws ++ [tl (("x" : Str) ++ Str.ofString (toString n))], []) rest
      rw [tl_append, t_x, tl_int h0]
      rfl
    · intro c hc
      rcases List.mem_cons.mp hc with rfl | hc
      · exact nosp (.inr (.inr (.inr rfl)))
      · exact nosp (.inl (numL_small _ c hc))
  | .z, h, ws, rest => by
    rw [spc_z, word_step (by simp) ?_]
    · show _ = List.foldl wstep (ws ++ [tl ("0" : Str)], []) rest
      rw [t_0]
    · intro c hc
      simp at hc
      exact nosp (.inl (by omega))
  | .s t, h, ws, rest => by
    rw [spc_s]
    show ([115] ++ 32 :: ((spc t ++ [32]) ++ 32 :: rest)).foldl wstep (ws, []) = _
    rw [word_step (by simp) (by intro c hc; simp at hc; exact nosp (.inr (.inl hc)))]
    rw [show (spc t ++ [32]) ++ 32 :: rest = spc t ++ 32 :: (32 :: rest) by simp, fold_spc t h, gap_step]
    simp [Tm.sgn, t_s]
  | .f l r, h, ws, rest => by
    rw [spc_f]
    show ([102] ++ 32 :: ((spc l ++ 32 :: (spc r ++ [32])) ++ 32 :: rest)).foldl wstep (ws, []) = _
    rw [word_step (by simp) (by intro c hc; simp at hc; exact nosp (.inr (.inr (.inl hc))))]
    rw [show (spc l ++ 32 :: (spc r ++ [32])) ++ 32 :: rest = spc l ++ 32 :: (spc r ++ 32 :: (32 :: rest)) by simp,
      fold_spc l (fun n hn => h n (by simp [Tm.nums, hn])), fold_spc r (fun n hn => h n (by simp [Tm.nums, hn])), gap_step]
    simp [Tm.sgn, t_f]
theorem wfin_gap (st : List (List Nat) × List Nat) : wfin (wstep st 32) = wfin st := by
  unfold wstep wfin
  rw [if_pos space32]
  by_cases h : st.2 = []
  · rw [if_pos h, if_pos h]
  · rw [if_neg h, if_neg h]
    simp
/-- the text with brackets and commas blanked -/
def blanked (x : Str) : Str := Txt.replace (Txt.replace (Txt.replace x "(" " ") ")" " ") "," " "
theorem blanked_tl (x : Str) : tl (blanked x) = (tl x).map b3 := by
  have e32 : (" " : Str) = ⟨#[32]⟩ := by decide +kernel
  have e40 : ("(" : Str) = ⟨#[40]⟩ := by decide +kernel
  have e41 : (")" : Str) = ⟨#[41]⟩ := by decide +kernel
  have e44 : ("," : Str) = ⟨#[44]⟩ := by decide +kernel
  unfold blanked
  rw [e32, e40, e41, e44, repl_tl _ (by decide), repl_tl _ (by decide), repl_tl _ (by decide), List.map_map, List.map_map]
  rfl
theorem words_txt (t : Tm) (h : t.small) : Txt.words (blanked t.txt) = t.sgn := by
  refine map_tl_inj ?_
  rw [words_tl, blanked_tl]
  show wfin ((spc t).foldl wstep ([], [])) = _
  rw [← wfin_gap]
  have : wstep ((spc t).foldl wstep ([], [])) 32 = (spc t ++ 32 :: []).foldl wstep ([], []) := by rw [List.foldl_append]; rfl
  rw [this, fold_spc t h]
  simp [wfin]
theorem blanked_len (x : Str) : (blanked x).length = x.length := by
  rw [len_tl, len_tl, blanked_tl, List.length_map]
end Rp

namespace Rp
open PySem PySem.Spec PyProof.Rows L2 TL
/-- the sign of a variable -/
def xn (n : Int) : Str := "x" ++ Str.ofString (toString n)
theorem xn_facts {n : Int} (h : 0 ≤ n ∧ n ≤ 99) : cutS (xn n) none (some 1) = "x" ∧ (xn n).length ≤ 3 ∧ cutS (xn n) (some 1) none = Str.ofString (toString n) ∧ Txt.isdecimal (Str.ofString (toString n)) = true ∧ intText? (Str.ofString (toString n)) = some n ∧
    xn n ≠ "0" ∧ xn n ≠ "s" ∧ xn n ≠ "f" := by
  have all : ∀ k : Fin 100, cutS (xn (k.val : Int)) none (some 1) = "x" ∧ (xn (k.val : Int)).length ≤ 3 ∧ cutS (xn (k.val : Int)) (some 1) none = Str.ofString (toString (k.val : Int)) ∧ Txt.isdecimal (Str.ofString (toString (k.val : Int))) = true ∧
    xn (k.val : Int) ≠ "0" ∧ xn (k.val : Int) ≠ "s" ∧ xn (k.val : Int) ≠ "f" := by decide +kernel
  obtain ⟨k, rfl⟩ := Int.eq_ofNat_of_zero_le h.1
  obtain ⟨a, b, c, d, e, f, g⟩ := all ⟨k, by omega⟩
  exact ⟨a, b, c, d, int_num (Nat.le_trans (numL_len (k := 2) (by decide) (by omega)) (by decide)), e, f, g⟩
def spNumberOf : Sp := fun vs H Q _ => ∃ n : Int, vs = [.str (xn n)] ∧ 0 ≤ n ∧ n ≤ 99 ∧ Q (.int n) H
section
variable {P : Program} {w : World} {K : PySem.W.Frag} {mg : Str → Option Value} {base : Heap}
theorem scNumberOf : FnScope ["sign"] ["sign"] (defScope sNumberOf) := ⟨rfl, rfl, rfl, by decide +kernel, rfl, by decide +kernel, by decide +kernel⟩
theorem ok_numberof {f : Addr} {fd : FuncData} (F : Fun K "_number_of" "_number_of" sNumberOf f fd) (mLen : mg "len" = none) (mInt : mg "int" = none) : FnOk P w K mg base CX0 1 f fd ["sign"] spNumberOf := by
  refine F.ok scNumberOf (fun vs H Q E h => ?_) (fun cdv A outer s H vs Q E hr h => ?_)
  · obtain ⟨n, rfl, _⟩ := h
    rfl
  obtain ⟨n, rfl, h0, h1, q⟩ := h
  refine ⟨_, pss_cons (ps_if (PW.pt (pw_and (pt_cmpR op_eq (pe_slice sl_str (pv 0) po_none (po_some pe_int)) pe_str (nomark _))
      (pw_and (pt_cmpR op_le (pe_callB call_len_str (by rfl) mLen PySem.boot_len (pa_cons (pv 0) pa_nil)) pe_int (nomark _))
      (pw_and1 (pt_val (pe_bm0 PySem.F.plainAttrs_str PySem.F.slot_str_isdecimal PySem.F.type_str_isdecimal mt_isdecimal (pe_slice sl_str (pv 0) (po_some pe_int) po_none)))))))
      (pss_one (ps_ret (pe_callTy call_int_str (by rfl) mInt (by decide +kernel) (pa_cons (pe_slice sl_str (pv 0) (po_some pe_int) po_none) pa_nil)))) pss_nil)
    (pss_one (ps_ret pe_non)), ?_⟩
  obtain ⟨f1, f2, f3, f4, f5, _⟩ := xn_facts ⟨h0, h1⟩
  have big : (10000 : Nat) ≤ sizeLine := by decide
  have nl := num_len ⟨h0, h1⟩
  refine ⟨_, rfl, 1, rfl, xn n, rfl, by omega, ?_⟩
  rw [f1]
  refine ⟨rfl, true, congrArg V.bl (decide_eq_true rfl), iteT ?_⟩
  refine ⟨_, rfl, xn n, rfl, by omega, _, _, rfl, rfl, true, congrArg V.bl (decide_eq_true (by omega)), iteT ?_⟩
  refine ⟨_, rfl, 1, rfl, xn n, rfl, by omega, rfl, _, rfl, rfl, trivial, true, ?_, iteT ?_⟩
  · rw [f3, f4]
  · refine ⟨_, rfl, 1, rfl, xn n, rfl, by omega, _, n, rfl, ?_, ?_, q⟩
    · rw [f3]; exact f5
    · rw [f3]; omega
end
end Rp

namespace Rp
open PySem PySem.Spec PyProof.Rows L2 TL
namespace Tm
/-- the parts, each ahead of its own -/
def ahead : Tm → List Tm
  | v n => [v n] | z => [z] | s t => s t :: t.ahead | f l r => f l r :: (l.ahead ++ r.ahead)
def sign1 : Tm → Str
  | v n => xn n | z => "0" | s _ => "s" | f _ _ => "f"
theorem sgn_ahead : ∀ t : Tm, t.sgn = t.ahead.map sign1
  | v n => rfl | z => rfl | s t => by simp [sgn, ahead, sign1, sgn_ahead t]
  | f l r => by simp [sgn, ahead, sign1, sgn_ahead l, sgn_ahead r]
theorem ahead_len : ∀ t : Tm, t.ahead.length = t.size
  | v _ => rfl | z => rfl | s t => by simp [ahead, size, ahead_len t]
  | f l r => by simp [ahead, size, ahead_len l, ahead_len r]
end Tm
theorem ahead_small : ∀ {t k : Tm}, k ∈ t.ahead → t.small → k.small
  | .v n, k, h, s => by simp [Tm.ahead] at h; subst h; exact s
  | .z, k, h, s => by simp [Tm.ahead] at h; subst h; exact s
  | .s t, k, h, s => by
    simp [Tm.ahead] at h
    rcases h with rfl | h
    · exact s
    · exact ahead_small (t := t) h s
  | .f l r, k, h, s => by
    simp [Tm.ahead] at h
    rcases h with rfl | h | h
    · exact s
    · exact ahead_small (t := l) h fun n hn => s n (by simp [Tm.nums, hn])
    · exact ahead_small (t := r) h fun n hn => s n (by simp [Tm.nums, hn])
def runsR : List Tm → List Tm → List Tm → Prop
  | S, [], S' => S = S'
  | S, k :: r, S' => ∃ S0, S = S0 ++ k.kids.reverse ∧ runsR (S0 ++ [k]) r S'
theorem runsR_post : ∀ (t : Tm) (S r S' : List Tm), runsR (S ++ [t]) r S' → runsR S (t.ahead.reverse ++ r) S'
  | .v n, S, r, S', h => by simp only [Tm.ahead, List.reverse_singleton, List.singleton_append]; exact ⟨S, by simp [Tm.kids], h⟩
  | .z, S, r, S', h => by simp only [Tm.ahead, List.reverse_singleton, List.singleton_append]; exact ⟨S, by simp [Tm.kids], h⟩
  | .s t, S, r, S', h => by
    simp only [Tm.ahead, List.reverse_cons, List.append_assoc, List.singleton_append]
    exact runsR_post t S _ _ ⟨S, by simp [Tm.kids], h⟩
  | .f l r', S, r, S', h => by
    simp only [Tm.ahead, List.reverse_cons, List.reverse_append, List.append_assoc, List.singleton_append]
    exact runsR_post r' S _ _ (runsR_post l (S ++ [r']) _ _ ⟨S, by simp [Tm.kids], h⟩)
def spFromSigns : Sp := fun vs H Q _ => ∃ (p : Addr) (t : Tm), vs = [.ref p] ∧ H p = some (.lst (t.sgn.map V.str)) ∧ t.small ∧ t.size ≤ 1000 ∧ ∀ (v : V) (H' : Hp), TmAt H' v t → Same H H' → Q v H'
theorem str_ne {x y : Str} (h : x ≠ y) : decide (V.str x = V.str y) = false := decide_eq_false fun z => h (V.str.inj z)
section
variable {P : Program} {w : World} {K : PySem.W.Frag} {mg : Str → Option Value} {base : Heap}
theorem scFromSigns : FnScope ["signs", "made", "sign", "left"] ["signs"] (defScope sFromSigns) := ⟨rfl, rfl, rfl, by decide +kernel, rfl, by decide +kernel, by decide +kernel⟩
theorem ok_fromsigns {f fN : Addr} {fd dN : FuncData} (F : Fun K "_from_signs" "_from_signs" sFromSigns f fd)
    (GN : FnOk P w K mg base CX0 1 fN dN ["sign"] spNumberOf) (kN : PySem.W.keepIn K (.ref fN) = true) (bN : Binds K dN ["sign"] []) (mN : mg "_number_of" = some (.ref fN))
    (mLen : mg "len" = none) (mRev : mg "reversed" = none) : FnOk P w K mg base CX0 2 f fd ["signs"] spFromSigns := by
  refine F.ok scFromSigns (fun vs H Q E h => ?_) (fun cdv A outer s H vs Q E hr h => ?_)
  · obtain ⟨p, t, rfl, _⟩ := h
    rfl
  obtain ⟨p, t, rfl, hp, sm, sz, q⟩ := h
  refine ⟨_, pss_cons (ps_set (i := 1) scFromSigns.nd rfl (Or.inl rfl) (pe_lst pa_nil))
    (pss_cons (ps_for PassesOwn.never rfl (pi_reversed (by rfl) mRev (pa_cons (pv 0) pa_nil)) (pg_name (i := 2) scFromSigns.nd rfl (Or.inl rfl))
      (pss_one (ps_if (pt_cmpR op_eq (pv 2) pe_str (nomark _)) (pss_one (ps_expr (pe_bm PySem.F.plainAttrs_list PySem.F.slot_list_append PySem.F.type_list_append mt_append (pv 1) (pa_cons (pe_tup (pa_cons pe_str pa_nil)) pa_nil))))
      (pss_one (ps_if (PW.pt (pw_and (pt_cmpR op_eq (pv 2) pe_str (nomark _)) (pw_and1 (pt_truth (pv 1) (by intro _; rfl)))))
        (pss_one (ps_expr (pe_bm PySem.F.plainAttrs_list PySem.F.slot_list_append PySem.F.type_list_append mt_append (pv 1) (pa_cons (pe_tup (pa_cons pe_str (pa_cons (pe_bm0 PySem.F.plainAttrs_list PySem.F.slot_list_pop PySem.F.type_list_pop mt_pop (pv 1)) pa_nil))) pa_nil))))
      (pss_one (ps_if (PW.pt (pw_and (pt_cmpR op_eq (pv 2) pe_str (nomark _)) (pw_and1 (pt_cmpR op_gt (pe_callB call_len_seq (by rfl) mLen PySem.boot_len (pa_cons (pv 1) pa_nil)) pe_int (nomark _)))))
        (pss_cons (ps_set (i := 3) scFromSigns.nd rfl (Or.inl rfl) (pe_bm0 PySem.F.plainAttrs_list PySem.F.slot_list_pop PySem.F.type_list_pop mt_pop (pv 1)))
        (pss_one (ps_expr (pe_bm PySem.F.plainAttrs_list PySem.F.slot_list_append PySem.F.type_list_append mt_append (pv 1) (pa_cons (pe_tup (pa_cons pe_str (pa_cons (pv 3) (pa_cons (pe_bm0 PySem.F.plainAttrs_list PySem.F.slot_list_pop PySem.F.type_list_pop mt_pop (pv 1)) pa_nil)))) pa_nil)))))
      (pss_one (ps_if (pt_cmpR op_notN (pe_call GN hr rfl mN kN bN .nil pass0 (pa_cons (pv 2) pa_nil)) pe_non (nomark _))
        (pss_one (ps_expr (pe_bm PySem.F.plainAttrs_list PySem.F.slot_list_append PySem.F.type_list_append mt_append (pv 1) (pa_cons (pe_call GN hr rfl mN kN bN .nil pass0 (pa_cons (pv 2) pa_nil)) pa_nil))))
        (pss_one (ps_ret pe_non)))))))))))
    (pss_one (ps_ret (pe_ifExp (pt_cmpR op_eq (pe_callB call_len_seq (by rfl) mLen PySem.boot_len (pa_cons (pv 1) pa_nil)) pe_int (nomark _)) (pe_ix ix_list (pv 1) pe_int (fun _ _ => rfl)) pe_non)))), ?_⟩
  refine ⟨(by show 0 ≤ sizeLine; decide), fun m hm => ?_⟩
  have s0 := same_new hm (.lst ([] : List V))
  have hp1 := s0 _ _ hp
  have pm : p ≠ m := ne_of_none hp hm
  have big : (10000 : Nat) ≤ sizeLine := by decide
  have xl : (t.sgn.map V.str).length = t.size := by rw [List.length_map, Tm.sgn_len]
  have al : t.ahead.length = t.size := Tm.ahead_len t
  refine ⟨_, rfl, p, _, rfl, .inl (.inl hp1), RT.for_Itv (K := K) (a := p) (xs := t.sgn.map V.str) (fun i σ H2 => ∃ (S : List Tm) (ws : List V) (x2 x3 : Option V), σ = [some (.ref p), some (.ref m), x2, x3] ∧ H2 m = some (.lst ws) ∧ AllAt H2 ws S ∧
      runsR S (t.ahead.reverse.drop i) [t] ∧ S.length ≤ i ∧ But m (upd H m (.lst ([] : List V))) H2) ⟨[], [], none, none, rfl, upd_same, trivial, ?_, by simp, But.refl _ _⟩ (fun i σ H2 ⟨_, _, _, _, _, _, _, _, _, o⟩ => .inl (.inl (o _ _ hp1 pm))) ?_ ?_⟩
  · have := runsR_post t [] [] [t] rfl
    simpa using this
  · rintro i x σ H2 hi hx ⟨S, ws, x2, x3, rfl, h2, AS, run, sl, o2⟩
    rw [xl] at hi hx
    have li : i < t.ahead.reverse.length := by rw [List.length_reverse]; omega
    obtain ⟨k, hk⟩ : ∃ k, t.ahead.reverse[i]? = some k := ⟨_, List.getElem?_eq_getElem li⟩
    have ex : x = .str k.sign1 := by
      rw [Tm.sgn_ahead, List.map_map, List.getElem?_map] at hx
      rw [List.getElem?_reverse (by omega), al] at hk
      rw [hk] at hx
      simpa using hx.symm
    subst ex
    have ek : t.ahead.reverse.drop i = k :: t.ahead.reverse.drop (i + 1) := by
      rw [List.drop_eq_getElem_cons li, (List.getElem?_eq_some_iff.mp hk).2]
    rw [ek] at run
    obtain ⟨S0, rfl, run⟩ := run
    have km : k ∈ t.ahead := List.mem_reverse.mp (List.mem_of_getElem? hk)
    have smk := ahead_small km sm
    have wl := AS.len
    rw [List.length_append] at sl
    have mNone : H m = none := hm
    have n0s : ("0" : Str) ≠ "s" := by decide +kernel
    have n0f : ("0" : Str) ≠ "f" := by decide +kernel
    have nsf : ("s" : Str) ≠ "f" := by decide +kernel
    have nall : ∀ (g : Addr) (H3 : Hp), H3 g = none → (∀ c o, (upd H m (.lst ([] : List V))) c = some o → c ≠ m → H3 c = some o) → ∀ c o, (upd H m (.lst ([] : List V))) c = some o → c ≠ m → c ≠ g := fun g H3 hg st c o z nc e => by
      subst e
      have := st c o z nc
      rw [hg] at this
      cases this
    cases k with
    | v n =>
      have hn := smk n (by simp [Tm.nums])
      obtain ⟨_, _, _, _, _, g0, gs, gf⟩ := xn_facts hn
      have e0 : S0 ++ (Tm.v n).kids.reverse = S0 := by simp [Tm.kids]
      rw [e0] at AS wl
      refine ⟨_, rfl, rfl, false, congrArg V.bl (str_ne g0), iteF ?_⟩
      refine ⟨_, rfl, rfl, false, congrArg V.bl (str_ne gs), iteF ?_⟩
      refine iteF ?_
      refine ⟨_, rfl, rfl, false, congrArg V.bl (str_ne gf), iteF ?_⟩
      refine iteF ?_
      refine ⟨_, rfl, n, rfl, hn.1, hn.2, rfl, true, congrArg (fun z => V.bl (!z)) (decide_eq_false (fun z => nomatch z)), iteT ?_⟩
      refine ⟨_, rfl, .inl ⟨rfl, _, .inl (.inl h2)⟩, _, rfl, n, rfl, hn.1, hn.2, m, ws, _, rfl, rfl, h2, by omega, ?_⟩
      refine ⟨S0 ++ [.v n], ws ++ [.int n], _, _, rfl, upd_same, ?_, run, by rw [List.length_append, List.length_singleton]; omega, fun c o z nc => by rw [upd_ne nc]; exact o2 c o z nc⟩
      have keep : ∀ a xs, H2 a = some (.tup xs) → (upd H2 m (.lst (ws ++ [.int n]))) a = some (.tup xs) := fun a xs z => by rw [upd_ne (ne_of z h2 (by intro z; cases z))]; exact z
      exact (AS.mono keep).append ⟨.v n, trivial⟩
    | z =>
      have e0 : S0 ++ (Tm.z).kids.reverse = S0 := by simp [Tm.kids]
      rw [e0] at AS wl
      refine ⟨_, rfl, rfl, true, congrArg V.bl (decide_eq_true rfl), iteT ?_⟩
      refine ⟨_, rfl, .inl ⟨rfl, _, .inl (.inl h2)⟩, (by show 1 ≤ sizeLine; decide), fun g hg => ?_⟩
      have s3 := same_new hg (.tup [V.str "0"])
      have h3 := s3 _ _ h2
      refine ⟨m, ws, _, rfl, rfl, h3, by omega, ?_⟩
      have keep : ∀ a xs, (upd H2 g (.tup [V.str "0"])) a = some (.tup xs) → (upd (upd H2 g (.tup [V.str "0"])) m (.lst (ws ++ [.ref g]))) a = some (.tup xs) := fun a xs z => by rw [upd_ne (ne_of z h3 (by intro z; cases z))]; exact z
      refine ⟨S0 ++ [.z], ws ++ [.ref g], _, _, rfl, upd_same, ?_, run, by rw [List.length_append, List.length_singleton]; omega, fun c o z nc => by rw [upd_ne nc]; exact s3 _ _ (o2 c o z nc)⟩
      exact (AS.mono fun a xs z => keep a xs (s3 _ _ z)).append ⟨.z (keep _ _ upd_same), trivial⟩
    | s t' =>
      obtain ⟨w0, w1, rfl, A0, A1⟩ : ∃ w0 w1, ws = w0 ++ [w1] ∧ AllAt H2 w0 S0 ∧ TmAt H2 w1 t' := by
        rcases List.eq_nil_or_concat ws with e | ⟨M, y, e⟩
        · subst e; simp [Tm.kids] at wl
        · rw [List.concat_eq_append] at e
          subst e
          obtain ⟨L1, L2, e2, B1, B2⟩ := AS.parted
          match L2, B2 with
          | [u], B2 =>
            have e2' : S0 ++ [t'] = L1 ++ [u] := e2
            obtain ⟨e3, e4⟩ := List.append_inj' e2' rfl
            injection e4 with e4
            subst e3 e4
            exact ⟨M, y, rfl, B1, B2.1⟩
      refine ⟨_, rfl, rfl, false, congrArg V.bl (str_ne n0s.symm), iteF ?_⟩
      refine ⟨_, rfl, rfl, true, congrArg V.bl (decide_eq_true rfl), iteT ?_⟩
      refine ⟨_, rfl, true, .inl ⟨_, .inl (.inl h2), by simp⟩, iteT ?_⟩
      refine ⟨_, rfl, .inl ⟨rfl, _, .inl (.inl h2)⟩, _, rfl, .inl ⟨rfl, _, .inl (.inl h2)⟩, m, _, w1, rfl, rfl, h2, by simp, (by show 2 ≤ sizeLine; decide), fun g hg => ?_⟩
      rw [List.dropLast_concat] at hg ⊢
      have s3 := same_new hg (.tup [V.str "s", w1])
      have hm3 := s3 _ _ (upd_same : (upd H2 m (.lst w0)) m = some (.lst w0))
      have sl' : w0.length < sizeLine := by rw [A0.len]; omega
      refine ⟨m, w0, _, rfl, rfl, hm3, sl', ?_⟩
      have k1 : ∀ a xs, H2 a = some (.tup xs) → (upd H2 m (.lst w0)) a = some (.tup xs) := fun a xs z => by rw [upd_ne (ne_of z h2 (by intro z; cases z))]; exact z
      have k2 : ∀ a xs, (upd (upd H2 m (.lst w0)) g (.tup [V.str "s", w1])) a = some (.tup xs) → (upd (upd (upd H2 m (.lst w0)) g (.tup [V.str "s", w1])) m (.lst (w0 ++ [.ref g]))) a = some (.tup xs) := fun a xs z => by rw [upd_ne (ne_of z hm3 (by intro z; cases z))]; exact z
      have k3 : ∀ a xs, H2 a = some (.tup xs) → (upd (upd (upd H2 m (.lst w0)) g (.tup [V.str "s", w1])) m (.lst (w0 ++ [.ref g]))) a = some (.tup xs) := fun a xs z => k2 a xs (s3 _ _ (k1 a xs z))
      refine ⟨S0 ++ [.s t'], w0 ++ [.ref g], _, _, rfl, upd_same, (A0.mono k3).append ⟨.s (k2 _ _ upd_same) (A1.mono k3), trivial⟩, run, by rw [List.length_append, List.length_singleton]; omega, fun c o z nc => ?_⟩
      rw [upd_ne nc]
      exact s3 _ _ (by rw [upd_ne nc]; exact o2 c o z nc)
    | f l r =>
      obtain ⟨w0, wr, wl', rfl, A0, Ar, Al⟩ : ∃ w0 wr wl', ws = w0 ++ [wr] ++ [wl'] ∧ AllAt H2 w0 S0 ∧ TmAt H2 wr r ∧ TmAt H2 wl' l := by
        have eS : S0 ++ (Tm.f l r).kids.reverse = S0 ++ [r] ++ [l] := by simp [Tm.kids]
        rw [eS] at AS wl
        rcases List.eq_nil_or_concat ws with e | ⟨M, y, e⟩
        · subst e; simp at wl
        · rw [List.concat_eq_append] at e
          subst e
          obtain ⟨L1, L2, e2, B1, B2⟩ := AS.parted
          match L2, B2 with
          | [u], B2 =>
            obtain ⟨e3, e4⟩ := List.append_inj' e2 rfl
            injection e4 with e4
            subst e3 e4
            rcases List.eq_nil_or_concat M with e | ⟨M', y', e⟩
            · subst e; have := B1.len; simp at this
            · rw [List.concat_eq_append] at e
              subst e
              obtain ⟨L3, L4, e5, B3, B4⟩ := B1.parted
              match L4, B4 with
              | [u'], B4 =>
                obtain ⟨e6, e7⟩ := List.append_inj' e5 rfl
                injection e7 with e7
                subst e6 e7
                exact ⟨M', y', y, rfl, B3, B4.1, B2.1⟩
      have hl2 : decide ((1 : Int) < (((w0 ++ [wr] ++ [wl']).length : Nat) : Int)) = true := decide_eq_true (by simp; omega)
      refine ⟨_, rfl, rfl, false, congrArg V.bl (str_ne n0f.symm), iteF ?_⟩
      refine ⟨_, rfl, rfl, false, congrArg V.bl (str_ne nsf.symm), iteF ?_⟩
      refine iteF ?_
      refine ⟨_, rfl, rfl, true, congrArg V.bl (decide_eq_true rfl), iteT ?_⟩
      refine ⟨_, rfl, m, _, rfl, .inl (.inl (.inl h2)), _, _, rfl, rfl, true, congrArg V.bl hl2, iteT ?_⟩
      refine ⟨_, rfl, .inl ⟨rfl, _, .inl (.inl h2)⟩, m, _, wl', rfl, rfl, h2, by simp, ?_⟩
      rw [List.dropLast_concat]
      have h3 : (upd H2 m (.lst (w0 ++ [wr]))) m = some (.lst (w0 ++ [wr])) := upd_same
      refine ⟨_, rfl, .inl ⟨rfl, _, .inl (.inl h3)⟩, _, rfl, _, rfl, .inl ⟨rfl, _, .inl (.inl h3)⟩, m, _, wr, rfl, rfl, h3, by simp, (by show 3 ≤ sizeLine; decide), fun g hg => ?_⟩
      rw [List.dropLast_concat, upd_upd] at hg ⊢
      have s3 := same_new hg (.tup [V.str "f", wl', wr])
      have hm3 := s3 _ _ (upd_same : (upd H2 m (.lst w0)) m = some (.lst w0))
      have sl' : w0.length < sizeLine := by rw [A0.len]; omega
      refine ⟨m, w0, _, rfl, rfl, hm3, sl', ?_⟩
      have k1 : ∀ a xs, H2 a = some (.tup xs) → (upd H2 m (.lst w0)) a = some (.tup xs) := fun a xs z => by rw [upd_ne (ne_of z h2 (by intro z; cases z))]; exact z
      have k2 : ∀ a xs, (upd (upd H2 m (.lst w0)) g (.tup [V.str "f", wl', wr])) a = some (.tup xs) → (upd (upd (upd H2 m (.lst w0)) g (.tup [V.str "f", wl', wr])) m (.lst (w0 ++ [.ref g]))) a = some (.tup xs) := fun a xs z => by rw [upd_ne (ne_of z hm3 (by intro z; cases z))]; exact z
      have k3 : ∀ a xs, H2 a = some (.tup xs) → (upd (upd (upd H2 m (.lst w0)) g (.tup [V.str "f", wl', wr])) m (.lst (w0 ++ [.ref g]))) a = some (.tup xs) := fun a xs z => k2 a xs (s3 _ _ (k1 a xs z))
      refine ⟨S0 ++ [.f l r], w0 ++ [.ref g], _, _, rfl, upd_same, (A0.mono k3).append ⟨.f (k2 _ _ upd_same) (Al.mono k3) (Ar.mono k3), trivial⟩, run, by rw [List.length_append, List.length_singleton]; omega, fun c o z nc => ?_⟩
      rw [upd_ne nc]
      exact s3 _ _ (by rw [upd_ne nc]; exact o2 c o z nc)
  · rintro σ H2 ⟨S, ws, x2, x3, rfl, h2, AS, run, sl, o2⟩
    rw [List.drop_of_length_le (by rw [List.length_reverse, xl, al]; exact Nat.le_refl _)] at run
    obtain rfl : S = [t] := run
    match ws, AS with
    | [x], AS =>
      refine ⟨_, rfl, m, _, rfl, .inl (.inl (.inl h2)), rfl, true, congrArg V.bl (decide_eq_true rfl), iteT ?_⟩
      refine ⟨_, rfl, m, _, _, _, rfl, rfl, .inl (.inl h2), at_of (j := 0) rfl rfl, q x H2 AS.1 ?_⟩
      exact fun c o z => o2 c o (s0 _ _ z) (ne_of_none z hm)
end
end Rp

namespace Rp
open PySem PySem.Spec PyProof.Rows L2 TL CwR
section
variable {X : Cx} {o e : Expr} {to te : TE}
/-- words of what wants a token -/
theorem pet_words {apos pos : Pos} (ho : PET X o to) (hbase : attributeBase o "split" X.env (eval o X.env) = eval o X.env := by rfl) (hline : (apos.endLine == pos.line) = true := by rfl) :
    PET X (.Call (.Attribute o "split" apos) [] [] pos) (tM0 (fun x xs H Q => ∃ a, x = .str a ∧ xs = [] ∧ a.length + 2 ≤ sizeLine ∧ rNewStrs (Txt.words a) H Q) to) := by
  intro pins s σ H Q tk I h
  refine PySem.Call_method0 hbase hline (thn (ho pins s σ H _ tk I h) fun recv s1 ⟨x, H1, I1, rel, told, go⟩ => ?_)
  obtain ⟨text, rfl⟩ := told
  obtain ⟨tok, rfl⟩ := _root_.id rel
  exact ⟨"str", _, PySem.F.plainAttrs_str, PySem.F.slot_str_split, PySem.F.type_str_split, typeIs_str _ _ _, (fun _ z => nomatch z), Calls.callWith_builtin rfl (PySem.evalArgs_none (mt_words pins s1 σ H1 _ [] _ [] Q I1 rel .nil go))⟩
/-- name = e, e wants a token -/
theorem pst_set {i : Nat} {x : Str} {pos pos' : Pos} (hN : X.N.Nodup) (hi : X.N[i]? = some x) (hx : Loc X.env.scope x) (he : PET X e te) (hs : swapsWith e (some (.Name x pos')) pos.line X.env = pure false := by rfl)
    (hf : X.fn x = true ∨ X.env.scope.names.lookup x = some .local := by first | exact .inl rfl | exact .inr rfl | assumption) : PST X (.Assign [.Name x pos'] e pos) (tAsg te (gName i)) := by
  intro pins s σ H D tk I h
  refine wpAny_Assign_Name (thn (he pins s σ H _ tk I h) fun u s1 ⟨y, H1, I1, rel, go⟩ => store_ok I1 hN hi hx rel (fun s2 I2 => ⟨_, H1, I2, go⟩) hf) hs
end
def spTermOr : Sp := fun vs H Q _ => ∃ t : Tm, vs = [.str t.txt] ∧ t.small ∧ t.size ≤ 200 ∧ ∀ (v : V) (H' : Hp), TmAt H' v t → Same H H' → Q v H'
section
variable {P : Program} {w : World} {K : PySem.W.Frag} {mg : Str → Option Value} {base : Heap}
theorem scTermOr : FnScope ["text", "signs", "term"] ["text"] (defScope sTermOrNone) := ⟨rfl, rfl, rfl, by decide +kernel, rfl, by decide +kernel, by decide +kernel⟩
theorem ok_termor {f fS fT : Addr} {fd dS dT : FuncData} {tk : Tok} (F : Fun K "term_or_none" "term_or_none" sTermOrNone f fd)
    (GS : FnOk P w K mg base CX0 2 fS dS ["signs"] spFromSigns) (kS : PySem.W.keepIn K (.ref fS) = true) (bS : Binds K dS ["signs"] []) (mS : mg "_from_signs" = some (.ref fS))
    (GT : FnOk P w K mg base CX0 4 fT dT ["term"] spTermText) (kT : PySem.W.keepIn K (.ref fT) = true) (bT : Binds K dT ["term"] []) (mT : mg "term_text" = some (.ref fT))
    (mLen : mg "len" = none) (mMost : mg "MOST_SIGNS" = some (.int 200 tk)) : FnOk P w K mg base CX0 5 f fd ["text"] spTermOr := by
  obtain ⟨oc, od, kV, doc, pm, an, cdv, ct, osl, rfl, lk, hcd⟩ := F.ex
  refine fn_ofT lk hcd scTermOr (by decide +kernel) (by decide) (fun vs H Q E h => ?_) (fun A outer s H vs Q E hr h => ?_)
  · obtain ⟨t, rfl, _⟩ := h
    rfl
  obtain ⟨t, rfl, sm, sz, q⟩ := h
  have r2 : Room 2 _ := hr.mono (by decide)
  refine ⟨_, psst_cons (pst_set (i := 1) scTermOr.nd rfl (Or.inl rfl) (pet_words (pet_replT (pet_replT (pet_replC (pv 0))))))
    (PSsT.of (pss_cons (ps_set (i := 2) scTermOr.nd rfl (Or.inl rfl) (pe_ifExp (pt_cmpR op_le (pe_callB call_len_seq (by rfl) mLen PySem.boot_len (pa_cons (pv 1) pa_nil)) (pe_glob (v := .int 200) rfl mMost ⟨_, rfl⟩) (nomark _)) (pe_call GS r2 rfl mS kS bS .nil pass0 (pa_cons (pv 1) pa_nil)) pe_non))
    (pss_cons (ps_if (PW.pt (pw_or (pt_cmpR op_isN (pv 2) pe_non (nomark _)) (pw_or1 (pt_cmpR op_ne (pe_call GT hr rfl mT kT bT .nil pass0 (pa_cons (pv 2) pa_nil)) (pv 0) (nomark _))))) (pss_one (ps_ret pe_non)) pss_nil)
    (pss_one (ps_ret (pv 2)))))), ?_⟩
  have tl_ := txt_len t sm
  have big : (10000 : Nat) ≤ sizeLine := by decide
  have l1 : (" " : Str).length = 1 := by decide +kernel
  have e32 : (" " : Str) = ⟨#[32]⟩ := by decide +kernel
  have e40 : ("(" : Str) = ⟨#[40]⟩ := by decide +kernel
  have e41 : (")" : Str) = ⟨#[41]⟩ := by decide +kernel
  have rl1 : ∀ x : Str, (Txt.replace x "(" " ").length = x.length := fun x => by rw [e32, e40, len_tl, len_tl, repl_tl _ (by decide), List.length_map]
  have rl2 : ∀ x : Str, (Txt.replace x ")" " ").length = x.length := fun x => by rw [e32, e41, len_tl, len_tl, repl_tl _ (by decide), List.length_map]
  refine ⟨_, rfl, t.txt, rfl, by rw [l1]; omega, _, rfl, by rw [l1, rl1]; omega, _, rfl, by rw [l1, rl2, rl1]; omega, ⟨_, rfl⟩, _, rfl, rfl, ?_, fun p hp => ?_⟩
  · show (blanked t.txt).length + 2 ≤ _
    rw [blanked_len]; omega
  have ew : Txt.words (Txt.replace (Txt.replace (Txt.replace t.txt "(" " ") ")" " ") "," " ") = t.sgn := words_txt t sm
  rw [ew]
  have s1 := same_new hp (.lst (t.sgn.map V.str))
  refine ⟨_, rfl, p, _, rfl, .inl (.inl (.inl upd_same)), _, _, rfl, rfl, true, congrArg V.bl (decide_eq_true (by rw [List.length_map, Tm.sgn_len]; omega)), iteT ?_⟩
  refine ⟨_, rfl, p, t, rfl, upd_same, sm, by omega, fun v H2 T s2 => ?_⟩
  have vn : v ≠ .non := by cases T <;> (intro z; cases z)
  refine ⟨_, rfl, rfl, false, congrArg V.bl (decide_eq_false vn), iteF ?_⟩
  refine ⟨_, rfl, v, t, rfl, T, sm, by omega, fun H3 s3 => ⟨_, rfl, rfl, false, congrArg (fun z => V.bl (!z)) (decide_eq_true rfl), iteF ?_⟩⟩
  exact ⟨_, rfl, q v H3 (T.same s3) (s1.trans (s2.trans s3))⟩
theorem scTermIn : FnScope ["text", "term"] ["text"] (defScope sTermIn) := ⟨rfl, rfl, rfl, by decide +kernel, rfl, by decide +kernel, by decide +kernel⟩
theorem ok_termin {f fO : Addr} {fd dO : FuncData} (F : Fun K "term_in" "term_in" sTermIn f fd)
    (GO : FnOk P w K mg base CX0 5 fO dO ["text"] spTermOr) (kO : PySem.W.keepIn K (.ref fO) = true) (bO : Binds K dO ["text"] []) (mO : mg "term_or_none" = some (.ref fO)) : FnOk P w K mg base CX0 6 f fd ["text"] spTermOr := by
  refine F.ok scTermIn (fun vs H Q E h => ?_) (fun cdv A outer s H vs Q E hr h => ?_)
  · obtain ⟨t, rfl, _⟩ := h
    rfl
  obtain ⟨t, rfl, sm, sz, q⟩ := h
  refine ⟨_, pss_cons (ps_set (i := 1) scTermIn.nd rfl (Or.inl rfl) (pe_call GO hr rfl mO kO bO .nil pass0 (pa_cons (pv 0) pa_nil)))
    (pss_cons (ps_if (pt_cmpR op_isN (pv 1) pe_non (nomark _)) pss_never pss_nil) (pss_one (ps_ret (pv 1)))), ?_⟩
  refine ⟨_, rfl, t, rfl, sm, sz, fun v H1 T s1 => ?_⟩
  have vn : v ≠ .non := by cases T <;> (intro z; cases z)
  exact ⟨_, rfl, rfl, false, congrArg V.bl (decide_eq_false vn), iteF ⟨_, rfl, q v H1 T s1⟩⟩
end
end Rp

/-! BINDINGs. -/
namespace Rp
open PySem PySem.Spec PyProof.Rows L2 TL
abbrev Prs := List (Int × Tm)
/-- pairs stand as the values xs -/
def PrsAt (H : Hp) : List V → Prs → Prop
  | [], [] => True
  | x :: xs, (n, t) :: ps => (∃ (b : Addr) (y : V), x = .ref b ∧ H b = some (.tup [.int n, y]) ∧ TmAt H y t) ∧ PrsAt H xs ps
  | _, _ => False
theorem PrsAt.len {H : Hp} : ∀ {xs : List V} {ps : Prs}, PrsAt H xs ps → xs.length = ps.length
  | [], [], _ => rfl
  | _ :: _, _ :: _, h => congrArg (· + 1) (PrsAt.len h.2)
theorem PrsAt.mono {H H' : Hp} (e : ∀ a xs, H a = some (.tup xs) → H' a = some (.tup xs)) : ∀ {xs : List V} {ps : Prs}, PrsAt H xs ps → PrsAt H' xs ps
  | [], [], _ => trivial
  | _ :: _, _ :: _, h => ⟨let ⟨b, y, e1, e2, e3⟩ := h.1; ⟨b, y, e1, e _ _ e2, e3.mono e⟩, PrsAt.mono e h.2⟩
theorem PrsAt.append {H : Hp} : ∀ {xs ys : List V} {ps qs : Prs}, PrsAt H xs ps → PrsAt H ys qs → PrsAt H (xs ++ ys) (ps ++ qs)
  | [], _, [], _, _, h => h
  | _ :: _, _, _ :: _, _, h, h' => ⟨h.1, PrsAt.append h.2 h'⟩
theorem PrsAt.get {H : Hp} : ∀ {xs : List V} {ps : Prs} {i : Nat} {x : V}, PrsAt H xs ps → xs[i]? = some x → ∃ p, ps[i]? = some p ∧ ∃ (b : Addr) (y : V), x = .ref b ∧ H b = some (.tup [.int p.1, y]) ∧ TmAt H y p.2
  | _ :: _, (n, t) :: _, 0, _, h, e => by simp at e; subst e; exact ⟨(n, t), rfl, h.1⟩
  | _ :: _, _ :: _, _ + 1, _, h, e => by simpa using PrsAt.get h.2 (by simpa using e)
/-- a BINDING stands as v -/
def BiAt (H : Hp) (v : V) (ps : Prs) : Prop := ∃ (a : Addr) (xs : List V), v = .ref a ∧ TupAt H a xs ∧ PrsAt H xs ps
structure PrOk (ps : Prs) : Prop where
  num : ∀ p ∈ ps, 0 ≤ p.1 ∧ p.1 ≤ 99
  sm : ∀ p ∈ ps, p.2.small
  sz : ∀ p ∈ ps, p.2.size ≤ 40
  up : (ps.map (·.1)).Pairwise (· < ·)
  few : ps.length ≤ 100
def row (p : Int × Tm) : Str := xn p.1 ++ "=" ++ p.2.txt
def btxt (ps : Prs) : Str := if ps = [] then "-" else Txt.join " " (ps.map row)
theorem t_eq : tl ("=" : Str) = [61] := by decide +kernel
theorem t_sp : tl (" " : Str) = [32] := by decide +kernel
theorem txt_signs : ∀ (t : Tm), t.small → ∀ d ∈ tl t.txt, 40 ≤ d ∧ d ≠ 61
  | .v n, h, d, hd => by
    have hd : d ∈ tl (("x" : Str) ++ Str.ofString (toString n)) := hd
    rw [tl_append, t_x, tl_int (h n (by simp [Tm.nums])).1] at hd
    rcases List.mem_append.mp hd with hd | hd
    · simp at hd; omega
    · have := numL_small _ d hd; omega
  | .z, h, d, hd => by
    have hd : d ∈ tl ("0" : Str) := hd
    rw [t_0] at hd; simp at hd; omega
  | .s t, h, d, hd => by
    have hd : d ∈ tl (("s" : Str) ++ "(" ++ Txt.join "," [t.txt] ++ ")") := hd
    rw [join1, tl_append, tl_append, tl_append, t_s, t_open, t_close] at hd
    simp only [List.mem_append, List.mem_singleton] at hd
    rcases hd with ((hd | hd) | hd) | hd
    · omega
    · omega
    · exact txt_signs t h d hd
    · omega
  | .f l r, h, d, hd => by
    have hd : d ∈ tl (("f" : Str) ++ "(" ++ Txt.join "," [l.txt, r.txt] ++ ")") := hd
    rw [join2, tl_append, tl_append, tl_append, tl_append, tl_append, t_f, t_open, t_close, t_comma] at hd
    simp only [List.mem_append, List.mem_singleton] at hd
    rcases hd with ((hd | hd) | (hd | hd) | hd) | hd
    · omega
    · omega
    · exact txt_signs l (fun n hn => h n (by simp [Tm.nums, hn])) d hd
    · omega
    · exact txt_signs r (fun n hn => h n (by simp [Tm.nums, hn])) d hd
    · omega
theorem xn_signs {n : Int} (h : 0 ≤ n) : tl (xn n) = 120 :: numL n.toNat := by
  unfold xn
  rw [tl_append, t_x, tl_int h]
  rfl
theorem xn_free {n : Int} (h : 0 ≤ n) : 61 ∉ tl (xn n) ∧ 32 ∉ tl (xn n) := by
  rw [xn_signs h]
  constructor
  · intro hd
    rcases List.mem_cons.mp hd with hd | hd
    · omega
    · have := numL_small _ _ hd; omega
  · intro hd
    rcases List.mem_cons.mp hd with hd | hd
    · omega
    · have := numL_small _ _ hd; omega
theorem row_free {p : Int × Tm} (h : 0 ≤ p.1) (h' : p.2.small) : 32 ∉ tl (row p) := by
  unfold row
  rw [tl_append, tl_append, t_eq]
  intro hd
  rcases List.mem_append.mp hd with hd | hd
  · rcases List.mem_append.mp hd with hd | hd
    · exact (xn_free h).2 hd
    · simp at hd
  · have := txt_signs _ h' _ hd; omega
theorem row_parts {p : Int × Tm} (h : 0 ≤ p.1) : Txt.partition (row p) "=" = (xn p.1, ("=" : Str), p.2.txt) := partition_app t_eq (xn_free h).1
theorem rows_split {ps : Prs} (ok : PrOk ps) (ne : ps ≠ []) : Txt.split (Txt.join " " (ps.map row)) " " = ps.map row := by
  refine split_join t_sp (by decide +kernel) (by simpa using ne) fun p hp => ?_
  obtain ⟨q, hq, rfl⟩ := List.mem_map.mp hp
  exact row_free (ok.num q hq).1 (ok.sm q hq)
theorem rows_ne {ps : Prs} (ok : PrOk ps) (ne : ps ≠ []) : Txt.join " " (ps.map row) ≠ "-" := by
  intro e
  have e2 := rows_split ok ne
  rw [e] at e2
  have e3 : Txt.split "-" " " = [("-" : Str)] := by decide +kernel
  rw [e3] at e2
  match ps, ne with
  | [p], _ =>
    simp at e2
    have e4 := congrArg tl e2
    unfold row at e4
    rw [tl_append, tl_append, xn_signs (ok.num p (by simp)).1] at e4
    have e5 : tl ("-" : Str) = [45] := by decide +kernel
    rw [e5] at e4
    simp at e4
  | p :: q :: r, _ => simp at e2
theorem row_len {p : Int × Tm} (h : 0 ≤ p.1 ∧ p.1 ≤ 99) (h' : p.2.small) (hz : p.2.size ≤ 100) : (row p).length ≤ 410 := by
  have a := (xn_facts h).2.1
  have b := txt_len _ h'
  have c : ("=" : Str).length = 1 := by decide +kernel
  unfold row
  rw [slen, slen]
  omega
theorem rows_len : ∀ {ps : Prs}, (∀ p ∈ ps, (row p).length ≤ 410) → ((ps.map row).map (·.length)).sum ≤ 410 * ps.length
  | [], _ => by simp
  | p :: ps, h => by
    have := rows_len (ps := ps) fun q hq => h q (by simp [hq])
    have := h p (by simp)
    simp only [List.map_cons, List.sum_cons, List.length_cons]
    omega
end Rp

set_option maxHeartbeats 8000000
namespace Rp
open PySem PySem.Spec PyProof.Rows L2 TL RZ
/-- [.. for a, b in zip(xs, ys)], n turns -/
theorem lc_pairsN {J : It} {n : Nat} {xs ys : List V} {g : TG} {tt : TT} {te : TE} {vs : List Nat} {σ : L2.St} {H1 : Hp} {D : Addr} {Qd : Hp → Prop} (Pv : Nat → Hp → Prop)
    (stops : ∀ H, Pv n H → J.stop n H) (goes : ∀ i H, i < n → Pv i H → J.go i H)
    (gives : ∀ i H v H', i < n → Pv i H → J.yld i H v H' → ∃ T x y, v = .ref T ∧ xs[i]? = some x ∧ ys[i]? = some y ∧ H T = none ∧ H' = upd H T (.tup [x, y]))
    (h0 : Pv 0 (upd H1 D (.lst [])))
    (hs : ∀ (i : Nat) (x y : V) (T : Addr) (H : Hp), i < n → xs[i]? = some x → ys[i]? = some y → Pv i H → H T = none → g (.ref T) (wipe σ vs) (upd H T (.tup [x, y])) fun σ2 H2 => wipe σ2 vs = wipe σ vs ∧
      tt σ2 H2 fun b H3 => if b = true then te σ2 H3 fun y H4 => ∃ acc, H4 D = some (.lst acc) ∧ acc.length < sizeLine ∧ Pv (i + 1) (upd H4 D (.lst (acc ++ [y]))) else Pv (i + 1) H3)
    (hd : ∀ H, Pv n H → Qd H) :
    ∃ W : Nat → Nat → Hp → Prop, (∃ m, W 0 m (upd H1 D (.lst []))) ∧ ∀ i m H, W i m H → (J.stop i H ∧ Qd H) ∨
      (J.go i H ∧ ∃ Nx : Hp → Prop, (∀ H', Nx H' → ∃ m', m' < m ∧ W (i + 1) m' H') ∧ ∀ x H', J.yld i H x H' → g x (wipe σ vs) H' fun σ2 H2 => wipe σ2 vs = wipe σ vs ∧
        tt σ2 H2 fun b H3 => if b = true then te σ2 H3 fun y H4 => ∃ acc, H4 D = some (.lst acc) ∧ acc.length < sizeLine ∧ Nx (upd H4 D (.lst (acc ++ [y]))) else Nx H3) := by
  refine ⟨fun i m H => m + i = n ∧ Pv i H, ⟨n, by simp, h0⟩, ?_⟩
  rintro i m H ⟨em, p⟩
  rcases Nat.lt_or_ge i n with lt | ge
  · refine .inr ⟨goes i H lt p, Pv (i + 1), fun H' p' => ⟨m - 1, by omega, by omega, p'⟩, fun v H' y => ?_⟩
    obtain ⟨T, x, y', rfl, hx, hy, hT, rfl⟩ := gives i H v H' lt p y
    exact hs i x y' T H lt hx hy p hT
  · have e : i = n := by omega
    subst e
    exact .inl ⟨stops H p, hd H p⟩
theorem tm_ok : ∀ t : Tm, (tmD t).canLay0 = true ∧ (tmD t).depth ≤ t.deep + 1 ∧ nd (tmD t) ≤ 2 * t.size
  | .v n => ⟨rfl, by simp [tmD, PyData.depth], by simp [tmD, nd, Tm.size]⟩
  | .z => ⟨by decide +kernel, by simp [tmD, PyData.depth, PyData.depthAll], by simp [tmD, nd, ndAll, Tm.size]⟩
  | .s t => by
    have ih := tm_ok t
    have a : PyData.canLay0 (.str "s") = true := by decide +kernel
    refine ⟨?_, ?_, ?_⟩
    · simp only [tmD, PyData.canLay0, PyData.canLayAll0, Bool.and_true, Bool.and_eq_true]; exact ⟨by simpa [PyData.canLay0] using a, ih.1⟩
    · simp only [tmD, PyData.depth, PyData.depthAll, Tm.deep]; omega
    · simp only [tmD, nd, ndAll, Tm.size]; omega
  | .f l r => by
    have ih := tm_ok l
    have ih2 := tm_ok r
    have a : PyData.canLay0 (.str "f") = true := by decide +kernel
    refine ⟨?_, ?_, ?_⟩
    · simp only [tmD, PyData.canLay0, PyData.canLayAll0, Bool.and_true, Bool.and_eq_true]; exact ⟨by simpa [PyData.canLay0] using a, ih.1, ih2.1⟩
    · simp only [tmD, PyData.depth, PyData.depthAll, Tm.deep]; omega
    · simp only [tmD, nd, ndAll, Tm.size]; omega
theorem rows_pos {ps : Prs} (ok : PrOk ps) (ne : ps ≠ []) : (Txt.join " " (ps.map row)).length ≠ 0 := by
  intro h0
  have e2 := rows_split ok ne
  have e3 : Txt.join " " (ps.map row) = Str.empty := by
    have := (len0_tl _).mp h0
    exact ext_tl this
  rw [e3] at e2
  have e4 : Txt.split Str.empty " " = [Str.empty] := by decide +kernel
  rw [e4] at e2
  match ps, ne with
  | [p], _ =>
    simp at e2
    have e5 := congrArg tl e2
    unfold row at e5
    rw [tl_append, tl_append, xn_signs (ok.num p (by simp)).1] at e5
    have e6 : tl Str.empty = [] := rfl
    rw [e6] at e5
    simp at e5
  | p :: p' :: r, _ => simp at e2
def spBText : Sp := fun vs H Q _ => ∃ (v : V) (ps : Prs), vs = [v] ∧ BiAt H v ps ∧ PrOk ps ∧ ∀ H', Same H H' → Q (.str (btxt ps)) H'
def spPairIn : Sp := fun vs H Q _ => ∃ p : Int × Tm, vs = [.str (row p)] ∧ (0 ≤ p.1 ∧ p.1 ≤ 99) ∧ p.2.small ∧ p.2.size ≤ 40 ∧ ∀ (b : Addr) (y : V) (H' : Hp), H' b = some (.tup [.int p.1, y]) → TmAt H' y p.2 → Same H H' → Q (.ref b) H'
def spBOr : Sp := fun vs H Q _ => ∃ ps : Prs, vs = [.str (btxt ps)] ∧ PrOk ps ∧ ∀ (v : V) (H' : Hp), BiAt H' v ps → Same H H' → Q v H'
def spIsPair : Sp := fun vs H Q _ => ∃ (b : Addr) (y : V) (p : Int × Tm), vs = [.ref b] ∧ H b = some (.tup [.int p.1, y]) ∧ TmAt H y p.2 ∧ (0 ≤ p.1 ∧ p.1 ≤ 99) ∧ p.2.small ∧ p.2.size ≤ 40 ∧ ∀ H', Same H H' → Q (.bl true) H'
def spIsBi : Sp := fun vs H Q _ => ∃ (v : V) (ps : Prs), vs = [v] ∧ BiAt H v ps ∧ PrOk ps ∧ ∀ H', Same H H' → Q (.bl true) H'
section
variable {P : Program} {w : World} {K : PySem.W.Frag} {mg : Str → Option Value} {base : Heap}
def teRow : TE := fun σ H Q => tJs [tC (.str "x"), tFmt (tVar 1), tC (.str "="), tFmt (tCall spTermText [] E0 (tCons (tVar 2) tNil))] Str.empty σ H fun out H1 => Q (.str out) H1
theorem scBText : FnScope ["binding", "variable", "term"] ["binding"] (defScope sBindingText) := ⟨rfl, rfl, rfl, by decide +kernel, rfl, by decide +kernel, by decide +kernel⟩
theorem ok_btext {f fT : Addr} {fd dT : FuncData} (F : Fun K "binding_text" "binding_text" sBindingText f fd)
    (GT : FnOk P w K mg base CX0 4 fT dT ["term"] spTermText) (kT : PySem.W.keepIn K (.ref fT) = true) (bT : Binds K dT ["term"] []) (mT : mg "term_text" = some (.ref fT)) : FnOk P w K mg base CX0 5 f fd ["binding"] spBText := by
  refine F.ok scBText (fun vs H Q E h => ?_) (fun cdv A outer s H vs Q E hr h => ?_)
  · obtain ⟨v, ps, rfl, _⟩ := h
    rfl
  obtain ⟨v, ps, rfl, ⟨a, xs, rfl, ha, Pa⟩, ok, q⟩ := h
  refine ⟨_, pss_one (ps_ret (pe_orT (pe_bm PySem.F.plainAttrs_str PySem.F.slot_str_join PySem.F.type_str_join mt_join pe_str (pa_cons
      (pe_lc (own := [("variable", 1), ("term", 2)]) (g := gTup K 2 (gCons (gName 1) (gCons (gName 2) gNil))) (tt := tYes) (te := teRow) rfl scBText.nd
        (pi_tup (pv 0)) (blkOk_by (N := ["binding", "variable", "term"]) (sc := defScope sBindingText) (by decide +kernel))
        (fun _ _ _ _ _ => pg_tup (by rfl) (pgs_cons (pg_name (i := 1) scBText.nd rfl (Or.inl rfl)) (pgs_cons (pg_name (i := 2) scBText.nd rfl (Or.inl rfl)) pgs_nil)))
        (fun _ _ _ _ _ => pts_nil) (fun _ _ _ _ _ => pe_joined (.cons pe_str (.cons (pe_fmt (pv 1)) (.cons pe_str (.cons (pe_fmt (pe_call GT hr (by rfl) mT kT bT .nil pass0 (pa_cons (pv 2) pa_nil))) .nil)))))) pa_nil)) (pe_one pe_str))), ?_⟩
  have big : (1000000 : Nat) ≤ sizeLine := by decide
  have len := Pa.len
  refine ⟨rfl, _, rfl, a, rfl, ⟨_, .inl ha⟩, fun D hD => lc_tup (K := K) (a := a) (xs := xs) (fun i H2 => H2 D = some (.lst (((ps.take i).map row).map V.str)) ∧ Same H H2) ⟨upd_same, same_new hD _⟩ (fun i H2 _ h => .inl (ha.same h.2)) ?_ ?_⟩
  · rintro i x H2 hi ⟨h2, s2⟩
    obtain ⟨p, hp, b, y, rfl, hb, T⟩ := Pa.get hi
    have pm : p ∈ ps := List.mem_of_getElem? hp
    have np := ok.num p pm
    have sp_ := ok.sm p pm
    have zp := ok.sz p pm
    have nl := num_len np
    have tl1 := txt_len _ sp_
    have lx : ("x" : Str).length = 1 := by decide +kernel
    have le : ("=" : Str).length = 1 := by decide +kernel
    have li : i < ps.length := (List.getElem?_eq_some_iff.mp hp).1
    have few := ok.few
    refine ⟨b, _, rfl, .inl (.inl (s2 _ _ hb)), rfl, _, _, rfl, _, _, rfl, rfl, rfl, ?_⟩
    unfold teRow
    refine ⟨_, rfl, ?_, _, rfl, .inr ⟨p.1, rfl, ?_, _, rfl, ?_, _, rfl, ?_, _, rfl, y, p.2, rfl, T.same s2, sp_, by omega, fun H3 s3 => .inl ⟨_, rfl, by omega, _, rfl, ?_, _, s3 _ _ h2, ?_, ?_, ?_⟩⟩⟩
    · rw [Str.empty_append]; omega
    · have := Nat.log2_le_self p.1.natAbs; omega
    · rw [Str.empty_append, slen]; show _ + (Str.ofString (toString p.1)).length ≤ _; omega
    · rw [Str.empty_append, slen, slen]; show _ + (Str.ofString (toString p.1)).length + _ ≤ _; omega
    · rw [Str.empty_append, slen, slen, slen]; show _ + (Str.ofString (toString p.1)).length + _ + _ ≤ _; omega
    · rw [List.length_map, List.length_map, List.length_take]; omega
    · have tk : ps.take (i + 1) = ps.take i ++ [p] := by rw [List.take_add_one, hp]; rfl
      rw [upd_same, tk, List.map_append, List.map_append, Str.empty_append]
      rfl
    · intro c o z
      have nD : c ≠ D := ne_of_none z hD
      rw [upd_ne nD]
      exact s3 _ _ (s2 _ _ z)
  · rintro H2 ⟨h2, s2⟩
    rw [len, List.take_of_length_le (Nat.le_refl _)] at h2
    have few := ok.few
    have rl := rows_len (ps := ps) fun p hp => row_len (ok.num p hp) (ok.sm p hp) (by have := ok.sz p hp; omega)
    have l1 : (" " : Str).length = 1 := by decide +kernel
    have tot : ((ps.map row).map (·.length)).sum + (ps.map row).length * (" " : Str).length ≤ 100000 := by rw [l1, List.length_map]; omega
    refine ⟨_, D, ps.map row, rfl, rfl, .inl (.inl (.inl h2)), by omega, ?_⟩
    have jl := StrLaws.join_length_le " " (ps.map row)
    rw [← join_eq] at jl
    refine ⟨_, ⟨by omega, rfl⟩, ?_⟩
    have qq := q H2 s2
    unfold btxt at qq
    by_cases e : ps = []
    · subst e
      rw [if_pos rfl] at qq
      exact iteF qq
    · rw [if_neg e] at qq
      have nz : (((Txt.join " " (ps.map row)).length : Int) != 0) = true := by
        have := rows_pos ok e
        simp
        omega
      rw [nz]
      exact iteT qq
end
end Rp

set_option maxHeartbeats 8000000
namespace Rp
open PySem PySem.Spec PyProof.Rows L2 TL RZ
theorem tupAt_ty {K : PySem.W.Frag} {H : Hp} {a : Addr} {xs : List V} (h : TupAt H a xs) : TyX K H (.ref a) (.type "tuple") := by
  have D : DAt H 0 (.ref a) (.tuple []) ∨ True := .inr trivial
  rcases h with h | ⟨o, h⟩
  · exact .base (.tup h)
  · exact .fTuple h
section
variable {P : Program} {w : World} {K : PySem.W.Frag} {mg : Str → Option Value} {base : Heap}
theorem scPairIn : FnScope ["text", "variable", "_", "term"] ["text"] (defScope sPairIn) := ⟨rfl, rfl, rfl, by decide +kernel, rfl, by decide +kernel, by decide +kernel⟩
theorem ok_pairin {f fO : Addr} {fd dO : FuncData} (F : Fun K "_pair_in" "_pair_in" sPairIn f fd)
    (GO : FnOk P w K mg base CX0 5 fO dO ["text"] spTermOr) (kO : PySem.W.keepIn K (.ref fO) = true) (bO : Binds K dO ["text"] []) (mO : mg "term_or_none" = some (.ref fO)) : FnOk P w K mg base CX0 6 f fd ["text"] spPairIn := by
  refine F.ok scPairIn (fun vs H Q E h => ?_) (fun cdv A outer s H vs Q E hr h => ?_)
  · obtain ⟨p, rfl, _⟩ := h
    rfl
  obtain ⟨p, rfl, np, sp_, zp, q⟩ := h
  refine ⟨_, pss_cons (ps_asg (pe_partition (pv 0) pe_str) (pg_tup (by rfl) (pgs_cons (pg_name (i := 1) scPairIn.nd rfl (Or.inl rfl)) (pgs_cons (pg_name (i := 2) scPairIn.nd rfl (Or.inl rfl)) (pgs_cons (pg_name (i := 3) scPairIn.nd rfl (Or.inl rfl)) pgs_nil)))))
    (pss_one (ps_ret (pe_tup (pa_cons (pe_call GO hr rfl mO kO bO .nil pass0 (pa_cons (pv 1) pa_nil)) (pa_cons (pe_call GO hr rfl mO kO bO .nil pass0 (pa_cons (pv 3) pa_nil)) pa_nil))))), ?_⟩
  have big : (1000000 : Nat) ≤ sizeLine := by decide
  have rl := row_len np sp_ (by omega)
  refine ⟨_, rfl, ⟨_, rfl⟩, row p, "=", rfl, rfl, by decide +kernel, by omega, fun g hg => ?_⟩
  rw [row_parts np.1]
  have s1 := same_new hg (.tup [V.str (xn p.1), .str "=", .str p.2.txt])
  refine ⟨g, _, rfl, .inl (.inl upd_same), rfl, _, _, rfl, _, _, rfl, _, _, rfl, rfl, ?_⟩
  refine ⟨_, rfl, .v p.1, rfl, fun n hn => by simp [Tm.nums] at hn; subst hn; exact np, by show 1 ≤ 200; decide, fun v H2 T2 s2 => ?_⟩
  cases T2
  refine ⟨_, rfl, p.2, rfl, sp_, by omega, fun y H3 T3 s3 => ?_⟩
  refine ⟨(by show 2 ≤ sizeLine; decide), fun b hb => ?_⟩
  have s4 := same_new hb (.tup [V.int p.1, y])
  exact q b y _ upd_same (T3.same s4) (s1.trans (s2.trans (s3.trans s4)))
theorem scIsPair : FnScope ["thing"] ["thing"] (defScope sIsPair) := ⟨rfl, rfl, rfl, by decide +kernel, rfl, by decide +kernel, by decide +kernel⟩
theorem ok_ispair {f fV fT : Addr} {fd dV dT : FuncData} (F : Fun K "_is_pair" "_is_pair" sIsPair f fd)
    (GV : FnOk P w K mg base CX0 2 fV dV ["thing"] spVariable) (kV : PySem.W.keepIn K (.ref fV) = true) (bV : Binds K dV ["thing"] []) (mV : mg "is_variable" = some (.ref fV))
    (GT : FnOk P w K mg base CX0 3 fT dT ["thing"] spTerm) (kT : PySem.W.keepIn K (.ref fT) = true) (bT : Binds K dT ["thing"] []) (mT : mg "is_term" = some (.ref fT)) (M : SameG mg) : FnOk P w K mg base CX0 4 f fd ["thing"] spIsPair := by
  refine F.ok scIsPair (fun vs H Q E h => ?_) (fun cdv A outer s H vs Q E hr h => ?_)
  · obtain ⟨b, y, p, rfl, _⟩ := h
    rfl
  obtain ⟨b, y, p, rfl, hb, T, np, sp_, zp, q⟩ := h
  have r2 : Room 2 _ := hr.mono (by decide)
  refine ⟨_, pss_one (ps_ret (pe_and (pe_callB (id := "isinstance") call_isi (by rfl) M.isi (by decide +kernel) (pa_cons (pv 0) (pa_cons (pe_bltn (v := .ty "tuple") (by rfl) M.tuple (by decide +kernel) rfl) pa_nil)))
    (pe_and (pe_cmpR op_eq (pe_callB call_len_seq (by rfl) M.len PySem.boot_len (pa_cons (pv 0) pa_nil)) pe_int (nomark _))
    (pe_and (pe_call GV r2 rfl mV kV bV .nil pass0 (pa_cons (pe_ix ix_tup (pv 0) pe_int (fun _ _ => rfl)) pa_nil))
    (pe_one (pe_call GT hr rfl mT kT bT .nil pass0 (pa_cons (pe_ix ix_tup (pv 0) pe_int (fun _ _ => rfl)) pa_nil))))))), ?_⟩
  have okk := tm_ok p.2
  have dl := Tm.deep_lt p.2
  refine ⟨_, rfl, _, _, _, _, true, rfl, .ty "tuple", .base (.tup hb), kit_ty (by decide +kernel), true, rfl, iteT ?_⟩
  refine ⟨_, rfl, b, _, rfl, .inr (.inl (.inl hb)), rfl, true, congrArg V.bl (decide_eq_true rfl), iteT ?_⟩
  have iv : isVar (.int p.1) = true := by simp [isVar]; exact np
  refine ⟨_, rfl, b, _, _, _, rfl, rfl, .inl (.inl hb), at_of (j := 0) rfl rfl, b, _, .int p.1, rfl, (by unfold DAt; rfl), true, congrArg V.bl iv, iteT ?_⟩
  refine ⟨_, rfl, b, _, _, _, rfl, rfl, .inl (.inl hb), at_of (j := 1) rfl rfl, b, y, tmD p.2, rfl, T.dat, ⟨okk.1, by omega⟩, by omega, fun r H1 hr1 s1 => ?_⟩
  obtain rfl : r = true := hr1.mpr ⟨p.2, rfl, sp_⟩
  exact q H1 s1
theorem scIsBi : FnScope ["thing", "pair", "left", "right"] ["thing"] (defScope sIsBinding) := ⟨rfl, rfl, rfl, by decide +kernel, rfl, by decide +kernel, by decide +kernel⟩
theorem ok_isbi {f fP : Addr} {fd dP : FuncData} (F : Fun K "is_binding" "is_binding" sIsBinding f fd)
    (GP : FnOk P w K mg base CX0 4 fP dP ["thing"] spIsPair) (kP : PySem.W.keepIn K (.ref fP) = true) (bP : Binds K dP ["thing"] []) (mP : mg "_is_pair" = some (.ref fP)) (M : SameG mg) : FnOk P w K mg base CX0 5 f fd ["thing"] spIsBi := by
  refine F.ok scIsBi (fun vs H Q E h => ?_) (fun cdv A outer s H vs Q E hr h => ?_)
  · obtain ⟨v, ps, rfl, _⟩ := h
    rfl
  obtain ⟨v, ps, rfl, ⟨a, xs, rfl, ha, Pa⟩, ok, q⟩ := h
  refine ⟨_, pss_cons (ps_if (PW.pt (pw_or (pt_not (pt_val (pe_callB (id := "isinstance") call_isi (by rfl) M.isi (by decide +kernel) (pa_cons (pv 0) (pa_cons (pe_bltn (v := .ty "tuple") (by rfl) M.tuple (by decide +kernel) rfl) pa_nil)))))
      (pw_or1 (pt_not (pt_val (pe_callB (cr_all rfl) (by rfl) M.all (by decide +kernel) (pa_cons (pe_lc (own := [("pair", 1)]) (g := gName 1) (tt := tYes) (te := tCall spIsPair [] E0 (tCons (tVar 1) tNil)) rfl scIsBi.nd
        (pi_tup (pv 0)) (blkOk_by (N := ["thing", "pair", "left", "right"]) (sc := defScope sIsBinding) (by decide +kernel)) (fun _ _ _ _ _ => pg_name (i := 1) scIsBi.nd rfl (Or.inl rfl))
        (fun _ _ _ _ _ => pts_nil) (fun _ _ _ _ _ => pe_call GP hr (by rfl) mP kP bP .nil pass0 (pa_cons (pv 1) pa_nil))) pa_nil))))))) (pss_one (ps_ret pe_bl)) pss_nil)
    (pss_one (ps_ret (pe_callB (cr_all rfl) (by rfl) M.all (by decide +kernel) (pa_cons (pe_lc (own := [("left", 2), ("right", 3)]) (g := gTup K 2 (gCons (gName 2) (gCons (gName 3) gNil))) (tt := tYes)
        (te := tOp (rI0 fun i j => .bl (decide (i < j))) (tOp (rIxT K) (tVar 2) (tC (.int 0))) (tOp (rIxT K) (tVar 3) (tC (.int 0)))) rfl scIsBi.nd
        (pi_zipA (by rfl) M.zip (pa_cons (pv 0) (pa_cons (pe_slice sl_tupA (pv 0) (po_some pe_int) po_none) pa_nil))) (blkOk_by (N := ["thing", "pair", "left", "right"]) (sc := defScope sIsBinding) (by decide +kernel))
        (fun _ _ _ _ _ => pg_tup (by rfl) (pgs_cons (pg_name (i := 2) scIsBi.nd rfl (Or.inl rfl)) (pgs_cons (pg_name (i := 3) scIsBi.nd rfl (Or.inl rfl)) pgs_nil)))
        (fun _ _ _ _ _ => pts_nil) (fun _ _ _ _ _ => pe_cmpR op_lt (pe_ix ix_tup (pv 2) pe_int (fun _ _ => rfl)) (pe_ix ix_tup (pv 3) pe_int (fun _ _ => rfl)) (nomark _))) pa_nil)))), ?_⟩
  have len := Pa.len
  have few := ok.few
  have big : (1000000 : Nat) ≤ sizeLine := by decide
  refine ⟨_, rfl, _, _, _, _, true, rfl, .ty "tuple", tupAt_ty ha, kit_ty (by decide +kernel), true, rfl, iteF ?_⟩
  refine ⟨_, rfl, a, rfl, ⟨_, .inl ha⟩, fun D hD => lc_tup (K := K) (a := a) (xs := xs) (fun i H2 => H2 D = some (.lst (List.replicate i (V.bl true))) ∧ Same H H2) ⟨upd_same, same_new hD _⟩ (fun i H2 _ h => .inl (ha.same h.2)) ?_ ?_⟩
  · rintro i x H2 hi ⟨h2, s2⟩
    obtain ⟨p, hp, b, y, rfl, hb, T⟩ := Pa.get hi
    have pm : p ∈ ps := List.mem_of_getElem? hp
    have li : i < xs.length := (List.getElem?_eq_some_iff.mp hi).1
    refine ⟨rfl, ?_⟩
    refine ⟨_, rfl, b, y, p, rfl, s2 _ _ hb, T.same s2, ok.num p pm, ok.sm p pm, ok.sz p pm, fun H' s' => ⟨_, s' _ _ h2, ?_, ?_, ?_⟩⟩
    · rw [List.length_replicate]; omega
    · rw [upd_same, List.replicate_succ']
    · intro c o z
      rw [upd_ne (ne_of_none z hD)]
      exact s' _ _ (s2 _ _ z)
  · rintro H2 ⟨h2, s2⟩
    have e : (List.replicate xs.length true).all id = true := by rw [List.all_eq_true]; intro x hx; rw [List.eq_of_mem_replicate hx]; rfl
    refine ⟨D, List.replicate xs.length true, rfl, .inl (.inl (by rw [List.map_replicate]; exact h2)), true, congrArg V.bl e, iteF ?_⟩
    have ha2 := ha.same s2
    refine ⟨_, rfl, _, rfl, 1, rfl, a, xs, rfl, .inl ha2, fun hw => ?_, fun hw g hg => ?_⟩
    · have e0 : xs = [] := by
        have := hw.1
        rw [show (some 1 : Option Int) = some ((1 : Nat) : Int) from rfl, HT.sIx_nat] at this
        rcases xs with _ | ⟨x, r⟩
        · rfl
        · simp at this
      subst e0
      refine ⟨a, a, [], [], rfl, .inr ⟨.inl ha2, .inl ha2, fun D2 hD2 => ?_⟩⟩
      refine lc_pairsN (J := ItzT K a a) (n := 0) (xs := []) (ys := []) (fun i H4 => i = 0 ∧ H4 D2 = some (.lst []) ∧ Same H2 H4)
        (fun H4 h => ⟨[], [], .inl (ha2.same h.2.2), .inl (ha2.same h.2.2), .inl (Nat.le_refl _)⟩) (fun i H4 lt => absurd lt (by omega)) (fun i H4 v H5 lt => absurd lt (by omega))
        ⟨rfl, upd_same, same_new hD2 _⟩ (fun i _ _ _ _ lt => absurd lt (by omega)) (fun H4 h => ⟨D2, [], rfl, .inl (.inl h.2.1), q _ (s2.trans h.2.2)⟩)
    · have ec : cutV xs (some 1) none = xs.drop 1 := cut_from (i := 1) rfl
      rw [ec]
      have s3 := same_new hg (.tup (xs.drop 1))
      have ha3 := ha2.same s3
      refine ⟨a, g, xs, xs.drop 1, rfl, .inr ⟨.inl ha3, .inl (.inl upd_same), fun D2 hD2 => ?_⟩⟩
      have hg3 : (upd H2 g (.tup (xs.drop 1))) g = some (.tup (xs.drop 1)) := upd_same
      refine lc_pairsN (J := ItzT K a g) (n := xs.length - 1) (xs := xs) (ys := xs.drop 1) (fun i H4 => H4 D2 = some (.lst (List.replicate i (V.bl true))) ∧ Same (upd H2 g (.tup (xs.drop 1))) H4)
        (fun H4 h => ⟨xs, xs.drop 1, .inl (ha3.same h.2), .inl (.inl (h.2 _ _ hg3)), .inr (by rw [List.length_drop]; exact Nat.le_refl _)⟩)
        (fun i H4 lt h => ⟨xs, xs.drop 1, xs[i]'(by omega), (xs.drop 1)[i]'(by rw [List.length_drop]; exact lt), .inl (ha3.same h.2), .inl (.inl (h.2 _ _ hg3)), List.getElem?_eq_getElem _, List.getElem?_eq_getElem _⟩)
        (fun i H4 v H5 lt h ⟨T, u, v', e1, hT, e2, f1, f2⟩ => ⟨T, u, v', e1, f1 xs (.inl (ha3.same h.2)), f2 (xs.drop 1) (.inl (.inl (h.2 _ _ hg3))), hT, e2⟩)
        ⟨upd_same, same_new hD2 _⟩ (fun i u v T H4 lt hu hv h hT => ?_) (fun H4 h => ⟨D2, List.replicate (xs.length - 1) true, rfl, .inl (.inl (by rw [List.map_replicate]; exact h.1)), ?_⟩)
      · have sT := same_new hT (.tup [u, v])
        rw [List.getElem?_drop] at hv
        obtain ⟨p, hp, b, y, rfl, hb, _⟩ := Pa.get hu
        obtain ⟨p', hp', b', y', rfl, hb', _⟩ := Pa.get hv
        have sAll : Same H (upd H4 T (.tup [V.ref b, .ref b'])) := s2.trans (s3.trans (h.2.trans sT))
        have lt' : p.1 < p'.1 := by
          have up := List.pairwise_iff_getElem.mp ok.up i (1 + i) (by rw [List.length_map]; have := (List.getElem?_eq_some_iff.mp hp).1; omega) (by rw [List.length_map]; exact (List.getElem?_eq_some_iff.mp hp').1) (by omega)
          rw [List.getElem_map, List.getElem_map, (List.getElem?_eq_some_iff.mp hp).2, (List.getElem?_eq_some_iff.mp hp').2] at up
          exact up
        refine ⟨T, _, rfl, .inl (.inl upd_same), rfl, _, _, rfl, _, _, rfl, rfl, rfl, ?_⟩
        refine ⟨_, rfl, b, _, _, _, rfl, rfl, .inl (.inl (sAll _ _ hb)), at_of (j := 0) rfl rfl, _, rfl, b', _, _, _, rfl, rfl, .inl (.inl (sAll _ _ hb')), at_of (j := 0) rfl rfl, _, _, rfl, rfl, _, sT _ _ h.1, ?_, ?_, ?_⟩
        · rw [List.length_replicate]; omega
        · dsimp only
          rw [decide_eq_true lt', upd_same, List.replicate_succ']
        · intro c o z
          rw [upd_ne (ne_of_none z hD2)]
          exact sT _ _ (h.2 _ _ z)
      · have e : (List.replicate (xs.length - 1) true).all id = true := by rw [List.all_eq_true]; intro x hx; rw [List.eq_of_mem_replicate hx]; rfl
        rw [e]
        exact q _ (s2.trans (s3.trans h.2))
theorem scBOr : FnScope ["text", "binding", "row"] ["text"] (defScope sBindingOrNone) := ⟨rfl, rfl, rfl, by decide +kernel, rfl, by decide +kernel, by decide +kernel⟩
theorem ok_bor {f fP fI : Addr} {fd dP dI : FuncData} (F : Fun K "binding_or_none" "binding_or_none" sBindingOrNone f fd)
    (GP : FnOk P w K mg base CX0 6 fP dP ["text"] spPairIn) (kP : PySem.W.keepIn K (.ref fP) = true) (bP : Binds K dP ["text"] []) (mP : mg "_pair_in" = some (.ref fP))
    (GI : FnOk P w K mg base CX0 5 fI dI ["thing"] spIsBi) (kI : PySem.W.keepIn K (.ref fI) = true) (bI : Binds K dI ["thing"] []) (mI : mg "is_binding" = some (.ref fI)) (mTuple : mg "tuple" = none) : FnOk P w K mg base CX0 7 f fd ["text"] spBOr := by
  refine F.ok scBOr (fun vs H Q E h => ?_) (fun cdv A outer s H vs Q E hr h => ?_)
  · obtain ⟨ps, rfl, _⟩ := h
    rfl
  obtain ⟨ps, rfl, ok, q⟩ := h
  have r5 : Room 5 _ := hr.mono (by decide)
  refine ⟨_, pss_cons (ps_if (pt_cmpR op_eq (pv 0) pe_str (nomark _)) (pss_one (ps_ret (pe_tup pa_nil))) pss_nil)
    (pss_cons (ps_set (i := 1) scBOr.nd rfl (Or.inl rfl) (pe_callTy call_tuple_of (by rfl) mTuple (by decide +kernel) (pa_cons (pe_lc (own := [("row", 2)]) (g := gName 2) (tt := tYes) (te := tCall spPairIn [] E0 (tCons (tVar 2) tNil)) rfl scBOr.nd
        (pi_list (pe_split (pv 0) pe_str)) (blkOk_by (N := ["text", "binding", "row"]) (sc := defScope sBindingOrNone) (by decide +kernel)) (fun _ _ _ _ _ => pg_name (i := 2) scBOr.nd rfl (Or.inl rfl))
        (fun _ _ _ _ _ => pts_nil) (fun _ _ _ _ _ => pe_call GP hr (by rfl) mP kP bP .nil pass0 (pa_cons (pv 2) pa_nil))) pa_nil)))
    (pss_one (ps_ret (pe_ifExp (pt_val (pe_call GI r5 rfl mI kI bI .nil pass0 (pa_cons (pv 1) pa_nil))) (pv 1) pe_non)))), ?_⟩
  have few := ok.few
  have big : (1000000 : Nat) ≤ sizeLine := by decide
  by_cases e : ps = []
  · subst e
    refine ⟨_, rfl, rfl, true, congrArg V.bl (decide_eq_true rfl), iteT ⟨(by show 0 ≤ sizeLine; decide), fun p hp => ?_⟩⟩
    exact q _ _ ⟨p, [], rfl, .inl upd_same, trivial⟩ (same_new hp _)
  · have bt : btxt ps = Txt.join " " (ps.map row) := if_neg e
    rw [bt]
    have rl := rows_len (ps := ps) fun p hp => row_len (ok.num p hp) (ok.sm p hp) (by have := ok.sz p hp; omega)
    have l1 : (" " : Str).length = 1 := by decide +kernel
    have jl := StrLaws.join_length_le " " (ps.map row)
    rw [← join_eq, l1, List.length_map] at jl
    refine ⟨_, rfl, rfl, false, congrArg V.bl (str_ne (rows_ne ok e)), iteF ?_⟩
    refine ⟨_, rfl, ⟨_, rfl⟩, Txt.join " " (ps.map row), " ", rfl, rfl, by decide +kernel, by omega, fun l hl => ?_⟩
    rw [rows_split ok e]
    have s1 := same_new hl (.lst ((ps.map row).map V.str))
    refine ⟨l, rfl, ⟨_, .inl (.inl upd_same)⟩, fun D hD => lc_list (K := K) (a := l) (xs := (ps.map row).map V.str) (fun i H2 => ∃ xs : List V, H2 D = some (.lst xs) ∧ PrsAt H2 xs (ps.take i) ∧ Same (upd H l (.lst ((ps.map row).map V.str))) H2)
      ⟨[], upd_same, trivial, same_new hD _⟩ (fun i H2 _ ⟨_, _, _, h⟩ => .inl (.inl (h _ _ upd_same))) ?_ ?_⟩
    · rintro i x H2 hi ⟨xs, h2, A2, s2⟩
      rw [List.map_map, List.getElem?_map] at hi
      obtain ⟨p, hp, rfl⟩ : ∃ p, ps[i]? = some p ∧ x = .str (row p) := by
        cases hq : ps[i]? with
        | none => rw [hq] at hi; cases hi
        | some p => rw [hq] at hi; exact ⟨p, rfl, by simpa using hi.symm⟩
      have pm : p ∈ ps := List.mem_of_getElem? hp
      have li : i < ps.length := (List.getElem?_eq_some_iff.mp hp).1
      have xl := A2.len
      rw [List.length_take] at xl
      refine ⟨rfl, ?_⟩
      refine ⟨_, rfl, p, rfl, ok.num p pm, ok.sm p pm, ok.sz p pm, fun b y H3 hb T s3 => ⟨xs, s3 _ _ h2, by omega, xs ++ [.ref b], upd_same, ?_, ?_⟩⟩
      · have h3 := s3 _ _ h2
        have keep : ∀ a zs, H3 a = some (.tup zs) → (upd H3 D (.lst (xs ++ [.ref b]))) a = some (.tup zs) := fun a zs z => by rw [upd_ne (ne_of z h3 (by intro z; cases z))]; exact z
        have tk : ps.take (i + 1) = ps.take i ++ [p] := by rw [List.take_add_one, hp]; rfl
        rw [tk]
        exact (A2.mono fun a zs z => keep a zs (s3 _ _ z)).append ⟨⟨b, y, rfl, keep _ _ hb, T.mono keep⟩, trivial⟩
      · intro c o z
        rw [upd_ne (ne_of_none z hD)]
        exact s3 _ _ (s2 _ _ z)
    · rintro H2 ⟨xs, h2, A2, s2⟩
      rw [List.length_map, List.length_map, List.take_of_length_le (Nat.le_refl _)] at A2
      refine ⟨D, xs, rfl, .inl ⟨.inl (.inl h2), fun a ha => ?_⟩⟩
      have s3 := same_new ha (.tup xs)
      have B : BiAt (upd H2 a (.tup xs)) (.ref a) ps := ⟨a, xs, rfl, .inl upd_same, A2.mono fun b zs z => s3 _ _ z⟩
      refine ⟨_, rfl, _, ps, rfl, B, ok, fun H4 s4 => ⟨true, rfl, iteT ⟨_, rfl, q _ H4 ?_ (s1.trans (s2.trans (s3.trans s4)))⟩⟩⟩
      obtain ⟨a', xs', e1, e2, e3⟩ := B
      exact ⟨a', xs', e1, e2.same s4, e3.mono fun b zs z => s4 _ _ z⟩
theorem scBIn : FnScope ["text", "binding"] ["text"] (defScope sBindingIn) := ⟨rfl, rfl, rfl, by decide +kernel, rfl, by decide +kernel, by decide +kernel⟩
theorem ok_bin {f fO : Addr} {fd dO : FuncData} (F : Fun K "binding_in" "binding_in" sBindingIn f fd)
    (GO : FnOk P w K mg base CX0 7 fO dO ["text"] spBOr) (kO : PySem.W.keepIn K (.ref fO) = true) (bO : Binds K dO ["text"] []) (mO : mg "binding_or_none" = some (.ref fO)) : FnOk P w K mg base CX0 8 f fd ["text"] spBOr := by
  refine F.ok scBIn (fun vs H Q E h => ?_) (fun cdv A outer s H vs Q E hr h => ?_)
  · obtain ⟨ps, rfl, _⟩ := h
    rfl
  obtain ⟨ps, rfl, ok, q⟩ := h
  refine ⟨_, pss_cons (ps_set (i := 1) scBIn.nd rfl (Or.inl rfl) (pe_call GO hr rfl mO kO bO .nil pass0 (pa_cons (pv 0) pa_nil)))
    (pss_cons (ps_if (pt_cmpR op_isN (pv 1) pe_non (nomark _)) pss_never pss_nil) (pss_one (ps_ret (pv 1)))), ?_⟩
  refine ⟨_, rfl, ps, rfl, ok, fun v H1 B s1 => ?_⟩
  have vn : v ≠ .non := by obtain ⟨a, xs, rfl, _⟩ := B; intro z; cases z
  exact ⟨_, rfl, rfl, false, congrArg V.bl (decide_eq_false vn), iteF ⟨_, rfl, q v H1 B s1⟩⟩
end
end Rp

/-! Tuples that are known to be plain (they bear no dict of their own), made by tuple(list) and by a display; dict(t) of such a tuple of pairs. -/
namespace Rp
open PySem PySem.Spec PyProof.Rows L2
/-- a plain tuple stands at a -/
def PlT (H : Hp) (a : Addr) (xs : List V) : Prop := ∃ o : Obj, o.dict = none ∧ H a = some (.frz o (.tup xs))
theorem PlT.sq {K : PySem.W.Frag} {H : Hp} {a : Addr} {xs : List V} (h : PlT H a xs) : SqT K H a xs := let ⟨o, _, e⟩ := h; .inl (.inr ⟨o, e⟩)
theorem PlT.same {H H' : Hp} {a : Addr} {xs : List V} (e : Same H H') (h : PlT H a xs) : PlT H' a xs := let ⟨o, d, q⟩ := h; ⟨o, d, e _ _ q⟩
theorem PlT.mono {H H' : Hp} {a : Addr} {xs : List V} (e : ∀ o, H a = some (.frz o (.tup xs)) → H' a = some (.frz o (.tup xs))) (h : PlT H a xs) : PlT H' a xs := let ⟨o, d, q⟩ := h; ⟨o, d, e _ q⟩
section
variable {X : Cx}
def rTupF (K : PySem.W.Frag) : List V → Hp → VK → Prop := fun vs H Q => ∃ (p : Addr) (ys : List V), vs = [.ref p] ∧ SqL K H p ys ∧ ∀ (l : Addr) (o : Obj), o.dict = none → H l = none → Q (.ref l) (upd H l (.frz o (.tup ys)))
theorem cr_tupF : CallR X (.type "tuple") (rTupF X.K) := by
  intro pins s σ H vs us Q I r h
  obtain ⟨p, ys, rfl, hq, q⟩ := h
  rw [Vals.ref1 r]
  obtain ⟨its, rv, pl, hz⟩ := I.list hq
  have few := rv.length
  refine call_tuple_list pl.isList (fun g old => ?_) (by simp only [List.size_toArray] <;> omega)
  have J : Inv X pins σ H { s with heap := g } := I.kept (t' := s.toks) old
  have there : (g.push { cls := .type "tuple", data := .seq its.toArray }).get? g.objs.size = some { cls := .type "tuple", data := .seq its.toArray } := Heap.get?_push_size _ rfl
  exact ⟨.ref g.objs.size, _, J.laid (t' := s.toks) (o := .frz { cls := .type "tuple", data := .seq its.toArray } (.tup ys)) (fun b o e => Heap.get?_push_of_some _ e) (Nat.le_refl _) ⟨there, hz, its, rv, IsTup.new _ _⟩, rfl,
    q _ _ rfl (J.hok.fresh (Nat.le_refl _))⟩
/-- (e, ..), told to be plain -/
def tTupF (t : TA) : TE := fun σ H Q => t σ H fun xs H1 => xs.length ≤ sizeLine ∧ ∀ (p : Addr) (o : Obj), o.dict = none → H1 p = none → Q (.ref p) (upd H1 p (.frz o (.tup xs)))
theorem pe_tupF {es : List Expr} {t : TA} {x1 : Nat} {pos : Pos} (h : PA X es t) : PE X (.Tuple es x1 pos) (tTupF t) := by
  refine ⟨fun pins s σ H Q I hq => wpAny_Tuple_spliced (thn (h.run pos pins s σ H _ I hq) fun us s1 ⟨xs, H1, I1, r, z, q⟩ => ⟨by rw [← r.length]; exact z, ?_⟩)⟩
  have at_ : (s1.heap.push { cls := .type "tuple", data := .seq us.toArray }).get? s1.heap.objs.size = some { cls := .type "tuple", data := .seq us.toArray } := Heap.get?_push_size _ rfl
  exact ⟨.ref s1.heap.objs.size, _, I1.laid (t' := s1.toks) (o := .frz { cls := .type "tuple", data := .seq us.toArray } (.tup xs)) (fun b u e => Heap.get?_push_of_some _ e) (Nat.le_refl _) ⟨at_, z, us, r, ⟨_, at_, rfl, _, rfl⟩⟩, rfl,
    q _ _ rfl (I1.hok.fresh (Nat.le_refl _))⟩
theorem raw_pairs {pins : List (Addr × Obj)} {σ : L2.St} {H : Hp} {s : Shared} (I : Inv X pins σ H s) : ∀ {ps : List Addr} {kvs : List (Key × V)}, Paired (fun p (kv : Key × V) => SqT X.K H p [kV kv.1, kv.2]) ps kvs →
    ∃ (prs : List (Key × Value)) (raw : List (Value × Value)), KV kvs prs ∧ raw.length = ps.length ∧ prs.length = ps.length ∧ ∀ j : Nat, j < ps.length → ∃ (b : Addr) (k : Key) (u x : Value), ps[j]? = some b ∧ prs[j]? = some (k, x) ∧ raw[j]? = some (u, x) ∧ IsTup s.heap b #[u, x] ∧ keyIs k u = true
  | _, _, .nil => ⟨[], [], .nil, rfl, rfl, fun j h => absurd h (Nat.not_lt_zero _)⟩
  | _, _, .cons (a := p) (b := kv) h t => by
    obtain ⟨prs, raw, r, l1, l2, each⟩ := raw_pairs I t
    obtain ⟨its, rv, ht, _⟩ := I.tuple h
    obtain ⟨u, y, rfl, ru, ry⟩ := vals2 rv
    refine ⟨(kv.1, y) :: prs, (u, y) :: raw, .cons ⟨rfl, ry⟩ r, congrArg (· + 1) l1, congrArg (· + 1) l2, fun j hj => ?_⟩
    cases j with
    | zero => exact ⟨p, kv.1, u, y, rfl, rfl, rfl, ht, kV_is (P := X.prog) (w := X.w) ru⟩
    | succ j => exact each j (Nat.lt_of_succ_lt_succ hj)
def rDictT (K : PySem.W.Frag) : List V → Hp → VK → Prop := fun vs H Q => ∃ (a : Addr) (ps : List Addr) (kvs : List (Key × V)), vs = [.ref a] ∧ PlT H a (ps.map V.ref) ∧ Paired (fun p (kv : Key × V) => SqT K H p [kV kv.1, kv.2]) ps kvs ∧
  ∀ p, H p = none → Q (.ref p) (upd H p (.dK (mergeK [] kvs)))
theorem cr_dictT (calm : X.calm = true) : CallR X (.type "dict") (rDictT X.K) := by
  intro pins s σ H vs us Q I r told
  obtain ⟨a, ps, kvs, rfl, ⟨o, od, ha⟩, pairs, go⟩ := told
  rw [Vals.ref1 r]
  obtain ⟨ho, hz, its, rv, oo, ho', hc, n, hd⟩ := (show ObjOk X.prog X.w H s.heap a (.frz o (.tup (ps.map V.ref))) from I.hok a _ ha)
  obtain rfl : o = oo := Option.some.inj (ho.symm.trans ho')
  have ei := refs_at rv
  subst ei
  obtain ⟨prs, raw, rel, l1, l2, each⟩ := raw_pairs I pairs
  rw [List.length_map] at hz
  have items : PairItems s.heap (ps.map Value.ref).toArray (fun j => ps.getD j 0) raw := by
    refine ⟨by simp [l1], fun j k v e => ?_⟩
    have lj : j < ps.length := by rw [← l1]; exact (List.getElem?_eq_some_iff.mp e).1
    obtain ⟨b, k', u, x, e1, e2, e3, e4, e5⟩ := each j lj
    obtain ⟨rfl, rfl⟩ : k = u ∧ v = x := by rw [e] at e3; cases e3; exact ⟨rfl, rfl⟩
    have gd : ps.getD j 0 = b := by rw [List.getD_eq_getElem?_getD, e1]; rfl
    refine ⟨by simp [e1, gd], .inl ?_⟩
    show s.heap.IsTuple (ps.getD j 0) #[k, v]
    rw [gd]
    exact e4
  refine PySem.call_dict_pairs (knd := mixKind X.prog X.w) (kvs := prs) (PairArg.tuple a _ _ raw) (I.ok.hd calm) ⟨⟨o, n, ho, hc, od, hd⟩, items⟩ ?_ (by omega) fun g tk now old => ?_
  · refine ⟨by omega, fun j k v e => ?_⟩
    have lj : j < ps.length := by rw [← l1]; exact (List.getElem?_eq_some_iff.mp (show raw[j]? = some (k, v) from e)).1
    obtain ⟨b, k', u, x, e1, e2, e3, e4, e5⟩ := each j lj
    obtain ⟨rfl, rfl⟩ : k = u ∧ v = x := by
      have e : raw[j]? = some (k, v) := e
      rw [e] at e3; cases e3; exact ⟨rfl, rfl⟩
    exact ⟨k', e2, e5⟩
  · have hm : (s.heap.objs.size == sysModules) = false := beq_eq_false_iff_ne.mpr (Nat.ne_of_gt I.big)
    have len : (mergeK [] kvs).length ≤ sizeLine := by
      have q := length_mergeK kvs []
      have z := rel.length
      rw [List.length_nil] at q
      omega
    exact ⟨.ref s.heap.objs.size, _, I.laid (t' := tk) (o := .dK (mergeK [] kvs)) (fun b u e => old b u (by simp) e) (Nat.le_refl _) ⟨len, hm, merged [] prs, KV.merge rel .nil, now⟩, rfl, go _ (I.hok.fresh (Nat.le_refl _))⟩
end
end Rp

/-! A def within a def, handed to another def and called there: what its cells hold is known where that def is called, and stays so while it runs. -/
namespace Rp
open PySem PySem.Spec PyProof.Rows L2 NdefX LamX
/-- what the cells of Fn hold, and that they are no caller's frame -/
def Held1 (cl : List (Str × Addr)) (fr : List Str) (ws : List (Option V)) (outer : List Env) (s : Shared) (H : Hp) : Prop := CellsAt cl fr ws s.heap H ∧ ∀ y c, cl.lookup y = some c → c ∉ frs outer
/-- a def's promise, kept where R is known of the caller's state -/
structure QnOk (P : Program) (w : World) (K : PySem.W.Frag) (mg : Str → Option Value) (base : Heap) (k : Nat) (f : Addr) (fd : FuncData) (ps : List Str) (R : List Env → Shared → Hp → Prop) (sp : Sp) : Prop where
  len : ∀ vs H Q E, sp vs H Q E → vs.length = ps.length
  run : ∀ (A : Around) (outer : List Env) (s : Shared) (H : Hp) (args : Args) (us : List Value) (vs : List V) (Q : VK) (E : XK), R outer s H → Room k A → Env0 P w K mg base A outer s H → BindsTo s fd args (ps.zip us) → Vals vs us → sp vs H Q E →
    codeAny (model P w) A (.call (.ref f) args) (CR CX0 outer P w H s Q E) s
section
variable {P : Program} {w : World} {K : PySem.W.Frag} {mg : Str → Option Value} {base : Heap}
/-- a def by its body, R told of the caller's state -/
theorem qok {x qual : Str} {st : Stmt} {f : Addr} {fd : FuncData} {N ps : List Str} {k : Nat} {R : List Env → Shared → Hp → Prop} {sp : Sp} (F : Fun K x qual st f fd) (S : FnScope N ps (defScope st)) (len : ∀ vs H Q E, sp vs H Q E → vs.length = ps.length)
    (walk : ∀ (cdv : Value) (A : Around) (outer : List Env) (s : Shared) (H : Hp) (vs : List V) (Q : VK) (E : XK), R outer s H → Room k (A.deeper (envOfC qual (defScope st) s.heap.objs.size f cdv)) → sp vs H Q E →
      ∃ t, PSs (cxOf CX0 P w K mg base N qual (defScope st) f cdv A outer s H E).nox (defBody st) t ∧ t { nx := fun _ H' => Q .non H', rt := Q } (start N vs) H) : QnOk P w K mg base (k + 1) f fd ps R sp := by
  obtain ⟨oc, od, kV, doc, pm, an, cdv, ct, osl, rfl, lk, hcd⟩ := F.ex
  refine ⟨len, fun A outer s H args us vs Q E hR hr e0 hb r hsp => ?_⟩
  have K0 : K.In s.heap := e0.mod.kin.keeps fun b o e => (e0.bs b o e).1
  have L0 : s.heap.NoLimit := e0.mod.nolimit.keeps fun b o e => (e0.bs b o e).1
  have each : ∀ y ∈ ps.zip us, (defScope st).names.lookup y.1 = some .local ∨ ((defScope st).names.lookup y.1 = some .cell ∧ ((cellsFrom (s.heap.objs.size + 1) (defScope st).names []).lookup y.1).isSome = true) := by
    rintro ⟨n, v⟩ hy
    exact (S.par n (List.of_mem_zip hy).1).imp id fun q => ⟨q, PySem.W.cellsFrom_some _ _ _ (.inl q)⟩
  refine codeAny_call_function hr.depth (K0 _ _ lk) rfl S.co S.gen rfl (PySem.W.codeRec_of K0 hcd) (hb _ _ _ _ (wpAny_newFunctionEnv_cells S.kind each fun env he s1 z => ?_))
  subst he
  refine ⟨L0.keeps z.toInCall.keep, codeAny_func ?_⟩
  obtain ⟨t, ht, hq⟩ := walk cdv A outer s H vs Q E hR (hr.deeper _) hsp
  have I : L2.Inv (cxOf CX0 P w K mg base N qual (defScope st) f cdv A outer s H E) [] (start N vs) H s1 := inv_start S hr.hd e0 (len _ _ _ _ hsp) r z
  refine wpAny_mono (ht.nox.run [] s1 (start N vs) H _ I hq) (fun fl s' hs => ?_) fun e s' hs => hs
  rcases fl with _ | _ | _ | u
  · obtain ⟨_, H', J, q⟩ := hs
    exact ⟨V.non, H', J.os, J.bare, J.base, J.hok, rfl, q⟩
  · exact hs.choose_spec.choose_spec.2.elim
  · exact hs.choose_spec.choose_spec.2.elim
  · obtain ⟨v, _, H', J, rv, q⟩ := hs
    exact ⟨v, H', J.os, J.bare, J.base, J.hok, rv, q⟩
end
section
variable {X : Cx} {k j i : Nat} {f : Addr} {fd : FuncData} {ps fr : List Str} {E : XK} {x : Str} {p pos : Pos} {e : Expr} {es : List Expr} {t : TA} {cl : List (Str × Addr)} {js : List Nat}
/-- a cell of the running frame is no caller's frame -/
theorem cells_apart {pins : List (Addr × Obj)} {σ : L2.St} {H : Hp} {s : Shared} (I : L2.Inv X pins σ H s) (stk : X.stack = X.env :: X.outer ∧ X.env.frame = some X.env.locals) (fn : ∀ y, X.fn y = true) (low : ∀ b ∈ frs X.outer, b < X.s_0.heap.objs.size) {y : Str} {c : Addr} (hc : X.env.cells.lookup y = some c) : c ∉ frs X.stack := by
  intro hm
  rw [stk.1] at hm
  have hm : c ∈ (X.env :: X.outer).filterMap (·.frame) := hm
  rw [List.filterMap_cons, stk.2] at hm
  rcases List.mem_cons.mp hm with e | hm
  · obtain ⟨m, ⟨o, es, ep, h1, h2, _⟩, _⟩ := I.loc
    obtain ⟨v, o', h1', h2'⟩ := I.cell y c hc
    rw [e, h1] at h1'
    cases h1'
    rw [h2] at h2'
    cases h2'
  · have a := low c hm
    have b := I.ok.cab y c (fn y) hc
    exact absurd a (Nat.not_lt.mpr b)
theorem low_frames {h base : Heap} {l : List Env} (hf : Heap.FunFrames h base l) : ∀ b ∈ frs l, b < h.objs.size := fun b hb => by
  obtain ⟨_, o, ho, _⟩ := hf.mem hb
  exact Heap.lt_size ho
/-- f(e, ..), f a def of the module that wants to know what a handed def's cells hold -/
def tCallQ (sp : Addr → Addr → List (Option V) → Sp) (js : List Nat) (E : XK) (t : TA) : TE := fun σ H Q => t σ H fun vs H1 => ∃ g c', sp g c' (js.map (slotAt σ)) vs H1 Q E
theorem pe_callQ {sp : Addr → Addr → List (Option V) → Sp} (F : ∀ g c' ws, QnOk X.prog X.w X.K X.mg X.base k f fd ps (Held1 cl fr ws) (sp g c' ws)) (cp : X.Ok → Caps X cl fr js) (stk : X.stack = X.env :: X.outer ∧ X.env.frame = some X.env.locals) (fn : ∀ y, X.fn y = true)
    (hr : Room k X.A) (hg : Gl X x) (hm : X.mg x = some (.ref f)) (hk : PySem.W.keepIn X.K (.ref f) = true) (hb : Binds X.K fd ps []) (ha : PA X (e :: es) t)
    (hdb : (x == ("__debug__" : Str)) = false := by decide) (he : starEach (e :: es) X.env = (false, eval e X.env) :: starEach es X.env := by rfl) (hpl : (backTo pos (starEach es X.env)).any (·.1) = false := by rfl) :
    PE X (.Call (.Name x p) (e :: es) [] pos) (tCallQ sp js E0 t) := by
  refine ⟨fun pins s σ H Q I h => wpAny_Call_Name_kw (ld_glob I hg hm ?_ hdb)⟩
  refine PySem.W.callWith_K (h₀ := X.base) I.ok.mod.kin hk (thn (ha.run pos pins s σ H _ I h) fun us s1 ⟨vs, H1, I1, r, g, c', q⟩ => ⟨I1.kIn, ?_⟩) he hpl
  have hl : us.length = ps.length := r.length.symm.trans ((F g c' _).len _ _ _ _ q)
  have hb' := hb s1 us I1.kIn (by rw [List.append_nil]; exact hl)
  rw [List.append_nil] at hb'
  have held : Held1 cl fr (js.map (slotAt σ)) X.stack s1 H1 := ⟨cells_of I1 (cp I1.ok), fun y c hc => cells_apart I1 stk fn (low_frames I1.ok.funs) ((cp I1.ok).sub y c hc)⟩
  refine wpAny_call (codeAny_mono ((F g c' _).run X.A X.stack s1 H1 ⟨us, []⟩ us vs Q E0 held hr I1.env0 hb' r q) fun r' s' hq => ?_)
  rcases r' with e' | fl
  · exact hq.elim
  · rcases fl with _ | _ | _ | u
    · exact hq.elim
    · exact hq.elim
    · exact hq.elim
    · exact I1.after hq
/-- f(e, ..), f a local name that holds a handed def; what its cells hold was known at this def's own start -/
def tCallV (i : Nat) (g : Addr) (Fn : NF) (ws : List (Option V)) (sp : List (Option V) → Sp) (E : XK) (t : TA) : TE := fun σ H Q => σ[i]? = some (some (.ref g)) ∧ H g = some (FnO g Fn) ∧ t σ H fun vs H1 => H1 g = some (FnO g Fn) ∧ H1 Fn.c = some (CodeO Fn.c Fn.qual) ∧ sp ws vs H1 Q E
theorem pe_callV {Fn : NF} {g : Addr} {ws : List (Option V)} {sp : List (Option V) → Sp} (N : NOk X.prog X.w X.K X.mg X.base CX0 k g Fn ps fr sp) (held : Held1 Fn.cl fr ws X.outer X.s_0 X.H_0) (exn : X.ex = []) (hr : Room k X.A) (hN : X.N[i]? = some x) (hv : Vis X.env.scope x) (ha : PA X (e :: es) t)
    (hd : (x == ("__debug__" : Str)) = false := by decide) (hcd : (x == ("__classdict__" : Str)) = false := by decide)
    (he : starEach (e :: es) X.env = (false, eval e X.env) :: starEach es X.env := by rfl) (hpl : (backTo pos (starEach es X.env)).any (·.1) = false := by rfl) : PE X (.Call (.Name x p) (e :: es) [] pos) (tCallV i g Fn ws sp E0 t) := by
  refine ⟨fun pins s σ H Q I h => ?_⟩
  obtain ⟨hs, hf, ht⟩ := h
  refine wpAny_Call_Name_kw (thn ((pe_var (pos := p) hN hv hd hcd).run pins s σ H (fun v H1 => v = .ref g ∧ H1 = H) I ⟨.ref g, hs, rfl, rfl⟩) fun u s1 ⟨v, H1, I1, rel, ev, eH⟩ => ?_)
  subst ev
  rw [eH] at I1
  obtain rfl : u = Value.ref g := rel
  refine PySem.W.callWith_F (first := []) (fnAt_of I1 hf) (thn (ha.run pos pins s1 σ H _ I1 ht) fun us s2 ⟨vs, H2, I2, r, h1, h2, q⟩ => ⟨fnAt_of I2 h1, ?_⟩) he hpl
  show wpAny _ _ (call (.ref g) us) _ _ _
  have C : CellsAt Fn.cl fr ws s2.heap H2 := held.1.later held.2 (fun y c _ => by rw [exn]; simp) I2
  refine wpAny_call (codeAny_mono (N.run X.A X.stack s2 H2 us vs ws Q E0 hr I2.env0 h1 h2 C r q) fun r' s' hq => ?_)
  rcases r' with e' | fl
  · exact hq.elim
  · rcases fl with _ | _ | _ | u
    · exact hq.elim
    · exact hq.elim
    · exact hq.elim
    · exact I2.after hq
end
end Rp

/-! put: a dict of the BINDING, a def within the def that knows it, folded. -/
namespace Rp
open PySem PySem.Spec PyProof.Rows L2 TL NdefX LamX StX
abbrev Bd := List (Int × Tm)
namespace Tm
def put (b : Bd) : Tm → Tm
  | v n => (b.lookup n).getD (v n)
  | z => z
  | s t => s (t.put b)
  | f l r => f (l.put b) (r.put b)
end Tm
/-- what a dict of a BINDING tells -/
def DbAt (H : Hp) (kvs : List (Key × V)) (bd : Bd) : Prop := ∀ n : Int, (∃ v t, valV kvs (Sum.inl n) = some v ∧ bd.lookup n = some t ∧ TmAt H v t) ∨ (valV kvs (Sum.inl n) = none ∧ bd.lookup n = none)
theorem DbAt.mono {H H' : Hp} {kvs : List (Key × V)} {bd : Bd} (e : ∀ a xs, H a = some (.tup xs) → H' a = some (.tup xs)) (D : DbAt H kvs bd) : DbAt H' kvs bd :=
  fun n => (D n).imp (fun ⟨v, t, a, b, c⟩ => ⟨v, t, a, b, c.mono e⟩) id
/-- pairs of a variable and a TERM -/
def PrAt (H : Hp) (p : Addr) (kv : Int × Tm) : Prop := ∃ x, H p = some (.tup [.int kv.1, x]) ∧ TmAt H x kv.2
theorem PrAt.mono {H H' : Hp} {p : Addr} {kv : Int × Tm} (e : ∀ a xs, H a = some (.tup xs) → H' a = some (.tup xs)) : PrAt H p kv → PrAt H' p kv := fun ⟨x, h, t⟩ => ⟨x, e _ _ h, t.mono e⟩
/-- a BINDING: a plain tuple of pairs, its variables unlike -/
def BdAt (H : Hp) (a : Addr) (bd : Bd) : Prop := ∃ ps : List Addr, PlT H a (ps.map V.ref) ∧ Paired (PrAt H) ps bd ∧ (bd.map (·.1)).Nodup ∧ bd.length ≤ 1000
/-- all tuples stay, plain ones too -/
def Tups (H H' : Hp) : Prop := (∀ a xs, H a = some (.tup xs) → H' a = some (.tup xs)) ∧ ∀ a o xs, H a = some (.frz o (.tup xs)) → H' a = some (.frz o (.tup xs))
theorem Tups.same {H H' : Hp} (e : Same H H') : Tups H H' := ⟨fun _ _ h => e _ _ h, fun _ _ _ h => e _ _ h⟩
theorem Tups.ext {H H' : Hp} (e : ExtN H H') : Tups H H' := ⟨fun _ _ h => e _ _ h (fun _ z => by cases z), fun _ _ _ h => e _ _ h (fun _ z => by cases z)⟩
theorem Tups.but {H H' : Hp} {b : Addr} {ys : List V} (e : But b H H') (hb : H b = some (.lst ys)) : Tups H H' :=
  ⟨fun _ _ h => e _ _ h (ne_of h hb (by intro z; cases z)), fun _ _ _ h => e _ _ h (ne_of h hb (by intro z; cases z))⟩
theorem Tups.trans {H H1 H2 : Hp} (a : Tups H H1) (b : Tups H1 H2) : Tups H H2 := ⟨fun _ _ h => b.1 _ _ (a.1 _ _ h), fun _ _ _ h => b.2 _ _ _ (a.2 _ _ _ h)⟩
theorem BdAt.mono {H H' : Hp} {a : Addr} {bd : Bd} (e : Tups H H') : BdAt H a bd → BdAt H' a bd :=
  fun ⟨ps, h, p, nd, z⟩ => ⟨ps, h.mono fun o => e.2 _ _ _, L2.Paired.mapP p fun _ _ q => q.mono e.1, nd, z⟩
/-- the inner def -/
abbrev sEx : Stmt := (defBody sPut).getD 1 (.Pass ⟨0, 0, 0, 0⟩)
abbrev qEx : Str := ("put" : Str) ++ ".<locals>." ++ "exchanged"
abbrev nfEx (cl : List (Str × Addr)) (c : Addr) : NF := NF.of sEx "exchanged" qEx cl c
abbrev nmEx : Nat → Nat → Str := fun _ _ => qEx
abbrev NEx : List Str := ["part", "below", "found"]
def spEx (ws : List (Option V)) : Sp := fun vs H Q _ => ∃ (x : V) (k : Tm) (l D : Addr) (ks : List V) (bd : Bd) (kvs : List (Key × V)), vs = [x, .ref l] ∧ ws = [some (.ref D)] ∧ TmAt H x k ∧ H l = some (.lst ks) ∧ AllAt H ks (k.kids.map (Tm.put bd)) ∧
  H D = some (.dK kvs) ∧ DbAt H kvs bd ∧ ∀ (v : V) (H' : Hp), TmAt H' v (k.put bd) → Same H H' → Q v H'
section
variable {P : Program} {w : World} {K : PySem.W.Frag} {mg : Str → Option Value} {base : Heap}
theorem scEx (cl : List (Str × Addr)) (c : Addr) : NScope NEx ["part", "below"] ["found"] (nfEx cl c).scope := nscope_by (show nscB NEx ["part", "below"] ["found"] (C8.fnScope sEx) = true by decide +kernel)
theorem ok_ex {g c : Addr} {cl : List (Str × Addr)} (mIsi : mg "isinstance" = none) (mInt : mg "int" = none) : NOk P w K mg base CX0 1 g (nfEx cl c) ["part", "below"] ["found"] spEx := by
  refine nok_of (scEx cl c) (fun _ _ _ us hl => match us, hl with | [_, _], _ => rfl) (fun ws vs H Q E h => ?_) (fun A outer s H vs ws Q E hr hf hc hl h => ?_)
  · obtain ⟨x, k, l, D, ks, bd, kvs, rfl, _⟩ := h
    rfl
  obtain ⟨x, k, l, D, ks, bd, kvs, rfl, rfl, T, h1, A1, hD, DB, q⟩ := h
  have hu := hu_of hr
  refine ⟨_, pss_cons (ps_if (pt_val (pe_callB call_isi (by rfl) mIsi (by decide +kernel) (pa_cons (pv 0) (pa_cons (pe_bltn (v := .ty "int") (by rfl) mInt (by decide +kernel) rfl) pa_nil))))
      (pss_one (ps_ret (pe_dget2 hu (pv 2) (pv 0) (pv 0) ⟨rfl, rfl, rfl, rfl⟩))) pss_nil)
    (pss_one (ps_ret (pe_tup (pa_cons (pe_ix ix_tup (pv 0) pe_int (fun _ _ => rfl)) (pa_star (pv 1) pa_nil))))), ?_⟩
  rcases T.ty (K := K) with ⟨m, rfl, rfl⟩ | ⟨a, xs, rfl, ha, ty, no⟩
  · refine ⟨_, rfl, _, _, _, _, true, rfl, .ty "int", .base (.int m), kit_ii, true, rfl, iteT ?_⟩
    refine ⟨_, rfl, D, rfl, .inl ⟨_, .inl hD⟩, _, rfl, _, rfl, ?_⟩
    rcases DB m with ⟨v, t, e1, e2, T'⟩ | ⟨e1, e2⟩
    · refine ⟨some v, .inl ⟨kvs, Sum.inl m, .inl hD, rfl, e1.symm⟩, q v H ?_ fun _ _ z => z⟩
      show TmAt H v ((bd.lookup m).getD (.v m))
      rw [e2]
      exact T'
    · refine ⟨none, .inl ⟨kvs, Sum.inl m, .inl hD, rfl, e1.symm⟩, q _ H ?_ fun _ _ z => z⟩
      show TmAt H (.int m) ((bd.lookup m).getD (.v m))
      rw [e2]
      exact .v m
  · obtain ⟨a', us, e, ha', hk, hks⟩ := T.tupled no
    cases e
    refine ⟨_, rfl, _, _, _, _, false, rfl, .ty "int", ty, kit_ti, false, rfl, iteF ?_⟩
    have kl := A1.len
    rw [List.length_map] at kl
    refine ⟨_, rfl, _, _, _, _, rfl, rfl, .inl (.inl ha'), at_of (j := 0) rfl rfl, _, rfl, l, ks, rfl, .inr (.inl (.inl h1)), ?_, fun p hp => ?_⟩
    · have : k.kids.length ≤ 2 := by cases k <;> simp [Tm.kids]
      simp only [List.append_nil, List.length_cons]
      have : (3 : Nat) ≤ sizeLine := by decide
      omega
    · have s1 := same_new hp (.tup (V.str (signHead k) :: (ks ++ [])))
      have hp1 : (upd H p (.tup (V.str (signHead k) :: (ks ++ [])))) p = some (.tup (V.str (signHead k) :: (ks ++ []))) := upd_same
      rw [List.append_nil] at hp1
      refine q (.ref p) _ ?_ s1
      rw [List.append_nil] at s1
      have A2 := A1.mono (Tups.same s1).1
      cases k with
      | v n => exact absurd rfl (no n)
      | z =>
        match ks, A2, hp1 with
        | [], _, hp1 => rw [List.append_nil]; exact .z hp1
      | s t =>
        match ks, A2, hp1 with
        | [x], A2, hp1 => rw [List.append_nil]; exact .s hp1 A2.1
      | f l' r =>
        match ks, A2, hp1 with
        | [x, y], A2, hp1 => rw [List.append_nil]; exact .f hp1 A2.1 A2.2.1
end
end Rp

/-! put: fold with the inner def, put itself. -/
namespace Rp
open PySem PySem.Spec PyProof.Rows L2 TL NdefX LamX StX
theorem AllAt.split {H : Hp} {xs : List V} {a b : List Tm} (h : AllAt H xs (a ++ b)) : ∃ ys zs, xs = ys ++ zs ∧ AllAt H ys a ∧ AllAt H zs b := by
  have l := h.len
  rw [List.length_append] at l
  refine ⟨xs.take a.length, xs.drop a.length, (List.take_append_drop _ _).symm, ?_⟩
  rw [← List.take_append_drop a.length xs] at h
  obtain ⟨t1, t2, e, h1, h2⟩ := h.parted
  have l1 := h1.len
  rw [List.length_take] at l1
  obtain ⟨rfl, rfl⟩ := List.append_inj e (by omega)
  exact ⟨h1, h2⟩
theorem put_kids (bd : Bd) {t : Tm} (no : ∀ n, t ≠ .v n) : (t.put bd).kids = t.kids.map (Tm.put bd) := by
  cases t with
  | v n => exact absurd rfl (no n)
  | z => rfl
  | s t => rfl
  | f l r => rfl
abbrev slEx (D : Addr) : List (Option V) := [some (.ref D)]
def spFoldE (g c : Addr) (cl : List (Str × Addr)) (ws : List (Option V)) : Sp := fun vs H Q _ => ∃ (v : V) (t : Tm) (D : Addr) (bd : Bd) (kvs : List (Key × V)), vs = [v, .ref g] ∧ ws = slEx D ∧ TmAt H v t ∧ t.size ≤ 1000 ∧ H g = some (FnO g (nfEx cl c)) ∧ H c = some (CodeO c qEx) ∧
  H D = some (.dK kvs) ∧ DbAt H kvs bd ∧ ∀ (v' : V) (H' : Hp), TmAt H' v' (t.put bd) → Same H H' → Q v' H'
section
variable {P : Program} {w : World} {K : PySem.W.Frag} {mg : Str → Option Value} {base : Heap}
theorem scFoldQ : FnScope ["term", "made_of", "made", "part", "first"] ["term", "made_of"] (defScope sFold) := ⟨rfl, rfl, rfl, by decide +kernel, rfl, by decide +kernel, by decide +kernel⟩
theorem ok_foldq {f fI fP : Addr} {fd dI dP : FuncData} (F : Fun K "fold" "fold" sFold f fd)
    (GI : FnOk P w K mg base CX0 2 fI dI ["term"] spInside) (kI : PySem.W.keepIn K (.ref fI) = true) (bI : Binds K dI ["term"] []) (mI : mg "inside_out" = some (.ref fI))
    (GP : FnOk P w K mg base CX0 1 fP dP ["term"] spParts) (kP : PySem.W.keepIn K (.ref fP) = true) (bP : Binds K dP ["term"] []) (mP : mg "_parts" = some (.ref fP))
    (mLen : mg "len" = none) (mIsi : mg "isinstance" = none) (mInt : mg "int" = none) (g c : Addr) (cl : List (Str × Addr)) (ws : List (Option V)) :
    QnOk P w K mg base 3 f fd ["term", "made_of"] (Held1 cl ["found"] ws) (spFoldE g c cl ws) := by
  refine qok F scFoldQ (fun vs H Q E h => ?_) (fun cdv A outer s H vs Q E held hr h => ?_)
  · obtain ⟨v, t, D, bd, kvs, rfl, _⟩ := h
    rfl
  obtain ⟨v, t, D, bd, kvs, rfl, rfl, T, sz, hg, hc, hD, DB, q⟩ := h
  have r1 : Room 1 _ := hr.mono (by decide)
  have GE : NOk P w K mg base CX0 1 g (nfEx cl c) ["part", "below"] ["found"] spEx := ok_ex mIsi mInt
  refine ⟨_, pss_cons (ps_set (i := 2) scFoldQ.nd rfl (Or.inl rfl) (pe_lst pa_nil))
    (pss_cons (ps_for PassesOwn.never rfl (pi_list (pe_call GI hr rfl mI kI bI .nil pass0 (pa_cons (pv 0) pa_nil))) (pg_name (i := 3) scFoldQ.nd rfl (Or.inl rfl))
      (pss_cons (ps_set (i := 4) scFoldQ.nd rfl (Or.inl rfl) (pe_op op_sub (pe_callB call_len_seq (by rfl) mLen PySem.boot_len (pa_cons (pv 2) pa_nil)) (pe_callB call_len_seq (by rfl) mLen PySem.boot_len (pa_cons (pe_call GP r1 rfl mP kP bP .nil pass0 (pa_cons (pv 3) pa_nil)) pa_nil))))
      (pss_one (ps_tail (pv 2) (po_some (pv 4)) (pe_lst (pa_cons (pe_callV (i := 1) (ws := slEx D) GE held rfl r1 rfl (Or.inl rfl) (pa_cons (pv 3) (pa_cons (pe_slice sl_list (pv 2) (po_some (pv 4)) po_none) pa_nil))) pa_nil))))))
    (pss_one (ps_ret (pe_ix ix_list (pv 2) pe_int (fun _ _ => rfl))))), ?_⟩
  refine ⟨(by show 0 ≤ sizeLine; decide), fun m hm => ?_⟩
  have s0 := same_new hm (.lst ([] : List V))
  refine ⟨_, rfl, v, t, rfl, T.same s0, sz, fun p xs H1 hp h1 A1 s1 => ?_⟩
  have hm1 := s1 _ _ (upd_same : (upd H m (.lst ([] : List V))) m = some (.lst []))
  have pm : p ≠ m := (ne_of_none (upd_same : (upd H m (.lst ([] : List V))) m = some (.lst [])) hp).symm
  have gm : g ≠ m := ne_of_none hg hm
  have cm : c ≠ m := ne_of_none hc hm
  have Dm : D ≠ m := ne_of_none hD hm
  have len := A1.len
  rw [List.length_reverse, Tm.rpost_len] at len
  have post : t.rpost.reverse.length = t.size := by rw [List.length_reverse, Tm.rpost_len]
  have big : (10000 : Nat) ≤ sizeLine := by decide
  refine ⟨p, rfl, ⟨_, .inl (.inl h1)⟩, for_list (K := K) (a := p) (xs := xs) (fun i σ H2 => ∃ (S : List Tm) (ys : List V) (x3 x4 : Option V), σ = [some v, some (.ref g), some (.ref m), x3, x4] ∧ H2 m = some (.lst ys) ∧ AllAt H2 ys (S.map (Tm.put bd)) ∧
      runs S (t.rpost.reverse.drop i) [t] ∧ S.length ≤ i ∧ But m H1 H2) ⟨[], [], none, none, rfl, hm1, trivial, ?_, by simp, But.refl _ _⟩ (fun i σ H2 _ ⟨_, _, _, _, _, _, _, _, _, o⟩ => .inl (.inl (o _ _ h1 pm))) ?_ ?_⟩
  · have := runs_post t [] [] [t] rfl
    simpa using this
  · rintro i x σ H2 hi ⟨S, ys, x3, x4, rfl, h2, A2, run, sl, o2⟩
    obtain ⟨k, hk, Tk⟩ := A1.get hi
    have li : i < t.rpost.reverse.length := (List.getElem?_eq_some_iff.mp hk).1
    have ek : t.rpost.reverse.drop i = k :: t.rpost.reverse.drop (i + 1) := by
      rw [List.drop_eq_getElem_cons li, (List.getElem?_eq_some_iff.mp hk).2]
    rw [ek] at run
    obtain ⟨S0, rfl, run⟩ := run
    rw [List.map_append] at A2
    obtain ⟨y1, y2, rfl, B1, B2⟩ := A2.split
    have l1 := B1.len
    have l2 := B2.len
    rw [List.length_map] at l1 l2
    have T2 := Tk.but o2 hm1
    rw [List.length_append] at sl
    have hg2 := o2 _ _ (s1 _ _ (s0 _ _ hg)) gm
    have hc2 := o2 _ _ (s1 _ _ (s0 _ _ hc)) cm
    have hD2 := o2 _ _ (s1 _ _ (s0 _ _ hD)) Dm
    have DB2 := (DB.mono (Tups.same s0).1 |>.mono (Tups.same s1).1).mono (Tups.but o2 hm1).1
    refine ⟨_, rfl, m, _, rfl, .inl (.inl (.inl h2)), _, rfl, x, k, rfl, T2, fun u ks H3 hu h3 A3 s3 => ?_⟩
    have kl := A3.len
    refine ⟨u, _, rfl, .inr (.inl (.inl h3)), _, _, rfl, rfl, ?_⟩
    have h23 := s3 _ _ h2
    have first : ((((y1 ++ y2).length : Nat) : Int) - ((ks.length : Nat) : Int)) = ((y1.length : Nat) : Int) := by
      rw [List.length_append, kl]; omega
    refine ⟨rfl, s3 _ _ hg2, _, rfl, _, rfl, _, rfl, _, rfl, m, _, rfl, .inl (.inl h23), fun d hd => ?_⟩
    have dm : d ≠ m := (ne_of_none h23 hd).symm
    rw [cut_from (i := y1.length) first]
    have cut : (y1 ++ y2).drop y1.length = y2 := by rw [List.drop_left']; rfl
    rw [cut]
    have s4 := same_new hd (.lst y2)
    have s24 : Same H2 (upd H3 d (.lst y2)) := s3.trans s4
    refine ⟨s24 _ _ hg2, s24 _ _ hc2, x, k, d, D, y2, bd, kvs, rfl, rfl, T2.same s24, upd_same, B2.mono (Tups.same s24).1, s24 _ _ hD2, DB2.mono (Tups.same s24).1, fun v' H4 T4 s4' => ?_⟩
    refine ⟨(by show 1 ≤ sizeLine; decide), fun b hb => ?_⟩
    have s5 := same_new hb (.lst [v'])
    have h24 := s4' _ _ (s4 _ _ h23)
    have h25 := s5 _ _ h24
    refine ⟨_, rfl, _, rfl, _, rfl, m, b, _, _, y1.length, rfl, rfl, congrArg some first, h25, upd_same, ne_of_none h24 hb, ?_, ?_, ?_⟩
    · rw [List.length_append]; omega
    · rw [List.length_append, List.length_singleton]; omega
    · have s25 : Same H2 (upd H4 b (.lst [v'])) := (s24.trans s4').trans s5
      have u6 : Tups (upd H4 b (.lst [v'])) (upd (upd H4 b (.lst [v'])) m (.lst ((y1 ++ y2).take y1.length ++ [v']))) := Tups.but (but_upd _) h25
      refine ⟨S0 ++ [k], y1 ++ [v'], _, _, rfl, ?_, ?_, run, ?_, ?_⟩
      · rw [upd_same, List.take_left' rfl]
      · rw [List.map_append]
        exact ((B1.mono (Tups.same s25).1).mono u6.1).append ⟨(T4.same s5).mono u6.1, trivial⟩
      · rw [List.length_append, List.length_singleton]
        omega
      · intro c' o' z nc
        rw [upd_ne nc]
        exact s25 _ _ (o2 _ _ z nc)
  · rintro σ H2 ⟨S, ys, x3, x4, rfl, h2, A2, run, sl, o2⟩
    rw [List.drop_of_length_le (by omega)] at run
    obtain rfl : S = [t] := run
    match ys, A2 with
    | [y], A2 =>
      refine ⟨_, rfl, m, _, _, _, rfl, rfl, .inl (.inl h2), at_of (j := 0) rfl rfl, q y H2 A2.1 ?_⟩
      exact fun c o z => o2 c o (s1 _ _ (s0 _ _ z)) (ne_of_none z hm)
end
end Rp

/-! put itself; all but the tables stays. -/
namespace Rp
open PySem PySem.Spec PyProof.Rows L2 TL NdefX LamX StX
/-- all but the tables stays, the tables are tables still -/
structure Ext (T : List NTab) (H H' : Hp) : Prop where
  ext : ExtN H H'
  tab : TabsN T H'
  nn : ∀ b, H' b = none → H b = none
theorem same_none {H H' : Hp} (e : Same H H') (b : Addr) (h : H' b = none) : H b = none := by
  cases q : H b with
  | none => rfl
  | some u => have := e _ _ q; rw [h] at this; cases this
theorem Ext.same {T : List NTab} {H H' : Hp} (t : TabsN T H) (e : Same H H') : Ext T H H' := ⟨ExtN.of e, t.ext e, same_none e⟩
theorem Ext.trans {T : List NTab} {H H1 H2 : Hp} (a : Ext T H H1) (b : Ext T H1 H2) : Ext T H H2 := ⟨a.ext.trans b.ext, b.tab, fun x h => a.nn _ (b.nn _ h)⟩
theorem Ext.lst {T : List NTab} {H H' : Hp} (e : Ext T H H') {a : Addr} {xs : List V} (h : H a = some (.lst xs)) : H' a = some (.lst xs) := e.ext _ _ h fun _ z => by cases z
theorem Ext.tups {T : List NTab} {H H' : Hp} (e : Ext T H H') : Tups H H' := Tups.ext e.ext
theorem pairs_of {K : PySem.W.Frag} {H : Hp} : ∀ {ps : List Addr} {bd : Bd}, Paired (PrAt H) ps bd → ∃ kvs : List (Key × V), Paired (fun p (kv : Key × V) => SqT K H p [kV kv.1, kv.2]) ps kvs ∧ Paired (fun (kv : Key × V) (q : Int × Tm) => kv.1 = Sum.inl q.1 ∧ TmAt H kv.2 q.2) kvs bd
  | _, _, .nil => ⟨[], .nil, .nil⟩
  | _, _, .cons (b := q) h t => by
    obtain ⟨x, hx, tx⟩ := h
    obtain ⟨kvs, h1, h2⟩ := pairs_of (K := K) t
    exact ⟨(Sum.inl q.1, x) :: kvs, .cons (.inl (.inl hx)) h1, .cons ⟨rfl, tx⟩ h2⟩
theorem merged_tells {H : Hp} : ∀ {kvs : List (Key × V)} {bd : Bd}, Paired (fun (kv : Key × V) (q : Int × Tm) => kv.1 = Sum.inl q.1 ∧ TmAt H kv.2 q.2) kvs bd → (bd.map (·.1)).Nodup → ∀ (acc : List (Key × V)) (n : Int),
    (bd.lookup n = none → valV (mergeK acc kvs) (Sum.inl n) = valV acc (Sum.inl n)) ∧ (∀ t, bd.lookup n = some t → ∃ v, valV (mergeK acc kvs) (Sum.inl n) = some v ∧ TmAt H v t)
  | _, _, .nil, _, acc, n => ⟨fun _ => rfl, fun t h => by cases h⟩
  | _, _, .cons (a := kv) (l₁ := kvs) (b := q) (l₂ := bd) h t, nd, acc, n => by
    obtain ⟨k, y⟩ := kv
    obtain ⟨m, tm⟩ := q
    obtain ⟨e, T⟩ := h
    have e : k = Sum.inl m := e
    subst e
    have T : TmAt H y tm := T
    rw [List.map_cons, List.nodup_cons] at nd
    have ih := merged_tells t nd.2 (putK acc (Sum.inl m) y) n
    have step : mergeK acc ((Sum.inl m, y) :: kvs) = mergeK (putK acc (Sum.inl m) y) kvs := rfl
    rw [step]
    by_cases hn : n = m
    · subst hn
      have no : bd.lookup n = none := by
        rw [List.lookup_eq_none_iff]
        intro p hp
        have : n ≠ p.1 := fun z => nd.1 (List.mem_map.mpr ⟨p, hp, z.symm⟩)
        simpa using this
      have hl : ((n, tm) :: bd).lookup n = some tm := by simp [List.lookup]
      refine ⟨fun z => ?_, fun t' z => ?_⟩
      · rw [hl] at z; cases z
      · rw [hl] at z; cases z
        refine ⟨y, ?_, T⟩
        rw [ih.1 no, valV_put, if_pos rfl]
    · have hl : ((m, tm) :: bd).lookup n = bd.lookup n := by
        rw [List.lookup_cons, beq_eq_false_iff_ne.mpr hn]
      rw [hl]
      refine ⟨fun z => ?_, ih.2⟩
      rw [ih.1 z, valV_put, if_neg (fun z => hn (Sum.inl.inj z))]
theorem dict_of {H : Hp} {kvs : List (Key × V)} {bd : Bd} (h : Paired (fun (kv : Key × V) (q : Int × Tm) => kv.1 = Sum.inl q.1 ∧ TmAt H kv.2 q.2) kvs bd) (nd : (bd.map (·.1)).Nodup) : DbAt H (mergeK [] kvs) bd := fun n => by
  obtain ⟨h1, h2⟩ := merged_tells h nd [] n
  cases e : bd.lookup n with
  | none => exact .inr ⟨h1 e, rfl⟩
  | some t =>
    obtain ⟨v, a, b⟩ := h2 t e
    exact .inl ⟨v, t, a, rfl, b⟩
def spPut (T : List NTab) : Sp := fun vs H Q _ => ∃ (v : V) (t : Tm) (a : Addr) (bd : Bd), vs = [v, .ref a] ∧ TmAt H v t ∧ t.size ≤ 1000 ∧ BdAt H a bd ∧ TabsN T H ∧ ∀ (v' : V) (H' : Hp), TmAt H' v' (t.put bd) → Ext T H H' → Q v' H'
section
variable {P : Program} {w : World} {K : PySem.W.Frag} {mg : Str → Option Value} {base : Heap}
/-- a def by its body, its code object told -/
theorem okC {x qual : Str} {st : Stmt} {f c : Addr} {fd : FuncData} {N ps : List Str} {k : Nat} {sp : Sp} (F : Fun K x qual st f fd) (hc : fd.code = .ref c) (S : FnScope N ps (defScope st)) (len : ∀ vs H Q E, sp vs H Q E → vs.length = ps.length)
    (walk : ∀ (A : Around) (outer : List Env) (s : Shared) (H : Hp) (vs : List V) (Q : VK) (E : XK), Room k (A.deeper (envOfC qual (defScope st) s.heap.objs.size f (.ref c))) → sp vs H Q E →
      ∃ t, PSs (cxOf CX0 P w K mg base N qual (defScope st) f (.ref c) A outer s H E).nox (defBody st) t ∧ t { nx := fun _ H' => Q .non H', rt := Q } (start N vs) H) : FnOk P w K mg base CX0 (k + 1) f fd ps sp := by
  obtain ⟨oc, od, kV, doc, pm, an, cdv, ct, osl, rfl, lk, hcd⟩ := F.ex
  obtain rfl : cdv = .ref c := hc
  refine fn_of lk hcd S len fun A outer s H vs Q E hr hsp => ?_
  obtain ⟨t, h, q⟩ := walk A outer s H vs Q E hr hsp
  exact ⟨t, h.nox, q⟩
abbrev NPut : List Str := ["term", "binding", "found", "exchanged"]
theorem scPut : FnScope NPut ["term", "binding"] (defScope sPut) := ⟨rfl, rfl, rfl, by decide +kernel, rfl, by decide +kernel, by decide +kernel⟩
theorem ok_put {f fF c Pt : Addr} {fd dF : FuncData} (F : Fun K "put" "put" sPut f fd) (hc : fd.code = .ref c) (TB : TabB base mg c Pt)
    (GF : ∀ (g c : Addr) (cl : List (Str × Addr)) (ws : List (Option V)), QnOk P w K mg base 3 fF dF ["term", "made_of"] (Held1 cl ["found"] ws) (spFoldE g c cl ws)) (kF : PySem.W.keepIn K (.ref fF) = true) (bF : Binds K dF ["term", "made_of"] []) (mF : mg "fold" = some (.ref fF))
    (mDict : mg "dict" = none) : FnOk P w K mg base CX0 4 f fd ["term", "binding"] (spPut [(Pt, nmEx)]) := by
  refine okC F hc scPut (fun vs H Q E h => ?_) (fun A outer s H vs Q E hr h => ?_)
  · obtain ⟨v, t, a, bd, rfl, _⟩ := h
    rfl
  obtain ⟨v, t, a, bd, rfl, T, sz, B, hT, q⟩ := h
  have nb : ndefB (defScope sPut) (C8.fnScope sEx) ["found"] = true := by decide +kernel
  refine ⟨_, pss_cons (ps_set (i := 2) scPut.nd rfl (Or.inr rfl) (pe_callTy (cr_dictT rfl) rfl mDict (by decide +kernel) (pa_cons (pv 1) pa_nil)))
    (pss_cons (ps_ndefMS (st := sEx) (T := [(Pt, nmEx)]) (nm := nmEx) (c := c) (P := Pt) (i := 3) rfl TB rfl (List.mem_singleton.mpr rfl) (by rfl) (fun p hp _ => by rw [List.mem_singleton.mp hp]) (ndef_free (sc := defScope sPut) nb) rfl rfl rfl scPut.nd rfl (Or.inl rfl) (.inl rfl))
    (pss_one (ps_ret (pe_callQ (fr := ["found"]) (js := [2]) (fun g c' ws => GF g c' _ ws) (fun ok => Caps.made (scope := C8.fnScope sEx) ok (ndef_free (sc := defScope sPut) nb) (ndef_fr (sc := defScope sPut) nb) rfl) ⟨rfl, rfl⟩ (fun _ => rfl) hr rfl mF kF bF (pa_cons (pv 0) (pa_cons (pv 3) pa_nil)))))), ?_⟩
  obtain ⟨ps, hp, pr, nd, bz⟩ := B
  obtain ⟨kvs, h1, h2⟩ := pairs_of (K := K) pr
  refine ⟨_, rfl, a, ps, kvs, rfl, hp, h1, fun D hD => ?_⟩
  have s1 := same_new hD (.dK (mergeK [] kvs))
  have DB := dict_of h2 nd
  refine ⟨hT.ext s1, fun g c' H1 e1 nn1 T1 hg hg1 hc1 => ?_⟩
  have u1 : Tups H H1 := (Tups.same s1).trans (Tups.ext e1)
  have hD1 := e1 _ _ (upd_same : (upd H D (.dK (mergeK [] kvs))) D = some (.dK (mergeK [] kvs))) (fun _ z => by cases z)
  refine ⟨_, rfl, _, rfl, g, c', v, t, D, bd, _, rfl, rfl, T.mono u1.1, sz, hg1, hc1, hD1, DB.mono u1.1, fun v' H' T' s' => q v' H' T' ?_⟩
  exact (Ext.same hT s1).trans ((⟨e1, T1, nn1⟩ : Ext _ _ _).trans (Ext.same T1 s'))
end
end Rp

/-! sorted(d) of a dict whose keys are ints. -/
namespace Rp
open PySem PySem.Spec PyProof.Rows L2
theorem int_keys_at : ∀ {us : List Value} {ks : List Int}, us.length = ks.length → (∀ (j : Nat) (v : Value), us[j]? = some v → ∃ (x : Int) (t : Tok), ks[j]? = some x ∧ v = Value.int x t) → IntsAre us ks
  | [], [], _, _ => .nil
  | u :: us, k :: ks, hl, h => by
    obtain ⟨x, t, e1, rfl⟩ := h 0 u rfl
    obtain rfl : k = x := Option.some.inj e1
    refine .cons _ t (int_keys_at (by simpa using hl) fun j v e => ?_)
    obtain ⟨num, tok, at1, is1⟩ := h (j + 1) v (by simpa using e)
    exact ⟨num, tok, by simpa using at1, is1⟩
  | [], _ :: _, long, _ => by simp at long
  | _ :: _, [], long, _ => by simp at long
section
variable {X : Cx}
theorem cr_sortedDI (calm : X.calm = true) : CallR X (.builtin "sorted") (fun xs H Q => ∃ (a : Addr) (kvs : List (Key × V)) (ks : List Int), xs = [.ref a] ∧ Rd H a (.dK kvs) ∧ kvs.map (·.1) = ks.map Sum.inl ∧ ks.length < 64 ∧
    ∀ (ns : List Int) (p : Addr), ns.Perm ks → ns.Pairwise (· ≤ ·) → H p = none → Q (.ref p) (upd H p (.lst (ns.map V.int)))) := by
  intro pins s σ H xs us Q I r told
  obtain ⟨a, kvs, ks, rfl, hd, keysAre, few, go⟩ := told
  obtain ⟨u, rfl, rx⟩ := vals1 r
  cases rx
  obtain ⟨z, lo, vs, rel, dd⟩ := dk_rd I.hok hd
  obtain ⟨ep, at_⟩ := dd.dictAt
  have keyList : vs.map (·.1) = ks.map Sum.inl := rel.keys.symm.trans keysAre
  have long : vs.length = ks.length := by have e := congrArg List.length keyList; rw [List.length_map, List.length_map] at e; exact e
  have room : vs.length ≤ sizeLine := by rw [long, sizeLine_eq]; omega
  refine Calls.call_function_entry PyProof.Rows.kind_sorted PyProof.Rows.plain_sorted PyProof.Rows.entry_sorted (PyProof.Rows.args_sorted1 _) ?_; unfold Builtin.«sorted»
  refine wpAny_bind (m := checkCount "sorted" 1 1 _) (wpAny_pure (wpAny_bind (PySem.W.kdu_collect (A := X.A.in1) (PySem.W.kdl_dict (knd := mixKind X.prog X.w) (kvs := vs) (ep := ep) lo) (I.ok.hd calm) at_ room fun h' tk acc old got => ?_)))
  have many : acc.toList.length = ks.length := by rw [Array.length_toList, got.1, long]
  have numsAre : IntsAre acc.toList ks := int_keys_at many fun j v e => by
    obtain ⟨k, x, e1, e2⟩ := got.2 j v (by rw [← Array.getElem?_toList]; exact e)
    have keyAt : (vs.map (·.1))[j]? = some k := by rw [List.getElem?_map, e1]; rfl
    rw [keyList, List.getElem?_map] at keyAt
    cases look : ks[j]? with
    | none => rw [look] at keyAt; cases keyAt
    | some y =>
      rw [look] at keyAt
      obtain rfl : Sum.inl y = k := Option.some.inj keyAt
      rcases keyIs_shape (show keyIs (Sum.inl y) v = true from e2) with ⟨i, t, ek, ev⟩ | ⟨z, t, ek, ev⟩
      · cases ek; exact ⟨y, t, rfl, ev⟩
      · cases ek
  have J : Inv X pins σ H { s with heap := h', toks := tk } := I.kept old
  refine wpAny_bind (wpAny_newList ?_ (by rw [many, sizeLine_eq]; omega))
  have made : (h'.push (seqObj "list" acc.toList.toArray 0)).get? h'.objs.size = some (seqObj "list" acc.toList.toArray 0) := Heap.get?_push_size _ rfl
  show wpAny _ _ _ _ _ { s with heap := h'.push (seqObj "list" acc.toList.toArray 0), toks := tk }
  refine wpAny_bind (wpAny_holding (wpAny_call_entry PyProof.Rows.slot_list_sort ⟨_, made, rfl⟩ PyProof.Rows.entry_list_sort
    (SrtO.list_sort_ord (s := { s with heap := h'.push (seqObj "list" acc.toList.toArray 0), toks := tk }) SrtO.swo_int made (by rw [many, sizeLine_eq]; omega) (fun h2 => SrtO.ints_sortable numsAre h2) fun out o1 o2 => ⟨_, rfl, ?_⟩) (PyProof.Rows.args_list_sort _)))
  obtain ⟨k1, k2, k3⟩ := SrtO.ints_out numsAre o1 o2
  obtain ⟨ep', he'⟩ := PyProof.Rows.sortedHeap_at (vs := acc.toList) (out := out.toArray) made
  have fits : ((out.map SrtO.iv).map V.int).length ≤ sizeLine := by rw [List.length_map, k2.length_eq]; exact Nat.le_trans (Nat.le_of_lt few) (by decide)
  refine wpAny_pure ⟨_, rfl, .ref h'.objs.size, upd H h'.objs.size (.lst ((out.map SrtO.iv).map V.int)), J.laid (t' := tk) (fun b u e => ?_) (Nat.le_refl _) ⟨fits, out, ep', vals_of_ints k1, he'⟩, rfl, go _ _ k2 k3 (J.hok.fresh (Nat.le_refl _))⟩
  have lt := Heap.lt_size e
  rw [PyProof.Rows.sortedHeap_old (Nat.ne_of_lt lt) (by rw [size_push']; exact Nat.lt_succ_of_lt lt)]
  exact Heap.get?_push_of_some _ e
end
end Rp

set_option maxHeartbeats 8000000
namespace Rp
open PySem PySem.Spec PyProof.Rows L2 TL
def spFresh1 : Sp := fun vs H Q _ => ∃ (b : Addr) (j : Nat), vs = [.ref b] ∧ BoxAt H b j ∧ j + 9 ≤ 1000000 ∧
  ∀ (p : Addr) (ns : List Int) (H' : Hp), H p = none → H' p = some (.lst (ns.map V.int)) → (∀ m ∈ ns, 0 ≤ m ∧ m ≤ 99) → ns.length ≤ 4 → 0 < ns.length → BoxAt H' b (j + 9) → But b H H' → Q (.ref p) H'
def spLText (n : Nat) : Sp := fun vs H Q _ => ∃ (v : V) (t : Tm), vs = [v] ∧ TmAt H v t ∧ t.small ∧ t.size ≤ 1000 ∧ t.deep < n ∧ ∀ H', Same H H' → Q (.str t.txt) H'
section
variable {P : Program} {w : World} {K : PySem.W.Frag} {mg : Str → Option Value} {base : Heap}
theorem kid_nums {t k : Tm} (h : k ∈ t.kids) : ∀ n ∈ k.nums, n ∈ t.nums := by
  cases t with
  | v n => simp [Tm.kids] at h
  | z => simp [Tm.kids] at h
  | s t => simp [Tm.kids] at h; subst h; exact fun n hn => hn
  | f l r =>
    simp [Tm.kids] at h
    rcases h with rfl | rfl
    · exact fun n hn => List.mem_append.mpr (.inl hn)
    · exact fun n hn => List.mem_append.mpr (.inr hn)
theorem scLText : FnScope ["_law_tree_here", "_law_part"] ["_law_tree_here"] (defScope sText) := ⟨rfl, rfl, rfl, by decide +kernel, rfl, by decide +kernel, by decide +kernel⟩
theorem ok_ltext {n : Nat} {f : Addr} {fd : FuncData} (F : Fun K "_law_text" "_law_text" sText f fd) (b1 : Binds K fd ["_law_tree_here"] []) (mF : mg "_law_text" = some (.ref f)) (G : FnOk P w K mg base CX0 n f fd ["_law_tree_here"] (spLText n)) (M : SameG mg) :
    FnOk P w K mg base CX0 (n + 1) f fd ["_law_tree_here"] (spLText (n + 1)) := by
  refine F.ok scLText (fun vs H Q E h => ?_) (fun cdv A outer s H vs Q E hr h => ?_)
  · obtain ⟨v, t, rfl, _⟩ := h
    rfl
  obtain ⟨v, t, rfl, T, sm, sz, dp, q⟩ := h
  refine ⟨_, pss_cons (ps_if (pt_val (pe_callB (id := "isinstance") call_isi (by rfl) M.isi (by decide +kernel) (pa_cons (pv 0) (pa_cons (pe_bltn (v := .ty "int") (by rfl) M.int (by decide +kernel) rfl) pa_nil))))
      (pss_one (ps_ret (pe_op op_add_str pe_str (pe_callTy call_str_int (by rfl) M.str (by decide +kernel) (pa_cons (pv 0) pa_nil))))) pss_nil)
    (pss_cons (ps_if (pt_cmpR op_eq (pe_callB call_len_seq (by rfl) M.len PySem.boot_len (pa_cons (pv 0) pa_nil)) pe_int (nomark _)) (pss_one (ps_ret pe_str)) pss_nil)
    (pss_one (ps_ret (pe_op op_add_str (pe_op op_add_str (pe_op op_add_str (pe_ix ix_tup (pv 0) pe_int (fun _ _ => rfl)) pe_str) (pe_bm PySem.F.plainAttrs_str PySem.F.slot_str_join PySem.F.type_str_join mt_join pe_str (pa_cons
      (pe_lc (own := [("_law_part", 1)]) (g := gName 1) (tt := tYes) (te := tCall (spLText n) [] E0 (tCons (tVar 1) tNil)) rfl scLText.nd (pi_tup (pe_slice sl_tup (pv 0) (po_some pe_int) po_none))
        (blkOk_by (N := ["_law_tree_here", "_law_part"]) (sc := defScope sText) (by decide +kernel)) (fun _ _ _ _ _ => pg_name (i := 1) scLText.nd rfl (Or.inl rfl))
        (fun _ _ _ _ _ => pts_nil) (fun _ _ _ _ _ => pe_call G hr (by rfl) mF F.kp b1 .nil pass0 (pa_cons (pv 1) pa_nil))) pa_nil))) pe_str)))), ?_⟩
  have big : (10000 : Nat) ≤ sizeLine := by decide
  have tl0 := txt_len t sm
  rcases T.ty (K := K) with ⟨m, rfl, rfl⟩ | ⟨a, xs, rfl, ha, ty, no⟩
  · have hm := sm m (by simp [Tm.nums])
    refine ⟨_, rfl, _, _, _, _, true, rfl, .ty "int", .base (.int m), kit_ii, true, rfl, iteT ?_⟩
    refine ⟨_, rfl, m, rfl, ?_, "x", _, rfl, rfl, ?_, q H (Same.refl H)⟩
    · have := Nat.log2_le_self m.natAbs; omega
    · have := num_len hm
      have : ("x" : Str).length = 1 := by decide +kernel
      show 1 + (Str.ofString (toString m)).length ≤ _
      omega
  · obtain ⟨a', ks, e, ha', hk, hks⟩ := T.tupled no
    cases e
    refine ⟨_, rfl, _, _, _, _, false, rfl, .ty "int", ty, kit_ti, false, rfl, iteF ?_⟩
    have l3 : ("(" : Str).length = 1 := by decide +kernel
    have l4 : (")" : Str).length = 1 := by decide +kernel
    have l5 : ("," : Str).length = 1 := by decide +kernel
    have kid_ok : ∀ (x : V) (i : Nat), ks[i]? = some x → ∃ k, t.kids[i]? = some k ∧ TmAt H x k ∧ k.small ∧ k.size ≤ 1000 ∧ k.deep < n := by
      intro x i hx
      have hil : i < t.kids.length := by rw [← hk]; exact (List.getElem?_eq_some_iff.mp hx).1
      have hki : t.kids[i]? = some t.kids[i] := List.getElem?_eq_getElem hil
      have mem : t.kids[i] ∈ t.kids := List.getElem_mem hil
      have d1 := kid_deep mem
      have z1 := kid_size mem
      refine ⟨_, hki, hks i x _ hx hki, ?_, by omega, by omega⟩
      exact fun k hk' => sm k (kid_nums mem k hk')
    by_cases hz : ks = []
    · subst hz
      have tz : t = .z := by
        cases t with
        | v n => exact absurd rfl (no n)
        | z => rfl
        | s t => simp [Tm.kids] at hk
        | f l r => simp [Tm.kids] at hk
      subst tz
      exact ⟨_, rfl, a, _, rfl, .inr (.inl (.inl ha')), rfl, true, congrArg V.bl (decide_eq_true rfl), iteT (q H (Same.refl H))⟩
    · have kpos : 0 < ks.length := List.length_pos_iff.mpr hz
      refine ⟨_, rfl, a, _, rfl, .inr (.inl (.inl ha')), rfl, false, congrArg V.bl (decide_eq_false (fun z => by injection z with z; rw [List.length_cons] at z; omega)), iteF ?_⟩
      have hl1 : (signHead t).length = 1 := by
        cases t with
        | v n => exact absurd rfl (no n)
        | z => show ("0" : Str).length = 1; decide +kernel
        | s t => show ("s" : Str).length = 1; decide +kernel
        | f l r => show ("f" : Str).length = 1; decide +kernel
      refine ⟨_, rfl, a, _, _, _, rfl, rfl, .inl (.inl ha'), at_of (j := 0) rfl rfl, signHead t, "(", rfl, rfl, by omega, ?_⟩
      refine ⟨rfl, _, rfl, 1, rfl, a, _, rfl, .inl (.inl ha'), cut_part _ _, fun p hp => ?_⟩
      rw [cut_tail]
      have s1 := same_new hp (.tup ks)
      refine ⟨p, rfl, ⟨_, .inl (.inl upd_same)⟩, fun D hD => lc_tup (K := K) (a := p) (xs := ks) (fun i H2 => H2 D = some (.lst (((t.kids.take i).map Tm.txt).map V.str)) ∧ Same (upd H p (.tup ks)) H2) ⟨upd_same, same_new hD _⟩ (fun i H2 _ h => .inl (.inl (h.2 _ _ upd_same))) ?_ ?_⟩
      · rintro i x H2 hi ⟨h2, s2⟩
        obtain ⟨k, hki, Tk, smk, szk, dk⟩ := kid_ok x i hi
        refine ⟨rfl, ?_⟩
        refine ⟨_, rfl, x, k, rfl, (Tk.same s1).same s2, smk, szk, dk, fun H3 s3 => ⟨_, s3 _ _ h2, ?_, ?_, ?_⟩⟩
        · rw [List.length_map, List.length_map, List.length_take]
          have : t.kids.length ≤ 2 := by cases t <;> simp [Tm.kids]
          omega
        · have tk : t.kids.take (i + 1) = t.kids.take i ++ [k] := by rw [List.take_add_one, hki]; rfl
          rw [upd_same, tk, List.map_append, List.map_append]; rfl
        · intro c o z
          rw [upd_ne (ne_of_none z hD)]
          exact s3 _ _ (s2 _ _ z)
      · rintro H2 ⟨h2, s2⟩
        rw [hk, List.take_of_length_le (Nat.le_refl _)] at h2
        have tt := Tm.txt_kids t
        have pt : t.txt = signHead t ++ "(" ++ Txt.join "," (t.kids.map Tm.txt) ++ ")" := by
          rw [tt]
          cases t with
          | v n => exact absurd rfl (no n)
          | z => simp [Tm.kids] at hk; exact absurd hk hz
          | s t => rfl
          | f l r => rfl
        have lt := congrArg Str.length pt
        rw [slen, slen, slen] at lt
        refine ⟨",", D, t.kids.map Tm.txt, rfl, rfl, .inl (.inl (.inl h2)), ?_, ?_⟩
        · have each : ∀ k ∈ t.kids, k.txt.length ≤ 4000 := fun k hk' => by
            obtain ⟨i, hi, rfl⟩ := List.getElem_of_mem hk'
            obtain ⟨k', h1, _, h3, h4, _⟩ := kid_ok (ks[i]'(by omega)) i (List.getElem?_eq_getElem (by omega))
            rw [List.getElem?_eq_getElem hi] at h1
            cases h1
            have := txt_len _ h3
            omega
          rw [l5]
          match hkk : t.kids, each with
          | [], _ => simp
          | [k], each => simp; have := each k (by simp); omega
          | [k, k'], each => simp; have := each k (by simp); have := each k' (by simp); omega
          | k :: k' :: k'' :: r, _ => cases t <;> simp [Tm.kids] at hkk
        · refine ⟨signHead t ++ "(", _, rfl, rfl, by rw [slen]; omega, ?_⟩
          refine ⟨signHead t ++ "(" ++ Txt.join "," (t.kids.map Tm.txt), ")", rfl, rfl, by rw [slen, slen]; omega, ?_⟩
          rw [← pt]
          exact q H2 (s1.trans s2)
theorem ltext_ok {f : Addr} {fd : FuncData} (F : Fun K "_law_text" "_law_text" sText f fd) (b1 : Binds K fd ["_law_tree_here"] []) (mF : mg "_law_text" = some (.ref f)) (M : SameG mg) : ∀ n : Nat, FnOk P w K mg base CX0 n f fd ["_law_tree_here"] (spLText n)
  | 0 => none_left fun vs H Q E h => by
    obtain ⟨v, t, _, _, _, _, h, _⟩ := h
    omega
  | n + 1 => ok_ltext F b1 mF (ltext_ok F b1 mF M n) M
end
end Rp

namespace Rp
open PySem L2
section
variable {P : Program} {w : World} {K : PySem.W.Frag} {mg : Str → Option Value} {base : Heap}
theorem scSize : FnScope ["term"] ["term"] (defScope sSize) := ⟨rfl, rfl, rfl, by decide +kernel, rfl, by decide +kernel, by decide +kernel⟩
theorem ok_size {f fI : Addr} {fd fdI : FuncData} (F : Fun K "size" "size" sSize f fd) (GI : FnOk P w K mg base CX0 2 fI fdI ["term"] spInside) (kI : PySem.W.keepIn K (.ref fI) = true) (bI : Binds K fdI ["term"] []) (mI : mg "inside_out" = some (.ref fI)) (mLen : mg "len" = none) :
    FnOk P w K mg base CX0 3 f fd ["term"] spSize := by
  refine F.ok scSize (fun vs H Q E h => ?_) (fun cdv A outer s H vs Q E hr h => ?_)
  · obtain ⟨v, t, rfl, _⟩ := h
    rfl
  obtain ⟨v, t, rfl, T, hz, q⟩ := h
  refine ⟨_, pss_one (ps_ret (pe_callB call_len_seq (by rfl) mLen PySem.boot_len (pa_cons (pe_call GI hr rfl mI kI bI .nil pass0 (pa_cons (pv 0) pa_nil)) pa_nil))), ?_⟩
  refine ⟨_, rfl, v, t, rfl, T, hz, fun p xs H' hp h A s1 => ⟨p, xs, rfl, .inl (.inl (.inl h)), ?_⟩⟩
  have e := A.len
  rw [List.length_reverse, Tm.rpost_len] at e
  rw [e]
  exact q H' s1
end
end Rp

/-! Data that repr shows: how large it is. -/
namespace Rp
open PySem PySem.Spec PyProof.Rows L2
structure Gd (n k : Nat) (d : PyData) : Prop where
  lay : d.canLay0 = true
  sh : d.showable = true
  is : d.intsShort 13 = true
  nd : d.hasDict = false
  wt : d.weight + 1 ≤ n
  dp : d.depth ≤ k
structure GdA (n k : Nat) (d : List PyData) : Prop where
  lay : PyData.canLayAll0 d = true
  sh : PyData.showableAll d = true
  is : PyData.intsShortAll 13 d = true
  nd : PyData.hasDictAll d = false
  wt : PyData.weightAll d ≤ n
  dp : PyData.depthAll d ≤ k
theorem Gd.more {n k n' k' : Nat} {d : PyData} (h : Gd n k d) (hn : n ≤ n') (hk : k ≤ k') : Gd n' k' d := ⟨h.lay, h.sh, h.is, h.nd, Nat.le_trans h.wt hn, Nat.le_trans h.dp hk⟩
theorem GdA.more {n k n' k' : Nat} {d : List PyData} (h : GdA n k d) (hn : n ≤ n') (hk : k ≤ k') : GdA n' k' d := ⟨h.lay, h.sh, h.is, h.nd, Nat.le_trans h.wt hn, Nat.le_trans h.dp hk⟩
theorem gda_nil (k : Nat) : GdA 0 k [] := ⟨rfl, rfl, rfl, rfl, by decide, by simp [PyData.depthAll]⟩
theorem GdA.cons {n m k : Nat} {d : PyData} {ds : List PyData} (h : Gd n k d) (h' : GdA m k ds) : GdA (n + m) k (d :: ds) := by
  refine ⟨?_, ?_, ?_, ?_, ?_, ?_⟩
  · simp only [PyData.canLayAll0, h.lay, h'.lay]; rfl
  · simp only [PyData.showableAll, h.sh, h'.sh]; rfl
  · simp only [PyData.intsShortAll, h.is, h'.is]; rfl
  · simp only [PyData.hasDictAll, h.nd, h'.nd]; rfl
  · have := h.wt; have := h'.wt; simp only [PyData.weightAll]; omega
  · have := h.dp; have := h'.dp; simp only [PyData.depthAll]; omega
theorem GdA.tup {n k : Nat} {ds : List PyData} (h : GdA n k ds) : Gd (n + 1) (k + 1) (.tuple ds) := by
  refine ⟨?_, ?_, ?_, ?_, ?_, ?_⟩
  · simp only [PyData.canLay0, h.lay]
  · simp only [PyData.showable, h.sh]
  · simp only [PyData.intsShort, h.is]
  · simp only [PyData.hasDict, h.nd]
  · have := h.wt; simp only [PyData.weight]; omega
  · have := h.dp; simp only [PyData.depth]; omega
theorem gda_map {α : Type} {f : α → PyData} {n k : Nat} : ∀ {l : List α}, (∀ x ∈ l, Gd n k (f x)) → GdA (n * l.length) k (l.map f)
  | [], _ => gda_nil k
  | x :: l, h => by
    have ih := gda_map (l := l) fun y hy => h y (by simp [hy])
    refine ((h x (by simp)).more (Nat.le_refl _) (Nat.le_refl _) |> fun a => GdA.cons a ih).more ?_ (Nat.le_refl _)
    rw [List.length_cons, Nat.mul_add]; omega
theorem gd_int {i : Int} (h : i.natAbs ≤ 9999999999) : Gd 36 1 (.int i) := by
  have lg : i.natAbs.log2 ≤ 34 := by
    by_cases h0 : i.natAbs = 0
    · rw [h0]; decide
    · exact Nat.le_of_lt_succ ((Nat.log2_lt h0).mpr (by omega))
  refine ⟨rfl, ?_, ?_, rfl, ?_, by simp [PyData.depth]⟩
  · simp only [PyData.showable, decide_eq_true_eq]; omega
  · simp only [PyData.intsShort, decide_eq_true_eq]; exact PyData.shown_int_le (by omega)
  · simp only [PyData.weight]; split <;> omega
theorem GdA.lst {n k : Nat} {ds : List PyData} (h : GdA n k ds) : Gd (n + 1) (k + 1) (.list ds) := by
  refine ⟨?_, ?_, ?_, ?_, ?_, ?_⟩
  · simp only [PyData.canLay0, h.lay]
  · simp only [PyData.showable, h.sh]
  · simp only [PyData.intsShort, h.is]
  · simp only [PyData.hasDict, h.nd]
  · have := h.wt; simp only [PyData.weight]; omega
  · have := h.dp; simp only [PyData.depth]; omega
theorem Gd.shown {n k : Nat} {d : PyData} (g : Gd n k d) (hn : n ≤ 1000000) (hk : k ≤ 64) : d.showable = true ∧ d.hasDict = false ∧ d.depth ≤ 64 ∧ d.shown.length ≤ sizeLine := by
  have w := g.wt
  have k := g.dp
  refine ⟨g.sh, g.nd, by omega, Nat.le_trans (shown_le13 ?_ g.is) (by decide)⟩
  unfold PyData.layable0
  rw [g.lay, decide_eq_true (by omega : d.depth ≤ 64), decide_eq_true (by omega : d.weight ≤ 2 ^ 20)]
  rfl
end Rp

set_option maxHeartbeats 8000000
/-! All but one list and the tables stays; what is shown, what is alike; the law's own exchange. -/
namespace Rp
open PySem PySem.Spec PyProof.Rows L2 TL NdefX LamX StX
structure ExtB (T : List NTab) (D : Addr) (H H' : Hp) : Prop where
  ext : ∀ c o, H c = some o → c ≠ D → (∀ ps, o ≠ .tbl ps) → H' c = some o
  tab : TabsN T H'
theorem code_lst {c : Addr} {q : Str} {xs : List V} : CodeO c q ≠ .lst xs := fun z => by unfold CodeO at z; cases z
theorem tabs_but {T : List NTab} {H H' : Hp} {D : Addr} {xs : List V} (t : TabsN T H) (hD : H D = some (.lst xs)) (o : But D H H') : TabsN T H' := fun p hp => by
  obtain ⟨ps, h1, h2, h3⟩ := t p hp
  refine ⟨ps, o _ _ h1 (ne_of h1 hD (by intro z; cases z)), h2, fun pos cv hc => ?_⟩
  obtain ⟨c, e1, e2⟩ := h3 pos cv hc
  exact ⟨c, e1, o _ _ e2 (ne_of e2 hD code_lst)⟩
theorem ExtB.refl {T : List NTab} {D : Addr} {H : Hp} (t : TabsN T H) : ExtB T D H H := ⟨fun _ _ h _ _ => h, t⟩
theorem ExtB.trans {T : List NTab} {D : Addr} {H H1 H2 : Hp} (a : ExtB T D H H1) (b : ExtB T D H1 H2) : ExtB T D H H2 := ⟨fun c o h n m => b.ext c o (a.ext c o h n m) n m, b.tab⟩
theorem Ext.toB {T : List NTab} {D : Addr} {H H' : Hp} (e : Ext T H H') : ExtB T D H H' := ⟨fun c o h _ m => e.ext c o h m, e.tab⟩
theorem ExtB.but {T : List NTab} {D : Addr} {xs : List V} {H H' : Hp} (t : TabsN T H) (hD : H D = some (.lst xs)) (o : But D H H') : ExtB T D H H' := ⟨fun c u h n _ => o c u h n, tabs_but t hD o⟩
theorem ExtB.same {T : List NTab} {D : Addr} {H H' : Hp} (t : TabsN T H) (s : Same H H') : ExtB T D H H' := ⟨fun c u h _ _ => s c u h, t.ext s⟩
theorem ExtB.tups {T : List NTab} {D : Addr} {xs : List V} {H H' : Hp} (e : ExtB T D H H') (hD : H D = some (.lst xs)) : Tups H H' :=
  ⟨fun _ _ h => e.ext _ _ h (ne_of h hD (by intro z; cases z)) (fun _ z => by cases z), fun _ _ _ h => e.ext _ _ h (ne_of h hD (by intro z; cases z)) (fun _ z => by cases z)⟩
theorem ExtB.lst {T : List NTab} {D : Addr} {H H' : Hp} (e : ExtB T D H H') {a : Addr} {xs : List V} (h : H a = some (.lst xs)) (n : a ≠ D) : H' a = some (.lst xs) := e.ext _ _ h n fun _ z => by cases z
theorem gd_str {x : Str} (h : PyData.canLay0 (.str x) = true) (l : x.length ≤ 6) : Gd 7 1 (.str x) :=
  ⟨h, rfl, rfl, rfl, by simp only [PyData.weight]; show x.length + 1 ≤ 7; omega, by simp [PyData.depth]⟩
theorem gd_tm : ∀ t : Tm, t.small → Gd (8 * t.size) (t.deep + 1) (tmD t)
  | .v n, h => by
    have h := h n (by simp [Tm.nums])
    have g := gd_int (i := n) (by omega)
    have lg : n.natAbs.log2 ≤ 6 := by
      by_cases h0 : n.natAbs = 0
      · rw [h0]; decide
      · exact Nat.le_of_lt_succ ((Nat.log2_lt h0).mpr (by show n.natAbs < 2 ^ 7; omega))
    exact ⟨g.lay, g.sh, g.is, g.nd, by simp only [tmD, PyData.weight, Tm.size]; split <;> omega, by simp [tmD, PyData.depth]⟩
  | .z, _ => (((GdA.cons (gd_str (x := "0") (by decide +kernel) (by decide +kernel)) (gda_nil 1)).tup).more (by decide) (by decide) : Gd 8 2 _) |> fun g => ⟨g.lay, g.sh, g.is, g.nd, g.wt, by simp [tmD, PyData.depth, PyData.depthAll]⟩
  | .s t, h => by
    have ih := gd_tm t h
    have a : PyData.canLay0 (.str "s") = true := by decide +kernel
    have l : ("s" : Str).cps.size = 1 := by decide +kernel
    have w := ih.wt
    have dp := ih.dp
    refine ⟨?_, ?_, ?_, ?_, ?_, ?_⟩
    · simp only [tmD, PyData.canLay0, PyData.canLayAll0, Bool.and_true, Bool.and_eq_true]; exact ⟨by simpa [PyData.canLay0] using a, ih.lay⟩
    · simp only [tmD, PyData.showable, PyData.showableAll, ih.sh]; rfl
    · simp only [tmD, PyData.intsShort, PyData.intsShortAll, ih.is]; rfl
    · simp only [tmD, PyData.hasDict, PyData.hasDictAll, ih.nd]; rfl
    · simp only [tmD, PyData.weight, PyData.weightAll, Tm.size, l]; omega
    · simp only [tmD, PyData.depth, PyData.depthAll, Tm.deep]; omega
  | .f t u, h => by
    have ih := gd_tm t fun n hn => h n (by simp [Tm.nums, hn])
    have ih2 := gd_tm u fun n hn => h n (by simp [Tm.nums, hn])
    have a : PyData.canLay0 (.str "f") = true := by decide +kernel
    have l : ("f" : Str).cps.size = 1 := by decide +kernel
    have w := ih.wt
    have dp := ih.dp
    have w2 := ih2.wt
    have dp2 := ih2.dp
    refine ⟨?_, ?_, ?_, ?_, ?_, ?_⟩
    · simp only [tmD, PyData.canLay0, PyData.canLayAll0, Bool.and_true, Bool.and_eq_true]; exact ⟨by simpa [PyData.canLay0] using a, ih.lay, ih2.lay⟩
    · simp only [tmD, PyData.showable, PyData.showableAll, ih.sh, ih2.sh]; rfl
    · simp only [tmD, PyData.intsShort, PyData.intsShortAll, ih.is, ih2.is]; rfl
    · simp only [tmD, PyData.hasDict, PyData.hasDictAll, ih.nd, ih2.nd]; rfl
    · simp only [tmD, PyData.weight, PyData.weightAll, Tm.size, l]; omega
    · simp only [tmD, PyData.depth, PyData.depthAll, Tm.deep]; omega
theorem alike_plain {H : Hp} {n : Nat} {x : V} (p : Plain x) : Alike H n x x := by
  cases n with
  | zero => unfold Alike; exact ⟨p, rfl⟩
  | succ n => unfold Alike; exact .inl ⟨p, rfl⟩
theorem alike_tm {H : Hp} : ∀ {t : Tm} {n : Nat} {x y : V}, TmAt H x t → TmAt H y t → t.deep < n → Alike H n x y
  | .v m, n, _, _, .v _, .v _, _ => alike_plain trivial
  | .z, n + 1, _, _, .z h, .z h', _ => by
    unfold Alike
    refine .inr ⟨_, _, _, _, rfl, rfl, .inr ⟨h, h'⟩, rfl, by simp, fun i u v h1 h2 => ?_⟩
    obtain rfl : u = v := Option.some.inj (h1.symm.trans h2)
    match i with
    | 0 => simp at h1; subst h1; exact alike_plain trivial
    | i + 1 => simp at h1
  | .s t, n + 1, _, _, .s h q, .s h' q', hd => by
    unfold Alike
    refine .inr ⟨_, _, _, _, rfl, rfl, .inr ⟨h, h'⟩, rfl, by simp, fun i u v h1 h2 => ?_⟩
    match i with
    | 0 => simp at h1 h2; subst h1 h2; exact alike_plain trivial
    | 1 => simp at h1 h2; subst h1 h2; exact alike_tm q q' (by simp only [Tm.deep] at hd; omega)
    | i + 2 => simp at h1
  | .f l r, n + 1, _, _, .f h q1 q2, .f h' q1' q2', hd => by
    unfold Alike
    simp only [Tm.deep] at hd
    refine .inr ⟨_, _, _, _, rfl, rfl, .inr ⟨h, h'⟩, rfl, by simp, fun i u v h1 h2 => ?_⟩
    match i with
    | 0 => simp at h1 h2; subst h1 h2; exact alike_plain trivial
    | 1 => simp at h1 h2; subst h1 h2; exact alike_tm q1 q1' (by omega)
    | 2 => simp at h1 h2; subst h1 h2; exact alike_tm q2 q2' (by omega)
    | i + 3 => simp at h1
theorem kids_two (t : Tm) : t.kids.length ≤ 2 := by cases t <;> simp [Tm.kids]
theorem cut_to {xs : List V} (n : Nat) : cutV xs none (some (n : Int)) = xs.take n := by
  unfold cutV
  rw [HT.sIx_none, HT.sIx_nat, List.drop_zero, Nat.sub_zero]
  rcases Nat.le_total n xs.length with h | h
  · rw [Nat.min_eq_left h]
  · rw [Nat.min_eq_right h, List.take_length, List.take_of_length_le h]
theorem cut_one (x : V) (ks : List V) : cutV (x :: ks) none (some 1) = [x] := by
  have := cut_to (xs := x :: ks) 1
  simpa using this
def spLPut (n : Nat) : Sp := fun vs H Q _ => ∃ (v : V) (t : Tm) (a : Addr) (bd : Bd), vs = [v, .ref a] ∧ TmAt H v t ∧ t.deep < n ∧ BdAt H a bd ∧ ∀ (v' : V) (H' : Hp), TmAt H' v' (t.put bd) → Same H H' → Q v' H'
section
variable {P : Program} {w : World} {K : PySem.W.Frag} {mg : Str → Option Value} {base : Heap}
abbrev NXch : List Str := ["_law_tree_here", "_law_pairs", "_law_part"]
theorem scXch : FnScope NXch ["_law_tree_here", "_law_pairs"] (defScope sPutL) := ⟨rfl, rfl, rfl, by decide +kernel, rfl, by decide +kernel, by decide +kernel⟩
def teXch (n : Nat) : TE := fun σ H Q => tCons (tVar 2) (tCons (tVar 1) tNil) σ H fun vs H1 => spLPut n vs H1 Q E0
theorem ok_lput {n : Nat} {f : Addr} {fd : FuncData} (F : Fun K "_law_put" "_law_put" sPutL f fd) (b2 : Binds K fd ["_law_tree_here", "_law_pairs"] []) (mF : mg "_law_put" = some (.ref f)) (G : FnOk P w K mg base CX0 n f fd ["_law_tree_here", "_law_pairs"] (spLPut n))
    (mIsi : mg "isinstance" = none) (mInt : mg "int" = none) (mTuple : mg "tuple" = none) (mDict : mg "dict" = none) : FnOk P w K mg base CX0 (n + 1) f fd ["_law_tree_here", "_law_pairs"] (spLPut (n + 1)) := by
  refine F.ok scXch (fun vs H Q E h => ?_) (fun cdv A outer s H vs Q E hr h => ?_)
  · obtain ⟨v, t, a, bd, rfl, _⟩ := h
    rfl
  obtain ⟨v, t, ab, bd, rfl, T, hd, B, q⟩ := h
  have hu := hu_of hr
  refine ⟨_, pss_cons (ps_if (pt_val (pe_callB call_isi (by rfl) mIsi (by decide +kernel) (pa_cons (pv 0) (pa_cons (pe_bltn (v := .ty "int") (by rfl) mInt (by decide +kernel) rfl) pa_nil))))
      (pss_one (ps_ret (pe_dget2 hu (pe_callTy (cr_dictT rfl) (by rfl) mDict (by decide +kernel) (pa_cons (pv 1) pa_nil)) (pv 0) (pv 0) ⟨rfl, rfl, rfl, rfl⟩))) pss_nil)
    (pss_one (ps_ret (pe_op op_catT (pe_slice sl_tupA (pv 0) po_none (po_some pe_int)) (pe_callTy call_tuple_of (by rfl) mTuple (by decide +kernel) (pa_cons
      (pe_lc (own := [("_law_part", 2)]) (g := gName 2) (tt := tYes) (te := teXch n) rfl scXch.nd (pi_tup (pe_slice sl_tup (pv 0) (po_some pe_int) po_none)) (blkOk_by (N := NXch) (sc := defScope sPutL) (by decide +kernel))
        (fun _ _ _ _ _ => pg_name (i := 2) scXch.nd rfl (Or.inl rfl)) (fun _ _ _ _ _ => pts_nil) (fun _ _ _ _ _ => pe_call G hr (by rfl) mF F.kp b2 .nil pass0 (pa_cons (pv 2) (pa_cons (pv 1) pa_nil)))) pa_nil))))), ?_⟩
  have big : (2000 : Nat) ≤ sizeLine := by decide
  rcases T.ty (K := K) with ⟨m, rfl, rfl⟩ | ⟨a, xs, rfl, ha, ty, no⟩
  · refine ⟨_, rfl, _, _, _, _, true, rfl, .ty "int", .base (.int m), kit_ii, true, rfl, iteT ?_⟩
    obtain ⟨ps, hp, pr, nd, bz⟩ := B
    obtain ⟨kvs, h1, h2⟩ := pairs_of (K := K) pr
    refine ⟨_, rfl, ab, ps, kvs, rfl, hp, h1, fun D hD => ?_⟩
    have s1 := same_new hD (.dK (mergeK [] kvs))
    have DB := (dict_of h2 nd).mono (Tups.same s1).1
    have hD1 : (upd H D (.dK (mergeK [] kvs))) D = some (.dK (mergeK [] kvs)) := upd_same
    refine ⟨D, rfl, .inl ⟨_, .inl hD1⟩, _, rfl, _, rfl, ?_⟩
    rcases DB m with ⟨v, t, e1, e2, T'⟩ | ⟨e1, e2⟩
    · refine ⟨some v, .inl ⟨_, Sum.inl m, .inl hD1, rfl, e1.symm⟩, q v _ ?_ s1⟩
      show TmAt _ v ((bd.lookup m).getD (.v m))
      rw [e2]
      exact T'
    · refine ⟨none, .inl ⟨_, Sum.inl m, .inl hD1, rfl, e1.symm⟩, q _ _ ?_ s1⟩
      show TmAt _ (.int m) ((bd.lookup m).getD (.v m))
      rw [e2]
      exact .v m
  · obtain ⟨a', ks, e, ha', hk, hks⟩ := T.tupled no
    cases e
    have k2 := kids_two t
    refine ⟨_, rfl, _, _, _, _, false, rfl, .ty "int", ty, kit_ti, false, rfl, iteF ?_⟩
    refine ⟨_, rfl, 1, rfl, a, _, rfl, .inl (.inl ha'), fun wh => ?_, fun _ a1 h1 => ?_⟩
    · have w2 := wh.2
      have e0 := HT.sIx_nat (V.str (signHead t) :: ks).length (V.str (signHead t) :: ks).length 1
      have kn : ks = [] := by
        rw [show ((1 : Nat) : Int) = 1 from rfl] at e0
        rw [e0, List.length_cons] at w2
        exact List.length_eq_zero_iff.mp (by omega)
      obtain ⟨a1, ea⟩ : ∃ a1, a1 = a := ⟨_, rfl⟩
      obtain ⟨H1, eH⟩ : ∃ H1, H1 = H := ⟨_, rfl⟩
      have ha1 : H1 a1 = some (.tup [V.str (signHead t)]) := by rw [ea, eH, ha', kn]
      have s1 : Same H H1 := by rw [eH]; exact fun _ _ z => z
      rw [← eH]
      show _

      refine ⟨_, rfl, 1, rfl, a, _, rfl, .inl (.inl (s1 _ _ ha')), cut_part _ _, fun g hg => ?_⟩
      rw [cut_tail]
      have s2 := same_new hg (.tup ks)
      have hgg : (upd H1 g (.tup ks)) g = some (.tup ks) := upd_same
      refine ⟨g, rfl, ⟨_, .inl (.inl hgg)⟩, fun D hD => lc_tup (K := K) (a := g) (xs := ks) (fun i H3 => ∃ ys : List V, H3 D = some (.lst ys) ∧ AllAt H3 ys ((t.kids.take i).map (Tm.put bd)) ∧ ys.length = i ∧ Same (upd H1 g (.tup ks)) H3)
        ⟨[], upd_same, trivial, rfl, same_new hD _⟩ (fun i H3 _ ⟨_, _, _, _, s⟩ => .inl (.inl (s _ _ hgg))) ?_ ?_⟩
      · rintro i x H3 hi ⟨ys, h3, A3, yl, s3⟩
        have hil : i < t.kids.length := by rw [← hk]; exact (List.getElem?_eq_some_iff.mp hi).1
        have hki : t.kids[i]? = some t.kids[i] := List.getElem?_eq_getElem hil
        have mem : t.kids[i] ∈ t.kids := List.getElem_mem hil
        have sH : Same H H3 := (s1.trans s2).trans s3
        refine ⟨rfl, ?_⟩
        unfold teXch
        refine ⟨_, rfl, _, rfl, x, t.kids[i], ab, bd, rfl, (hks i x _ hi hki).same sH, by have := kid_deep mem; omega, B.mono (Tups.same sH), fun v' H4 T4 s4 => ?_⟩
        have h4 := s4 _ _ h3
        have u6 : Tups H4 (upd H4 D (.lst (ys ++ [v']))) := Tups.but (but_upd _) h4
        have tk : t.kids.take (i + 1) = t.kids.take i ++ [t.kids[i]] := by rw [List.take_add_one, hki]; rfl
        refine ⟨ys, h4, by omega, ys ++ [v'], upd_same, ?_, by rw [List.length_append, yl]; rfl, fun c o z => by rw [upd_ne (ne_of_none z hD)]; exact s4 _ _ (s3 _ _ z)⟩
        rw [tk, List.map_append]
        exact ((A3.mono (Tups.same s4).1).mono u6.1).append ⟨T4.mono u6.1, trivial⟩
      · rintro H3 ⟨ys, h3, A3, yl, s3⟩
        rw [hk, List.take_length] at A3
        refine ⟨D, ys, rfl, .inl ⟨.inl (.inl h3), fun l hl => ?_⟩⟩
        have s4 := same_new hl (.tup ys)
        have sH1 : Same H1 (upd H3 l (.tup ys)) := (s2.trans s3).trans s4
        have A4 := A3.mono (Tups.same s4).1
        refine ⟨a, l, _, _, rfl, rfl, .inl (.inl (sH1 _ _ (ea ▸ ha1))), .inl (.inl upd_same), by simp, by rw [List.length_singleton, yl]; omega, fun e => ?_, fun e p hp => ?_⟩
        · refine q _ _ ?_ (s1.trans sH1)
          subst e
          cases t with
          | v n => exact absurd rfl (no n)
          | z => exact .z (sH1 _ _ (ea ▸ ha1))
          | s t => exact A4.elim
          | f l r => exact A4.elim
        · have s5 := same_new hp (.tup ([V.str (signHead t)] ++ ys))
          have A5 := A4.mono (Tups.same s5).1
          refine q _ _ ?_ ((s1.trans sH1).trans s5)
          have here : (upd (upd H3 l (.tup ys)) p (.tup ([V.str (signHead t)] ++ ys))) p = some (.tup ([V.str (signHead t)] ++ ys)) := upd_same
          cases t with
          | v n => exact absurd rfl (no n)
          | z =>
            match ys, A5, e with
            | [], _, e => exact absurd rfl e
          | s t =>
            match ys, A5, here with
            | [y], A5, here => exact .s here A5.1
          | f l' r =>
            match ys, A5, here with
            | [y, z], A5, here => exact .f here A5.1 A5.2.1
    · rw [cut_one] at *
      have s1 := same_new h1 (.tup [V.str (signHead t)])
      have ha1 : (upd H a1 (.tup [V.str (signHead t)])) a1 = some (.tup [V.str (signHead t)]) := upd_same
      generalize upd H a1 (.tup [V.str (signHead t)]) = H1 at s1 ha1

      refine ⟨_, rfl, 1, rfl, a, _, rfl, .inl (.inl (s1 _ _ ha')), cut_part _ _, fun g hg => ?_⟩
      rw [cut_tail]
      have s2 := same_new hg (.tup ks)
      have hgg : (upd H1 g (.tup ks)) g = some (.tup ks) := upd_same
      refine ⟨g, rfl, ⟨_, .inl (.inl hgg)⟩, fun D hD => lc_tup (K := K) (a := g) (xs := ks) (fun i H3 => ∃ ys : List V, H3 D = some (.lst ys) ∧ AllAt H3 ys ((t.kids.take i).map (Tm.put bd)) ∧ ys.length = i ∧ Same (upd H1 g (.tup ks)) H3)
        ⟨[], upd_same, trivial, rfl, same_new hD _⟩ (fun i H3 _ ⟨_, _, _, _, s⟩ => .inl (.inl (s _ _ hgg))) ?_ ?_⟩
      · rintro i x H3 hi ⟨ys, h3, A3, yl, s3⟩
        have hil : i < t.kids.length := by rw [← hk]; exact (List.getElem?_eq_some_iff.mp hi).1
        have hki : t.kids[i]? = some t.kids[i] := List.getElem?_eq_getElem hil
        have mem : t.kids[i] ∈ t.kids := List.getElem_mem hil
        have sH : Same H H3 := (s1.trans s2).trans s3
        refine ⟨rfl, ?_⟩
        unfold teXch
        refine ⟨_, rfl, _, rfl, x, t.kids[i], ab, bd, rfl, (hks i x _ hi hki).same sH, by have := kid_deep mem; omega, B.mono (Tups.same sH), fun v' H4 T4 s4 => ?_⟩
        have h4 := s4 _ _ h3
        have u6 : Tups H4 (upd H4 D (.lst (ys ++ [v']))) := Tups.but (but_upd _) h4
        have tk : t.kids.take (i + 1) = t.kids.take i ++ [t.kids[i]] := by rw [List.take_add_one, hki]; rfl
        refine ⟨ys, h4, by omega, ys ++ [v'], upd_same, ?_, by rw [List.length_append, yl]; rfl, fun c o z => by rw [upd_ne (ne_of_none z hD)]; exact s4 _ _ (s3 _ _ z)⟩
        rw [tk, List.map_append]
        exact ((A3.mono (Tups.same s4).1).mono u6.1).append ⟨T4.mono u6.1, trivial⟩
      · rintro H3 ⟨ys, h3, A3, yl, s3⟩
        rw [hk, List.take_length] at A3
        refine ⟨D, ys, rfl, .inl ⟨.inl (.inl h3), fun l hl => ?_⟩⟩
        have s4 := same_new hl (.tup ys)
        have sH1 : Same H1 (upd H3 l (.tup ys)) := (s2.trans s3).trans s4
        have A4 := A3.mono (Tups.same s4).1
        refine ⟨a1, l, _, _, rfl, rfl, .inl (.inl (sH1 _ _ ha1)), .inl (.inl upd_same), by simp, by rw [List.length_singleton, yl]; omega, fun e => ?_, fun e p hp => ?_⟩
        · refine q _ _ ?_ (s1.trans sH1)
          subst e
          cases t with
          | v n => exact absurd rfl (no n)
          | z => exact .z (sH1 _ _ ha1)
          | s t => exact A4.elim
          | f l r => exact A4.elim
        · have s5 := same_new hp (.tup ([V.str (signHead t)] ++ ys))
          have A5 := A4.mono (Tups.same s5).1
          refine q _ _ ?_ ((s1.trans sH1).trans s5)
          have here : (upd (upd H3 l (.tup ys)) p (.tup ([V.str (signHead t)] ++ ys))) p = some (.tup ([V.str (signHead t)] ++ ys)) := upd_same
          cases t with
          | v n => exact absurd rfl (no n)
          | z =>
            match ys, A5, e with
            | [], _, e => exact absurd rfl e
          | s t =>
            match ys, A5, here with
            | [y], A5, here => exact .s here A5.1
          | f l' r =>
            match ys, A5, here with
            | [y, z], A5, here => exact .f here A5.1 A5.2.1
theorem lput_ok {f : Addr} {fd : FuncData} (F : Fun K "_law_put" "_law_put" sPutL f fd) (b2 : Binds K fd ["_law_tree_here", "_law_pairs"] []) (mF : mg "_law_put" = some (.ref f)) (mIsi : mg "isinstance" = none) (mInt : mg "int" = none) (mTuple : mg "tuple" = none) (mDict : mg "dict" = none) :
    ∀ n : Nat, FnOk P w K mg base CX0 n f fd ["_law_tree_here", "_law_pairs"] (spLPut n)
  | 0 => none_left fun vs H Q E h => by
    obtain ⟨v, t, _, _, _, _, h1, _⟩ := h
    omega
  | n + 1 => ok_lput F b2 mF (lput_ok F b2 mF mIsi mInt mTuple mDict n) mIsi mInt mTuple mDict
end
end Rp

set_option maxHeartbeats 8000000
namespace Rp
open PySem PySem.Spec PyProof.Rows L2 TL
theorem txt_hi : ∀ (t : Tm), t.small → ∀ d ∈ tl t.txt, d ≤ 120
  | .v n, h, d, hd => by
    have hd : d ∈ tl (("x" : Str) ++ Str.ofString (toString n)) := hd
    rw [tl_append, t_x, tl_int (h n (by simp [Tm.nums])).1] at hd
    rcases List.mem_append.mp hd with hd | hd
    · simp at hd; omega
    · have := numL_small _ d hd; omega
  | .z, h, d, hd => by
    have hd : d ∈ tl ("0" : Str) := hd
    rw [t_0] at hd; simp at hd; omega
  | .s t, h, d, hd => by
    have hd : d ∈ tl (("s" : Str) ++ "(" ++ Txt.join "," [t.txt] ++ ")") := hd
    rw [join1, tl_append, tl_append, tl_append, t_s, t_open, t_close] at hd
    simp only [List.mem_append, List.mem_singleton] at hd
    rcases hd with ((hd | hd) | hd) | hd
    · omega
    · omega
    · exact txt_hi t h d hd
    · omega
  | .f l r, h, d, hd => by
    have hd : d ∈ tl (("f" : Str) ++ "(" ++ Txt.join "," [l.txt, r.txt] ++ ")") := hd
    rw [join2, tl_append, tl_append, tl_append, tl_append, tl_append, t_f, t_open, t_close, t_comma] at hd
    simp only [List.mem_append, List.mem_singleton] at hd
    rcases hd with ((hd | hd) | (hd | hd) | hd) | hd
    · omega
    · omega
    · exact txt_hi l (fun n hn => h n (by simp [Tm.nums, hn])) d hd
    · omega
    · exact txt_hi r (fun n hn => h n (by simp [Tm.nums, hn])) d hd
    · omega
theorem lay_str {x : Str} (h : ∀ d ∈ tl x, d ≤ 120) : PyData.canLay0 (.str x) = true := by
  show (x.cps.all (· < 0x110000)) = true
  rw [Array.all_eq_true_iff_forall_mem]
  intro d hd
  have := h d (Array.mem_toList_iff.mpr hd)
  simp
  omega
theorem row_hi {p : Int × Tm} (h : 0 ≤ p.1) (h' : p.2.small) : ∀ d ∈ tl (row p), d ≤ 120 := by
  intro d hd
  unfold row at hd
  rw [tl_append, tl_append, t_eq, xn_signs h] at hd
  rcases List.mem_append.mp hd with hd | hd
  · rcases List.mem_append.mp hd with hd | hd
    · rcases List.mem_cons.mp hd with hd | hd
      · omega
      · have := numL_small _ d hd; omega
    · simp at hd; omega
  · exact txt_hi _ h' d hd
def rAddS : R2 := fun x y H Q => ∃ i j, x = .str i ∧ y = .str j ∧ i.length + j.length ≤ sizeLine ∧ Q (.str (i ++ j)) H
def rStrI : List V → Hp → VK → Prop := fun xs H Q => ∃ i : Int, xs = [.int i] ∧ i.natAbs.log2 < 1920 ∧ Q (.str (toString i)) H
theorem op_addS {X : Cx} : OpR X (binaryOp .Add) rAddS := op_add_str
theorem cr_strI {X : Cx} : CallR X (.type "str") rStrI := call_str_int
theorem dp_strs {K : PySem.W.Frag} {H : Hp} : ∀ l : List Str, DpAll K H (l.map V.str) (l.map PyData.str)
  | [] => .nil
  | x :: l => .cons (.str x) (dp_strs l)
theorem strs_lay : ∀ {l : List Str}, (∀ x ∈ l, PyData.canLay0 (.str x) = true) → PyData.canLayAll0 (l.map PyData.str) = true
  | [], _ => rfl
  | x :: l, h => by simp only [List.map_cons, PyData.canLayAll0, Bool.and_eq_true]; exact ⟨h x (by simp), strs_lay fun y hy => h y (by simp [hy])⟩
theorem strs_depth : ∀ l : List Str, PyData.depthAll (l.map PyData.str) = 0
  | [] => rfl
  | x :: l => by simp only [List.map_cons, PyData.depthAll, PyData.depth, strs_depth l]; rfl
theorem strs_shaped {l : List Str} (h : ∀ x ∈ l, PyData.canLay0 (.str x) = true) : SeqAt.shaped (.list (l.map PyData.str)) = true := by
  refine shaped_of ?_ ?_
  · show PyData.canLayAll0 _ = true
    exact strs_lay h
  · show PyData.depthAll _ + 1 ≤ 64
    rw [strs_depth]
    decide
theorem eqv_lnil {ds : List PyData} : PyData.eqv (.list ds) (.list []) = ds.isEmpty := by
  cases ds <;> simp [PyData.eqv, PyData.eqvAll]
section
variable {P : Program} {w : World} {K : PySem.W.Frag} {mg : Str → Option Value} {base : Heap}
theorem scLBT : FnScope ["_law_pairs", "_law_words", "_law_variable", "_law_tree_here"] ["_law_pairs"] (defScope sLawBT) := ⟨rfl, rfl, rfl, by decide +kernel, rfl, by decide +kernel, by decide +kernel⟩
def teWord : TE := tOp rAddS (tOp rAddS (tOp rAddS (tC (.str "x")) (tCB rStrI (tCons (tVar 2) tNil))) (tC (.str "="))) (tCall (spLText 64) [] E0 (tCons (tVar 3) tNil))
theorem ok_lbt {f fT : Addr} {fd dT : FuncData} (F : Fun K "_law_binding_text" "_law_binding_text" sLawBT f fd)
    (GT : FnOk P w K mg base CX0 64 fT dT ["_law_tree_here"] (spLText 64)) (kT : PySem.W.keepIn K (.ref fT) = true) (bT : Binds K dT ["_law_tree_here"] []) (mT : mg "_law_text" = some (.ref fT)) (mStr : mg "str" = none) : FnOk P w K mg base CX0 65 f fd ["_law_pairs"] spBText := by
  refine F.ok scLBT (fun vs H Q E h => ?_) (fun cdv A outer s H vs Q E hr h => ?_)
  · obtain ⟨v, ps, rfl, _⟩ := h
    rfl
  obtain ⟨v, ps, rfl, ⟨a, xs, rfl, ha, Pa⟩, ok, q⟩ := h
  refine ⟨_, pss_cons (ps_setLc (i := 1) (own := [("_law_variable", 2), ("_law_tree_here", 3)]) (g := gTup K 2 (gCons (gName 2) (gCons (gName 3) gNil))) (tt := tYes) (te := teWord) rfl scLBT.nd rfl rfl (by rfl)
        (pi_tup (pv 0)) (blkOk_by (N := ["_law_pairs", "_law_words", "_law_variable", "_law_tree_here"]) (sc := defScope sLawBT) (by decide +kernel))
        (fun _ _ _ _ _ => pg_tup (by rfl) (pgs_cons (pg_name (i := 2) scLBT.nd rfl (Or.inl rfl)) (pgs_cons (pg_name (i := 3) scLBT.nd rfl (Or.inl rfl)) pgs_nil)))
        (fun _ _ _ _ _ => pts_nil) (fun _ _ _ _ _ => pe_op op_addS (pe_op op_addS (pe_op op_addS pe_str (pe_callTy cr_strI (by rfl) mStr (by decide +kernel) (pa_cons (pv 2) pa_nil))) pe_str) (pe_call GT hr (by rfl) mT kT bT .nil pass0 (pa_cons (pv 3) pa_nil))))
    (pss_one (ps_ret (pe_ifExp (pt_cmpR (op_neD hr.units) (pv 1) (pe_lst pa_nil) (nomark _)) (pe_bm PySem.F.plainAttrs_str PySem.F.slot_str_join PySem.F.type_str_join mt_join pe_str (pa_cons (pv 1) pa_nil)) pe_str))), ?_⟩
  have big : (10000 : Nat) ≤ sizeLine := by decide
  have len := Pa.len
  have few := ok.few
  refine ⟨_, rfl, a, rfl, ⟨_, .inl ha⟩, fun D hD => lc_tup (K := K) (a := a) (xs := xs) (fun i H2 => H2 D = some (.lst (((ps.take i).map row).map V.str)) ∧ Same H H2) ⟨upd_same, same_new hD _⟩ (fun i H2 _ h => .inl (ha.same h.2)) ?_ ?_⟩
  · rintro i x H2 hi ⟨h2, s2⟩
    obtain ⟨p, hp, b, y, rfl, hb, T⟩ := Pa.get hi
    have pm : p ∈ ps := List.mem_of_getElem? hp
    have np := ok.num p pm
    have sp_ := ok.sm p pm
    have zp := ok.sz p pm
    have nl := num_len np
    have tl1 := txt_len _ sp_
    have dl := Tm.deep_lt p.2
    have lx : ("x" : Str).length = 1 := by decide +kernel
    have le : ("=" : Str).length = 1 := by decide +kernel
    have li : i < ps.length := (List.getElem?_eq_some_iff.mp hp).1
    refine ⟨b, _, rfl, .inl (.inl (s2 _ _ hb)), rfl, _, _, rfl, _, _, rfl, rfl, rfl, ?_⟩
    unfold teWord
    refine ⟨_, rfl, p.1, rfl, ?_, "x", _, rfl, rfl, ?_, xn p.1, "=", rfl, rfl, ?_, ?_⟩
    · have := Nat.log2_le_self p.1.natAbs; omega
    · show _ + (Str.ofString (toString p.1)).length ≤ _; omega
    · show (("x" : Str) ++ Str.ofString (toString p.1)).length + _ ≤ _; rw [slen]; omega
    refine ⟨_, rfl, y, p.2, rfl, T.same s2, sp_, by omega, by omega, fun H3 s3 => ⟨xn p.1 ++ "=", p.2.txt, rfl, rfl, ?_, _, s3 _ _ h2, ?_, ?_, ?_⟩⟩
    · show ((("x" : Str) ++ Str.ofString (toString p.1)) ++ "=").length + _ ≤ _; rw [slen, slen]; omega
    · rw [List.length_map, List.length_map, List.length_take]; omega
    · have tk : ps.take (i + 1) = ps.take i ++ [p] := by rw [List.take_add_one, hp]; rfl
      rw [upd_same, tk, List.map_append, List.map_append]
      rfl
    · intro c o z
      rw [upd_ne (ne_of_none z hD)]
      exact s3 _ _ (s2 _ _ z)
  · rintro H2 ⟨h2, s2⟩
    rw [len, List.take_of_length_le (Nat.le_refl _)] at h2
    have rl := rows_len (ps := ps) fun p hp => row_len (ok.num p hp) (ok.sm p hp) (by have := ok.sz p hp; omega)
    have l1 : (" " : Str).length = 1 := by decide +kernel
    have lay : ∀ x ∈ ps.map row, PyData.canLay0 (.str x) = true := fun x hx => by
      obtain ⟨p, hp, rfl⟩ := List.mem_map.mp hx
      exact lay_str (row_hi (ok.num p hp).1 (ok.sm p hp))
    refine ⟨_, rfl, (by show 0 ≤ sizeLine; decide), fun e he => ?_⟩
    have s3 := same_new he (.lst ([] : List V))
    refine ⟨.list ((ps.map row).map PyData.str), .list [], .lst (.inl (.inl (s3 _ _ h2))) (dp_strs _), .lst (.inl (.inl upd_same)) .nil, strs_shaped lay, by decide +kernel, !ps.isEmpty, ?_, ?_⟩
    · rw [eqv_lnil]; cases ps <;> rfl
    · have qq := q _ (s2.trans s3)
      unfold btxt at qq
      cases hps : ps with
      | nil =>
        rw [hps, if_pos rfl] at qq
        exact iteF qq
      | cons p r =>
        have ne : ps ≠ [] := by rw [hps]; simp
        rw [if_neg ne] at qq
        refine iteT ⟨rfl, _, rfl, " ", D, ps.map row, rfl, rfl, .inl (.inl (.inl (s3 _ _ h2))), ?_, qq⟩
        rw [l1, List.length_map]; omega
end
end Rp

/-! sorted(xs, key=f), f a def with a promise that gives texts and leaves the heap as it is. -/
namespace Rp
open PySem PySem.Spec PySem.W PyProof.Rows L2 TL
/-- by the texts beside -/
def leS : V × Str → V × Str → Bool := dataLe false fun p => PyData.str p.2
def rSortK (K : PySem.W.Frag) (f : Addr) (sp : Sp) : List V → List V → Hp → VK → Prop := fun vs zs H Q => ∃ (a : Addr) (ps : List (V × Str)), vs = [.ref a] ∧ zs = [.ref f] ∧ SqL K H a (ps.map (·.1)) ∧
  (∀ p ∈ ps, ∀ (H1 : Hp) (Q1 : VK), Same H H1 → (∀ H2, Same H1 H2 → Q1 (.str p.2) H2) → sp [p.1] H1 Q1 fun _ _ _ => False) ∧
  ∀ (l : Addr) (H1 : Hp), Same H H1 → H l = none → H1 l = some (.lst ((ps.mergeSort leS).map (·.1))) → Q (.ref l) H1
section
variable {X : Cx} {pins : List (Addr × Obj)} {σ : L2.St} {H : Hp} {s : Shared}
/-- a list of ours that stood untracked is tracked -/
theorem track {a : Addr} {o : HO} (I : Inv X pins σ H s) (F : FpOk X pins H a) (new : ObjOk X.prog X.w (upd H a o) s.heap a o) : Inv X pins σ (upd H a o) s := by
  obtain ⟨hn, h1, h2, h3, h4, h5⟩ := F
  have u : Un (frs X.stack) [a] H (upd H a o) s.heap s.heap :=
    { keep := fun b ob e n nf nx => e
      slot := fun b ob e n nf nx => ⟨ob.slots, e⟩
      free := fun b ob e n nx => by rw [upd_ne (by simpa using nx)]; exact n
      there := fun b ob e nx => ⟨ob, e⟩
      tups := fun b xs e => by rw [upd_ne (ne_of_none e hn)]; exact e
      frzs := fun b ob v e => by rw [upd_ne (ne_of_none e hn)]; exact e
      tbls := fun b ps e => ⟨#[], by rw [upd_ne (ne_of_none e hn), e]; simp⟩ }
  exact I.call (ch := [a]) (g' := s.gens) (d' := s.drawn) (t' := s.toks) u (I.hok.laidN (fun _ _ e => e) hn new) I.bare fun b hb => by
    obtain rfl : b = a := by simpa using hb
    exact ⟨h3, h1, h4, h5⟩
theorem each_vals {xs : List V} {us : List Value} (r : EachIs (fun u (x : V) => RelV x u) us xs) : Vals xs us := by
  induction r with
  | nil => exact .nil
  | cons h _ ih => exact .cons h ih
theorem vals_each {ps : List (V × Str)} : ∀ {us : List Value}, Vals (ps.map (·.1)) us → EachIs (fun u (p : V × Str) => RelV p.1 u) us ps := by
  induction ps with
  | nil => intro us r; cases r; exact .nil
  | cons p ps ih => intro us r; cases r with | cons h t => exact .cons h (ih t)
theorem each_fst {us : List Value} {ps : List (V × Str)} (r : EachIs (fun u (p : V × Str) => RelV p.1 u) us ps) : Vals (ps.map (·.1)) us := by
  induction r with
  | nil => exact .nil
  | cons h _ ih => exact .cons h ih
theorem same_trans {H H1 H2 : Hp} (a : ∀ b o, H b = some o → H1 b = some o) (c : ∀ b o, H1 b = some o → H2 b = some o) : ∀ b o, H b = some o → H2 b = some o := fun b o h => c b o (a b o h)
theorem cr_sortK {k : Nat} {f : Addr} {sp : Sp} (F : FnR X.prog X.w X.K X.mg X.base CX0 k f sp) (hr : Room (k + 2) X.A) : CallRK X (.builtin "sorted") [Str.ofString "key"] (rSortK X.K f sp) := by
  intro pins s σ H vs zs us ws Q I r rz h
  obtain ⟨a0, ps, rfl, rfl, hs, turn, q⟩ := h
  obtain rfl := Vals.ref1 r
  obtain rfl := Vals.ref1 rz
  obtain ⟨its, rv, hl, hz⟩ := I.list hs
  have len : its.length = ps.length := by rw [← rv.length, List.length_map]
  have hZ : its.length ≤ sizeLine := by rw [← rv.length]; exact hz
  have hr2 : Room k X.A.in1.in1 := (Room.in1 (Room.in1 hr) : Room k X.A.in1.in1)
  refine sorted_of_sort hl.isList hZ (ksk_s1 _ _) (fun x => ksk_l1 _ _) fun E' => ?_
  show wpAny (model X.prog X.w) X.A.in1.in1 (ksk_tree (s.heap.objs.size + 1) (.ref f) false) _ E' { s with heap := copyHeap s.heap its }
  have ho := copyHeap_at s.heap its
  have hsz : (copyHeap s.heap its).objs.size = s.heap.objs.size + 2 := by
    unfold copyHeap
    rw [size_push', Heap.size_update, size_push']
  have old : ∀ b o, s.heap.get? b = some o → (copyHeap s.heap its).get? b = some o := fun b o e => copyHeap_old e
  generalize hA : s.heap.objs.size + 1 = a at ho ⊢
  have al : s.heap.objs.size ≤ a := by omega
  generalize copyHeap s.heap its = h1 at ho hsz old ⊢
  obtain ⟨e1, ho1⟩ : ∃ e1, (h1.update a (Obj.mapSeq fun _ => (#[] : Array Value))).get? a = some (seqObj "list" #[] e1) := ⟨_, get?_update_seq ho fun _ => #[]⟩
  unfold ksk_tree
  refine wpAny_bind (listItems_at ho rfl ?_)
  refine wpAny_bind (listUpdate_at ho rfl ?_ (by rw [List.size_toArray]; exact hZ) (Nat.zero_le _))
  refine wpAny_bind (seqEpoch_at ho1 rfl ?_)
  refine wpAny_bind (wpAny_newTuple ?_ (by show its.length ≤ _; exact hZ))
  refine wpAny_bind (wpAny_newList ?_ (Nat.zero_le _))
  refine wpAny_holding ?_
  have sb := Heap.SameBut.update h1 a (Obj.mapSeq fun _ => (#[] : Array Value))
  have sz2 : (h1.update a (Obj.mapSeq fun _ => (#[] : Array Value))).objs.size = s.heap.objs.size + 2 := by rw [Heap.size_update]; exact hsz
  have old2 : ∀ b o, s.heap.get? b = some o → (h1.update a (Obj.mapSeq fun _ => (#[] : Array Value))).get? b = some o := fun b o e => (sb.2 b (Nat.ne_of_lt (Nat.lt_of_lt_of_le (Heap.lt_size e) al))).trans (old b o e)
  generalize h1.update a (Obj.mapSeq fun _ => (#[] : Array Value)) = h2 at ho1 sz2 old2 ⊢
  have sz3 : (h2.push (seqObj "tuple" its.toArray 0)).objs.size = s.heap.objs.size + 3 := by rw [size_push', sz2]
  have ho3 : ((h2.push (seqObj "tuple" its.toArray 0)).push (seqObj "list" #[] 0)).get? a = some (seqObj "list" #[] e1) := Heap.get?_push_of_some _ (Heap.get?_push_of_some _ ho1)
  have hk3 : ((h2.push (seqObj "tuple" its.toArray 0)).push (seqObj "list" #[] 0)).get? (h2.push (seqObj "tuple" its.toArray 0)).objs.size = some (seqObj "list" #[] 0) := Heap.get?_push_size _ rfl
  have old3 : ∀ b o, s.heap.get? b = some o → ((h2.push (seqObj "tuple" its.toArray 0)).push (seqObj "list" #[] 0)).get? b = some o := fun b o e => Heap.get?_push_of_some _ (Heap.get?_push_of_some _ (old2 b o e))
  have I3 : Inv X pins σ H { s with heap := ((h2.push (seqObj "tuple" its.toArray 0)).push (seqObj "list" #[] 0)) } := I.kept (t' := s.toks) old3
  show wpAny (model X.prog X.w) X.A.in1.in1 (ksk_rest a (.ref f) false its.toArray e1 (.ref (h2.push (seqObj "tuple" its.toArray 0)).objs.size)) _ E' { s with heap := ((h2.push (seqObj "tuple" its.toArray 0)).push (seqObj "list" #[] 0)) }
  generalize hkS : (h2.push (seqObj "tuple" its.toArray 0)).objs.size = kS at hk3 ⊢
  have kl : s.heap.objs.size ≤ kS := by omega
  have ka : kS ≠ a := by omega
  have Ha : H a = none := I.hok.fresh al
  have Hk : H kS = none := I.hok.fresh kl
  generalize ((h2.push (seqObj "tuple" its.toArray 0)).push (seqObj "list" #[] 0)) = h3 at ho3 hk3 I3 ⊢
  have nofr : ∀ b, s.heap.objs.size ≤ b → b ∉ frs X.stack := fun b hb z => by
    rcases List.mem_cons.mp (I.stkSub b z) with e | e
    · exact absurd (e ▸ hb : s.heap.objs.size ≤ X.env.locals) (Nat.not_le.mpr I.lt)
    · exact I.nofs hb e
  unfold ksk_rest
  refine wpAny_bind (wpAny_rule ?_)
  rw [List.forIn_toArray]
  refine wpAny_bind (ksk_fold (fun i s' => ∃ (H' : Hp) (kA : Array Value) (e : Nat), Inv X pins σ H' s' ∧ Same H H' ∧ H' a = none ∧ H' kS = none ∧ s'.heap.get? kS = some (seqObj "list" kA e) ∧ s'.heap.get? a = some (seqObj "list" #[] e1) ∧ EachIs (fun u (p : V × Str) => RelV (.str p.2) u) kA.toList (ps.take i)) its 0 _
    ⟨H, #[], 0, I3, Same.refl H, Ha, Hk, hk3, ho3, by rw [List.take_zero]; exact .nil⟩ ?step ?done)
  case step =>
    rintro j x s' hx ⟨H', kA, e, I', sm, na, nk, gk, ga, ek⟩
    simp only [Nat.zero_add] at ek ⊢
    have hj : j < its.length := (List.getElem?_eq_some_iff.mp hx).1
    obtain ⟨p, hp⟩ : ∃ p, ps[j]? = some p := ⟨_, List.getElem?_eq_getElem (by omega)⟩
    have rx : RelV p.1 x := by
      obtain ⟨u, hu, ru⟩ := rv.get (i := j) (x := p.1) (by rw [List.getElem?_map, hp]; rfl)
      rw [hx] at hu
      cases hu
      exact ru
    have tk : ps.take (j + 1) = ps.take j ++ [p] := by rw [List.take_add_one, hp]; rfl
    have kz : kA.size ≤ its.length := by
      have h1 := ek.length
      rw [Array.length_toList, List.length_take] at h1
      omega
    have e0 := I'.env0
    have e2 : Env0 X.prog X.w X.K X.mg X.base X.A.in1.in1 X.stack s' H' := ⟨e0.frames, e0.mod, e0.bs, e0.bsz, e0.funs, e0.frf, e0.hok, e0.bare⟩
    refine wpAny_bind (wpAny_attempt (wpAny_call (codeAny_mono (F X.A.in1.in1 X.stack s' H' [x] [p.1] (fun v H2 => v = .str p.2 ∧ Same H' H2) _ hr2 e2 (.cons rx .nil) (turn p (List.mem_of_getElem? hp) H' _ sm fun H2 s2 => ⟨rfl, s2⟩)) fun rr s2 hrr => ?_)))
    cases rr with
    | error er => exact False.elim hrr
    | ok fl =>
      cases fl with
      | next => exact False.elim hrr
      | brk => exact False.elim hrr
      | cont => exact False.elim hrr
      | ret v =>
        obtain ⟨v', H2, os, bare, un, hok, rv', ev, sm2⟩ := (show CE X.stack X.prog X.w H' _ _ v s2 from hrr)
        subst ev
        have I2 : Inv X pins σ H2 s2 := I'.call' os un hok bare (fun b y => absurd y List.not_mem_nil)
        have gk2 := un.keep _ _ gk nk (nofr _ kl) List.not_mem_nil
        have ga2 := un.keep _ _ ga na (nofr _ al) List.not_mem_nil
        have nk2 := un.free _ _ gk nk List.not_mem_nil
        have na2 := un.free _ _ ga na List.not_mem_nil
        try dsimp only
        have s1 := Heap.SameBut.update s2.heap kS (Obj.mapSeq (·.push v))
        obtain ⟨c2, hc2⟩ : ∃ c2, (s2.heap.update kS (Obj.mapSeq (·.push v))).get? kS = some (seqObj "list" (kA.push v) c2) := ⟨_, get?_update_seq gk2 (·.push v)⟩
        have ea : (kA.push v).toList = kA.toList ++ [v] := by simp
        refine wpAny_bind (listUpdate_at gk2 rfl ?_ (Nat.le_trans kz hZ) (Nat.le_trans (Nat.le_of_eq (Array.size_push ..)) (Nat.succ_le_succ (Nat.le_trans kz hZ))))
        refine wpAny_pure ⟨rfl, H2, kA.push v, c2, ?_, sm.trans sm2, na2, nk2, hc2, (s1.2 a ka.symm).trans ga2, ?_⟩
        · exact I2.turnedL (t' := s2.toks) (ch := [kS]) (fun b o hb e => (s1.2 b (by simpa using hb)).trans e) fun b hb => by
            obtain rfl : b = kS := by simpa using hb
            exact I.fpOk kl nk2
        · rw [ea, tk]
          exact each_snoc (R := fun u (p : V × Str) => RelV (.str p.2) u) rv' ek
  case done =>
    rintro s' ⟨H', kA, e, I', sm, na, nk, gk, ga, ek⟩
    have tk : ps.take (0 + its.length) = ps := List.take_of_length_le (by omega)
    rw [tk] at ek
    have kz : kA.size = its.length := by
      have h1 := ek.length
      rw [Array.length_toList] at h1
      omega
    have er : EachIs (fun v d => ∃ as, Reads s'.heap v d as) kA.toList (ps.map fun p => PyData.str p.2) := by
      have all : ∀ {us : List Value} {qs : List (V × Str)}, EachIs (fun u (p : V × Str) => RelV (.str p.2) u) us qs → EachIs (fun v d => ∃ as, Reads s'.heap v d as) us (qs.map fun p => PyData.str p.2) := by
        intro us qs r
        induction r with
        | nil => exact .nil
        | cons h _ ih =>
          obtain ⟨t, rfl⟩ := h
          exact .cons ⟨[], .str _ t⟩ ih
      exact all ek
    have hal : AllAlike (ps.map fun p => PyData.str p.2) := fun d hd d' hd' => by
      obtain ⟨p, _, rfl⟩ := List.mem_map.mp hd
      obtain ⟨p', _, rfl⟩ := List.mem_map.mp hd'
      rfl
    have hsk : Sortable (ps.map fun p => PyData.str p.2) := .inr fun d hd => by
      obtain ⟨p, _, rfl⟩ := List.mem_map.mp hd
      exact ⟨fun z => (by cases z), fun xs z => (by cases z)⟩
    have hu : ∀ d, d ∈ (ps.map fun p => PyData.str p.2) → X.A.in1.in1.units + d.depth < cLine := fun d hd => by
      obtain ⟨p, _, rfl⟩ := List.mem_map.mp hd
      have := hr2.un
      show X.A.in1.in1.units + 0 < cLine
      omega
    refine wpAny_bind (listItems_at gk rfl ?_)
    -- a heap without the keys
    have fr := Heap.SameBut.update s'.heap kS (fun o => { o with data := .freed })
    have hk0 : (s'.heap.update kS (fun o => { o with data := .freed })).get? kS = none := by
      have h1 := ((Heap.get?_eq_some s'.heap kS _).mp gk).1
      unfold Heap.get?
      rw [Heap.objs_update_self, h1]
      rfl
    refine keyH_end (κ := dataKind s'.heap (ps.map fun p => PyData.str p.2)) (h₁ := s'.heap.update kS (fun o => { o with data := .freed })) (vs := its) (fun b o hb e => ?_) hk0 gk ga ka (SortsAt.data er hal hsk hu) kz hZ fun h' tk c kp hD => ?_
    · by_cases hbk : b = kS
      · rw [hbk, hk0] at e; cases e
      · exact (fr.2 b hbk).symm.trans e
    have out := keyedOut_each (rev := false) (k := fun p : V × Str => PyData.str p.2) (R := fun u (p : V × Str) => RelV p.1 u) (bs := ps) ⟨s'.heap, kA.toList, hal, rfl, er⟩ (vals_each rv)
    have ov := each_fst out
    refine ⟨rfl, .ref a, upd H' a (.lst ((ps.mergeSort leS).map (·.1))), ?_, rfl, q a _ (fun b o z => ?_) Ha upd_same⟩
    · have keepAll : ∀ b o, b ∉ [kS, a] → s'.heap.get? b = some o → h'.get? b = some o := fun b o hb e => by
        simp only [List.mem_cons, List.not_mem_nil, or_false, not_or] at hb
        exact kp b o hb.2 ((fr.2 b hb.1).trans e)
      have I4 : Inv X pins σ H' { s' with heap := h', toks := tk } := I'.turnedL (t' := tk) (ch := [kS, a]) keepAll fun b hb => by
        simp only [List.mem_cons, List.not_mem_nil, or_false] at hb
        rcases hb with rfl | rfl
        · exact I.fpOk kl nk
        · exact I.fpOk al na
      refine track I4 (I.fpOk al na) ⟨?_, _, c, ov, hD⟩
      rw [List.length_map, List.length_mergeSort, ← len]
      exact hZ
    · rw [upd_ne (ne_of_none z Ha)]
      exact sm _ _ z
end
end Rp

/-! Trees by their sizes, told without the heap. -/
namespace Rp
open PySem PySem.Spec PyProof.Rows L2 TL
def leT (a b : Tm) : Bool := decide (a.txt.cps.toList ≤ b.txt.cps.toList)
def sortT (l : List Tm) : List Tm := l.mergeSort leT
def rowAt (rows : List (List Tm)) (n : Nat) : List Tm := rows.getD n []
def ofSize (n : Nat) (rows : List (List Tm)) : List Tm := if n = 1 then [.z] else (rowAt rows (n - 1)).map Tm.s ++ (List.range (n - 2)).flatMap fun i => (rowAt rows (i + 1)).flatMap fun l => (rowAt rows (n - 2 - i)).map fun r => Tm.f l r
def rowsL : Nat → List (List Tm)
  | 0 => [[]]
  | n + 1 => rowsL n ++ [sortT (ofSize (n + 1) (rowsL n))]
def treesL (n : Nat) : List Tm := (rowsL n).flatten
theorem rowsL_len : ∀ n, (rowsL n).length = n + 1
  | 0 => rfl
  | n + 1 => by show (rowsL n ++ [_]).length = _; rw [List.length_append, rowsL_len n]; rfl
theorem rowAt_old {rows : List (List Tm)} {r : List Tm} {k : Nat} (h : k < rows.length) : rowAt (rows ++ [r]) k = rowAt rows k := by
  unfold rowAt
  rw [List.getD_eq_getElem?_getD, List.getD_eq_getElem?_getD, List.getElem?_append_left h]
theorem rowAt_new {rows : List (List Tm)} {r : List Tm} : rowAt (rows ++ [r]) rows.length = r := by
  unfold rowAt
  rw [List.getD_eq_getElem?_getD]
  simp
theorem size_pos : ∀ t : Tm, 1 ≤ t.size
  | .v _ => by show 1 ≤ 1; decide
  | .z => by show 1 ≤ 1; decide
  | .s t => by show 1 ≤ t.size + 1; omega
  | .f l r => by show 1 ≤ l.size + r.size + 1; omega
def Full (rows : List (List Tm)) (k : Nat) : Prop := (rowAt rows k).Nodup ∧ ∀ t, t ∈ rowAt rows k ↔ (t.nums = [] ∧ t.size = k)
theorem ofSize_full {n : Nat} {rows : List (List Tm)} (h : ∀ k ≤ n, Full rows k) : (ofSize (n + 1) rows).Nodup ∧ ∀ t, t ∈ ofSize (n + 1) rows ↔ (t.nums = [] ∧ t.size = n + 1) := by
  unfold ofSize
  by_cases e : n + 1 = 1
  · rw [if_pos e]
    refine ⟨by simp, fun t => ?_⟩
    rw [List.mem_singleton, e]
    constructor
    · rintro rfl; exact ⟨rfl, rfl⟩
    · rintro ⟨h1, h2⟩
      cases t with
      | v n => simp [Tm.nums] at h1
      | z => rfl
      | s t => have := size_pos t; simp only [Tm.size] at h2; omega
      | f l r => have := size_pos l; simp only [Tm.size] at h2; omega
  · rw [if_neg e]
    have n1 : 1 ≤ n := by omega
    have e2 : n + 1 - 2 = n - 1 := by omega
    rw [show n + 1 - 1 = n by omega, e2]
    constructor
    · rw [List.nodup_append]
      refine ⟨?_, ?_, ?_⟩
      · exact List.Pairwise.map _ (fun a b (h : a ≠ b) z => h (by injection z)) (h n (Nat.le_refl _)).1
      · unfold List.Nodup
        rw [List.pairwise_flatMap]
        refine ⟨fun i hi => ?_, ?_⟩
        · have hi := List.mem_range.mp hi
          rw [List.pairwise_flatMap]
          refine ⟨fun l hl => List.Pairwise.map _ (fun a b (h : a ≠ b) z => h (by injection z)) (h _ (by omega)).1, ?_⟩
          refine (h (i + 1) (by omega)).1.imp fun {a b} ab x hx y hy z => ?_
          obtain ⟨r, _, rfl⟩ := List.mem_map.mp hx
          obtain ⟨r', _, e'⟩ := List.mem_map.mp hy
          rw [← e'] at z
          injection z with z1 z2
          exact ab z1
        · refine List.nodup_range.imp fun {a b} ab x hx y hy z => ?_
          obtain ⟨l, hl, hx⟩ := List.mem_flatMap.mp hx
          obtain ⟨l', hl', hy⟩ := List.mem_flatMap.mp hy
          obtain ⟨r, hr, rfl⟩ := List.mem_map.mp hx
          obtain ⟨r', hr', e'⟩ := List.mem_map.mp hy
          rw [← e'] at z
          injection z with z1 z2
          subst z1
          by_cases la : a + 1 ≤ n
          · by_cases lb : b + 1 ≤ n
            · have s1 := (((h (a + 1) la).2 l).1 hl).2
              have s2 := (((h (b + 1) lb).2 l).1 hl').2
              omega
            · have : n - 1 - b = 0 := by omega
              rw [this] at hr'
              have := size_pos r'
              have := (((h 0 (by omega)).2 r').1 hr').2
              omega
          · have : n - 1 - a = 0 := by omega
            rw [this] at hr
            have := size_pos r
            have := (((h 0 (by omega)).2 r).1 hr).2
            omega
      · intro x hx y hy z
        obtain ⟨t, _, rfl⟩ := List.mem_map.mp hx
        obtain ⟨i, _, hy⟩ := List.mem_flatMap.mp hy
        obtain ⟨l, _, hy⟩ := List.mem_flatMap.mp hy
        obtain ⟨r, _, e'⟩ := List.mem_map.mp hy
        rw [← e'] at z
        cases z
    · intro t
      rw [List.mem_append]
      constructor
      · rintro (ht | ht)
        · obtain ⟨u, hu, rfl⟩ := List.mem_map.mp ht
          have := ((h n (Nat.le_refl _)).2 u).1 hu
          exact ⟨this.1, by simp only [Tm.size]; omega⟩
        · obtain ⟨i, hi, ht⟩ := List.mem_flatMap.mp ht
          have hi := List.mem_range.mp hi
          obtain ⟨l, hl, ht⟩ := List.mem_flatMap.mp ht
          obtain ⟨r, hr, rfl⟩ := List.mem_map.mp ht
          have h1 := ((h (i + 1) (by omega)).2 l).1 hl
          have h2 := ((h (n - 1 - i) (by omega)).2 r).1 hr
          exact ⟨by simp [Tm.nums, h1.1, h2.1], by simp only [Tm.size]; omega⟩
      · rintro ⟨h1, h2⟩
        cases t with
        | v m => simp [Tm.nums] at h1
        | z => simp only [Tm.size] at h2; omega
        | s u => exact .inl (List.mem_map.mpr ⟨u, ((h n (Nat.le_refl _)).2 u).2 ⟨h1, by simp only [Tm.size] at h2; omega⟩, rfl⟩)
        | f l r =>
          have pl := size_pos l
          have pr := size_pos r
          simp only [Tm.size] at h2
          simp only [Tm.nums, List.append_eq_nil_iff] at h1
          refine .inr (List.mem_flatMap.mpr ⟨l.size - 1, List.mem_range.mpr (by omega), List.mem_flatMap.mpr ⟨l, ?_, List.mem_map.mpr ⟨r, ?_, rfl⟩⟩⟩)
          · rw [show l.size - 1 + 1 = l.size by omega]
            exact ((h l.size (by omega)).2 l).2 ⟨h1.1, rfl⟩
          · rw [show n - 1 - (l.size - 1) = r.size by omega]
            exact ((h r.size (by omega)).2 r).2 ⟨h1.2, rfl⟩
theorem rows_full : ∀ n, ∀ k ≤ n, Full (rowsL n) k
  | 0, k, hk => by
    obtain rfl : k = 0 := by omega
    refine ⟨by simp [rowAt, rowsL], fun t => ⟨fun h => by simp [rowAt, rowsL] at h, fun h => ?_⟩⟩
    have := size_pos t
    omega
  | n + 1, k, hk => by
    have ih := rows_full n
    show Full (rowsL n ++ [sortT (ofSize (n + 1) (rowsL n))]) k
    by_cases e : k = n + 1
    · subst e
      have q : rowAt (rowsL n ++ [sortT (ofSize (n + 1) (rowsL n))]) (n + 1) = sortT (ofSize (n + 1) (rowsL n)) := by
        have := rowAt_new (rows := rowsL n) (r := sortT (ofSize (n + 1) (rowsL n)))
        rwa [rowsL_len] at this
      unfold Full
      rw [q]
      have f := ofSize_full ih
      have pm : (sortT (ofSize (n + 1) (rowsL n))).Perm (ofSize (n + 1) (rowsL n)) := List.mergeSort_perm _ _
      exact ⟨pm.nodup_iff.mpr f.1, fun t => by rw [pm.mem_iff]; exact f.2 t⟩
    · unfold Full
      rw [rowAt_old (by rw [rowsL_len]; omega)]
      exact ih k (by omega)
theorem mem_rows {n : Nat} {row : List Tm} (h : row ∈ rowsL n) : ∃ k ≤ n, row = rowAt (rowsL n) k := by
  obtain ⟨k, hk, e⟩ := List.getElem_of_mem h
  refine ⟨k, by rw [rowsL_len] at hk; omega, ?_⟩
  unfold rowAt
  rw [List.getD_eq_getElem?_getD, List.getElem?_eq_getElem hk, ← e]
  rfl
theorem trees_mem {n : Nat} {t : Tm} : t ∈ treesL n ↔ t.nums = [] ∧ t.size ≤ n := by
  unfold treesL
  rw [List.mem_flatten]
  constructor
  · rintro ⟨row, hr, ht⟩
    obtain ⟨k, hk, rfl⟩ := mem_rows hr
    have := ((rows_full n k hk).2 t).1 ht
    exact ⟨this.1, by omega⟩
  · rintro ⟨h1, h2⟩
    refine ⟨rowAt (rowsL n) t.size, ?_, ((rows_full n t.size h2).2 t).2 ⟨h1, rfl⟩⟩
    unfold rowAt
    rw [List.getD_eq_getElem?_getD, List.getElem?_eq_getElem (by rw [rowsL_len]; omega)]
    exact List.getElem_mem _
theorem trees_nodup (n : Nat) : (treesL n).Nodup := by
  unfold treesL List.Nodup
  rw [List.pairwise_flatten]
  refine ⟨fun row hr => ?_, ?_⟩
  · obtain ⟨k, hk, rfl⟩ := mem_rows hr
    exact (rows_full n k hk).1
  · rw [List.pairwise_iff_getElem]
    intro i j hi hj ij x hx y hy e
    subst e
    have li := hi
    have lj := hj
    rw [rowsL_len] at li lj
    have q : ∀ k (hk : k < (rowsL n).length), (rowsL n)[k] = rowAt (rowsL n) k := fun k hk => by
      unfold rowAt
      rw [List.getD_eq_getElem?_getD, List.getElem?_eq_getElem hk]
      rfl
    rw [q] at hx hy
    have h1 := ((rows_full n i (by omega)).2 x).1 hx
    have h2 := ((rows_full n j (by omega)).2 x).1 hy
    omega
theorem trees_count {n : Nat} {t : Tm} (h : t.nums = []) (hs : t.size ≤ n) : (treesL n).count t = 1 := by
  rw [List.Nodup.count (trees_nodup n), if_pos (trees_mem.mpr ⟨h, hs⟩)]
/-! how many -/
def ofLen (n : Nat) (ls : List Nat) : Nat := if n = 1 then 1 else ls.getD (n - 1) 0 + ((List.range (n - 2)).map fun i => ls.getD (i + 1) 0 * ls.getD (n - 2 - i) 0).sum
def lensL : Nat → List Nat
  | 0 => [0]
  | n + 1 => lensL n ++ [ofLen (n + 1) (lensL n)]
theorem rowAt_len {rows : List (List Tm)} {k : Nat} : (rowAt rows k).length = (rows.map List.length).getD k 0 := by
  unfold rowAt
  rw [List.getD_eq_getElem?_getD, List.getD_eq_getElem?_getD, List.getElem?_map]
  cases rows[k]? <;> rfl
theorem len_flat {α β : Type} {g : α → List β} {c : Nat} : ∀ {l : List α}, (∀ a ∈ l, (g a).length = c) → (l.flatMap g).length = l.length * c
  | [], _ => by simp
  | a :: l, h => by
    rw [List.flatMap_cons, List.length_append, h a (by simp), len_flat fun b hb => h b (by simp [hb]), List.length_cons, Nat.add_mul]
    omega
theorem ofSize_len {n : Nat} {rows : List (List Tm)} : (ofSize n rows).length = ofLen n (rows.map List.length) := by
  unfold ofSize ofLen
  split
  · rfl
  · rw [List.length_append, List.length_map, rowAt_len, List.length_flatMap]
    congr 1
    congr 1
    refine List.map_congr_left fun i _ => ?_
    rw [len_flat (c := (rowAt rows (n - 2 - i)).length) fun a _ => by rw [List.length_map], rowAt_len, rowAt_len]
theorem rowsL_lens : ∀ n, (rowsL n).map List.length = lensL n
  | 0 => rfl
  | n + 1 => by
    show (rowsL n ++ [sortT (ofSize (n + 1) (rowsL n))]).map List.length = lensL n ++ [ofLen (n + 1) (lensL n)]
    rw [List.map_append, rowsL_lens n]
    congr 1
    show [(sortT _).length] = _
    unfold sortT
    rw [List.length_mergeSort, ofSize_len, rowsL_lens n]
theorem lens7 : lensL 7 = [0, 1, 1, 2, 4, 9, 21, 51] := by decide +kernel
theorem lens_le {n : Nat} (h : n ≤ 7) : ∀ row ∈ rowsL n, row.length ≤ 51 := by
  have all : ∀ n ≤ 7, ∀ x ∈ lensL n, x ≤ 51 := by decide +kernel
  intro row hr
  refine all n h _ ?_
  rw [← rowsL_lens]
  exact List.mem_map_of_mem hr
theorem ofLen_le {n : Nat} (h : n ≤ 6) : ofLen (n + 1) (lensL n) ≤ 51 := by
  have all : ∀ n ≤ 6, ofLen (n + 1) (lensL n) ≤ 51 := by decide +kernel
  exact all n h
end Rp

set_option maxHeartbeats 8000000
/-! _of_size, trees. -/
namespace Rp
open PySem PySem.Spec PyProof.Rows L2 TL
def RowsAt (H : Hp) (rs : List Addr) (rows : List (List Tm)) : Prop := rs.length = rows.length ∧ ∀ (i : Nat) (r : Addr), rs[i]? = some r → ∃ xs, H r = some (.lst xs) ∧ AllAt H xs (rowAt rows i)
theorem AllAt.same {H H' : Hp} (e : Same H H') {xs : List V} {ts : List Tm} (h : AllAt H xs ts) : AllAt H' xs ts := h.mono fun a zs z => e _ _ z
theorem RowsAt.same {H H' : Hp} (e : Same H H') {rs : List Addr} {rows : List (List Tm)} (h : RowsAt H rs rows) : RowsAt H' rs rows := ⟨h.1, fun i r hr => let ⟨xs, a, b⟩ := h.2 i r hr; ⟨xs, e _ _ a, b.same e⟩⟩
theorem keepL {H : Hp} {D : Addr} {xs : List V} {o : HO} (h : H D = some (.lst xs)) : ∀ q zs, H q = some (.tup zs) → (upd H D o) q = some (.tup zs) := fun q zs z => by
  rw [upd_ne (ne_of z h (by intro e; cases e))]; exact z
def SmRows (rows : List (List Tm)) : Prop := (∀ row ∈ rows, row.length ≤ 51) ∧ ∀ row ∈ rows, ∀ t ∈ row, t.nums = [] ∧ t.size ≤ 7
def spOfSize : Sp := fun vs H Q _ => ∃ (l : Addr) (rs : List Addr) (rows : List (List Tm)) (n : Nat), vs = [.int (n : Nat), .ref l] ∧ H l = some (.lst (rs.map V.ref)) ∧ RowsAt H rs rows ∧ rows.length = n ∧ 1 ≤ n ∧ n ≤ 7 ∧ (∀ row ∈ rows, row.length ≤ 51) ∧ (ofSize n rows).length ≤ 51 ∧
  ∀ (p : Addr) (xs : List V) (H' : Hp), H p = none → H' p = some (.lst xs) → AllAt H' xs (ofSize n rows) → Same H H' → Q (.ref p) H'
abbrev NOf : List Str := ["signs", "ahead", "found", "few", "tree", "left", "right"]
def teS : TE := tTup (tCons (tC (.str "s")) (tCons (tVar 4) tNil))
def teF : TE := tTup (tCons (tC (.str "f")) (tCons (tVar 5) (tCons (tVar 6) tNil)))
def rSubI : R2 := rI0 fun i j => .int (i - j)
def wiR (K : PySem.W.Frag) : TI := iList K (tOp (rIxL K) (tVar 1) (tOp rSubI (tOp rSubI (tVar 0) (tC (.int 1))) (tVar 3)))
theorem rowAt_few {rows : List (List Tm)} (h : ∀ row ∈ rows, row.length ≤ 51) (k : Nat) : (rowAt rows k).length ≤ 51 := by
  unfold rowAt
  rw [List.getD_eq_getElem?_getD]
  cases e : rows[k]? with
  | none => show ([] : List Tm).length ≤ 51; decide
  | some r => exact h r (List.mem_of_getElem? e)
theorem walk_lst5 {K : PySem.W.Frag} {a : Addr} {xs : List V} {B : V → Hp → (Hp → Prop) → Prop} {H1 : Hp} {Done : Hp → Prop} (Pv : Nat → Hp → Prop) (h0 : Pv 0 H1) (hl : ∀ i H, i ≤ xs.length → Pv i H → SqL K H a xs)
    (hs : ∀ i x H, xs[i]? = some x → Pv i H → B x H (Pv (i + 1))) (hd : ∀ H, Pv xs.length H → Done H) :
    ∃ W : Nat → Nat → Hp → Prop, (∃ m, W 0 m H1) ∧ ∀ i m H, W i m H →
      ((Itl K a).stop i H ∧ Done H) ∨ ((Itl K a).go i H ∧ ∃ Nx : Hp → Prop, (∀ H', Nx H' → ∃ m', m' < m ∧ W (i + 1) m' H') ∧ ∀ x H', (Itl K a).yld i H x H' → B x H' Nx) := by
  refine ⟨fun i m H => m = xs.length - i ∧ i ≤ xs.length ∧ Pv i H, ⟨xs.length, by simp, Nat.zero_le _, h0⟩, ?_⟩
  rintro i m H ⟨rfl, hi, p⟩
  have q := hl i H hi p
  by_cases hlt : i < xs.length
  · refine .inr ⟨⟨xs, xs[i], q, by simp [hlt]⟩, Pv (i + 1), fun H' p' => ⟨xs.length - (i + 1), by omega, rfl, hlt, p'⟩, fun x H' y => ?_⟩
    obtain ⟨e, y⟩ := y
    subst e
    exact hs i x _ (y xs q) p
  · have e : i = xs.length := by omega
    subst e
    exact .inl ⟨⟨xs, q, Nat.le_refl _⟩, hd H p⟩
theorem same_noneO {H H' : Hp} {b : Addr} (e : Same H H') (h : H' b = none) : H b = none := by
  cases q : H b with
  | none => rfl
  | some u => have := e _ _ q; rw [h] at this; cases this
section
variable {P : Program} {w : World} {K : PySem.W.Frag} {mg : Str → Option Value} {base : Heap}
theorem scOf : FnScope NOf ["signs", "ahead"] (defScope sOfSize) := ⟨rfl, rfl, rfl, by decide +kernel, rfl, by decide +kernel, by decide +kernel⟩
theorem ok_ofsize {f : Addr} {fd : FuncData} (F : Fun K "_of_size" "_of_size" sOfSize f fd) (mRange : mg "range" = none) : FnOk P w K mg base CX0 1 f fd ["signs", "ahead"] spOfSize := by
  refine F.ok scOf (fun vs H Q E h => ?_) (fun cdv A outer s H vs Q E hr h => ?_)
  · obtain ⟨l, rs, rows, n, rfl, _⟩ := h
    rfl
  obtain ⟨l, rs, rows, n, rfl, hl, R, rl, n1, n7, few, all, q⟩ := h
  refine ⟨_, (pss_cons (ps_if (pt_cmpR op_eq (pv 0) pe_int (nomark _)) (pss_one (ps_ret (pe_lst (pa_cons (pe_tup (pa_cons pe_str pa_nil)) pa_nil)))) pss_nil)
    (pss_cons (ps_setLc (i := 2) (own := [("tree", 4)]) (g := gName 4) (tt := tYes) (te := teS) rfl scOf.nd rfl rfl (by rfl) (pi_list (pe_ix ix_list (pv 1) (pe_op op_sub (pv 0) pe_int) (fun _ _ => rfl))) (blkOk_by (N := NOf) (sc := defScope sOfSize) (by decide +kernel)) (fun _ _ _ _ _ => (pg_name (i := 4) scOf.nd rfl (Or.inl rfl))) (fun _ _ _ _ _ => pts_nil) (fun _ _ _ _ _ => (pe_tup (pa_cons pe_str (pa_cons (pv 4) pa_nil)))))
    (pss_cons (ps_for PassesOwn.never rfl (pi_range2 (by rfl) mRange (pa_cons pe_int (pa_cons (pe_op op_sub (pv 0) pe_int) pa_nil))) (pg_name (i := 3) scOf.nd rfl (Or.inr rfl)) (pss_one (ps_expr (pe_bm PySem.F.plainAttrs_list PySem.F.slot_list_extend PySem.F.type_list_extend mt_extend (pv 2) (pa_cons (pe_lc2 (own := [("left", 5), ("right", 6)]) (vs1 := [6]) (g := gName 5) (tt := tYes) (wi1 := wiR K) (g1 := gName 6) (tt1 := tYes) (te := teF) rfl scOf.nd (pi_list (pe_ix ix_list (pv 1) (pv 3) (fun _ _ => rfl))) (blkOk_by (N := NOf) (sc := defScope sOfSize) (by decide +kernel)) (by decide) (fun _ _ _ _ _ => (pg_name (i := 5) scOf.nd rfl (Or.inl rfl))) (fun _ _ _ _ _ => pts_nil) (fun _ _ _ _ _ => pi_list (pe_ix ix_list (pv 1) (pe_op op_sub (pe_op op_sub (pv 0) pe_int) (pv 3)) (fun _ _ => rfl))) (fun _ _ _ _ _ => (pg_name (i := 6) scOf.nd rfl (Or.inl rfl))) (fun _ _ _ _ _ => pts_nil) (fun _ _ _ _ _ => (pe_tup (pa_cons pe_str (pa_cons (pv 5) (pa_cons (pv 6) pa_nil)))))) pa_nil)))))
    (pss_one (ps_ret (pv 2)))))), ?_⟩
  have big : (10000 : Nat) ≤ sizeLine := by decide
  have rsl := R.1
  refine ⟨_, rfl, rfl, decide (V.int (n : Nat) = V.int 1), rfl, ?_⟩
  by_cases e1 : V.int ((n : Nat) : Int) = V.int 1
  · have e1' : n = 1 := by have : ((n : Nat) : Int) = 1 := by simpa using e1
                           omega
    rw [decide_eq_true e1]
    refine iteT ⟨(by show 1 ≤ sizeLine; decide), fun z hz => ?_⟩
    have s1 := same_new hz (.tup [V.str "0"])
    refine ⟨(by show 1 ≤ sizeLine; decide), fun p hp => ?_⟩
    have s2 := same_new hp (.lst [V.ref z])
    refine q p [V.ref z] _ (same_noneO s1 hp) upd_same ?_ (s1.trans s2)
    have : ofSize n rows = [.z] := by unfold ofSize; rw [if_pos e1']
    rw [this]
    exact ⟨.z (s2 _ _ upd_same), trivial⟩
  have e1' : n ≠ 1 := fun e => e1 (by rw [e]; rfl)
  rw [decide_eq_false e1]
  obtain ⟨r0, hr0⟩ : ∃ r, rs[n - 1]? = some r := ⟨_, List.getElem?_eq_getElem (by omega)⟩
  obtain ⟨x0, hx0, A0⟩ := R.2 (n - 1) r0 hr0
  have x0l := A0.len
  have f0 := rowAt_few few (n - 1)
  refine iteF ⟨_, rfl, _, rfl, _, _, rfl, rfl, l, _, _, _, rfl, rfl, .inl (.inl hl), at_of (j := n - 1) (by omega) (by rw [List.getElem?_map, hr0]; rfl), r0, rfl, ⟨_, .inl (.inl hx0)⟩, fun D hD => lc_list (K := K) (a := r0) (xs := x0) (fun i H2 => ∃ ys : List V, H2 D = some (.lst ys) ∧ AllAt H2 ys (((rowAt rows (n - 1)).take i).map Tm.s) ∧ ys.length = i ∧ Same H H2)
    ⟨[], upd_same, trivial, rfl, same_new hD _⟩ (fun i H2 _ ⟨_, _, _, _, s⟩ => .inl (.inl (s _ _ hx0))) ?_ ?_⟩
  · rintro i x H2 hi ⟨ys, h2, A2, yl, s2⟩
    obtain ⟨t, ht, T⟩ := A0.get hi
    have li : i < x0.length := (List.getElem?_eq_some_iff.mp hi).1
    have tk : (rowAt rows (n - 1)).take (i + 1) = (rowAt rows (n - 1)).take i ++ [t] := by rw [List.take_add_one, ht]; rfl
    refine ⟨rfl, ?_⟩
    unfold teS
    refine ⟨_, rfl, (by show 2 ≤ sizeLine; decide), fun c hc => ?_⟩
    have s3 := same_new hc (.tup [V.str "s", x])
    have h3 := s3 _ _ h2
    refine ⟨ys, h3, by omega, ys ++ [.ref c], upd_same, ?_, by rw [List.length_append, yl]; rfl, fun b o z => by rw [upd_ne (ne_of_none z hD)]; exact s3 _ _ (s2 _ _ z)⟩
    rw [tk, List.map_append]
    have cD : c ≠ D := (ne_of_none h2 hc).symm
    exact ((A2.same s3).mono (keepL h3)).append ⟨.s (by rw [upd_ne cD, upd_same]) (((T.same s2).same s3).mono (keepL h3)), trivial⟩
  rintro H1 ⟨ys1, h1, A1, yl1, s1⟩
  rw [x0l, List.take_length] at A1
  have R1 := R.same s1
  have hl1 := s1 _ _ hl
  have lD : l ≠ D := ne_of_none hl hD
  refine ⟨_, rfl, _, _, rfl, rfl, _, _, rfl, ⟨by omega, by omega, by omega, by omega⟩, for_range (lo := 1) (n := (((n : Nat) : Int) - 1 - 1).toNat) (fun i σ H2 => ∃ (x3 : Option V) (ys : List V), σ = [some (.int (n : Nat)), some (.ref l), some (.ref D), x3, none, none, none] ∧
      H2 D = some (.lst ys) ∧ AllAt H2 ys ((rowAt rows (n - 1)).map Tm.s ++ (List.range i).flatMap fun i => (rowAt rows (i + 1)).flatMap fun l => (rowAt rows (n - 2 - i)).map fun r => Tm.f l r) ∧ (∀ b o, b ≠ D → H1 b = some o → H2 b = some o))
    ⟨_, ys1, rfl, h1, by simpa using A1, fun b o _ z => z⟩ ?_ ?_⟩
  · rintro i σ H2 hi ⟨x3, ys, rfl, h2, A2, o2⟩
    have hi' : i < n - 2 := by omega
    have al2 := A2.len
    have part : ((rowAt rows (n - 1)).map Tm.s ++ (List.range i).flatMap fun i => (rowAt rows (i + 1)).flatMap fun l => (rowAt rows (n - 2 - i)).map fun r => Tm.f l r).length ≤ 51 := by
      have e : ofSize n rows = (rowAt rows (n - 1)).map Tm.s ++ (List.range (n - 2)).flatMap fun i => (rowAt rows (i + 1)).flatMap fun l => (rowAt rows (n - 2 - i)).map fun r => Tm.f l r := by unfold ofSize; rw [if_neg e1']
      rw [e] at all
      refine Nat.le_trans ?_ all
      rw [List.length_append, List.length_append]
      refine Nat.add_le_add_left (List.Sublist.length_le ?_) _
      have er : List.range (n - 2) = List.range i ++ (List.range (n - 2)).drop i := by
        have := List.take_append_drop i (List.range (n - 2))
        rw [List.take_range, Nat.min_eq_left (by omega)] at this
        exact this.symm
      rw [er, List.flatMap_append]
      exact List.sublist_append_left _ _
    obtain ⟨ra, hra⟩ : ∃ r, rs[i + 1]? = some r := ⟨_, List.getElem?_eq_getElem (by omega)⟩
    obtain ⟨rb, hrb⟩ : ∃ r, rs[n - 2 - i]? = some r := ⟨_, List.getElem?_eq_getElem (by omega)⟩
    obtain ⟨xa, hxa, Aa⟩ := R.2 _ _ hra
    obtain ⟨xb, hxb, Ab⟩ := R.2 _ _ hrb
    have xal := Aa.len
    have xbl := Ab.len
    have fa := rowAt_few few (i + 1)
    have fb := rowAt_few few (n - 2 - i)
    have hl2 := o2 _ _ lD hl1
    have hxa2 := o2 _ _ (ne_of_none hxa hD) (s1 _ _ hxa)
    have hxb2 := o2 _ _ (ne_of_none hxb hD) (s1 _ _ hxb)
    have k12 : ∀ q zs, H q = some (.tup zs) → H2 q = some (.tup zs) := fun q zs z => o2 _ _ (ne_of_none z hD) (s1 _ _ z)
    have Aa2 := Aa.mono k12
    have Ab2 := Ab.mono k12
    have ei : (1 : Int) + (i : Nat) = ((i + 1 : Nat) : Int) := by omega
    refine ⟨_, rfl, .inl ⟨rfl, _, .inl (.inl h2)⟩, ?_⟩
    refine ⟨_, rfl, _, rfl, l, _, _, _, rfl, rfl, .inl (.inl hl2), at_of (j := i + 1) ei (by rw [List.getElem?_map, hra]; rfl), ra, rfl, ⟨_, .inl (.inl hxa2)⟩, fun D2 hD2 => walk_lst5 (K := K) (a := ra) (xs := xa) (fun a H3 => ∃ zs : List V, H3 D2 = some (.lst zs) ∧ AllAt H3 zs (((rowAt rows (i + 1)).take a).flatMap fun l => (rowAt rows (n - 2 - i)).map fun r => Tm.f l r) ∧ Same H2 H3)
      ⟨[], upd_same, trivial, same_new hD2 _⟩ (fun a H3 _ ⟨_, _, _, s⟩ => .inl (.inl (s _ _ hxa2))) ?_ ?_⟩
    · rintro a x H3 ha ⟨zs, h3, A3, s3⟩
      obtain ⟨t, ht, T⟩ := Aa2.get ha
      have la : a < xa.length := (List.getElem?_eq_some_iff.mp ha).1
      have tk : (rowAt rows (i + 1)).take (a + 1) = (rowAt rows (i + 1)).take a ++ [t] := by rw [List.take_add_one, ht]; rfl
      have zl := A3.len
      have zfew : zs.length ≤ 51 * 51 := by
        rw [zl, len_flat (c := (rowAt rows (n - 2 - i)).length) fun a _ => by rw [List.length_map]]
        refine Nat.mul_le_mul ?_ fb
        rw [List.length_take]; omega
      have lD2 : l ≠ D2 := ne_of_none hl2 hD2
      have rbD2 : rb ≠ D2 := ne_of_none hxb2 hD2
      refine ⟨rfl, ?_⟩
      unfold wiR
      refine ⟨_, rfl, _, rfl, _, _, rfl, rfl, _, rfl, _, _, rfl, rfl, l, _, _, _, rfl, rfl, .inl (.inl (s3 _ _ hl2)), at_of (j := n - 2 - i) (by omega) (by rw [List.getElem?_map, hrb]; rfl), rb, rfl, ⟨_, .inl (.inl (s3 _ _ hxb2))⟩, walk_lst5 (K := K) (a := rb) (xs := xb) (fun c H4 => ∃ ws : List V, H4 D2 = some (.lst ws) ∧ AllAt H4 ws ((((rowAt rows (i + 1)).take a).flatMap fun l => (rowAt rows (n - 2 - i)).map fun r => Tm.f l r) ++ ((rowAt rows (n - 2 - i)).take c).map fun r => Tm.f t r) ∧ (∀ b o, b ≠ D2 → H3 b = some o → H4 b = some o))
        ⟨zs, h3, by simpa using A3, fun b o _ z => z⟩ (fun c H4 _ ⟨_, _, _, o⟩ => .inl (.inl (o _ _ rbD2 (s3 _ _ hxb2)))) ?_ ?_⟩
      · rintro c y H4 hc ⟨ws, h4, A4, o4⟩
        obtain ⟨u, hu, U⟩ := Ab2.get hc
        have lc : c < xb.length := (List.getElem?_eq_some_iff.mp hc).1
        have tk2 : (rowAt rows (n - 2 - i)).take (c + 1) = (rowAt rows (n - 2 - i)).take c ++ [u] := by rw [List.take_add_one, hu]; rfl
        have wl := A4.len
        have wfew : ws.length ≤ 51 * 51 + 51 := by
          rw [wl, List.length_append, List.length_map, List.length_take, ← zl]; omega
        have k24 : ∀ q zs, H2 q = some (.tup zs) → H4 q = some (.tup zs) := fun q zs z => o4 _ _ (ne_of_none z hD2) (s3 _ _ z)
        refine ⟨rfl, ?_⟩
        unfold teF
        refine ⟨_, rfl, _, rfl, (by show 3 ≤ sizeLine; decide), fun g hg => ?_⟩
        have s5 := same_new hg (.tup [V.str "f", x, y])
        have h5 := s5 _ _ h4
        have gD : g ≠ D2 := (ne_of_none h4 hg).symm
        have k25 : ∀ q zs, H2 q = some (.tup zs) → (upd (upd H4 g (.tup [V.str "f", x, y])) D2 (.lst (ws ++ [.ref g]))) q = some (.tup zs) := fun q zs z => keepL h5 _ _ (s5 _ _ (k24 _ _ z))
        refine ⟨ws, h5, by omega, ws ++ [.ref g], upd_same, ?_, fun b o nb z => by rw [upd_ne nb]; exact s5 _ _ (o4 _ _ nb z)⟩
        rw [tk2, List.map_append, ← List.append_assoc]
        exact ((A4.same s5).mono (keepL h5)).append ⟨.f (by rw [upd_ne gD, upd_same]) (T.mono k25) (U.mono k25), trivial⟩
      · rintro H4 ⟨ws, h4, A4, o4⟩
        rw [xbl, List.take_length] at A4
        refine ⟨ws, h4, ?_, fun b o z => o4 _ _ (ne_of_none z hD2) (s3 _ _ z)⟩
        rw [tk, List.flatMap_append]
        simpa using A4
    · rintro H3 ⟨zs, h3, A3, s3⟩
      rw [xal, List.take_length] at A3
      have zl := A3.len
      have zfew : zs.length ≤ 51 * 51 := by
        rw [zl, len_flat (c := (rowAt rows (n - 2 - i)).length) fun a _ => by rw [List.length_map]]
        exact Nat.mul_le_mul fa fb
      have h32 := s3 _ _ h2
      refine ⟨D, D2, _, _, rfl, rfl, h32, h3, by omega, ?_⟩
      refine ⟨_, ys ++ zs, rfl, upd_same, ?_, fun b o nb z => by rw [upd_ne nb]; exact s3 _ _ (o2 _ _ nb z)⟩
      rw [List.range_succ, List.flatMap_append, ← List.append_assoc]
      exact ((A2.same s3).mono (keepL h32)).append (by simpa using A3.mono (keepL h32))
  · rintro σ H2 ⟨x3, ys, rfl, h2, A2, o2⟩
    have en : (((n : Nat) : Int) - 1 - 1).toNat = n - 2 := by omega
    rw [en] at A2
    have e : ofSize n rows = (rowAt rows (n - 1)).map Tm.s ++ (List.range (n - 2)).flatMap fun i => (rowAt rows (i + 1)).flatMap fun l => (rowAt rows (n - 2 - i)).map fun r => Tm.f l r := by unfold ofSize; rw [if_neg e1']
    exact ⟨_, rfl, q D ys H2 hD h2 (e ▸ A2) fun b o z => o2 _ _ (ne_of_none z hD) (s1 _ _ z)⟩
end
end Rp

set_option maxHeartbeats 8000000
/-! trees. -/
namespace Rp
open PySem PySem.Spec PyProof.Rows L2 TL
theorem leS_eq : leS = fun a b => decide (a.2.cps.toList ≤ b.2.cps.toList) := PySem.W.dataLe_str fun p : V × Str => p.2
def zTxt (z : V × Tm) : V × Str := (z.1, z.2.txt)
theorem all_zip {H : Hp} : ∀ {xs : List V} {ts : List Tm}, AllAt H xs ts → (∀ z ∈ xs.zip ts, TmAt H z.1 z.2) ∧ (xs.zip ts).map (·.2) = ts ∧ ((xs.zip ts).map zTxt).map (·.1) = xs
  | [], [], _ => ⟨by simp, rfl, rfl⟩
  | x :: xs, t :: ts, h => by
    obtain ⟨h1, h2, h3⟩ := all_zip h.2
    refine ⟨fun z hz => ?_, ?_, ?_⟩
    · rcases List.mem_cons.mp hz with rfl | hz
      · exact h.1
      · exact h1 z hz
    · rw [List.zip_cons_cons, List.map_cons, h2]
    · rw [List.zip_cons_cons, List.map_cons, List.map_cons, h3]; rfl
theorem all_unzip {H : Hp} : ∀ {zs : List (V × Tm)}, (∀ z ∈ zs, TmAt H z.1 z.2) → AllAt H ((zs.map zTxt).map (·.1)) (zs.map (·.2))
  | [], _ => trivial
  | z :: zs, h => ⟨h z (by simp), all_unzip fun y hy => h y (by simp [hy])⟩
theorem sorted_all {H : Hp} {xs : List V} {ts : List Tm} (h : AllAt H xs ts) : AllAt H ((((xs.zip ts).map zTxt).mergeSort leS).map (·.1)) (sortT ts) := by
  obtain ⟨h1, h2, h3⟩ := all_zip h
  have e1 : ((xs.zip ts).map zTxt).mergeSort leS = ((xs.zip ts).mergeSort fun a b => leT a.2 b.2).map zTxt := by
    rw [List.map_mergeSort]
    intro a _ b _
    rw [leS_eq]
    rfl
  have e2 : sortT ts = ((xs.zip ts).mergeSort fun a b => leT a.2 b.2).map (·.2) := by
    rw [List.map_mergeSort (s := leT), h2]
    · rfl
    · intro a _ b _; rfl
  rw [e1, e2]
  exact all_unzip fun z hz => h1 z ((List.mergeSort_perm _ _).mem_iff.mp hz)
def spTrees : Sp := fun vs H Q _ => ∃ n : Nat, vs = [.int (n : Nat)] ∧ 1 ≤ n ∧ n ≤ 7 ∧ ∀ (p : Addr) (xs : List V) (H' : Hp), H p = none → H' p = some (.lst xs) → AllAt H' xs (treesL n) → Same H H' → Q (.ref p) H'
abbrev NTr : List Str := ["most", "by_size", "signs", "row", "tree"]
section
variable {P : Program} {w : World} {K : PySem.W.Frag} {mg : Str → Option Value} {base : Heap}
theorem scTr : FnScope NTr ["most"] (defScope sTrees) := ⟨rfl, rfl, rfl, by decide +kernel, rfl, by decide +kernel, by decide +kernel⟩
theorem ok_trees {f fO fT : Addr} {fd dO dT : FuncData} (F : Fun K "trees" "trees" sTrees f fd)
    (GO : FnOk P w K mg base CX0 1 fO dO ["signs", "ahead"] spOfSize) (kO : PySem.W.keepIn K (.ref fO) = true) (bO : Binds K dO ["signs", "ahead"] []) (mO : mg "_of_size" = some (.ref fO))
    (GT : FnOk P w K mg base CX0 4 fT dT ["term"] spTermText) (kT : PySem.W.keepIn K (.ref fT) = true) (bT : Binds K dT ["term"] []) (mT : mg "term_text" = some (.ref fT))
    (mRange : mg "range" = none) (mSorted : mg "sorted" = none) : FnOk P w K mg base CX0 7 f fd ["most"] spTrees := by
  have FR : FnR P w K mg base CX0 4 fT spTermText := (FnOk.raw GT bT .nil).imp fun vs H Q E h => by simpa using h
  refine F.ok scTr (fun vs H Q E h => ?_) (fun cdv A outer s H vs Q E hr h => ?_)
  · obtain ⟨n, rfl, _⟩ := h
    rfl
  obtain ⟨n, rfl, n1, n7, q⟩ := h
  have r1 : Room 1 _ := hr.mono (by decide)
  have r2 : Room 6 _ := hr
  refine ⟨_, (pss_cons (ps_set (i := 1) scTr.nd rfl (Or.inl rfl) (pe_lst (pa_cons (pe_lst pa_nil) pa_nil)))
    (pss_cons (ps_for PassesOwn.never rfl (pi_range2 (by rfl) mRange (pa_cons pe_int (pa_cons (pe_op op_add (pv 0) pe_int) pa_nil))) (pg_name (i := 2) scTr.nd rfl (Or.inl rfl)) (pss_one (ps_expr (pe_bm PySem.F.plainAttrs_list PySem.F.slot_list_append PySem.F.type_list_append mt_append (pv 1) (pa_cons (pe_callBK (cr_sortK FR r2) (by rfl) mSorted (by decide +kernel) (pa_cons (pe_call GO r1 rfl mO kO bO .nil pass0 (pa_cons (pv 2) (pa_cons (pv 1) pa_nil))) pa_nil) (pk_cons (pe_glob (v := .ref fT) rfl mT rfl) pk_nil)) pa_nil)))))
    (pss_one (ps_ret (pe_lc2 (own := [("row", 3), ("tree", 4)]) (vs1 := [4]) (g := gName 3) (tt := tYes) (wi1 := iList K (tVar 3)) (g1 := gName 4) (tt1 := tYes) (te := tVar 4) rfl scTr.nd (pi_list (pv 1)) (blkOk_by (N := NTr) (sc := defScope sTrees) (by decide +kernel)) (by decide) (fun _ _ _ _ _ => (pg_name (i := 3) scTr.nd rfl (Or.inl rfl))) (fun _ _ _ _ _ => pts_nil) (fun _ _ _ _ _ => pi_list (pv 3)) (fun _ _ _ _ _ => (pg_name (i := 4) scTr.nd rfl (Or.inl rfl))) (fun _ _ _ _ _ => pts_nil) (fun _ _ _ _ _ => pv 4)))))), ?_⟩
  have big : (10000 : Nat) ≤ sizeLine := by decide
  refine ⟨(by show 0 ≤ sizeLine; decide), fun r0 hr0 => ?_⟩
  have s1 := same_new hr0 (.lst ([] : List V))
  refine ⟨(by show 1 ≤ sizeLine; decide), fun D hD => ?_⟩
  have s2 := same_new hD (.lst [V.ref r0])
  have hr02 := s2 _ _ (upd_same (H := H) (a := r0) (o := .lst ([] : List V)))
  have r0D : r0 ≠ D := ne_of_none (upd_same (H := H) (a := r0) (o := .lst ([] : List V))) hD
  have HD : H D = none := same_noneO s1 hD
  have s12 := s1.trans s2
  have hD2 : (upd (upd H r0 (.lst [])) D (.lst [V.ref r0])) D = some (.lst [V.ref r0]) := upd_same
  generalize upd (upd H r0 (.lst [])) D (.lst [V.ref r0]) = H2 at s12 hr02 hD2 ⊢
  refine ⟨_, rfl, _, _, rfl, rfl, _, _, rfl, ⟨by omega, by omega, by omega, by omega⟩, for_range (lo := 1) (n := (((n : Nat) : Int) + 1 - 1).toNat) (fun i σ H3 => ∃ (x2 : Option V) (rs : List Addr), σ = [some (.int (n : Nat)), some (.ref D), x2, none, none] ∧
      H3 D = some (.lst (rs.map V.ref)) ∧ RowsAt H3 rs (rowsL i) ∧ (∀ r ∈ rs, r ≠ D) ∧ Same H H3)
    ⟨_, [r0], rfl, hD2, ⟨rfl, fun i r hi => ?_⟩, fun r hr => ?_, s12⟩ ?_ ?_⟩
  · match i with
    | 0 =>
      obtain rfl : r0 = r := by simpa using hi
      exact ⟨[], hr02, trivial⟩
    | i + 1 => simp at hi
  · obtain rfl : r = r0 := by simpa using hr
    exact r0D
  · rintro i σ H3 hi ⟨x2, rs, rfl, h3, R3, nD, s3⟩
    have i6 : i ≤ 6 := by omega
    have ei : (1 : Int) + (i : Nat) = ((i + 1 : Nat) : Int) := by omega
    have few := lens_le (n := i) (by omega)
    have all : (ofSize (i + 1) (rowsL i)).length ≤ 51 := by rw [ofSize_len, rowsL_lens]; exact ofLen_le i6
    refine ⟨_, rfl, .inl ⟨rfl, _, .inl (.inl h3)⟩, ?_⟩
    rw [ei]
    refine ⟨_, rfl, _, rfl, D, rs, rowsL i, i + 1, rfl, h3, R3, rowsL_len i, by omega, by omega, few, all, fun p xs H4 hp hp4 A4 s4 => ?_⟩
    have xl := A4.len
    obtain ⟨z1, z2, z3⟩ := all_zip A4
    refine ⟨p, (xs.zip (ofSize (i + 1) (rowsL i))).map zTxt, rfl, rfl, by rw [z3]; exact .inl (.inl hp4), fun y hy H5 Q1 s5 go => ?_, fun l H5 s5 hl hl5 => ?_⟩
    · obtain ⟨z, hz, rfl⟩ := List.mem_map.mp hy
      have zt := (List.of_mem_zip hz).2
      have fu := ((ofSize_full (n := i) (rows := rowsL i) fun k hk => rows_full i k hk).2 z.2).1 zt
      exact ⟨z.1, z.2, rfl, (z1 z hz).mono fun a zs y => s5 _ _ y, fun m hm => by rw [fu.1] at hm; simp at hm, by omega, fun H6 s6 => go H6 s6⟩
    have h5 := s5 _ _ (s4 _ _ h3)
    have lD : l ≠ D := (ne_of_none (s4 _ _ h3) hl).symm
    have rl := R3.1
    rw [rowsL_len] at rl
    refine ⟨D, _, _, rfl, rfl, h5, by rw [List.length_map]; omega, ?_⟩
    have As := (sorted_all A4).mono fun a zs y => s5 _ _ y
    refine ⟨_, rs ++ [l], rfl, by rw [upd_same, List.map_append]; rfl, ⟨by show _ = (rowsL i ++ [_]).length; rw [List.length_append, List.length_append, R3.1]; rfl, fun k r hk => ?_⟩, fun r hr => ?_, fun b o z => by rw [upd_ne (ne_of_none z HD)]; exact s5 _ _ (s4 _ _ (s3 _ _ z))⟩
    · show ∃ xs, _ ∧ AllAt _ xs (rowAt (rowsL i ++ [sortT (ofSize (i + 1) (rowsL i))]) k)
      by_cases ek : k < rs.length
      · rw [List.getElem?_append_left ek] at hk
        obtain ⟨ys, g1, g2⟩ := R3.2 k r hk
        rw [rowAt_old (by rw [rowsL_len]; omega)]
        exact ⟨ys, by rw [upd_ne (nD r (List.mem_of_getElem? hk))]; exact s5 _ _ (s4 _ _ g1), (g2.mono fun a zs y => s5 _ _ (s4 _ _ y)).mono (keepL h5)⟩
      · have ek' : k = rs.length := by
          have := (List.getElem?_eq_some_iff.mp hk).1
          rw [List.length_append, List.length_singleton] at this
          omega
        subst ek'
        obtain rfl : l = r := by simpa using hk
        have q2 : rowAt (rowsL i ++ [sortT (ofSize (i + 1) (rowsL i))]) rs.length = sortT (ofSize (i + 1) (rowsL i)) := by
          have q3 := rowAt_new (rows := rowsL i) (r := sortT (ofSize (i + 1) (rowsL i)))
          rw [rowsL_len] at q3
          rw [rl]
          exact q3
        rw [q2]
        exact ⟨_, by rw [upd_ne lD]; exact hl5, As.mono (keepL h5)⟩
    · rcases List.mem_append.mp hr with hr | hr
      · exact nD r hr
      · obtain rfl : r = l := by simpa using hr
        exact lD
  · rintro σ H3 ⟨x2, rs, rfl, h3, R3, nD, s3⟩
    have en : (((n : Nat) : Int) + 1 - 1).toNat = n := by omega
    rw [en] at R3
    have few := lens_le n7
    have rl := R3.1
    rw [rowsL_len] at rl
    refine ⟨_, rfl, D, rfl, ⟨_, .inl (.inl h3)⟩, fun D2 hD2 => walk_lst5 (K := K) (a := D) (xs := rs.map V.ref) (fun a H4 => ∃ zs : List V, H4 D2 = some (.lst zs) ∧ AllAt H4 zs (((rowsL n).take a).flatten) ∧ zs.length ≤ 51 * a ∧ Same H3 H4)
      ⟨[], upd_same, trivial, by simp, same_new hD2 _⟩ (fun a H4 _ ⟨_, _, _, _, s⟩ => .inl (.inl (s _ _ h3))) ?_ ?_⟩
    · rintro a x H4 ha ⟨zs, h4, A4, zl, s4⟩
      rw [List.getElem?_map] at ha
      obtain ⟨r, hr, rfl⟩ : ∃ r, rs[a]? = some r ∧ x = .ref r := by
        cases hq : rs[a]? with
        | none => rw [hq] at ha; cases ha
        | some r => rw [hq] at ha; exact ⟨r, rfl, by simpa using ha.symm⟩
      have la : a < rs.length := (List.getElem?_eq_some_iff.mp hr).1
      obtain ⟨xr, hxr, Ar⟩ := R3.2 a r hr
      have xl := Ar.len
      have fr := rowAt_few few a
      have er : (rowsL n)[a]? = some (rowAt (rowsL n) a) := by
        unfold rowAt
        rw [List.getD_eq_getElem?_getD, List.getElem?_eq_getElem (by rw [rowsL_len]; omega)]
        rfl
      have tk : (rowsL n).take (a + 1) = (rowsL n).take a ++ [rowAt (rowsL n) a] := by rw [List.take_add_one, er]; rfl
      have rD2 : r ≠ D2 := ne_of_none hxr hD2
      refine ⟨rfl, ?_⟩
      refine ⟨_, rfl, r, rfl, ⟨_, .inl (.inl (s4 _ _ hxr))⟩, walk_lst5 (K := K) (a := r) (xs := xr) (fun c H5 => ∃ ws : List V, H5 D2 = some (.lst ws) ∧ AllAt H5 ws (((rowsL n).take a).flatten ++ (rowAt (rowsL n) a).take c) ∧ ws.length = zs.length + c ∧ (∀ b o, b ≠ D2 → H4 b = some o → H5 b = some o))
        ⟨zs, h4, by simpa using A4, rfl, fun b o _ z => z⟩ (fun c H5 _ ⟨_, _, _, _, o⟩ => .inl (.inl (o _ _ rD2 (s4 _ _ hxr)))) ?_ ?_⟩
      · rintro c y H5 hc ⟨ws, h5, A5, wl, o5⟩
        obtain ⟨u, hu, U⟩ := Ar.get hc
        have lc : c < xr.length := (List.getElem?_eq_some_iff.mp hc).1
        have tk2 : (rowAt (rowsL n) a).take (c + 1) = (rowAt (rowsL n) a).take c ++ [u] := by rw [List.take_add_one, hu]; rfl
        have k35 : ∀ q zs, H3 q = some (.tup zs) → H5 q = some (.tup zs) := fun q zs z => o5 _ _ (ne_of_none z hD2) (s4 _ _ z)
        refine ⟨rfl, _, rfl, ws, h5, by omega, ws ++ [y], upd_same, ?_, by rw [List.length_append, List.length_singleton]; omega, fun b o nb z => by rw [upd_ne nb]; exact o5 _ _ nb z⟩
        rw [tk2, ← List.append_assoc]
        exact (A5.mono (keepL h5)).append ⟨(U.mono k35).mono (keepL h5), trivial⟩
      · rintro H5 ⟨ws, h5, A5, wl, o5⟩
        rw [xl, List.take_length] at A5
        refine ⟨ws, h5, ?_, by omega, fun b o z => o5 _ _ (ne_of_none z hD2) (s4 _ _ z)⟩
        rw [tk, List.flatten_append]
        simpa using A5
    · rintro H4 ⟨zs, h4, A4, zl, s4⟩
      rw [List.length_map, rl, List.take_of_length_le (by rw [rowsL_len]; exact Nat.le_refl _)] at A4
      exact q D2 zs H4 (same_noneO s3 hD2) h4 A4 (s3.trans s4)
end
end Rp

set_option maxHeartbeats 8000000
/-! Defs called by names; is_closed of a right TERM; _law_tall. -/
namespace Rp
open PySem PySem.Spec PyProof.Rows L2 TL
section
variable {X : Cx} {p pos : Pos} {x : Str} {kws : List Keyword} {tk : TA}
variable {CX : CXT} {k : Nat} {f : Addr} {fd : FuncData} {ps ks : List Str} {sp : Sp} {E : XK} {g : List Value → List Value → List Value} {gV : List V → List V → List V}
/-- f(k = v, ..) -/
theorem pe_callK0 (F : FnOk X.prog X.w X.K X.mg X.base CX k f fd ps sp) (hr : Room k X.A) (hg : Gl X x) (hm : X.mg x = some (.ref f)) (hk : PySem.W.keepIn X.K (.ref f) = true) (hb : KBinds X.K fd ps ks g gV) (hx : Passes CX X E)
    (hkw : PK X kws tk) (hall : (backToKw pos (keywordEach kws X.env)).all (·.1.isSome) = true := by rfl) (hks : (backToKw pos (keywordEach kws X.env)).filterMap (·.1) = ks := by rfl)
    (hdb : (x == ("__debug__" : Str)) = false := by decide) (hpl : ((backTo pos (starEach [] X.env)).any (·.1) || (backToKw pos (keywordEach kws X.env)).any (·.1.isNone)) = false := by rfl) :
    PE X (.Call (.Name x p) [] kws pos) (tCallK sp gV E tNil tk) := by
  refine ⟨fun pins s σ H Q I h => ?_⟩
  refine wpAny_Call_Name_kw (ld_glob I hg hm ?_ hdb)
  refine PySem.W.callWith_KW0 (h₀ := X.base) I.ok.mod.kin hk hall (thn (hkw.run pos pins s σ H _ I h) fun ws s2 ⟨zs, H2, I2, rz, q2⟩ => ⟨I2.kIn, ?_⟩) hpl
  rw [hks]
  exact run_fnk F hr hb hx I2 .nil rz q2
end
theorem kb1 {K : PySem.W.Frag} {x q : Str} {st : Stmt} {f : Addr} {fd : FuncData} {p : Str} (F : Fun K x q st f fd)
    (h : ∀ (kV doc pm : Value) (an : Option Addr) (cdv ct w : Value), bindArgs (PySem.W.fnOf x q (defArgs st) (defBody st) (defScope st) .none kV doc pm an cdv ct) ⟨[], [(p, w)]⟩ = pure [(p, w)])
    (h' : ∀ (kV doc pm : Value) (an : Option Addr) (cdv ct w : Value), bindArgs (PySem.W.fnOf x q (defArgs st) (defBody st) (defScope st) .none kV doc pm an cdv ct) ⟨[w], []⟩ = pure [(p, w)]) : KBinds K fd [p] [p] (fun us ws => us ++ ws) fun vs zs => vs ++ zs := by
  obtain ⟨oc, od, kV, doc, pm, an, cdv, ct, osl, rfl, lk, hcd⟩ := F.ex
  refine ⟨fun s us ws _ hl => .of_eq ?_, fun r r' => r.append r'⟩
  match us, ws, hl with
  | [], [w], _ => exact h kV doc pm an cdv ct w
  | [w], [], _ => exact h' kV doc pm an cdv ct w
def gsw {α : Type} : List α → List α → List α
  | [], [b, t] => [t, b]
  | us, ws => us ++ ws
theorem kb_put {K : PySem.W.Frag} {f : Addr} {fd : FuncData} (F : Fun K "put" "put" sPut f fd) : KBinds K fd ["term", "binding"] ["binding", "term"] gsw gsw := by
  obtain ⟨oc, od, kV, doc, pm, an, cdv, ct, osl, rfl, lk, hcd⟩ := F.ex
  refine ⟨fun s us ws _ hl => .of_eq ?_, fun {vs us zs ws} r r' => ?_⟩
  · match us, ws, hl with
    | [], [_, _], _ => rfl
    | [_], [_], _ => rfl
    | [_, _], [], _ => rfl
    | [], [], h => exact absurd h (by simp [gsw])
    | [], [_], h => exact absurd h (by simp [gsw])
    | [], _ :: _ :: _ :: _, h => exact absurd h (by simp [gsw])
    | [_], [], h => exact absurd h (by simp [gsw])
    | [_], _ :: _ :: _, h => exact absurd h (by simp [gsw])
    | [_, _], _ :: _, h => exact absurd h (by simp [gsw])
    | _ :: _ :: _ :: _, _, h => exact absurd h (by simp [gsw])
  · cases r with
    | nil =>
      cases r' with
      | nil => exact .nil
      | cons a t =>
        cases t with
        | nil => exact .cons a .nil
        | cons b t =>
          cases t with
          | nil => exact .cons b (.cons a .nil)
          | cons c t => exact .cons a (.cons b (.cons c t))
    | cons a t => exact Vals.append (.cons a t) r'
def spClosedT : Sp := fun vs H Q _ => ∃ (v : V) (t : Tm), vs = [v] ∧ TmAt H v t ∧ t.small ∧ t.size ≤ 60 ∧ ∀ H', Same H H' → Q (.bl (decide (t.nums = []))) H'
def spTall : Sp := fun vs H Q _ => ∃ (b : Addr) (j : Nat), vs = [.ref b] ∧ BoxAt H b j ∧ j + 70 ≤ 1000000 ∧ ∀ (v : V) (t : Tm) (H' : Hp), TmAt H' v t → t.small → t.size = 40 → BoxAt H' b (j + 70) → But b H H' → Q v H'
abbrev NTa : List Str := ["_law_box_here", "_law_way", "_law_fresh", "_law_tree_here", "_law_turn", "_law_more"]
theorem tm_ok8 : ∀ t : Tm, (tmD t).canLay0 = true ∧ (tmD t).depth ≤ t.size ∧ nd (tmD t) ≤ 2 * t.size := fun t => ⟨(tm_ok t).1, Nat.le_trans (tm_ok t).2.1 (by have := Tm.deep_lt t; omega), (tm_ok t).2.2⟩
section
variable {P : Program} {w : World} {K : PySem.W.Frag} {mg : Str → Option Value} {base : Heap}
theorem scClosed : FnScope ["thing"] ["thing"] (defScope sClosed) := ⟨rfl, rfl, rfl, by decide +kernel, rfl, by decide +kernel, by decide +kernel⟩
theorem ok_closedt {f fT fV : Addr} {fd dT dV : FuncData} (F : Fun K "is_closed" "is_closed" sClosed f fd)
    (GT : FnOk P w K mg base CX0 3 fT dT ["thing"] spTerm) (kT : PySem.W.keepIn K (.ref fT) = true) (bT : Binds K dT ["thing"] []) (mT : mg "is_term" = some (.ref fT))
    (GV : FnOk P w K mg base CX0 3 fV dV ["term"] spVars) (kV : PySem.W.keepIn K (.ref fV) = true) (bV : Binds K dV ["term"] []) (mV : mg "variables" = some (.ref fV)) :
    FnOk P w K mg base CX0 4 f fd ["thing"] spClosedT := by
  refine F.ok scClosed (fun vs H Q E h => ?_) (fun cdv A outer s H vs Q E hr h => ?_)
  · obtain ⟨v, t, rfl, _⟩ := h
    rfl
  obtain ⟨v, t, rfl, T, sm, sz, q⟩ := h
  refine ⟨_, pss_one (ps_ret (pe_and (pe_call GT hr rfl mT kT bT .nil pass0 (pa_cons (pv 0) pa_nil)) (pe_one (pe_notT (pe_call GV hr rfl mV kV bV .nil pass0 (pa_cons (pv 0) pa_nil)))))), ?_⟩
  have tl := tm_ok8 t
  refine ⟨_, rfl, (0 : Nat), v, tmD t, rfl, T.dat, ⟨tl.1, by omega⟩, by omega, fun r H1 hr1 s1 => ?_⟩
  obtain rfl : r = true := hr1.mpr ⟨t, rfl, sm⟩
  refine ⟨true, rfl, iteT ?_⟩
  refine ⟨_, rfl, v, t, rfl, T.same s1, sz, fun p ns H2 hp h2 up mem s2 => ?_⟩
  refine ⟨_, .inl ⟨_, .inl (.inl h2), rfl⟩, ?_⟩
  have e : (!!(ns.map V.int).isEmpty) = decide (t.nums = []) := by
    rw [Bool.not_not, Bool.eq_iff_iff, List.isEmpty_iff, decide_eq_true_iff]
    constructor
    · intro e
      have e' : ns = [] := by simpa using e
      rw [List.eq_nil_iff_forall_not_mem]
      intro k hk
      have := (mem k).mpr hk
      rw [e'] at this
      simp at this
    · intro e
      have : ns = [] := by
        rw [List.eq_nil_iff_forall_not_mem]
        intro k hk
        have := (mem k).mp hk
        rw [e] at this
        simp at this
      rw [this]; rfl
  rw [e]
  exact q H2 (s1.trans s2)
theorem scTa : FnScope NTa ["_law_box_here"] (defScope sTall) := ⟨rfl, rfl, rfl, by decide +kernel, rfl, by decide +kernel, by decide +kernel⟩
theorem ok_tall {f fT fP fTree : Addr} {fd dT dP dTree : FuncData} (F : Fun K "_law_tall" "_law_tall" sTall f fd)
    (GT : FnOk P w K mg base CX0 1 fT dT ["_law_box_here", "_law_count"] spTake) (kT : PySem.W.keepIn K (.ref fT) = true) (bT : Binds K dT ["_law_box_here", "_law_count"] []) (mT : mg "_law_take" = some (.ref fT))
    (GP : FnOk P w K mg base CX0 2 fP dP ["_law_box_here", "_law_things"] spPick) (kP : PySem.W.keepIn K (.ref fP) = true) (bP : Binds K dP ["_law_box_here", "_law_things"] []) (mP : mg "_law_pick" = some (.ref fP))
    (GTree : FnOk P w K mg base CX0 42 fTree dTree ["_law_box_here", "_law_room", "_law_fresh"] (spTree 40)) (kTree : PySem.W.keepIn K (.ref fTree) = true) (bTree : Binds K dTree ["_law_box_here", "_law_room", "_law_fresh"] []) (mTree : mg "_law_tree" = some (.ref fTree))
    (mRange : mg "range" = none) : FnOk P w K mg base CX0 43 f fd ["_law_box_here"] spTall := by
  refine F.ok scTa (fun vs H Q E h => ?_) (fun cdv A outer s H vs Q E hr h => ?_)
  · obtain ⟨b, j, rfl, _⟩ := h
    rfl
  obtain ⟨b, j, rfl, B, hj, q⟩ := h
  have r1 : Room 1 _ := hr.mono (by decide)
  have r2 : Room 2 _ := hr.mono (by decide)
  have r42 : Room 42 _ := hr
  refine ⟨_, (pss_cons (ps_par (i := 1) (j := 2) rfl scTa.nd rfl rfl (by decide) rfl rfl (pa_cons (pe_call GT r1 rfl mT kT bT .nil pass0 (pa_cons (pv 0) (pa_cons pe_int pa_nil))) (pa_cons (pe_lst (pa_cons (pe_call GT r1 rfl mT kT bT .nil pass0 (pa_cons (pv 0) (pa_cons pe_int pa_nil))) (pa_cons (pe_call GT r1 rfl mT kT bT .nil pass0 (pa_cons (pv 0) (pa_cons pe_int pa_nil))) pa_nil))) pa_nil)) (by rfl))
    (pss_cons (ps_set (i := 3) scTa.nd rfl (Or.inl rfl) (pe_call GP r2 rfl mP kP bP .nil pass0 (pa_cons (pv 0) (pa_cons (pv 2) pa_nil))))
    (pss_cons (ps_if (pt_cmpR op_eq (pv 1) pe_int (nomark _)) (pss_cons (ps_for PassesOwn.never rfl (pi_range1 (by rfl) mRange (pa_cons pe_int pa_nil)) (pg_name (i := 4) scTa.nd rfl (Or.inl rfl)) (pss_one (ps_set (i := 3) scTa.nd rfl (Or.inl rfl) (pe_tup (pa_cons pe_str (pa_cons (pv 3) pa_nil))))))
    (pss_one (ps_ret (pv 3)))) pss_nil)
    (pss_cons (ps_if (pt_cmpR op_eq (pv 1) pe_int (nomark _)) (pss_one (ps_ret (pe_call GTree r42 rfl mTree kTree bTree .nil pass0 (pa_cons (pv 0) (pa_cons pe_int (pa_cons (pv 2) pa_nil)))))) pss_nil)
    (pss_cons (ps_for PassesOwn.never rfl (pi_range1 (by rfl) mRange (pa_cons pe_int pa_nil)) (pg_name (i := 4) scTa.nd rfl (Or.inl rfl)) (pss_cons (ps_set (i := 5) scTa.nd rfl (Or.inl rfl) (pe_call GP r2 rfl mP kP bP .nil pass0 (pa_cons (pv 0) (pa_cons (pe_op op_cat (pv 2) (pe_lst (pa_cons (pe_tup (pa_cons pe_str pa_nil)) pa_nil))) pa_nil))))
    (pss_one (ps_set (i := 3) scTa.nd rfl (Or.inl rfl) (pe_ifExp (pt_cmpR op_eq (pv 1) pe_int (nomark _)) (pe_tup (pa_cons pe_str (pa_cons (pv 3) (pa_cons (pv 5) pa_nil)))) (pe_tup (pa_cons pe_str (pa_cons (pv 5) (pa_cons (pv 3) pa_nil)))))))))
    (pss_one (ps_ret (pe_tup (pa_cons pe_str (pa_cons (pv 3) pa_nil)))))))))), ?_⟩
  have big : (10000 : Nat) ≤ sizeLine := by decide
  have smv : ∀ {n : Int}, 0 ≤ n → n < 100 → (Tm.v n).small := fun h0 h1 k hk => by
    obtain rfl : k = _ := by simpa [Tm.nums] using hk
    omega
  refine ⟨_, rfl, b, _, _, rfl, B, by omega, by decide, by decide, fun wy H1 w0 w1 B1 o1 => ?_⟩
  refine ⟨_, rfl, b, _, _, rfl, B1, by omega, by decide, by decide, fun x1 H2 a0 a1 B2 o2 => ?_⟩
  refine ⟨_, rfl, b, _, _, rfl, B2, by omega, by decide, by decide, fun x2 H3 c0 c1 B3 o3 => ?_⟩
  refine ⟨(by show 2 ≤ sizeLine; decide), fun g hg => ?_⟩
  have s4 := same_new hg (.lst [V.int x1, V.int x2])
  have B4 := B3.same s4
  have gb : g ≠ b := by
    obtain ⟨x, y, z, hb, _⟩ := B3.ex
    exact (ne_of_none hb hg).symm
  have hg4 : (upd H3 g (.lst [V.int x1, V.int x2])) g = some (.lst [V.int x1, V.int x2]) := upd_same
  have o4 : But b H (upd H3 g (.lst [V.int x1, V.int x2])) := o1.trans (o2.trans (o3.trans (but_of s4)))
  generalize upd H3 g (.lst [V.int x1, V.int x2]) = H4 at s4 B4 hg4 o4 ⊢
  refine ⟨_, _, rfl, ?_⟩
  refine ⟨_, rfl, _, rfl, b, g, _, _, rfl, B4, by omega, hg4, gb, by simp, by simp, fun v H5 mv B5 o5 => ?_⟩
  have hg5 := o5 _ _ hg4 gb
  obtain ⟨t0, T0, sm0, z0⟩ : ∃ t, TmAt H5 v t ∧ t.small ∧ t.size = 1 := by
    simp only [List.mem_cons, List.not_mem_nil, or_false] at mv
    rcases mv with rfl | rfl
    · exact ⟨.v x1, .v x1, smv a0 a1, rfl⟩
    · exact ⟨.v x2, .v x2, smv c0 c1, rfl⟩
  have o45 := o4.trans o5
  refine ⟨_, rfl, rfl, decide (V.int wy = V.int 0), rfl, ?_⟩
  by_cases e0 : V.int wy = V.int 0
  · rw [decide_eq_true e0]
    refine iteT ⟨39, rfl, by decide, by decide, for_range (lo := 0) (n := 39) (fun i σ H6 => ∃ (x4 : Option V) (u : V) (t : Tm), σ = [some (.ref b), some (.int wy), some (.ref g), some u, x4, none] ∧ TmAt H6 u t ∧ t.small ∧ t.size = 1 + i ∧ Same H5 H6)
      ⟨_, _, t0, rfl, T0, sm0, z0, Same.refl _⟩ ?_ ?_⟩
    · rintro i σ H6 hi ⟨x4, u, t, rfl, T, sm, sz, s6⟩
      refine ⟨_, rfl, (by show 2 ≤ sizeLine; decide), fun c hc => ?_⟩
      have s7 := same_new hc (.tup [V.str "s", u])
      exact ⟨_, _, .s t, rfl, .s upd_same (T.same s7), fun n hn => sm n hn, by show t.size + 1 = _; omega, s6.trans s7⟩
    · rintro σ H6 ⟨x4, u, t, rfl, T, sm, sz, s6⟩
      exact ⟨_, rfl, q u t H6 T sm (by omega) ((B5.same s6).more (by omega)) (o45.trans (but_of s6))⟩
  · rw [decide_eq_false e0]
    refine iteF ⟨_, rfl, rfl, decide (V.int wy = V.int 3), rfl, ?_⟩
    by_cases e3 : V.int wy = V.int 3
    · rw [decide_eq_true e3]
      refine iteT ⟨_, rfl, _, rfl, b, g, [x1, x2], _, 40, rfl, B5, by show _ + 40 ≤ _; omega, hg5, gb, by simp, by decide, by decide, fun u t H6 T sz nn B6 o6 => ?_⟩
      refine q u t H6 T (fun n hn => ?_) sz (B6.more (by show _ + 40 ≤ _; omega)) (o45.trans o6)
      have := nn n hn
      simp only [List.mem_cons, List.not_mem_nil, or_false] at this
      omega
    · rw [decide_eq_false e3]
      refine iteF ⟨19, rfl, by decide, by decide, for_range (lo := 0) (n := 19) (fun i σ H6 => ∃ (x4 x5 : Option V) (u : V) (t : Tm), σ = [some (.ref b), some (.int wy), some (.ref g), some u, x4, x5] ∧ TmAt H6 u t ∧ t.small ∧ t.size = 1 + 2 * i ∧ BoxAt H6 b (j + 4 + i) ∧ But b H5 H6)
        ⟨_, _, _, t0, rfl, T0, sm0, z0, B5, But.refl _ _⟩ ?_ ?_⟩
      · rintro i σ H6 hi ⟨x4, x5, u, t, rfl, T, sm, sz, B6, o6⟩
        have hg6 := o6 _ _ hg5 gb
        refine ⟨_, rfl, _, rfl, (by show 1 ≤ sizeLine; decide), fun c hc => ?_⟩
        have s7 := same_new hc (.tup [V.str "0"])
        refine ⟨(by show 1 ≤ sizeLine; decide), fun l hl => ?_⟩
        have s8 := same_new hl (.lst [V.ref c])
        refine ⟨g, l, _, _, rfl, rfl, s8 _ _ (s7 _ _ hg6), upd_same, by show 3 ≤ sizeLine; decide, fun l2 hl2 => ?_⟩
        have s9 := same_new hl2 (.lst ([V.int x1, V.int x2] ++ [V.ref c]))
        have s69 := s7.trans (s8.trans s9)
        have hc9 := (s8.trans s9) _ _ (upd_same (H := H6) (a := c) (o := .tup [V.str "0"]))
        have l2b : l2 ≠ b := by
          obtain ⟨x, y, z, hb, _⟩ := ((B6.same s7).same s8).ex
          exact (ne_of_none hb hl2).symm
        refine ⟨b, l2, _, _, rfl, B6.same s69, by omega, upd_same, l2b, by simp, by simp, fun y H7 my B7 o7 => ?_⟩
        have hb69 := B6.same s69
        have T7 : TmAt H7 u t := by
          obtain ⟨x, y', z, hb, _⟩ := hb69.ex
          exact TmAt.but o7 hb (T.same s69)
        obtain ⟨t1, T1, sm1, z1⟩ : ∃ t, TmAt H7 y t ∧ t.small ∧ t.size = 1 := by
          simp only [List.cons_append, List.nil_append, List.mem_cons, List.not_mem_nil, or_false] at my
          rcases my with rfl | rfl | rfl
          · exact ⟨.v x1, .v x1, smv a0 a1, rfl⟩
          · exact ⟨.v x2, .v x2, smv c0 c1, rfl⟩
          · refine ⟨.z, .z (o7 _ _ hc9 ?_), fun n hn => by simp [Tm.nums] at hn, rfl⟩
            obtain ⟨x, y', z, hb, _⟩ := hb69.ex
            exact ne_of hc9 hb (by intro e; cases e)
        have o67 : But b H5 H7 := o6.trans ((but_of s69).trans o7)
        refine ⟨_, rfl, rfl, decide (V.int wy = V.int 1), rfl, ?_⟩
        by_cases e1 : V.int wy = V.int 1
        · rw [decide_eq_true e1]
          refine iteT ⟨_, rfl, _, rfl, (by show 3 ≤ sizeLine; decide), fun d hd => ?_⟩
          have s10 := same_new hd (.tup [V.str "f", u, y])
          exact ⟨_, _, _, .f t t1, rfl, .f upd_same (T7.same s10) (T1.same s10), fun n hn => (List.mem_append.mp hn).elim (sm n) (sm1 n), by show t.size + t1.size + 1 = _; omega, (B7.same s10).more (by omega), o67.trans (but_of s10)⟩
        · rw [decide_eq_false e1]
          refine iteF ⟨_, rfl, _, rfl, (by show 3 ≤ sizeLine; decide), fun d hd => ?_⟩
          have s10 := same_new hd (.tup [V.str "f", y, u])
          exact ⟨_, _, _, .f t1 t, rfl, .f upd_same (T1.same s10) (T7.same s10), fun n hn => (List.mem_append.mp hn).elim (sm1 n) (sm n), by show t1.size + t.size + 1 = _; omega, (B7.same s10).more (by omega), o67.trans (but_of s10)⟩
      · rintro σ H6 ⟨x4, x5, u, t, rfl, T, sm, sz, B6, o6⟩
        refine ⟨_, rfl, (by show 2 ≤ sizeLine; decide), fun c hc => ?_⟩
        have s7 := same_new hc (.tup [V.str "s", u])
        exact q _ (.s t) _ (.s upd_same (T.same s7)) (fun n hn => sm n hn) (by show t.size + 1 = 40; omega) ((B6.same s7).more (by omega)) (o45.trans (o6.trans (but_of s7)))
end
end Rp

set_option maxHeartbeats 8000000
/-! _law_same, where a tuple may stand plain or not; what is alike. -/
namespace Rp
open PySem PySem.Spec PyProof.Rows L2 TL RZ
def AlikeP (H : Hp) : Nat → V → V → Prop
  | 0, x, y => Plain x ∧ x = y
  | n + 1, x, y => (Plain x ∧ x = y) ∨ ∃ a b xs ys, x = .ref a ∧ y = .ref b ∧ ((H a = some (.lst xs) ∧ H b = some (.lst ys)) ∨ (TupAt H a xs ∧ TupAt H b ys)) ∧
      xs.length = ys.length ∧ xs.length ≤ 1000000 ∧ ∀ (i : Nat) (u v : V), xs[i]? = some u → ys[i]? = some v → AlikeP H n u v
theorem AlikeP.mono {H H' : Hp} (e : Same H H') : ∀ (n : Nat) {x y : V}, AlikeP H n x y → AlikeP H' n x y
  | 0, _, _, h => by unfold AlikeP at h ⊢; exact h
  | n + 1, x, y, h => by
    unfold AlikeP at h ⊢
    rcases h with h | ⟨a, b, xs, ys, h1, h2, h3, h4, h5, h6⟩
    · exact .inl h
    · exact .inr ⟨a, b, xs, ys, h1, h2, h3.imp (fun q => ⟨e _ _ q.1, e _ _ q.2⟩) (fun q => ⟨q.1.same e, q.2.same e⟩), h4, h5, fun i u v p q => AlikeP.mono e n (h6 i u v p q)⟩
def spSameP (n : Nat) : Sp := fun vs H Q _ => ∃ (x y : V) (m : Nat), vs = [x, y] ∧ n = m + 1 ∧ AlikeP H m x y ∧ ∀ H', Same H H' → Q (.bl true) H'
theorem alikeP_of {H : Hp} : ∀ {n : Nat} {x y : V}, Alike H n x y → AlikeP H n x y
  | 0, _, _, h => by unfold Alike at h; unfold AlikeP; exact h
  | n + 1, x, y, h => by
    unfold Alike at h
    unfold AlikeP
    rcases h with h | ⟨a, b, xs, ys, h1, h2, h3, h4, h5, h6⟩
    · exact .inl h
    · exact .inr ⟨a, b, xs, ys, h1, h2, h3.imp id (fun q => ⟨.inl q.1, .inl q.2⟩), h4, h5, fun i u v p q => alikeP_of (h6 i u v p q)⟩
theorem AlikeP.up {H : Hp} : ∀ {n : Nat} {x y : V}, AlikeP H n x y → AlikeP H (n + 1) x y
  | 0, x, y, h => by unfold AlikeP at h ⊢; exact .inl h
  | n + 1, x, y, h => by
    unfold AlikeP at h ⊢
    rcases h with h | ⟨a, b, xs, ys, h1, h2, h3, h4, h5, h6⟩
    · exact .inl h
    · exact .inr ⟨a, b, xs, ys, h1, h2, h3, h4, h5, fun i u v p q => AlikeP.up (h6 i u v p q)⟩
theorem alikeP_tm {H : Hp} {t : Tm} {n : Nat} {x y : V} (h : TmAt H x t) (h' : TmAt H y t) (hd : t.deep < n) : AlikeP H n x y := alikeP_of (alike_tm h h' hd)
theorem alikeP_pl {H : Hp} {n : Nat} {x : V} (p : Plain x) : AlikeP H n x x := alikeP_of (alike_plain p)
theorem alikeP_l {H : Hp} {n : Nat} {a b : Addr} {xs ys : List V} (ha : H a = some (.lst xs)) (hb : H b = some (.lst ys)) (l : xs.length = ys.length) (few : xs.length ≤ 100) (h : ∀ (i : Nat) (u v : V), xs[i]? = some u → ys[i]? = some v → AlikeP H n u v) : AlikeP H (n + 1) (.ref a) (.ref b) := by
  unfold AlikeP
  exact .inr ⟨a, b, xs, ys, rfl, rfl, .inl ⟨ha, hb⟩, l, by omega, h⟩
theorem at0 {P : V → V → Prop} : ∀ (i : Nat) (u v : V), ([] : List V)[i]? = some u → ([] : List V)[i]? = some v → P u v := by
  intro i u v e1; simp at e1
theorem atC {P : V → V → Prop} {a c : V} {xs ys : List V} (h1 : P a c) (h2 : ∀ (i : Nat) (u v : V), xs[i]? = some u → ys[i]? = some v → P u v) : ∀ (i : Nat) (u v : V), (a :: xs)[i]? = some u → (c :: ys)[i]? = some v → P u v := by
  intro i u v e1 e2
  match i with
  | 0 => simp at e1 e2; subst e1 e2; exact h1
  | i + 1 => exact h2 i u v (by simpa using e1) (by simpa using e2)
theorem prs_of {H : Hp} : ∀ {ps : List Addr} {bd : Bd}, Paired (PrAt H) ps bd → PrsAt H (ps.map V.ref) bd
  | _, _, .nil => trivial
  | _, _, .cons (b := (n, t)) ⟨y, h, T⟩ r => ⟨⟨_, y, rfl, h, T⟩, prs_of r⟩
theorem bi_of {H : Hp} {a : Addr} {bd : Bd} (h : BdAt H a bd) : BiAt H (.ref a) bd := by
  obtain ⟨ps, ⟨o, _, hp⟩, pr, _, _⟩ := h
  exact ⟨a, ps.map V.ref, rfl, .inr ⟨o, hp⟩, prs_of pr⟩
theorem prs_alike {H : Hp} {n : Nat} : ∀ {ps : Prs} {xs ys : List V}, (∀ p ∈ ps, p.2.size ≤ n) → PrsAt H xs ps → PrsAt H ys ps → ∀ (i : Nat) (u v : V), xs[i]? = some u → ys[i]? = some v → AlikeP H (n + 1) u v
  | [], [], [], _, _, _, i, u, v, h, _ => by simp at h
  | (m, t) :: ps, x :: xs, y :: ys, hs, A, B, 0, u, v, h, h' => by
    obtain rfl : x = u := by simpa using h
    obtain rfl : y = v := by simpa using h'
    obtain ⟨b, y1, rfl, h1, T1⟩ := A.1
    obtain ⟨c, y2, rfl, h2, T2⟩ := B.1
    unfold AlikeP
    have sz := hs (m, t) (by simp)
    have dl := Tm.deep_lt t
    exact .inr ⟨b, c, _, _, rfl, rfl, .inr ⟨.inl h1, .inl h2⟩, rfl, by simp, atC (alikeP_pl trivial) (atC (alikeP_tm T1 T2 (by have : t.size ≤ n := sz; omega)) at0)⟩
  | (m, t) :: ps, x :: xs, y :: ys, hs, A, B, i + 1, u, v, h, h' => prs_alike (fun p hp => hs p (by simp [hp])) A.2 B.2 i u v (by simpa using h) (by simpa using h')
theorem bi_alike {H : Hp} {ps : Prs} {x y : V} (few : ps.length ≤ 100) (sz : ∀ p ∈ ps, p.2.size ≤ 40) (h : BiAt H x ps) (h' : BiAt H y ps) : AlikeP H 42 x y := by
  obtain ⟨a, xs, rfl, ha, A⟩ := h
  obtain ⟨b, ys, rfl, hb, B⟩ := h'
  have l1 := A.len
  have l2 := B.len
  unfold AlikeP
  exact .inr ⟨a, b, xs, ys, rfl, rfl, .inr ⟨ha, hb⟩, by omega, by omega, prs_alike sz A B⟩
section
variable {P : Program} {w : World} {K : PySem.W.Frag} {mg : Str → Option Value} {base : Heap}
theorem ok_sameP {n : Nat} {f : Addr} {fd : FuncData} (F : Fun K "_law_same" "_law_same" sSame f fd) (b2 : Binds K fd ["_law_found", "_law_due"] []) (mF : mg "_law_same" = some (.ref f)) (G : FnOk P w K mg base CX0 n f fd ["_law_found", "_law_due"] (spSameP n)) (M : SameG mg) :
    FnOk P w K mg base CX0 (n + 1) f fd ["_law_found", "_law_due"] (spSameP (n + 1)) := by
  refine F.ok scSame (fun vs H Q E h => ?_) (fun cdv A outer s H vs Q E hr h => ?_)
  · obtain ⟨x, y, m, rfl, _⟩ := h
    rfl
  obtain ⟨x, y, m, rfl, em, hA, q⟩ := h
  have em : n = m := by omega
  subst em
  refine ⟨_, pss_cons (ps_if (pt_val (pe_callB (id := "isinstance") call_isiT (by rfl) M.isi (by decide +kernel) (pa_cons (pv 1) (pa_cons (pe_tup (pa_cons (pe_bltn (v := .ty "list") (by rfl) M.list (by decide +kernel) rfl) (pa_cons (pe_bltn (v := .ty "tuple") (by rfl) M.tuple (by decide +kernel) rfl) pa_nil))) pa_nil))))
      (pss_cons (ps_if (PW.pt (pw_or (pt_cmpR op_ne
            (pe_callB (id := "isinstance") call_isi (by rfl) M.isi (by decide +kernel) (pa_cons (pv 0) (pa_cons (pe_bltn (v := .ty "list") (by rfl) M.list (by decide +kernel) rfl) pa_nil)))
            (pe_callB (id := "isinstance") call_isi (by rfl) M.isi (by decide +kernel) (pa_cons (pv 1) (pa_cons (pe_bltn (v := .ty "list") (by rfl) M.list (by decide +kernel) rfl) pa_nil))) (nomark _))
          (pw_or1 (pt_cmpR op_ne
            (pe_callB (id := "isinstance") call_isi (by rfl) M.isi (by decide +kernel) (pa_cons (pv 0) (pa_cons (pe_bltn (v := .ty "tuple") (by rfl) M.tuple (by decide +kernel) rfl) pa_nil)))
            (pe_callB (id := "isinstance") call_isi (by rfl) M.isi (by decide +kernel) (pa_cons (pv 1) (pa_cons (pe_bltn (v := .ty "tuple") (by rfl) M.tuple (by decide +kernel) rfl) pa_nil))) (nomark _))))) (pss_one (ps_ret pe_bl)) pss_nil)
      (pss_cons (ps_if (pt_cmpR op_ne (pe_callB call_len_seq (by rfl) M.len PySem.boot_len (pa_cons (pv 0) pa_nil)) (pe_callB call_len_seq (by rfl) M.len PySem.boot_len (pa_cons (pv 1) pa_nil)) (nomark _)) (pss_one (ps_ret pe_bl)) pss_nil)
      (pss_one (ps_ret (pe_callB (cr_all rfl) (by rfl) M.all (by decide +kernel) (pa_cons (pe_lc (own := [("_law_one", 2), ("_law_two", 3)]) (g := gTup K 2 (gCons (gName 2) (gCons (gName 3) gNil))) (tt := tYes) (te := tCall (spSameP n) [] E0 (tCons (tVar 2) (tCons (tVar 3) tNil))) rfl scSame.nd
        (pi_zipA (by rfl) M.zip (pa_cons (pv 0) (pa_cons (pv 1) pa_nil))) (blkOk_by (N := ["_law_found", "_law_due", "_law_one", "_law_two"]) (sc := defScope sSame) (by decide +kernel))
        (fun _ _ _ _ _ => pg_tup (by rfl) (pgs_cons (pg_name (i := 2) scSame.nd rfl (Or.inl rfl)) (pgs_cons (pg_name (i := 3) scSame.nd rfl (Or.inl rfl)) pgs_nil)))
        (fun _ _ _ _ _ => pts_nil) (fun _ _ _ _ _ => pe_call G hr (by rfl) mF F.kp b2 .nil pass0 (pa_cons (pv 2) (pa_cons (pv 3) pa_nil)))) pa_nil)))))) pss_nil)
    (pss_cons (ps_if (PW.pt (pw_or (pt_cmpR op_isN (pv 1) pe_non (nomark _)) (pw_or1 (pt_val (pe_callB (id := "isinstance") call_isi (by rfl) M.isi (by decide +kernel) (pa_cons (pv 1) (pa_cons (pe_bltn (v := .ty "str") (by rfl) M.str (by decide +kernel) rfl) pa_nil)))))))
      (pss_one (ps_ret (pe_and (pe_cmpR op_eq (pv 0) (pv 1) (nomark _)) (pe_one (pe_cmpR op_eq
            (pe_callB (id := "isinstance") call_isi (by rfl) M.isi (by decide +kernel) (pa_cons (pv 0) (pa_cons (pe_bltn (v := .ty "str") (by rfl) M.str (by decide +kernel) rfl) pa_nil)))
            (pe_callB (id := "isinstance") call_isi (by rfl) M.isi (by decide +kernel) (pa_cons (pv 1) (pa_cons (pe_bltn (v := .ty "str") (by rfl) M.str (by decide +kernel) rfl) pa_nil))) (nomark _)))))) pss_nil)
    (pss_one (ps_ret (pe_and (pe_callB (id := "isinstance") call_isi (by rfl) M.isi (by decide +kernel) (pa_cons (pv 0) (pa_cons (pe_bltn (v := .ty "int") (by rfl) M.int (by decide +kernel) rfl) pa_nil)))
      (pe_and (pe_cmpR op_eq
            (pe_callB (id := "isinstance") call_isi (by rfl) M.isi (by decide +kernel) (pa_cons (pv 0) (pa_cons (pe_bltn (v := .ty "bool") (by rfl) M.bool (by decide +kernel) rfl) pa_nil)))
            (pe_callB (id := "isinstance") call_isi (by rfl) M.isi (by decide +kernel) (pa_cons (pv 1) (pa_cons (pe_bltn (v := .ty "bool") (by rfl) M.bool (by decide +kernel) rfl) pa_nil))) (nomark _))
        (pe_one (pe_cmpR op_eq (pv 0) (pv 1) (nomark _)))))))), ?_⟩
  refine ⟨_, rfl, (by show 2 ≤ sizeLine; decide), fun p hp => ?_⟩
  have s1 := same_new hp (.tup [V.ty "list", V.ty "tuple"])
  have plain : Plain x ∧ x = y ∨ ∃ m a b xs ys, n = m + 1 ∧ x = .ref a ∧ y = .ref b ∧ ((H a = some (.lst xs) ∧ H b = some (.lst ys)) ∨ (TupAt H a xs ∧ TupAt H b ys)) ∧
      xs.length = ys.length ∧ xs.length ≤ 1000000 ∧ ∀ (i : Nat) (u v : V), xs[i]? = some u → ys[i]? = some v → AlikeP H m u v := by
    cases n with
    | zero => unfold AlikeP at hA; exact .inl hA
    | succ m =>
      unfold AlikeP at hA
      rcases hA with h | ⟨a, b, xs, ys, h⟩
      · exact .inl h
      · exact .inr ⟨m, a, b, xs, ys, rfl, h⟩
  rcases plain with ⟨px, rfl⟩ | ⟨m, a, b, xs, ys, rfl, rfl, rfl, kinds, hl, hz, each⟩
  · cases x with
    | int i =>
      refine ⟨_, p, _, _, [.type "list", .type "tuple"], false, rfl, upd_same, .cons (.ty _) (.cons (.ty _) .nil), .base (.int i), kit_lt (p := false) (r := false) (by decide +kernel) (by decide +kernel), false, rfl, iteF ?_⟩
      refine ⟨_, rfl, rfl, false, congrArg V.bl (decide_eq_false (fun z => nomatch z)), iteF ?_⟩
      refine ⟨_, rfl, _, _, _, _, false, rfl, .ty "str", .base (.int i), kitB_of (by decide +kernel), false, rfl, iteF ?_⟩
      refine ⟨_, rfl, _, _, _, _, true, rfl, .ty "int", .base (.int i), kitB_of (by decide +kernel), true, rfl, iteT ?_⟩
      refine ⟨_, rfl, _, _, _, _, false, rfl, .ty "bool", .base (.int i), kitB_of (by decide +kernel), _, rfl, _, _, _, _, false, rfl, .ty "bool", .base (.int i), kitB_of (by decide +kernel), rfl, true, congrArg V.bl (decide_eq_true rfl), iteT ?_⟩
      refine ⟨_, rfl, _, rfl, rfl, ?_⟩
      have e : decide (V.int i = V.int i) = true := decide_eq_true rfl
      rw [e]
      exact q _ s1
    | bl i =>
      refine ⟨_, p, _, _, [.type "list", .type "tuple"], false, rfl, upd_same, .cons (.ty _) (.cons (.ty _) .nil), .base (.bl i), kit_lt (p := false) (r := false) (by decide +kernel) (by decide +kernel), false, rfl, iteF ?_⟩
      refine ⟨_, rfl, rfl, false, congrArg V.bl (decide_eq_false (fun z => nomatch z)), iteF ?_⟩
      refine ⟨_, rfl, _, _, _, _, false, rfl, .ty "str", .base (.bl i), kitB_of (by decide +kernel), false, rfl, iteF ?_⟩
      refine ⟨_, rfl, _, _, _, _, true, rfl, .ty "int", .base (.bl i), kitB_of (by decide +kernel), true, rfl, iteT ?_⟩
      refine ⟨_, rfl, _, _, _, _, true, rfl, .ty "bool", .base (.bl i), kitB_of (by decide +kernel), _, rfl, _, _, _, _, true, rfl, .ty "bool", .base (.bl i), kitB_of (by decide +kernel), rfl, true, congrArg V.bl (decide_eq_true rfl), iteT ?_⟩
      refine ⟨_, rfl, _, rfl, rfl, ?_⟩
      have e : decide (V.bl i = V.bl i) = true := decide_eq_true rfl
      rw [e]
      exact q _ s1
    | str i =>
      refine ⟨_, p, _, _, [.type "list", .type "tuple"], false, rfl, upd_same, .cons (.ty _) (.cons (.ty _) .nil), .base (.str i), kit_lt (p := false) (r := false) (by decide +kernel) (by decide +kernel), false, rfl, iteF ?_⟩
      refine ⟨_, rfl, rfl, false, congrArg V.bl (decide_eq_false (fun z => nomatch z)), iteF ?_⟩
      refine ⟨_, rfl, _, _, _, _, true, rfl, .ty "str", .base (.str i), kitB_of (by decide +kernel), true, rfl, iteT ?_⟩
      refine ⟨_, rfl, _, rfl, rfl, true, congrArg V.bl (decide_eq_true rfl), iteT ?_⟩
      refine ⟨_, rfl, _, _, _, _, true, rfl, .ty "str", .base (.str i), kitB_of (by decide +kernel), _, rfl, _, _, _, _, true, rfl, .ty "str", .base (.str i), kitB_of (by decide +kernel), rfl, ?_⟩
      have e : decide (V.bl true = V.bl true) = true := decide_eq_true rfl
      rw [e]
      exact q _ s1
    | non =>
      refine ⟨_, p, _, _, [.type "list", .type "tuple"], false, rfl, upd_same, .cons (.ty _) (.cons (.ty _) .nil), .base .non, kit_lt (p := false) (r := false) (by decide +kernel) (by decide +kernel), false, rfl, iteF ?_⟩
      refine ⟨_, rfl, rfl, true, congrArg V.bl (decide_eq_true rfl), iteT ?_⟩
      refine iteT ?_
      refine ⟨_, rfl, _, rfl, rfl, true, congrArg V.bl (decide_eq_true rfl), iteT ?_⟩
      refine ⟨_, rfl, _, _, _, _, false, rfl, .ty "str", .base .non, kitB_of (by decide +kernel), _, rfl, _, _, _, _, false, rfl, .ty "str", .base .non, kitB_of (by decide +kernel), rfl, ?_⟩
      have e : decide (V.bl false = V.bl false) = true := decide_eq_true rfl
      rw [e]
      exact q _ s1
    | _ => exact px.elim
  · rcases kinds with ⟨ha, hb⟩ | ⟨ha, hb⟩
    · have ha1 := s1 _ _ ha
      have hb1 := s1 _ _ hb
      refine ⟨_, p, _, _, [.type "list", .type "tuple"], true, rfl, upd_same, .cons (.ty _) (.cons (.ty _) .nil), .base (.lst hb1), kit_lt (p := true) (r := false) (by decide +kernel) (by decide +kernel), true, rfl, iteT ?_⟩
      refine ⟨_, rfl, _, _, _, _, true, rfl, .ty "list", .base (.lst ha1), kitB_of (by decide +kernel), _, rfl, _, _, _, _, true, rfl, .ty "list", .base (.lst hb1), kitB_of (by decide +kernel), rfl, false, congrArg (fun z => V.bl (!z)) (decide_eq_true rfl), iteF ?_⟩
      refine ⟨_, rfl, _, _, _, _, false, rfl, .ty "tuple", .base (.lst ha1), kitB_of (by decide +kernel), _, rfl, _, _, _, _, false, rfl, .ty "tuple", .base (.lst hb1), kitB_of (by decide +kernel), rfl, false, congrArg (fun z => V.bl (!z)) (decide_eq_true rfl), iteF ?_⟩
      refine ⟨_, rfl, a, _, rfl, .inl (.inl (.inl ha1)), _, rfl, b, _, rfl, .inl (.inl (.inl hb1)), rfl, false, congrArg (fun z => V.bl (!z)) (decide_eq_true (by rw [hl])), iteF ?_⟩
      refine ⟨_, rfl, _, rfl, a, b, xs, ys, rfl, .inl ⟨.inl (.inl ha1), .inl (.inl hb1), fun D hD => ?_⟩⟩
      refine lc_pairs (J := Itz K a b) (xs := xs) (ys := ys) hl (fun i H2 => H2 D = some (.lst (List.replicate i (V.bl true))) ∧ Same _ H2)
        (fun H2 h => ⟨xs, ys, .inl (.inl (h.2 _ _ ha1)), .inl (.inl (h.2 _ _ hb1)), .inl (Nat.le_refl _)⟩)
        (fun i H2 lt h => ⟨xs, ys, xs[i], ys[i]'(by omega), .inl (.inl (h.2 _ _ ha1)), .inl (.inl (h.2 _ _ hb1)), List.getElem?_eq_getElem lt, List.getElem?_eq_getElem (by omega)⟩)
        (fun i H2 v H3 h ⟨T, u, v', e1, hT, e2, f1, f2⟩ => ⟨T, u, v', e1, f1 xs (.inl (.inl (h.2 _ _ ha1))), f2 ys (.inl (.inl (h.2 _ _ hb1))), hT, e2⟩)
        ⟨upd_same, same_new hD _⟩ (fun i u v T H2 hu hv h hT => ?_) (fun H2 h => ⟨D, List.replicate xs.length true, rfl, .inl (.inl (by rw [List.map_replicate]; exact h.1)), ?_⟩)
      · have sT := same_new hT (.tup [u, v])
        refine ⟨T, _, rfl, .inl (.inl upd_same), rfl, _, _, rfl, _, _, rfl, rfl, rfl, ?_⟩
        have lt : i < xs.length := (List.getElem?_eq_some_iff.mp hu).1
        refine ⟨_, rfl, _, rfl, u, v, m, rfl, rfl, AlikeP.mono (s1.trans (h.2.trans sT)) m (each i u v hu hv), fun H4 s4 => ⟨_, s4 _ _ (sT _ _ h.1), ?_, ?_, ?_⟩⟩
        · rw [List.length_replicate]; exact Nat.lt_of_lt_of_le (by omega : i < 1000000) (by decide)
        · rw [upd_same, List.replicate_succ']
        · intro c o z
          have nD : c ≠ D := fun e => by subst e; rw [hD] at z; cases z
          rw [upd_ne nD]
          exact s4 _ _ (sT _ _ (h.2 _ _ z))
      · have e : (List.replicate xs.length true).all id = true := by rw [List.all_eq_true]; intro x hx; rw [List.eq_of_mem_replicate hx]; rfl
        rw [e]
        exact q _ (s1.trans h.2)
    · have ha1 := ha.same s1
      have hb1 := hb.same s1
      refine ⟨_, p, _, _, [.type "list", .type "tuple"], true, rfl, upd_same, .cons (.ty _) (.cons (.ty _) .nil), tupAt_ty hb1, kit_lt (p := false) (r := true) (by decide +kernel) (by decide +kernel), true, rfl, iteT ?_⟩
      refine ⟨_, rfl, _, _, _, _, false, rfl, .ty "list", tupAt_ty ha1, kitB_of (by decide +kernel), _, rfl, _, _, _, _, false, rfl, .ty "list", tupAt_ty hb1, kitB_of (by decide +kernel), rfl, false, congrArg (fun z => V.bl (!z)) (decide_eq_true rfl), iteF ?_⟩
      refine ⟨_, rfl, _, _, _, _, true, rfl, .ty "tuple", tupAt_ty ha1, kitB_of (by decide +kernel), _, rfl, _, _, _, _, true, rfl, .ty "tuple", tupAt_ty hb1, kitB_of (by decide +kernel), rfl, false, congrArg (fun z => V.bl (!z)) (decide_eq_true rfl), iteF ?_⟩
      refine ⟨_, rfl, a, _, rfl, .inr (.inl ha1), _, rfl, b, _, rfl, .inr (.inl hb1), rfl, false, congrArg (fun z => V.bl (!z)) (decide_eq_true (by rw [hl])), iteF ?_⟩
      refine ⟨_, rfl, _, rfl, a, b, xs, ys, rfl, .inr ⟨.inl ha1, .inl hb1, fun D hD => ?_⟩⟩
      refine lc_pairs (J := ItzT K a b) (xs := xs) (ys := ys) hl (fun i H2 => H2 D = some (.lst (List.replicate i (V.bl true))) ∧ Same _ H2)
        (fun H2 h => ⟨xs, ys, .inl (ha1.same h.2), .inl (hb1.same h.2), .inl (Nat.le_refl _)⟩)
        (fun i H2 lt h => ⟨xs, ys, xs[i], ys[i]'(by omega), .inl (ha1.same h.2), .inl (hb1.same h.2), List.getElem?_eq_getElem lt, List.getElem?_eq_getElem (by omega)⟩)
        (fun i H2 v H3 h ⟨T, u, v', e1, hT, e2, f1, f2⟩ => ⟨T, u, v', e1, f1 xs (.inl (ha1.same h.2)), f2 ys (.inl (hb1.same h.2)), hT, e2⟩)
        ⟨upd_same, same_new hD _⟩ (fun i u v T H2 hu hv h hT => ?_) (fun H2 h => ⟨D, List.replicate xs.length true, rfl, .inl (.inl (by rw [List.map_replicate]; exact h.1)), ?_⟩)
      · have sT := same_new hT (.tup [u, v])
        refine ⟨T, _, rfl, .inl (.inl upd_same), rfl, _, _, rfl, _, _, rfl, rfl, rfl, ?_⟩
        have lt : i < xs.length := (List.getElem?_eq_some_iff.mp hu).1
        refine ⟨_, rfl, _, rfl, u, v, m, rfl, rfl, AlikeP.mono (s1.trans (h.2.trans sT)) m (each i u v hu hv), fun H4 s4 => ⟨_, s4 _ _ (sT _ _ h.1), ?_, ?_, ?_⟩⟩
        · rw [List.length_replicate]; exact Nat.lt_of_lt_of_le (by omega : i < 1000000) (by decide)
        · rw [upd_same, List.replicate_succ']
        · intro c o z
          have nD : c ≠ D := fun e => by subst e; rw [hD] at z; cases z
          rw [upd_ne nD]
          exact s4 _ _ (sT _ _ (h.2 _ _ z))
      · have e : (List.replicate xs.length true).all id = true := by rw [List.all_eq_true]; intro x hx; rw [List.eq_of_mem_replicate hx]; rfl
        rw [e]
        exact q _ (s1.trans h.2)
theorem same_okP {f : Addr} {fd : FuncData} (F : Fun K "_law_same" "_law_same" sSame f fd) (b2 : Binds K fd ["_law_found", "_law_due"] []) (mF : mg "_law_same" = some (.ref f)) (M : SameG mg) :
    ∀ n : Nat, FnOk P w K mg base CX0 n f fd ["_law_found", "_law_due"] (spSameP n)
  | 0 => none_left fun vs H Q E h => by
    obtain ⟨x, y, m, _, e, _⟩ := h
    omega
  | n + 1 => ok_sameP F b2 mF (same_okP F b2 mF M n) M
end
end Rp

set_option maxHeartbeats 16000000
/-! _law_right of k08. -/
namespace Rp
open PySem PySem.Spec PyProof.Rows L2 TL StX NdefX LamX
def spRi (T : List NTab) : Sp := fun vs H Q _ => ∃ (b : Addr) (j : Nat), vs = [.ref b] ∧ BoxAt H b j ∧ j + 300 ≤ 1000000 ∧ TabsN T H ∧ ∀ H', ExtB T b H H' → Q (.bl true) H'
abbrev NRi : List Str := ["_law_box_here", "_law_tree_here", "_law_other", "_law_pairs", "_law_variable", "_law_own", "_law_due", "_law_row_text", "_law_pairs_text", "_law_told", "_law_leaves_here", "_law_one"]
theorem look_mem8 {bd : Bd} {n : Int} {t : Tm} (h : bd.lookup n = some t) : (n, t) ∈ bd := by
  induction bd with
  | nil => cases h
  | cons p bd ih =>
    obtain ⟨m, u⟩ := p
    rw [List.lookup_cons] at h
    by_cases e : n = m
    · subst e; simp at h; subst h; simp
    · rw [beq_eq_false_iff_ne.mpr e] at h
      exact List.mem_cons_of_mem _ (ih h)
theorem put_deep {bd : Bd} (ok : ∀ p ∈ bd, p.2.size ≤ 40) : ∀ t : Tm, (t.put bd).deep ≤ t.deep + 40
  | .v n => by
    show ((bd.lookup n).getD (.v n)).deep ≤ _
    cases e : bd.lookup n with
    | none => show (Tm.v n).deep ≤ _; omega
    | some t => have sz : t.size ≤ 40 := ok _ (look_mem8 e); have d := Tm.deep_lt t; show t.deep ≤ (Tm.v n).deep + 40; omega
  | .z => by show (Tm.z).deep ≤ _; omega
  | .s t => by have := put_deep ok t; show (t.put bd).deep + 1 ≤ t.deep + 1 + 40; omega
  | .f l r => by
    have h1 := put_deep ok l
    have h2 := put_deep ok r
    show max (l.put bd).deep (r.put bd).deep + 1 ≤ max l.deep r.deep + 1 + 40
    omega
theorem rising_len8 {ns ms : List Int} (h : ns.Pairwise (· < ·)) (sub : ∀ k ∈ ns, k ∈ ms) : ns.length ≤ ms.length := by
  induction ns generalizing ms with
  | nil => exact Nat.zero_le _
  | cons n r ih =>
    obtain ⟨h1, h2⟩ := List.pairwise_cons.mp h
    have hn := sub n (by simp)
    have := ih (ms := ms.erase n) h2 fun k hk => (List.mem_erase_of_ne (by have := h1 k hk; omega)).mpr (sub k (by simp [hk]))
    rw [List.length_erase_of_mem hn] at this
    have : 0 < ms.length := List.length_pos_of_mem hn
    simp only [List.length_cons]
    omega
theorem small_v {n : Int} (h : 0 ≤ n ∧ n ≤ 99) : (Tm.v n).small := fun k hk => by
  obtain rfl : k = n := by simpa [Tm.nums] using hk
  exact h
theorem join_hi : ∀ {l : List Str}, (∀ x ∈ l, ∀ d ∈ tl x, d ≤ 120) → ∀ d ∈ tl (Str.join " " l), d ≤ 120
  | [], _, d, hd => by
    have : tl (Str.join " " []) = [] := rfl
    rw [this] at hd; simp at hd
  | [x], h, d, hd => h x (by simp) d hd
  | x :: y :: r, h, d, hd => by
    have e : Str.join " " (x :: y :: r) = x ++ " " ++ Str.join " " (y :: r) := rfl
    rw [e, tl_append, tl_append, List.mem_append, List.mem_append] at hd
    rcases hd with (hd | hd) | hd
    · exact h x (by simp) d hd
    · have : tl (" " : Str) = [32] := by decide +kernel
      rw [this] at hd
      simp at hd; omega
    · exact join_hi (fun z hz => h z (by simp [hz])) d hd
theorem btxt_hi {bd : Prs} (ok : PrOk bd) : ∀ d ∈ tl (btxt bd), d ≤ 120 := by
  intro d hd
  unfold btxt at hd
  split at hd
  · have : tl ("-" : Str) = [45] := by decide +kernel
    rw [this] at hd; simp at hd; omega
  · rw [TL.join_eq] at hd
    refine join_hi (fun x hx => ?_) d hd
    obtain ⟨p, hp, rfl⟩ := List.mem_map.mp hx
    exact row_hi (ok.num p hp).1 (ok.sm p hp)
theorem eqv_strsA8 : ∀ {a : List Str}, PyData.eqvAll (a.map PyData.str) (a.map PyData.str) = true
  | [] => by simp only [List.map_nil, PyData.eqvAll]
  | x :: xs => by
    have e : PyData.eqv (.str x) (.str x) = true := eqv_str.mpr rfl
    rw [List.map_cons, eqvAll_cons, e, eqv_strsA8]; rfl
theorem flat_ty {K : PySem.W.Frag} {H : Hp} {x : V} (h : Flat2 x) : (∃ n, x = .int n) ∨ (∃ s, x = .str s) := by
  cases x with
  | int n => exact .inl ⟨n, rfl⟩
  | str s => exact .inr ⟨s, rfl⟩
  | _ => exact h.elim
theorem AlikeP.ups {H : Hp} {x y : V} {n m : Nat} (h : AlikeP H n x y) (le : n ≤ m) : AlikeP H m x y := by
  obtain ⟨k, rfl⟩ := Nat.exists_eq_add_of_le le
  clear le
  induction k with
  | zero => exact h
  | succ k ih => exact ih.up
theorem alikeP_ints {H : Hp} {n : Nat} {a b : Addr} {ns : List Int} (ha : H a = some (.lst (ns.map V.int))) (hb : H b = some (.lst (ns.map V.int))) (hl : ns.length ≤ 1000000) : AlikeP H (n + 1) (.ref a) (.ref b) := alikeP_of (alike_ints ha hb hl)
theorem rowInts_len8 : ∀ l : List V, (rowInts l).length ≤ l.length
  | [] => Nat.le_refl _
  | x :: r => by have := rowInts_len8 r; cases x <;> simp [rowInts] <;> omega
theorem tup_but {H H' : Hp} {b a : Addr} {j : Nat} {xs : List V} (o : But b H H') (B : BoxAt H b j) (h : H a = some (.tup xs)) : H' a = some (.tup xs) := by
  obtain ⟨x, y, z, hb, _⟩ := B.ex
  exact o _ _ h (ne_of h hb (by intro e; cases e))
theorem TmAt.butB {H H' : Hp} {b : Addr} {j : Nat} {v : V} {t : Tm} (o : But b H H') (B : BoxAt H b j) (T : TmAt H v t) : TmAt H' v t := T.mono fun a xs h => tup_but o B h
theorem box_ne8 {H : Hp} {a b : Addr} {j : Nat} (B : BoxAt H b j) (h : H a = none) : a ≠ b := by
  obtain ⟨x, y, z, hb, _⟩ := B.ex
  exact (ne_of_none hb h).symm
theorem Paired.snoc8 {α β : Type} {R : α → β → Prop} : ∀ {l : List α} {m : List β} {a : α} {b : β}, Paired R l m → R a b → Paired R (l ++ [a]) (m ++ [b])
  | _, _, _, _, .nil, g => .cons g .nil
  | _, _, _, _, .cons h t, g => .cons h (Paired.snoc8 t g)
theorem ints_shaped8 (l : List Int) : SeqAt.shaped (.list (l.map PyData.int)) = true := by
  have c : PyData.canLayAll0 (l.map PyData.int) = true := by
    induction l with
    | nil => rfl
    | cons a l ih => show (true && PyData.canLayAll0 (l.map PyData.int)) = true; rw [ih]; rfl
  have d : PyData.depthAll (l.map PyData.int) ≤ 1 := by
    clear c
    induction l with
    | nil => decide
    | cons a l ih => simp only [List.map_cons, PyData.depthAll, PyData.depth]; omega
  refine shaped_of c ?_
  show PyData.depthAll _ + 1 ≤ 64
  omega
theorem dp_ints8 {K : PySem.W.Frag} {H : Hp} : ∀ l : List Int, DpAll K H (l.map V.int) (l.map PyData.int)
  | [] => .nil
  | n :: l => .cons (.int n) (dp_ints8 l)
theorem eqv_nil8 {l : List Int} : PyData.eqv (.list (l.map PyData.int)) (.list []) = decide (l = []) := by
  cases l <;> simp [PyData.eqv, PyData.eqvAll]
section
variable {P : Program} {w : World} {K : PySem.W.Frag} {mg : Str → Option Value} {base : Heap}
theorem scRi : FnScope NRi ["_law_box_here"] (defScope sRight) := ⟨rfl, rfl, rfl, by decide +kernel, rfl, by decide +kernel, by decide +kernel⟩
theorem ok_ri {T : List NTab} {f fTa fP fLP fPu fS fTx fLB fTt fBt fTI fBI fIB fLv fV fZ fIT fCl : Addr} {fd dTa dP dLP dPu dS dTx dLB dTt dBt dTI dBI dIB dLv dV dZ dIT dCl : FuncData} (F : Fun K "_law_right" "_law_right" sRight f fd)
    (GTa : FnOk P w K mg base CX0 43 fTa dTa ["_law_box_here"] spTall) (kTa : PySem.W.keepIn K (.ref fTa) = true) (bTa : Binds K dTa ["_law_box_here"] []) (mTa : mg "_law_tall" = some (.ref fTa))
    (GP : FnOk P w K mg base CX0 2 fP dP ["_law_box_here", "_law_things"] spPick) (kP : PySem.W.keepIn K (.ref fP) = true) (bP : Binds K dP ["_law_box_here", "_law_things"] []) (mP : mg "_law_pick" = some (.ref fP))
    (GLP : FnOk P w K mg base CX0 40 fLP dLP ["_law_tree_here", "_law_pairs"] (spLPut 40)) (kLP : PySem.W.keepIn K (.ref fLP) = true) (bLP : Binds K dLP ["_law_tree_here", "_law_pairs"] []) (mLP : mg "_law_put" = some (.ref fLP))
    (GPu : FnOk P w K mg base CX0 4 fPu dPu ["term", "binding"] (spPut T)) (kPu : PySem.W.keepIn K (.ref fPu) = true) (bPu : Binds K dPu ["term", "binding"] []) (mPu : mg "put" = some (.ref fPu)) (FPu : Fun K "put" "put" sPut fPu dPu)
    (GS : FnOk P w K mg base CX0 83 fS dS ["_law_found", "_law_due"] (spSameP 83)) (kS : PySem.W.keepIn K (.ref fS) = true) (bS : Binds K dS ["_law_found", "_law_due"] []) (mS : mg "_law_same" = some (.ref fS))
    (GTx : FnOk P w K mg base CX0 64 fTx dTx ["_law_tree_here"] (spLText 64)) (kTx : PySem.W.keepIn K (.ref fTx) = true) (bTx : Binds K dTx ["_law_tree_here"] []) (mTx : mg "_law_text" = some (.ref fTx))
    (GLB : FnOk P w K mg base CX0 65 fLB dLB ["_law_pairs"] spBText) (kLB : PySem.W.keepIn K (.ref fLB) = true) (bLB : Binds K dLB ["_law_pairs"] []) (mLB : mg "_law_binding_text" = some (.ref fLB))
    (GTt : FnOk P w K mg base CX0 4 fTt dTt ["term"] spTermText) (kTt : PySem.W.keepIn K (.ref fTt) = true) (bTt : Binds K dTt ["term"] []) (mTt : mg "term_text" = some (.ref fTt)) (FTt : Fun K "term_text" "term_text" sTermText fTt dTt)
    (GBt : FnOk P w K mg base CX0 5 fBt dBt ["binding"] spBText) (kBt : PySem.W.keepIn K (.ref fBt) = true) (bBt : Binds K dBt ["binding"] []) (mBt : mg "binding_text" = some (.ref fBt)) (FBt : Fun K "binding_text" "binding_text" sBindingText fBt dBt)
    (GTI : FnOk P w K mg base CX0 6 fTI dTI ["text"] spTermOr) (kTI : PySem.W.keepIn K (.ref fTI) = true) (bTI : Binds K dTI ["text"] []) (mTI : mg "term_in" = some (.ref fTI)) (FTI : Fun K "term_in" "term_in" sTermIn fTI dTI)
    (GBI : FnOk P w K mg base CX0 8 fBI dBI ["text"] spBOr) (kBI : PySem.W.keepIn K (.ref fBI) = true) (bBI : Binds K dBI ["text"] []) (mBI : mg "binding_in" = some (.ref fBI)) (FBI : Fun K "binding_in" "binding_in" sBindingIn fBI dBI)
    (GIB : FnOk P w K mg base CX0 5 fIB dIB ["thing"] spIsBi) (kIB : PySem.W.keepIn K (.ref fIB) = true) (bIB : Binds K dIB ["thing"] []) (mIB : mg "is_binding" = some (.ref fIB)) (FIB : Fun K "is_binding" "is_binding" sIsBinding fIB dIB)
    (GLv : FnOk P w K mg base CX0 64 fLv dLv ["_law_tree_here"] (spLeaves 64)) (kLv : PySem.W.keepIn K (.ref fLv) = true) (bLv : Binds K dLv ["_law_tree_here"] []) (mLv : mg "_law_leaves" = some (.ref fLv))
    (GV : FnOk P w K mg base CX0 3 fV dV ["term"] spVars) (kV : PySem.W.keepIn K (.ref fV) = true) (bV : Binds K dV ["term"] []) (mV : mg "variables" = some (.ref fV)) (FV : Fun K "variables" "variables" sVars fV dV)
    (GZ : FnOk P w K mg base CX0 3 fZ dZ ["term"] spSize) (kZ : PySem.W.keepIn K (.ref fZ) = true) (bZ : Binds K dZ ["term"] []) (mZ : mg "size" = some (.ref fZ)) (FZ : Fun K "size" "size" sSize fZ dZ)
    (GIT : FnOk P w K mg base CX0 3 fIT dIT ["thing"] spTerm) (kIT : PySem.W.keepIn K (.ref fIT) = true) (bIT : Binds K dIT ["thing"] []) (mIT : mg "is_term" = some (.ref fIT)) (FIT : Fun K "is_term" "is_term" sTerm fIT dIT)
    (GCl : FnOk P w K mg base CX0 4 fCl dCl ["thing"] spClosedT) (kCl : PySem.W.keepIn K (.ref fCl) = true) (bCl : Binds K dCl ["thing"] []) (mCl : mg "is_closed" = some (.ref fCl)) (FCl : Fun K "is_closed" "is_closed" sClosed fCl dCl)
    (M : SameG mg) (mRange : mg "range" = none) (mSorted : mg "sorted" = none) (mSet : mg "set" = none) : FnOk P w K mg base CX0 84 f fd ["_law_box_here"] (spRi T) := by
  refine F.ok scRi (fun vs H Q E h => ?_) (fun cdv A outer s H vs Q E hr h => ?_)
  · obtain ⟨b, j, rfl, _⟩ := h
    rfl
  obtain ⟨b, j, rfl, B, hj, hT, q⟩ := h
  have r2 : Room 2 _ := hr.mono (by decide)
  have r3 : Room 3 _ := hr.mono (by decide)
  have r4 : Room 4 _ := hr.mono (by decide)
  have r5 : Room 5 _ := hr.mono (by decide)
  have r6 : Room 6 _ := hr.mono (by decide)
  have r8 : Room 8 _ := hr.mono (by decide)
  have r40 : Room 40 _ := hr.mono (by decide)
  have r43 : Room 43 _ := hr.mono (by decide)
  have r64 : Room 64 _ := hr.mono (by decide)
  have r65 : Room 65 _ := hr.mono (by decide)
  have r83 : Room 83 _ := hr.mono (by decide)
  refine ⟨_, (pss_cons (ps_par (i := 1) (j := 2) rfl scRi.nd rfl rfl (by decide) rfl rfl (pa_cons (pe_call GTa r43 rfl mTa kTa bTa .nil pass0 (pa_cons (pv 0) pa_nil)) (pa_cons (pe_call GTa r43 rfl mTa kTa bTa .nil pass0 (pa_cons (pv 0) pa_nil)) pa_nil)) (by rfl))
    (pss_cons (ps_set (i := 3) scRi.nd rfl (Or.inl rfl) (pe_lst pa_nil))
    (pss_cons (ps_for PassesOwn.never rfl (pi_range1 (by rfl) mRange (pa_cons pe_int pa_nil)) (pg_name (i := 4) scRi.nd rfl (Or.inl rfl)) (pss_cons (ps_set (i := 5) scRi.nd rfl (Or.inl rfl) (pe_op op_cat (pe_lst (pa_cons (pv 4) (pa_cons (pe_tup (pa_cons pe_str pa_nil)) (pa_cons (pe_tup (pa_cons pe_str (pa_cons (pe_op op_sub pe_int (pv 4)) pa_nil))) pa_nil)))) (pe_op op_rep (pe_lst (pa_cons (pv 2) pa_nil)) (pe_callTy call_int1 (by rfl) M.int (by decide +kernel) (pa_cons (pe_cmpR op_eq (pe_op op_mod (pv 4) pe_int) pe_int (nomark _)) pa_nil)))))
    (pss_one (ps_expr (pe_bm PySem.F.plainAttrs_list PySem.F.slot_list_append PySem.F.type_list_append mt_append (pv 3) (pa_cons (pe_tup (pa_cons (pv 4) (pa_cons (pe_call GP r2 rfl mP kP bP .nil pass0 (pa_cons (pv 0) (pa_cons (pv 5) pa_nil))) pa_nil))) pa_nil))))))
    (pss_cons (ps_set (i := 3) scRi.nd rfl (Or.inl rfl) (pe_callTy cr_tupF (by rfl) M.tuple (by decide +kernel) (pa_cons (pv 3) pa_nil)))
    (pss_cons (ps_set (i := 6) scRi.nd rfl (Or.inl rfl) (pe_call GLP r40 rfl mLP kLP bLP .nil pass0 (pa_cons (pv 1) (pa_cons (pv 3) pa_nil))))
    (pss_cons (ps_if (pt_not (pt_val (pe_call GS r83 rfl mS kS bS .nil pass0 (pa_cons (pe_lst (pa_cons (pe_callK0 GPu r4 rfl mPu kPu (kb_put FPu) pass0 (pk_cons (pv 3) (pk_cons (pv 1) pk_nil))) (pa_cons (pe_call GPu r4 rfl mPu kPu bPu .nil pass0 (pa_cons (pv 1) (pa_cons (pv 3) pa_nil))) pa_nil))) (pa_cons (pe_lst (pa_cons (pv 6) (pa_cons (pv 6) pa_nil))) pa_nil))))) (pss_one (ps_ret pe_bl)) pss_nil)
    (pss_cons (ps_par (i := 7) (j := 8) rfl scRi.nd rfl rfl (by decide) rfl rfl (pa_cons (pe_call GTx r64 rfl mTx kTx bTx .nil pass0 (pa_cons (pv 1) pa_nil)) (pa_cons (pe_call GLB r65 rfl mLB kLB bLB .nil pass0 (pa_cons (pv 3) pa_nil)) pa_nil)) (by rfl))
    (pss_cons (ps_set (i := 9) scRi.nd rfl (Or.inl rfl) (pe_lst (pa_cons (pe_callK0 GTt r4 rfl mTt kTt (kb1 FTt (fun _ _ _ _ _ _ _ => rfl) (fun _ _ _ _ _ _ _ => rfl)) pass0 (pk_cons (pv 1) pk_nil)) (pa_cons (pe_callK0 GBt r5 rfl mBt kBt (kb1 FBt (fun _ _ _ _ _ _ _ => rfl) (fun _ _ _ _ _ _ _ => rfl)) pass0 (pk_cons (pv 3) pk_nil)) pa_nil))))
    (pss_cons (ps_if (PW.pt (pw_or (pt_cmpR (op_neD hr.units) (pv 9) (pe_lst (pa_cons (pv 7) (pa_cons (pv 8) pa_nil))) (nomark _)) (pw_or1 (pt_not (pt_val (pe_call GS r83 rfl mS kS bS .nil pass0 (pa_cons (pe_lst (pa_cons (pe_callK0 GTI r6 rfl mTI kTI (kb1 FTI (fun _ _ _ _ _ _ _ => rfl) (fun _ _ _ _ _ _ _ => rfl)) pass0 (pk_cons (pv 7) pk_nil)) (pa_cons (pe_call GTI r6 rfl mTI kTI bTI .nil pass0 (pa_cons (pv 7) pa_nil)) pa_nil))) (pa_cons (pe_lst (pa_cons (pv 1) (pa_cons (pv 1) pa_nil))) pa_nil)))))))) (pss_one (ps_ret pe_bl)) pss_nil)
    (pss_cons (ps_if (pt_not (pt_val (pe_call GS r83 rfl mS kS bS .nil pass0 (pa_cons (pe_lst (pa_cons (pe_callK0 GBI r8 rfl mBI kBI (kb1 FBI (fun _ _ _ _ _ _ _ => rfl) (fun _ _ _ _ _ _ _ => rfl)) pass0 (pk_cons (pv 8) pk_nil)) (pa_cons (pe_callK0 GIB r5 rfl mIB kIB (kb1 FIB (fun _ _ _ _ _ _ _ => rfl) (fun _ _ _ _ _ _ _ => rfl)) pass0 (pk_cons (pv 3) pk_nil)) pa_nil))) (pa_cons (pe_lst (pa_cons (pv 3) (pa_cons pe_bl pa_nil))) pa_nil))))) (pss_one (ps_ret pe_bl)) pss_nil)
    (pss_cons (ps_set (i := 10) scRi.nd rfl (Or.inl rfl) (pe_call GLv r64 rfl mLv kLv bLv .nil pass0 (pa_cons (pv 1) pa_nil)))
    (pss_cons (ps_set (i := 6) scRi.nd rfl (Or.inl rfl) (pe_lst (pa_cons (pe_callB (cr_sortedSet rfl) (by rfl) mSorted (by decide +kernel) (pa_cons (pe_callTy (cr_setI rfl) (by rfl) mSet (by decide +kernel) (pa_cons (pe_lc (own := [("_law_one", 11)]) (g := gName 11) (tt := tB (tCB (rIsi K) (tCons (tVar 11) (tCons (tC (.ty "int")) tNil)))) (te := tVar 11) rfl scRi.nd (pi_list (pv 10)) (blkOk_by (N := NRi) (sc := defScope sRight) (by decide +kernel)) (fun _ _ _ _ _ => (pg_name (i := 11) scRi.nd rfl (Or.inl rfl))) (fun _ _ _ _ _ => pts_one (pt_val (pe_callB (id := "isinstance") call_isi (by rfl) M.isi (by decide +kernel) (pa_cons (pv 11) (pa_cons (pe_bltn (v := .ty "int") (by rfl) M.int (by decide +kernel) rfl) pa_nil))))) (fun _ _ _ _ _ => pv 11)) pa_nil)) pa_nil)) (pa_cons pe_int (pa_cons pe_bl (pa_cons pe_bl pa_nil))))))
    (pss_cons (ps_asg (pe_cmpR (op_eqD hr.units) (pe_ix ix_list (pv 6) pe_int (fun _ _ => rfl)) (pe_lst pa_nil) (nomark _)) (pg_sub (pv 6) pe_int set_list))
    (pss_one (ps_ret (pe_call GS r83 rfl mS kS bS .nil pass0 (pa_cons (pe_lst (pa_cons (pe_callK0 GV r3 rfl mV kV (kb1 FV (fun _ _ _ _ _ _ _ => rfl) (fun _ _ _ _ _ _ _ => rfl)) pass0 (pk_cons (pv 1) pk_nil)) (pa_cons (pe_callK0 GZ r3 rfl mZ kZ (kb1 FZ (fun _ _ _ _ _ _ _ => rfl) (fun _ _ _ _ _ _ _ => rfl)) pass0 (pk_cons (pv 1) pk_nil)) (pa_cons (pe_callK0 GIT r3 rfl mIT kIT (kb1 FIT (fun _ _ _ _ _ _ _ => rfl) (fun _ _ _ _ _ _ _ => rfl)) pass0 (pk_cons (pv 1) pk_nil)) (pa_cons (pe_callK0 GCl r4 rfl mCl kCl (kb1 FCl (fun _ _ _ _ _ _ _ => rfl) (fun _ _ _ _ _ _ _ => rfl)) pass0 (pk_cons (pv 1) pk_nil)) pa_nil))))) (pa_cons (pv 6) pa_nil)))))))))))))))))), ?_⟩
  have big : (1000000 : Nat) ≤ sizeLine := by decide
  refine ⟨_, rfl, b, _, rfl, B, by omega, fun vt t H1 T1 sm1 z1 B1 o1 => ?_⟩
  refine ⟨_, rfl, b, _, rfl, B1, by omega, fun vo u H2 U2 sm2 z2 B2 o2 => ⟨_, _, rfl, ?_⟩⟩
  have T2 := T1.butB o2 B1
  have o02 := o1.trans o2
  refine ⟨(by show 0 ≤ sizeLine; decide), fun L hL => ?_⟩
  have s3 := same_new hL (.lst ([] : List V))
  have Lb : L ≠ b := box_ne8 B2 hL
  refine ⟨100, rfl, by decide, by decide, for_range (lo := 0) (n := 100) (fun i σ H3 => ∃ (x4 x5 : Option V) (ps : List Addr) (bd : Bd), σ = [some (.ref b), some vt, some vo, some (.ref L), x4, x5, none, none, none, none, none, none] ∧ H3 L = some (.lst (ps.map V.ref)) ∧ Paired (PrAt H3) ps bd ∧ bd.map (·.1) = (List.range i).map (fun k : Nat => (k : Int)) ∧ (∀ p ∈ bd, p.2.small ∧ p.2.size ≤ 40) ∧ BoxAt H3 b (j + 140 + i) ∧ But b H2 H3)
    ⟨_, _, [], [], rfl, upd_same, .nil, rfl, by simp, B2.same s3, but_of s3⟩ ?_ ?_⟩
  · rintro i σ H3 hi ⟨x4, x5, ps, bd, rfl, h3, P3, km, sz3, B3, o3⟩
    have kl := congrArg List.length km
    rw [List.length_map, List.length_map, List.length_range] at kl
    have pl := Paired.length P3
    have U3 := U2.butB o3 B2
    have ei : (0 : Int) + (i : Nat) = ((i : Nat) : Int) := by omega
    rw [ei]
    refine ⟨_, rfl, (by show 1 ≤ sizeLine; decide), fun z hz => ?_⟩
    have s4 := same_new hz (.tup [V.str "0"])
    have gz := (upd_same (H := H3) (a := z) (o := .tup [V.str "0"]))
    generalize upd H3 z (.tup [V.str "0"]) = H4 at s4 gz ⊢
    refine ⟨_, rfl, _, _, rfl, rfl, (by show 2 ≤ sizeLine; decide), fun c hc => ?_⟩
    have s5 := same_new hc (.tup [V.str "s", V.int (99 - (i : Nat))])
    have gc := (upd_same (H := H4) (a := c) (o := .tup [V.str "s", V.int (99 - (i : Nat))]))
    refine ⟨(by show 3 ≤ sizeLine; decide), fun l1 hl1 => ?_⟩
    have s6 := same_new hl1 (.lst [V.int (i : Nat), V.ref z, V.ref c])
    refine ⟨_, rfl, (by show 1 ≤ sizeLine; decide), fun l2 hl2 => ?_⟩
    have s7 := same_new hl2 (.lst [vo])
    have s37 := s4.trans (s5.trans (s6.trans s7))
    have gl1 := s7 _ _ (upd_same (a := l1) (o := .lst [V.int (i : Nat), V.ref z, V.ref c]))
    have gl2 := (upd_same (H := upd (upd H4 c (.tup [V.str "s", V.int (99 - (i : Nat))])) l1 (.lst [V.int (i : Nat), V.ref z, V.ref c])) (a := l2) (o := .lst [vo]))
    have Tz : TmAt (upd (upd (upd H4 c (.tup [V.str "s", V.int (99 - (i : Nat))])) l1 (.lst [V.int (i : Nat), V.ref z, V.ref c])) l2 (.lst [vo])) (.ref z) .z := .z ((s5.trans (s6.trans s7)) _ _ gz)
    have Tc : TmAt (upd (upd (upd H4 c (.tup [V.str "s", V.int (99 - (i : Nat))])) l1 (.lst [V.int (i : Nat), V.ref z, V.ref c])) l2 (.lst [vo])) (.ref c) (.s (.v (99 - (i : Nat)))) := .s ((s6.trans s7) _ _ gc) (.v _)
    generalize upd (upd (upd H4 c (.tup [V.str "s", V.int (99 - (i : Nat))])) l1 (.lst [V.int (i : Nat), V.ref z, V.ref c])) l2 (.lst [vo]) = H7 at s37 gl1 gl2 Tz Tc ⊢
    refine ⟨_, rfl, _, _, rfl, rfl, (show (0 : Int) < 5 by decide), rfl, .inr ⟨_, rfl, ?_⟩⟩
    generalize decide (V.int (((i : Nat) : Int) % 5) = V.int 0) = bb
    have zl : (List.replicate (Int.toNat (if bb = true then 1 else 0)) [vo]).flatten.length ≤ 1 := by cases bb <;> simp
    have zm : ∀ y ∈ (List.replicate (Int.toNat (if bb = true then 1 else 0)) [vo]).flatten, y = vo := by cases bb <;> simp
    refine ⟨l2, _, [vo], rfl, rfl, gl2, by cases bb <;> decide, by cases bb <;> decide, by cases bb <;> simp <;> omega, fun l3 hl3 => ?_⟩
    have s8 := same_new hl3 (.lst (List.replicate (Int.toNat (if bb = true then 1 else 0)) [vo]).flatten)
    refine ⟨l1, l3, _, _, rfl, rfl, s8 _ _ gl1, upd_same, by simp only [List.length_cons, List.length_nil]; omega, fun l4 hl4 => ?_⟩
    have s9 := same_new hl4 (.lst ([V.int (i : Nat), V.ref z, V.ref c] ++ (List.replicate (Int.toNat (if bb = true then 1 else 0)) [vo]).flatten))
    have gl4 := (upd_same (H := upd H7 l3 (.lst (List.replicate (Int.toNat (if bb = true then 1 else 0)) [vo]).flatten)) (a := l4) (o := .lst ([V.int (i : Nat), V.ref z, V.ref c] ++ (List.replicate (Int.toNat (if bb = true then 1 else 0)) [vo]).flatten)))
    have s39 := s37.trans (s8.trans s9)
    have s79 := s8.trans s9
    have l4b : l4 ≠ b := box_ne8 ((B3.same s37).same s8) hl4
    have zm2 : ∀ y ∈ [V.int (i : Nat), V.ref z, V.ref c] ++ (List.replicate (Int.toNat (if bb = true then 1 else 0)) [vo]).flatten, y = .int (i : Nat) ∨ y = .ref z ∨ y = .ref c ∨ y = vo := fun y hy => by
      rcases List.mem_append.mp hy with hy | hy
      · simp only [List.mem_cons, List.not_mem_nil, or_false] at hy
        rcases hy with h | h | h
        · exact .inl h
        · exact .inr (.inl h)
        · exact .inr (.inr (.inl h))
      · exact .inr (.inr (.inr (zm y hy)))
    have zl2 : ([V.int (i : Nat), V.ref z, V.ref c] ++ (List.replicate (Int.toNat (if bb = true then 1 else 0)) [vo]).flatten).length ≤ 4 ∧ 1 ≤ ([V.int (i : Nat), V.ref z, V.ref c] ++ (List.replicate (Int.toNat (if bb = true then 1 else 0)) [vo]).flatten).length := by
      rw [List.length_append]; simp only [List.length_cons, List.length_nil]; omega
    generalize [V.int (i : Nat), V.ref z, V.ref c] ++ (List.replicate (Int.toNat (if bb = true then 1 else 0)) [vo]).flatten = zs at s9 gl4 s39 s79 zm2 zl2 ⊢
    generalize upd (upd H7 l3 (.lst (List.replicate (Int.toNat (if bb = true then 1 else 0)) [vo]).flatten)) l4 (.lst zs) = H9 at gl4 s39 s79 ⊢
    have B9 := B3.same s39
    refine ⟨_, rfl, .inl ⟨rfl, _, .inl (.inl (s39 _ _ h3))⟩, _, rfl, _, rfl, _, rfl, b, l4, zs, _, rfl, B9, by omega, gl4, l4b, zl2.2, by omega, fun y H10 my B10 o10 => ⟨(by show 2 ≤ sizeLine; decide), fun d hd => ?_⟩⟩
    have s11 := same_new hd (.tup [V.int (i : Nat), y])
    have o3_10 : But b H3 H10 := (but_of s39).trans o10
    obtain ⟨ty, Ty, smy, szy⟩ : ∃ t, TmAt H10 y t ∧ t.small ∧ t.size ≤ 40 := by
      rcases zm2 y my with rfl | rfl | rfl | rfl
      · exact ⟨.v (i : Nat), .v _, small_v ⟨by omega, by omega⟩, by show 1 ≤ 40; decide⟩
      · exact ⟨.z, (Tz.same s79).butB o10 B9, fun n hn => by simp [Tm.nums] at hn, by show 1 ≤ 40; decide⟩
      · exact ⟨.s (.v (99 - (i : Nat))), (Tc.same s79).butB o10 B9, small_v ⟨by omega, by omega⟩, by show 2 ≤ 40; decide⟩
      · exact ⟨u, U3.butB o3_10 B3, sm2, by omega⟩
    have hL11 := s11 _ _ (o3_10 _ _ h3 Lb)
    have dL : d ≠ L := (ne_of_none (o3_10 _ _ h3 Lb) hd).symm
    refine ⟨L, _, _, rfl, rfl, hL11, by rw [List.length_map]; omega, ?_⟩
    have kL : ∀ q zs, H10 q = some (.tup zs) → (upd (upd H10 d (.tup [V.int (i : Nat), y])) L (.lst (ps.map V.ref ++ [.ref d]))) q = some (.tup zs) := fun q zs h => keepL hL11 _ _ (s11 _ _ h)
    refine ⟨_, _, ps ++ [d], bd ++ [(((i : Nat) : Int), ty)], rfl, by rw [upd_same, List.map_append]; rfl, Paired.snoc8 (L2.Paired.mapP P3 fun _ _ h => h.mono fun q zs h => kL q zs (tup_but o3_10 B3 h)) ⟨y, by rw [upd_ne dL, upd_same], Ty.mono kL⟩, by rw [List.map_append, km, List.range_succ, List.map_append]; rfl, fun p hp => ?_, ?_, ?_⟩
    · rcases List.mem_append.mp hp with hp | hp
      · exact sz3 p hp
      · obtain rfl : p = (((i : Nat) : Int), ty) := by simpa using hp
        exact ⟨smy, szy⟩
    · obtain ⟨a1, a2, a3, a4, a5⟩ := ((B10.same s11).more (by omega : _ ≤ j + 140 + (i + 1))).ex
      exact ⟨a1, a2, a3, by rw [upd_ne Lb.symm]; exact a4, a5⟩
    · intro q o h nq
      rw [upd_ne (ne_of_none h hL)]
      exact s11 _ _ (o3_10 _ _ (o3 _ _ h nq) nq)
  rintro σ H3 ⟨x4, x5, ps, bd, rfl, h3, P3, km, sz3, B3, o3⟩
  have kl := congrArg List.length km
  rw [List.length_map, List.length_map, List.length_range] at kl
  have up : (bd.map (·.1)).Pairwise (· < ·) := by
    rw [km]
    exact List.Pairwise.map _ (fun a b (h : a < b) => by omega) List.pairwise_lt_range
  have num : ∀ p ∈ bd, 0 ≤ p.1 ∧ p.1 ≤ 99 := fun p hp => by
    have : p.1 ∈ bd.map (·.1) := List.mem_map_of_mem hp
    rw [km] at this
    obtain ⟨k, hk, e⟩ := List.mem_map.mp this
    have := List.mem_range.mp hk
    omega
  have okp : PrOk bd := ⟨num, fun p hp => (sz3 p hp).1, fun p hp => (sz3 p hp).2, up, by omega⟩
  refine ⟨_, rfl, L, ps.map V.ref, rfl, .inl (.inl h3), fun a0 ob od ha => ?_⟩
  have s4 := same_new ha (.frz ob (.tup (ps.map V.ref)))
  have Bd4 : BdAt (upd H3 a0 (.frz ob (.tup (ps.map V.ref)))) a0 bd := ⟨ps, ⟨ob, od, upd_same⟩, L2.Paired.mapP P3 fun _ _ z => z.mono (Tups.same s4).1, up.imp (fun {a b} h => by omega), by omega⟩
  have T4 : TmAt (upd H3 a0 (.frz ob (.tup (ps.map V.ref)))) vt t := (T2.butB o3 B2).same s4
  have t4 : TabsN T (upd H3 a0 (.frz ob (.tup (ps.map V.ref)))) := by
    obtain ⟨x, y, z, hb, _⟩ := B.ex
    exact (tabs_but hT hb (o02.trans o3)).ext s4
  have e4 : ExtB T b H (upd H3 a0 (.frz ob (.tup (ps.map V.ref)))) := by
    obtain ⟨x, y, z, hb, _⟩ := B.ex
    exact (ExtB.but hT hb (o02.trans o3)).trans (ExtB.same (tabs_but hT hb (o02.trans o3)) s4)
  generalize upd H3 a0 (.frz ob (.tup (ps.map V.ref))) = H4 at Bd4 T4 t4 e4 ⊢
  clear s4 ha h3 P3 B3 o3 s3 T2 U2 T1 B1 o1 o2 B2
  have dt : t.deep < 40 := by have := Tm.deep_lt t; omega
  have sz40 : ∀ p ∈ bd, p.2.size ≤ 40 := fun p hp => (sz3 p hp).2
  have dp := put_deep sz40 t
  refine ⟨_, rfl, _, rfl, vt, t, a0, bd, rfl, T4, dt, Bd4, fun vd H5 Td s5 => ?_⟩
  have e5 : Ext T H4 H5 := Ext.same t4 s5
  refine ⟨_, rfl, _, rfl, vt, t, a0, bd, rfl, T4.same s5, by omega, Bd4.mono (Tups.same s5), e5.tab, fun v1 H6 Tv1 e6 => ?_⟩
  have e56 := e5.trans e6
  refine ⟨_, rfl, _, rfl, vt, t, a0, bd, rfl, T4.mono e56.tups.1, by omega, Bd4.mono e56.tups, e56.tab, fun v2 H7 Tv2 e7 => ⟨(by show 2 ≤ sizeLine; decide), fun l1 hl1 => ?_⟩⟩
  have s8 := same_new hl1 (.lst [v1, v2])
  refine ⟨_, rfl, _, rfl, (by show 2 ≤ sizeLine; decide), fun l2 hl2 => ?_⟩
  have s9 := same_new hl2 (.lst [vd, vd])
  have s89 := s8.trans s9
  have e9 := (e56.trans e7).trans (Ext.same e7.tab s89)
  have Td9 := ((Td.mono e6.tups.1).mono e7.tups.1).same s89
  have Tv19 := (Tv1.mono e7.tups.1).same s89
  have Tv29 := Tv2.same s89
  refine ⟨_, _, 82, rfl, rfl, alikeP_l (s9 _ _ upd_same) upd_same rfl (by simp) (atC (alikeP_tm Tv19 Td9 (by omega)) (atC (alikeP_tm Tv29 Td9 (by omega)) at0)), fun H10 s10 => ⟨true, rfl, iteF ?_⟩⟩
  have e10 := e9.trans (Ext.same e9.tab s10)
  have T10 := T4.mono e10.tups.1
  have Bd10 := Bd4.mono e10.tups
  have t10 := e10.tab
  have x10 : ExtB T b H H10 := e4.trans e10.toB
  clear Td9 Tv19 Tv29 Td Tv1 Tv2 e9 s9 s8 s89 e7 e6 e56 e5 s5 s10 e10 hl1 hl2 Bd4 T4 t4
  refine ⟨_, rfl, vt, t, rfl, T10, sm1, by omega, by omega, fun H11 s11 => ⟨_, rfl, .ref a0, bd, rfl, bi_of (Bd10.mono (Tups.same s11)), okp, fun H12 s12 => ⟨_, _, rfl, ?_⟩⟩⟩
  have s1012 := s11.trans s12
  refine ⟨_, rfl, vt, t, rfl, T10.same s1012, sm1, by omega, fun H13 s13 => ⟨_, rfl, .ref a0, bd, rfl, bi_of (Bd10.mono (Tups.same (s1012.trans s13))), okp, fun H14 s14 => ⟨(by show 2 ≤ sizeLine; decide), fun l3 hl3 => ?_⟩⟩⟩
  have s15 := same_new hl3 (.lst [V.str t.txt, V.str (btxt bd)])
  refine ⟨_, rfl, _, rfl, _, rfl, (by show 2 ≤ sizeLine; decide), fun l4 hl4 => ?_⟩
  have s16 := same_new hl4 (.lst [V.str t.txt, V.str (btxt bd)])
  have sh : SeqAt.shaped (.list ([t.txt, btxt bd].map PyData.str)) = true := strs_shaped fun x hx => by
    simp only [List.mem_cons, List.not_mem_nil, or_false] at hx
    rcases hx with rfl | rfl
    · exact lay_str (txt_hi t sm1)
    · exact lay_str (btxt_hi okp)
  refine ⟨.list ([t.txt, btxt bd].map PyData.str), .list ([t.txt, btxt bd].map PyData.str), .lst (.inl (.inl (s16 _ _ upd_same))) (dp_strs [t.txt, btxt bd]), .lst (.inl (.inl upd_same)) (dp_strs [t.txt, btxt bd]), sh, sh, _, rfl, ?_⟩
  have ev : PyData.eqv (.list ([t.txt, btxt bd].map PyData.str)) (.list ([t.txt, btxt bd].map PyData.str)) = true := by
    have : PyData.eqvAll ([t.txt, btxt bd].map PyData.str) ([t.txt, btxt bd].map PyData.str) = true := eqv_strsA8
    simpa only [PyData.eqv] using this
  rw [ev]
  have s1016 := s1012.trans (s13.trans (s14.trans (s15.trans s16)))
  refine iteF ?_
  refine ⟨_, rfl, t, rfl, sm1, by omega, fun v3 H17 T3 s17 => ⟨_, rfl, t, rfl, sm1, by omega, fun v4 H18 T4 s18 => ⟨(by show 2 ≤ sizeLine; decide), fun l5 hl5 => ?_⟩⟩⟩
  have s19 := same_new hl5 (.lst [v3, v4])
  refine ⟨_, rfl, _, rfl, (by show 2 ≤ sizeLine; decide), fun l6 hl6 => ?_⟩
  have s20 := same_new hl6 (.lst [vt, vt])
  have s1020 := s1016.trans (s17.trans (s18.trans (s19.trans s20)))
  have T20 := T10.same s1020
  refine ⟨_, _, 82, rfl, rfl, alikeP_l (s20 _ _ upd_same) upd_same rfl (by simp) (atC (alikeP_tm (T3.same (s18.trans (s19.trans s20))) T20 (by omega)) (atC (alikeP_tm (T4.same (s19.trans s20)) T20 (by omega)) at0)), fun H21 s21 => ⟨true, rfl, iteF ?_⟩⟩
  have s1021 := s1020.trans s21
  have Bd21 := Bd10.mono (Tups.same s1021)
  refine ⟨_, rfl, bd, rfl, okp, fun v5 H22 T5 s22 => ⟨_, rfl, .ref a0, bd, rfl, bi_of (Bd21.mono (Tups.same s22)), okp, fun H23 s23 => ⟨(by show 2 ≤ sizeLine; decide), fun l7 hl7 => ?_⟩⟩⟩
  have s24 := same_new hl7 (.lst [v5, V.bl true])
  refine ⟨_, rfl, (by show 2 ≤ sizeLine; decide), fun l8 hl8 => ?_⟩
  have s25 := same_new hl8 (.lst [.ref a0, V.bl true])
  have B5 : BiAt (upd (upd H23 l7 (.lst [v5, V.bl true])) l8 (.lst [.ref a0, V.bl true])) v5 bd := by
    obtain ⟨a, xs, e, h, A⟩ := T5
    exact ⟨a, xs, e, h.same (s23.trans (s24.trans s25)), A.mono fun q zs z => (s23.trans (s24.trans s25)) _ _ z⟩
  have s1025 := s1021.trans (s22.trans (s23.trans (s24.trans s25)))
  refine ⟨_, _, 82, rfl, rfl, alikeP_l (s25 _ _ upd_same) upd_same rfl (by simp) (atC ((bi_alike (by omega) sz40 B5 (bi_of (Bd10.mono (Tups.same s1025)))).ups (by decide)) (atC (alikeP_pl trivial) at0)), fun H26 s26 => ⟨true, rfl, iteF ?_⟩⟩
  have s1026 := s1025.trans s26
  have T26 := T10.same s1026
  have t26 : TabsN T H26 := t10.ext s1026
  have x26 := x10.trans (ExtB.same t10 s1026)
  clear s1025 s1026 B5 s25 s24 s23 s22 T5 Bd21 s1021 s21 T20 s1020 s20 s19 T4 s18 T3 s17 s1016 ev sh s16 s15 s14 s13 s1012 s12 s11 hl8 hl7 hl6 hl5 hl4 hl3
  have sl : t.signs.length = t.size := Tm.signs_len t
  refine ⟨_, rfl, vt, t, rfl, T26, by omega, by omega, fun pl H27 hpl0 hpl s27 => ?_⟩
  refine ⟨_, rfl, pl, rfl, ⟨_, .inl (.inl hpl)⟩, fun D hD => lc_list (K := K) (a := pl) (xs := t.signs) (fun i H2 => H2 D = some (.lst ((rowInts (t.signs.take i)).map V.int)) ∧ Same H27 H2)
    ⟨upd_same, same_new hD _⟩ (fun i H2 _ h => .inl (.inl (h.2 _ _ hpl))) ?_ ?_⟩
  · rintro i x H2 hi ⟨hD2, k2⟩
    have lt := (List.getElem?_eq_some_iff.mp hi).1
    have few := rowInts_len8 (t.signs.take i)
    rw [List.length_take] at few
    have tk : t.signs.take (i + 1) = t.signs.take i ++ [x] := by rw [List.take_add_one, hi]; rfl
    rcases flat_ty (K := K) (H := H) (signs_flat t x (List.mem_of_getElem? hi)) with ⟨n, rfl⟩ | ⟨z, rfl⟩
    · refine ⟨rfl, _, rfl, _, _, _, _, true, rfl, .ty "int", .base (.int n), kit_ii, true, rfl, iteT ?_⟩
      refine ⟨_, rfl, _, hD2, ?_, ?_, ?_⟩
      · rw [List.length_map]; omega
      · rw [upd_same, tk, rowInts_append, List.map_append]; rfl
      · intro q o h
        rw [upd_ne (ne_of_none h hD)]; exact k2 q o h
    · refine ⟨rfl, _, rfl, _, _, _, _, false, rfl, .ty "int", .base (.str z), kit_si, false, rfl, iteF ?_⟩
      refine ⟨?_, k2⟩
      rw [hD2, tk, rowInts_append]
      simp [rowInts]
  rintro H28 ⟨hD2, k2⟩
  rw [List.take_of_length_le (Nat.le_refl _), signs_nums] at hD2
  have nl : t.nums.length ≤ 40 := by
    have := rowInts_len8 t.signs
    rw [signs_nums] at this
    omega
  refine ⟨D, t.nums, rfl, .inl (.inl hD2), by omega, fun S c hS hc => ?_⟩
  refine ⟨S, _, c, rfl, upd_same, by omega, fun ns p2 up2 mem len hp2 => ?_⟩
  have s3 := same_new hS (SetO w S (fun j => decide (j ∈ t.nums)) c)
  have s4 := same_new hp2 (.lst (ns.map V.int))
  have hp24 := (upd_same (H := upd H28 S (SetO w S (fun j => decide (j ∈ t.nums)) c)) (a := p2) (o := .lst (ns.map V.int)))
  refine ⟨(by show 4 ≤ sizeLine; decide), fun ld hld => ?_⟩
  have s5 := same_new hld (.lst [V.ref p2, V.int 40, V.bl true, V.bl false])
  have s2631 := s27.trans (k2.trans (s3.trans (s4.trans s5)))
  have hp25 := s5 _ _ hp24
  have hld5 := (upd_same (H := upd (upd H28 S (SetO w S (fun j => decide (j ∈ t.nums)) c)) p2 (.lst (ns.map V.int))) (a := ld) (o := .lst [V.ref p2, V.int 40, V.bl true, V.bl false]))
  have pld : p2 ≠ ld := ne_of_none hp24 hld
  have HL : H26 ld = none := by
    cases e : H26 ld with
    | none => rfl
    | some o => exact absurd rfl (ne_of_none ((s27.trans (k2.trans (s3.trans s4))) _ _ e) hld)
  refine ⟨_, rfl, ld, _, _, _, rfl, rfl, .inl (.inl hld5), at_of (j := 0) rfl rfl, (by show 0 ≤ sizeLine; decide), fun le hle => ?_⟩
  have s6 := same_new hle (.lst ([] : List V))
  refine ⟨.list (ns.map PyData.int), .list [], .lst (.inl (.inl (s6 _ _ hp25))) (dp_ints8 _), .lst (.inl (.inl upd_same)) .nil, ints_shaped8 _, by decide +kernel, ?_⟩
  rw [eqv_nil8]
  refine ⟨_, rfl, ld, _, _, 3, rfl, rfl, s6 _ _ hld5, rfl, ?_⟩
  have eld : ([V.ref p2, V.int 40, V.bl true, V.bl false] : List V).set 3 (V.bl (decide (ns = []))) = [V.ref p2, V.int 40, V.bl true, V.bl (decide (ns = []))] := rfl
  rw [eld]
  have s26' := s2631.trans s6
  have gld := s6 _ _ hld5
  have gp2 := s6 _ _ hp25
  have T32 := T26.same s26'
  generalize upd _ le (HO.lst ([] : List V)) = H32 at s26' gld gp2 T32 ⊢
  have g33 := (upd_same (H := H32) (a := ld) (o := .lst [V.ref p2, V.int 40, V.bl true, V.bl (decide (ns = []))]))
  have o33 : ∀ q o, H26 q = some o → (upd H32 ld (.lst [V.ref p2, V.int 40, V.bl true, V.bl (decide (ns = []))])) q = some o := fun q o z => by rw [upd_ne (ne_of_none z HL)]; exact s26' _ _ z
  have gp3 : (upd H32 ld (.lst [V.ref p2, V.int 40, V.bl true, V.bl (decide (ns = []))])) p2 = some (.lst (ns.map V.int)) := by rw [upd_ne pld]; exact gp2
  have T33 := T26.same o33
  have t33 := t26.ext o33
  have x33 := x26.trans (ExtB.same t26 o33)
  generalize upd H32 ld (.lst [V.ref p2, V.int 40, V.bl true, V.bl (decide (ns = []))]) = H33 at g33 gp3 T33 t33 x33 ⊢
  have tl := tm_ok8 t
  refine ⟨_, rfl, vt, t, rfl, T33, by omega, fun p3 ns3 H34 hp3 gp4 up3 mem3 s34 => ?_⟩
  have e3 : ns3 = ns := rising_one up3 up2 fun k => by rw [mem3 k, mem k]; simp
  subst e3
  refine ⟨_, rfl, vt, t, rfl, T33.same s34, by omega, fun H35 s35 => ?_⟩
  refine ⟨_, rfl, (0 : Nat), vt, tmD t, rfl, ((T33.same s34).same s35).dat, ⟨tl.1, by omega⟩, by omega, fun rr H36 ir s36 => ?_⟩
  obtain rfl : rr = true := ir.mpr ⟨t, rfl, sm1⟩
  refine ⟨_, rfl, vt, t, rfl, ((T33.same s34).same s35).same s36, sm1, by omega, fun H37 s37 => ⟨(by show 4 ≤ sizeLine; decide), fun lf hlf => ?_⟩⟩
  have s38 := same_new hlf (.lst [V.ref p3, V.int (t.size : Nat), V.bl true, V.bl (decide (t.nums = []))])
  have s3438 := s34.trans (s35.trans (s36.trans (s37.trans s38)))
  have en : decide (t.nums = []) = decide (ns3 = []) := by
    rw [Bool.eq_iff_iff, decide_eq_true_iff, decide_eq_true_iff, List.eq_nil_iff_forall_not_mem, List.eq_nil_iff_forall_not_mem]
    exact ⟨fun h k hk => h k ((mem3 k).1 hk), fun h k hk => h k ((mem3 k).2 hk)⟩
  have ez : ((t.size : Nat) : Int) = 40 := by omega
  have nl3 : ns3.length ≤ 1000000 := by
    have := rising_len8 up3 fun k hk => (mem3 k).1 hk
    omega
  refine ⟨_, rfl, _, _, 82, rfl, rfl, alikeP_l upd_same (s3438 _ _ g33) rfl (by simp) (atC (alikeP_ints ((s35.trans (s36.trans (s37.trans s38))) _ _ gp4) (s3438 _ _ gp3) nl3) (atC (by rw [ez]; exact alikeP_pl trivial) (atC (alikeP_pl trivial) (atC (by rw [en]; exact alikeP_pl trivial) at0)))), fun H39 s39 => ?_⟩
  exact q H39 (x33.trans (ExtB.same t33 (s3438.trans s39)))
end
end Rp

set_option maxHeartbeats 8000000
/-! The law k08. -/
namespace Rp
open PySem PySem.Spec PyProof.Rows L2 TL StX NdefX LamX
def spLaw (T : List NTab) (K : PySem.W.Frag) : Sp := fun vs H Q _ => ∃ (a : Addr) (ns : List Int), vs = [.ref a] ∧ SqL K H a (ns.map V.int) ∧ ns.length ≤ 63 ∧ TabsN T H ∧ ∀ H', Q (.bl true) H'
theorem eqv_self8 : ∀ t : Tm, PyData.eqv (tmD t) (tmD t) = true
  | .v n => by unfold tmD; rw [eqv_int]; simp
  | .z => by unfold tmD; rw [eqv_tup, eqvAll_cons, eqvAll_nil, eqv_str.mpr rfl]; rfl
  | .s t => by unfold tmD; rw [eqv_tup, eqvAll_cons, eqvAll_cons, eqvAll_nil, eqv_str.mpr rfl, eqv_self8 t]; rfl
  | .f l r => by unfold tmD; rw [eqv_tup, eqvAll_cons, eqvAll_cons, eqvAll_cons, eqvAll_nil, eqv_str.mpr rfl, eqv_self8 l, eqv_self8 r]; rfl
theorem eqv_selfs : ∀ ts : List Tm, PyData.eqvAll (ts.map tmD) (ts.map tmD) = true
  | [] => eqvAll_nil
  | t :: ts => by rw [List.map_cons, eqvAll_cons, eqv_self8, eqv_selfs ts]; rfl
theorem tms_dp8 {K : PySem.W.Frag} {H : Hp} : ∀ {xs : List V} {ts : List Tm}, AllAt H xs ts → DpAll K H xs (ts.map tmD)
  | [], [], _ => .nil
  | _ :: _, _ :: _, h => .cons ((TmAt.dat (b := 0) h.1).dp) (tms_dp8 h.2)
theorem tms_lay8 : ∀ {ts : List Tm}, (∀ t ∈ ts, t.size ≤ 7) → PyData.canLayAll0 (ts.map tmD) = true ∧ PyData.depthAll (ts.map tmD) ≤ 7
  | [], _ => ⟨rfl, by decide⟩
  | t :: ts, h => by
    have a := tm_ok8 t
    have b := tms_lay8 (ts := ts) fun u hu => h u (by simp [hu])
    have c := h t (by simp)
    simp only [List.map_cons, PyData.canLayAll0, PyData.depthAll, a.1, b.1]
    exact ⟨rfl, by omega⟩
theorem trees7 : (treesL 7).length = 89 := by
  unfold treesL
  rw [List.length_flatten, rowsL_lens, lens7]
  decide
def teRi (T : List NTab) (K : PySem.W.Frag) : TE := tCall (spRi T) [] E0 (tCons (tCall (spBox K) [] E0 (tCons (tVar 0) (tCons (tVar 1) tNil))) tNil)
abbrev NLw : List Str := ["_law_script", "_law_k"]
section
variable {P : Program} {w : World} {K : PySem.W.Frag} {mg : Str → Option Value} {base : Heap}
theorem scLaw : FnScope NLw ["_law_script"] (defScope sLaw) := ⟨rfl, rfl, rfl, by decide +kernel, rfl, by decide +kernel, by decide +kernel⟩
theorem ok_law {T : List NTab} {f fB fTr fRi : Addr} {fd dB dTr dRi : FuncData} (F : Fun K "law" "law" sLaw f fd) (FTr : Fun K "trees" "trees" sTrees fTr dTr)
    (GB : FnOk P w K mg base CX0 1 fB dB ["_law_script", "_law_k"] (spBox K)) (kB : PySem.W.keepIn K (.ref fB) = true) (bB : Binds K dB ["_law_script", "_law_k"] []) (mB : mg "_law_box" = some (.ref fB))
    (GTr : FnOk P w K mg base CX0 7 fTr dTr ["most"] spTrees) (kTr : PySem.W.keepIn K (.ref fTr) = true) (bTr : Binds K dTr ["most"] []) (mTr : mg "trees" = some (.ref fTr))
    (GRi : FnOk P w K mg base CX0 84 fRi dRi ["_law_box_here"] (spRi T)) (kRi : PySem.W.keepIn K (.ref fRi) = true) (bRi : Binds K dRi ["_law_box_here"] []) (mRi : mg "_law_right" = some (.ref fRi))
    (M : SameG mg) (mRange : mg "range" = none) (mMin : mg "min" = none) : GnOk P w K mg base 90 f fd ["_law_script"] (spLaw T K) := by
  refine gok F scLaw (fun vs H Q E h => ?_) (fun cdv A outer s H vs Q E hg hr h => ?_)
  · obtain ⟨a, ns, rfl, _⟩ := h
    rfl
  obtain ⟨a, ns, rfl, hS, hl, hT, q⟩ := h
  have r1 : Room 1 _ := hr.mono (by decide)
  have r7 : Room 7 _ := hr.mono (by decide)
  have r84 : Room 84 _ := hr.mono (by decide)
  refine ⟨_, (pss_cons (ps_if (PW.pt (pw_or (pt_cmpR (op_neD hr.units) (pe_callK0 GTr r7 rfl mTr kTr (kb1 FTr (fun _ _ _ _ _ _ _ => rfl) (fun _ _ _ _ _ _ _ => rfl)) pass0 (pk_cons pe_int pk_nil)) (pe_call GTr r7 rfl mTr kTr bTr .nil pass0 (pa_cons pe_int pa_nil)) (nomark _)) (pw_or1 (pt_cmpR op_ne (pe_callB call_len_seq (by rfl) M.len PySem.boot_len (pa_cons (pe_callK0 GTr r7 rfl mTr kTr (kb1 FTr (fun _ _ _ _ _ _ _ => rfl) (fun _ _ _ _ _ _ _ => rfl)) pass0 (pk_cons pe_int pk_nil)) pa_nil)) pe_int (nomark _))))) (pss_one (ps_ret pe_bl)) pss_nil)
    (pss_one (ps_ret (pe_callB (cr_all rfl) (by rfl) M.all (by decide +kernel) (pa_cons (pe_lc (own := [("_law_k", 1)]) (g := gName 1) (tt := tYes) (te := (teRi T K)) rfl scLaw.nd (pi_range1 (by rfl) mRange (pa_cons (pe_op op_add pe_int (pe_callB (call_min2 rfl) (by rfl) mMin (by decide +kernel) (pa_cons pe_int (pa_cons (pe_callB call_len_seq (by rfl) M.len PySem.boot_len (pa_cons (pv 0) pa_nil)) pa_nil)))) pa_nil)) (blkOk_by (N := NLw) (sc := defScope sLaw) (by decide +kernel)) (fun _ _ _ _ _ => (pg_name (i := 1) scLaw.nd rfl (Or.inl rfl))) (fun _ _ _ _ _ => pts_nil) (fun _ _ _ _ _ => (pe_call GRi r84 (by rfl) mRi kRi bRi .nil pass0 (pa_cons (pe_call GB r1 (by rfl) mB kB bB .nil pass0 (pa_cons (pv 0) (pa_cons (pv 1) pa_nil))) pa_nil)))) pa_nil))))), ?_⟩
  have big : (10000 : Nat) ≤ sizeLine := by decide
  have lim : ∀ n : Int, 0 ≤ n → 0 ≤ (if n < 2 then n else 2) ∧ (if n < 2 then n else 2) ≤ 2 := by
    intro n hn
    split <;> omega
  have lim2 := lim (((ns.map V.int).length : Nat) : Int) (by omega)
  refine ⟨3, rfl, by decide, by decide, fun p1 xs H1 hp1 h1 A1 s1 => ?_⟩
  refine ⟨3, rfl, by decide, by decide, fun p2 ys H2 hp2 h2 A2 s2 => ?_⟩
  have sm : ∀ t ∈ treesL 3, t.size ≤ 7 := fun t ht => by have := trees_mem.1 ht; omega
  have sh : SeqAt.shaped (.list ((treesL 3).map tmD)) = true := by
    have z := tms_lay8 sm
    refine shaped_of z.1 ?_
    show PyData.depthAll _ + 1 ≤ 64
    omega
  refine ⟨.list ((treesL 3).map tmD), .list ((treesL 3).map tmD), .lst (.inl (.inl (s2 _ _ h1))) (tms_dp8 (A1.mono fun c zs z => s2 _ _ z)), .lst (.inl (.inl h2)) (tms_dp8 A2), sh, sh, _, rfl, ?_⟩
  have ev : PyData.eqv (.list ((treesL 3).map tmD)) (.list ((treesL 3).map tmD)) = true := by
    have := eqv_selfs (treesL 3)
    simpa only [PyData.eqv] using this
  rw [ev]
  refine iteF ⟨7, rfl, by decide, by decide, fun p3 zs H3 hp3 h3 A3 s3 => ?_⟩
  have zl := A3.len
  rw [trees7] at zl
  refine ⟨p3, zs, rfl, .inl (.inl (.inl h3)), rfl, false, by rw [zl]; rfl, iteF ?_⟩
  have s13 := s1.trans (s2.trans s3)
  have hS3 := s13.seq hS
  have t3 := hT.ext s13
  refine ⟨_, rfl, a, _, rfl, .inl hS3, _, _, rfl, _, _, rfl, rfl, _, rfl, by omega, by omega, fun D hD => lc_range (lo := 0) (fun i H4 => H4 D = some (.lst (List.replicate i (V.bl true))) ∧ ExtB T D H3 H4)
    ⟨upd_same, ExtB.same t3 (same_new hD _)⟩ ?_ ?_⟩
  · rintro i H4 hi ⟨h4, e4⟩
    have seq4 : SqL K H4 a (ns.map V.int) := by
      have keep : ∀ o, H3 a = some o → (∀ ps, o ≠ .tbl ps) → H4 a = some o := fun o z m => e4.ext _ _ z (ne_of_none z hD) m
      rcases hS3 with (z | ⟨o, z⟩) | z
      · exact .inl (.inl (keep _ z fun ps e => by cases e))
      · exact .inl (.inr ⟨o, keep _ z fun ps e => by cases e⟩)
      · exact .inr z
    refine ⟨rfl, ?_⟩
    unfold teRi
    refine ⟨_, rfl, _, rfl, a, ns, _, rfl, seq4, hl, by omega, by omega, fun b H5 hb B5 s5 => ?_⟩
    refine ⟨b, 0, rfl, B5, by decide, e4.tab.ext s5, fun H6 e6 => ?_⟩
    have Db : D ≠ b := ne_of_none h4 hb
    have h6 := e6.lst (s5 _ _ h4) Db
    refine ⟨_, h6, by rw [List.length_replicate]; omega, by rw [upd_same, List.replicate_succ'], ⟨fun c o z nc m => ?_, tabs_but e6.tab h6 (but_upd _)⟩⟩
    rw [upd_ne nc]
    have z4 := e4.ext _ _ z nc m
    exact e6.ext _ _ (s5 _ _ z4) (ne_of_none z4 hb) m
  · rintro H4 ⟨h4, e4⟩
    have ea : ∀ n, (List.replicate n true).all id = true := fun n => by rw [List.all_eq_true]; intro y hy; rw [List.eq_of_mem_replicate hy]; rfl
    refine ⟨D, List.replicate _ true, rfl, .inl (.inl (by rw [List.map_replicate]; exact h4)), ?_⟩
    rw [ea]
    exact q H4
end
end Rp

/-! The end of a law whose promise is a GnOk, and in whose run a def within a def is made: its table of code objects is tracked. -/
namespace Rp
open PySem PySem.Spec PyProof.Rows L2 LamX NdefX
/-- the law's own call; Pt: the table of the def that makes the inner one -/
theorem law_callGT {Pr : Program} {w : World} {K : PySem.W.Frag} {mg mb : Str → Option Value} {k : Nat} {fa a c Pt : Addr} {fd : FuncData} {x : Str} {sp : Sp} {s₁ : Shared} {vs : List Value} {ns : List Int}
    (KX : K.In s₁.heap) (hns : s₁.heap.Ns mainGlobals mg) (hb : s₁.heap.Ns builtinsNs mb) (hbb : ∀ x : Str, x ≠ "__name__" → mb x = bootBuiltins x) (hlim : s₁.heap.NoLimit) (hg : s₁.gens = #[])
    (hT : s₁.heap.get? Pt = some { cls := .none, data := .fields #[] }) (nT : K.lookup Pt = none) (C : PySem.W.CodeHd s₁.heap c Pt)
    (hbm : ∃ (bm : Addr) (ob : Obj), mg "__builtins__" = some (.ref bm) ∧ bm ≠ builtinsNs ∧ s₁.heap.get? bm = some ob ∧ ob.cls = .type "module" ∧ ob.dict = some builtinsNs ∧ ob.data = .plain)
    (ha : s₁.heap.get? a = some { cls := .type "list", data := .seq vs.toArray }) (hi : IntsAre vs ns) (hl : ns.length ≤ sizeLine) (hr : Room k callerA)
    (F : ∀ base : Heap, K.In base → base.Ns mainGlobals mg → TabB base mg c Pt → GnOk Pr w K mg base k fa fd [x] sp) (bind : ∀ (s : Shared) (u : Value), BindsTo s fd ⟨[u], []⟩ [(x, u)])
    (ask : ∀ H : Hp, H Pt = some (.tbl #[]) → SqL K H a (ns.map V.int) → sp [.ref a] H (fun v _ => v = .bl true) E0) :
    codeAny (model Pr w) callerA (.call (.ref fa) ⟨[.ref a], []⟩) (fun r s' => r = .ok (.ret (.bool true)) ∧ OldK s₁.heap s'.heap ∧ s'.os = s₁.os ∧ AllBare s'.gens) s₁ := by
  have rv := vals_ints hi
  have lenV := hi.length
  have aP : a ≠ Pt := by
    rintro rfl
    rw [ha] at hT
    have z : Data.seq vs.toArray _ = Data.fields #[] := congrArg Obj.data (Option.some.inj hT)
    cases z
  have from_ : ∀ H : Hp, H Pt = some (.tbl #[]) → (∀ b, b ≠ Pt → H b = none ∨ ∃ o ys, H b = some (.frz o (.lst ys))) → SqL K H a (ns.map V.int) → HOk Pr w H s₁.heap → (∀ b, H b ≠ none → b = Pt ∨ (b = a ∧ K.lookup a = none)) →
      codeAny (model Pr w) callerA (.call (.ref fa) ⟨[.ref a], []⟩) (fun r s' => r = .ok (.ret (.bool true)) ∧ OldK s₁.heap s'.heap ∧ s'.os = s₁.os ∧ AllBare s'.gens) s₁ := by
    intro H hP only hS hok hA
    have free : ∀ {b : Addr} {o : Obj}, s₁.heap.get? b = some o → o.data ≠ .fields #[] → (b = a → False) → H b = none := fun {b o} e n1 n2 => by
      cases q : H b with
      | none => rfl
      | some u =>
        rcases hA b (by rw [q]; simp) with z | z
        · subst z
          rw [hT] at e
          cases e
          exact (n1 rfl).elim
        · exact (n2 z.1).elim
    have low : ∀ {b : Addr} {o : Obj}, s₁.heap.get? b = some o → H b = none → (hidT s₁.heap H).get? b = some o := fun e n => hidT_get e n
    have apart : ∀ {b : Addr} {o : Obj}, s₁.heap.get? b = some o → (∀ us n, o.data ≠ .seq us n) → b = a → False := fun {b o} e n z => by
      subst z
      rw [ha] at e
      cases e
      exact n _ _ rfl
    have names : ∀ {b : Addr} {m : Str → Option Value}, s₁.heap.Ns b m → (hidT s₁.heap H).Ns b m := fun {b m} ⟨o, es, ep, e, d, r⟩ =>
      ⟨o, es, ep, low e (free e (by rw [d]; intro z; cases z) (apart e (by rw [d]; intro us n z; cases z))), d, r⟩
    have hK : K.In (hidT s₁.heap H) := fun b o e => low (KX b o e) (by
      cases q : H b with
      | none => rfl
      | some u =>
        rcases hA b (by rw [q]; simp) with z | ⟨z, zk⟩
        · subst z; rw [nT] at e; cases e
        · subst z; rw [zk] at e; cases e)
    have M : Mod K mg (hidT s₁.heap H) := ⟨hK, names hns, ⟨mb, names hb, hbb⟩, let ⟨mc, h1, h2⟩ := hlim; ⟨mc, names h1, h2⟩⟩
    have gP : mainGlobals ≠ Pt := by
      rintro rfl
      obtain ⟨o, es, ep, e, d, _⟩ := hns
      rw [hT] at e
      cases e
      cases d
    have TB : TabB (hidT s₁.heap H) mg c Pt := by
      refine ⟨?_, ?_, gP⟩
      · obtain ⟨o, us, file, tf, flags, tg, inF, text, tt, e1, r1, r2, r3, r4, r5, r6, r7, r8, hne⟩ := C
        refine ⟨o, us, file, tf, flags, tg, inF, text, tt, low e1 (free e1 (fun z => ?_) (apart e1 fun us n z => ?_)), r1, r2, r3, r4, r5, r6, r7, r8, hne⟩
        · rw [r2] at z
          cases z
          simp at r3
        · rw [r2] at z; cases z
      · obtain ⟨bm, ob, b1, b2, b3, b4, b5, b6⟩ := hbm
        refine ⟨bm, ob, b1, b2, fun z => ?_, fun z => ?_, low b3 (free b3 (by rw [b6]; intro z; cases z) (apart b3 (by rw [b6]; intro us n z; cases z))), b4, b5, b6⟩
        · obtain ⟨o, es, ep, e, d, _⟩ := hns
          rw [z, e] at b3
          cases b3
          rw [d] at b6; cases b6
        · rw [z, hT] at b3
          cases b3
          cases b6
    have e0 : Env0 Pr w K mg (hidT s₁.heap H) callerA [] s₁ H := ⟨rfl, M, fun b o e => of_hidT e, Nat.le_of_eq (hidT_size _ _), trivial, fun b z => absurd (show b ∈ ([] : List Addr) from z) (by simp), hok, .of_eq hg⟩
    refine codeAny_mono ((F _ hK (names hns) TB).run callerA [] s₁ H ⟨[.ref a], []⟩ [.ref a] [.ref a] _ _ rfl hr e0 (bind s₁ (.ref a)) (.cons rfl .nil) (ask H hP hS)) fun r s' h => ?_
    rcases r with e | fl
    · exact h.elim
    · rcases fl with _ | _ | _ | u
      · exact h.elim
      · exact h.elim
      · exact h.elim
      · obtain ⟨v, H', os, bare, un, hok', r', q⟩ := h
        obtain rfl : v = .bl true := q
        obtain rfl : u = Value.bool true := r'
        have same : ∀ b o, b ≠ Pt → s₁.heap.get? b = some o → s'.heap.get? b = some o := fun b o nb e => by
          cases q : H b with
          | none => exact un.keep b o e q (by intro z; exact absurd (show b ∈ ([] : List Addr) from z) (by simp)) (by simp)
          | some u =>
            rcases only b nb with z | ⟨ob, ys, z⟩
            · rw [q] at z; cases z
            · obtain ⟨e1, _⟩ := hok b _ z
              obtain ⟨e2, _⟩ := hok' b _ (un.frzs b ob _ z)
              rw [e] at e1; cases e1
              exact e2
        obtain ⟨more, grown⟩ : ∃ more : Array Value, s'.heap.get? Pt = some { cls := .none, data := .fields more } := by
          obtain ⟨more, z⟩ := un.tbls Pt #[] hP
          exact ⟨_, hok' Pt _ z⟩
        refine ⟨rfl, ⟨fun b o e => ?_, fun b o e => ?_⟩, os, bare⟩
        · by_cases nb : b = Pt
          · subst nb
            rw [hT] at e
            cases e
            exact .inr (.inl ⟨(C.tab hT).isCodeTable, rfl, #[], more, rfl, by rw [Array.empty_append]; exact grown⟩)
          · exact .inl (same b o nb e)
        · by_cases nb : b = Pt
          · subst nb
            exact ⟨_, grown⟩
          · exact ⟨o, same b o nb e⟩
  cases hk : K.lookup a with
  | some o =>
    have e := KX a o hk
    rw [ha] at e
    cases e
    refine from_ (fun b => if b = Pt then some (.tbl #[]) else none) (if_pos rfl) (fun b nb => .inl (if_neg nb)) (.inr ⟨_, vs.toArray, _, hk, rfl, rfl, rfl, by rw [List.size_toArray, lenV]; exact hl, by simpa using rv⟩) (fun b u z => ?_) fun b z => ?_
    · by_cases nb : b = Pt
      · subst nb
        have z' := (if_pos rfl).symm.trans z
        cases z'
        exact hT
      · have z' := (if_neg nb).symm.trans z
        cases z'
    · by_cases nb : b = Pt
      · exact .inl nb
      · exact absurd (if_neg nb) z
  | none =>
    refine from_ (fun b => if b = Pt then some (.tbl #[]) else if b = a then some (.frz { cls := .type "list", data := .seq vs.toArray } (.lst (ns.map V.int))) else none) (if_pos rfl) (fun b nb => ?_) (.inl (.inr ⟨_, (if_neg aP).trans (if_pos rfl)⟩)) (fun b u z => ?_) fun b z => ?_
    · by_cases n2 : b = a
      · exact .inr ⟨_, _, (if_neg nb).trans (if_pos n2)⟩
      · exact .inl ((if_neg nb).trans (if_neg n2))
    · by_cases nb : b = Pt
      · subst nb
        have z' := (if_pos rfl).symm.trans z
        cases z'
        exact hT
      · have z1 := (if_neg nb).symm.trans z
        by_cases n2 : b = a
        · subst n2
          have z' := (if_pos rfl).symm.trans z1
          cases z'
          exact ⟨ha, by rw [List.length_map]; exact hl, vs, _, rv, ha⟩
        · have z' := (if_neg n2).symm.trans z1
          cases z'
    · by_cases nb : b = Pt
      · exact .inl nb
      · by_cases n2 : b = a
        · exact .inr ⟨n2, hk⟩
        · exact absurd ((if_neg nb).trans (if_neg n2)) z
/-- a def of this name makes inner ones; its table is nobody else's -/
def tabB (K : PySem.W.Frag) (x : Str) : Bool := match PySem.W.tabIn K x with
  | some q => (K.lookup q.2).isNone
  | none => false
theorem tab_told {K : PySem.W.Frag} {x : Str} (h : tabB K x = true) : ∃ c Pt, PySem.W.tabIn K x = some (c, Pt) ∧ K.lookup Pt = none := by
  unfold tabB at h
  split at h
  · rename_i q hq
    exact ⟨q.1, q.2, hq, by simpa using h⟩
  · cases h
theorem walk_ofGT {l : PySem.W.OpenLaw} {n k : Nat} {q : Program} {loose : List Str} {XP : (Str → Option Value) → Heap → Prop} {YP : World → Heap → Prop} {d : DefRec} {K : Params → PySem.W.Frag} {sp : List NTab → PySem.W.Frag → Sp} {x y : Str} {nm : Nat → Nat → Str}
    (hn : l.most = some n) (hn2 : n ≤ sizeLine) (hdf : d.params.defaults = []) (hr : Room k callerA) (hY : ∀ (w : World) (h : Heap), YP w h → (K w.params).In h)
    (hrec : ((recsOf q).find? fun e => e.name == y).isSome = true) (htab : ∀ w : World, tabB (K w.params) y = true)
    (F : ∀ (w : World) (mg : Str → Option Value) (fa c Pt : Addr) (h : Heap), (K w.params).In h → h.Ns mainGlobals mg → mg d.name = some (.ref fa) → PySem.W.tabIn (K w.params) y = some (c, Pt) →
      ∃ fd : FuncData, (∀ (s : Shared) (u : Value), BindsTo s fd ⟨[u], []⟩ [(x, u)]) ∧ ∀ base : Heap, (K w.params).In base → base.Ns mainGlobals mg → TabB base mg c Pt → GnOk l.prog w (K w.params) mg base k fa fd [x] (sp [(Pt, nm)] (K w.params)))
    (ask : ∀ (K : PySem.W.Frag) (H : Hp) (a Pt : Addr) (ns : List Int), ns.length ≤ n → H Pt = some (.tbl #[]) → SqL K H a (ns.map V.int) → sp [(Pt, nm)] K [.ref a] H (fun v _ => v = .bl true) E0) :
    PySem.W.WalkO q loose XP YP l.row.toRowW d [] (fun f vs => PySem.call f vs) := by
  refine Att.attach_call hn hdf fun w s₀ s₁ mg mb fa o pm cd doc a vs ns G Y ho hd hcd hmg hobj hints hlen hg => ?_
  have KX := hY w _ Y
  obtain ⟨c, Pt, ht, nT⟩ := tab_told (htab w)
  obtain ⟨dd, hdd⟩ := Option.isSome_iff_exists.mp hrec
  obtain ⟨C, hT⟩ := PySem.W.tab_of G.T KX hdd ht
  obtain ⟨fd, hb, hF⟩ := F w mg fa c Pt _ KX G.T.g hmg ht
  exact law_callGT KX G.T.g G.T.b G.T.builtins G.T.nolimit hg hT nT C G.T.bmain hobj hints (Nat.le_trans hlen hn2) hr hF hb fun H hP hS => ask _ H a Pt ns hlen hP hS
end Rp

namespace Rp
open PySem L2
theorem all_mk {l : PySem.W.OpenLaw} {w : World} {K : PySem.W.Frag} {h : Heap} {mg : Str → Option Value} {fa f1 f2 f3 f4 f5 f6 f7 f8 f9 f10 f11 f12 f13 f14 f15 f16 f17 f18 f19 f20 f21 f22 f23 f24 f25 f26 f27 f28 f29 f30 f31 f32 f33 f34 f35 f36 f37 : Addr} (X : K.In h) (G : h.Ns mainGlobals mg) (hfa : mg "law" = some (.ref fa))
    {od1 an1 od2 an2 od3 an3 od4 an4 od5 an5 od6 an6 od7 an7 od8 an8 od9 an9 od10 an10 od11 an11 od12 an12 od13 an13 od14 an14 od15 an15 od16 an16 od17 an17 od18 an18 od19 an19 od20 an20 od21 an21 od22 an22 od23 an23 od24 an24 od25 an25 od26 an26 od27 an27 od28 an28 od29 an29 od30 an30 od31 an31 od32 an32 od33 an33 od34 an34 od35 an35 od36 an36 od37 an37 : Option Addr} {sl1 sl2 sl3 sl4 sl5 sl6 sl7 sl8 sl9 sl10 sl11 sl12 sl13 sl14 sl15 sl16 sl17 sl18 sl19 sl20 sl21 sl22 sl23 sl24 sl25 sl26 sl27 sl28 sl29 sl30 sl31 sl32 sl33 sl34 sl35 sl36 sl37 : Array (Option Value)} {oc1 kV1 dc1 pm1 cd1 ct1 oc2 kV2 dc2 pm2 cd2 ct2 oc3 kV3 dc3 pm3 cd3 ct3 oc4 kV4 dc4 pm4 cd4 ct4 oc5 kV5 dc5 pm5 cd5 ct5 oc6 kV6 dc6 pm6 cd6 ct6 oc7 kV7 dc7 pm7 cd7 ct7 oc8 kV8 dc8 pm8 cd8 ct8 oc9 kV9 dc9 pm9 cd9 ct9 oc10 kV10 dc10 pm10 cd10 ct10 oc11 kV11 dc11 pm11 cd11 ct11 oc12 kV12 dc12 pm12 cd12 ct12 oc13 kV13 dc13 pm13 cd13 ct13 oc14 kV14 dc14 pm14 cd14 ct14 oc15 kV15 dc15 pm15 cd15 ct15 oc16 kV16 dc16 pm16 cd16 ct16 oc17 kV17 dc17 pm17 cd17 ct17 oc18 kV18 dc18 pm18 cd18 ct18 oc19 kV19 dc19 pm19 cd19 ct19 oc20 kV20 dc20 pm20 cd20 ct20 oc21 kV21 dc21 pm21 cd21 ct21 oc22 kV22 dc22 pm22 cd22 ct22 oc23 kV23 dc23 pm23 cd23 ct23 oc24 kV24 dc24 pm24 cd24 ct24 oc25 kV25 dc25 pm25 cd25 ct25 oc26 kV26 dc26 pm26 cd26 ct26 oc27 kV27 dc27 pm27 cd27 ct27 oc28 kV28 dc28 pm28 cd28 ct28 oc29 kV29 dc29 pm29 cd29 ct29 oc30 kV30 dc30 pm30 cd30 ct30 oc31 kV31 dc31 pm31 cd31 ct31 oc32 kV32 dc32 pm32 cd32 ct32 oc33 kV33 dc33 pm33 cd33 ct33 oc34 kV34 dc34 pm34 cd34 ct34 oc35 kV35 dc35 pm35 cd35 ct35 oc36 kV36 dc36 pm36 cd36 ct36 oc37 kV37 dc37 pm37 cd37 ct37 : Value}
    {fS s1 s2 s3 : Addr} {odS od1_ od2_ od3_ : Option Addr} {nS n1_ n2_ n3_ : Nat} {slS sl1_ sl2_ sl3_ : Array (Option Value)} {t1 t2 t3 t4 t5 t6 : Tok} {tc0 : Tok} {tc1 : Tok} {c Pt : Addr} (ht : PySem.W.tabIn K "put" = some (c, Pt))
    (a1 : PySem.W.nsIn K mainGlobals "is_number" = some (some (.ref f1))) (l1 : K.lookup f1 = some ⟨oc1, od1, .func (PySem.W.fnOf "is_number" "is_number" (defArgs sNumber) (defBody sNumber) (defScope sNumber) .none kV1 dc1 pm1 an1 cd1 ct1), sl1⟩) (c1 : PySem.W.codeIn K cd1 "is_number" = true) (k1 : PySem.W.keepIn K (.ref f1) = true)
    (a2 : PySem.W.nsIn K mainGlobals "is_variable" = some (some (.ref f2))) (l2 : K.lookup f2 = some ⟨oc2, od2, .func (PySem.W.fnOf "is_variable" "is_variable" (defArgs sVariable) (defBody sVariable) (defScope sVariable) .none kV2 dc2 pm2 an2 cd2 ct2), sl2⟩) (c2 : PySem.W.codeIn K cd2 "is_variable" = true) (k2 : PySem.W.keepIn K (.ref f2) = true)
    (a3 : PySem.W.nsIn K mainGlobals "_has_shape" = some (some (.ref f3))) (l3 : K.lookup f3 = some ⟨oc3, od3, .func (PySem.W.fnOf "_has_shape" "_has_shape" (defArgs sShape) (defBody sShape) (defScope sShape) .none kV3 dc3 pm3 an3 cd3 ct3), sl3⟩) (c3 : PySem.W.codeIn K cd3 "_has_shape" = true) (k3 : PySem.W.keepIn K (.ref f3) = true)
    (a4 : PySem.W.nsIn K mainGlobals "is_term" = some (some (.ref f4))) (l4 : K.lookup f4 = some ⟨oc4, od4, .func (PySem.W.fnOf "is_term" "is_term" (defArgs sTerm) (defBody sTerm) (defScope sTerm) .none kV4 dc4 pm4 an4 cd4 ct4), sl4⟩) (c4 : PySem.W.codeIn K cd4 "is_term" = true) (k4 : PySem.W.keepIn K (.ref f4) = true)
    (a5 : PySem.W.nsIn K mainGlobals "_parts" = some (some (.ref f5))) (l5 : K.lookup f5 = some ⟨oc5, od5, .func (PySem.W.fnOf "_parts" "_parts" (defArgs sParts) (defBody sParts) (defScope sParts) .none kV5 dc5 pm5 an5 cd5 ct5), sl5⟩) (c5 : PySem.W.codeIn K cd5 "_parts" = true) (k5 : PySem.W.keepIn K (.ref f5) = true)
    (a6 : PySem.W.nsIn K mainGlobals "inside_out" = some (some (.ref f6))) (l6 : K.lookup f6 = some ⟨oc6, od6, .func (PySem.W.fnOf "inside_out" "inside_out" (defArgs sInside) (defBody sInside) (defScope sInside) .none kV6 dc6 pm6 an6 cd6 ct6), sl6⟩) (c6 : PySem.W.codeIn K cd6 "inside_out" = true) (k6 : PySem.W.keepIn K (.ref f6) = true)
    (a7 : PySem.W.nsIn K mainGlobals "variables" = some (some (.ref f7))) (l7 : K.lookup f7 = some ⟨oc7, od7, .func (PySem.W.fnOf "variables" "variables" (defArgs sVars) (defBody sVars) (defScope sVars) .none kV7 dc7 pm7 an7 cd7 ct7), sl7⟩) (c7 : PySem.W.codeIn K cd7 "variables" = true) (k7 : PySem.W.keepIn K (.ref f7) = true)
    (a8 : PySem.W.nsIn K mainGlobals "size" = some (some (.ref f8))) (l8 : K.lookup f8 = some ⟨oc8, od8, .func (PySem.W.fnOf "size" "size" (defArgs sSize) (defBody sSize) (defScope sSize) .none kV8 dc8 pm8 an8 cd8 ct8), sl8⟩) (c8 : PySem.W.codeIn K cd8 "size" = true) (k8 : PySem.W.keepIn K (.ref f8) = true)
    (a9 : PySem.W.nsIn K mainGlobals "is_closed" = some (some (.ref f9))) (l9 : K.lookup f9 = some ⟨oc9, od9, .func (PySem.W.fnOf "is_closed" "is_closed" (defArgs sClosed) (defBody sClosed) (defScope sClosed) .none kV9 dc9 pm9 an9 cd9 ct9), sl9⟩) (c9 : PySem.W.codeIn K cd9 "is_closed" = true) (k9 : PySem.W.keepIn K (.ref f9) = true)
    (a10 : PySem.W.nsIn K mainGlobals "_is_pair" = some (some (.ref f10))) (l10 : K.lookup f10 = some ⟨oc10, od10, .func (PySem.W.fnOf "_is_pair" "_is_pair" (defArgs sIsPair) (defBody sIsPair) (defScope sIsPair) .none kV10 dc10 pm10 an10 cd10 ct10), sl10⟩) (c10 : PySem.W.codeIn K cd10 "_is_pair" = true) (k10 : PySem.W.keepIn K (.ref f10) = true)
    (a11 : PySem.W.nsIn K mainGlobals "is_binding" = some (some (.ref f11))) (l11 : K.lookup f11 = some ⟨oc11, od11, .func (PySem.W.fnOf "is_binding" "is_binding" (defArgs sIsBinding) (defBody sIsBinding) (defScope sIsBinding) .none kV11 dc11 pm11 an11 cd11 ct11), sl11⟩) (c11 : PySem.W.codeIn K cd11 "is_binding" = true) (k11 : PySem.W.keepIn K (.ref f11) = true)
    (a12 : PySem.W.nsIn K mainGlobals "_text_of" = some (some (.ref f12))) (l12 : K.lookup f12 = some ⟨oc12, od12, .func (PySem.W.fnOf "_text_of" "_text_of" (defArgs sTextOf) (defBody sTextOf) (defScope sTextOf) .none kV12 dc12 pm12 an12 cd12 ct12), sl12⟩) (c12 : PySem.W.codeIn K cd12 "_text_of" = true) (k12 : PySem.W.keepIn K (.ref f12) = true)
    (a13 : PySem.W.nsIn K mainGlobals "fold" = some (some (.ref f13))) (l13 : K.lookup f13 = some ⟨oc13, od13, .func (PySem.W.fnOf "fold" "fold" (defArgs sFold) (defBody sFold) (defScope sFold) .none kV13 dc13 pm13 an13 cd13 ct13), sl13⟩) (c13 : PySem.W.codeIn K cd13 "fold" = true) (k13 : PySem.W.keepIn K (.ref f13) = true)
    (a14 : PySem.W.nsIn K mainGlobals "put" = some (some (.ref f14))) (l14 : K.lookup f14 = some ⟨oc14, od14, .func (PySem.W.fnOf "put" "put" (defArgs sPut) (defBody sPut) (defScope sPut) .none kV14 dc14 pm14 an14 cd14 ct14), sl14⟩) (c14 : PySem.W.codeIn K cd14 "put" = true) (k14 : PySem.W.keepIn K (.ref f14) = true)
    (a15 : PySem.W.nsIn K mainGlobals "term_text" = some (some (.ref f15))) (l15 : K.lookup f15 = some ⟨oc15, od15, .func (PySem.W.fnOf "term_text" "term_text" (defArgs sTermText) (defBody sTermText) (defScope sTermText) .none kV15 dc15 pm15 an15 cd15 ct15), sl15⟩) (c15 : PySem.W.codeIn K cd15 "term_text" = true) (k15 : PySem.W.keepIn K (.ref f15) = true)
    (a16 : PySem.W.nsIn K mainGlobals "_number_of" = some (some (.ref f16))) (l16 : K.lookup f16 = some ⟨oc16, od16, .func (PySem.W.fnOf "_number_of" "_number_of" (defArgs sNumberOf) (defBody sNumberOf) (defScope sNumberOf) .none kV16 dc16 pm16 an16 cd16 ct16), sl16⟩) (c16 : PySem.W.codeIn K cd16 "_number_of" = true) (k16 : PySem.W.keepIn K (.ref f16) = true)
    (a17 : PySem.W.nsIn K mainGlobals "_from_signs" = some (some (.ref f17))) (l17 : K.lookup f17 = some ⟨oc17, od17, .func (PySem.W.fnOf "_from_signs" "_from_signs" (defArgs sFromSigns) (defBody sFromSigns) (defScope sFromSigns) .none kV17 dc17 pm17 an17 cd17 ct17), sl17⟩) (c17 : PySem.W.codeIn K cd17 "_from_signs" = true) (k17 : PySem.W.keepIn K (.ref f17) = true)
    (a18 : PySem.W.nsIn K mainGlobals "term_or_none" = some (some (.ref f18))) (l18 : K.lookup f18 = some ⟨oc18, od18, .func (PySem.W.fnOf "term_or_none" "term_or_none" (defArgs sTermOrNone) (defBody sTermOrNone) (defScope sTermOrNone) .none kV18 dc18 pm18 an18 cd18 ct18), sl18⟩) (c18 : PySem.W.codeIn K cd18 "term_or_none" = true) (k18 : PySem.W.keepIn K (.ref f18) = true)
    (a19 : PySem.W.nsIn K mainGlobals "term_in" = some (some (.ref f19))) (l19 : K.lookup f19 = some ⟨oc19, od19, .func (PySem.W.fnOf "term_in" "term_in" (defArgs sTermIn) (defBody sTermIn) (defScope sTermIn) .none kV19 dc19 pm19 an19 cd19 ct19), sl19⟩) (c19 : PySem.W.codeIn K cd19 "term_in" = true) (k19 : PySem.W.keepIn K (.ref f19) = true)
    (a20 : PySem.W.nsIn K mainGlobals "binding_text" = some (some (.ref f20))) (l20 : K.lookup f20 = some ⟨oc20, od20, .func (PySem.W.fnOf "binding_text" "binding_text" (defArgs sBindingText) (defBody sBindingText) (defScope sBindingText) .none kV20 dc20 pm20 an20 cd20 ct20), sl20⟩) (c20 : PySem.W.codeIn K cd20 "binding_text" = true) (k20 : PySem.W.keepIn K (.ref f20) = true)
    (a21 : PySem.W.nsIn K mainGlobals "_pair_in" = some (some (.ref f21))) (l21 : K.lookup f21 = some ⟨oc21, od21, .func (PySem.W.fnOf "_pair_in" "_pair_in" (defArgs sPairIn) (defBody sPairIn) (defScope sPairIn) .none kV21 dc21 pm21 an21 cd21 ct21), sl21⟩) (c21 : PySem.W.codeIn K cd21 "_pair_in" = true) (k21 : PySem.W.keepIn K (.ref f21) = true)
    (a22 : PySem.W.nsIn K mainGlobals "binding_or_none" = some (some (.ref f22))) (l22 : K.lookup f22 = some ⟨oc22, od22, .func (PySem.W.fnOf "binding_or_none" "binding_or_none" (defArgs sBindingOrNone) (defBody sBindingOrNone) (defScope sBindingOrNone) .none kV22 dc22 pm22 an22 cd22 ct22), sl22⟩) (c22 : PySem.W.codeIn K cd22 "binding_or_none" = true) (k22 : PySem.W.keepIn K (.ref f22) = true)
    (a23 : PySem.W.nsIn K mainGlobals "binding_in" = some (some (.ref f23))) (l23 : K.lookup f23 = some ⟨oc23, od23, .func (PySem.W.fnOf "binding_in" "binding_in" (defArgs sBindingIn) (defBody sBindingIn) (defScope sBindingIn) .none kV23 dc23 pm23 an23 cd23 ct23), sl23⟩) (c23 : PySem.W.codeIn K cd23 "binding_in" = true) (k23 : PySem.W.keepIn K (.ref f23) = true)
    (a24 : PySem.W.nsIn K mainGlobals "_of_size" = some (some (.ref f24))) (l24 : K.lookup f24 = some ⟨oc24, od24, .func (PySem.W.fnOf "_of_size" "_of_size" (defArgs sOfSize) (defBody sOfSize) (defScope sOfSize) .none kV24 dc24 pm24 an24 cd24 ct24), sl24⟩) (c24 : PySem.W.codeIn K cd24 "_of_size" = true) (k24 : PySem.W.keepIn K (.ref f24) = true)
    (a25 : PySem.W.nsIn K mainGlobals "trees" = some (some (.ref f25))) (l25 : K.lookup f25 = some ⟨oc25, od25, .func (PySem.W.fnOf "trees" "trees" (defArgs sTrees) (defBody sTrees) (defScope sTrees) .none kV25 dc25 pm25 an25 cd25 ct25), sl25⟩) (c25 : PySem.W.codeIn K cd25 "trees" = true) (k25 : PySem.W.keepIn K (.ref f25) = true)
    (a26 : PySem.W.nsIn K mainGlobals "_law_box" = some (some (.ref f26))) (l26 : K.lookup f26 = some ⟨oc26, od26, .func (PySem.W.fnOf "_law_box" "_law_box" (defArgs sBox) (defBody sBox) (defScope sBox) .none kV26 dc26 pm26 an26 cd26 ct26), sl26⟩) (c26 : PySem.W.codeIn K cd26 "_law_box" = true) (k26 : PySem.W.keepIn K (.ref f26) = true)
    (a27 : PySem.W.nsIn K mainGlobals "_law_take" = some (some (.ref f27))) (l27 : K.lookup f27 = some ⟨oc27, od27, .func (PySem.W.fnOf "_law_take" "_law_take" (defArgs sTake) (defBody sTake) (defScope sTake) .none kV27 dc27 pm27 an27 cd27 ct27), sl27⟩) (c27 : PySem.W.codeIn K cd27 "_law_take" = true) (k27 : PySem.W.keepIn K (.ref f27) = true)
    (a28 : PySem.W.nsIn K mainGlobals "_law_pick" = some (some (.ref f28))) (l28 : K.lookup f28 = some ⟨oc28, od28, .func (PySem.W.fnOf "_law_pick" "_law_pick" (defArgs sPick) (defBody sPick) (defScope sPick) .none kV28 dc28 pm28 an28 cd28 ct28), sl28⟩) (c28 : PySem.W.codeIn K cd28 "_law_pick" = true) (k28 : PySem.W.keepIn K (.ref f28) = true)
    (a29 : PySem.W.nsIn K mainGlobals "_law_same" = some (some (.ref f29))) (l29 : K.lookup f29 = some ⟨oc29, od29, .func (PySem.W.fnOf "_law_same" "_law_same" (defArgs sSame) (defBody sSame) (defScope sSame) .none kV29 dc29 pm29 an29 cd29 ct29), sl29⟩) (c29 : PySem.W.codeIn K cd29 "_law_same" = true) (k29 : PySem.W.keepIn K (.ref f29) = true)
    (a30 : PySem.W.nsIn K mainGlobals "_law_tree" = some (some (.ref f30))) (l30 : K.lookup f30 = some ⟨oc30, od30, .func (PySem.W.fnOf "_law_tree" "_law_tree" (defArgs sTree) (defBody sTree) (defScope sTree) .none kV30 dc30 pm30 an30 cd30 ct30), sl30⟩) (c30 : PySem.W.codeIn K cd30 "_law_tree" = true) (k30 : PySem.W.keepIn K (.ref f30) = true)
    (a31 : PySem.W.nsIn K mainGlobals "_law_text" = some (some (.ref f31))) (l31 : K.lookup f31 = some ⟨oc31, od31, .func (PySem.W.fnOf "_law_text" "_law_text" (defArgs sText) (defBody sText) (defScope sText) .none kV31 dc31 pm31 an31 cd31 ct31), sl31⟩) (c31 : PySem.W.codeIn K cd31 "_law_text" = true) (k31 : PySem.W.keepIn K (.ref f31) = true)
    (a32 : PySem.W.nsIn K mainGlobals "_law_binding_text" = some (some (.ref f32))) (l32 : K.lookup f32 = some ⟨oc32, od32, .func (PySem.W.fnOf "_law_binding_text" "_law_binding_text" (defArgs sLawBT) (defBody sLawBT) (defScope sLawBT) .none kV32 dc32 pm32 an32 cd32 ct32), sl32⟩) (c32 : PySem.W.codeIn K cd32 "_law_binding_text" = true) (k32 : PySem.W.keepIn K (.ref f32) = true)
    (a33 : PySem.W.nsIn K mainGlobals "_law_leaves" = some (some (.ref f33))) (l33 : K.lookup f33 = some ⟨oc33, od33, .func (PySem.W.fnOf "_law_leaves" "_law_leaves" (defArgs sLeaves) (defBody sLeaves) (defScope sLeaves) .none kV33 dc33 pm33 an33 cd33 ct33), sl33⟩) (c33 : PySem.W.codeIn K cd33 "_law_leaves" = true) (k33 : PySem.W.keepIn K (.ref f33) = true)
    (a34 : PySem.W.nsIn K mainGlobals "_law_put" = some (some (.ref f34))) (l34 : K.lookup f34 = some ⟨oc34, od34, .func (PySem.W.fnOf "_law_put" "_law_put" (defArgs sPutL) (defBody sPutL) (defScope sPutL) .none kV34 dc34 pm34 an34 cd34 ct34), sl34⟩) (c34 : PySem.W.codeIn K cd34 "_law_put" = true) (k34 : PySem.W.keepIn K (.ref f34) = true)
    (a35 : PySem.W.nsIn K mainGlobals "_law_tall" = some (some (.ref f35))) (l35 : K.lookup f35 = some ⟨oc35, od35, .func (PySem.W.fnOf "_law_tall" "_law_tall" (defArgs sTall) (defBody sTall) (defScope sTall) .none kV35 dc35 pm35 an35 cd35 ct35), sl35⟩) (c35 : PySem.W.codeIn K cd35 "_law_tall" = true) (k35 : PySem.W.keepIn K (.ref f35) = true)
    (a36 : PySem.W.nsIn K mainGlobals "_law_right" = some (some (.ref f36))) (l36 : K.lookup f36 = some ⟨oc36, od36, .func (PySem.W.fnOf "_law_right" "_law_right" (defArgs sRight) (defBody sRight) (defScope sRight) .none kV36 dc36 pm36 an36 cd36 ct36), sl36⟩) (c36 : PySem.W.codeIn K cd36 "_law_right" = true) (k36 : PySem.W.keepIn K (.ref f36) = true)
    (a37 : PySem.W.nsIn K mainGlobals "law" = some (some (.ref f37))) (l37 : K.lookup f37 = some ⟨oc37, od37, .func (PySem.W.fnOf "law" "law" (defArgs sLaw) (defBody sLaw) (defScope sLaw) .none kV37 dc37 pm37 an37 cd37 ct37), sl37⟩) (c37 : PySem.W.codeIn K cd37 "law" = true) (k37 : PySem.W.keepIn K (.ref f37) = true)
    (z1 : PySem.W.nsIn K mainGlobals "isinstance" = some none)
    (z2 : PySem.W.nsIn K mainGlobals "int" = some none)
    (z3 : PySem.W.nsIn K mainGlobals "sorted" = some none)
    (z4 : PySem.W.nsIn K mainGlobals "len" = some none)
    (z5 : PySem.W.nsIn K mainGlobals "dict" = some none)
    (z6 : PySem.W.nsIn K mainGlobals "reversed" = some none)
    (z7 : PySem.W.nsIn K mainGlobals "tuple" = some none)
    (z8 : PySem.W.nsIn K mainGlobals "range" = some none)
    (z9 : PySem.W.nsIn K mainGlobals "abs" = some none)
    (z10 : PySem.W.nsIn K mainGlobals "list" = some none)
    (z11 : PySem.W.nsIn K mainGlobals "str" = some none)
    (z12 : PySem.W.nsIn K mainGlobals "set" = some none)
    (z13 : PySem.W.nsIn K mainGlobals "min" = some none)
    (z14 : PySem.W.nsIn K mainGlobals "all" = some none)
    (z15 : PySem.W.nsIn K mainGlobals "zip" = some none)
    (z16 : PySem.W.nsIn K mainGlobals "bool" = some none)
    (xS : PySem.W.nsIn K mainGlobals "SHAPES" = some (some (.ref fS)))
    (xL : K.lookup fS = some ⟨.type "tuple", odS, .seq #[.ref s1, .ref s2, .ref s3] nS, slS⟩)
    (x1 : K.lookup s1 = some ⟨.type "tuple", od1_, .seq #[.str "0" t1, .int 1 t2] n1_, sl1_⟩)
    (x2 : K.lookup s2 = some ⟨.type "tuple", od2_, .seq #[.str "s" t3, .int 2 t4] n2_, sl2_⟩)
    (x3 : K.lookup s3 = some ⟨.type "tuple", od3_, .seq #[.str "f" t5, .int 3 t6] n3_, sl3_⟩)
    (xc0 : PySem.W.nsIn K mainGlobals "LAST_VARIABLE" = some (some (.int 99 tc0)))
    (xc1 : PySem.W.nsIn K mainGlobals "MOST_SIGNS" = some (some (.int 200 tc1)))
    : ∃ fd : FuncData, (∀ (s : Shared) (v : Value), BindsTo s fd ⟨[v], []⟩ [("_law_script", v)]) ∧ ∀ base : Heap, K.In base → base.Ns mainGlobals mg → LamX.TabB base mg c Pt → GnOk l.prog w K mg base 90 fa fd ["_law_script"] (spLaw [(Pt, nmEx)] K) := by
  have e := hfa.symm.trans (PySem.W.mg_of X G a37)
  cases e
  have F1 := fun_mk (st := sNumber) l1 c1 k1
  have b1 := F1.binds (ps := ["thing"]) fun _ _ _ _ _ _ us hl => match us, hl with | [_], _ => rfl
  have m1 := PySem.W.mg_of X G a1
  have F2 := fun_mk (st := sVariable) l2 c2 k2
  have b2 := F2.binds (ps := ["thing"]) fun _ _ _ _ _ _ us hl => match us, hl with | [_], _ => rfl
  have m2 := PySem.W.mg_of X G a2
  have F3 := fun_mk (st := sShape) l3 c3 k3
  have b3 := F3.binds (ps := ["thing"]) fun _ _ _ _ _ _ us hl => match us, hl with | [_], _ => rfl
  have m3 := PySem.W.mg_of X G a3
  have F4 := fun_mk (st := sTerm) l4 c4 k4
  have b4 := F4.binds (ps := ["thing"]) fun _ _ _ _ _ _ us hl => match us, hl with | [_], _ => rfl
  have m4 := PySem.W.mg_of X G a4
  have F5 := fun_mk (st := sParts) l5 c5 k5
  have b5 := F5.binds (ps := ["term"]) fun _ _ _ _ _ _ us hl => match us, hl with | [_], _ => rfl
  have m5 := PySem.W.mg_of X G a5
  have F6 := fun_mk (st := sInside) l6 c6 k6
  have b6 := F6.binds (ps := ["term"]) fun _ _ _ _ _ _ us hl => match us, hl with | [_], _ => rfl
  have m6 := PySem.W.mg_of X G a6
  have F7 := fun_mk (st := sVars) l7 c7 k7
  have b7 := F7.binds (ps := ["term"]) fun _ _ _ _ _ _ us hl => match us, hl with | [_], _ => rfl
  have m7 := PySem.W.mg_of X G a7
  have F8 := fun_mk (st := sSize) l8 c8 k8
  have b8 := F8.binds (ps := ["term"]) fun _ _ _ _ _ _ us hl => match us, hl with | [_], _ => rfl
  have m8 := PySem.W.mg_of X G a8
  have F9 := fun_mk (st := sClosed) l9 c9 k9
  have b9 := F9.binds (ps := ["thing"]) fun _ _ _ _ _ _ us hl => match us, hl with | [_], _ => rfl
  have m9 := PySem.W.mg_of X G a9
  have F10 := fun_mk (st := sIsPair) l10 c10 k10
  have b10 := F10.binds (ps := ["thing"]) fun _ _ _ _ _ _ us hl => match us, hl with | [_], _ => rfl
  have m10 := PySem.W.mg_of X G a10
  have F11 := fun_mk (st := sIsBinding) l11 c11 k11
  have b11 := F11.binds (ps := ["thing"]) fun _ _ _ _ _ _ us hl => match us, hl with | [_], _ => rfl
  have m11 := PySem.W.mg_of X G a11
  have F12 := fun_mk (st := sTextOf) l12 c12 k12
  have b12 := F12.binds (ps := ["part", "texts"]) fun _ _ _ _ _ _ us hl => match us, hl with | [_, _], _ => rfl
  have m12 := PySem.W.mg_of X G a12
  have F13 := fun_mk (st := sFold) l13 c13 k13
  have b13 := F13.binds (ps := ["term", "made_of"]) fun _ _ _ _ _ _ us hl => match us, hl with | [_, _], _ => rfl
  have m13 := PySem.W.mg_of X G a13
  have F14 := fun_mk (st := sPut) l14 c14 k14
  have b14 := F14.binds (ps := ["term", "binding"]) fun _ _ _ _ _ _ us hl => match us, hl with | [_, _], _ => rfl
  have m14 := PySem.W.mg_of X G a14
  have F15 := fun_mk (st := sTermText) l15 c15 k15
  have b15 := F15.binds (ps := ["term"]) fun _ _ _ _ _ _ us hl => match us, hl with | [_], _ => rfl
  have m15 := PySem.W.mg_of X G a15
  have F16 := fun_mk (st := sNumberOf) l16 c16 k16
  have b16 := F16.binds (ps := ["sign"]) fun _ _ _ _ _ _ us hl => match us, hl with | [_], _ => rfl
  have m16 := PySem.W.mg_of X G a16
  have F17 := fun_mk (st := sFromSigns) l17 c17 k17
  have b17 := F17.binds (ps := ["signs"]) fun _ _ _ _ _ _ us hl => match us, hl with | [_], _ => rfl
  have m17 := PySem.W.mg_of X G a17
  have F18 := fun_mk (st := sTermOrNone) l18 c18 k18
  have b18 := F18.binds (ps := ["text"]) fun _ _ _ _ _ _ us hl => match us, hl with | [_], _ => rfl
  have m18 := PySem.W.mg_of X G a18
  have F19 := fun_mk (st := sTermIn) l19 c19 k19
  have b19 := F19.binds (ps := ["text"]) fun _ _ _ _ _ _ us hl => match us, hl with | [_], _ => rfl
  have m19 := PySem.W.mg_of X G a19
  have F20 := fun_mk (st := sBindingText) l20 c20 k20
  have b20 := F20.binds (ps := ["binding"]) fun _ _ _ _ _ _ us hl => match us, hl with | [_], _ => rfl
  have m20 := PySem.W.mg_of X G a20
  have F21 := fun_mk (st := sPairIn) l21 c21 k21
  have b21 := F21.binds (ps := ["text"]) fun _ _ _ _ _ _ us hl => match us, hl with | [_], _ => rfl
  have m21 := PySem.W.mg_of X G a21
  have F22 := fun_mk (st := sBindingOrNone) l22 c22 k22
  have b22 := F22.binds (ps := ["text"]) fun _ _ _ _ _ _ us hl => match us, hl with | [_], _ => rfl
  have m22 := PySem.W.mg_of X G a22
  have F23 := fun_mk (st := sBindingIn) l23 c23 k23
  have b23 := F23.binds (ps := ["text"]) fun _ _ _ _ _ _ us hl => match us, hl with | [_], _ => rfl
  have m23 := PySem.W.mg_of X G a23
  have F24 := fun_mk (st := sOfSize) l24 c24 k24
  have b24 := F24.binds (ps := ["signs", "ahead"]) fun _ _ _ _ _ _ us hl => match us, hl with | [_, _], _ => rfl
  have m24 := PySem.W.mg_of X G a24
  have F25 := fun_mk (st := sTrees) l25 c25 k25
  have b25 := F25.binds (ps := ["most"]) fun _ _ _ _ _ _ us hl => match us, hl with | [_], _ => rfl
  have m25 := PySem.W.mg_of X G a25
  have F26 := fun_mk (st := sBox) l26 c26 k26
  have b26 := F26.binds (ps := ["_law_script", "_law_k"]) fun _ _ _ _ _ _ us hl => match us, hl with | [_, _], _ => rfl
  have m26 := PySem.W.mg_of X G a26
  have F27 := fun_mk (st := sTake) l27 c27 k27
  have b27 := F27.binds (ps := ["_law_box_here", "_law_count"]) fun _ _ _ _ _ _ us hl => match us, hl with | [_, _], _ => rfl
  have m27 := PySem.W.mg_of X G a27
  have F28 := fun_mk (st := sPick) l28 c28 k28
  have b28 := F28.binds (ps := ["_law_box_here", "_law_things"]) fun _ _ _ _ _ _ us hl => match us, hl with | [_, _], _ => rfl
  have m28 := PySem.W.mg_of X G a28
  have F29 := fun_mk (st := sSame) l29 c29 k29
  have b29 := F29.binds (ps := ["_law_found", "_law_due"]) fun _ _ _ _ _ _ us hl => match us, hl with | [_, _], _ => rfl
  have m29 := PySem.W.mg_of X G a29
  have F30 := fun_mk (st := sTree) l30 c30 k30
  have b30 := F30.binds (ps := ["_law_box_here", "_law_room", "_law_fresh"]) fun _ _ _ _ _ _ us hl => match us, hl with | [_, _, _], _ => rfl
  have m30 := PySem.W.mg_of X G a30
  have F31 := fun_mk (st := sText) l31 c31 k31
  have b31 := F31.binds (ps := ["_law_tree_here"]) fun _ _ _ _ _ _ us hl => match us, hl with | [_], _ => rfl
  have m31 := PySem.W.mg_of X G a31
  have F32 := fun_mk (st := sLawBT) l32 c32 k32
  have b32 := F32.binds (ps := ["_law_pairs"]) fun _ _ _ _ _ _ us hl => match us, hl with | [_], _ => rfl
  have m32 := PySem.W.mg_of X G a32
  have F33 := fun_mk (st := sLeaves) l33 c33 k33
  have b33 := F33.binds (ps := ["_law_tree_here"]) fun _ _ _ _ _ _ us hl => match us, hl with | [_], _ => rfl
  have m33 := PySem.W.mg_of X G a33
  have F34 := fun_mk (st := sPutL) l34 c34 k34
  have b34 := F34.binds (ps := ["_law_tree_here", "_law_pairs"]) fun _ _ _ _ _ _ us hl => match us, hl with | [_, _], _ => rfl
  have m34 := PySem.W.mg_of X G a34
  have F35 := fun_mk (st := sTall) l35 c35 k35
  have b35 := F35.binds (ps := ["_law_box_here"]) fun _ _ _ _ _ _ us hl => match us, hl with | [_], _ => rfl
  have m35 := PySem.W.mg_of X G a35
  have F36 := fun_mk (st := sRight) l36 c36 k36
  have b36 := F36.binds (ps := ["_law_box_here"]) fun _ _ _ _ _ _ us hl => match us, hl with | [_], _ => rfl
  have m36 := PySem.W.mg_of X G a36
  have F37 := fun_mk (st := sLaw) l37 c37 k37
  have y1 := PySem.W.mg_none_of X G z1
  have y2 := PySem.W.mg_none_of X G z2
  have y3 := PySem.W.mg_none_of X G z3
  have y4 := PySem.W.mg_none_of X G z4
  have y5 := PySem.W.mg_none_of X G z5
  have y6 := PySem.W.mg_none_of X G z6
  have y7 := PySem.W.mg_none_of X G z7
  have y8 := PySem.W.mg_none_of X G z8
  have y9 := PySem.W.mg_none_of X G z9
  have y10 := PySem.W.mg_none_of X G z10
  have y11 := PySem.W.mg_none_of X G z11
  have y12 := PySem.W.mg_none_of X G z12
  have y13 := PySem.W.mg_none_of X G z13
  have y14 := PySem.W.mg_none_of X G z14
  have y15 := PySem.W.mg_none_of X G z15
  have y16 := PySem.W.mg_none_of X G z16
  refine ⟨PySem.W.fnOf "law" "law" (defArgs sLaw) (defBody sLaw) (defScope sLaw) .none kV37 dc37 pm37 an37 cd37 ct37, fun s v => .of_eq rfl, fun base _ _ TB => ?_⟩
  have c0 : ∀ H, SqT K H fS [V.ref s1, .ref s2, .ref s3] := fun H => .inr ⟨_, _, _, xL, rfl, rfl, (by show 3 ≤ sizeLine; decide), .cons rfl (.cons rfl (.cons rfl .nil))⟩
  have c1 : ∀ H, SqT K H s1 [V.str "0", .int 1] := fun H => .inr ⟨_, _, _, x1, rfl, rfl, (by show 2 ≤ sizeLine; decide), .cons ⟨_, rfl⟩ (.cons ⟨_, rfl⟩ .nil)⟩
  have c2 : ∀ H, SqT K H s2 [V.str "s", .int 2] := fun H => .inr ⟨_, _, _, x2, rfl, rfl, (by show 2 ≤ sizeLine; decide), .cons ⟨_, rfl⟩ (.cons ⟨_, rfl⟩ .nil)⟩
  have c3 : ∀ H, SqT K H s3 [V.str "f", .int 3] := fun H => .inr ⟨_, _, _, x3, rfl, rfl, (by show 2 ≤ sizeLine; decide), .cons ⟨_, rfl⟩ (.cons ⟨_, rfl⟩ .nil)⟩
  have hS : ∀ H, Dp K H (.ref fS) shapesD := fun H =>
    .tup (c0 H) (.cons (.tup (c1 H) (.cons (.str _) (.cons (.int _) .nil))) (.cons (.tup (c2 H) (.cons (.str _) (.cons (.int _) .nil))) (.cons (.tup (c3 H) (.cons (.str _) (.cons (.int _) .nil))) .nil)))
  have M : SameG mg := ⟨y1, y10, y7, y4, y14, y15, y11, y2, y16⟩
  have hcode := PySem.W.law_code X G ht m14 (X _ _ l14) rfl
  have G1_ := ok_number (P := l.prog) (w := w) (mg := mg) (base := base) F1 M
  have G2_ := ok_variable (P := l.prog) (w := w) (mg := mg) (base := base) F2 G1_ k1 b1 m1 (PySem.W.mg_of X G xc0)
  have G3_ := ok_shape (P := l.prog) (w := w) (mg := mg) (base := base) F3 M (PySem.W.mg_of X G xS) hS
  have G4_ := ok_term (P := l.prog) (w := w) (mg := mg) (base := base) F4 G3_ k3 b3 m3 G2_ k2 b2 m2
  have G5_ := ok_parts (P := l.prog) (w := w) (mg := mg) (base := base) F5 y1 y2
  have G6_ := ok_inside (P := l.prog) (w := w) (mg := mg) (base := base) F6 F5 b5 m5 y1 y2
  have G7_ := ok_vars (P := l.prog) (w := w) (mg := mg) (base := base) F7 G6_ k6 b6 m6 y3 y1 y2
  have G8_ := ok_size (P := l.prog) (w := w) (mg := mg) (base := base) F8 G6_ k6 b6 m6 y4
  have G9_ := ok_closedt (P := l.prog) (w := w) (mg := mg) (base := base) F9 G4_ k4 b4 m4 G7_ k7 b7 m7
  have G10_ := ok_ispair (P := l.prog) (w := w) (mg := mg) (base := base) F10 G2_ k2 b2 m2 G4_ k4 b4 m4 M
  have G11_ := ok_isbi (P := l.prog) (w := w) (mg := mg) (base := base) F11 G10_ k10 b10 m10 M
  have G12_ := ok_textof (P := l.prog) (w := w) (mg := mg) (base := base) F12 y1 y2
  have G13_ := ok_foldq (P := l.prog) (w := w) (mg := mg) (base := base) F13 G6_ k6 b6 m6 G5_ k5 b5 m5 y4 y1 y2
  have G14_ := ok_fold (P := l.prog) (w := w) (mg := mg) (base := base) F13 G6_ k6 b6 m6 G5_ k5 b5 m5 G12_ k12 b12 y4
  have G15_ := ok_put (P := l.prog) (w := w) (mg := mg) (base := base) F14 hcode TB G13_ k13 b13 m13 y5
  have G16_ := ok_termtext (P := l.prog) (w := w) (mg := mg) (base := base) F15 G14_ k13 b13 m13 m12
  have G17_ := ok_numberof (P := l.prog) (w := w) (mg := mg) (base := base) F16 y4 y2
  have G18_ := ok_fromsigns (P := l.prog) (w := w) (mg := mg) (base := base) F17 G17_ k16 b16 m16 y4 y6
  have G19_ := ok_termor (P := l.prog) (w := w) (mg := mg) (base := base) F18 G18_ k17 b17 m17 G16_ k15 b15 m15 y4 (PySem.W.mg_of X G xc1)
  have G20_ := ok_termin (P := l.prog) (w := w) (mg := mg) (base := base) F19 G19_ k18 b18 m18
  have G21_ := ok_btext (P := l.prog) (w := w) (mg := mg) (base := base) F20 G16_ k15 b15 m15
  have G22_ := ok_pairin (P := l.prog) (w := w) (mg := mg) (base := base) F21 G19_ k18 b18 m18
  have G23_ := ok_bor (P := l.prog) (w := w) (mg := mg) (base := base) F22 G22_ k21 b21 m21 G11_ k11 b11 m11 y7
  have G24_ := ok_bin (P := l.prog) (w := w) (mg := mg) (base := base) F23 G23_ k22 b22 m22
  have G25_ := ok_ofsize (P := l.prog) (w := w) (mg := mg) (base := base) F24 y8
  have G26_ := ok_trees (P := l.prog) (w := w) (mg := mg) (base := base) F25 G25_ k24 b24 m24 G16_ k15 b15 m15 y8 y3
  have G27_ := ok_box (P := l.prog) (w := w) (mg := mg) (base := base) F26 y4 y9 y2
  have G28_ := ok_take (P := l.prog) (w := w) (mg := mg) (base := base) F27
  have G29_ := ok_pick (P := l.prog) (w := w) (mg := mg) (base := base) F28 F27 b27 m27 y4
  have G30_ := same_okP (P := l.prog) (w := w) (mg := mg) (base := base) F29 b29 m29 M 83
  have G31_ := trees_ok (P := l.prog) (w := w) (mg := mg) (base := base) F30 b30 m30 F27 b27 m27 F28 b28 m28 y4 y10 40
  have G32_ := ltext_ok (P := l.prog) (w := w) (mg := mg) (base := base) F31 b31 m31 M 64
  have G33_ := ok_lbt (P := l.prog) (w := w) (mg := mg) (base := base) F32 G32_ k31 b31 m31 y11
  have G34_ := leaves_ok (P := l.prog) (w := w) (mg := mg) (base := base) F33 b33 m33 y1 y2 64
  have G35_ := lput_ok (P := l.prog) (w := w) (mg := mg) (base := base) F34 b34 m34 y1 y2 y7 y5 40
  have G36_ := ok_tall (P := l.prog) (w := w) (mg := mg) (base := base) F35 G28_ k27 b27 m27 G29_ k28 b28 m28 G31_ k30 b30 m30 y8
  have G37_ := ok_ri (P := l.prog) (w := w) (mg := mg) (base := base) F36 G36_ k35 b35 m35 G29_ k28 b28 m28 G35_ k34 b34 m34 G15_ k14 b14 m14 F14 G30_ k29 b29 m29 G32_ k31 b31 m31 G33_ k32 b32 m32 G16_ k15 b15 m15 F15 G21_ k20 b20 m20 F20 G20_ k19 b19 m19 F19 G24_ k23 b23 m23 F23 G11_ k11 b11 m11 F11 G34_ k33 b33 m33 G7_ k7 b7 m7 F7 G8_ k8 b8 m8 F8 G4_ k4 b4 m4 F4 G9_ k9 b9 m9 F9 M y8 y3 y12
  exact ok_law F37 F25 G27_ k26 b26 m26 G26_ k25 b25 m25 G37_ k36 b36 m36 M y8 y13
theorem walk {l : PySem.W.OpenLaw} {q : Program} {loose : List Str} {XP : (Str → Option Value) → Heap → Prop} {YP : World → Heap → Prop} {d : DefRec} {K : Params → PySem.W.Frag} (hn : l.most = some 63) (hdf : d.params.defaults = [])
    (hY : ∀ (w : World) (h : Heap), YP w h → (K w.params).In h) (hrec : ((PyProof.Rows.recsOf q).find? fun e => e.name == ("put" : Str)).isSome = true) (htab : ∀ w : World, tabB (K w.params) "put" = true)
    (F : ∀ (w : World) (mg : Str → Option Value) (fa c Pt : Addr) (h : Heap), (K w.params).In h → h.Ns mainGlobals mg → mg d.name = some (.ref fa) → PySem.W.tabIn (K w.params) "put" = some (c, Pt) →
      ∃ fd : FuncData, (∀ (s : Shared) (u : Value), BindsTo s fd ⟨[u], []⟩ [("_law_script", u)]) ∧ ∀ base : Heap, (K w.params).In base → base.Ns mainGlobals mg → LamX.TabB base mg c Pt → GnOk l.prog w (K w.params) mg base 90 fa fd ["_law_script"] (spLaw [(Pt, nmEx)] (K w.params))) :
    PySem.W.WalkO q loose XP YP l.row.toRowW d [] (fun f vs => PySem.call f vs) :=
  walk_ofGT (n := 63) (k := 90) (x := "_law_script") (sp := spLaw) (nm := nmEx) hn (by decide) hdf ⟨rfl, by decide, by decide⟩ hY hrec htab F
    (fun _ _ a Pt ns hl hP hS => ⟨a, ns, rfl, hS, hl, fun p hp => by rw [List.mem_singleton.mp hp]; exact NdefX.TabN.nil hP, fun _ => rfl⟩)
end Rp
open PySem PySem.W PyProof.Rows
set_option maxRecDepth 100000 in
set_option maxHeartbeats 0 in
theorem PySem.Challenge.cw_ringproofs_k08_terms_by_names_and_great_holds : PySem.Challenge.rw_ringproofs_k08_terms_by_names_and_great.Holds := by
  w_on; o_law; k_head; (case hw => w_witness2)
  k_fill
  refine Rp.walk (l := PySem.Challenge.rw_ringproofs_k08_terms_by_names_and_great) rfl rfl (fun w h Y => PySem.W.km_in_of Y) ?hR ?hT ?F
  case hR => kernel_rfl
  case hT => intro w; kernel_rfl
  case F =>
    intro w mg fa c Pt h KX G hmg ht
    refine' Rp.all_mk KX G hmg ht ?a1 ?l1 ?c1 ?k1 ?a2 ?l2 ?c2 ?k2 ?a3 ?l3 ?c3 ?k3 ?a4 ?l4 ?c4 ?k4 ?a5 ?l5 ?c5 ?k5 ?a6 ?l6 ?c6 ?k6 ?a7 ?l7 ?c7 ?k7 ?a8 ?l8 ?c8 ?k8 ?a9 ?l9 ?c9 ?k9 ?a10 ?l10 ?c10 ?k10 ?a11 ?l11 ?c11 ?k11 ?a12 ?l12 ?c12 ?k12 ?a13 ?l13 ?c13 ?k13 ?a14 ?l14 ?c14 ?k14 ?a15 ?l15 ?c15 ?k15 ?a16 ?l16 ?c16 ?k16 ?a17 ?l17 ?c17 ?k17 ?a18 ?l18 ?c18 ?k18 ?a19 ?l19 ?c19 ?k19 ?a20 ?l20 ?c20 ?k20 ?a21 ?l21 ?c21 ?k21 ?a22 ?l22 ?c22 ?k22 ?a23 ?l23 ?c23 ?k23 ?a24 ?l24 ?c24 ?k24 ?a25 ?l25 ?c25 ?k25 ?a26 ?l26 ?c26 ?k26 ?a27 ?l27 ?c27 ?k27 ?a28 ?l28 ?c28 ?k28 ?a29 ?l29 ?c29 ?k29 ?a30 ?l30 ?c30 ?k30 ?a31 ?l31 ?c31 ?k31 ?a32 ?l32 ?c32 ?k32 ?a33 ?l33 ?c33 ?k33 ?a34 ?l34 ?c34 ?k34 ?a35 ?l35 ?c35 ?k35 ?a36 ?l36 ?c36 ?k36 ?a37 ?l37 ?c37 ?k37 ?z1 ?z2 ?z3 ?z4 ?z5 ?z6 ?z7 ?z8 ?z9 ?z10 ?z11 ?z12 ?z13 ?z14 ?z15 ?z16 ?xS ?xL ?x1 ?x2 ?x3 ?xc0 ?xc1
    (case a1 => k_is); (case l1 => k_is); (case c1 => k_is); (case k1 => k_is)
    (case a2 => k_is); (case l2 => k_is); (case c2 => k_is); (case k2 => k_is)
    (case a3 => k_is); (case l3 => k_is); (case c3 => k_is); (case k3 => k_is)
    (case a4 => k_is); (case l4 => k_is); (case c4 => k_is); (case k4 => k_is)
    (case a5 => k_is); (case l5 => k_is); (case c5 => k_is); (case k5 => k_is)
    (case a6 => k_is); (case l6 => k_is); (case c6 => k_is); (case k6 => k_is)
    (case a7 => k_is); (case l7 => k_is); (case c7 => k_is); (case k7 => k_is)
    (case a8 => k_is); (case l8 => k_is); (case c8 => k_is); (case k8 => k_is)
    (case a9 => k_is); (case l9 => k_is); (case c9 => k_is); (case k9 => k_is)
    (case a10 => k_is); (case l10 => k_is); (case c10 => k_is); (case k10 => k_is)
    (case a11 => k_is); (case l11 => k_is); (case c11 => k_is); (case k11 => k_is)
    (case a12 => k_is); (case l12 => k_is); (case c12 => k_is); (case k12 => k_is)
    (case a13 => k_is); (case l13 => k_is); (case c13 => k_is); (case k13 => k_is)
    (case a14 => k_is); (case l14 => k_is); (case c14 => k_is); (case k14 => k_is)
    (case a15 => k_is); (case l15 => k_is); (case c15 => k_is); (case k15 => k_is)
    (case a16 => k_is); (case l16 => k_is); (case c16 => k_is); (case k16 => k_is)
    (case a17 => k_is); (case l17 => k_is); (case c17 => k_is); (case k17 => k_is)
    (case a18 => k_is); (case l18 => k_is); (case c18 => k_is); (case k18 => k_is)
    (case a19 => k_is); (case l19 => k_is); (case c19 => k_is); (case k19 => k_is)
    (case a20 => k_is); (case l20 => k_is); (case c20 => k_is); (case k20 => k_is)
    (case a21 => k_is); (case l21 => k_is); (case c21 => k_is); (case k21 => k_is)
    (case a22 => k_is); (case l22 => k_is); (case c22 => k_is); (case k22 => k_is)
    (case a23 => k_is); (case l23 => k_is); (case c23 => k_is); (case k23 => k_is)
    (case a24 => k_is); (case l24 => k_is); (case c24 => k_is); (case k24 => k_is)
    (case a25 => k_is); (case l25 => k_is); (case c25 => k_is); (case k25 => k_is)
    (case a26 => k_is); (case l26 => k_is); (case c26 => k_is); (case k26 => k_is)
    (case a27 => k_is); (case l27 => k_is); (case c27 => k_is); (case k27 => k_is)
    (case a28 => k_is); (case l28 => k_is); (case c28 => k_is); (case k28 => k_is)
    (case a29 => k_is); (case l29 => k_is); (case c29 => k_is); (case k29 => k_is)
    (case a30 => k_is); (case l30 => k_is); (case c30 => k_is); (case k30 => k_is)
    (case a31 => k_is); (case l31 => k_is); (case c31 => k_is); (case k31 => k_is)
    (case a32 => k_is); (case l32 => k_is); (case c32 => k_is); (case k32 => k_is)
    (case a33 => k_is); (case l33 => k_is); (case c33 => k_is); (case k33 => k_is)
    (case a34 => k_is); (case l34 => k_is); (case c34 => k_is); (case k34 => k_is)
    (case a35 => k_is); (case l35 => k_is); (case c35 => k_is); (case k35 => k_is)
    (case a36 => k_is); (case l36 => k_is); (case c36 => k_is); (case k36 => k_is)
    (case a37 => k_is); (case l37 => k_is); (case c37 => k_is); (case k37 => k_is)
    (case z1 => k_is); (case z2 => k_is); (case z3 => k_is); (case z4 => k_is)
    (case z5 => k_is); (case z6 => k_is); (case z7 => k_is); (case z8 => k_is)
    (case z9 => k_is); (case z10 => k_is); (case z11 => k_is); (case z12 => k_is)
    (case z13 => k_is); (case z14 => k_is); (case z15 => k_is); (case z16 => k_is)
    (case xS => k_is); (case xL => k_is); (case x1 => k_is); (case x2 => k_is)
    (case x3 => k_is); (case xc0 => k_is); (case xc1 => k_is)

