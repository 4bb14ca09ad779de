import PyProof.Rows.All
import Wide.All
import OpenK.AllK
import Wide.FinOn
import HandS.ForMost
import HandS.IsInst
import HandS.Style
import HandS.Set
import HandS.Strs
import HandS.SetBool
import HandS.SetFor
import PySem.Challenge.RW_ringproofs_k26_whole_sayings_as_texts
import HandS.Zip
import HandS.Deep
import HandS.Flow
import PyProof.Rows.RegFStrParts
import HandS.TupAny
import HandS.Walk
import HandS.Steps
import HandS.Text
import PyProof.StrLaws
import KE.KUnpackStar
import HandS.Star
import HandS.FStr
import HandS.CallLocal
import HandS.Codes
import HandS.Conv
import KE.KDictPairs
import HandS.Nested
import HandS.TupMul
import HandS.RaiseMore
import HandS.Rev
import HandS.StrMore
import HandS.ReplaceLit
import HandS.ReplaceDef
import HandS.Exc
import HandS.ExcValue
import HandS.ExcField
import HandS.ExcIs
import KE.KExcIs
import HandS.More
import HandS.ExcInit
import HandS.WordsExc
import HandS.ExcOwn
import PyProof.Rows.StrFirst
import HandS.ReplaceList
set_option Elab.async false
set_option linter.all false
set_option maxRecDepth 100000
set_option maxHeartbeats 4000000
/-! Two rules that the layer lacks: a comprehension that makes a set of ints, and set(xs) of a list of ints whose table is known well enough to be sorted afterwards. -/
namespace Rp
open PySem PySem.Spec PyProof.Rows L2 PpSet

section addi
variable {X : Cx}
/-- an int goes into a tracked set of ints -/
theorem putInt {pins : List (Addr × Obj)} {σ : L2.St} {H : Hp} {s : Shared} {E : Value → Shared → Prop} {D : Addr} {S : Int → Bool} {n : Nat} {y : Int} {t : Tok} {Q : Value → Shared → Prop}
    (I : Inv X pins σ H s) (hD : H D = some (SetO X.w D S n)) (few : n + 1 < scanBound)
    (go : ∀ s', Inv X pins σ (upd H D (SetO X.w D (fun j => S j || decide (j = y)) (if S y = true then n else n + 1))) s' → Q .none s') :
    wpAny (model X.prog X.w) X.A (call (.builtin "set.add") [.ref D, .int y t]) Q E s :=
  setR_add (setO_get I hD) few fun h' same now =>
    have there : ∃ u, h'.get? D = some u := let ⟨o, _, _, _, ho, _⟩ := now; ⟨o, ho⟩
    go _ (I.write (e := D) (t' := s.toks + 1) (by rw [hD]; trivial) (.inl rfl) (fun b u ne hu => (same.2 b ne).trans hu) there (setO_new now))

/-- what {e for x in .. if ..} asks where e is an int -/
def tScI (w : World) (wi : TI) (g : TG) (tt : TT) (te : TE) (vs : List Nat) : TE := fun σ H Q => wi σ H fun J H1 => ∀ D, H1 D = none →
  ∃ W : Nat → Nat → Hp → Prop, (∃ m, W 0 m (upd H1 D (SetO w D (fun _ => false) 0))) ∧ ∀ i m H, W i m H → (J.stop i H ∧ Q (.ref D) H) ∨
    (J.go i H ∧ ∃ Nx : Hp → Prop, (∀ H', Nx H' → ∃ m', m' < m ∧ W (i + 1) m' H') ∧ ∀ x H', J.yld i H x H' → g x (wipe σ vs) H' fun σ2 H2 => wipe σ2 vs = wipe σ vs ∧
      tt σ2 H2 fun b H3 => if b = true then te σ2 H3 fun y H4 => ∃ (k : Int) (S : Int → Bool) (n : Nat), y = .int k ∧ H4 D = some (SetO w D S n) ∧ n + 1 < scanBound ∧
        Nx (upd H4 D (SetO w D (fun j => S j || decide (j = k)) (if S k = true then n else n + 1))) else Nx H3)

abbrev emptySet (w : World) : Obj := { cls := .type "set", dict := none, data := .set #[] 0 (.fresh 0 0 (!w.params.followText "set-order")) }

theorem pe_scI {elt tg iter : Expr} {ifs : List Expr} {scope : Scope} {own : List (PySem.Str × Nat)} {pos : Pos} {wi : TI} {g : TG} {tt : TT} {te : TE}
    (hc : X.calm = true) (hN : X.N.Nodup) (hi : PI X tg iter wi) (ok : BlkOk X.N X.env.scope scope own)
    (hg : ∀ (s : Shared) (H : Hp) (C : Addr) (cl : List (PySem.Str × Addr)) (fp : List Addr), PG (X.blk s H scope (compEnvC scope cl C X.env) fp) tg g)
    (ht : ∀ (s : Shared) (H : Hp) (C : Addr) (cl : List (PySem.Str × Addr)) (fp : List Addr), PTs (X.blk s H scope (compEnvC scope cl C X.env) fp) ifs tt)
    (he : ∀ (s : Shared) (H : Hp) (C : Addr) (cl : List (PySem.Str × Addr)) (fp : List Addr), PE (X.blk s H scope (compEnvC scope cl C X.env) fp) elt te)
    (hs : ∀ x, foldedSetIterable iter X.env x = pure x := by intro _; rfl) :
    PE X (.SetComp elt [⟨tg, iter, ifs, 0⟩] scope pos) (tScI X.w wi g tt te (own.map (·.2))) := by
  refine ⟨fun pins s σ H Q I h => ?_⟩
  rw [eval_SetComp]
  have caught : ∀ y ∈ scope.names, y.2 = .free → ∃ c, X.env.cells.lookup y.1 = some c := fun y hy e =>
    (ok.free y hy e).elim (fun k => I.ok.has _ (.inl k)) fun k => I.ok.has _ (.inr k)
  refine wpAny_comprehension_free (use := none) rfl hs (closure_ok caught) ok.kind (fun y hy e => (ok.uniq y hy).trans (by rw [e])) (thn (hi.run pins s σ H _ I h) fun xv s1 hx => thn hx fun itv s2 h2 => ?_)
  obtain ⟨it, fp, tn, J, H2, rfl, I2, T, st2, f2, q⟩ := h2
  refine newSet_ok (newEnv_comp ?_)
  -- the new set's place
  obtain ⟨D, hD⟩ : ∃ D, s2.heap.objs.size = D := ⟨_, rfl⟩
  rw [hD]
  obtain ⟨W, ⟨m0, w0⟩, turn⟩ := q D (I2.hok.fresh (Nat.le_of_eq hD))
  obtain ⟨s3, hs3⟩ : ∃ s3 : Shared, { s2 with heap := s2.heap.push (emptySet X.w) } = s3 := ⟨_, rfl⟩
  have h3 : s3.heap = s2.heap.push (emptySet X.w) := by rw [← hs3]
  have I3 : Inv X pins σ (upd H2 D (SetO X.w D (fun _ => false) 0)) s3 := by
    have z := I2.laid (a := D) (o := SetO X.w D (fun _ => false) 0) (t' := s2.toks) (h' := s2.heap.push (emptySet X.w)) (fun b o e => Heap.get?_push_of_some _ e) (Nat.le_of_eq hD) (by rw [← hD]; exact setO_new (setR_fresh X.w))
    exact hs3 ▸ z
  have low : ∀ b ∈ fp, b < s2.heap.objs.size := fun b hb => let ⟨o, e, _⟩ := T.obj _ _ st2 b hb; Heap.lt_size e
  have f3 : ∀ b ∈ fp, FpOk X pins (upd H2 D (SetO X.w D (fun _ => false) 0)) b ∧ b < s3.heap.objs.size := fun b hb =>
    ⟨⟨(upd_ne (by rw [← hD]; exact Nat.ne_of_lt (low b hb))).trans (f2 b hb).1, (f2 b hb).2⟩, by rw [h3, Heap.size_push]; exact Nat.lt_succ_of_lt (low b hb)⟩
  have st3 : tn 0 s3.heap := T.keep _ _ _ st2 fun b _ o e => h3 ▸ Heap.get?_push_of_some _ e
  have I4 := block_start I3 ok hN f3
  obtain ⟨H3, hH3⟩ : ∃ H3, upd H2 D (SetO X.w D (fun _ => false) 0) = H3 := ⟨_, rfl⟩
  rw [hH3] at I3 f3 I4 w0
  obtain ⟨C, hC⟩ : ∃ C, s3.heap.objs.size = C := ⟨_, rfl⟩
  rw [hC] at I4
  have pg := hg s3 H3 C (cellsFrom (C + 1) scope.names (cloFrom X.env.cells scope.names [])) fp
  have pt := ht s3 H3 C (cellsFrom (C + 1) scope.names (cloFrom X.env.cells scope.names [])) fp
  have pe := he s3 H3 C (cellsFrom (C + 1) scope.names (cloFrom X.env.cells scope.names [])) fp
  subst hs3
  have hC' : (s2.heap.push (emptySet X.w)).objs.size = C := hC
  show codeAny _ _ (.compStart (.SetComp elt [⟨tg, iter, ifs, 0⟩] scope pos) 0 (.ref it) (.ref D) (compEnvC scope (cellsFrom ((s2.heap.push (emptySet X.w)).objs.size + 1) scope.names (cloFrom X.env.cells scope.names [])) (s2.heap.push (emptySet X.w)).objs.size X.env))
    (compPost (model X.prog X.w) X.A X.xe none (EP X pins σ Q) (.ref D) (s2.heap.push (emptySet X.w)).objs.size) { s2 with heap := pushCells ((s2.heap.push (emptySet X.w)).push { cls := .type "dict", data := .dict #[] }) scope.names }
  rw [hC']
  obtain ⟨ce, hce⟩ : ∃ ce, compEnvC scope (cellsFrom (C + 1) scope.names (cloFrom X.env.cells scope.names [])) C X.env = ce := ⟨_, rfl⟩
  rw [hce] at I4 pg pt pe ⊢
  have cL : ce.locals = C := by subst hce; rfl
  obtain ⟨s4, hs4⟩ : ∃ s4 : Shared, { s2 with heap := pushCells ((s2.heap.push (emptySet X.w)).push { cls := .type "dict", data := .dict #[] }) scope.names } = s4 := ⟨_, rfl⟩
  have I4 : Inv (X.blk _ H3 scope ce fp) [] (wipe σ (own.map (·.2))) H3 s4 := hs4 ▸ I4
  rw [hs4]
  have st4 : tn 0 s4.heap := T.keep _ _ _ st3 fun b _ o e => by rw [← hs4]; exact pushCells_keeps _ _ _ _ (Heap.get?_push_of_some _ e)
  obtain ⟨Y, hY⟩ : ∃ Y, X.blk { s2 with heap := s2.heap.push (emptySet X.w) } H3 scope ce fp = Y := ⟨_, rfl⟩
  have rest : ∀ {σ' : L2.St} {H' : Hp} {s' : Shared}, Inv Y [] σ' H' s' → (∀ b ∈ fp, H' b = none) → ∀ b ∈ fp, FpOk Y [] H' b := by
    subst hY
    intro σ' H' s' I' hn b hb
    exact ⟨hn b hb, (I'.ok.exf b hb).1, I'.ok.exfs b hb, .inl hb, fun x c e => (I'.ok.exf b hb).2 x c e, fun p hp => absurd (show p ∈ ([] : List (Addr × Obj)) ++ [] from hp) (by simp)⟩
  have round : codeAny (model X.prog X.w) X.A (.compLoop (.SetComp elt [⟨tg, iter, ifs, 0⟩] scope pos) 0 (.ref it) (.ref D) ce) (compPost (model X.prog X.w) X.A X.xe none (EP X pins σ Q) (.ref D) C) s4 := by
    refine compLoopS_any (fun n s' => ∃ i H', Inv Y [] (wipe σ (own.map (·.2))) H' s' ∧ tn i s'.heap ∧ (∀ b ∈ fp, H' b = none) ∧ W i n H') ?_ m0 ⟨0, H3, hY ▸ I4, st4, fun b hb => (f3 b hb).1.1, w0⟩
    rintro n s5 ⟨i, H5, I5, st5, n5, w5⟩
    rcases turn i n H5 w5 with ⟨stop, qq⟩ | ⟨go, Nx, hNx, step⟩
    · subst hY
      refine thnF (T.done (X.blk _ H3 scope ce fp) rfl rfl rfl hc i [] s5 _ H5 (fun _ _ => False) I5 (rest I5 n5) st5 stop) fun r s6 ⟨hr, I6⟩ => ?_
      subst hr
      have I7 : Inv X pins σ H5 s6 := I3.call' (ch := fp) I6.os I6.base I6.hok I6.bare fun b hb => ⟨(f3 b hb).1.2.2.2.1, (f3 b hb).1.2.1, (f3 b hb).1.2.2.2.2.1, (f3 b hb).1.2.2.2.2.2⟩
      have nC : H5 C = none := cL ▸ (show H5 ce.locals = none from I6.free)
      obtain ⟨m, hn, _⟩ := I6.loc
      have hn : s6.heap.Ns C m := cL ▸ (show s6.heap.Ns ce.locals m from hn)
      refine ⟨m, hn, fun h'' sb => ?_⟩
      obtain ⟨g0, g1, g2, g3, g4, g5⟩ := I3.fpOk (Nat.le_of_eq hC) nC
      exact ⟨.ref D, H5, I7.turned (t' := s6.toks) (fun b o hb e => (sb.2 b hb).trans e) g0 g1 g3 g4 g5, rfl, qq⟩
    · have ti := T.item Y (by subst hY; rfl) (by subst hY; rfl) (by subst hY; rfl) (by subst hY; exact hc) i [] s5 _ H5 (fun _ _ => False) I5 (rest I5 n5) st5 go
      subst hY
      refine thnF ti fun r s6 ⟨u, hr, h6⟩ => ?_
      subst hr
      refine thnF h6 fun _ s7 ⟨x, H7, I7, r7, y7, st7, n7⟩ => ?_
      refine thnF (pg.run _ s7 _ H7 x u _ (I7.pinned (rest I7 n7) (T.obj _ _ st7)) r7 (step x H7 y7)) fun _ s8 ⟨σ8, H8, I8, hw8, q8⟩ => ?_
      refine thnF (pt.run _ s8 σ8 H8 _ I8 q8) fun b s9 ⟨H9, I9, q9⟩ => ?_
      have turned : ∀ {s' : Shared} {H' : Hp}, Inv (X.blk { s2 with heap := s2.heap.push (emptySet X.w) } H3 scope ce fp) ([] ++ pinsAt fp s7.heap) σ8 H' s' → Nx H' → ∃ m, m < n ∧ ∃ i H', Inv (X.blk { s2 with heap := s2.heap.push (emptySet X.w) } H3 scope ce fp) [] (wipe σ (own.map (·.2))) H' s' ∧ tn i s'.heap ∧ (∀ b ∈ fp, H' b = none) ∧ W i m H' := by
        intro s' H' I' nx
        obtain ⟨m', hm, w'⟩ := hNx H' nx
        have pin : ∀ b ∈ fp, ∀ o, s7.heap.get? b = some o → s'.heap.get? b = some o ∧ H' b = none := fun b hb o e =>
          let z := I'.pin (b, o) (List.mem_append_right _ (List.mem_append_right _ (mem_pinsAt hb e))); ⟨z.1, z.2.1⟩
        refine ⟨m', hm, i + 1, H', (I'.unpinned (pins := [])).weak (by rw [← hw8, wipe_length]) (fun j v e => (wipe_some (by rw [hw8]; exact e)).1), T.keep _ _ _ st7 fun b hb o e => (pin b hb o e).1, fun b hb => ?_, w'⟩
        obtain ⟨o, e, _⟩ := T.obj _ _ st7 b hb
        exact (pin b hb o e).2
      cases b with
      | false => simp only [Bool.false_eq_true, if_false] at q9 ⊢; exact turned I9 q9
      | true =>
        simp only [if_true] at q9 ⊢
        refine thnF (pe.run _ s9 σ8 H9 _ I9 q9) fun z s10 ⟨yv, H10, I10, r10, k, S0, n0, ey, hD10, few, nx⟩ => ?_
        subst ey
        obtain ⟨t, rfl⟩ := r10
        exact putInt (X := X.blk _ H3 scope ce fp) I10 hD10 few fun s11 I11 => turned I11 nx
  exact codeAny_compStart_set round (T.self X.A 0 _ _ _ st4 round)

/-- the walk over a list that the block leaves as it is -/
theorem scI_list {w : World} {K : PySem.W.Frag} {a : Addr} {xs : List V} {g : TG} {tt : TT} {te : TE} {vs : List Nat} {σ : L2.St} {H1 : Hp} {D : Addr} {Qd : Hp → Prop}
    (Pv : Nat → Hp → Prop) (h0 : Pv 0 (upd H1 D (SetO w D (fun _ => false) 0))) (hl : ∀ i H, i ≤ xs.length → Pv i H → SqL K H a xs)
    (hs : ∀ i x H, xs[i]? = some x → Pv i H → g x (wipe σ vs) H fun σ2 H2 => wipe σ2 vs = wipe σ vs ∧ tt σ2 H2 fun b H3 => if b = true then te σ2 H3 fun y H4 =>
      ∃ (k : Int) (S : Int → Bool) (n : Nat), y = .int k ∧ H4 D = some (SetO w D S n) ∧ n + 1 < scanBound ∧ Pv (i + 1) (upd H4 D (SetO w D (fun j => S j || decide (j = k)) (if S k = true then n else n + 1))) else Pv (i + 1) H3)
    (hd : ∀ H, Pv xs.length H → Qd H) :
    ∃ W : Nat → Nat → Hp → Prop, (∃ m, W 0 m (upd H1 D (SetO w D (fun _ => false) 0))) ∧ ∀ i m H, W i m H → ((Itl K a).stop i H ∧ Qd H) ∨
      ((Itl K a).go i H ∧ ∃ Nx : Hp → Prop, (∀ H', Nx H' → ∃ m', m' < m ∧ W (i + 1) m' H') ∧ ∀ x H', (Itl K a).yld i H x H' → g x (wipe σ vs) H' fun σ2 H2 => wipe σ2 vs = wipe σ vs ∧
        tt σ2 H2 fun b H3 => if b = true then te σ2 H3 fun y H4 => ∃ (k : Int) (S : Int → Bool) (n : Nat), y = .int k ∧ H4 D = some (SetO w D S n) ∧ n + 1 < scanBound ∧
          Nx (upd H4 D (SetO w D (fun j => S j || decide (j = k)) (if S k = true then n else n + 1))) else Nx H3) := by
  refine ⟨fun i m H => m + i = xs.length ∧ Pv i H, ⟨xs.length, by simp, h0⟩, ?_⟩
  rintro i m H ⟨em, p⟩
  have here := hl i H (by omega) p
  rcases Nat.lt_or_ge i xs.length with lt | ge
  · refine .inr ⟨⟨xs, xs[i], here, by simp [lt]⟩, Pv (i + 1), fun H' p' => ⟨m - 1, by omega, by omega, p'⟩, fun x H' ⟨e, y⟩ => ?_⟩
    subst e
    exact hs i x _ (y xs here) p
  · have e : i = xs.length := by omega
    subst e
    exact .inl ⟨⟨xs, here, Nat.le_refl _⟩, hd H p⟩
end addi
end Rp

namespace Rp
open PySem PySem.Spec PyProof.Rows L2 PpSet
section
variable {P : Program} {w : World} {A : Around} {E : Value → Shared → Prop} {s : Shared}
set_option maxHeartbeats 6400000 in
theorem set_of_list {l : Addr} {items : Array Value} (ns : List Int) {Q : Value → Shared → Prop} (calm : A.handled = none) (hl : s.heap.IsList l items) (hi : IntsAre items.toList ns) (few : ns.length + 1 < scanBound)
    (go : ∀ (h' : Heap) (tk c : Nat), SetR w h' s.heap.objs.size (fun j => decide (j ∈ ns)) c → c ≤ ns.length → (∀ b o, s.heap.get? b = some o → h'.get? b = some o) → Q (.ref s.heap.objs.size) { s with heap := h', toks := tk }) :
    wpAny (model P w) A (call (.type "set") [.ref l]) Q E s := by
  have cnt : items.size = ns.length := by have q := IntsAre.length hi; rwa [Array.length_toList] at q
  obtain ⟨c, tl, hmro⟩ := F.called_set.mro
  have hmade := F.called_set.made
  have hsub := F.called_set.sub
  refine wpAny_call (codeAny_of_tree ?_)
  show wpAny _ _ (callAny (.type "set") _) _ _ _
  refine wpAny_pure ⟨Code.quiet_builtin _ (by decide +kernel), codeAny_builtin F.entry_type_call ?_⟩
  rw [Around.under_plain (weight_type_call_type "set" [.ref l] []) rfl]
  have h1 := F.called_set.notType
  have h2 := F.called_set.canCreate
  have hct := F.typeCall_set_1 (.ref l)
  repeat (any_goals (first | assumption | wp_step))
  refine codeAny_mono (code_set_led1 (.ref l) (E := E) (Q₁ := fun obj z => obj = .ref s.heap.objs.size ∧ z = { s with heap := s.heap.push (emptySet w) }) ⟨rfl, rfl⟩) fun r s₁ hr => ?_
  cases r with
  | error e => exact hr
  | ok fl =>
    cases fl with
    | ret obj =>
      obtain ⟨rfl, rfl⟩ := hr
      have atNew : (s.heap.push (emptySet w)).get? s.heap.objs.size = some (emptySet w) := Heap.get?_push_size _ rfl
      have hT : Shared.TypeIs { s with heap := s.heap.push (emptySet w) } (.ref s.heap.objs.size) "set" := ⟨_, atNew, rfl⟩
      have hli := F.called_set.init.lookup
      have hbi := F.called_set.init.bind (.ref s.heap.objs.size)
      repeat (any_goals (first | assumption | wp_step))
      refine codeAny_mono (codeAny_call_builtin (R := wants (fun r z => r = .none ∧ ∃ h' tk c, z = { s with heap := h', toks := tk } ∧ SetR w h' s.heap.objs.size (fun j => decide (j ∈ ns)) c ∧ c ≤ ns.length ∧
        (∀ b o, s.heap.get? b = some o → h'.get? b = some o)) E) F.called_set.init.plain F.entry_set_init (check_set_init_1 hT ?_)) fun r₂ s₂ hr₂ => ?_
      · obtain ⟨⟨ocls, odict, odata, oslots⟩, hol, hcl, nl, hdl⟩ := hl
        simp only at hcl hdl
        subst hcl hdl
        have hol' : (s.heap.push (emptySet w)).get? l = some { cls := .type "list", dict := odict, data := .seq items nl, slots := oslots } := Heap.get?_push_of_some _ hol
        have hsls := F.sub_list_set
        have hslf := F.sub_list_frozenset
        have hne : (Value.type "list" == Value.type "dict") = false := by decide
        have here : (s.heap.push (emptySet w)).IsList l items := ⟨_, hol', rfl, nl, rfl⟩
        unfold Builtin.«set.__init__» noKeywords Builtin.Frozenset.updateFrom
        generalize hPI : pyIter = PI
        wp_walk
        subst hPI
        refine wpAny_pyIter_list here (wpAny_bind (wpAny_runValue ?_))
        have below : l < s.heap.objs.size := Heap.lt_size hol
        have top : (s.heap.push (emptySet w)).objs.size = s.heap.objs.size + 1 := Heap.size_push ..
        have apart : l ≠ (s.heap.push (emptySet w)).objs.size := by rw [top]; exact Nat.ne_of_lt (Nat.lt_succ_of_lt below)
        have out : s.heap.objs.size ∉ [(s.heap.push (emptySet w)).objs.size, l] := by
          simp only [List.mem_cons, List.not_mem_nil, or_false, not_or, top]
          exact ⟨Nat.ne_of_lt (Nat.lt_succ_self _), Nat.ne_of_gt below⟩
        have each : ∀ (i : Nat) (v : Value), items[i]? = some v → ∃ k t, ns[i]? = some k ∧ v = .int k t := by
          intro i v hv
          have lt : i < ns.length := by rw [← cnt]; exact (Array.getElem?_eq_some_iff.mp hv).1
          obtain ⟨t, e⟩ := PyProof.Rows.IntsAre.int_at hi i v (by rw [Array.getElem?_toList]; exact hv)
          exact ⟨ns[i], t, List.getElem?_eq_getElem lt, by rw [e, List.getD_eq_getElem?_getD, List.getElem?_eq_getElem lt]; rfl⟩
        refine set_update_ints ((Walks.list (by simp [calm]) _ l apart items).toS) s.heap.objs.size out ns cnt few each (items.size - 0) 0 _ (by omega) (Nat.zero_le _)
          ⟨⟨_, Heap.get?_push_size _ rfl, rfl, rfl⟩, here.push _⟩ ⟨0, Nat.le_refl 0, setR_new_at (Heap.get?_push_of_some _ atNew)⟩ fun s' c' hm hc' hS' => ?_
        obtain ⟨h', g2, d', tk', os'⟩ := s'
        have eg : g2 = s.gens := hm.gens
        have ed : d' = s.drawn := hm.drawn
        have eo : os' = s.os := hm.os
        subst eg ed eo
        show wpAny _ _ _ _ _ _
        refine wpAny_pure ?_
        show wpAny _ _ (ret Value.none) _ _ _
        refine wpAny_pure ⟨rfl, h', tk', c', rfl, hS', by omega, fun b o e => ?_⟩
        have lt := Heap.lt_size e
        exact hm.heap b o (by simp only [List.mem_cons, List.not_mem_nil, or_false, not_or, top]; exact ⟨Nat.ne_of_lt lt, Nat.ne_of_lt (Nat.lt_succ_of_lt lt)⟩) (Heap.get?_push_of_some _ (Heap.get?_push_of_some _ e))
      · cases r₂ with
        | error e => exact hr₂
        | ok fl₂ =>
          cases fl₂ with
          | ret r =>
            obtain ⟨rfl, h', tk, c', rfl, hS', hc', hk'⟩ := hr₂
            repeat (any_goals (first | assumption | wp_step))
            exact go _ _ _ hS' hc' hk'
          | _ => exact hr₂.elim
    | _ => exact hr.elim
end
section
variable {X : Cx}
theorem intsOf : ∀ {ns : List Int} {us : List Value}, Vals (ns.map V.int) us → PyProof.Rows.IntsAre us ns
  | [], _, .nil => .nil
  | n :: ns, _, .cons ⟨k, e⟩ t => by subst e; exact .cons n k (intsOf t)
/-- set(xs), xs a list of ints -/
def rSetI (K : PySem.W.Frag) (w : World) : List V → Hp → VK → Prop := fun vs H Q => ∃ (a : Addr) (ns : List Int), vs = [V.ref a] ∧ SqL K H a (ns.map V.int) ∧ ns.length < 1000 ∧
  ∀ (p : Addr) (c : Nat), H p = none → c ≤ ns.length → Q (.ref p) (upd H p (SetO w p (fun j => decide (j ∈ ns)) c))
theorem cr_setI (hc : X.calm = true) : CallR X (.type "set") (rSetI X.K X.w) := by
  intro pins s σ H vs us Q I r h
  obtain ⟨a, ns, rfl, hs, hn, q⟩ := h
  rw [Vals.ref1 r]
  obtain ⟨its, rv, pl, hz⟩ := I.list hs
  refine set_of_list ns (I.ok.hd hc) pl.isList (by simpa using intsOf rv) (by unfold scanBound; omega) fun h' tk c R hc' k => ?_
  have hn : H s.heap.objs.size = none := I.hok.fresh (Nat.le_refl _)
  exact ⟨.ref _, upd H s.heap.objs.size (SetO X.w s.heap.objs.size (fun j => decide (j ∈ ns)) c), I.laid (t' := tk) k (Nat.le_refl _) (setO_new R), rfl, q _ c hn hc'⟩
end
end Rp

namespace Rp
open PySem L2
/-! ### TERMs -/
inductive Tm where
  | v (n : Int) | z | s (t : Tm) | f (l r : Tm)
  deriving DecidableEq
namespace Tm
def size : Tm → Nat
  | v _ => 1 | z => 1 | s t => t.size + 1 | f l r => l.size + r.size + 1
def deep : Tm → Nat
  | v _ => 0 | z => 0 | s t => t.deep + 1 | f l r => max l.deep r.deep + 1
def nums : Tm → List Int
  | v n => [n] | z => [] | s t => t.nums | f l r => l.nums ++ r.nums
/-- all parts, the whole first, the right-hand ones ahead of the left-hand ones -/
def rpost : Tm → List Tm
  | v n => [v n] | z => [z] | s t => s t :: t.rpost | f l r => f l r :: (r.rpost ++ l.rpost)
def kids : Tm → List Tm
  | v _ => [] | z => [] | s t => [t] | f l r => [l, r]
theorem size_pos : ∀ t : Tm, 1 ≤ t.size
  | v _ => Nat.le_refl _ | z => Nat.le_refl _ | s _ => by unfold size; omega | f _ _ => by unfold size; omega
theorem deep_lt : ∀ t : Tm, t.deep < t.size
  | v _ => Nat.zero_lt_one | z => Nat.zero_lt_one | s t => by have := deep_lt t; unfold deep size; omega
  | f l r => by have := deep_lt l; have := deep_lt r; unfold deep size; omega
theorem rpost_len : ∀ t : Tm, t.rpost.length = t.size
  | v _ => rfl | z => rfl | s t => by unfold rpost size; rw [List.length_cons, rpost_len t]
  | f l r => by unfold rpost size; rw [List.length_cons, List.length_append, rpost_len l, rpost_len r]; omega
/-- an int among the parts -/
theorem mem_rpost (n : Int) : ∀ t : Tm, v n ∈ t.rpost ↔ n ∈ t.nums
  | v m => by unfold rpost nums; simp
  | z => by unfold rpost nums; simp
  | s t => by unfold rpost nums; have := mem_rpost n t; simp [this]
  | f l r => by unfold rpost nums; have := mem_rpost n l; have := mem_rpost n r; simp [*]; exact Or.comm
theorem rpost_kids (t : Tm) : t.rpost = t :: (t.kids.reverse.flatMap rpost) := by
  cases t <;> simp [rpost, kids]
theorem kids_size (t : Tm) : (t.kids.map size).sum + 1 = t.size := by
  cases t <;> simp [kids, size] <;> omega
theorem nums_len : ∀ t : Tm, t.nums.length ≤ t.size
  | v _ => Nat.le_refl _ | z => Nat.zero_le _ | s t => by have := nums_len t; unfold nums size; omega
  | f l r => by have := nums_len l; have := nums_len r; unfold nums size; rw [List.length_append]; omega
/-- all signs, as law's leaves has them -/
def signs : Tm → List V
  | v n => [.int n] | z => [.str "0"] | s t => .str "s" :: t.signs | f l r => .str "f" :: (l.signs ++ r.signs)
theorem signs_len : ∀ t : Tm, t.signs.length = t.size
  | v _ => rfl | z => rfl | s t => by unfold signs size; rw [List.length_cons, signs_len t]
  | f l r => by unfold signs size; rw [List.length_cons, List.length_append, signs_len l, signs_len r]
end Tm
/-- the ints of a row of ints and texts -/
def rowInts : List V → List Int
  | [] => []
  | .int n :: r => n :: rowInts r
  | _ :: r => rowInts r
theorem rowInts_append : ∀ a b : List V, rowInts (a ++ b) = rowInts a ++ rowInts b
  | [], b => rfl
  | x :: r, b => by cases x <;> simp [rowInts, rowInts_append r b]
theorem signs_nums : ∀ t : Tm, rowInts t.signs = t.nums
  | .v _ => rfl | .z => rfl | .s t => by simp [Tm.signs, Tm.nums, rowInts, signs_nums t]
  | .f l r => by simp [Tm.signs, Tm.nums, rowInts, rowInts_append, signs_nums l, signs_nums r]
/-- a row of ints and texts -/
def Flat2 : V → Prop
  | .int _ => True
  | .str _ => True
  | _ => False
theorem signs_flat : ∀ t : Tm, ∀ x ∈ t.signs, Flat2 x
  | .v _, x, h => by simp [Tm.signs] at h; subst h; trivial
  | .z, x, h => by simp [Tm.signs] at h; subst h; trivial
  | .s t, x, h => by
    simp only [Tm.signs, List.mem_cons] at h
    rcases h with h | h
    · subst h; trivial
    · exact signs_flat t x h
  | .f l r, x, h => by
    simp only [Tm.signs, List.mem_cons, List.mem_append] at h
    rcases h with h | h | h
    · subst h; trivial
    · exact signs_flat l x h
    · exact signs_flat r x h
/-! ### two rising rows of the same ints are one -/
theorem rising_one : ∀ {a b : List Int}, a.Pairwise (· < ·) → b.Pairwise (· < ·) → (∀ k, k ∈ a ↔ k ∈ b) → a = b
  | [], [], _, _, _ => rfl
  | [], y :: b, _, _, h => by have := (h y).2 (by simp); simp at this
  | x :: a, [], _, _, h => by have := (h x).1 (by simp); simp at this
  | x :: a, y :: b, ha, hb, h => by
    rw [List.pairwise_cons] at ha hb
    have exy : x = y := by
      rcases List.mem_cons.mp ((h x).1 (by simp)) with e | e
      · exact e
      · rcases List.mem_cons.mp ((h y).2 (by simp)) with e' | e'
        · exact e'.symm
        · have := hb.1 x e
          have := ha.1 y e'
          omega
    subst exy
    rw [rising_one ha.2 hb.2 fun k => ?_]
    constructor
    · intro hk
      rcases List.mem_cons.mp ((h k).1 (List.mem_cons_of_mem _ hk)) with e | e
      · have := ha.1 k hk; omega
      · exact e
    · intro hk
      rcases List.mem_cons.mp ((h k).2 (List.mem_cons_of_mem _ hk)) with e | e
      · have := hb.1 k hk; omega
      · exact e
/-! ### heaps -/
/-- all but b stays -/
def But (b : Addr) (H H' : Hp) : Prop := ∀ c o, H c = some o → c ≠ b → H' c = some o
theorem But.refl (b : Addr) (H : Hp) : But b H H := fun _ _ h _ => h
theorem But.trans {b : Addr} {H H1 H2 : Hp} (x : But b H H1) (y : But b H1 H2) : But b H H2 := fun c o h n => y c o (x c o h n) n
theorem but_of {b : Addr} {H H' : Hp} (x : Same H H') : But b H H' := fun c o h _ => x c o h
theorem same_new {H : Hp} {p : Addr} (h : H p = none) (o : HO) : Same H (upd H p o) := fun b u q => by rw [upd_ne (ne_of_none q h)]; exact q
theorem but_upd {H : Hp} {b : Addr} (o : HO) : But b H (upd H b o) := fun c u h n => by rw [upd_ne n]; exact h
/-- the box of draws: j bounds how often it was drawn from -/
structure BoxAt (H : Hp) (b : Addr) (j : Nat) : Prop where
  ex : ∃ x y z : Int, H b = some (.lst [.int x, .int y, .int z]) ∧ 0 ≤ x ∧ 0 ≤ y ∧ y < 10000000000 ∧ 0 ≤ z ∧ z ≤ (j : Int)
theorem BoxAt.same {H H' : Hp} {b : Addr} {j : Nat} (B : BoxAt H b j) (e : Same H H') : BoxAt H' b j := by
  obtain ⟨x, y, z, h, r⟩ := B.ex
  exact ⟨x, y, z, e _ _ h, r⟩
theorem BoxAt.more {H : Hp} {b : Addr} {j k : Nat} (B : BoxAt H b j) (h : j ≤ k) : BoxAt H b k := by
  obtain ⟨x, y, z, e, h1, h2, h3, h4, h5⟩ := B.ex
  exact ⟨x, y, z, e, h1, h2, h3, h4, by omega⟩
theorem BoxAt.some {H : Hp} {b : Addr} {j : Nat} (B : BoxAt H b j) : ∃ xs, H b = some (.lst xs) := by
  obtain ⟨x, y, z, e, _⟩ := B.ex
  exact ⟨_, e⟩
/-- a TERM stands as the value v -/
inductive TmAt (H : Hp) : V → Tm → Prop where
  | v (n : Int) : TmAt H (.int n) (.v n)
  | z {a : Addr} (h : H a = some (.tup [.str "0"])) : TmAt H (.ref a) .z
  | s {a : Addr} {x : V} {t : Tm} (h : H a = some (.tup [.str "s", x])) (q : TmAt H x t) : TmAt H (.ref a) (.s t)
  | f {a : Addr} {x y : V} {l r : Tm} (h : H a = some (.tup [.str "f", x, y])) (q : TmAt H x l) (q' : TmAt H y r) : TmAt H (.ref a) (.f l r)
theorem TmAt.mono {H H' : Hp} (e : ∀ a xs, H a = some (.tup xs) → H' a = some (.tup xs)) {v : V} {t : Tm} (h : TmAt H v t) : TmAt H' v t := by
  induction h with
  | v n => exact .v n
  | z h => exact .z (e _ _ h)
  | s h _ ih => exact .s (e _ _ h) ih
  | f h _ _ ih ih' => exact .f (e _ _ h) ih ih'
theorem TmAt.same {H H' : Hp} (e : Same H H') {v : V} {t : Tm} (h : TmAt H v t) : TmAt H' v t := h.mono fun a xs q => e a _ q
theorem TmAt.but {H H' : Hp} {b : Addr} {ys : List V} (e : But b H H') (hb : H b = some (.lst ys)) {v : V} {t : Tm} (h : TmAt H v t) : TmAt H' v t :=
  h.mono fun a xs q => e a _ q (ne_of q hb (by intro z; cases z))
/-! ### what is alike, kind by kind (to a depth) -/
def Plain : V → Prop
  | .non => True
  | .bl _ => True
  | .int _ => True
  | .str _ => True
  | _ => False
def Alike (H : Hp) : Nat → V → V → Prop
  | 0, x, y => Plain x ∧ x = y
  | n + 1, x, y => (Plain x ∧ x = y) ∨ ∃ a b xs ys, x = .ref a ∧ y = .ref b ∧ ((H a = some (.lst xs) ∧ H b = some (.lst ys)) ∨ (H a = some (.tup xs) ∧ H b = some (.tup ys))) ∧
      xs.length = ys.length ∧ xs.length ≤ 1000000 ∧ ∀ (i : Nat) (u v : V), xs[i]? = some u → ys[i]? = some v → Alike H n u v
theorem Alike.mono {H H' : Hp} (e : Same H H') : ∀ (n : Nat) {x y : V}, Alike H n x y → Alike H' n x y
  | 0, _, _, h => by unfold Alike at h ⊢; exact h
  | n + 1, x, y, h => by
    unfold Alike at h ⊢
    rcases h with h | ⟨a, b, xs, ys, h1, h2, h3, h4, h5, h6⟩
    · exact .inl h
    · exact .inr ⟨a, b, xs, ys, h1, h2, h3.imp (fun q => ⟨e _ _ q.1, e _ _ q.2⟩) (fun q => ⟨e _ _ q.1, e _ _ q.2⟩), h4, h5, fun i u v p q => Alike.mono e n (h6 i u v p q)⟩
theorem alike_ints {H : Hp} {n : Nat} {a b : Addr} {ns : List Int} (ha : H a = some (.lst (ns.map V.int))) (hb : H b = some (.lst (ns.map V.int))) (hl : ns.length ≤ 1000000) : Alike H (n + 1) (.ref a) (.ref b) := by
  unfold Alike
  refine .inr ⟨a, b, _, _, rfl, rfl, .inl ⟨ha, hb⟩, rfl, by rw [List.length_map]; exact hl, fun i u v h1 h2 => ?_⟩
  have e : u = v := Option.some.inj (h1.symm.trans h2)
  subst e
  rw [List.getElem?_map] at h1
  cases q : ns[i]? with
  | none => rw [q] at h1; cases h1
  | some k =>
    rw [q] at h1
    cases h1
    cases n with
    | zero => unfold Alike; exact ⟨trivial, rfl⟩
    | succ n => unfold Alike; exact .inl ⟨trivial, rfl⟩
end Rp

/-! Defs whose body asks for the repr of lists and tuples: their promise is kept where no repr is at work (the around's guards are told to be none), and so where the law itself is called. -/
namespace Rp
open PySem PySem.Spec PyProof.Rows L2
structure GnOk (P : Program) (w : World) (K : PySem.W.Frag) (mg : Str → Option Value) (base : Heap) (k : Nat) (f : Addr) (fd : FuncData) (ps : List Str) (sp : Sp) : Prop where
  len : ∀ vs H Q E, sp vs H Q E → vs.length = ps.length
  run : ∀ (A : Around) (outer : List Env) (s : Shared) (H : Hp) (args : Args) (us : List Value) (vs : List V) (Q : VK) (E : XK), A.guards = some [] → Room k A → Env0 P w K mg base A outer s H → BindsTo s fd args (ps.zip us) → Vals vs us → sp vs H Q E →
    codeAny (model P w) A (.call (.ref f) args) (CR CX0 outer P w H s Q E) s
section
variable {P : Program} {w : World} {K : PySem.W.Frag} {mg : Str → Option Value} {base : Heap}
/-- a def by its body, the guards told -/
theorem gok {x qual : Str} {st : Stmt} {f : Addr} {fd : FuncData} {N ps : List Str} {k : Nat} {sp : Sp} (F : Fun K x qual st f fd) (S : FnScope N ps (defScope st)) (len : ∀ vs H Q E, sp vs H Q E → vs.length = ps.length)
    (walk : ∀ (cdv : Value) (A : Around) (outer : List Env) (s : Shared) (H : Hp) (vs : List V) (Q : VK) (E : XK), A.guards = some [] → Room k (A.deeper (envOfC qual (defScope st) s.heap.objs.size f cdv)) → sp vs H Q E →
      ∃ t, PSs (cxOf CX0 P w K mg base N qual (defScope st) f cdv A outer s H E).nox (defBody st) t ∧ t { nx := fun _ H' => Q .non H', rt := Q } (start N vs) H) : GnOk P w K mg base (k + 1) f fd ps sp := by
  obtain ⟨oc, od, kV, doc, pm, an, cdv, ct, osl, rfl, lk, hcd⟩ := F.ex
  refine ⟨len, fun A outer s H args us vs Q E hg hr e0 hb r hsp => ?_⟩
  have K0 : K.In s.heap := e0.mod.kin.keeps fun b o e => (e0.bs b o e).1
  have L0 : s.heap.NoLimit := e0.mod.nolimit.keeps fun b o e => (e0.bs b o e).1
  have each : ∀ y ∈ ps.zip us, (defScope st).names.lookup y.1 = some .local ∨ ((defScope st).names.lookup y.1 = some .cell ∧ ((cellsFrom (s.heap.objs.size + 1) (defScope st).names []).lookup y.1).isSome = true) := by
    rintro ⟨n, v⟩ hy
    exact (S.par n (List.of_mem_zip hy).1).imp id fun q => ⟨q, PySem.W.cellsFrom_some _ _ _ (.inl q)⟩
  refine codeAny_call_function hr.depth (K0 _ _ lk) rfl S.co S.gen rfl (PySem.W.codeRec_of K0 hcd) (hb _ _ _ _ (wpAny_newFunctionEnv_cells S.kind each fun env he s1 z => ?_))
  subst he
  refine ⟨L0.keeps z.toInCall.keep, codeAny_func ?_⟩
  obtain ⟨t, ht, hq⟩ := walk cdv A outer s H vs Q E hg (hr.deeper _) hsp
  have I : L2.Inv (cxOf CX0 P w K mg base N qual (defScope st) f cdv A outer s H E) [] (start N vs) H s1 := inv_start S hr.hd e0 (len _ _ _ _ hsp) r z
  refine wpAny_mono (ht.nox.run [] s1 (start N vs) H _ I hq) (fun fl s' hs => ?_) fun e s' hs => hs
  rcases fl with _ | _ | _ | u
  · obtain ⟨_, H', J, q⟩ := hs
    exact ⟨V.non, H', J.os, J.bare, J.base, J.hok, rfl, q⟩
  · exact hs.choose_spec.choose_spec.2.elim
  · exact hs.choose_spec.choose_spec.2.elim
  · obtain ⟨v, _, H', J, rv, q⟩ := hs
    exact ⟨v, H', J.os, J.bare, J.base, J.hok, rv, q⟩
end
section
variable {X : Cx} {k : Nat} {f : Addr} {fd : FuncData} {ps : List Str} {sp : Sp} {E : XK} {x : Str} {p pos : Pos} {e : Expr} {es : List Expr} {t : TA}
theorem pe_callG (F : GnOk X.prog X.w X.K X.mg X.base k f fd ps sp) (hgd : X.A.guards = some []) (hr : Room k X.A) (hg : Gl X x) (hm : X.mg x = some (.ref f)) (hk : PySem.W.keepIn X.K (.ref f) = true) (hb : Binds X.K fd ps []) (ha : PA X (e :: es) t)
    (hdb : (x == ("__debug__" : Str)) = false := by decide) (he : starEach (e :: es) X.env = (false, eval e X.env) :: starEach es X.env := by rfl) (hpl : (backTo pos (starEach es X.env)).any (·.1) = false := by rfl) :
    PE X (.Call (.Name x p) (e :: es) [] pos) (tCall sp [] E0 t) := by
  refine ⟨fun pins s σ H Q I h => wpAny_Call_Name_kw (ld_glob I hg hm ?_ hdb)⟩
  refine PySem.W.callWith_K (h₀ := X.base) I.ok.mod.kin hk (thn (ha.run pos pins s σ H _ I h) fun us s1 ⟨vs, H1, I1, r, q⟩ => ⟨I1.kIn, ?_⟩) he hpl
  have q : sp vs H1 Q E0 := by
    have z : sp (vs ++ []) H1 Q E0 := q
    rwa [List.append_nil] at z
  have hl : us.length = ps.length := r.length.symm.trans (F.len _ _ _ _ q)
  have hb' := hb s1 us I1.kIn (by rw [List.append_nil]; exact hl)
  rw [List.append_nil] at hb'
  refine wpAny_call (codeAny_mono (F.run X.A X.stack s1 H1 ⟨us, []⟩ us vs Q E0 hgd hr I1.env0 hb' r q) fun r' s' hq => ?_)
  rcases r' with e' | fl
  · exact hq.elim
  · rcases fl with _ | _ | _ | u
    · exact hq.elim
    · exact hq.elim
    · exact hq.elim
    · exact I1.after hq
/-- repr(v), v data at any depth -/
def rReprD (K : PySem.W.Frag) : List V → Hp → VK → Prop := fun vs H Q => ∃ (v : V) (d : PyData), vs = [v] ∧ Dp K H v d ∧ d.showable = true ∧ d.hasDict = false ∧ d.depth ≤ 64 ∧ d.shown.length ≤ sizeLine ∧ Q (.str d.shown) H
theorem cr_reprD (hgd : X.A.guards = some []) (hu : X.A.units + 66 < cLine) : CallR X (.builtin "repr") (rReprD X.K) := by
  intro pins s σ H vs us Q I r h
  obtain ⟨v, d, rfl, hd, sh, nd, dp, sz, q⟩ := h
  obtain ⟨u, rfl, ru⟩ := vals1 r
  obtain ⟨as, rd⟩ := Dp.reads I d v u hd ru
  cases hd with
  | non => cases ru; exact PySem.P.repr_of_none ⟨.str "None", H, I.tok _, ⟨_, rfl⟩, by simpa [PyData.shown] using q⟩
  | bl b => cases ru; exact PySem.P.repr_of_bool ⟨.str (if b then "True" else "False"), H, I.tok _, ⟨_, rfl⟩, by simpa [PyData.shown] using q⟩
  | int i =>
    obtain ⟨t, rfl⟩ := ru
    exact PySem.P.repr_of_int (by simpa [PyData.showable] using sh) ⟨.str (toString i), H, I.tok _, ⟨_, rfl⟩, by simpa [PyData.shown] using q⟩
  | str x =>
    obtain ⟨t, rfl⟩ := ru
    exact PySem.P.repr_of_str ⟨.str (reprText x), H, I.tok _, ⟨_, rfl⟩, by simpa [PyData.shown] using q⟩ (by simpa [PyData.shown] using sz)
  | lst a b =>
    cases ru
    exact PySem.repr_of_reads' rd sh (fun e => by rw [nd] at e; cases e) hgd (by omega) (fun _ _ e => e) (fun h' u tk k => ⟨.str _, H, I.kept (t' := tk) k, ⟨u, rfl⟩, q⟩) sz
  | tup a b =>
    cases ru
    exact PySem.repr_of_reads' rd sh (fun e => by rw [nd] at e; cases e) hgd (by omega) (fun _ _ e => e) (fun h' u tk k => ⟨.str _, H, I.kept (t' := tk) k, ⟨u, rfl⟩, q⟩) sz
end
/-- the law's own call, its promise with the guards told -/
theorem law_callG {P : Program} {w : World} {K : PySem.W.Frag} {mg mb : Str → Option Value} {k : Nat} {fa a : Addr} {fd : FuncData} {x : Str} {sp : Sp} {s₁ : Shared} {vs : List Value} {ns : List Int}
    (KX : K.In s₁.heap) (hns : s₁.heap.Ns mainGlobals mg) (hb : s₁.heap.Ns builtinsNs mb) (hbb : ∀ x : Str, x ≠ "__name__" → mb x = bootBuiltins x) (hlim : s₁.heap.NoLimit) (hg : s₁.gens = #[])
    (ha : s₁.heap.get? a = some { cls := .type "list", data := .seq vs.toArray }) (hi : IntsAre vs ns) (hl : ns.length ≤ sizeLine) (hr : Room k callerA)
    (F : ∀ base : Heap, K.In base → base.Ns mainGlobals mg → GnOk P w K mg base k fa fd [x] sp) (bind : ∀ (s : Shared) (u : Value), BindsTo s fd ⟨[u], []⟩ [(x, u)])
    (ask : ∀ H : Hp, Only H → SqL K H a (ns.map V.int) → sp [.ref a] H (fun v _ => v = .bl true) E0) :
    codeAny (model P w) callerA (.call (.ref fa) ⟨[.ref a], []⟩) (fun r s' => r = .ok (.ret (.bool true)) ∧ OldK s₁.heap s'.heap ∧ s'.os = s₁.os ∧ AllBare s'.gens) s₁ := by
  have rv := vals_ints hi
  have lenV := hi.length
  have from_ : ∀ H : Hp, Only H → SqL K H a (ns.map V.int) → HOk P w H s₁.heap → (∀ b, H b ≠ none → b = a ∧ K.lookup a = none) →
      codeAny (model P w) callerA (.call (.ref fa) ⟨[.ref a], []⟩) (fun r s' => r = .ok (.ret (.bool true)) ∧ OldK s₁.heap s'.heap ∧ s'.os = s₁.os ∧ AllBare s'.gens) s₁ := by
    intro H only hS hok hA
    have free : ∀ {b : Addr} {o : Obj}, s₁.heap.get? b = some o → (b = a → False) → H b = none := fun {b o} _ n => by
      cases q : H b with
      | none => rfl
      | some u => exact (n (hA b (by rw [q]; simp)).1).elim
    have low : ∀ {b : Addr} {o : Obj}, s₁.heap.get? b = some o → H b = none → (hidT s₁.heap H).get? b = some o := fun e n => hidT_get e n
    have names : ∀ {b : Addr} {m : Str → Option Value}, s₁.heap.Ns b m → (hidT s₁.heap H).Ns b m := fun {b m} ⟨o, es, ep, e, d, r⟩ =>
      ⟨o, es, ep, low e (free e fun z => by subst z; rw [ha] at e; cases e; cases d), d, r⟩
    have hK : K.In (hidT s₁.heap H) := fun b o e => low (KX b o e) (by
      cases q : H b with
      | none => rfl
      | some u =>
        obtain ⟨z, zk⟩ := hA b (by rw [q]; simp)
        subst z
        rw [zk] at e; cases e)
    have M : Mod K mg (hidT s₁.heap H) := ⟨hK, names hns, ⟨mb, names hb, hbb⟩, let ⟨mc, h1, h2⟩ := hlim; ⟨mc, names h1, h2⟩⟩
    have e0 : Env0 P w K mg (hidT s₁.heap H) callerA [] s₁ H := ⟨rfl, M, fun b o e => of_hidT e, Nat.le_of_eq (hidT_size _ _), trivial, fun b z => absurd (show b ∈ ([] : List Addr) from z) (by simp), hok, .of_eq hg⟩
    refine codeAny_mono ((F _ hK (names hns)).run callerA [] s₁ H ⟨[.ref a], []⟩ [.ref a] [.ref a] _ _ rfl hr e0 (bind s₁ (.ref a)) (.cons rfl .nil) (ask H only hS)) fun r s' h => ?_
    rcases r with e | fl
    · exact h.elim
    · rcases fl with _ | _ | _ | u
      · exact h.elim
      · exact h.elim
      · exact h.elim
      · obtain ⟨v, H', os, bare, un, hok', r', q⟩ := h
        obtain rfl : v = .bl true := q
        obtain rfl : u = Value.bool true := r'
        refine ⟨rfl, OldK.of_keep fun b o e => ?_, os, bare⟩
        cases q : H b with
        | none => exact un.keep b o e q (by intro z; exact absurd (show b ∈ ([] : List Addr) from z) (by simp)) (by simp)
        | some u =>
          rcases only b with z | ⟨ob, xs, z⟩
          · rw [q] at z; cases z
          · obtain ⟨e1, _⟩ := hok b _ z
            obtain ⟨e2, _⟩ := hok' b _ (un.frzs b ob _ z)
            rw [e] at e1; cases e1
            exact e2
  cases hk : K.lookup a with
  | some o =>
    have e := KX a o hk
    rw [ha] at e
    cases e
    exact from_ (fun _ => none) (fun _ => .inl rfl) (.inr ⟨_, vs.toArray, _, hk, rfl, rfl, rfl, by rw [List.size_toArray, lenV]; exact hl, by simpa using rv⟩) (fun b u z => nomatch (show (none : Option HO) = some u from z)) fun b z => absurd rfl z
  | none =>
    have at_ : ∀ b, (fun b => if b = a then some (HO.frz { cls := .type "list", data := .seq vs.toArray } (.lst (ns.map V.int))) else none) b ≠ none → b = a := fun b z => by
      by_cases hb : b = a
      · exact hb
      · exact absurd (if_neg hb) z
    refine from_ _ (fun b => ?_) (.inl (.inr ⟨_, if_pos rfl⟩)) (fun b u z => ?_) fun b z => ⟨at_ b z, hk⟩
    · by_cases hb : b = a
      · exact .inr ⟨_, _, if_pos hb⟩
      · exact .inl (if_neg hb)
    · have hb := at_ b (fun e => by have y := z.symm.trans e; cases y)
      subst hb
      have z' := (if_pos rfl).symm.trans z
      cases z'
      exact ⟨ha, by rw [List.length_map]; exact hl, vs, _, rv, ha⟩
theorem walk_ofG {l : PySem.W.OpenLaw} {n k : Nat} {q : Program} {loose : List Str} {XP : (Str → Option Value) → Heap → Prop} {YP : World → Heap → Prop} {d : DefRec} {K : Params → PySem.W.Frag} {sp : PySem.W.Frag → Sp} {x : Str}
    (hn : l.most = some n) (hn2 : n ≤ sizeLine) (hdf : d.params.defaults = []) (hr : Room k callerA) (hY : ∀ (w : World) (h : Heap), YP w h → (K w.params).In h)
    (F : ∀ (w : World) (mg : Str → Option Value) (fa : Addr) (h : Heap), (K w.params).In h → h.Ns mainGlobals mg → mg d.name = some (.ref fa) →
      ∃ fd : FuncData, (∀ (s : Shared) (u : Value), BindsTo s fd ⟨[u], []⟩ [(x, u)]) ∧ ∀ base : Heap, (K w.params).In base → base.Ns mainGlobals mg → GnOk l.prog w (K w.params) mg base k fa fd [x] (sp (K w.params)))
    (ask : ∀ (K : PySem.W.Frag) (H : Hp) (a : Addr) (ns : List Int), ns.length ≤ n → Only H → SqL K H a (ns.map V.int) → sp K [.ref a] H (fun v _ => v = .bl true) E0) :
    PySem.W.WalkO q loose XP YP l.row.toRowW d [] (fun f vs => PySem.call f vs) := by
  refine Att.attach_call hn hdf fun w s₀ s₁ mg mb fa o pm cd doc a vs ns G Y ho hd hcd hmg hobj hints hlen hg => ?_
  obtain ⟨fd, hb, hF⟩ := F w mg fa _ (hY w _ Y) G.T.g hmg
  exact law_callG (hY w _ Y) G.T.g G.T.b G.T.builtins G.T.nolimit hg hobj hints (Nat.le_trans hlen hn2) hr hF hb fun H hO hS => ask _ H a ns hlen hO hS
end Rp

namespace Rp
open PySem L2
def top (i : Nat) : Stmt := PySem.Challenge.pw_ringproofs_k26_whole_sayings_as_texts.main.body.getD i (.Pass ⟨0, 0, 0, 0⟩)
abbrev sErr : Stmt := top 2
abbrev sNumber : Stmt := top 9
abbrev sVariable : Stmt := top 10
abbrev sShape : Stmt := top 11
abbrev sTerm : Stmt := top 12
abbrev sParts : Stmt := top 13
abbrev sInside : Stmt := top 14
abbrev sFold : Stmt := top 15
abbrev sIsName : Stmt := top 19
abbrev sIsAtom : Stmt := top 20
abbrev sTextOf : Stmt := top 23
abbrev sTermText : Stmt := top 24
abbrev sNumberOf : Stmt := top 25
abbrev sFromSigns : Stmt := top 26
abbrev sTermOrNone : Stmt := top 27
abbrev sAtomText : Stmt := top 29
abbrev sAtomOr : Stmt := top 30
abbrev sAtomsText : Stmt := top 31
abbrev sAtomsOr : Stmt := top 32
abbrev sUnlike : Stmt := top 35
abbrev sIsSaying : Stmt := top 36
abbrev sSayingText : Stmt := top 40
abbrev sSayingOr : Stmt := top 41
abbrev sSayingIn : Stmt := top 42
abbrev sBox : Stmt := top 44
abbrev sTake : Stmt := top 45
abbrev sPick : Stmt := top 46
abbrev sSame : Stmt := top 47
abbrev sNames : Stmt := top 48
abbrev sTermL : Stmt := top 49
abbrev sUnlikeL : Stmt := top 50
abbrev sText : Stmt := top 51
abbrev sLawAT : Stmt := top 52
abbrev sShapes : Stmt := top 53
abbrev sRuleL : Stmt := top 54
abbrev sBaseL : Stmt := top 55
abbrev sRulesL : Stmt := top 56
abbrev sAtomL : Stmt := top 57
abbrev sSayingL : Stmt := top 58
abbrev sBegin : Stmt := top 59
abbrev sLawWord : Stmt := top 60
abbrev sSayingW : Stmt := top 61
abbrev sLawNum : Stmt := top 62
abbrev sLawTermIn : Stmt := top 63
abbrev sLawWhole : Stmt := top 64
abbrev sLawAtomIn : Stmt := top 65
abbrev sLawSyIn : Stmt := top 66
abbrev sLawSign : Stmt := top 67
abbrev sLawBentT : Stmt := top 68
abbrev sLawTold : Stmt := top 69
abbrev sLaw : Stmt := top 70
end Rp

namespace Rp
open PySem L2
/-! ### promises -/
def spBox (K : PySem.W.Frag) : Sp := fun vs H Q _ => ∃ (a : Addr) (ns : List Int) (k : Int), vs = [.ref a, .int k] ∧ SqL K H a (ns.map V.int) ∧ ns.length ≤ 63 ∧ 0 ≤ k ∧ k ≤ 63 ∧
  ∀ (b : Addr) (H' : Hp), H b = none → BoxAt H' b 0 → Same H H' → Q (.ref b) H'
def spTake : Sp := fun vs H Q _ => ∃ (b : Addr) (c : Int) (j : Nat), vs = [.ref b, .int c] ∧ BoxAt H b j ∧ j ≤ 1000000 ∧ 1 ≤ c ∧ c ≤ 1000000000 ∧
  ∀ (r : Int) (H' : Hp), 0 ≤ r → r < c → BoxAt H' b (j + 1) → But b H H' → Q (.int r) H'
def spPick : Sp := fun vs H Q _ => ∃ (b p : Addr) (xs : List V) (j : Nat), vs = [.ref b, .ref p] ∧ BoxAt H b j ∧ j ≤ 1000000 ∧ H p = some (.lst xs) ∧ p ≠ b ∧ 1 ≤ xs.length ∧ xs.length ≤ 1000000 ∧
  ∀ (v : V) (H' : Hp), v ∈ xs → BoxAt H' b (j + 1) → But b H H' → Q v H'
section
variable {P : Program} {w : World} {K : PySem.W.Frag} {mg : Str → Option Value} {base : Heap}
theorem fmod_pos {a c : Int} (h : 0 < c) : 0 ≤ a.fmod c ∧ a.fmod c < c := by
  rw [Int.fmod_eq_emod_of_nonneg a (Int.le_of_lt h)]
  exact ⟨Int.emod_nonneg a (by omega), Int.emod_lt_of_pos a h⟩
theorem fdiv_pos {a c : Int} (h : 0 < c) (ha : 0 ≤ a) : 0 ≤ a.fdiv c := by
  rw [Int.fdiv_eq_ediv_of_nonneg a (Int.le_of_lt h)]
  exact Int.ediv_nonneg ha (Int.le_of_lt h)
theorem scBox : FnScope ["_law_script", "_law_k", "_law_cell"] ["_law_script", "_law_k"] (defScope sBox) := ⟨rfl, rfl, rfl, by decide +kernel, rfl, by decide +kernel, by decide +kernel⟩
theorem ok_box {f : Addr} {fd : FuncData} (F : Fun K "_law_box" "_law_box" sBox f fd) (mLen : mg "len" = none) (mAbs : mg "abs" = none) (mInt : mg "int" = none) :
    FnOk P w K mg base CX0 1 f fd ["_law_script", "_law_k"] (spBox K) := by
  refine F.ok scBox (fun vs H Q E h => ?_) (fun cdv A outer s H vs Q E hr h => ?_)
  · obtain ⟨a, ns, k, rfl, _⟩ := h
    rfl
  obtain ⟨a, ns, k, rfl, hS, hl, h0, h1, q⟩ := h
  refine ⟨_, pss_cons (ps_set (i := 2) scBox.nd rfl (Or.inl rfl) pe_int)
    (pss_cons (ps_if (pt_cmpR op_lt (pv 1) (pe_callB call_len_seq (by rfl) mLen PySem.boot_len (pa_cons (pv 0) pa_nil)) (nomark _))
      (pss_one (ps_set (i := 2) scBox.nd rfl (Or.inl rfl) (pe_ix ix_list (pv 0) (pv 1) (fun _ _ => rfl)))) pss_nil)
    (pss_one (ps_ret (pe_lst (pa_cons
      (pe_op op_mul (pe_callB call_abs (by rfl) mAbs (by decide +kernel) (pa_cons (pv 2) pa_nil))
        (pe_callTy call_int1 (by rfl) mInt (by decide +kernel) (pa_cons (pe_cmpR op_ge (pe_callB call_abs (by rfl) mAbs (by decide +kernel) (pa_cons (pv 2) pa_nil)) (pe_op op_pow pe_int pe_int) (nomark _)) pa_nil)))
      (pa_cons (pe_op op_add (pe_op op_add (pe_op op_modN (pv 2) pe_int) (pe_op op_mul pe_int (pv 1))) pe_int) (pa_cons pe_int pa_nil))))))), ?_⟩
  refine ⟨_, rfl, _, rfl, a, _, rfl, .inl hS, _, _, rfl, rfl, _, rfl, ?_⟩
  have two : ∀ (b : Bool), -(2 ^ 64) < (if b = true then (1 : Int) else 0) ∧ (if b = true then (1 : Int) else 0) < 2 ^ 64 ∧ 0 ≤ (if b = true then (1 : Int) else 0) := by decide
  have pos : ∀ c : Int, 0 ≤ if c < 0 then -c else c := fun c => by split <;> omega
  have m := fun c : Int => fmod_pos (a := c) (c := 2147483629) (by decide)
  refine ite2 (fun c => ?_) (fun c => ?_)
  · have hk : k.toNat < ns.length := by
      have z : k < (((ns.map V.int).length : Nat) : Int) := of_decide_eq_true c
      rw [List.length_map] at z
      omega
    have it : atI (ns.map V.int) k = some (.int ns[k.toNat]) := at_of (j := k.toNat) (by omega) (by rw [List.getElem?_map, List.getElem?_eq_getElem hk]; rfl)
    refine ⟨_, rfl, _, rfl, a, _, _, _, rfl, rfl, hS, it, ?_⟩
    refine ⟨_, rfl, _, rfl, _, rfl, _, rfl, _, _, rfl, rfl, ⟨by decide, by decide, by decide⟩, _, _, rfl, rfl, .inr ⟨_, rfl, ?_⟩⟩
    refine ⟨_, _, rfl, rfl, .inr ⟨(two _).1, (two _).2.1⟩, _, rfl, _, _, rfl, rfl, (fun h => absurd h (by decide)), _, rfl, _, _, rfl, rfl, .inl ⟨by decide, by decide⟩, _, _, rfl, rfl, _, _, rfl, rfl, (by show 3 ≤ sizeLine; decide), fun b hb => ?_⟩
    have mm := m ns[k.toNat]
    exact q b _ hb ⟨_, _, _, upd_same, Int.mul_nonneg (pos _) (two _).2.2, by omega, by omega, by decide, by decide⟩ (same_new hb _)
  · refine ⟨_, rfl, _, rfl, _, rfl, _, rfl, _, _, rfl, rfl, ⟨by decide, by decide, by decide⟩, _, _, rfl, rfl, .inr ⟨_, rfl, ?_⟩⟩
    refine ⟨_, _, rfl, rfl, .inr ⟨(two _).1, (two _).2.1⟩, _, rfl, _, _, rfl, rfl, (fun h => absurd h (by decide)), _, rfl, _, _, rfl, rfl, .inl ⟨by decide, by decide⟩, _, _, rfl, rfl, _, _, rfl, rfl, (by show 3 ≤ sizeLine; decide), fun b hb => ?_⟩
    have mm := m 0
    exact q b _ hb ⟨_, _, _, upd_same, Int.mul_nonneg (pos _) (two _).2.2, by omega, by omega, by decide, by decide⟩ (same_new hb _)
theorem scTake : FnScope ["_law_box_here", "_law_reach", "_law_found", "_law_once"] ["_law_box_here", "_law_reach"] (defScope sTake) := ⟨rfl, rfl, rfl, by decide +kernel, rfl, by decide +kernel, by decide +kernel⟩
theorem ok_take {f : Addr} {fd : FuncData} (F : Fun K "_law_take" "_law_take" sTake f fd) : FnOk P w K mg base CX0 1 f fd ["_law_box_here", "_law_reach"] spTake := by
  refine F.ok scTake (fun vs H Q E h => ?_) (fun cdv A outer s H vs Q E hr h => ?_)
  · obtain ⟨b, c, j, rfl, _⟩ := h
    rfl
  obtain ⟨b, c, j, rfl, B, hj, h1, h2, q⟩ := h
  obtain ⟨x, y, z, hb, x0, y0, y1, z0, z1⟩ := id B
  have s0 : SqL K H b [.int x, .int y, .int z] := .inl (.inl hb)
  have a0 : ∀ u v t : Int, atI [V.int u, .int v, .int t] 0 = some (.int u) := fun u v t => at_of (j := 0) rfl rfl
  have a1 : ∀ u v t : Int, atI [V.int u, .int v, .int t] 1 = some (.int v) := fun u v t => at_of (j := 1) rfl rfl
  have a2 : ∀ u v t : Int, atI [V.int u, .int v, .int t] 2 = some (.int t) := fun u v t => at_of (j := 2) rfl rfl
  refine ⟨_, pss_cons (ps_if (pt_cmpR op_gt (pe_ix ix_list (pv 0) pe_int (fun _ _ => rfl)) pe_int (nomark _))
      (pss_cons (ps_set (i := 2) scTake.nd rfl (Or.inl rfl) (pe_op op_modN (pe_ix ix_list (pv 0) pe_int (fun _ _ => rfl)) (pv 1)))
      (pss_cons (ps_asg (pe_op op_fdivN (pe_ix ix_list (pv 0) pe_int (fun _ _ => rfl)) (pv 1)) (pg_sub (pv 0) pe_int set_list))
      (pss_one (ps_ret (pv 2))))) pss_nil)
    (pss_cons (ps_asg (pe_op op_add (pe_ix ix_list (pv 0) pe_int (fun _ _ => rfl)) pe_int) (pg_sub (pv 0) pe_int set_list))
    (pss_cons (ps_set (i := 3) scTake.nd rfl (Or.inl rfl) (pe_op op_modN (pe_op op_pow (pe_op op_add (pe_ix ix_list (pv 0) pe_int (fun _ _ => rfl)) (pe_op op_mul pe_int (pe_ix ix_list (pv 0) pe_int (fun _ _ => rfl)))) pe_int) pe_int))
    (pss_one (ps_ret (pe_op op_modN (pe_op op_fdivN (pe_op op_modN (pe_op op_add (pe_op op_mul (pv 3) (pe_op op_add (pe_op op_modN (pv 3) pe_int) pe_int)) (pe_op op_mul (pe_ix ix_list (pv 0) pe_int (fun _ _ => rfl)) pe_int)) pe_int) pe_int) (pv 1)))))), ?_⟩
  refine ⟨_, rfl, b, _, _, _, rfl, rfl, s0, a0 _ _ _, _, _, rfl, rfl, _, rfl, ?_⟩
  refine ite2 (fun d => ?_) (fun d => ?_)
  · refine ⟨_, rfl, b, _, _, _, rfl, rfl, s0, a0 _ _ _, _, rfl, _, _, rfl, rfl, (by omega), ?_⟩
    refine ⟨_, rfl, b, _, _, _, rfl, rfl, s0, a0 _ _ _, _, rfl, _, _, rfl, rfl, ⟨by omega, by omega⟩, ?_⟩
    refine ⟨_, rfl, b, _, _, 0, rfl, rfl, hb, rfl, ?_⟩
    have m := fmod_pos (a := x) (c := c) (by omega)
    exact ⟨_, rfl, q _ _ m.1 m.2 ⟨_, _, _, upd_same, fdiv_pos (by omega) x0, y0, y1, z0, by omega⟩ (but_upd _)⟩
  · refine ⟨_, rfl, b, _, _, _, rfl, rfl, s0, a2 _ _ _, _, _, rfl, rfl, ?_⟩
    refine ⟨_, rfl, b, _, _, 2, rfl, rfl, hb, rfl, ?_⟩
    have hb' : (upd H b (.lst [.int x, .int y, .int (z + 1)])) b = some (.lst [.int x, .int y, .int (z + 1)]) := upd_same
    have s1 : SqL K (upd H b (.lst [.int x, .int y, .int (z + 1)])) b [.int x, .int y, .int (z + 1)] := .inl (.inl hb')
    refine ⟨_, rfl, b, _, _, _, rfl, rfl, s1, a1 _ _ _, _, rfl, b, _, _, _, rfl, rfl, s1, a2 _ _ _, _, _, rfl, rfl, .inl ⟨by decide, by decide⟩, _, _, rfl, rfl, _, _, rfl, rfl, ⟨by decide, by decide, by omega⟩, _, _, rfl, rfl, (fun h => absurd h (by decide)), ?_⟩
    generalize (y + 39373 * (z + 1)) ^ Int.toNat 5 = g
    have m := fmod_pos (a := g) (c := 2147483647) (by decide)
    refine ⟨_, rfl, _, rfl, _, _, rfl, rfl, (fun h => absurd h (by decide)), _, _, rfl, rfl, _, _, rfl, rfl, .inl ⟨by omega, by omega⟩, _, rfl, b, _, _, _, rfl, rfl, s1, a2 _ _ _, _, _, rfl, rfl, .inl ⟨by omega, by omega⟩, _, _, rfl, rfl, _, _, rfl, rfl, (fun h => absurd h (by decide)), _, _, rfl, rfl, ⟨by decide, by decide⟩, _, rfl, _, _, rfl, rfl, (by omega), ?_⟩
    generalize Int.fdiv _ _ = e
    have m2 := fmod_pos (a := e) (c := c) (by omega)
    exact q _ _ m2.1 m2.2 ⟨_, _, _, upd_same, x0, y0, y1, by omega, by omega⟩ (but_upd _)
theorem scPick : FnScope ["_law_box_here", "_law_things"] ["_law_box_here", "_law_things"] (defScope sPick) := ⟨rfl, rfl, rfl, by decide +kernel, rfl, by decide +kernel, by decide +kernel⟩
theorem ok_pick {f fT : Addr} {fd fdT : FuncData} (F : Fun K "_law_pick" "_law_pick" sPick f fd) (FT : Fun K "_law_take" "_law_take" sTake fT fdT) (bT : Binds K fdT ["_law_box_here", "_law_reach"] []) (mT : mg "_law_take" = some (.ref fT)) (mLen : mg "len" = none) :
    FnOk P w K mg base CX0 2 f fd ["_law_box_here", "_law_things"] spPick := by
  have GT : FnOk P w K mg base CX0 1 fT fdT ["_law_box_here", "_law_reach"] spTake := ok_take FT
  refine F.ok scPick (fun vs H Q E h => ?_) (fun cdv A outer s H vs Q E hr h => ?_)
  · obtain ⟨b, p, xs, j, rfl, _⟩ := h
    rfl
  obtain ⟨b, p, xs, j, rfl, B, hj, hp, ne, l1, l2, q⟩ := h
  refine ⟨_, pss_one (ps_ret (pe_ix ix_list (pv 1) (pe_call GT hr rfl mT FT.kp bT .nil pass0 (pa_cons (pv 0) (pa_cons (pe_callB call_len_seq (by rfl) mLen PySem.boot_len (pa_cons (pv 1) pa_nil)) pa_nil))) (fun _ _ => rfl))), ?_⟩
  refine ⟨_, rfl, _, rfl, _, rfl, p, _, rfl, .inl (.inl (.inl hp)), b, _, j, rfl, B, hj, by omega, by omega, fun r H' r0 r1 B' o => ?_⟩
  have hr' : r.toNat < xs.length := by omega
  refine ⟨p, _, _, _, rfl, rfl, .inl (.inl (o _ _ hp ne)), at_of (j := r.toNat) (v := xs[r.toNat]) (by omega) (List.getElem?_eq_getElem hr'), ?_⟩
  exact q _ _ (List.getElem_mem hr') B' o
end
end Rp

namespace Rp
open PySem L2
section
variable {P : Program} {w : World} {K : PySem.W.Frag} {mg : Str → Option Value} {base : Heap}
theorem none_left {k : Nat} {f : Addr} {fd : FuncData} {ps : List Str} {sp : Sp} (no : ∀ vs H Q E, ¬ sp vs H Q E) : FnOk P w K mg base CX0 k f fd ps sp :=
  ⟨fun vs H Q E h => absurd h (no vs H Q E), fun A outer s H args us vs Q E _ _ _ _ h => absurd h (no vs H Q E)⟩
theorem v1_ne {x y : Int} (c : ¬ decide (V.int x = V.int y) = true) : x ≠ y := fun e => c (by rw [e]; simp)
theorem v1_eq {x y : Int} (c : decide (V.int x = V.int y) = true) : x = y := V.int.inj (of_decide_eq_true c)
theorem big1000 : (1000 : Nat) ≤ sizeLine := by decide
end
end Rp

namespace Rp
open PySem L2
/-- the value of a TERM is an int or a tuple that stands -/
theorem TmAt.ty {K : PySem.W.Frag} {H : Hp} {v : V} {t : Tm} (h : TmAt H v t) : (∃ n, v = .int n ∧ t = .v n) ∨ (∃ a xs, v = .ref a ∧ H a = some (.tup xs) ∧ TyX K H v (.type "tuple") ∧ (∀ n, t ≠ .v n)) := by
  cases h with
  | v n => exact .inl ⟨n, rfl, rfl⟩
  | z h => exact .inr ⟨_, _, rfl, h, .base (.tup h), fun n e => by cases e⟩
  | s h _ => exact .inr ⟨_, _, rfl, h, .base (.tup h), fun n e => by cases e⟩
  | f h _ _ => exact .inr ⟨_, _, rfl, h, .base (.tup h), fun n e => by cases e⟩
def signHead : Tm → Str
  | .v _ => "" | .z => "0" | .s _ => "s" | .f _ _ => "f"
/-- a TERM that is no variable: its tuple, its parts -/
theorem TmAt.tupled {H : Hp} {v : V} {t : Tm} (h : TmAt H v t) (no : ∀ n, t ≠ .v n) : ∃ a ks, v = .ref a ∧ H a = some (.tup (.str (signHead t) :: ks)) ∧ ks.length = t.kids.length ∧ ∀ (i : Nat) (x : V) (k : Tm), ks[i]? = some x → t.kids[i]? = some k → TmAt H x k := by
  cases h with
  | v n => exact absurd rfl (no n)
  | z h => exact ⟨_, [], rfl, h, rfl, fun i x k h => by simp at h⟩
  | @s a x t h q =>
    refine ⟨_, [x], rfl, h, rfl, fun i y k h1 h2 => ?_⟩
    cases i with
    | zero => simp [Tm.kids] at h1 h2; subst h1 h2; exact q
    | succ i => simp at h1
  | @f a x y l r h q q' =>
    refine ⟨_, [x, y], rfl, h, rfl, fun i u k h1 h2 => ?_⟩
    match i with
    | 0 => simp [Tm.kids] at h1 h2; subst h1 h2; exact q
    | 1 => simp [Tm.kids] at h1 h2; subst h1 h2; exact q'
    | i + 2 => simp at h1
theorem signs_kids : ∀ {t : Tm}, (∀ n, t ≠ .v n) → t.signs = .str (signHead t) :: t.kids.flatMap Tm.signs
  | .v n, h => absurd rfl (h n)
  | .z, _ => rfl
  | .s t, _ => by simp [Tm.signs, Tm.kids, signHead]
  | .f l r, _ => by simp [Tm.signs, Tm.kids, signHead]
theorem kid_deep {t k : Tm} (h : k ∈ t.kids) : k.deep < t.deep := by
  cases t with
  | v n => simp [Tm.kids] at h
  | z => simp [Tm.kids] at h
  | s t => simp [Tm.kids] at h; subst h; exact Nat.lt_succ_self _
  | f l r =>
    simp [Tm.kids] at h
    rcases h with h | h <;> subst h <;> (simp only [Tm.deep]; omega)
theorem kid_size {t k : Tm} (h : k ∈ t.kids) : k.size < t.size := by
  cases t with
  | v n => simp [Tm.kids] at h
  | z => simp [Tm.kids] at h
  | s t => simp [Tm.kids] at h; subst h; exact Nat.lt_succ_self _
  | f l r =>
    simp [Tm.kids] at h
    rcases h with h | h <;> subst h <;> (simp only [Tm.size]; omega)
theorem take_flat {t : Tm} (i : Nat) : ((t.kids.take i).flatMap Tm.signs).length ≤ t.size := by
  cases t with
  | v n => simp [Tm.kids]
  | z => simp [Tm.kids]
  | s t =>
    match i with
    | 0 => simp
    | i + 1 => simp [Tm.kids, Tm.signs_len, Tm.size]
  | f l r =>
    match i with
    | 0 => simp
    | 1 => simp [Tm.kids, Tm.signs_len, Tm.size]; try omega
    | i + 2 => simp [Tm.kids, Tm.signs_len, Tm.size]; try omega
theorem cut_tail (x : V) (ks : List V) : cutV (x :: ks) (some 1) none = ks := by
  have e : HT.sIx (x :: ks).length 0 (some 1) = 1 := by
    have := HT.sIx_nat (x :: ks).length 0 1
    rw [List.length_cons] at this ⊢
    rw [show (some 1 : Option Int) = some ((1 : Nat) : Int) from rfl, this]
    omega
  unfold cutV
  rw [e, HT.sIx_none, List.drop_one, List.tail_cons, List.take_of_length_le (by simp)]
theorem cut_part (x : V) (ks : List V) : ¬ (HT.sIx (x :: ks).length 0 (some 1) = 0 ∧ HT.sIx (x :: ks).length (x :: ks).length none = (x :: ks).length) := by
  have := HT.sIx_nat (x :: ks).length 0 1
  rw [List.length_cons] at this ⊢
  rw [show (some 1 : Option Int) = some ((1 : Nat) : Int) from rfl, this]
  omega
section
variable {P : Program} {w : World} {K : PySem.W.Frag} {mg : Str → Option Value} {base : Heap}
theorem kit_ii : PySem.W.kitOne K (.type "int") (.type "int") = some true := kit_ty (by decide +kernel)
theorem kit_ti : PySem.W.kitOne K (.type "tuple") (.type "int") = some false := kit_ty (by decide +kernel)
theorem kit_si : PySem.W.kitOne K (.type "str") (.type "int") = some false := kit_ty (by decide +kernel)
end
end Rp

namespace Rp
open PySem PySem.Spec PyProof.Rows L2
/-- list.extend by any tuple object -/
theorem extend_by (l : Addr) (xs : Array Value) (n : Nat) (b : Addr) (od : Option Addr) (ys : Array Value) (m : Nat) (sl : Array (Option Value)) (short : ¬(!xs.isEmpty && Builtin.List.listTooLong (xs.size + ys.size)) = true) (h1 : xs.size ≤ sizeLine) (h2 : xs.size + ys.size ≤ sizeLine + 1) :
    Meets (Builtin.«list.extend» ⟨[.ref l, .ref b], []⟩) (fun _ R s => s.heap.get? l = some { cls := .type "list", data := .seq xs n } ∧ s.heap.get? b = some ⟨.type "tuple", od, .seq ys m, sl⟩ ∧
      R (.ok (.ret Value.none)) { s with heap := s.heap.update l (Obj.mapSeq fun x => x ++ ys) }) :=
  .of_wp fun prog w A R s ⟨hl, hb, h⟩ => by
    obtain ⟨hp, g, d, tk, os⟩ := s
    have g1 := sub_list_list
    have g2 := sub_tuple_list
    have g3 := sub_tuple_tuple
    have g4 := sub_list_tuple
    have both : (xs ++ ys).size ≤ sizeLine + 1 := by rw [Array.size_append]; exact h2
    wp_walk using (wpAny_updateSeq hl rfl (hz := h1) (_hz' := both)), wpAny_loadPart' hl, wpAny_loadPart' hb
    exact ⟨_, rfl, h⟩
section
variable {X : Cx}
/-- xs.extend(t), t a tuple -/
def rExtT (K : PySem.W.Frag) : V → List V → Hp → VK → Prop := fun x vs H Q => ∃ (l b : Addr) (xs zs : List V), x = .ref l ∧ vs = [.ref b] ∧ H l = some (.lst xs) ∧ SqT K H b zs ∧ xs.length + zs.length ≤ sizeLine ∧ Q .non (upd H l (.lst (xs ++ zs)))
theorem mt_extendT : MtM X "list.extend" (rExtT X.K) := by
  intro pins s σ H x vs v us Q I rx rv h
  obtain ⟨l, b, xs, zs, rfl, rfl, hH, hB, few, q⟩ := h
  cases rx
  obtain ⟨u, rfl, ru⟩ := rv.one
  cases ru
  obtain ⟨z, its, n, r, hl, e⟩ := I.lstM hH
  obtain ⟨its2, r2, ⟨⟨c2, d2, dat2, sl2⟩, e2, hc2, n2, hd2⟩, hz2⟩ := I.tuple hB
  simp only at hc2 hd2
  subst hc2 hd2
  have l1 := r.length
  have l2 := r2.length
  have room : its.toArray.size + its2.toArray.size ≤ sizeLine := by rw [List.size_toArray, List.size_toArray]; omega
  have short : ¬ (!its.toArray.isEmpty && Builtin.List.listTooLong (its.toArray.size + its2.toArray.size)) = true := by
    rw [notLongL room, Bool.and_false]; exact Bool.false_ne_true
  refine call_meets PySem.F.slot_list_extend ⟨_, e, rfl⟩ PySem.F.entry_list_extend (PySem.F.args_list_extend_2 _ _) (extend_by l its.toArray n b d2 its2.toArray n2 sl2 short (by rw [List.size_toArray]; omega) (by omega)) ⟨e, e2, ?_⟩
  refine ⟨.non, _, I.lset (its' := its ++ its2) (t' := s.toks) hH e (by simp) (r.append r2) ?_, rfl, q⟩
  rw [List.length_append]; omega
end
end Rp

namespace Rp
open PySem L2
/-- values and TERMs side by side -/
def AllAt (H : Hp) : List V → List Tm → Prop
  | [], [] => True
  | x :: xs, t :: ts => TmAt H x t ∧ AllAt H xs ts
  | _, _ => False
theorem AllAt.len {H : Hp} : ∀ {xs : List V} {ts : List Tm}, AllAt H xs ts → xs.length = ts.length
  | [], [], _ => rfl
  | x :: xs, t :: ts, h => congrArg (· + 1) (AllAt.len h.2)
theorem AllAt.append {H : Hp} : ∀ {xs ys : List V} {ts us : List Tm}, AllAt H xs ts → AllAt H ys us → AllAt H (xs ++ ys) (ts ++ us)
  | [], _, [], _, _, h => h
  | x :: xs, _, t :: ts, _, h, h' => ⟨h.1, AllAt.append h.2 h'⟩
theorem AllAt.parted {H : Hp} : ∀ {xs ys : List V} {ts : List Tm}, AllAt H (xs ++ ys) ts → ∃ t1 t2, ts = t1 ++ t2 ∧ AllAt H xs t1 ∧ AllAt H ys t2
  | [], _, ts, h => ⟨[], ts, rfl, trivial, h⟩
  | x :: xs, ys, t :: ts, h => by
    obtain ⟨t1, t2, e, h1, h2⟩ := AllAt.parted (xs := xs) h.2
    exact ⟨t :: t1, t2, by rw [e]; rfl, ⟨h.1, h1⟩, h2⟩
theorem AllAt.mono {H H' : Hp} (e : ∀ a xs, H a = some (.tup xs) → H' a = some (.tup xs)) : ∀ {xs : List V} {ts : List Tm}, AllAt H xs ts → AllAt H' xs ts
  | [], [], _ => trivial
  | x :: xs, t :: ts, h => ⟨h.1.mono e, AllAt.mono e h.2⟩
theorem AllAt.back {H : Hp} : ∀ {xs : List V} {ts : List Tm}, AllAt H xs ts → AllAt H xs.reverse ts.reverse
  | [], [], _ => trivial
  | x :: xs, t :: ts, h => by
    rw [List.reverse_cons, List.reverse_cons]
    exact (AllAt.back h.2).append ⟨h.1, trivial⟩
theorem AllAt.get {H : Hp} : ∀ {xs : List V} {ts : List Tm} {i : Nat} {x : V}, AllAt H xs ts → xs[i]? = some x → ∃ t, ts[i]? = some t ∧ TmAt H x t
  | x :: xs, t :: ts, 0, y, h, e => by simp at e; subst e; exact ⟨t, rfl, h.1⟩
  | x :: xs, t :: ts, i + 1, y, h, e => by simpa using AllAt.get h.2 (by simpa using e)
theorem AllAt.of {H : Hp} : ∀ {xs : List V} {ts : List Tm}, xs.length = ts.length → (∀ (i : Nat) (x : V) (k : Tm), xs[i]? = some x → ts[i]? = some k → TmAt H x k) → AllAt H xs ts
  | [], [], _, _ => trivial
  | x :: xs, t :: ts, l, h => ⟨h 0 x t rfl rfl, AllAt.of (by simpa using l) fun i y k a b => h (i + 1) y k (by simpa using a) (by simpa using b)⟩
def spParts : Sp := fun vs H Q _ => ∃ (v : V) (t : Tm), vs = [v] ∧ TmAt H v t ∧ ∀ (p : Addr) (ks : List V) (H' : Hp), H p = none → H' p = some (.tup ks) → AllAt H' ks t.kids → Same H H' → Q (.ref p) H'
def spInside : Sp := fun vs H Q _ => ∃ (v : V) (t : Tm), vs = [v] ∧ TmAt H v t ∧ t.size ≤ 1000 ∧ ∀ (p : Addr) (xs : List V) (H' : Hp), H p = none → H' p = some (.lst xs) → AllAt H' xs t.rpost.reverse → Same H H' → Q (.ref p) H'
def spSize : Sp := fun vs H Q _ => ∃ (v : V) (t : Tm), vs = [v] ∧ TmAt H v t ∧ t.size ≤ 1000 ∧ ∀ H', Same H H' → Q (.int (t.size : Nat)) H'
def spVars : Sp := fun vs H Q _ => ∃ (v : V) (t : Tm), vs = [v] ∧ TmAt H v t ∧ t.size ≤ 60 ∧ ∀ (p : Addr) (ns : List Int) (H' : Hp), H p = none → H' p = some (.lst (ns.map V.int)) → ns.Pairwise (· < ·) → (∀ k, k ∈ ns ↔ k ∈ t.nums) → Same H H' → Q (.ref p) H'
section
variable {P : Program} {w : World} {K : PySem.W.Frag} {mg : Str → Option Value} {base : Heap}
theorem scParts : FnScope ["term"] ["term"] (defScope sParts) := ⟨rfl, rfl, rfl, by decide +kernel, rfl, by decide +kernel, by decide +kernel⟩
theorem ok_parts {f : Addr} {fd : FuncData} (F : Fun K "_parts" "_parts" sParts f fd) (mIsi : mg "isinstance" = none) (mInt : mg "int" = none) : FnOk P w K mg base CX0 1 f fd ["term"] spParts := by
  refine F.ok scParts (fun vs H Q E h => ?_) (fun cdv A outer s H vs Q E hr h => ?_)
  · obtain ⟨v, t, rfl, _⟩ := h
    rfl
  obtain ⟨v, t, rfl, T, q⟩ := h
  refine ⟨_, pss_one (ps_ret (pe_ifExp (pt_val (pe_callB call_isi (by rfl) mIsi (by decide +kernel) (pa_cons (pv 0) (pa_cons (pe_bltn (v := .ty "int") (by rfl) mInt (by decide +kernel) rfl) pa_nil)))) (pe_tup pa_nil) (pe_slice sl_tup (pv 0) (po_some pe_int) po_none))), ?_⟩
  rcases T.ty (K := K) with ⟨m, rfl, rfl⟩ | ⟨a, xs, rfl, ha, ty, no⟩
  · refine ⟨_, rfl, _, _, _, _, true, rfl, .ty "int", .base (.int m), kit_ii, true, rfl, iteT ?_⟩
    exact ⟨(by show 0 ≤ sizeLine; decide), fun p hp => q p [] _ hp upd_same trivial (same_new hp _)⟩
  · obtain ⟨a', ks, e, ha', hk, hks⟩ := T.tupled no
    cases e
    refine ⟨_, rfl, _, _, _, _, false, rfl, .ty "int", ty, kit_ti, false, rfl, iteF ?_⟩
    refine ⟨_, rfl, 1, rfl, a, _, rfl, .inl (.inl ha'), cut_part _ _, fun p hp => ?_⟩
    rw [cut_tail]
    have s1 := same_new hp (.tup ks)
    exact q p ks _ hp upd_same (AllAt.of hk fun i x k a b => (hks i x k a b).same s1) s1
theorem scInside : FnScope ["term", "found", "todo", "part"] ["term"] (defScope sInside) := ⟨rfl, rfl, rfl, by decide +kernel, rfl, by decide +kernel, by decide +kernel⟩
/-- how many parts are still to come -/
def leftOf (n : Nat) (σ : List (Option V)) (H : Hp) : Nat := match σ with
  | _ :: some (V.ref p) :: _ => (match H p with
    | some (HO.lst xs) => n - xs.length
    | _ => 0)
  | _ => 0
theorem leftOf_is {n : Nat} {v : Option V} {p : Addr} {r : List (Option V)} {H : Hp} {xs : List V} (h : H p = some (.lst xs)) : leftOf n (v :: some (.ref p) :: r) H = n - xs.length := by
  unfold leftOf
  simp [h]
theorem ok_inside {f fP : Addr} {fd fdP : FuncData} (F : Fun K "inside_out" "inside_out" sInside f fd) (FP : Fun K "_parts" "_parts" sParts fP fdP) (bP : Binds K fdP ["term"] []) (mP : mg "_parts" = some (.ref fP)) (mIsi : mg "isinstance" = none) (mInt : mg "int" = none) :
    FnOk P w K mg base CX0 2 f fd ["term"] spInside := by
  have GP : FnOk P w K mg base CX0 1 fP fdP ["term"] spParts := ok_parts FP mIsi mInt
  refine F.ok scInside (fun vs H Q E h => ?_) (fun cdv A outer s H vs Q E hr h => ?_)
  · obtain ⟨v, t, rfl, _⟩ := h
    rfl
  obtain ⟨v, t, rfl, T, hz, q⟩ := h
  refine ⟨_, pss_cons (ps_set (i := 1) scInside.nd rfl (Or.inl rfl) (pe_lst pa_nil))
    (pss_cons (ps_set (i := 2) scInside.nd rfl (Or.inl rfl) (pe_lst (pa_cons (pv 0) pa_nil)))
    (pss_cons (ps_while PassesOwn.never (pt_truth (pv 2) (by intro _; rfl))
      (pss_cons (ps_set (i := 3) scInside.nd rfl (Or.inl rfl) (pe_bm0 PySem.F.plainAttrs_list PySem.F.slot_list_pop PySem.F.type_list_pop mt_pop (pv 2)))
      (pss_cons (ps_expr (pe_bm PySem.F.plainAttrs_list PySem.F.slot_list_append PySem.F.type_list_append mt_append (pv 1) (pa_cons (pv 3) pa_nil)))
      (pss_one (ps_expr (pe_bm PySem.F.plainAttrs_list PySem.F.slot_list_extend PySem.F.type_list_extend mt_extendT (pv 2) (pa_cons (pe_call GP hr rfl mP FP.kp bP .nil pass0 (pa_cons (pv 3) pa_nil)) pa_nil)))))))
    (pss_one (ps_ret (pe_revL (pv 1)))))), ?_⟩
  refine ⟨(by show 0 ≤ sizeLine; decide), fun p hp => ?_⟩
  refine ⟨_, rfl, (by show 1 ≤ sizeLine; decide), fun d hd => ?_⟩
  have s1 := same_new hp (.lst [])
  have s2 := same_new hd (.lst [v])
  have s12 : Same H _ := s1.trans s2
  have pd : p ≠ d := ne_of_none upd_same hd
  dsimp only [gName, tSeq]
  refine while_by (fun σ H2 => ∃ (fxs txs : List V) (fs ts : List Tm) (x : Option V), σ = [some v, some (.ref p), some (.ref d), x] ∧ H2 p = some (.lst fxs) ∧ H2 d = some (.lst txs) ∧ AllAt H2 fxs fs ∧ AllAt H2 txs ts ∧ fs ++ ts.reverse.flatMap Tm.rpost = t.rpost ∧ Same H H2)
    (leftOf t.size) ⟨[], [v], [], [t], none, rfl, s2 _ _ upd_same, upd_same, trivial, ⟨T.same s12, trivial⟩, by simp, s12⟩ ?_ (fun σ H Q Q' m ⟨v, hv, k, hk, q⟩ => ⟨v, hv, k, hk, m _ _ q⟩)
  rintro σ H2 ⟨fxs, txs, fs, ts, x, rfl, h1, h2, A1, A2, eq, sH⟩
  refine ⟨_, rfl, !txs.isEmpty, .inl ⟨txs, .inl (.inl h2), rfl⟩, ?_⟩
  have tot := congrArg List.length eq
  rw [List.length_append, Tm.rpost_len, ← A1.len] at tot
  rcases List.eq_nil_or_concat txs with e | ⟨M, y, e⟩
  · subst e
    refine iteF ?_
    have e2 : ts = [] := by have := A2.len; cases ts with | nil => rfl | cons => simp at this
    subst e2
    have e3 : fs = t.rpost := by simpa using eq
    subst e3
    refine ⟨_, rfl, p, _, rfl, .inl (.inl h1), fun r hr2 => ?_⟩
    have s3 := same_new hr2 (.lst fxs.reverse)
    refine q r _ _ (sH.free hr2) upd_same (A1.back.mono fun a xs z => s3 _ _ z) (sH.trans s3)
  · rw [List.concat_eq_append] at e
    subst e
    have ne : (!(M ++ [y]).isEmpty) = true := by simp
    rw [ne]
    refine iteT ?_
    obtain ⟨L, k', e2, AM, Ay⟩ := A2.parted
    subst e2
    obtain ⟨k, rfl, Tk⟩ : ∃ k, k' = [k] ∧ TmAt H2 y k := by
      match k', Ay with
      | [k], Ay => exact ⟨k, rfl, Ay.1⟩
    have ek : fs ++ (k :: (k.kids.reverse.flatMap Tm.rpost ++ L.reverse.flatMap Tm.rpost)) = t.rpost := by
      rw [← eq]
      simp [Tm.rpost_kids k]
    have room : fxs.length < t.size := by
      have := congrArg List.length ek
      rw [List.length_append, Tm.rpost_len, ← A1.len, List.length_cons] at this
      omega
    have big := big1000
    -- part = todo.pop()
    refine ⟨_, rfl, .inl ⟨rfl, _, .inl (.inl h2)⟩, d, _, y, rfl, rfl, h2, by simp, ?_⟩
    rw [List.dropLast_concat]
    have dp : d ≠ p := fun z => pd z.symm
    have t3 : ∀ a xs, H2 a = some (.tup xs) → upd H2 d (.lst M) a = some (.tup xs) := fun a xs z => by rw [upd_ne (ne_of z h2 (by intro z; cases z))]; exact z
    -- found.append(part)
    refine ⟨_, rfl, .inl ⟨rfl, fxs, .inl (.inl (by rw [upd_ne pd]; exact h1))⟩, _, rfl, p, fxs, y, rfl, rfl, (by rw [upd_ne pd]; exact h1), by omega, ?_⟩
    have h1' : (upd (upd H2 d (.lst M)) p (.lst (fxs ++ [y]))) p = some (.lst (fxs ++ [y])) := upd_same
    have h2' : (upd (upd H2 d (.lst M)) p (.lst (fxs ++ [y]))) d = some (.lst M) := by rw [upd_ne dp]; exact upd_same
    have t4 : ∀ a xs, H2 a = some (.tup xs) → (upd (upd H2 d (.lst M)) p (.lst (fxs ++ [y]))) a = some (.tup xs) := fun a xs z => by
      rw [upd_ne (ne_of z h1 (by intro z; cases z))]; exact t3 a xs z
    have pn : H p = none := hp
    have dn : H d = none := s1.free hd
    have sH4 : Same H (upd (upd H2 d (.lst M)) p (.lst (fxs ++ [y]))) := fun b o z => by
      rw [upd_ne (ne_of_none z pn), upd_ne (ne_of_none z dn)]; exact sH b o z
    -- todo.extend(_parts(part))
    refine ⟨_, rfl, .inl ⟨rfl, M, .inl (.inl h2')⟩, _, rfl, y, k, rfl, Tk.mono t4, fun g ks H5 hg h5 A5 s5 => ?_⟩
    have kl := A5.len
    have lim : M.length + ks.length ≤ sizeLine := by
      have a1 := congrArg List.length ek
      have a2 : k.kids.length ≤ 2 := by cases k <;> simp [Tm.kids]
      have a3 : L.length ≤ (L.reverse.flatMap Tm.rpost).length := by
        have : ∀ l : List Tm, l.length ≤ (l.flatMap Tm.rpost).length := by
          intro l
          induction l with
          | nil => simp
          | cons z l ih => rw [List.flatMap_cons, List.length_append, Tm.rpost_len, List.length_cons]; have := Tm.size_pos z; omega
        have := this L.reverse
        rwa [List.length_reverse] at this
      have a4 := AM.len
      rw [List.length_append, List.length_cons, List.length_append, Tm.rpost_len] at a1
      have a5 : (1000 : Nat) + 1000 ≤ sizeLine := by decide
      omega
    refine ⟨d, g, M, ks, rfl, rfl, s5 _ _ h2', .inl (.inl h5), lim, ?_⟩
    have h1'' := s5 _ _ h1'
    have t6 : ∀ a xs, H5 a = some (.tup xs) → upd H5 d (.lst (M ++ ks)) a = some (.tup xs) := fun a xs z => by rw [upd_ne (ne_of z (s5 _ _ h2') (by intro z; cases z))]; exact z
    have t7 : ∀ a xs, H2 a = some (.tup xs) → upd H5 d (.lst (M ++ ks)) a = some (.tup xs) := fun a xs z => t6 a xs (s5 _ _ (t4 a xs z))
    have h1d : (upd H5 d (.lst (M ++ ks))) p = some (.lst (fxs ++ [y])) := by rw [upd_ne pd]; exact h1''
    refine ⟨⟨fxs ++ [y], M ++ ks, fs ++ [k], L ++ k.kids, some y, rfl, h1d, upd_same, (A1.mono t7).append ⟨Tk.mono t7, trivial⟩, (AM.mono t7).append (A5.mono t6), ?_, ?_⟩, ?_⟩
    · rw [← ek]; simp
    · intro b o z
      rw [upd_ne (ne_of_none z dn)]
      exact s5 _ _ (sH4 b o z)
    · show leftOf t.size (some v :: some (.ref p) :: _) _ < leftOf t.size (some v :: some (.ref p) :: _) H2
      rw [leftOf_is h1d, leftOf_is h1, List.length_append, List.length_singleton]
      omega
end
end Rp

namespace Rp
open PySem L2
section
variable {P : Program} {w : World} {K : PySem.W.Frag} {mg : Str → Option Value} {base : Heap}
theorem back_len (t : Tm) : t.rpost.reverse.length = t.size := by rw [List.length_reverse, Tm.rpost_len]
end
end Rp

namespace Rp
open PySem L2 RZ
/-- [.. for a, b in zip(xs, ys)], both lists or both tuples, as long -/
theorem lc_pairs {J : It} {xs ys : List V} {g : TG} {tt : TT} {te : TE} {vs : List Nat} {σ : L2.St} {H1 : Hp} {D : Addr} {Qd : Hp → Prop} (same : xs.length = ys.length) (Pv : Nat → Hp → Prop)
    (stops : ∀ H, Pv xs.length H → J.stop xs.length H) (goes : ∀ i H, i < xs.length → Pv i H → J.go i H)
    (gives : ∀ i H v H', Pv i H → J.yld i H v H' → ∃ T x y, v = .ref T ∧ xs[i]? = some x ∧ ys[i]? = some y ∧ H T = none ∧ H' = upd H T (.tup [x, y]))
    (h0 : Pv 0 (upd H1 D (.lst [])))
    (hs : ∀ (i : Nat) (x y : V) (T : Addr) (H : Hp), xs[i]? = some x → ys[i]? = some y → Pv i H → H T = none → g (.ref T) (wipe σ vs) (upd H T (.tup [x, y])) fun σ2 H2 => wipe σ2 vs = wipe σ vs ∧
      tt σ2 H2 fun b H3 => if b = true then te σ2 H3 fun y H4 => ∃ acc, H4 D = some (.lst acc) ∧ acc.length < sizeLine ∧ Pv (i + 1) (upd H4 D (.lst (acc ++ [y]))) else Pv (i + 1) H3)
    (hd : ∀ H, Pv xs.length H → Qd H) :
    ∃ W : Nat → Nat → Hp → Prop, (∃ m, W 0 m (upd H1 D (.lst []))) ∧ ∀ i m H, W i m H → (J.stop i H ∧ Qd H) ∨
      (J.go i H ∧ ∃ Nx : Hp → Prop, (∀ H', Nx H' → ∃ m', m' < m ∧ W (i + 1) m' H') ∧ ∀ x H', J.yld i H x H' → g x (wipe σ vs) H' fun σ2 H2 => wipe σ2 vs = wipe σ vs ∧
        tt σ2 H2 fun b H3 => if b = true then te σ2 H3 fun y H4 => ∃ acc, H4 D = some (.lst acc) ∧ acc.length < sizeLine ∧ Nx (upd H4 D (.lst (acc ++ [y]))) else Nx H3) := by
  refine ⟨fun i m H => m + i = xs.length ∧ Pv i H, ⟨xs.length, by simp, h0⟩, ?_⟩
  rintro i m H ⟨em, p⟩
  rcases Nat.lt_or_ge i xs.length with lt | ge
  · refine .inr ⟨goes i H lt p, Pv (i + 1), fun H' p' => ⟨m - 1, by omega, by omega, p'⟩, fun v H' y => ?_⟩
    obtain ⟨T, x, y', rfl, hx, hy, hT, rfl⟩ := gives i H v H' p y
    exact hs i x y' T H hx hy p hT
  · have e : i = xs.length := by omega
    subst e
    exact .inl ⟨stops H p, hd H p⟩
def spSame (n : Nat) : Sp := fun vs H Q _ => ∃ (x y : V) (m : Nat), vs = [x, y] ∧ n = m + 1 ∧ Alike H m x y ∧ ∀ H', Same H H' → Q (.bl true) H'
section
variable {P : Program} {w : World} {K : PySem.W.Frag} {mg : Str → Option Value} {base : Heap}
structure SameG (mg : Str → Option Value) : Prop where
  isi : mg "isinstance" = none
  list : mg "list" = none
  tuple : mg "tuple" = none
  len : mg "len" = none
  all : mg "all" = none
  zip : mg "zip" = none
  str : mg "str" = none
  int : mg "int" = none
  bool : mg "bool" = none
theorem scSame : FnScope ["_law_found", "_law_due", "_law_one", "_law_two"] ["_law_found", "_law_due"] (defScope sSame) := ⟨rfl, rfl, rfl, by decide +kernel, rfl, by decide +kernel, by decide +kernel⟩
theorem kitB_of {K : PySem.W.Frag} {a b : String} {r : Bool} (h : kitB a b = some r) : PySem.W.kitOne K (.type a) (.type b) = some r := h
theorem kit_lt {K : PySem.W.Frag} {a : String} {p r : Bool} (h1 : kitB a "list" = some p) (h2 : kitB a "tuple" = some r) : PySem.W.kitAny K (.type a) [.type "list", .type "tuple"] = some (p || r) := by
  refine kitAny_cons (kitB_of h1) (fun e => ?_) (fun e => by rw [e]; rfl)
  refine kitAny_cons (kitB_of h2) (fun e2 => by rw [e, e2]; exact kitAny_nil) (fun e2 => by rw [e, e2]; rfl)
theorem ok_same {n : Nat} {f : Addr} {fd : FuncData} (F : Fun K "_law_same" "_law_same" sSame f fd) (b2 : Binds K fd ["_law_found", "_law_due"] []) (mF : mg "_law_same" = some (.ref f)) (G : FnOk P w K mg base CX0 n f fd ["_law_found", "_law_due"] (spSame n)) (M : SameG mg) :
    FnOk P w K mg base CX0 (n + 1) f fd ["_law_found", "_law_due"] (spSame (n + 1)) := by
  refine F.ok scSame (fun vs H Q E h => ?_) (fun cdv A outer s H vs Q E hr h => ?_)
  · obtain ⟨x, y, m, rfl, _⟩ := h
    rfl
  obtain ⟨x, y, m, rfl, em, hA, q⟩ := h
  have em : n = m := by omega
  subst em
  refine ⟨_, pss_cons (ps_if (pt_val (pe_callB (id := "isinstance") call_isiT (by rfl) M.isi (by decide +kernel) (pa_cons (pv 1) (pa_cons (pe_tup (pa_cons (pe_bltn (v := .ty "list") (by rfl) M.list (by decide +kernel) rfl) (pa_cons (pe_bltn (v := .ty "tuple") (by rfl) M.tuple (by decide +kernel) rfl) pa_nil))) pa_nil))))
      (pss_cons (ps_if (PW.pt (pw_or (pt_cmpR op_ne
            (pe_callB (id := "isinstance") call_isi (by rfl) M.isi (by decide +kernel) (pa_cons (pv 0) (pa_cons (pe_bltn (v := .ty "list") (by rfl) M.list (by decide +kernel) rfl) pa_nil)))
            (pe_callB (id := "isinstance") call_isi (by rfl) M.isi (by decide +kernel) (pa_cons (pv 1) (pa_cons (pe_bltn (v := .ty "list") (by rfl) M.list (by decide +kernel) rfl) pa_nil))) (nomark _))
          (pw_or1 (pt_cmpR op_ne
            (pe_callB (id := "isinstance") call_isi (by rfl) M.isi (by decide +kernel) (pa_cons (pv 0) (pa_cons (pe_bltn (v := .ty "tuple") (by rfl) M.tuple (by decide +kernel) rfl) pa_nil)))
            (pe_callB (id := "isinstance") call_isi (by rfl) M.isi (by decide +kernel) (pa_cons (pv 1) (pa_cons (pe_bltn (v := .ty "tuple") (by rfl) M.tuple (by decide +kernel) rfl) pa_nil))) (nomark _))))) (pss_one (ps_ret pe_bl)) pss_nil)
      (pss_cons (ps_if (pt_cmpR op_ne (pe_callB call_len_seq (by rfl) M.len PySem.boot_len (pa_cons (pv 0) pa_nil)) (pe_callB call_len_seq (by rfl) M.len PySem.boot_len (pa_cons (pv 1) pa_nil)) (nomark _)) (pss_one (ps_ret pe_bl)) pss_nil)
      (pss_one (ps_ret (pe_callB (cr_all rfl) (by rfl) M.all (by decide +kernel) (pa_cons (pe_lc (own := [("_law_one", 2), ("_law_two", 3)]) (g := gTup K 2 (gCons (gName 2) (gCons (gName 3) gNil))) (tt := tYes) (te := tCall (spSame n) [] E0 (tCons (tVar 2) (tCons (tVar 3) tNil))) rfl scSame.nd
        (pi_zipA (by rfl) M.zip (pa_cons (pv 0) (pa_cons (pv 1) pa_nil))) (blkOk_by (N := ["_law_found", "_law_due", "_law_one", "_law_two"]) (sc := defScope sSame) (by decide +kernel))
        (fun _ _ _ _ _ => pg_tup (by rfl) (pgs_cons (pg_name (i := 2) scSame.nd rfl (Or.inl rfl)) (pgs_cons (pg_name (i := 3) scSame.nd rfl (Or.inl rfl)) pgs_nil)))
        (fun _ _ _ _ _ => pts_nil) (fun _ _ _ _ _ => pe_call G hr (by rfl) mF F.kp b2 .nil pass0 (pa_cons (pv 2) (pa_cons (pv 3) pa_nil)))) pa_nil)))))) pss_nil)
    (pss_cons (ps_if (PW.pt (pw_or (pt_cmpR op_isN (pv 1) pe_non (nomark _)) (pw_or1 (pt_val (pe_callB (id := "isinstance") call_isi (by rfl) M.isi (by decide +kernel) (pa_cons (pv 1) (pa_cons (pe_bltn (v := .ty "str") (by rfl) M.str (by decide +kernel) rfl) pa_nil)))))))
      (pss_one (ps_ret (pe_and (pe_cmpR op_eq (pv 0) (pv 1) (nomark _)) (pe_one (pe_cmpR op_eq
            (pe_callB (id := "isinstance") call_isi (by rfl) M.isi (by decide +kernel) (pa_cons (pv 0) (pa_cons (pe_bltn (v := .ty "str") (by rfl) M.str (by decide +kernel) rfl) pa_nil)))
            (pe_callB (id := "isinstance") call_isi (by rfl) M.isi (by decide +kernel) (pa_cons (pv 1) (pa_cons (pe_bltn (v := .ty "str") (by rfl) M.str (by decide +kernel) rfl) pa_nil))) (nomark _)))))) pss_nil)
    (pss_one (ps_ret (pe_and (pe_callB (id := "isinstance") call_isi (by rfl) M.isi (by decide +kernel) (pa_cons (pv 0) (pa_cons (pe_bltn (v := .ty "int") (by rfl) M.int (by decide +kernel) rfl) pa_nil)))
      (pe_and (pe_cmpR op_eq
            (pe_callB (id := "isinstance") call_isi (by rfl) M.isi (by decide +kernel) (pa_cons (pv 0) (pa_cons (pe_bltn (v := .ty "bool") (by rfl) M.bool (by decide +kernel) rfl) pa_nil)))
            (pe_callB (id := "isinstance") call_isi (by rfl) M.isi (by decide +kernel) (pa_cons (pv 1) (pa_cons (pe_bltn (v := .ty "bool") (by rfl) M.bool (by decide +kernel) rfl) pa_nil))) (nomark _))
        (pe_one (pe_cmpR op_eq (pv 0) (pv 1) (nomark _)))))))), ?_⟩
  refine ⟨_, rfl, (by show 2 ≤ sizeLine; decide), fun p hp => ?_⟩
  have s1 := same_new hp (.tup [V.ty "list", V.ty "tuple"])
  have plain : Plain x ∧ x = y ∨ ∃ m a b xs ys, n = m + 1 ∧ x = .ref a ∧ y = .ref b ∧ ((H a = some (.lst xs) ∧ H b = some (.lst ys)) ∨ (H a = some (.tup xs) ∧ H b = some (.tup ys))) ∧
      xs.length = ys.length ∧ xs.length ≤ 1000000 ∧ ∀ (i : Nat) (u v : V), xs[i]? = some u → ys[i]? = some v → Alike H m u v := by
    cases n with
    | zero => unfold Alike at hA; exact .inl hA
    | succ m =>
      unfold Alike at hA
      rcases hA with h | ⟨a, b, xs, ys, h⟩
      · exact .inl h
      · exact .inr ⟨m, a, b, xs, ys, rfl, h⟩
  rcases plain with ⟨px, rfl⟩ | ⟨m, a, b, xs, ys, rfl, rfl, rfl, kinds, hl, hz, each⟩
  · cases x with
    | int i =>
      refine ⟨_, p, _, _, [.type "list", .type "tuple"], false, rfl, upd_same, .cons (.ty _) (.cons (.ty _) .nil), .base (.int i), kit_lt (p := false) (r := false) (by decide +kernel) (by decide +kernel), false, rfl, iteF ?_⟩
      refine ⟨_, rfl, rfl, false, congrArg V.bl (decide_eq_false (fun z => nomatch z)), iteF ?_⟩
      refine ⟨_, rfl, _, _, _, _, false, rfl, .ty "str", .base (.int i), kitB_of (by decide +kernel), false, rfl, iteF ?_⟩
      refine ⟨_, rfl, _, _, _, _, true, rfl, .ty "int", .base (.int i), kitB_of (by decide +kernel), true, rfl, iteT ?_⟩
      refine ⟨_, rfl, _, _, _, _, false, rfl, .ty "bool", .base (.int i), kitB_of (by decide +kernel), _, rfl, _, _, _, _, false, rfl, .ty "bool", .base (.int i), kitB_of (by decide +kernel), rfl, true, congrArg V.bl (decide_eq_true rfl), iteT ?_⟩
      refine ⟨_, rfl, _, rfl, rfl, ?_⟩
      have e : decide (V.int i = V.int i) = true := decide_eq_true rfl
      rw [e]
      exact q _ s1
    | bl i =>
      refine ⟨_, p, _, _, [.type "list", .type "tuple"], false, rfl, upd_same, .cons (.ty _) (.cons (.ty _) .nil), .base (.bl i), kit_lt (p := false) (r := false) (by decide +kernel) (by decide +kernel), false, rfl, iteF ?_⟩
      refine ⟨_, rfl, rfl, false, congrArg V.bl (decide_eq_false (fun z => nomatch z)), iteF ?_⟩
      refine ⟨_, rfl, _, _, _, _, false, rfl, .ty "str", .base (.bl i), kitB_of (by decide +kernel), false, rfl, iteF ?_⟩
      refine ⟨_, rfl, _, _, _, _, true, rfl, .ty "int", .base (.bl i), kitB_of (by decide +kernel), true, rfl, iteT ?_⟩
      refine ⟨_, rfl, _, _, _, _, true, rfl, .ty "bool", .base (.bl i), kitB_of (by decide +kernel), _, rfl, _, _, _, _, true, rfl, .ty "bool", .base (.bl i), kitB_of (by decide +kernel), rfl, true, congrArg V.bl (decide_eq_true rfl), iteT ?_⟩
      refine ⟨_, rfl, _, rfl, rfl, ?_⟩
      have e : decide (V.bl i = V.bl i) = true := decide_eq_true rfl
      rw [e]
      exact q _ s1
    | str i =>
      refine ⟨_, p, _, _, [.type "list", .type "tuple"], false, rfl, upd_same, .cons (.ty _) (.cons (.ty _) .nil), .base (.str i), kit_lt (p := false) (r := false) (by decide +kernel) (by decide +kernel), false, rfl, iteF ?_⟩
      refine ⟨_, rfl, rfl, false, congrArg V.bl (decide_eq_false (fun z => nomatch z)), iteF ?_⟩
      refine ⟨_, rfl, _, _, _, _, true, rfl, .ty "str", .base (.str i), kitB_of (by decide +kernel), true, rfl, iteT ?_⟩
      refine ⟨_, rfl, _, rfl, rfl, true, congrArg V.bl (decide_eq_true rfl), iteT ?_⟩
      refine ⟨_, rfl, _, _, _, _, true, rfl, .ty "str", .base (.str i), kitB_of (by decide +kernel), _, rfl, _, _, _, _, true, rfl, .ty "str", .base (.str i), kitB_of (by decide +kernel), rfl, ?_⟩
      have e : decide (V.bl true = V.bl true) = true := decide_eq_true rfl
      rw [e]
      exact q _ s1
    | non =>
      refine ⟨_, p, _, _, [.type "list", .type "tuple"], false, rfl, upd_same, .cons (.ty _) (.cons (.ty _) .nil), .base .non, kit_lt (p := false) (r := false) (by decide +kernel) (by decide +kernel), false, rfl, iteF ?_⟩
      refine ⟨_, rfl, rfl, true, congrArg V.bl (decide_eq_true rfl), iteT ?_⟩
      refine iteT ?_
      refine ⟨_, rfl, _, rfl, rfl, true, congrArg V.bl (decide_eq_true rfl), iteT ?_⟩
      refine ⟨_, rfl, _, _, _, _, false, rfl, .ty "str", .base .non, kitB_of (by decide +kernel), _, rfl, _, _, _, _, false, rfl, .ty "str", .base .non, kitB_of (by decide +kernel), rfl, ?_⟩
      have e : decide (V.bl false = V.bl false) = true := decide_eq_true rfl
      rw [e]
      exact q _ s1
    | _ => exact px.elim
  · rcases kinds with ⟨ha, hb⟩ | ⟨ha, hb⟩
    · have ha1 := s1 _ _ ha
      have hb1 := s1 _ _ hb
      refine ⟨_, p, _, _, [.type "list", .type "tuple"], true, rfl, upd_same, .cons (.ty _) (.cons (.ty _) .nil), .base (.lst hb1), kit_lt (p := true) (r := false) (by decide +kernel) (by decide +kernel), true, rfl, iteT ?_⟩
      refine ⟨_, rfl, _, _, _, _, true, rfl, .ty "list", .base (.lst ha1), kitB_of (by decide +kernel), _, rfl, _, _, _, _, true, rfl, .ty "list", .base (.lst hb1), kitB_of (by decide +kernel), rfl, false, congrArg (fun z => V.bl (!z)) (decide_eq_true rfl), iteF ?_⟩
      refine ⟨_, rfl, _, _, _, _, false, rfl, .ty "tuple", .base (.lst ha1), kitB_of (by decide +kernel), _, rfl, _, _, _, _, false, rfl, .ty "tuple", .base (.lst hb1), kitB_of (by decide +kernel), rfl, false, congrArg (fun z => V.bl (!z)) (decide_eq_true rfl), iteF ?_⟩
      refine ⟨_, rfl, a, _, rfl, .inl (.inl (.inl ha1)), _, rfl, b, _, rfl, .inl (.inl (.inl hb1)), rfl, false, congrArg (fun z => V.bl (!z)) (decide_eq_true (by rw [hl])), iteF ?_⟩
      refine ⟨_, rfl, _, rfl, a, b, xs, ys, rfl, .inl ⟨.inl (.inl ha1), .inl (.inl hb1), fun D hD => ?_⟩⟩
      refine lc_pairs (J := Itz K a b) (xs := xs) (ys := ys) hl (fun i H2 => H2 D = some (.lst (List.replicate i (V.bl true))) ∧ Same _ H2)
        (fun H2 h => ⟨xs, ys, .inl (.inl (h.2 _ _ ha1)), .inl (.inl (h.2 _ _ hb1)), .inl (Nat.le_refl _)⟩)
        (fun i H2 lt h => ⟨xs, ys, xs[i], ys[i]'(by omega), .inl (.inl (h.2 _ _ ha1)), .inl (.inl (h.2 _ _ hb1)), List.getElem?_eq_getElem lt, List.getElem?_eq_getElem (by omega)⟩)
        (fun i H2 v H3 h ⟨T, u, v', e1, hT, e2, f1, f2⟩ => ⟨T, u, v', e1, f1 xs (.inl (.inl (h.2 _ _ ha1))), f2 ys (.inl (.inl (h.2 _ _ hb1))), hT, e2⟩)
        ⟨upd_same, same_new hD _⟩ (fun i u v T H2 hu hv h hT => ?_) (fun H2 h => ⟨D, List.replicate xs.length true, rfl, .inl (.inl (by rw [List.map_replicate]; exact h.1)), ?_⟩)
      · have sT := same_new hT (.tup [u, v])
        refine ⟨T, _, rfl, .inl (.inl upd_same), rfl, _, _, rfl, _, _, rfl, rfl, rfl, ?_⟩
        have lt : i < xs.length := (List.getElem?_eq_some_iff.mp hu).1
        refine ⟨_, rfl, _, rfl, u, v, m, rfl, rfl, Alike.mono (s1.trans (h.2.trans sT)) m (each i u v hu hv), fun H4 s4 => ⟨_, s4 _ _ (sT _ _ h.1), ?_, ?_, ?_⟩⟩
        · rw [List.length_replicate]; exact Nat.lt_of_lt_of_le (by omega : i < 1000000) (by decide)
        · rw [upd_same, List.replicate_succ']
        · intro c o z
          have nD : c ≠ D := fun e => by subst e; rw [hD] at z; cases z
          rw [upd_ne nD]
          exact s4 _ _ (sT _ _ (h.2 _ _ z))
      · have e : (List.replicate xs.length true).all id = true := by rw [List.all_eq_true]; intro x hx; rw [List.eq_of_mem_replicate hx]; rfl
        rw [e]
        exact q _ (s1.trans h.2)
    · have ha1 := s1 _ _ ha
      have hb1 := s1 _ _ hb
      refine ⟨_, p, _, _, [.type "list", .type "tuple"], true, rfl, upd_same, .cons (.ty _) (.cons (.ty _) .nil), .base (.tup hb1), kit_lt (p := false) (r := true) (by decide +kernel) (by decide +kernel), true, rfl, iteT ?_⟩
      refine ⟨_, rfl, _, _, _, _, false, rfl, .ty "list", .base (.tup ha1), kitB_of (by decide +kernel), _, rfl, _, _, _, _, false, rfl, .ty "list", .base (.tup hb1), kitB_of (by decide +kernel), rfl, false, congrArg (fun z => V.bl (!z)) (decide_eq_true rfl), iteF ?_⟩
      refine ⟨_, rfl, _, _, _, _, true, rfl, .ty "tuple", .base (.tup ha1), kitB_of (by decide +kernel), _, rfl, _, _, _, _, true, rfl, .ty "tuple", .base (.tup hb1), kitB_of (by decide +kernel), rfl, false, congrArg (fun z => V.bl (!z)) (decide_eq_true rfl), iteF ?_⟩
      refine ⟨_, rfl, a, _, rfl, .inr (.inl (.inl ha1)), _, rfl, b, _, rfl, .inr (.inl (.inl hb1)), rfl, false, congrArg (fun z => V.bl (!z)) (decide_eq_true (by rw [hl])), iteF ?_⟩
      refine ⟨_, rfl, _, rfl, a, b, xs, ys, rfl, .inr ⟨.inl (.inl ha1), .inl (.inl hb1), fun D hD => ?_⟩⟩
      refine lc_pairs (J := ItzT K a b) (xs := xs) (ys := ys) hl (fun i H2 => H2 D = some (.lst (List.replicate i (V.bl true))) ∧ Same _ H2)
        (fun H2 h => ⟨xs, ys, .inl (.inl (h.2 _ _ ha1)), .inl (.inl (h.2 _ _ hb1)), .inl (Nat.le_refl _)⟩)
        (fun i H2 lt h => ⟨xs, ys, xs[i], ys[i]'(by omega), .inl (.inl (h.2 _ _ ha1)), .inl (.inl (h.2 _ _ hb1)), List.getElem?_eq_getElem lt, List.getElem?_eq_getElem (by omega)⟩)
        (fun i H2 v H3 h ⟨T, u, v', e1, hT, e2, f1, f2⟩ => ⟨T, u, v', e1, f1 xs (.inl (.inl (h.2 _ _ ha1))), f2 ys (.inl (.inl (h.2 _ _ hb1))), hT, e2⟩)
        ⟨upd_same, same_new hD _⟩ (fun i u v T H2 hu hv h hT => ?_) (fun H2 h => ⟨D, List.replicate xs.length true, rfl, .inl (.inl (by rw [List.map_replicate]; exact h.1)), ?_⟩)
      · have sT := same_new hT (.tup [u, v])
        refine ⟨T, _, rfl, .inl (.inl upd_same), rfl, _, _, rfl, _, _, rfl, rfl, rfl, ?_⟩
        have lt : i < xs.length := (List.getElem?_eq_some_iff.mp hu).1
        refine ⟨_, rfl, _, rfl, u, v, m, rfl, rfl, Alike.mono (s1.trans (h.2.trans sT)) m (each i u v hu hv), fun H4 s4 => ⟨_, s4 _ _ (sT _ _ h.1), ?_, ?_, ?_⟩⟩
        · rw [List.length_replicate]; exact Nat.lt_of_lt_of_le (by omega : i < 1000000) (by decide)
        · rw [upd_same, List.replicate_succ']
        · intro c o z
          have nD : c ≠ D := fun e => by subst e; rw [hD] at z; cases z
          rw [upd_ne nD]
          exact s4 _ _ (sT _ _ (h.2 _ _ z))
      · have e : (List.replicate xs.length true).all id = true := by rw [List.all_eq_true]; intro x hx; rw [List.eq_of_mem_replicate hx]; rfl
        rw [e]
        exact q _ (s1.trans h.2)
theorem same_ok {f : Addr} {fd : FuncData} (F : Fun K "_law_same" "_law_same" sSame f fd) (b2 : Binds K fd ["_law_found", "_law_due"] []) (mF : mg "_law_same" = some (.ref f)) (M : SameG mg) :
    ∀ n : Nat, FnOk P w K mg base CX0 n f fd ["_law_found", "_law_due"] (spSame n)
  | 0 => none_left fun vs H Q E h => by
    obtain ⟨x, y, m, _, e, _⟩ := h
    omega
  | n + 1 => ok_same F b2 mF (same_ok F b2 mF M n) M
end
end Rp

/-! Data of any depth: what stands as which, and which data are TERMs. -/
namespace Rp
open PySem L2
/-- a tuple stands at a, plain or not -/
def TupAt (H : Hp) (a : Addr) (xs : List V) : Prop := H a = some (.tup xs) ∨ ∃ o, H a = some (.frz o (.tup xs))
theorem TupAt.same {H H' : Hp} {a : Addr} {xs : List V} (e : Same H H') (h : TupAt H a xs) : TupAt H' a xs := h.imp (fun q => e _ _ q) fun ⟨o, q⟩ => ⟨o, e _ _ q⟩
theorem TupAt.but {H H' : Hp} {b a : Addr} {ys xs : List V} (e : But b H H') (hb : H b = some (.lst ys)) (h : TupAt H a xs) : TupAt H' a xs :=
  h.imp (fun q => e _ _ q (ne_of q hb (by intro z; cases z))) fun ⟨o, q⟩ => ⟨o, e _ _ q (ne_of q hb (by intro z; cases z))⟩
mutual
/-- the value v stands as the data d; its lists are others than the box b -/
def DAt (H : Hp) (b : Addr) : V → PyData → Prop
  | v, .none => v = .non
  | v, .bool c => v = .bl c
  | v, .int i => v = .int i
  | v, .str x => v = .str x
  | v, .list ds => ∃ (a : Addr) (xs : List V), v = .ref a ∧ a ≠ b ∧ H a = some (.lst xs) ∧ DAtAll H b xs ds
  | v, .tuple ds => ∃ (a : Addr) (xs : List V), v = .ref a ∧ TupAt H a xs ∧ DAtAll H b xs ds
  | _, .dict _ => False
def DAtAll (H : Hp) (b : Addr) : List V → List PyData → Prop
  | xs, [] => xs = []
  | xs, d :: ds => ∃ (x : V) (r : List V), xs = x :: r ∧ DAt H b x d ∧ DAtAll H b r ds
end
mutual
theorem DAt.dp {K : PySem.W.Frag} {H : Hp} {b : Addr} : ∀ (d : PyData) {v : V}, DAt H b v d → Dp K H v d
  | .none, _, h => by unfold DAt at h; subst h; exact .non
  | .bool _, _, h => by unfold DAt at h; subst h; exact .bl _
  | .int _, _, h => by unfold DAt at h; subst h; exact .int _
  | .str _, _, h => by unfold DAt at h; subst h; exact .str _
  | .list ds, _, h => by
    unfold DAt at h
    obtain ⟨a, xs, rfl, _, e, q⟩ := h
    exact .lst (.inl (.inl e)) (DAtAll.dp ds q)
  | .tuple ds, _, h => by
    unfold DAt at h
    obtain ⟨a, xs, rfl, e, q⟩ := h
    exact .tup (.inl e) (DAtAll.dp ds q)
  | .dict _, _, h => by unfold DAt at h; exact h.elim
theorem DAtAll.dp {K : PySem.W.Frag} {H : Hp} {b : Addr} : ∀ (ds : List PyData) {xs : List V}, DAtAll H b xs ds → DpAll K H xs ds
  | [], _, h => by unfold DAtAll at h; subst h; exact .nil
  | d :: ds, _, h => by
    unfold DAtAll at h
    obtain ⟨x, r, rfl, q, q'⟩ := h
    exact .cons (DAt.dp d q) (DAtAll.dp ds q')
end
mutual
theorem DAt.mono {H H' : Hp} {b : Addr} (et : ∀ a xs, TupAt H a xs → TupAt H' a xs) (el : ∀ a xs, a ≠ b → H a = some (.lst xs) → H' a = some (.lst xs)) : ∀ (d : PyData) {v : V}, DAt H b v d → DAt H' b v d
  | .none, _, h => by unfold DAt at h ⊢; exact h
  | .bool _, _, h => by unfold DAt at h ⊢; exact h
  | .int _, _, h => by unfold DAt at h ⊢; exact h
  | .str _, _, h => by unfold DAt at h ⊢; exact h
  | .list ds, _, h => by
    unfold DAt at h ⊢
    obtain ⟨a, xs, e, n, q, q'⟩ := h
    exact ⟨a, xs, e, n, el _ _ n q, DAtAll.mono et el ds q'⟩
  | .tuple ds, _, h => by
    unfold DAt at h ⊢
    obtain ⟨a, xs, e, q, q'⟩ := h
    exact ⟨a, xs, e, et _ _ q, DAtAll.mono et el ds q'⟩
  | .dict _, _, h => by unfold DAt at h; exact h.elim
theorem DAtAll.mono {H H' : Hp} {b : Addr} (et : ∀ a xs, TupAt H a xs → TupAt H' a xs) (el : ∀ a xs, a ≠ b → H a = some (.lst xs) → H' a = some (.lst xs)) : ∀ (ds : List PyData) {xs : List V}, DAtAll H b xs ds → DAtAll H' b xs ds
  | [], _, h => by unfold DAtAll at h ⊢; exact h
  | d :: ds, _, h => by
    unfold DAtAll at h ⊢
    obtain ⟨x, r, e, q, q'⟩ := h
    exact ⟨x, r, e, DAt.mono et el d q, DAtAll.mono et el ds q'⟩
end
theorem DAt.same {H H' : Hp} {b : Addr} (e : Same H H') {d : PyData} {v : V} (h : DAt H b v d) : DAt H' b v d := DAt.mono (fun a _ q => q.same e) (fun a _ _ q => e a _ q) d h
theorem DAt.but {H H' : Hp} {b : Addr} {ys : List V} (e : But b H H') (hb : H b = some (.lst ys)) {d : PyData} {v : V} (h : DAt H b v d) : DAt H' b v d :=
  DAt.mono (fun a _ q => q.but e hb) (fun a _ n q => e a _ q n) d h
theorem DAtAll.same {H H' : Hp} {b : Addr} (e : Same H H') {ds : List PyData} {xs : List V} (h : DAtAll H b xs ds) : DAtAll H' b xs ds := DAtAll.mono (fun a _ q => q.same e) (fun a _ _ q => e a _ q) ds h
theorem DAtAll.but {H H' : Hp} {b : Addr} {ys : List V} (e : But b H H') (hb : H b = some (.lst ys)) {ds : List PyData} {xs : List V} (h : DAtAll H b xs ds) : DAtAll H' b xs ds :=
  DAtAll.mono (fun a _ q => q.but e hb) (fun a _ n q => e a _ q n) ds h
theorem DAtAll.nil {H : Hp} {b : Addr} : DAtAll H b [] [] := by unfold DAtAll; rfl
theorem DAtAll.cons {H : Hp} {b : Addr} {x : V} {xs : List V} {d : PyData} {ds : List PyData} (h : DAt H b x d) (h' : DAtAll H b xs ds) : DAtAll H b (x :: xs) (d :: ds) := by unfold DAtAll; exact ⟨x, xs, rfl, h, h'⟩
theorem DAtAll.head {H : Hp} {b : Addr} {x : V} {xs : List V} {ds : List PyData} (h : DAtAll H b (x :: xs) ds) : ∃ d ds', ds = d :: ds' ∧ DAt H b x d ∧ DAtAll H b xs ds' := by
  cases ds with
  | nil => unfold DAtAll at h; cases h
  | cons d ds =>
    unfold DAtAll at h
    obtain ⟨y, r, e, q, q'⟩ := h
    cases e
    exact ⟨d, ds, rfl, q, q'⟩
theorem DAtAll.len {H : Hp} {b : Addr} : ∀ {xs : List V} {ds : List PyData}, DAtAll H b xs ds → xs.length = ds.length
  | xs, [], h => by unfold DAtAll at h; subst h; rfl
  | xs, d :: ds, h => by
    unfold DAtAll at h
    obtain ⟨x, r, rfl, _, q⟩ := h
    rw [List.length_cons, List.length_cons, DAtAll.len q]
theorem DAtAll.append {H : Hp} {b : Addr} : ∀ {xs ys : List V} {ds es : List PyData}, DAtAll H b xs ds → DAtAll H b ys es → DAtAll H b (xs ++ ys) (ds ++ es)
  | xs, ys, [], es, h, h' => by unfold DAtAll at h; subst h; exact h'
  | xs, ys, d :: ds, es, h, h' => by
    unfold DAtAll at h
    obtain ⟨x, r, rfl, q, q'⟩ := h
    exact .cons q (DAtAll.append q' h')
theorem DAtAll.parted {H : Hp} {b : Addr} : ∀ {xs ys : List V} {ds : List PyData}, DAtAll H b (xs ++ ys) ds → ∃ d1 d2, ds = d1 ++ d2 ∧ DAtAll H b xs d1 ∧ DAtAll H b ys d2
  | [], ys, ds, h => ⟨[], ds, rfl, .nil, h⟩
  | x :: xs, ys, ds, h => by
    obtain ⟨d, ds', rfl, q, q'⟩ := DAtAll.head h
    obtain ⟨d1, d2, rfl, h1, h2⟩ := DAtAll.parted q'
    exact ⟨d :: d1, d2, rfl, .cons q h1, h2⟩
theorem DAtAll.take {H : Hp} {b : Addr} : ∀ {xs : List V} {ds : List PyData} (n : Nat), DAtAll H b xs ds → DAtAll H b (xs.take n) (ds.take n)
  | xs, ds, 0, h => by simp; exact .nil
  | [], ds, n + 1, h => by have := h.len; cases ds with | nil => simpa using DAtAll.nil | cons => simp at this
  | x :: xs, ds, n + 1, h => by
    obtain ⟨d, ds', rfl, q, q'⟩ := DAtAll.head h
    exact .cons q (DAtAll.take n q')
theorem DAtAll.drop {H : Hp} {b : Addr} : ∀ {xs : List V} {ds : List PyData} (n : Nat), DAtAll H b xs ds → DAtAll H b (xs.drop n) (ds.drop n)
  | xs, ds, 0, h => by simpa using h
  | [], ds, n + 1, h => by have := h.len; cases ds with | nil => simpa using DAtAll.nil | cons => simp at this
  | x :: xs, ds, n + 1, h => by
    obtain ⟨d, ds', rfl, q, q'⟩ := DAtAll.head h
    simpa using DAtAll.drop n q'
theorem DAtAll.back {H : Hp} {b : Addr} : ∀ {xs : List V} {ds : List PyData}, DAtAll H b xs ds → DAtAll H b xs.reverse ds.reverse
  | [], ds, h => by have := h.len; cases ds with | nil => simpa using DAtAll.nil | cons => simp at this
  | x :: xs, ds, h => by
    obtain ⟨d, ds', rfl, q, q'⟩ := DAtAll.head h
    rw [List.reverse_cons, List.reverse_cons]
    exact (DAtAll.back q').append (.cons q .nil)
theorem DAtAll.get {H : Hp} {b : Addr} : ∀ {xs : List V} {ds : List PyData} {i : Nat} {x : V}, DAtAll H b xs ds → xs[i]? = some x → ∃ d, ds[i]? = some d ∧ DAt H b x d
  | [], ds, i, x, h, e => by simp at e
  | y :: xs, ds, 0, x, h, e => by
    obtain ⟨d, ds', rfl, q, q'⟩ := DAtAll.head h
    simp at e
    subst e
    exact ⟨d, rfl, q⟩
  | y :: xs, ds, i + 1, x, h, e => by
    obtain ⟨d, ds', rfl, q, q'⟩ := DAtAll.head h
    simpa using DAtAll.get q' (by simpa using e)
/-! ### TERMs as data -/
def tmD : Tm → PyData
  | .v n => .int n
  | .z => .tuple [.str "0"]
  | .s t => .tuple [.str "s", tmD t]
  | .f l r => .tuple [.str "f", tmD l, tmD r]
theorem TmAt.dat {H : Hp} {b : Addr} {v : V} {t : Tm} (h : TmAt H v t) : DAt H b v (tmD t) := by
  induction h with
  | v n => unfold tmD DAt; rfl
  | z h => unfold tmD DAt; exact ⟨_, _, rfl, .inl h, .cons (by unfold DAt; rfl) .nil⟩
  | s h _ ih => unfold tmD DAt; exact ⟨_, _, rfl, .inl h, .cons (by unfold DAt; rfl) (.cons ih .nil)⟩
  | f h _ _ ih ih' => unfold tmD DAt; exact ⟨_, _, rfl, .inl h, .cons (by unfold DAt; rfl) (.cons ih (.cons ih' .nil))⟩
theorem DAtAll.nil_of {H : Hp} {b : Addr} {xs : List V} (h : DAtAll H b xs []) : xs = [] := by unfold DAtAll at h; exact h
theorem DAtAll.cons_of {H : Hp} {b : Addr} {xs : List V} {d : PyData} {ds : List PyData} (h : DAtAll H b xs (d :: ds)) : ∃ x r, xs = x :: r ∧ DAt H b x d ∧ DAtAll H b r ds := by unfold DAtAll at h; exact h
theorem DAt.str_of {H : Hp} {b : Addr} {v : V} {x : Str} (h : DAt H b v (.str x)) : v = .str x := by unfold DAt at h; exact h
theorem DAt.int_of {H : Hp} {b : Addr} {v : V} {x : Int} (h : DAt H b v (.int x)) : v = .int x := by unfold DAt at h; exact h
theorem DAt.tup_of {H : Hp} {b : Addr} {v : V} {ds : List PyData} (h : DAt H b v (.tuple ds)) : ∃ (a : Addr) (xs : List V), v = .ref a ∧ TupAt H a xs ∧ DAtAll H b xs ds := by unfold DAt at h; exact h
theorem DAt.lst_of {H : Hp} {b : Addr} {v : V} {ds : List PyData} (h : DAt H b v (.list ds)) : ∃ (a : Addr) (xs : List V), v = .ref a ∧ a ≠ b ∧ H a = some (.lst xs) ∧ DAtAll H b xs ds := by unfold DAt at h; exact h
def IsT (d : PyData) : Prop := ∃ t, d = tmD t ∧ ∀ n ∈ t.nums, 0 ≤ n ∧ n ≤ 99
/-- a sign with as many parts as it takes -/
def Shaped (d : PyData) : Prop := ∃ (x : Str) (ds : List PyData), d = .tuple (.str x :: ds) ∧ ((x = "0" ∧ ds.length = 0) ∨ (x = "s" ∧ ds.length = 1) ∨ (x = "f" ∧ ds.length = 2))
theorem isT_shaped {x : Str} {ds : List PyData} (h : (x = "0" ∧ ds.length = 0) ∨ (x = "s" ∧ ds.length = 1) ∨ (x = "f" ∧ ds.length = 2)) : IsT (.tuple (.str x :: ds)) ↔ ∀ d ∈ ds, IsT d := by
  have s0 : ("0" : Str) ≠ "s" := by decide +kernel
  have s1 : ("0" : Str) ≠ "f" := by decide +kernel
  have s2 : ("s" : Str) ≠ "f" := by decide +kernel
  rcases h with ⟨rfl, h⟩ | ⟨rfl, h⟩ | ⟨rfl, h⟩
  · match ds, h with
    | [], _ => exact ⟨fun _ d hd => by simp at hd, fun _ => ⟨.z, rfl, fun n hn => by simp [Tm.nums] at hn⟩⟩
  · match ds, h with
    | [d], _ =>
      constructor
      · rintro ⟨t, e, g⟩ d' hd
        simp at hd
        subst hd
        cases t with
        | s t => unfold tmD at e; injection e with e; injection e with _ e; injection e with e _; exact ⟨t, e, g⟩
        | v n => cases e
        | z => unfold tmD at e; injection e with e; injection e with e _; injection e with e; exact absurd e.symm s0
        | f l r => unfold tmD at e; injection e with e; injection e with e _; injection e with e; exact absurd e s2
      · intro h
        obtain ⟨t, rfl, g⟩ := h d (by simp)
        exact ⟨.s t, rfl, g⟩
  · match ds, h with
    | [d, d'], _ =>
      constructor
      · rintro ⟨t, e, g⟩ d2 hd
        cases t with
        | f l r =>
          unfold tmD at e
          injection e with e
          injection e with _ e
          injection e with e1 e
          injection e with e2 _
          simp at hd
          rcases hd with rfl | rfl
          · exact ⟨l, e1, fun n hn => g n (by simp [Tm.nums, hn])⟩
          · exact ⟨r, e2, fun n hn => g n (by simp [Tm.nums, hn])⟩
        | v n => cases e
        | z => unfold tmD at e; injection e with e; injection e with e _; injection e with e; exact absurd e.symm s1
        | s t => unfold tmD at e; injection e with e; injection e with e _; injection e with e; exact absurd e.symm s2
      · intro h
        obtain ⟨l, rfl, g1⟩ := h d (by simp)
        obtain ⟨r, rfl, g2⟩ := h d' (by simp)
        refine ⟨.f l r, rfl, fun n hn => ?_⟩
        rcases List.mem_append.mp hn with q | q
        · exact g1 n q
        · exact g2 n q
theorem isT_int {n : Int} : IsT (.int n) ↔ 0 ≤ n ∧ n ≤ 99 := by
  constructor
  · rintro ⟨t, e, g⟩
    cases t with
    | v m => unfold tmD at e; injection e with e; subst e; exact g _ (by simp [Tm.nums])
    | z => cases e
    | s t => cases e
    | f l r => cases e
  · intro h
    exact ⟨.v n, rfl, fun m hm => by simp [Tm.nums] at hm; subst hm; exact h⟩
theorem isT_other {d : PyData} (h : ¬ Shaped d) (h' : ∀ n, d ≠ .int n) : ¬ IsT d := by
  rintro ⟨t, rfl, g⟩
  cases t with
  | v n => exact h' n rfl
  | z => exact h ⟨"0", [], rfl, .inl ⟨rfl, rfl⟩⟩
  | s t => exact h ⟨"s", [_], rfl, .inr (.inl ⟨rfl, rfl⟩)⟩
  | f l r => exact h ⟨"f", [_, _], rfl, .inr (.inr ⟨rfl, rfl⟩)⟩
end Rp

namespace Rp
open PySem PySem.Spec PyProof.Rows L2
def tyD : PyData → String
  | .none => "NoneType" | .bool _ => "bool" | .int _ => "int" | .str _ => "str" | .list _ => "list" | .tuple _ => "tuple" | .dict _ => "dict"
theorem DAt.tyx {K : PySem.W.Frag} {H : Hp} {b : Addr} {v : V} {d : PyData} (h : DAt H b v d) : TyX K H v (.type (tyD d)) := by
  cases d with
  | none => unfold DAt at h; subst h; exact .base .non
  | bool c => unfold DAt at h; subst h; exact .base (.bl c)
  | int i => unfold DAt at h; subst h; exact .base (.int i)
  | str x => unfold DAt at h; subst h; exact .base (.str x)
  | list ds => obtain ⟨a, xs, rfl, _, e, _⟩ := h.lst_of; exact .base (.lst e)
  | tuple ds => obtain ⟨a, xs, rfl, e, _⟩ := h.tup_of; rcases e with e | ⟨o, e⟩; exact .base (.tup e); exact .fTuple e
  | dict ds => unfold DAt at h; exact h.elim
def isI : PyData → Bool | .int _ => true | .bool _ => true | _ => false
def isB : PyData → Bool | .bool _ => true | _ => false
def isS : PyData → Bool | .str _ => true | _ => false
def isU : PyData → Bool | .tuple _ => true | _ => false
def isL : PyData → Bool | .list _ => true | _ => false
def isNum : PyData → Bool | .int _ => true | _ => false
section
variable {K : PySem.W.Frag}
theorem kitI (d : PyData) : PySem.W.kitOne K (.type (tyD d)) (.type "int") = some (isI d) := by cases d <;> exact kit_ty (by simp only [tyD, isI]; decide +kernel)
theorem kitB' (d : PyData) : PySem.W.kitOne K (.type (tyD d)) (.type "bool") = some (isB d) := by cases d <;> exact kit_ty (by simp only [tyD, isB]; decide +kernel)
theorem kitS (d : PyData) : PySem.W.kitOne K (.type (tyD d)) (.type "str") = some (isS d) := by cases d <;> exact kit_ty (by simp only [tyD, isS]; decide +kernel)
theorem kitU (d : PyData) : PySem.W.kitOne K (.type (tyD d)) (.type "tuple") = some (isU d) := by cases d <;> exact kit_ty (by simp only [tyD, isU]; decide +kernel)
theorem kitL (d : PyData) : PySem.W.kitOne K (.type (tyD d)) (.type "list") = some (isL d) := by cases d <;> exact kit_ty (by simp only [tyD, isL]; decide +kernel)
end
def okD (d : PyData) : Prop := d.canLay0 = true ∧ d.depth ≤ 60
theorem okAll {ds : List PyData} (h : PyData.canLayAll0 ds = true) (k : Nat) (hk : PyData.depthAll ds ≤ k) : ∀ d ∈ ds, d.canLay0 = true ∧ d.depth ≤ k := by
  induction ds with
  | nil => intro d hd; simp at hd
  | cons x ds ih =>
    simp only [PyData.canLayAll0, Bool.and_eq_true] at h
    simp only [PyData.depthAll] at hk
    intro d hd
    rcases List.mem_cons.mp hd with rfl | hd
    · exact ⟨h.1, by omega⟩
    · exact ih h.2 (by omega) d hd
theorem okD.tup {ds : List PyData} (h : okD (.tuple ds)) : ∀ d ∈ ds, okD d := fun d hd => by
  have h1 : PyData.canLayAll0 ds = true := by have := h.1; simpa [PyData.canLay0] using this
  have h2 : PyData.depthAll ds + 1 ≤ 60 := by have := h.2; simpa [PyData.depth] using this
  have := okAll h1 59 (by omega) d hd
  exact ⟨this.1, by omega⟩
theorem eqv_str {x : Str} {d : PyData} : PyData.eqv (.str x) d = true ↔ d = .str x := by
  cases d <;> simp [PyData.eqv]
  exact eq_comm
theorem eqv_tup {xs ys : List PyData} : PyData.eqv (.tuple xs) (.tuple ys) = PyData.eqvAll xs ys := by simp only [PyData.eqv]
theorem eqv_int {i j : Int} : PyData.eqv (.int i) (.int j) = (i == j) := by simp only [PyData.eqv]
theorem eqvAll_cons {x y : PyData} {xs ys : List PyData} : PyData.eqvAll (x :: xs) (y :: ys) = (PyData.eqv x y && PyData.eqvAll xs ys) := by simp only [PyData.eqvAll]
theorem eqvAll_nil : PyData.eqvAll [] [] = true := by simp only [PyData.eqvAll]
theorem hu65 {A : Around} {k : Nat} (hr : Room k A) : A.units + 65 < cLine := by have := hr.un; omega
def shapesD : PyData := .tuple [.tuple [.str "0", .int 1], .tuple [.str "s", .int 2], .tuple [.str "f", .int 3]]
def shapesL : List PyData := [.tuple [.str "0", .int 1], .tuple [.str "s", .int 2], .tuple [.str "f", .int 3]]
theorem shapes_any {d0 : PyData} {ds : List PyData} : (shapesL.any fun y => PyData.eqv y (.tuple [d0, .int ((ds.length + 1 : Nat) : Int)])) = true ↔ Shaped (.tuple (d0 :: ds)) := by
  have one : ∀ (x : Str) (n : Int), PyData.eqv (.tuple [.str x, .int n]) (.tuple [d0, .int ((ds.length + 1 : Nat) : Int)]) = true ↔ d0 = .str x ∧ n = ((ds.length + 1 : Nat) : Int) := by
    intro x n
    rw [eqv_tup, eqvAll_cons, eqvAll_cons, eqvAll_nil, eqv_int]
    simp only [Bool.and_true, Bool.and_eq_true, eqv_str, beq_iff_eq]
  simp only [shapesL, List.any_cons, List.any_nil, Bool.or_false, Bool.or_eq_true, one]
  constructor
  · rintro (⟨rfl, e⟩ | ⟨rfl, e⟩ | ⟨rfl, e⟩)
    · exact ⟨"0", ds, rfl, .inl ⟨rfl, by omega⟩⟩
    · exact ⟨"s", ds, rfl, .inr (.inl ⟨rfl, by omega⟩)⟩
    · exact ⟨"f", ds, rfl, .inr (.inr ⟨rfl, by omega⟩)⟩
  · rintro ⟨x, ds', e, h⟩
    injection e with e
    injection e with e1 e2
    subst e1 e2
    rcases h with ⟨rfl, h⟩ | ⟨rfl, h⟩ | ⟨rfl, h⟩
    · exact .inl ⟨rfl, by omega⟩
    · exact .inr (.inl ⟨rfl, by omega⟩)
    · exact .inr (.inr ⟨rfl, by omega⟩)
/-- x in t, t a tuple of data of any depth -/
def rInT (K : PySem.W.Frag) : R2 := fun x y H Q => ∃ (d : PyData) (ds : List PyData), Dp K H x d ∧ Dp K H y (.tuple ds) ∧ SeqAt.shaped d = true ∧ SeqAt.shaped (.tuple ds) = true ∧ Q (.bl (ds.any fun y => PyData.eqv y d)) H
section
variable {X : Cx}
theorem op_inT (hu : X.A.units + 65 < cLine) : OpR X (compareOp .In) (rInT X.K) := by
  intro pins s σ H x y v u Q I rx ry h
  obtain ⟨d, ds, hd, he, sd, se, q⟩ := h
  obtain ⟨as, r1⟩ := Dp.reads I d x v hd rx
  obtain ⟨bs, r2⟩ := Dp.reads I (.tuple ds) y u he ry
  exact SeqAt.in_tuple_reads r2 r1 (SeqAt.canLay_of_shaped se) (SeqAt.canLay_of_shaped sd) (room_in_shaped sd hu) ⟨.bl _, H, I, rfl, q⟩
end
theorem shaped_of {d : PyData} (h : d.canLay0 = true) (h' : d.depth ≤ 64) : SeqAt.shaped d = true := by
  show (d.canLay0 && decide (d.depth ≤ 64)) = true
  rw [h, decide_eq_true h']
  rfl
def spNumber : Sp := fun vs H Q _ => ∃ (b : Addr) (v : V) (d : PyData), vs = [v] ∧ DAt H b v d ∧ Q (.bl (isNum d)) H
def isVar : PyData → Bool | .int n => decide (0 ≤ n) && decide (n ≤ 99) | _ => false
def spVariable : Sp := fun vs H Q _ => ∃ (b : Addr) (v : V) (d : PyData), vs = [v] ∧ DAt H b v d ∧ Q (.bl (isVar d)) H
def spShape : Sp := fun vs H Q _ => ∃ (b : Addr) (v : V) (d : PyData), vs = [v] ∧ DAt H b v d ∧ okD d ∧ ∀ (r : Bool) (H' : Hp), (r = true ↔ Shaped d) → Same H H' → Q (.bl r) H'
section
variable {P : Program} {w : World} {K : PySem.W.Frag} {mg : Str → Option Value} {base : Heap}
theorem scNumber : FnScope ["thing"] ["thing"] (defScope sNumber) := ⟨rfl, rfl, rfl, by decide +kernel, rfl, by decide +kernel, by decide +kernel⟩
theorem ok_number {f : Addr} {fd : FuncData} (F : Fun K "is_number" "is_number" sNumber f fd) (M : SameG mg) : FnOk P w K mg base CX0 1 f fd ["thing"] spNumber := by
  refine F.ok scNumber (fun vs H Q E h => ?_) (fun cdv A outer s H vs Q E hr h => ?_)
  · obtain ⟨b, v, d, rfl, _⟩ := h
    rfl
  obtain ⟨b, v, d, rfl, D, q⟩ := h
  refine ⟨_, pss_one (ps_ret (pe_and (pe_callB (id := "isinstance") call_isi (by rfl) M.isi (by decide +kernel) (pa_cons (pv 0) (pa_cons (pe_bltn (v := .ty "int") (by rfl) M.int (by decide +kernel) rfl) pa_nil)))
    (pe_one (pe_not (pe_callB (id := "isinstance") call_isi (by rfl) M.isi (by decide +kernel) (pa_cons (pv 0) (pa_cons (pe_bltn (v := .ty "bool") (by rfl) M.bool (by decide +kernel) rfl) pa_nil))))))), ?_⟩
  refine ⟨_, rfl, _, _, _, _, isI d, rfl, .ty "int", D.tyx, kitI d, isI d, rfl, ?_⟩
  have second : (fun (σ : L2.St) => isI d = true → isB d = !(isNum d)) [] := by cases d <;> simp [isI, isB, isNum]
  have first : isI d = false → isNum d = false := by cases d <;> simp [isI, isNum]
  cases e : isI d with
  | false => exact iteF (by have z := first e; rw [z] at q; exact q)
  | true =>
    refine iteT ⟨_, rfl, _, _, _, _, isB d, rfl, .ty "bool", D.tyx, kitB' d, isB d, rfl, ?_⟩
    have z := second e
    rw [z]
    simpa using q
theorem scVariable : FnScope ["thing"] ["thing"] (defScope sVariable) := ⟨rfl, rfl, rfl, by decide +kernel, rfl, by decide +kernel, by decide +kernel⟩
theorem ok_variable {f fN : Addr} {fd fdN : FuncData} {tk : Tok} (F : Fun K "is_variable" "is_variable" sVariable f fd) (GN : FnOk P w K mg base CX0 1 fN fdN ["thing"] spNumber) (kN : PySem.W.keepIn K (.ref fN) = true) (bN : Binds K fdN ["thing"] []) (mN : mg "is_number" = some (.ref fN))
    (mLast : mg "LAST_VARIABLE" = some (.int 99 tk)) : FnOk P w K mg base CX0 2 f fd ["thing"] spVariable := by
  refine F.ok scVariable (fun vs H Q E h => ?_) (fun cdv A outer s H vs Q E hr h => ?_)
  · obtain ⟨b, v, d, rfl, _⟩ := h
    rfl
  obtain ⟨b, v, d, rfl, D, q⟩ := h
  refine ⟨_, pss_one (ps_ret (pe_and (pe_call GN hr rfl mN kN bN .nil pass0 (pa_cons (pv 0) pa_nil)) (pe_one (pe_chain op_le op_le pe_int (pv 0) (pe_glob (v := .int 99) rfl mLast ⟨_, rfl⟩))))), ?_⟩
  refine ⟨_, rfl, b, v, d, rfl, D, isNum d, rfl, ?_⟩
  cases d with
  | int n =>
    have ev := D.int_of
    subst ev
    refine iteT ⟨_, rfl, _, _, rfl, rfl, decide (0 ≤ n), rfl, ?_⟩
    cases e : decide (0 ≤ n) with
    | false => exact iteF (by simpa [isVar, e] using q)
    | true => exact iteT ⟨_, _, rfl, rfl, by simpa [isVar, e] using q⟩
  | _ => exact iteF q
theorem scShape : FnScope ["thing"] ["thing"] (defScope sShape) := ⟨rfl, rfl, rfl, by decide +kernel, rfl, by decide +kernel, by decide +kernel⟩
theorem ok_shape {f aS : Addr} {fd : FuncData} (F : Fun K "_has_shape" "_has_shape" sShape f fd) (M : SameG mg) (mS : mg "SHAPES" = some (.ref aS)) (hS : ∀ H, Dp K H (.ref aS) shapesD) : FnOk P w K mg base CX0 1 f fd ["thing"] spShape := by
  refine F.ok scShape (fun vs H Q E h => ?_) (fun cdv A outer s H vs Q E hr h => ?_)
  · obtain ⟨b, v, d, rfl, _⟩ := h
    rfl
  obtain ⟨b, v, d, rfl, D, ok, q⟩ := h
  refine ⟨_, pss_cons (ps_if (PW.pt (pw_or (pt_not (pt_val (pe_callB (id := "isinstance") call_isi (by rfl) M.isi (by decide +kernel) (pa_cons (pv 0) (pa_cons (pe_bltn (v := .ty "tuple") (by rfl) M.tuple (by decide +kernel) rfl) pa_nil)))))
      (pw_or1 (pt_not (pt_truth (pv 0) (by intro _; rfl)))))) (pss_one (ps_ret pe_bl)) pss_nil)
    (pss_one (ps_ret (pe_cmpR (op_inT (hu65 hr)) (pe_tup (pa_cons (pe_ix ix_tup (pv 0) pe_int (fun _ _ => rfl)) (pa_cons (pe_callB call_len_seq (by rfl) M.len PySem.boot_len (pa_cons (pv 0) pa_nil)) pa_nil))) (pe_glob (v := .ref aS) rfl mS rfl) (by rfl)))), ?_⟩
  refine ⟨_, rfl, _, _, _, _, isU d, rfl, .ty "tuple", D.tyx, kitU d, isU d, rfl, ?_⟩
  cases d with
  | tuple ds =>
    obtain ⟨a, xs, rfl, ha, A'⟩ := D.tup_of
    refine iteF ⟨_, rfl, !xs.isEmpty, .inr (.inl ⟨xs, .inl ha, rfl⟩), ?_⟩
    cases xs with
    | nil =>
      refine iteT (q false H ⟨(fun e => nomatch e), ?_⟩ (Same.refl H))
      rintro ⟨x, ds', e, _⟩
      injection e with e
      subst e
      have := A'.len
      simp at this
    | cons x0 xr =>
      obtain ⟨d0, dr, rfl, D0, Dr⟩ := A'.head
      have el := Dr.len
      refine iteF ⟨_, rfl, a, _, _, _, rfl, rfl, .inl ha, at_of (j := 0) rfl rfl, _, rfl, a, _, rfl, .inr (.inl ha), (by show 2 ≤ sizeLine; decide), fun p hp => ?_⟩
      have s1 := same_new hp (.tup [x0, .int (((x0 :: xr).length : Nat) : Int)])
      have o0 := ok.tup d0 (by simp)
      refine ⟨.tuple [d0, .int ((dr.length + 1 : Nat) : Int)], shapesL, .tup (.inl (.inl upd_same)) (.cons (D0.same s1).dp (.cons ?_ .nil)), hS _, ?_, by decide +kernel, ?_⟩
      · rw [List.length_cons, el]; exact .int _
      · refine shaped_of ?_ ?_
        · simp [PyData.canLay0, PyData.canLayAll0, o0.1]
        · have := o0.2
          simp only [PyData.depth, PyData.depthAll]
          omega
      · exact q _ _ shapes_any s1
  | _ => exact iteT (q false H ⟨(fun e => nomatch e), (fun ⟨x, ds', e, _⟩ => nomatch e)⟩ (Same.refl H))
end
end Rp

/-! Data of small ints and a few short texts: how large they are, what is said of them. -/
namespace Rp
open PySem PySem.Spec PyProof.Rows L2
def okText (x : Str) : Prop := x = "" ∨ x = "0" ∨ x = "s" ∨ x = "f" ∨ x = "x" ∨ x = "g" ∨ x = "x0"
mutual
def fine (U : List Int) : PyData → Prop
  | .none => True | .bool _ => True | .int i => i ∈ U | .str x => okText x | .list ds => fineAll U ds | .tuple ds => fineAll U ds | .dict _ => False
def fineAll (U : List Int) : List PyData → Prop
  | [] => True
  | d :: ds => fine U d ∧ fineAll U ds
end
mutual
def nd : PyData → Nat
  | .list ds => ndAll ds + 1 | .tuple ds => ndAll ds + 1 | _ => 1
def ndAll : List PyData → Nat
  | [] => 0
  | d :: ds => nd d + ndAll ds
end
theorem nd_pos (d : PyData) : 1 ≤ nd d := by cases d <;> simp [nd]
theorem ndAll_append : ∀ a b : List PyData, ndAll (a ++ b) = ndAll a + ndAll b
  | [], b => by simp [ndAll]
  | x :: a, b => by simp only [List.cons_append, ndAll, ndAll_append a b]; omega
theorem ndAll_mem : ∀ {ds : List PyData} {d : PyData}, d ∈ ds → nd d ≤ ndAll ds
  | x :: ds, d, h => by
    simp only [ndAll]
    rcases List.mem_cons.mp h with rfl | h
    · omega
    · have := ndAll_mem h; omega
theorem ndAll_len : ∀ ds : List PyData, ds.length ≤ ndAll ds
  | [] => Nat.le_refl _
  | d :: ds => by have := ndAll_len ds; have := nd_pos d; simp only [ndAll, List.length_cons]; omega
theorem fineAll_iff {U : List Int} : ∀ {ds : List PyData}, fineAll U ds ↔ ∀ d ∈ ds, fine U d
  | [] => by simp [fineAll]
  | d :: ds => by simp only [fineAll, fineAll_iff (ds := ds), List.forall_mem_cons]
theorem depthAll_iff {k : Nat} : ∀ {ds : List PyData}, PyData.depthAll ds ≤ k ↔ ∀ d ∈ ds, d.depth ≤ k
  | [] => by simp [PyData.depthAll]
  | d :: ds => by simp only [PyData.depthAll, List.forall_mem_cons, ← depthAll_iff (ds := ds)]; omega
theorem okText_lay {x : Str} (h : okText x) : PyData.canLay0 (.str x) = true ∧ x.cps.size ≤ 2 := by
  rcases h with rfl | rfl | rfl | rfl | rfl | rfl | rfl <;> exact ⟨by decide +kernel, by decide +kernel⟩
/-- the few ints of a row of data -/
structure Few (U : List Int) : Prop where
  le : ∀ i ∈ U, -1 ≤ i ∧ i ≤ 100
  len : U.length ≤ 20
mutual
theorem fine_lay {U : List Int} (hU : Few U) : ∀ d : PyData, fine U d → d.canLay0 = true ∧ d.showable = true ∧ d.intsShort 13 = true ∧ d.hasDict = false ∧ d.weight + 1 ≤ 110 * nd d
  | .none, _ => ⟨rfl, rfl, rfl, rfl, by decide⟩
  | .bool b, _ => ⟨rfl, rfl, rfl, rfl, by simp [PyData.weight, nd]⟩
  | .int i, h => by
    have h : -1 ≤ i ∧ i ≤ 100 := hU.le i h
    have a : i.natAbs ≤ 100 := by omega
    have b := Nat.log2_le_self i.natAbs
    refine ⟨rfl, ?_, ?_, rfl, ?_⟩
    · simp only [PyData.showable, decide_eq_true_eq]; omega
    · simp only [PyData.intsShort, decide_eq_true_eq]; exact PyData.shown_int_le (by omega)
    · simp only [PyData.weight, nd]; split <;> omega
  | .str x, h => by
    have z := okText_lay h
    refine ⟨z.1, rfl, rfl, rfl, ?_⟩
    simp only [PyData.weight, nd]
    omega
  | .list ds, h => by
    have z := fine_layAll hU ds h
    simp only [PyData.canLay0, PyData.showable, PyData.intsShort, PyData.hasDict, PyData.weight, nd]
    refine ⟨z.1, z.2.1, z.2.2.1, z.2.2.2.1, by omega⟩
  | .tuple ds, h => by
    have z := fine_layAll hU ds h
    simp only [PyData.canLay0, PyData.showable, PyData.intsShort, PyData.hasDict, PyData.weight, nd]
    refine ⟨z.1, z.2.1, z.2.2.1, z.2.2.2.1, by omega⟩
  | .dict _, h => h.elim
theorem fine_layAll {U : List Int} (hU : Few U) : ∀ ds : List PyData, fineAll U ds → PyData.canLayAll0 ds = true ∧ PyData.showableAll ds = true ∧ PyData.intsShortAll 13 ds = true ∧ PyData.hasDictAll ds = false ∧ PyData.weightAll ds ≤ 110 * ndAll ds
  | [], _ => ⟨rfl, rfl, rfl, rfl, by decide⟩
  | d :: ds, h => by
    have h : fine U d ∧ fineAll U ds := h
    have a := fine_lay hU d h.1
    have b := fine_layAll hU ds h.2
    simp only [PyData.canLayAll0, PyData.showableAll, PyData.intsShortAll, PyData.hasDictAll, PyData.weightAll, ndAll, Bool.and_eq_true, Bool.or_eq_false_iff]
    exact ⟨⟨a.1, b.1⟩, ⟨a.2.1, b.2.1⟩, ⟨a.2.2.1, b.2.2.1⟩, ⟨a.2.2.2.1, b.2.2.2.1⟩, by omega⟩
end
/-- fine, of at most n nodes, at most k deep -/
structure Good (U : List Int) (n k : Nat) (d : PyData) : Prop where
  fine : fine U d
  nd : nd d ≤ n
  dp : d.depth ≤ k
theorem Good.more {U : List Int} {n k n' k' : Nat} {d : PyData} (h : Good U n k d) (hn : n ≤ n') (hk : k ≤ k') : Good U n' k' d := ⟨h.fine, by have := h.nd; omega, by have := h.dp; omega⟩
theorem Good.ok {U : List Int} (hU : Few U) {n k : Nat} {d : PyData} (h : Good U n k d) (hk : k ≤ 60) : okD d := ⟨(fine_lay hU d h.fine).1, by have := h.dp; omega⟩
theorem Good.shown {U : List Int} (hU : Few U) {n k : Nat} {d : PyData} (h : Good U n k d) (hn : n ≤ 9000) (hk : k ≤ 60) : d.showable = true ∧ d.hasDict = false ∧ d.depth ≤ 64 ∧ d.shown.length ≤ 15728653 := by
  obtain ⟨h1, h2, h3, h4, h5⟩ := fine_lay hU d h.fine
  have n1 := h.nd
  have k1 := h.dp
  refine ⟨h2, h4, by omega, shown_le13 ?_ h3⟩
  unfold PyData.layable0
  rw [h1, decide_eq_true (by omega : d.depth ≤ 64), decide_eq_true (by omega : d.weight ≤ 2 ^ 20)]
  rfl
theorem Good.tup {U : List Int} {n k : Nat} {ds : List PyData} (h : Good U n k (.tuple ds)) : (∀ d ∈ ds, Rp.fine U d) ∧ ndAll ds + 1 ≤ n ∧ ∀ d ∈ ds, d.depth + 1 ≤ k := by
  refine ⟨fineAll_iff.mp h.fine, by simpa [Rp.nd] using h.nd, fun d hd => ?_⟩
  have k1 : PyData.depthAll ds + 1 ≤ k := by simpa [PyData.depth] using h.dp
  have := depthAll_iff.mp (Nat.le_refl (PyData.depthAll ds)) d hd
  omega
theorem Good.lst {U : List Int} {n k : Nat} {ds : List PyData} (h : Good U n k (.list ds)) : (∀ d ∈ ds, Rp.fine U d) ∧ ndAll ds + 1 ≤ n ∧ ∀ d ∈ ds, d.depth + 1 ≤ k := by
  refine ⟨fineAll_iff.mp h.fine, by simpa [Rp.nd] using h.nd, fun d hd => ?_⟩
  have k1 : PyData.depthAll ds + 1 ≤ k := by simpa [PyData.depth] using h.dp
  have := depthAll_iff.mp (Nat.le_refl (PyData.depthAll ds)) d hd
  omega
theorem good_lst {U : List Int} {n k : Nat} {ds : List PyData} (h : ∀ d ∈ ds, fine U d) (hn : ndAll ds + 1 ≤ n) (hk : ∀ d ∈ ds, d.depth + 1 ≤ k) (k1 : 1 ≤ k) : Good U n k (.list ds) := by
  refine ⟨fineAll_iff.mpr h, by simpa [Rp.nd] using hn, ?_⟩
  have : PyData.depthAll ds ≤ k - 1 := depthAll_iff.mpr fun d hd => by have := hk d hd; omega
  simp only [PyData.depth]
  omega
theorem good_tup {U : List Int} {n k : Nat} {ds : List PyData} (h : ∀ d ∈ ds, fine U d) (hn : ndAll ds + 1 ≤ n) (hk : ∀ d ∈ ds, d.depth + 1 ≤ k) (k1 : 1 ≤ k) : Good U n k (.tuple ds) := by
  refine ⟨fineAll_iff.mpr h, by simpa [Rp.nd] using hn, ?_⟩
  have : PyData.depthAll ds ≤ k - 1 := depthAll_iff.mpr fun d hd => by have := hk d hd; omega
  simp only [PyData.depth]
  omega
/-- a TERM's data are good -/
theorem tm_good {U : List Int} : ∀ t : Tm, (∀ n ∈ t.nums, n ∈ U) → Good U (2 * t.size) (t.deep + 1) (tmD t)
  | .v n, h => ⟨h n (by simp [Tm.nums]), by simp [tmD, Rp.nd, Tm.size], by simp [tmD, PyData.depth]⟩
  | .z, _ => ⟨⟨.inr (.inl rfl), trivial⟩, by simp [tmD, Rp.nd, ndAll, Tm.size], by simp [tmD, PyData.depth, PyData.depthAll]⟩
  | .s t, h => by
    have g := tm_good t h
    have h1 := g.nd
    have h2 := g.dp
    unfold tmD
    refine good_tup (fun d hd => ?_) ?_ (fun d hd => ?_) (by omega)
    · simp at hd; rcases hd with rfl | rfl
      · exact .inr (.inr (.inl rfl))
      · exact g.fine
    · simp only [ndAll, Rp.nd, Tm.size]; omega
    · simp at hd; rcases hd with rfl | rfl
      · simp [PyData.depth, Tm.deep]
      · simp only [Tm.deep]; omega
  | .f l r, h => by
    have g := tm_good l fun n hn => h n (by simp [Tm.nums, hn])
    have g' := tm_good r fun n hn => h n (by simp [Tm.nums, hn])
    have h1 := g.nd
    have h2 := g.dp
    have h3 := g'.nd
    have h4 := g'.dp
    unfold tmD
    refine good_tup (fun d hd => ?_) ?_ (fun d hd => ?_) (by omega)
    · simp at hd; rcases hd with rfl | rfl | rfl
      · exact .inr (.inr (.inr (.inl rfl)))
      · exact g.fine
      · exact g'.fine
    · simp only [ndAll, Rp.nd, Tm.size]; omega
    · simp at hd; rcases hd with rfl | rfl | rfl
      · simp [PyData.depth, Tm.deep]
      · simp only [Tm.deep]; omega
      · simp only [Tm.deep]; omega
/-- ints of a TERM among the data's -/
theorem tm_fine {U : List Int} : ∀ t : Tm, fine U (tmD t) → ∀ n ∈ t.nums, n ∈ U
  | .v n, h, m, hm => by simp [Tm.nums] at hm; subst hm; exact h
  | .z, h, m, hm => by simp [Tm.nums] at hm
  | .s t, h, m, hm => tm_fine t h.2.1 m hm
  | .f l r, h, m, hm => by
    rcases List.mem_append.mp hm with q | q
    · exact tm_fine l h.2.1 m q
    · exact tm_fine r h.2.2.1 m q
theorem nodup_le : ∀ {L U : List Int}, L.Nodup → (∀ k ∈ L, k ∈ U) → L.length ≤ U.length
  | [], U, _, _ => Nat.zero_le _
  | x :: L, U, h, hs => by
    rw [List.nodup_cons] at h
    have hx := hs x (by simp)
    have := nodup_le (L := L) (U := U.erase x) h.2 fun k hk => (List.mem_erase_of_ne (fun e => h.1 (by rw [← e]; exact hk))).mpr (hs k (by simp [hk]))
    rw [List.length_erase_of_mem hx] at this
    have := List.length_pos_of_mem hx
    rw [List.length_cons]
    omega
/-- the other way: a TERM's data tell its size -/
theorem tm_size : ∀ t : Tm, t.size ≤ nd (tmD t) ∧ t.deep ≤ (tmD t).depth
  | .v n => ⟨by simp [tmD, nd, Tm.size], by simp [Tm.deep]⟩
  | .z => ⟨by simp [tmD, nd, Tm.size], by simp [Tm.deep]⟩
  | .s t => by
    have := tm_size t
    simp only [tmD, nd, ndAll, Tm.size, Tm.deep, PyData.depth, PyData.depthAll]
    omega
  | .f l r => by
    have := tm_size l
    have := tm_size r
    simp only [tmD, nd, ndAll, Tm.size, Tm.deep, PyData.depth, PyData.depthAll]
    omega
end Rp

namespace Rp
open PySem PySem.Spec PyProof.Rows L2
def spTerm : Sp := fun vs H Q _ => ∃ (b : Addr) (v : V) (d : PyData), vs = [v] ∧ DAt H b v d ∧ okD d ∧ nd d ≤ 1000 ∧ ∀ (r : Bool) (H' : Hp), (r = true ↔ IsT d) → Same H H' → Q (.bl r) H'
def spVarsU : Sp := fun vs H Q _ => ∃ (v : V) (t : Tm) (U : List Int), vs = [v] ∧ TmAt H v t ∧ t.size ≤ 1000 ∧ (∀ n ∈ t.nums, n ∈ U) ∧ U.length ≤ 60 ∧
  ∀ (p : Addr) (ns : List Int) (H' : Hp), H p = none → H' p = some (.lst (ns.map V.int)) → ns.Pairwise (· < ·) → (∀ k, k ∈ ns ↔ k ∈ t.nums) → Same H H' → Q (.ref p) H'
def spClosed : Sp := fun vs H Q _ => ∃ (b : Addr) (v : V) (d : PyData) (U : List Int), vs = [v] ∧ DAt H b v d ∧ Few U ∧ Good U 1000 60 d ∧ ∀ (r : Bool) (H' : Hp), (r = true ↔ ∃ t, d = tmD t ∧ t.nums = []) → Same H H' → Q (.bl r) H'
theorem isVar_iff {d : PyData} (h : ¬ Shaped d) : isVar d = true ↔ IsT d := by
  cases d with
  | int n => rw [isT_int]; simp [isVar]
  | _ => exact ⟨fun e => by simp [isVar] at e, fun e => absurd e (isT_other h fun n z => by cases z)⟩
section
variable {P : Program} {w : World} {K : PySem.W.Frag} {mg : Str → Option Value} {base : Heap}
theorem scTerm : FnScope ["thing", "todo", "part"] ["thing"] (defScope sTerm) := ⟨rfl, rfl, rfl, by decide +kernel, rfl, by decide +kernel, by decide +kernel⟩
theorem ok_term {f fS fV : Addr} {fd dS dV : FuncData} (F : Fun K "is_term" "is_term" sTerm f fd)
    (GS : FnOk P w K mg base CX0 1 fS dS ["thing"] spShape) (kS : PySem.W.keepIn K (.ref fS) = true) (bS : Binds K dS ["thing"] []) (mS : mg "_has_shape" = some (.ref fS))
    (GV : FnOk P w K mg base CX0 2 fV dV ["thing"] spVariable) (kV : PySem.W.keepIn K (.ref fV) = true) (bV : Binds K dV ["thing"] []) (mV : mg "is_variable" = some (.ref fV)) :
    FnOk P w K mg base CX0 3 f fd ["thing"] spTerm := by
  refine F.ok scTerm (fun vs H Q E h => ?_) (fun cdv A outer s H vs Q E hr h => ?_)
  · obtain ⟨b, v, d, rfl, _⟩ := h
    rfl
  obtain ⟨b, v, d, rfl, D, ok, hn, q⟩ := h
  have r1 : Room 1 _ := hr.mono (by decide)
  refine ⟨_, pss_cons (ps_set (i := 1) scTerm.nd rfl (Or.inl rfl) (pe_lst (pa_cons (pv 0) pa_nil)))
    (pss_cons (ps_while PassesOwn.never (pt_truth (pv 1) (by intro _; rfl))
      (pss_cons (ps_set (i := 2) scTerm.nd rfl (Or.inl rfl) (pe_bm0 PySem.F.plainAttrs_list PySem.F.slot_list_pop PySem.F.type_list_pop mt_pop (pv 1)))
      (pss_one (ps_if (pt_val (pe_call GS r1 rfl mS kS bS .nil pass0 (pa_cons (pv 2) pa_nil)))
        (pss_one (ps_expr (pe_bm PySem.F.plainAttrs_list PySem.F.slot_list_extend PySem.F.type_list_extend mt_extendT (pv 1) (pa_cons (pe_slice sl_tup (pv 2) (po_some pe_int) po_none) pa_nil))))
        (pss_one (ps_if (pt_not (pt_val (pe_call GV hr rfl mV kV bV .nil pass0 (pa_cons (pv 2) pa_nil)))) (pss_one (ps_ret pe_bl)) pss_nil))))))
    (pss_one (ps_ret pe_bl))), ?_⟩
  refine ⟨_, rfl, (by show 1 ≤ sizeLine; decide), fun p hp => ?_⟩
  have s1 := same_new hp (.lst [v])
  dsimp only [gName, tSeq]
  refine ⟨fun m σ H2 => ∃ (txs : List V) (ds : List PyData) (x : Option V), σ = [some v, some (.ref p), x] ∧ H2 p = some (.lst txs) ∧ DAtAll H b txs ds ∧ (IsT d ↔ ∀ e ∈ ds, IsT e) ∧ (∀ e ∈ ds, okD e) ∧ ndAll ds ≤ 1000 ∧ m = ndAll ds ∧ Same H H2,
    ⟨nd d, [v], [d], none, rfl, upd_same, .cons D .nil, by simp, by simpa using ok, by simp [ndAll]; exact hn, by simp [ndAll], s1⟩, ?_⟩
  rintro m σ H2 ⟨txs, ds, x, rfl, h2, A1, iff, oks, few, rfl, sH⟩
  refine ⟨_, rfl, !txs.isEmpty, .inl ⟨txs, .inl (.inl h2), rfl⟩, ?_⟩
  rcases List.eq_nil_or_concat txs with e | ⟨M, y, e⟩
  · subst e
    refine iteF ?_
    have e2 : ds = [] := by have := A1.len; cases ds with | nil => rfl | cons => simp at this
    subst e2
    exact q true H2 ⟨fun _ => iff.mpr (by simp), fun _ => rfl⟩ sH
  · rw [List.concat_eq_append] at e
    subst e
    have ne : (!(M ++ [y]).isEmpty) = true := by simp
    rw [ne]
    refine iteT ⟨_, fun _ _ h => h, ?_⟩
    obtain ⟨L, k', e2, AM, Ay⟩ := A1.parted
    subst e2
    obtain ⟨k, rest, rfl, Dk, Ar⟩ := Ay.head
    obtain rfl : rest = [] := by have := Ar.len; cases rest with | nil => rfl | cons => simp at this
    have okk : okD k := oks k (by simp)
    have ilast : IsT d ↔ (∀ e ∈ L, IsT e) ∧ IsT k := by
      rw [iff]
      constructor
      · intro h; exact ⟨fun e he => h e (by simp [he]), h k (by simp)⟩
      · intro h e he
        rcases List.mem_append.mp he with he | he
        · exact h.1 e he
        · simp at he; subst he; exact h.2
    rw [ndAll_append] at few
    -- part = todo.pop()
    refine ⟨_, rfl, .inl ⟨rfl, _, .inl (.inl h2)⟩, p, _, y, rfl, rfl, h2, by simp, ?_⟩
    rw [List.dropLast_concat]
    have pn : H p = none := hp
    have s3 : Same H (upd H2 p (.lst M)) := fun c o z => by rw [upd_ne (ne_of_none z pn)]; exact sH c o z
    have nk : ndAll [k] = nd k := by simp [ndAll]
    refine ⟨_, rfl, b, y, k, rfl, Dk.same s3, okk, fun r H4 hr4 s4 => ?_⟩
    have h4 := s4 _ _ (upd_same : (upd H2 p (.lst M)) p = some (.lst M))
    have sH4 : Same H H4 := s3.trans s4
    cases r with
    | true =>
      refine ⟨true, rfl, iteT ?_⟩
      obtain ⟨sg, ds', rfl, sh⟩ := hr4.mp rfl
      obtain ⟨a, xs, rfl, ha, Ak⟩ := Dk.tup_of
      obtain ⟨x0, ks, rfl, D0, Dks⟩ := Ak.cons_of
      have nks : nd (PyData.tuple (.str sg :: ds')) = ndAll ds' + 2 := by simp [nd, ndAll]; omega
      refine ⟨_, rfl, .inl ⟨rfl, M, .inl (.inl h4)⟩, _, rfl, 1, rfl, a, _, rfl, .inl (ha.same sH4), cut_part _ _, fun g hg => ?_⟩
      rw [cut_tail]
      have s5 := same_new hg (.tup ks)
      have lim : M.length + ks.length ≤ sizeLine := by
        have a1 := AM.len
        have a2 := Dks.len
        have a3 := ndAll_len L
        have a4 := ndAll_len ds'
        have a5 : (1000 : Nat) + 1000 ≤ sizeLine := by decide
        omega
      refine ⟨p, g, M, ks, rfl, rfl, s5 _ _ h4, .inl (.inl upd_same), lim, ?_⟩
      refine ⟨ndAll (L ++ ds'), ?_, M ++ ks, L ++ ds', _, rfl, upd_same, AM.append Dks, ?_, ?_, ?_, rfl, ?_⟩
      · rw [ndAll_append, ndAll_append]; omega
      · rw [ilast, isT_shaped sh]
        constructor
        · rintro ⟨h1, h2⟩ e he
          rcases List.mem_append.mp he with he | he
          · exact h1 e he
          · exact h2 e he
        · intro h
          exact ⟨fun e he => h e (by simp [he]), fun e he => h e (by simp [he])⟩
      · intro e he
        rcases List.mem_append.mp he with he | he
        · exact oks e (by simp [he])
        · exact okk.tup e (by simp [he])
      · rw [ndAll_append]; omega
      · intro c o z
        rw [upd_ne (ne_of_none z pn)]
        exact s5 _ _ (sH4 _ _ z)
    | false =>
      refine ⟨false, rfl, iteF ?_⟩
      have ns : ¬ Shaped k := fun z => by have := hr4.mpr z; cases this
      refine ⟨_, rfl, b, y, k, rfl, Dk.same sH4, isVar k, rfl, ?_⟩
      cases ev : isVar k with
      | false =>
        refine iteT (q false H4 ⟨(fun e => nomatch e), fun z => ?_⟩ sH4)
        have := (isVar_iff ns).mpr (ilast.mp z).2
        rw [ev] at this
        cases this
      | true =>
        refine iteF ?_
        have tk := (isVar_iff ns).mp ev
        refine ⟨ndAll L, ?_, M, L, _, rfl, h4, AM, ?_, fun e he => oks e (by simp [he]), by omega, rfl, sH4⟩
        · rw [ndAll_append, nk]; have := nd_pos k; omega
        · rw [ilast]; exact ⟨fun h => h.1, fun h => ⟨h, tk⟩⟩
end
end Rp

/-! xs[a:] = ys, ys another list: what the layer has no statement of. -/
namespace Rp
open PySem PySem.Spec PyProof.Rows L2
theorem tail_bounds {k n : Nat} (h : k ≤ n) : sliceBounds (some (k : Int)) none none n = ((k : Int), (n : Int), 1) := by
  simp only [sliceBounds, Option.getD_none, show ¬ ((k : Int) < 0) by omega, if_false, show (1 : Int) > 0 by decide, if_true]
  congr 1
  · omega
theorem tail_items (old fresh : List Value) (k : Nat) : old.toArray.extract 0 k ++ fresh.toArray ++ old.toArray.extract old.toArray.size old.toArray.size = (old.take k ++ fresh).toArray := by
  apply Array.toList_inj.mp
  simp
section
variable {prog : Program} {w : World} {A : Around} {E : Value → Shared → Prop} {s : Shared}
theorem store_tail {at_ src cut : Addr} {old fresh : Array Value} {n1 n2 : Nat} {vlo : Value} {k : Nat} {Q : Unit → Shared → Prop} (oe : s.heap.get? at_ = some { cls := .type "list", data := .seq old n1 })
    (fe : s.heap.get? src = some { cls := .type "list", data := .seq fresh n2 }) (apart : at_ ≠ src) (isCut : s.heap.IsSliceOf cut vlo .none .none) (pLo : IsPart vlo (some (k : Int))) (hk : k ≤ old.size) (room : old.size + fresh.size ≤ sizeLine)
    (go : Q () { s with heap := s.heap.update at_ (Obj.mapSeq fun xs => xs.extract 0 k ++ fresh ++ xs.extract old.size xs.size) }) : wpAny (model prog w) A (setItem (.ref at_) (.ref cut) (.ref src)) Q E s := by
  have lstIs : s.heap.IsList at_ old := PySem.IsL.isList oe
  have srcIs : s.heap.IsList src fresh := PySem.IsL.isList fe
  obtain ⟨oc, hoc, hcc, hdc⟩ := id isCut
  have cutIs : s.TypeIs (.ref cut) "slice" := ⟨oc, hoc, hcc⟩
  have noStep : ¬ ((rawPart none == rawInt 0) = true) := Bool.false_ne_true
  have other : Builtin.List.listSameRef (.ref at_) (.ref src) = false := by unfold Builtin.List.listSameRef; exact beq_eq_false_iff_ne.mpr apart
  have bound : ((fun xs : Array Value => xs.extract 0 k ++ fresh ++ xs.extract old.size xs.size) old).size ≤ sizeLine + 1 := by simp only [Array.size_append, Array.size_extract]; omega
  unfold setItem; try with_reducible refine wpAny_holding ?_
  first | refine wpAny_bind (wpAny_pure ?_) | skip
  refine wpAny_bind (wpAny_sequenceKey lstIs.typeIs (by decide) (wpAny_bind (wpAny_callSpecial?_slot (name := Str.ofString "__setitem__") lstIs.typeIs slot_list_setitem (wpAny_call_entry slot_list_setitem lstIs.typeIs entry_list_setitem ?_ (args_list_setitem _ _ _)))))
  show wpAny _ _ (Builtin.List.listSubscript? (.ref cut) >>= _) _ _ s
  refine wpAny_bind ?_; unfold Builtin.List.listSubscript?
  refine wpAny_bind (wpAny_specialOf cutIs slice_no_index ?_); simp only [Option.isNone_none, if_true]
  refine wpAny_pure ?_; show wpAny _ _ (typeOf (.ref cut) >>= _) _ _ s
  refine wpAny_bind (wpAny_typeOf cutIs ?_)
  first | rw [if_neg (by decide)] | refine PySem.W.KFB.if_not (by decide) ?_
  rw [listSliceParts_eq]; refine wpAny_bind (wpAny_bind (wpAny_field hoc hdc (x := .none) rfl (wpAny_bind (wpAny_listPart .none ?_))))
  rw [if_neg noStep]; refine wpAny_bind (wpAny_field hoc hdc (x := vlo) rfl (wpAny_bind (wpAny_listPart pLo ?_)))
  refine wpAny_bind (wpAny_field hoc hdc (x := .none) rfl (wpAny_bind (wpAny_listPart .none (wpAny_pure ?_))))
  first | simp only [other, Bool.false_eq_true, if_false] | refine PySem.W.KFB.if_not other ?_ | (dsimp only; rw [if_neg (by rw [other]; exact Bool.false_ne_true)])
  refine wpAny_bind (m := Builtin.List.listAllItems (.ref src) "must assign iterable to extended slice") ?_; unfold Builtin.List.listAllItems
  refine wpAny_bind (wpAny_typeOf srcIs.typeIs ?_)
  first | refine PySem.W.KFB.if_so (by decide) ?_ | rw [if_pos (by decide)] | simp only [beq_self_eq_true, Bool.true_or, if_true]
  unfold Builtin.List.listItems; refine wpAny_bind (wpAny_seqItems fe rfl (wpAny_pure ?_))
  refine wpAny_bind (wpAny_bind (wpAny_seqItems oe rfl (wpAny_pure ?_)))
  refine wpAny_bind (wpAny_of_eq ((sliceIndices_raw (some (k : Int)) none none old.size (by simp)).trans (congrArg (pure : Int × Int × Int → Sem (Int × Int × Int)) (tail_bounds hk))) ?_)
  show wpAny _ _ (if ((1 : Int) == 1) = true then _ else _) _ _ s; rw [if_pos (by decide)]
  refine wpAny_bind (wpAny_rule ?_); have small := notLongL room
  first | simp only [small, Bool.false_eq_true, if_false] | refine PySem.W.KFB.if_not small ?_
  first | refine wpAny_bind (wpAny_pure ?_) | skip
  show wpAny _ _ (updateSeq at_ (fun xs => xs.extract 0 ((k : Int)).toNat ++ fresh ++ xs.extract (max (k : Int) (old.size : Int)).toNat xs.size) >>= _) _ _ s
  rw [show (max (k : Int) (old.size : Int)).toNat = old.size by omega, Int.toNat_natCast]
  refine wpAny_bind (wpAny_updateSeq (hz := Nat.le_trans (Nat.le_add_right _ _) room) (_hz' := bound) oe rfl (wpAny_bind (wpAny_letGo ?_)))
  first | exact wpAny_bind (wpAny_pure (wpAny_pure ⟨.none, rfl, wpAny_pure go⟩)) | exact wpAny_pure ⟨.none, rfl, wpAny_pure go⟩
end
/-- xs[a:] = ys -/
def tTail (to : TE) (ta : TO) (tv : TE) : TS := fun D σ H => tv σ H fun y H1 => to σ H1 fun x H2 => ta σ H2 fun i H3 => ∃ (l b : Addr) (xs ys : List V) (k : Nat), y = .ref b ∧ x = .ref l ∧ i = some (k : Int) ∧ H3 l = some (.lst xs) ∧ H3 b = some (.lst ys) ∧ l ≠ b ∧ k ≤ xs.length ∧ xs.length + ys.length ≤ sizeLine ∧
  D.nx σ (upd H3 l (.lst (xs.take k ++ ys)))
section
variable {X : Cx} {o e value : Expr} {pos pos' p2 : Pos} {td tv : TE} {ta : TO}
theorem ps_tail (ho : PE X o td) (hi : PO X (some e) ta) (hv : PE X value tv) (hs : swapsWith value (some (.Subscript o (.Slice (some e) none none p2) pos')) pos.line X.env = pure false := by rfl) :
    PS X (.Assign [.Subscript o (.Slice (some e) none none p2) pos'] value pos) (tTail td ta tv) := by
  refine ⟨fun pins s σ H D I h => wpAny_Assign_Subscript (thn (hv.run pins s σ H _ I h) fun r s1 ⟨v, H1, I1, rv, q1⟩ => thn (ho.run pins s1 σ H1 _ I1 q1) fun u s2 ⟨x, H2, I2, rx, q2⟩ => ?_) hs⟩
  refine wpAny_Slice (thn (hi.run pins s2 σ H2 _ I2 q2) fun vl s3 ⟨i, H3, I3, pl, q3⟩ => ?_)
  obtain ⟨l, b, xs, ys, k, rfl, rfl, rfl, hl, hb, ne, hk, room, go⟩ := q3
  rw [evalPart_none]
  refine wpAny_pure (wpAny_pure ?_)
  cases rv
  cases rx
  have I4 : Inv X pins σ H3 { s3 with heap := s3.heap.push { cls := .type "slice", data := .fields #[vl, .none, .none] } } := I3.kept (t' := s3.toks) fun c ob w => Heap.get?_push_of_some _ w
  obtain ⟨_, old, n1, ro, lo, oe⟩ := I4.lstM hl
  obtain ⟨_, fresh, n2, rf, lf, fe⟩ := I4.lstM hb
  refine store_tail (k := k) oe fe ne (Heap.IsSliceOf.new ..) pl (by rw [List.size_toArray]; omega) (by rw [List.size_toArray, List.size_toArray]; omega) ?_
  refine ⟨σ, _, I4.lset (its' := old.take k ++ fresh) (t' := s3.toks) hl oe ?_ (Vals.append (ro.take _) rf) ?_, go⟩
  · exact tail_items old fresh k
  · rw [List.length_append, List.length_take]; omega
end
end Rp

set_option maxHeartbeats 8000000
/-! is_binding over data of any kind. -/
namespace Rp
open PySem PySem.Spec PyProof.Rows L2 TL RZ
/-- [.. for a, b in zip(xs, ys)], n turns -/
theorem lc_pairsN {J : It} {n : Nat} {xs ys : List V} {g : TG} {tt : TT} {te : TE} {vs : List Nat} {σ : L2.St} {H1 : Hp} {D : Addr} {Qd : Hp → Prop} (Pv : Nat → Hp → Prop)
    (stops : ∀ H, Pv n H → J.stop n H) (goes : ∀ i H, i < n → Pv i H → J.go i H)
    (gives : ∀ i H v H', i < n → Pv i H → J.yld i H v H' → ∃ T x y, v = .ref T ∧ xs[i]? = some x ∧ ys[i]? = some y ∧ H T = none ∧ H' = upd H T (.tup [x, y]))
    (h0 : Pv 0 (upd H1 D (.lst [])))
    (hs : ∀ (i : Nat) (x y : V) (T : Addr) (H : Hp), i < n → xs[i]? = some x → ys[i]? = some y → Pv i H → H T = none → g (.ref T) (wipe σ vs) (upd H T (.tup [x, y])) fun σ2 H2 => wipe σ2 vs = wipe σ vs ∧
      tt σ2 H2 fun b H3 => if b = true then te σ2 H3 fun y H4 => ∃ acc, H4 D = some (.lst acc) ∧ acc.length < sizeLine ∧ Pv (i + 1) (upd H4 D (.lst (acc ++ [y]))) else Pv (i + 1) H3)
    (hd : ∀ H, Pv n H → Qd H) :
    ∃ W : Nat → Nat → Hp → Prop, (∃ m, W 0 m (upd H1 D (.lst []))) ∧ ∀ i m H, W i m H → (J.stop i H ∧ Qd H) ∨
      (J.go i H ∧ ∃ Nx : Hp → Prop, (∀ H', Nx H' → ∃ m', m' < m ∧ W (i + 1) m' H') ∧ ∀ x H', J.yld i H x H' → g x (wipe σ vs) H' fun σ2 H2 => wipe σ2 vs = wipe σ vs ∧
        tt σ2 H2 fun b H3 => if b = true then te σ2 H3 fun y H4 => ∃ acc, H4 D = some (.lst acc) ∧ acc.length < sizeLine ∧ Nx (upd H4 D (.lst (acc ++ [y]))) else Nx H3) := by
  refine ⟨fun i m H => m + i = n ∧ Pv i H, ⟨n, by simp, h0⟩, ?_⟩
  rintro i m H ⟨em, p⟩
  rcases Nat.lt_or_ge i n with lt | ge
  · refine .inr ⟨goes i H lt p, Pv (i + 1), fun H' p' => ⟨m - 1, by omega, by omega, p'⟩, fun v H' y => ?_⟩
    obtain ⟨T, x, y', rfl, hx, hy, hT, rfl⟩ := gives i H v H' lt p y
    exact hs i x y' T H lt hx hy p hT
  · have e : i = n := by omega
    subst e
    exact .inl ⟨stops H p, hd H p⟩
def IsPr (d : PyData) : Prop := ∃ (n : Int) (e : PyData), d = .tuple [.int n, e] ∧ 0 ≤ n ∧ n ≤ 99 ∧ IsT e
def keyD : PyData → Int
  | .tuple (.int n :: _) => n
  | _ => 0
def adjB (ks : List Int) : Bool := (List.range (ks.length - 1)).all fun j => decide (ks.getD j 0 < ks.getD (j + 1) 0)
def IsBdD (d : PyData) : Prop := ∃ ds : List PyData, d = .tuple ds ∧ (∀ e ∈ ds, IsPr e) ∧ adjB (ds.map keyD) = true
def spIsPr : Sp := fun vs H Q _ => ∃ (b : Addr) (v : V) (d : PyData), vs = [v] ∧ DAt H b v d ∧ okD d ∧ nd d ≤ 1000 ∧ ∀ (r : Bool) (H' : Hp), (r = true ↔ IsPr d) → Same H H' → Q (.bl r) H'
def spIsBd : Sp := fun vs H Q _ => ∃ (b : Addr) (v : V) (d : PyData), vs = [v] ∧ DAt H b v d ∧ okD d ∧ nd d ≤ 1000 ∧ ∀ (r : Bool) (H' : Hp), (r = true ↔ IsBdD d) → Same H H' → Q (.bl r) H'
theorem nd_mem {ds : List PyData} {e : PyData} (h : e ∈ ds) : nd e ≤ nd (.tuple ds) := by
  have := ndAll_mem h
  simp only [nd]; omega
theorem isPr_two {ds : List PyData} (h : ds.length ≠ 2) : ¬ IsPr (.tuple ds) := fun ⟨n, e, z, _⟩ => by
  injection z with z
  subst z
  exact h rfl
theorem isVar_num {d : PyData} : isVar d = true ↔ ∃ n : Int, d = .int n ∧ 0 ≤ n ∧ n ≤ 99 := by
  cases d <;> simp [isVar]
theorem ndAll_le {ds : List PyData} : ds.length ≤ nd (.tuple ds) := by have := ndAll_len ds; simp only [nd]; omega
end Rp

set_option maxHeartbeats 8000000
/-! NAMEs over data of any kind. -/
namespace Rp
open PySem PySem.Spec PyProof.Rows L2 TL RZ
def letters : Str := "abcdefghijklmnopqrstuvwxyz"
structure NameOk (x : Str) : Prop where
  pos : 1 ≤ x.length
  few : x.length ≤ 6
  low : ∀ c ∈ tl x, 97 ≤ c ∧ c ≤ 122
  nif : x ≠ "if"
theorem letters_iff {c : Nat} : c ∈ letters.cps.toList ↔ 97 ≤ c ∧ c ≤ 122 := by
  have e : letters.cps.toList = (List.range 26).map (· + 97) := by decide +kernel
  rw [e, List.mem_map]
  constructor
  · rintro ⟨k, hk, rfl⟩
    have := List.mem_range.mp hk
    omega
  · intro h
    exact ⟨c - 97, List.mem_range.mpr (by omega), by omega⟩
def lowB (x : Str) : Bool := (tl x).all fun c => decide (c ∈ letters.cps.toList)
theorem lowB_iff {x : Str} : lowB x = true ↔ ∀ c ∈ tl x, 97 ≤ c ∧ c ≤ 122 := by
  unfold lowB
  rw [List.all_eq_true]
  exact ⟨fun h c hc => letters_iff.mp (of_decide_eq_true (h c hc)), fun h c hc => decide_eq_true (letters_iff.mpr (h c hc))⟩
def IsNm (d : PyData) : Prop := ∃ x, d = .str x ∧ NameOk x
theorem isNm_str {x : Str} : IsNm (.str x) ↔ NameOk x := ⟨fun ⟨y, e, h⟩ => by injection e with e; subst e; exact h, fun h => ⟨x, rfl, h⟩⟩
def spIsNm : Sp := fun vs H Q _ => ∃ (b : Addr) (v : V) (d : PyData), vs = [v] ∧ DAt H b v d ∧ (∀ x, d = .str x → x.length ≤ 1000) ∧ ∀ (r : Bool) (H' : Hp), (r = true ↔ IsNm d) → Same H H' → Q (.bl r) H'
section
variable {P : Program} {w : World} {K : PySem.W.Frag} {mg : Str → Option Value} {base : Heap}
theorem scIsName : FnScope ["thing", "sign"] ["thing"] (defScope sIsName) := ⟨rfl, rfl, rfl, by decide +kernel, rfl, by decide +kernel, by decide +kernel⟩
theorem ok_isnm {f : Addr} {fd : FuncData} {t1 t2 : Tok} (F : Fun K "is_name" "is_name" sIsName f fd) (M : SameG mg) (mL : mg "LETTERS" = some (.str letters t1)) (mM : mg "MOST_LETTERS" = some (.int 6 t2)) : FnOk P w K mg base CX0 1 f fd ["thing"] spIsNm := by
  refine F.ok scIsName (fun vs H Q E h => ?_) (fun cdv A outer s H vs Q E hr h => ?_)
  · obtain ⟨b, v, d, rfl, _⟩ := h
    rfl
  obtain ⟨b, v, d, rfl, D, sz, q⟩ := h
  refine ⟨_, pss_cons (ps_if (PW.pt (pw_or (pt_not (pt_val (pe_callB (id := "isinstance") call_isi (by rfl) M.isi (by decide +kernel) (pa_cons (pv 0) (pa_cons (pe_bltn (v := .ty "str") (by rfl) M.str (by decide +kernel) rfl) pa_nil)))))
      (pw_or1 (pt_not (pt_chain op_le op_le pe_int (pe_callB call_len_str (by rfl) M.len PySem.boot_len (pa_cons (pv 0) pa_nil)) (pe_glob (v := .int 6) rfl mM ⟨_, rfl⟩)))))) (pss_one (ps_ret pe_bl)) pss_nil)
    (pss_one (ps_ret (pe_and (pe_cmpR op_ne (pv 0) pe_str (nomark _)) (pe_one (pe_callB (cr_all rfl) (by rfl) M.all (by decide +kernel) (pa_cons (pe_lc (own := [("sign", 1)]) (g := gName 1) (tt := tYes) (te := tOp rInS (tVar 1) (tC (.str letters))) rfl scIsName.nd
        (pi_str (pv 0)) (blkOk_by (N := ["thing", "sign"]) (sc := defScope sIsName) (by decide +kernel)) (fun _ _ _ _ _ => pg_name (i := 1) scIsName.nd rfl (Or.inl rfl))
        (fun _ _ _ _ _ => pts_nil) (fun _ _ _ _ _ => pe_cmpR op_inS (pv 1) (pe_glob (v := .str letters) (by rfl) mL ⟨_, rfl⟩) (by rfl))) pa_nil)))))), ?_⟩
  have big : (10000 : Nat) ≤ sizeLine := by decide
  have no : ∀ {H' : Hp}, Same H H' → ¬ IsNm d → Q (.bl false) H' := fun s h => q false _ ⟨(fun e => nomatch e), fun z => absurd z h⟩ s
  refine ⟨_, rfl, _, _, _, _, isS d, rfl, .ty "str", D.tyx, kitS d, isS d, rfl, ?_⟩
  cases d with
  | str x =>
    cases D.str_of
    have z1 := sz x rfl
    refine iteF ?_
    refine ⟨_, rfl, x, rfl, by omega, _, _, rfl, rfl, decide ((1 : Int) ≤ (x.length : Nat)), rfl, ?_⟩
    by_cases h1 : (1 : Int) ≤ (x.length : Nat)
    · rw [decide_eq_true h1]
      refine iteT ⟨_, _, rfl, rfl, decide (((x.length : Nat) : Int) ≤ 6), rfl, ?_⟩
      by_cases h6 : ((x.length : Nat) : Int) ≤ 6
      · rw [decide_eq_true h6]
        refine iteF ⟨_, rfl, rfl, !decide (V.str x = V.str "if"), rfl, ?_⟩
        by_cases hif : x = "if"
        · rw [decide_eq_true (by rw [hif])]
          exact iteF (no (Same.refl H) fun z => (isNm_str.mp z).nif hif)
        · rw [decide_eq_false (fun z => hif (by injection z))]
          refine iteT ?_
          refine ⟨_, rfl, x, rfl, fun D hD => lc_it (walk_str (z := x)) (fun i H2 => H2 D = some (.lst ((((tl x).take i).map fun c => decide (c ∈ letters.cps.toList)).map V.bl)) ∧ Same H H2) ⟨upd_same, same_new hD _⟩ (fun _ _ _ _ => trivial) ?_ ?_⟩
          · rintro i y H2 H3 hi ⟨h2, s2⟩ ⟨rfl, c, hc, rfl⟩
            have li : x.cps.size = x.length := rfl
            have hc' : (tl x)[i]? = some c := by show x.cps.toList[i]? = some c; rw [Array.getElem?_toList]; exact hc
            have tk : (tl x).take (i + 1) = (tl x).take i ++ [c] := by rw [List.take_add_one, hc']; rfl
            refine ⟨rfl, ?_⟩
            refine ⟨_, rfl, c, letters, rfl, rfl, _, h2, ?_, ?_, ?_⟩
            · rw [List.length_map, List.length_map, List.length_take]; omega
            · rw [upd_same, tk, List.map_append, List.map_append]; rfl
            · intro a o z
              rw [upd_ne (ne_of_none z hD)]
              exact s2 _ _ z
          · rintro H2 ⟨h2, s2⟩
            have full : (tl x).take x.cps.size = tl x := List.take_of_length_le (by show x.cps.toList.length ≤ _; simp)
            rw [full] at h2
            refine ⟨D, (tl x).map fun c => decide (c ∈ letters.cps.toList), rfl, .inl (.inl h2), ?_⟩
            refine q _ H2 ?_ s2
            have e : ((tl x).map fun c => decide (c ∈ letters.cps.toList)).all id = lowB x := by unfold lowB; rw [List.all_map]; rfl
            rw [e, isNm_str, lowB_iff]
            exact ⟨fun h => ⟨by omega, by omega, h, hif⟩, fun h => h.low⟩
      · rw [decide_eq_false h6]
        exact iteT (no (Same.refl H) fun z => by have := (isNm_str.mp z).few; omega)
    · rw [decide_eq_false h1]
      exact iteF ⟨false, rfl, iteT (no (Same.refl H) fun z => by have := (isNm_str.mp z).pos; omega)⟩
  | _ => exact iteT (no (Same.refl H) fun ⟨_, z, _⟩ => nomatch z)
end
end Rp

set_option maxHeartbeats 8000000
/-! all([pred(x) for x in tuple]) over data; ATOMs over data of any kind. -/
namespace Rp
open PySem PySem.Spec PyProof.Rows L2 TL RZ
theorem wipe_one {σ : L2.St} {n : Nat} {x : Option V} : wipe ((wipe σ [n]).set n x) [n] = wipe σ [n] := by
  show ((σ.set n none).set n x).set n none = σ.set n none
  rw [List.set_set, List.set_set]
theorem lc_pred {K : PySem.W.Frag} {a b D : Addr} {xs : List V} {ds : List PyData} {Pd : PyData → Prop} {sp : Sp} {n : Nat} {σ : L2.St} {H1 : Hp} {Qd : Hp → Prop} (hn : n < σ.length) (hD : H1 D = none) (ha : TupAt H1 a xs) (A : DAtAll H1 b xs ds) (few : xs.length ≤ 1000)
    (call : ∀ (x : V) (e : PyData) (H2 : Hp) (Q : VK), e ∈ ds → DAt H2 b x e → Same H1 H2 → (∀ (r : Bool) (H3 : Hp), (r = true ↔ Pd e) → Same H2 H3 → Q (.bl r) H3) → sp [x] H2 Q E0)
    (go : ∀ (bs : List Bool) (H2 : Hp), H2 D = some (.lst (bs.map V.bl)) → (bs.all id = true ↔ ∀ e ∈ ds, Pd e) → Same H1 H2 → Qd H2) :
    ∃ W : Nat → Nat → Hp → Prop, (∃ m, W 0 m (upd H1 D (.lst []))) ∧ ∀ i m H, W i m H →
      ((Itt K a).stop i H ∧ Qd H) ∨ ((Itt K a).go i H ∧ ∃ Nx : Hp → Prop, (∀ H', Nx H' → ∃ m', m' < m ∧ W (i + 1) m' H') ∧ ∀ x H', (Itt K a).yld i H x H' → gName n x (wipe σ [n]) H' fun σ2 H2 => wipe σ2 [n] = wipe σ [n] ∧ tYes σ2 H2 fun b H3 =>
        if b = true then tCall sp [] E0 (tCons (tVar n) tNil) σ2 H3 fun y H4 => ∃ acc, H4 D = some (.lst acc) ∧ acc.length < sizeLine ∧ Nx (upd H4 D (.lst (acc ++ [y]))) else Nx H3) := by
  have big : (2000 : Nat) ≤ sizeLine := by decide
  have el := A.len
  refine lc_tup (K := K) (a := a) (xs := xs) (fun i H2 => ∃ bs : List Bool, H2 D = some (.lst (bs.map V.bl)) ∧ bs.length = i ∧ (∀ (j : Nat) (r : Bool) (e : PyData), bs[j]? = some r → ds[j]? = some e → (r = true ↔ Pd e)) ∧ Same H1 H2)
    ⟨[], upd_same, rfl, fun j r e z => by simp at z, same_new hD _⟩ (fun i H2 _ ⟨_, _, _, _, s⟩ => .inl (ha.same s)) ?_ ?_
  · rintro i x H2 hi ⟨bs, h2, lb, each, s2⟩
    obtain ⟨e, he, De⟩ := A.get hi
    have em := List.mem_of_getElem? he
    have li : i < ds.length := (List.getElem?_eq_some_iff.mp he).1
    refine ⟨wipe_one, ?_⟩
    refine ⟨x, ?_, call x e H2 _ em (De.same s2) s2 fun r H3 hr3 s3 => ?_⟩
    · rw [List.getElem?_set_self (by rw [wipe_length]; exact hn)]
    refine ⟨_, s3 _ _ h2, by rw [List.length_map]; omega, bs ++ [r], by rw [upd_same, List.map_append]; rfl, by rw [List.length_append, lb]; rfl, fun j r' e' h1 h3 => ?_, fun c o z => by rw [upd_ne (ne_of_none z hD)]; exact s3 _ _ (s2 _ _ z)⟩
    rcases Nat.lt_or_ge j bs.length with h | h
    · rw [List.getElem?_append_left h] at h1; exact each j r' e' h1 h3
    · rw [List.getElem?_append_right h] at h1
      have jl : j = i := by
        have := (List.getElem?_eq_some_iff.mp h1).1
        simp at this; omega
      subst jl
      rw [lb, Nat.sub_self] at h1
      simp at h1
      rw [he] at h3
      cases h3
      rw [← h1]; exact hr3
  · rintro H2 ⟨bs, h2, lb, each, s2⟩
    refine go bs H2 h2 ?_ s2
    rw [List.all_eq_true]
    constructor
    · intro h e he
      obtain ⟨j, hj⟩ := List.mem_iff_getElem?.mp he
      have lj : j < bs.length := by have := (List.getElem?_eq_some_iff.mp hj).1; omega
      exact (each j bs[j] e (List.getElem?_eq_getElem lj) hj).mp (h _ (List.getElem_mem lj))
    · intro h r hr
      obtain ⟨j, hj⟩ := List.mem_iff_getElem?.mp hr
      have lj : j < ds.length := by have := (List.getElem?_eq_some_iff.mp hj).1; omega
      exact (each j r ds[j] hj (List.getElem?_eq_getElem lj)).mpr (h _ (List.getElem_mem lj))
def IsAm (d : PyData) : Prop := ∃ (x : Str) (es : List PyData), d = .tuple (.str x :: es) ∧ NameOk x ∧ 1 ≤ es.length ∧ es.length ≤ 2 ∧ ∀ e ∈ es, IsT e
theorem isAm_cons {d0 : PyData} {es : List PyData} : IsAm (.tuple (d0 :: es)) ↔ IsNm d0 ∧ 1 ≤ es.length ∧ es.length ≤ 2 ∧ ∀ e ∈ es, IsT e :=
  ⟨fun ⟨x, fs, e, h1, h⟩ => by injection e with e; injection e with e1 e2; subst e1 e2; exact ⟨⟨x, rfl, h1⟩, h⟩, fun ⟨⟨x, e, h1⟩, h⟩ => ⟨x, es, by rw [e], h1, h⟩⟩
theorem isAm_len {ds : List PyData} (h : ¬ (2 ≤ ds.length ∧ ds.length ≤ 3)) : ¬ IsAm (.tuple ds) := fun ⟨x, fs, e, _, h1, h2, _⟩ => by
  injection e with e
  subst e
  rw [List.length_cons] at h
  omega
/-- texts among data are not too long -/
def okS (d : PyData) : Prop := okD d ∧ nd d ≤ 1000
def spIsAm : Sp := fun vs H Q _ => ∃ (b : Addr) (v : V) (d : PyData), vs = [v] ∧ DAt H b v d ∧ okD d ∧ nd d ≤ 1000 ∧ (∀ x ds, d = .tuple (.str x :: ds) → x.length ≤ 1000) ∧ ∀ (r : Bool) (H' : Hp), (r = true ↔ IsAm d) → Same H H' → Q (.bl r) H'
section
variable {P : Program} {w : World} {K : PySem.W.Frag} {mg : Str → Option Value} {base : Heap}
theorem scIsAtom : FnScope ["thing", "term"] ["thing"] (defScope sIsAtom) := ⟨rfl, rfl, rfl, by decide +kernel, rfl, by decide +kernel, by decide +kernel⟩
theorem ok_isam {f fN fT : Addr} {fd dN dT : FuncData} (F : Fun K "is_atom" "is_atom" sIsAtom f fd)
    (GN : FnOk P w K mg base CX0 1 fN dN ["thing"] spIsNm) (kN : PySem.W.keepIn K (.ref fN) = true) (bN : Binds K dN ["thing"] []) (mN : mg "is_name" = some (.ref fN))
    (GT : FnOk P w K mg base CX0 3 fT dT ["thing"] spTerm) (kT : PySem.W.keepIn K (.ref fT) = true) (bT : Binds K dT ["thing"] []) (mT : mg "is_term" = some (.ref fT)) (M : SameG mg) : FnOk P w K mg base CX0 4 f fd ["thing"] spIsAm := by
  refine F.ok scIsAtom (fun vs H Q E h => ?_) (fun cdv A outer s H vs Q E hr h => ?_)
  · obtain ⟨b, v, d, rfl, _⟩ := h
    rfl
  obtain ⟨b, v, d, rfl, D, ok, sz, tx, q⟩ := h
  have r1 : Room 1 _ := hr.mono (by decide)
  refine ⟨_, pss_cons (ps_if (PW.pt (pw_or (pt_not (pt_val (pe_callB (id := "isinstance") call_isi (by rfl) M.isi (by decide +kernel) (pa_cons (pv 0) (pa_cons (pe_bltn (v := .ty "tuple") (by rfl) M.tuple (by decide +kernel) rfl) pa_nil)))))
      (pw_or1 (pt_not (pt_chain op_le op_le pe_int (pe_callB call_len_seq (by rfl) M.len PySem.boot_len (pa_cons (pv 0) pa_nil)) pe_int))))) (pss_one (ps_ret pe_bl)) pss_nil)
    (pss_one (ps_ret (pe_and (pe_call GN r1 rfl mN kN bN .nil pass0 (pa_cons (pe_ix ix_tup (pv 0) pe_int (fun _ _ => rfl)) pa_nil)) (pe_one (pe_callB (cr_all rfl) (by rfl) M.all (by decide +kernel) (pa_cons (pe_lc (own := [("term", 1)]) (g := gName 1) (tt := tYes) (te := tCall spTerm [] E0 (tCons (tVar 1) tNil)) rfl scIsAtom.nd
        (pi_tup (pe_slice sl_tup (pv 0) (po_some pe_int) po_none)) (blkOk_by (N := ["thing", "term"]) (sc := defScope sIsAtom) (by decide +kernel)) (fun _ _ _ _ _ => pg_name (i := 1) scIsAtom.nd rfl (Or.inl rfl))
        (fun _ _ _ _ _ => pts_nil) (fun _ _ _ _ _ => pe_call GT hr (by rfl) mT kT bT .nil pass0 (pa_cons (pv 1) pa_nil))) pa_nil)))))), ?_⟩
  have no : ∀ {H' : Hp}, Same H H' → ¬ IsAm d → Q (.bl false) H' := fun s h => q false _ ⟨(fun e => nomatch e), fun z => absurd z h⟩ s
  refine ⟨_, rfl, _, _, _, _, isU d, rfl, .ty "tuple", D.tyx, kitU d, isU d, rfl, ?_⟩
  cases d with
  | tuple ds =>
    obtain ⟨a, xs, rfl, ha, Ax⟩ := D.tup_of
    have xl := Ax.len
    refine iteF ?_
    refine ⟨_, rfl, a, _, rfl, .inr (.inl ha), _, _, rfl, rfl, decide ((2 : Int) ≤ (xs.length : Nat)), rfl, ?_⟩
    by_cases h2 : (2 : Int) ≤ (xs.length : Nat)
    · rw [decide_eq_true h2]
      refine iteT ⟨_, _, rfl, rfl, decide (((xs.length : Nat) : Int) ≤ 3), rfl, ?_⟩
      by_cases h3 : ((xs.length : Nat) : Int) ≤ 3
      · rw [decide_eq_true h3]
        refine iteF ?_
        match ds, xs, Ax, xl, h2, h3 with
        | [], [], _, _, h2, _ => exact absurd h2 (by decide)
        | d0 :: es, x0 :: ys, Ax, xl, h2, h3 =>
          obtain ⟨_, _, e', D0, A1⟩ := Ax.head
          injection e' with e1 e2
          subst e1 e2
          have yl := A1.len
          rw [List.length_cons] at h2 h3
          refine ⟨_, rfl, a, _, _, _, rfl, rfl, .inl ha, at_of (j := 0) rfl rfl, b, x0, d0, rfl, D0, fun x e => tx x es (by rw [e]), fun r H1 hr1 s1 => ⟨r, rfl, ?_⟩⟩
          cases r with
          | false =>
            refine iteF (no s1 fun z => ?_)
            have := hr1.mpr (isAm_cons.mp z).1
            cases this
          | true =>
            refine iteT ?_
            refine ⟨_, rfl, 1, rfl, a, _, rfl, .inl (ha.same s1), cut_part _ _, fun g hg => ?_⟩
            rw [cut_tail]
            have s2 := same_new hg (.tup ys)
            refine ⟨g, rfl, ⟨_, .inl (.inl upd_same)⟩, fun D1 hD => lc_pred (K := K) (b := b) (ds := es) (Pd := IsT) (Nat.lt_succ_self 1) hD (.inl upd_same) ((A1.same s1).same s2) (by omega)
              (fun x e H2 Q' he De _ k => ⟨b, x, e, rfl, De, ok.tup e (by simp [he]), Nat.le_trans (nd_mem (List.mem_cons_of_mem _ he)) sz, k⟩) fun bs H2 hb2 all2 s3 => ?_⟩
            refine ⟨D1, bs, rfl, .inl (.inl hb2), q _ H2 ?_ ((s1.trans s2).trans s3)⟩
            rw [all2, isAm_cons]
            exact ⟨fun h => ⟨hr1.mp rfl, by omega, by omega, h⟩, fun h => h.2.2.2⟩
      · rw [decide_eq_false h3]
        exact iteT (no (Same.refl H) (isAm_len (by omega)))
    · rw [decide_eq_false h2]
      exact iteF ⟨false, rfl, iteT (no (Same.refl H) (isAm_len (by omega)))⟩
  | _ => exact iteT (no (Same.refl H) fun ⟨_, _, z, _⟩ => nomatch z)
end
end Rp

set_option maxHeartbeats 8000000
/-! ATOMs as a type; unlike and SAYINGs over data of any kind. -/
namespace Rp
open PySem PySem.Spec PyProof.Rows L2 TL RZ
def Tm.small (t : Tm) : Prop := ∀ n ∈ t.nums, 0 ≤ n ∧ n ≤ 99
structure At where
  nm : Str
  ts : List Tm
  deriving DecidableEq
structure AtOk (z : Nat) (a : At) : Prop where
  nm : NameOk a.nm
  one : 1 ≤ a.ts.length
  two : a.ts.length ≤ 2
  sm : ∀ t ∈ a.ts, t.small ∧ t.size ≤ z
def AtAt (H : Hp) (v : V) (a : At) : Prop := ∃ (p : Addr) (xs : List V), v = .ref p ∧ H p = some (.tup (.str a.nm :: xs)) ∧ AllAt H xs a.ts
def atD (a : At) : PyData := .tuple (.str a.nm :: a.ts.map tmD)
structure AmOk (a : At) : Prop where
  nm : NameOk a.nm
  one : 1 ≤ a.ts.length
  two : a.ts.length ≤ 2
  sm : ∀ t ∈ a.ts, t.small
theorem tms_of : ∀ {es : List PyData}, (∀ e ∈ es, IsT e) → ∃ ts : List Tm, es = ts.map tmD ∧ ∀ t ∈ ts, t.small
  | [], _ => ⟨[], rfl, by simp⟩
  | e :: es, h => by
    obtain ⟨t, rfl, h1⟩ := h e (by simp)
    obtain ⟨ts, rfl, h2⟩ := tms_of (es := es) fun x hx => h x (by simp [hx])
    exact ⟨t :: ts, rfl, fun u hu => by rcases List.mem_cons.mp hu with rfl | hu; exact h1; exact h2 u hu⟩
theorem isAm_at {d : PyData} : IsAm d ↔ ∃ a, d = atD a ∧ AmOk a := by
  constructor
  · rintro ⟨x, es, rfl, h1, h2, h3, h4⟩
    obtain ⟨ts, rfl, h5⟩ := tms_of h4
    rw [List.length_map] at h2 h3
    exact ⟨⟨x, ts⟩, rfl, ⟨h1, h2, h3, h5⟩⟩
  · rintro ⟨a, rfl, h⟩
    refine ⟨a.nm, _, rfl, h.nm, by rw [List.length_map]; exact h.one, by rw [List.length_map]; exact h.two, fun e he => ?_⟩
    obtain ⟨t, ht, rfl⟩ := List.mem_map.mp he
    exact ⟨t, rfl, h.sm t ht⟩
theorem ats_of : ∀ {ds : List PyData}, (∀ d ∈ ds, IsAm d) → ∃ as : List At, ds = as.map atD ∧ ∀ a ∈ as, AmOk a
  | [], _ => ⟨[], rfl, by simp⟩
  | d :: ds, h => by
    obtain ⟨a, rfl, h1⟩ := isAm_at.mp (h d (by simp))
    obtain ⟨as, rfl, h2⟩ := ats_of (ds := ds) fun x hx => h x (by simp [hx])
    exact ⟨a :: as, rfl, fun u hu => by rcases List.mem_cons.mp hu with rfl | hu; exact h1; exact h2 u hu⟩
theorem eqv_tm : ∀ {a b : Tm}, PyData.eqv (tmD a) (tmD b) = true ↔ a = b := by
  have n0s : ("0" : Str) ≠ "s" := by decide +kernel
  have n0f : ("0" : Str) ≠ "f" := by decide +kernel
  have nsf : ("s" : Str) ≠ "f" := by decide +kernel
  intro a
  induction a with
  | v n => intro b; cases b <;> simp [tmD, PyData.eqv]
  | z => intro b; cases b <;> simp [tmD, PyData.eqv, PyData.eqvAll]
  | s t ih =>
    intro b
    cases b with
    | s t' => simp only [tmD]; rw [eqv_tup, eqvAll_cons, eqvAll_cons, eqvAll_nil]; simp [PyData.eqv, ih]
    | _ => simp [tmD, PyData.eqv, PyData.eqvAll]
  | f l r ih1 ih2 =>
    intro b
    cases b with
    | f l' r' => simp only [tmD]; rw [eqv_tup, eqvAll_cons, eqvAll_cons, eqvAll_cons, eqvAll_nil]; simp [PyData.eqv, ih1, ih2]
    | _ => simp [tmD, PyData.eqv, PyData.eqvAll]
theorem eqv_tms : ∀ {ts us : List Tm}, PyData.eqvAll (ts.map tmD) (us.map tmD) = true ↔ ts = us
  | [], [] => by simp [PyData.eqvAll]
  | [], _ :: _ => by simp [PyData.eqvAll]
  | _ :: _, [] => by simp [PyData.eqvAll]
  | t :: ts, u :: us => by rw [List.map_cons, List.map_cons, eqvAll_cons, Bool.and_eq_true, eqv_tm, eqv_tms]; simp
theorem eqv_at {a b : At} : PyData.eqv (atD a) (atD b) = true ↔ a = b := by
  unfold atD
  rw [eqv_tup, eqvAll_cons, Bool.and_eq_true, eqv_tms]
  cases a; cases b
  simp [PyData.eqv]
theorem in_ats {as : List At} {a : At} : (as.map atD).any (fun z => PyData.eqv z (atD a)) = decide (a ∈ as) := by
  rw [Bool.eq_iff_iff, List.any_eq_true, decide_eq_true_iff]
  constructor
  · rintro ⟨d, hd, e⟩
    obtain ⟨b, hb, rfl⟩ := List.mem_map.mp hd
    rw [eqv_at] at e
    rw [← e]; exact hb
  · intro h
    exact ⟨_, List.mem_map.mpr ⟨a, h, rfl⟩, eqv_at.mpr rfl⟩
/-- of alike ones the first kept -/
def unlG (acc : List At) (as : List At) : List At := as.foldl (fun acc a => if a ∈ acc then acc else acc ++ [a]) acc
def unl (as : List At) : List At := unlG [] as
theorem unlG_le : ∀ {as acc : List At}, (unlG acc as).length ≤ acc.length + as.length
  | [], acc => Nat.le_refl _
  | a :: as, acc => by
    have h := unlG_le (as := as) (acc := if a ∈ acc then acc else acc ++ [a])
    have e : unlG acc (a :: as) = unlG (if a ∈ acc then acc else acc ++ [a]) as := rfl
    rw [e]
    split at h <;> simp at h ⊢ <;> simp [*] <;> omega
theorem unlG_len : ∀ {as acc : List At}, (unlG acc as).length = acc.length + as.length ↔ (∀ a ∈ as, a ∉ acc) ∧ as.Nodup
  | [], acc => by simp [unlG]
  | a :: as, acc => by
    have e : unlG acc (a :: as) = unlG (if a ∈ acc then acc else acc ++ [a]) as := rfl
    rw [e]
    by_cases h : a ∈ acc
    · have l := unlG_le (as := as) (acc := acc)
      rw [if_pos h]
      constructor
      · intro z; simp at z; omega
      · intro z; exact absurd h (z.1 a (by simp))
    · rw [if_neg h]
      have ih := unlG_len (as := as) (acc := acc ++ [a])
      rw [List.length_append, List.length_singleton] at ih
      rw [List.length_cons, show acc.length + (as.length + 1) = acc.length + 1 + as.length by omega, ih, List.nodup_cons]
      constructor
      · intro z
        refine ⟨fun x hx => ?_, fun hm => ?_, z.2⟩
        · rcases List.mem_cons.mp hx with rfl | hx
          · exact h
          · exact fun hm => z.1 x hx (by simp [hm])
        · exact z.1 a hm (by simp)
      · rintro ⟨z1, z2, z3⟩
        refine ⟨fun x hx hm => ?_, z3⟩
        rcases List.mem_append.mp hm with hm | hm
        · exact z1 x (by simp [hx]) hm
        · obtain rfl : x = a := by simpa using hm
          exact z2 hx
theorem unl_len {as : List At} : (unl as).length = as.length ↔ as.Nodup := by
  have := unlG_len (as := as) (acc := [])
  simp at this
  exact this
theorem unl_le {as : List At} : (unl as).length ≤ as.length := by
  have := unlG_le (as := as) (acc := [])
  simp at this
  exact this
theorem unl_snoc {as : List At} {a : At} : unl (as ++ [a]) = if a ∈ unl as then unl as else unl as ++ [a] := by
  unfold unl unlG
  rw [List.foldl_append]
  rfl
theorem mem_unlG : ∀ {as acc : List At} {x : At}, x ∈ unlG acc as → x ∈ acc ∨ x ∈ as
  | [], acc, x, h => .inl h
  | a :: as, acc, x, h => by
    have e : unlG acc (a :: as) = unlG (if a ∈ acc then acc else acc ++ [a]) as := rfl
    rw [e] at h
    rcases mem_unlG h with h | h
    · split at h
      · exact .inl h
      · rcases List.mem_append.mp h with h | h
        · exact .inl h
        · exact .inr (by simp at h; simp [h])
    · exact .inr (by simp [h])
theorem mem_unl {as : List At} {x : At} (h : x ∈ unl as) : x ∈ as := by
  rcases mem_unlG h with h | h
  · simp at h
  · exact h
/-- all of some data that may be laid -/
theorem lay_all {k : Nat} : ∀ {ds : List PyData}, (∀ d ∈ ds, d.canLay0 = true ∧ d.depth ≤ k) → PyData.canLayAll0 ds = true ∧ PyData.depthAll ds ≤ k
  | [], _ => ⟨rfl, Nat.zero_le _⟩
  | d :: ds, h => by
    have ih := lay_all (ds := ds) fun x hx => h x (by simp [hx])
    have z := h d (by simp)
    simp only [PyData.canLayAll0, PyData.depthAll, z.1, ih.1]
    exact ⟨rfl, by omega⟩
theorem lay_list {ds : List PyData} (h : ∀ d ∈ ds, okD d) : SeqAt.shaped (.list ds) = true := by
  have z := lay_all h
  refine shaped_of ?_ ?_
  · show PyData.canLayAll0 _ = true
    exact z.1
  · show PyData.depthAll _ + 1 ≤ 64
    omega
def spUnl : Sp := fun vs H Q _ => ∃ (b q : Addr) (xs : List V) (as : List At), vs = [.ref q] ∧ TupAt H q xs ∧ DAtAll H b xs (as.map atD) ∧ (∀ a ∈ as, okD (atD a)) ∧ as.length ≤ 1000 ∧ ∀ (p : Addr) (ys : List V) (H' : Hp), H' p = some (.tup ys) → DAtAll H' b ys ((unl as).map atD) → Same H H' → Q (.ref p) H'
section
variable {P : Program} {w : World} {K : PySem.W.Frag} {mg : Str → Option Value} {base : Heap}
theorem scUnlike : FnScope ["atoms", "found", "atom"] ["atoms"] (defScope sUnlike) := ⟨rfl, rfl, rfl, by decide +kernel, rfl, by decide +kernel, by decide +kernel⟩
theorem ok_unl {f : Addr} {fd : FuncData} (F : Fun K "unlike" "unlike" sUnlike f fd) (mTuple : mg "tuple" = none) : FnOk P w K mg base CX0 1 f fd ["atoms"] spUnl := by
  refine F.ok scUnlike (fun vs H Q E h => ?_) (fun cdv A outer s H vs Q E hr h => ?_)
  · obtain ⟨b, q, xs, as, rfl, _⟩ := h
    rfl
  obtain ⟨b, q, xs, as, rfl, hq, A1, ok, few, fin⟩ := h
  refine ⟨_, pss_cons (ps_set (i := 1) scUnlike.nd rfl (Or.inl rfl) (pe_lst pa_nil))
    (pss_cons (ps_for PassesOwn.never rfl (pi_tup (pv 0)) (pg_name (i := 2) scUnlike.nd rfl (Or.inl rfl))
      (pss_one (ps_if (pt_cmpR (op_notInD (hu65 hr)) (pv 2) (pv 1) (by rfl)) (pss_one (ps_expr (pe_bm PySem.F.plainAttrs_list PySem.F.slot_list_append PySem.F.type_list_append mt_append (pv 1) (pa_cons (pv 2) pa_nil)))) pss_nil)))
    (pss_one (ps_ret (pe_callTy call_tuple_of (by rfl) mTuple (by decide +kernel) (pa_cons (pv 1) pa_nil))))), ?_⟩
  have big : (10000 : Nat) ≤ sizeLine := by decide
  have xl := A1.len
  rw [List.length_map] at xl
  refine ⟨(by show 0 ≤ sizeLine; decide), fun l hl => ?_⟩
  have s1 := same_new hl (.lst ([] : List V))
  have hq1 := hq.same s1
  refine ⟨_, rfl, q, rfl, ⟨_, .inl hq1⟩, for_tup (K := K) (a := q) (xs := xs) (fun i σ H2 => ∃ (x2 : Option V) (ys : List V), σ = [some (.ref q), some (.ref l), x2] ∧ H2 l = some (.lst ys) ∧ DAtAll H b ys ((unl (as.take i)).map atD) ∧ Same H H2)
    ⟨none, [], rfl, upd_same, DAtAll.nil, s1⟩ (fun i σ H2 _ ⟨_, _, _, _, _, h⟩ => .inl (hq.same h)) ?_ ?_⟩
  · rintro i x σ H2 hi ⟨x2, ys, rfl, h2, Y2, s2⟩
    obtain ⟨d, hd, T⟩ := A1.get hi
    rw [List.getElem?_map] at hd
    obtain ⟨a, ha, rfl⟩ := Option.map_eq_some_iff.mp hd
    have am := List.mem_of_getElem? ha
    have li : i < as.length := (List.getElem?_eq_some_iff.mp ha).1
    have yl := Y2.len
    rw [List.length_map] at yl
    have ul := unl_le (as := as.take i)
    rw [List.length_take] at ul
    have tk : unl (as.take (i + 1)) = if a ∈ unl (as.take i) then unl (as.take i) else unl (as.take i) ++ [a] := by rw [List.take_add_one, ha]; exact unl_snoc
    refine ⟨_, rfl, _, rfl, atD a, (unl (as.take i)).map atD, (T.same s2).dp, .lst (.inl (.inl h2)) (Y2.same s2).dp, shaped_of (ok a am).1 (by have := (ok a am).2; omega), lay_list fun e he => ?_, !decide (a ∈ unl (as.take i)), by rw [in_ats], ?_⟩
    · obtain ⟨c, hc, rfl⟩ := List.mem_map.mp he
      exact ok c (List.mem_of_mem_take (mem_unl hc))
    by_cases hm : a ∈ unl (as.take i)
    · rw [decide_eq_true hm]
      rw [if_pos hm] at tk
      exact iteF ⟨_, ys, rfl, h2, by rw [tk]; exact Y2, s2⟩
    · rw [decide_eq_false hm]
      rw [if_neg hm] at tk
      refine iteT ?_
      refine ⟨_, rfl, .inl ⟨rfl, _, .inl (.inl h2)⟩, _, rfl, l, _, _, rfl, rfl, h2, by omega, ?_⟩
      have s3 : Same H (upd H2 l (.lst (ys ++ [x]))) := fun c o z => by rw [upd_ne (ne_of_none z hl)]; exact s2 _ _ z
      refine ⟨_, ys ++ [x], rfl, upd_same, ?_, s3⟩
      rw [tk, List.map_append]
      exact Y2.append (.cons T .nil)
  · rintro σ H2 ⟨x2, ys, rfl, h2, Y2, s2⟩
    rw [List.take_of_length_le (by omega)] at Y2
    exact ⟨_, rfl, l, _, rfl, .inl ⟨.inl (.inl h2), fun p hp => fin p _ _ upd_same (Y2.same (s2.trans (same_new hp _))) (s2.trans (same_new hp _))⟩⟩
end
end Rp

/-! a, *b = xs, a list of one item at least. -/
namespace Rp
open PySem PySem.Spec PySem.Calls PyProof.Rows L2 PySem.W
section
variable {prog : Program} {w : World} {A : Around} {E : Value → Shared → Prop} {s : Shared}
theorem unpack_star {l : Addr} {items : Array Value} {n i : Nat} {Q : List Value → Shared → Prop} (isL : s.heap.IsList l items) (calm : A.handled = none) (hi : i < n) (hn : n ≤ items.size + 1) (few : items.size ≤ 16384)
    (go : ∀ (h' : Heap) (tk : Nat), (∀ b o, s.heap.get? b = some o → h'.get? b = some o) → Q (items.toList.take i ++ [.ref h'.objs.size] ++ (items.toList.drop i).drop (items.size + 1 - n))
      { s with heap := h'.push (seqObj "list" ((items.toList.drop i).take (items.size + 1 - n)).toArray 0), toks := tk }) : wpAny (model prog w) A (unpackItems (.ref l) n (some i)) Q E s := by
  have apart : l ≠ s.heap.objs.size := by obtain ⟨o, ho, _⟩ := isL; exact Nat.ne_of_lt (Heap.lt_size ho)
  unfold unpackItems; refine wpAny_bind ?_; unfold notIterableAtAll
  refine wpAny_bind (wpAny_specialOf isL.typeIs slot_list_iter.lookup (wpAny_pure ?_)); simp only [Bool.false_eq_true, if_false]
  refine wpAny_bind (wpAny_holding (wpAny_pyIter_list isL (wpAny_bind (wpAny_holding (kun_draw apart i 0 _ _ ⟨_, Heap.get?_push_size _ rfl, rfl, rfl⟩ (isL.push _) (by omega) fun h₁ it1 sb1 => ?_)))))
  have isL1 : h₁.IsList l items := (isL.push _).extBut sb1.extBut apart
  rw [Nat.zero_add] at it1
  obtain ⟨oi, hoi, _⟩ := id it1
  obtain ⟨ol, hol, _⟩ := id isL1
  rw [List.drop_zero, if_neg (show ¬ ((items.toList.take i).length < i) by rw [List.length_take, Array.length_toList]; omega)]
  refine wpAny_bind (wpAny_holding (kun_collect (s := { s with heap := h₁ }) (T := "list_iterator") (.inr (.inr (.inl rfl))) (Walks.list (A := A.in1) calm s.heap.objs.size l apart items) (fun j u st => st.1.typeIs) (k := i) (by omega) ⟨it1, isL1⟩
    (Heap.lt_size hoi) (Heap.lt_size hol) (fun h₂ tk old => ?_) (by rw [sizeLine_eq]; omega)))
  have rest : (items.toList.drop i).length = items.size - i := by rw [List.length_drop, Array.length_toList]
  show wpAny _ _ (if (items.toList.drop i).length < n - 1 - i then _ else _) _ _ _; rw [if_neg (by rw [rest]; omega)]
  show wpAny _ _ (newList ((items.toList.drop i).take ((items.toList.drop i).length - (n - 1 - i))) >>= fun d => pure (items.toList.take i ++ [d] ++ (items.toList.drop i).drop ((items.toList.drop i).length - (n - 1 - i)))) _ _ _
  rw [show (items.toList.drop i).length - (n - 1 - i) = items.size + 1 - n by rw [rest]; omega]
  refine wpAny_bind (wpAny_newList (wpAny_pure (go h₂ tk fun b o z => old b o (Nat.ne_of_lt (Heap.lt_size z)) (sb1.extBut b o (Nat.ne_of_lt (Heap.lt_size z)) (Heap.get?_push_of_some _ z)))) (by rw [List.length_take, rest, sizeLine_eq]; omega))
end
section
variable {X : Cx} {pos : Pos}
/-- (a, *b) = a list: the first item, a new list of the others -/
def gStar (K : PySem.W.Frag) (t : TGs) : TG := fun v σ H Q => ∃ (a : Addr) (x : V) (xs : List V), v = .ref a ∧ SqL K H a (x :: xs) ∧ xs.length ≤ 16000 ∧ ∀ p, H p = none → t [x, .ref p] σ (upd H p (.lst xs)) Q
theorem pg_star {es : List Expr} {k : Nat} {t : TGs} (calm : X.calm = true) (h : PGs X es t) (hn : (assignEach es X.env).length = 2 := by rfl) (hst : (assignEach es X.env).findIdx? (·.1) = some 1 := by rfl) : PG X (.Tuple es k pos) (gStar X.K t) := by
  refine ⟨fun pins s σ H v u Q I r hw => ?_⟩
  obtain ⟨a, x, xs, rfl, sq, few, go⟩ := hw
  cases r
  obtain ⟨its, rv, isL, _⟩ := I.list sq
  have len := rv.length
  cases rv with
  | @cons _ v0 _ vs r0 rr =>
    have lv := rr.length
    rw [assign_Tuple]
    refine wpAny_bind (wpAny_standAt ?_)
    unfold unpack
    rw [hn, hst]
    refine wpAny_bind (wpAny_holding (unpack_star isL.isList (I.ok.hd calm) (by decide) (by simp) (by simp; omega) fun h' tk old => ?_))
    have J : Inv X pins σ H { s with heap := h', toks := tk } := I.kept old
    have big : (20000 : Nat) ≤ sizeLine := by decide
    have K1 : Inv X pins σ (upd H h'.objs.size (.lst xs)) { s with heap := h'.push (seqObj "list" vs.toArray 0), toks := tk } :=
      J.laid (t' := tk) (fun b o z => Heap.get?_push_of_some _ z) (Nat.le_refl _) ⟨by omega, vs, 0, rr, Heap.get?_push_size _ rfl⟩
    have e1 : ((v0 :: vs).toArray.toList.drop 1).take ((v0 :: vs).toArray.size + 1 - 2) = vs := by simp
    have e2 : (v0 :: vs).toArray.toList.take 1 ++ [Value.ref h'.objs.size] ++ ((v0 :: vs).toArray.toList.drop 1).drop ((v0 :: vs).toArray.size + 1 - 2) = [v0, .ref h'.objs.size] := by simp
    rw [e1, e2]
    exact h.run pins _ σ _ [x, .ref h'.objs.size] _ Q K1 (.cons r0 (.cons rfl .nil)) (go _ (J.hok.fresh (Nat.le_refl _)))
end
end Rp

set_option maxHeartbeats 8000000
/-! is_saying over data of any kind. -/
namespace Rp
open PySem PySem.Spec PyProof.Rows L2 TL RZ StX
mutual
/-- the texts among data are short, its lists and tuples not wide -/
def shS : PyData → Prop
  | .str x => x.length ≤ 1000 | .list ds => ds.length ≤ 1000 ∧ shAll ds | .tuple ds => ds.length ≤ 1000 ∧ shAll ds | _ => True
def shAll : List PyData → Prop
  | [] => True
  | d :: ds => shS d ∧ shAll ds
end
theorem shAll_iff : ∀ {ds : List PyData}, shAll ds ↔ ∀ d ∈ ds, shS d
  | [] => by simp [shAll]
  | d :: ds => by simp only [shAll, shAll_iff (ds := ds), List.mem_cons, forall_eq_or_imp]
theorem shS.tup {ds : List PyData} (h : shS (.tuple ds)) : ∀ d ∈ ds, shS d := shAll_iff.mp (by unfold shS at h; exact h.2)
theorem shS.wide {ds : List PyData} (h : shS (.tuple ds)) : ds.length ≤ 1000 := by unfold shS at h; exact h.1
theorem shS.str {x : Str} (h : shS (.str x)) : x.length ≤ 1000 := by unfold shS at h; exact h
theorem shS.am {d : PyData} (h : shS d) : ∀ x ds, d = .tuple (.str x :: ds) → x.length ≤ 1000 := fun x ds e => by
  subst e
  exact (h.tup _ (by simp)).str
/-- what may be asked of data: not too deep, not too large, with short texts -/
structure DOk (d : PyData) : Prop where
  ok : okD d
  sz : nd d ≤ 1000
  sh : shS d
theorem DOk.tup {ds : List PyData} (h : DOk (.tuple ds)) : ∀ d ∈ ds, DOk d := fun d hd => ⟨h.ok.tup d hd, Nat.le_trans (nd_mem hd) h.sz, h.sh.tup d hd⟩
theorem DOk.few {ds : List PyData} (h : DOk (.tuple ds)) : ds.length ≤ 1000 := Nat.le_trans ndAll_le h.sz
structure SyD (hs : List PyData) (g : PyData) : Prop where
  few : hs.length ≤ 6
  am : ∀ h ∈ hs, IsAm h
  g : IsAm g
  nd : hs.Nodup
def IsSy (d : PyData) : Prop := ∃ hs g, d = .tuple [.tuple hs, g] ∧ SyD hs g
theorem isSy_two {hs : List PyData} {g : PyData} : IsSy (.tuple [.tuple hs, g]) ↔ SyD hs g :=
  ⟨fun ⟨hs', g', e, h⟩ => by injection e with e; injection e with e1 e2; injection e1 with e1; injection e2 with e2; subst e1 e2; exact h, fun h => ⟨hs, g, rfl, h⟩⟩
theorem isSy_len {ds : List PyData} (h : ds.length ≠ 2) : ¬ IsSy (.tuple ds) := fun ⟨hs, g, e, _⟩ => by
  injection e with e
  subst e
  exact h rfl
theorem atD_inj {a b : At} (h : atD a = atD b) : a = b := eqv_at.mp (by rw [h]; exact eqv_at.mpr rfl)
theorem nodup_atD {as : List At} : (as.map atD).Nodup ↔ as.Nodup := by
  induction as with
  | nil => simp
  | cons a as ih =>
    rw [List.map_cons, List.nodup_cons, List.nodup_cons, ih]
    constructor
    · rintro ⟨h1, h2⟩
      exact ⟨fun h => h1 (List.mem_map.mpr ⟨a, h, rfl⟩), h2⟩
    · rintro ⟨h1, h2⟩
      exact ⟨fun h => by obtain ⟨b, hb, e⟩ := List.mem_map.mp h; rw [atD_inj e] at hb; exact h1 hb, h2⟩
def spIsSy : Sp := fun vs H Q _ => ∃ (b : Addr) (v : V) (d : PyData), vs = [v] ∧ DAt H b v d ∧ DOk d ∧ ∀ (r : Bool) (H' : Hp), (r = true ↔ IsSy d) → Same H H' → Q (.bl r) H'
section
variable {P : Program} {w : World} {K : PySem.W.Frag} {mg : Str → Option Value} {base : Heap}
theorem scIsSaying : FnScope ["thing", "hyps", "goal", "atom"] ["thing"] (defScope sIsSaying) := ⟨rfl, rfl, rfl, by decide +kernel, rfl, by decide +kernel, by decide +kernel⟩
theorem ok_issy {f fA fU : Addr} {fd dA dU : FuncData} {t3 : Tok} (F : Fun K "is_saying" "is_saying" sIsSaying f fd)
    (GA : FnOk P w K mg base CX0 4 fA dA ["thing"] spIsAm) (kA : PySem.W.keepIn K (.ref fA) = true) (bA : Binds K dA ["thing"] []) (mA : mg "is_atom" = some (.ref fA))
    (GU : FnOk P w K mg base CX0 1 fU dU ["atoms"] spUnl) (kU : PySem.W.keepIn K (.ref fU) = true) (bU : Binds K dU ["atoms"] []) (mU : mg "unlike" = some (.ref fU))
    (mH : mg "MOST_HYPS" = some (.int 6 t3)) (M : SameG mg) : FnOk P w K mg base CX0 5 f fd ["thing"] spIsSy := by
  refine F.ok scIsSaying (fun vs H Q E h => ?_) (fun cdv A outer s H vs Q E hr h => ?_)
  · obtain ⟨b, v, d, rfl, _⟩ := h
    rfl
  obtain ⟨b, v, d, rfl, D, ok, q⟩ := h
  have r1 : Room 1 _ := hr.mono (by decide)
  refine ⟨_, pss_cons (ps_if (PW.pt (pw_or (pt_not (pt_val (pe_callB (id := "isinstance") call_isi (by rfl) M.isi (by decide +kernel) (pa_cons (pv 0) (pa_cons (pe_bltn (v := .ty "tuple") (by rfl) M.tuple (by decide +kernel) rfl) pa_nil)))))
      (pw_or1 (pt_cmpR op_ne (pe_callB call_len_seq (by rfl) M.len PySem.boot_len (pa_cons (pv 0) pa_nil)) pe_int (nomark _))))) (pss_one (ps_ret pe_bl)) pss_nil)
    (pss_cons (ps_asg (pv 0) (pg_tup (by rfl) (pgs_cons (pg_name (i := 1) scIsSaying.nd rfl (Or.inl rfl)) (pgs_cons (pg_name (i := 2) scIsSaying.nd rfl (Or.inl rfl)) pgs_nil))))
    (pss_cons (ps_if (PW.pt (pw_or (pt_not (pt_val (pe_callB (id := "isinstance") call_isi (by rfl) M.isi (by decide +kernel) (pa_cons (pv 1) (pa_cons (pe_bltn (v := .ty "tuple") (by rfl) M.tuple (by decide +kernel) rfl) pa_nil)))))
      (pw_or1 (pt_cmpR op_gt (pe_callB call_len_seq (by rfl) M.len PySem.boot_len (pa_cons (pv 1) pa_nil)) (pe_glob (v := .int 6) (by rfl) mH ⟨_, rfl⟩) (nomark _))))) (pss_one (ps_ret pe_bl)) pss_nil)
    (pss_one (ps_ret (pe_and (pe_callB (cr_all rfl) (by rfl) M.all (by decide +kernel) (pa_cons (pe_lc (own := [("atom", 3)]) (g := gName 3) (tt := tYes) (te := tCall spIsAm [] E0 (tCons (tVar 3) tNil)) rfl scIsSaying.nd
        (pi_tup (pe_tup (pa_star (pv 1) (pa_cons (pv 2) pa_nil)))) (blkOk_by (N := ["thing", "hyps", "goal", "atom"]) (sc := defScope sIsSaying) (by decide +kernel)) (fun _ _ _ _ _ => pg_name (i := 3) scIsSaying.nd rfl (Or.inl rfl))
        (fun _ _ _ _ _ => pts_nil) (fun _ _ _ _ _ => pe_call GA hr (by rfl) mA kA bA .nil pass0 (pa_cons (pv 3) pa_nil))) pa_nil))
      (pe_one (pe_cmpR op_eq (pe_callB call_len_seq (by rfl) M.len PySem.boot_len (pa_cons (pe_call GU r1 (by rfl) mU kU bU .nil pass0 (pa_cons (pv 1) pa_nil)) pa_nil)) (pe_callB call_len_seq (by rfl) M.len PySem.boot_len (pa_cons (pv 1) pa_nil)) (nomark _)))))))), ?_⟩
  have no : ∀ {H' : Hp}, Same H H' → ¬ IsSy d → Q (.bl false) H' := fun s h => q false _ ⟨(fun e => nomatch e), fun z => absurd z h⟩ s
  refine ⟨_, rfl, _, _, _, _, isU d, rfl, .ty "tuple", D.tyx, kitU d, isU d, rfl, ?_⟩
  cases d with
  | tuple ds =>
    obtain ⟨p, xs, rfl, hp, A'⟩ := D.tup_of
    have el := A'.len
    refine iteF ?_
    refine ⟨_, rfl, p, _, rfl, .inr (.inl hp), rfl, !decide (V.int ((xs.length : Nat) : Int) = V.int 2), rfl, ?_⟩
    by_cases h2 : xs.length = 2
    · rw [decide_eq_true (by rw [h2]; rfl)]
      refine iteF ?_
      match ds, xs, A', h2 with
      | [dh, dg], [x0, x1], A', _ =>
        obtain ⟨_, _, e', D0, A1⟩ := A'.head
        injection e' with e1 e2
        subst e1 e2
        obtain ⟨_, _, e', D1, _⟩ := A1.head
        injection e' with e1 e2
        subst e1
        have ok0 := ok.tup dh (by simp)
        have ok1 := ok.tup dg (by simp)
        refine ⟨_, rfl, p, _, rfl, .inl hp, rfl, _, _, rfl, _, _, rfl, rfl, ?_⟩
        refine ⟨_, rfl, _, _, _, _, isU dh, rfl, .ty "tuple", D0.tyx, kitU dh, isU dh, rfl, ?_⟩
        cases dh with
        | tuple hs =>
          obtain ⟨u, ys, rfl, hu, Y⟩ := D0.tup_of
          have yl := Y.len
          refine iteF ?_
          refine ⟨_, rfl, u, _, rfl, .inr (.inl hu), _, _, rfl, rfl, decide ((6 : Int) < (ys.length : Nat)), rfl, ?_⟩
          by_cases h6 : (6 : Int) < (ys.length : Nat)
          · rw [decide_eq_true h6]
            exact iteT (no (Same.refl H) fun z => by have := (isSy_two.mp z).few; omega)
          · rw [decide_eq_false h6]
            refine iteF ?_
            have big : (10000 : Nat) ≤ sizeLine := by decide
            refine ⟨_, rfl, u, ys, rfl, .inl (.inl hu), _, rfl, by simp; omega, fun g hg => ?_⟩
            have s1 := same_new hg (.tup (ys ++ [x1]))
            have A2 : DAtAll H b (ys ++ [x1]) (hs ++ [dg]) := Y.append (.cons D1 .nil)
            refine ⟨g, rfl, ⟨_, .inl (.inl upd_same)⟩, fun DD hD => lc_pred (K := K) (b := b) (ds := hs ++ [dg]) (Pd := IsAm) (by show 3 < 4; decide) hD (.inl upd_same) (A2.same s1) (by rw [List.length_append, List.length_singleton]; omega)
              (fun x e H2 Q' he De _ k => ?_) fun bs H2 hb2 all2 s3 => ?_⟩
            · have oke : DOk e := by
                rcases List.mem_append.mp he with he | he
                · exact ok0.tup e he
                · obtain rfl : e = dg := by simpa using he
                  exact ok1
              exact ⟨b, x, e, rfl, De, oke.ok, oke.sz, oke.sh.am, k⟩
            · refine ⟨DD, bs, rfl, .inl (.inl hb2), ?_⟩
              have s13 := s1.trans s3
              by_cases ha : bs.all id = true
              · rw [ha]
                refine ⟨true, rfl, iteT ?_⟩
                have each := all2.mp ha
                obtain ⟨as, rfl, aok⟩ := ats_of (ds := hs) fun d hd => each d (by simp [hd])
                have ag := each dg (by simp)
                rw [List.length_map] at yl
                refine ⟨_, rfl, b, u, ys, as, rfl, hu.same s13, Y.same s13, fun a ha => (ok0.tup _ (List.mem_map.mpr ⟨a, ha, rfl⟩)).ok, by omega, fun o zs H3 ho Z s4 => ?_⟩
                have zl := Z.len
                rw [List.length_map] at zl
                refine ⟨o, _, rfl, .inr (.inl (.inl ho)), _, rfl, u, _, rfl, .inr (.inl ((hu.same s13).same s4)), rfl, ?_⟩
                refine q _ H3 ?_ (s13.trans s4)
                rw [isSy_two, decide_eq_true_iff]
                constructor
                · intro e
                  have e' : zs.length = ys.length := by injection e with e; omega
                  refine ⟨by rw [List.length_map]; omega, fun h hh => each h (by simp at hh ⊢; exact .inl hh), ag, nodup_atD.mpr (unl_len.mp (by omega))⟩
                · intro h
                  have := unl_len.mpr (nodup_atD.mp h.nd)
                  rw [show zs.length = ys.length by omega]
              · rw [Bool.not_eq_true] at ha
                rw [ha]
                refine ⟨false, rfl, iteF (no s13 fun z => ?_)⟩
                have z := isSy_two.mp z
                have := all2.mpr fun e he => by
                  rcases List.mem_append.mp he with he | he
                  · exact z.am e he
                  · obtain rfl : e = dg := by simpa using he
                    exact z.g
                rw [ha] at this
                cases this
        | _ => exact iteT (no (Same.refl H) fun ⟨_, _, z, _⟩ => nomatch z)
    · rw [decide_eq_false (by intro e; injection e with e; omega)]
      exact iteT (no (Same.refl H) (isSy_len (by omega)))
  | _ => exact iteT (no (Same.refl H) fun ⟨_, _, z, _⟩ => nomatch z)
end
end Rp

set_option maxHeartbeats 8000000
/-! The law's own looks at SAYINGs. -/
namespace Rp
open PySem PySem.Spec PyProof.Rows L2 TL RZ StX
theorem unlG_nd : ∀ {as acc : List At}, (∀ a ∈ as, a ∉ acc) → as.Nodup → unlG acc as = acc ++ as
  | [], acc, _, _ => by simp [unlG]
  | a :: as, acc, h1, h2 => by
    have e : unlG acc (a :: as) = unlG (if a ∈ acc then acc else acc ++ [a]) as := rfl
    rw [List.nodup_cons] at h2
    rw [e, if_neg (h1 a (by simp)), unlG_nd (fun x hx hm => ?_) h2.2]
    · simp
    · rcases List.mem_append.mp hm with hm | hm
      · exact h1 x (by simp [hx]) hm
      · obtain rfl : x = a := by simpa using hm
        exact h2.1 hx
theorem unl_id {as : List At} : unl as = as ↔ as.Nodup := by
  constructor
  · intro h
    rw [← unl_len, h]
  · intro h
    have := unlG_nd (as := as) (acc := []) (by simp) h
    show unlG [] as = as
    rw [this]
    rfl
theorem eqv_ats : ∀ {as bs : List At}, PyData.eqvAll (as.map atD) (bs.map atD) = true ↔ as = bs
  | [], [] => by simp [PyData.eqvAll]
  | [], _ :: _ => by simp [PyData.eqvAll]
  | _ :: _, [] => by simp [PyData.eqvAll]
  | t :: ts, u :: us => by rw [List.map_cons, List.map_cons, eqvAll_cons, Bool.and_eq_true, eqv_at, eqv_ats]; simp
theorem lay_tup {k : Nat} {ds : List PyData} (h : ∀ d ∈ ds, okD d) : SeqAt.shaped (.tuple ds) = true := by
  have z := lay_all h
  refine shaped_of ?_ ?_
  · show PyData.canLayAll0 _ = true
    exact z.1
  · show PyData.depthAll _ + 1 ≤ 64
    omega
section
variable {P : Program} {w : World} {K : PySem.W.Frag} {mg : Str → Option Value} {base : Heap}
theorem scUnlikeL : FnScope ["_law_atoms", "_law_found", "_law_atom_here"] ["_law_atoms"] (defScope sUnlikeL) := ⟨rfl, rfl, rfl, by decide +kernel, rfl, by decide +kernel, by decide +kernel⟩
theorem ok_unlW {f : Addr} {fd : FuncData} (F : Fun K "_law_unlike" "_law_unlike" sUnlikeL f fd) (mTuple : mg "tuple" = none) : FnOk P w K mg base CX0 1 f fd ["_law_atoms"] spUnl := by
  refine F.ok scUnlikeL (fun vs H Q E h => ?_) (fun cdv A outer s H vs Q E hr h => ?_)
  · obtain ⟨b, q, xs, as, rfl, _⟩ := h
    rfl
  obtain ⟨b, q, xs, as, rfl, hq, A1, ok, few, fin⟩ := h
  refine ⟨_, pss_cons (ps_set (i := 1) scUnlikeL.nd rfl (Or.inl rfl) (pe_lst pa_nil))
    (pss_cons (ps_for PassesOwn.never rfl (pi_tup (pv 0)) (pg_name (i := 2) scUnlikeL.nd rfl (Or.inl rfl))
      (pss_one (ps_if (pt_cmpR (op_notInD (hu65 hr)) (pv 2) (pv 1) (by rfl)) (pss_one (ps_expr (pe_bm PySem.F.plainAttrs_list PySem.F.slot_list_append PySem.F.type_list_append mt_append (pv 1) (pa_cons (pv 2) pa_nil)))) pss_nil)))
    (pss_one (ps_ret (pe_callTy call_tuple_of (by rfl) mTuple (by decide +kernel) (pa_cons (pv 1) pa_nil))))), ?_⟩
  have big : (10000 : Nat) ≤ sizeLine := by decide
  have xl := A1.len
  rw [List.length_map] at xl
  refine ⟨(by show 0 ≤ sizeLine; decide), fun l hl => ?_⟩
  have s1 := same_new hl (.lst ([] : List V))
  have hq1 := hq.same s1
  refine ⟨_, rfl, q, rfl, ⟨_, .inl hq1⟩, for_tup (K := K) (a := q) (xs := xs) (fun i σ H2 => ∃ (x2 : Option V) (ys : List V), σ = [some (.ref q), some (.ref l), x2] ∧ H2 l = some (.lst ys) ∧ DAtAll H b ys ((unl (as.take i)).map atD) ∧ Same H H2)
    ⟨none, [], rfl, upd_same, DAtAll.nil, s1⟩ (fun i σ H2 _ ⟨_, _, _, _, _, h⟩ => .inl (hq.same h)) ?_ ?_⟩
  · rintro i x σ H2 hi ⟨x2, ys, rfl, h2, Y2, s2⟩
    obtain ⟨d, hd, T⟩ := A1.get hi
    rw [List.getElem?_map] at hd
    obtain ⟨a, ha, rfl⟩ := Option.map_eq_some_iff.mp hd
    have am := List.mem_of_getElem? ha
    have li : i < as.length := (List.getElem?_eq_some_iff.mp ha).1
    have yl := Y2.len
    rw [List.length_map] at yl
    have ul := unl_le (as := as.take i)
    rw [List.length_take] at ul
    have tk : unl (as.take (i + 1)) = if a ∈ unl (as.take i) then unl (as.take i) else unl (as.take i) ++ [a] := by rw [List.take_add_one, ha]; exact unl_snoc
    refine ⟨_, rfl, _, rfl, atD a, (unl (as.take i)).map atD, (T.same s2).dp, .lst (.inl (.inl h2)) (Y2.same s2).dp, shaped_of (ok a am).1 (by have := (ok a am).2; omega), lay_list fun e he => ?_, !decide (a ∈ unl (as.take i)), by rw [in_ats], ?_⟩
    · obtain ⟨c, hc, rfl⟩ := List.mem_map.mp he
      exact ok c (List.mem_of_mem_take (mem_unl hc))
    by_cases hm : a ∈ unl (as.take i)
    · rw [decide_eq_true hm]
      rw [if_pos hm] at tk
      exact iteF ⟨_, ys, rfl, h2, by rw [tk]; exact Y2, s2⟩
    · rw [decide_eq_false hm]
      rw [if_neg hm] at tk
      refine iteT ?_
      refine ⟨_, rfl, .inl ⟨rfl, _, .inl (.inl h2)⟩, _, rfl, l, _, _, rfl, rfl, h2, by omega, ?_⟩
      have s3 : Same H (upd H2 l (.lst (ys ++ [x]))) := fun c o z => by rw [upd_ne (ne_of_none z hl)]; exact s2 _ _ z
      refine ⟨_, ys ++ [x], rfl, upd_same, ?_, s3⟩
      rw [tk, List.map_append]
      exact Y2.append (.cons T .nil)
  · rintro σ H2 ⟨x2, ys, rfl, h2, Y2, s2⟩
    rw [List.take_of_length_le (by omega)] at Y2
    exact ⟨_, rfl, l, _, rfl, .inl ⟨.inl (.inl h2), fun p hp => fin p _ _ upd_same (Y2.same (s2.trans (same_new hp _))) (s2.trans (same_new hp _))⟩⟩
end
end Rp

set_option maxHeartbeats 8000000
/-! How deep, wide and long data may be. -/
namespace Rp
open PySem PySem.Spec PyProof.Rows L2 TL RZ StX
mutual
/-- widths to W, texts to L, of ASCII signs, ints to 1000 + L -/
def shG (W L : Nat) : PyData → Prop
  | .str x => x.length ≤ L ∧ (∀ c ∈ tl x, c < 128) | .int n => -((1000 + L : Nat) : Int) ≤ n ∧ n ≤ ((1000 + L : Nat) : Int) | .list ds => ds.length ≤ W ∧ shGs W L ds | .tuple ds => ds.length ≤ W ∧ shGs W L ds | _ => True
def shGs (W L : Nat) : List PyData → Prop
  | [] => True
  | d :: ds => shG W L d ∧ shGs W L ds
end
theorem shGs_iff {W L : Nat} : ∀ {ds : List PyData}, shGs W L ds ↔ ∀ d ∈ ds, shG W L d
  | [] => by simp [shGs]
  | d :: ds => by simp only [shGs, shGs_iff (ds := ds), List.mem_cons, forall_eq_or_imp]
theorem shG_tup {W L : Nat} {ds : List PyData} : shG W L (.tuple ds) ↔ ds.length ≤ W ∧ ∀ d ∈ ds, shG W L d := by
  rw [← shGs_iff]; simp only [shG]
theorem shG_list {W L : Nat} {ds : List PyData} : shG W L (.list ds) ↔ ds.length ≤ W ∧ ∀ d ∈ ds, shG W L d := by
  rw [← shGs_iff]; simp only [shG]
mutual
theorem shG.more {W L W' L' : Nat} (hW : W ≤ W') (hL : L ≤ L') : ∀ {d : PyData}, shG W L d → shG W' L' d
  | .str x, h => by unfold shG at h ⊢; exact ⟨Nat.le_trans h.1 hL, h.2⟩
  | .int n, h => by unfold shG at h ⊢; omega
  | .list ds, h => by unfold shG at h ⊢; exact ⟨Nat.le_trans h.1 hW, shGs.more hW hL h.2⟩
  | .tuple ds, h => by unfold shG at h ⊢; exact ⟨Nat.le_trans h.1 hW, shGs.more hW hL h.2⟩
  | .none, _ => by unfold shG; trivial
  | .bool _, _ => by unfold shG; trivial
  | .dict _, _ => by unfold shG; trivial
theorem shGs.more {W L W' L' : Nat} (hW : W ≤ W') (hL : L ≤ L') : ∀ {ds : List PyData}, shGs W L ds → shGs W' L' ds
  | [], _ => by unfold shGs; trivial
  | d :: ds, h => by unfold shGs at h ⊢; exact ⟨shG.more hW hL h.1, shGs.more hW hL h.2⟩
end
mutual
theorem shG.sh {W L : Nat} (hW : W ≤ 60) (hL : L ≤ 1000) : ∀ {d : PyData}, shG W L d → shS d
  | .str x, h => by unfold shG at h; unfold shS; exact Nat.le_trans h.1 hL
  | .int n, h => by unfold shS; trivial
  | .list ds, h => by unfold shG at h; unfold shS; exact ⟨by omega, shGs.sh hW hL h.2⟩
  | .tuple ds, h => by unfold shG at h; unfold shS; exact ⟨by omega, shGs.sh hW hL h.2⟩
  | .none, _ => by unfold shS; trivial
  | .bool _, _ => by unfold shS; trivial
  | .dict _, _ => by unfold shS; trivial
theorem shGs.sh {W L : Nat} (hW : W ≤ 60) (hL : L ≤ 1000) : ∀ {ds : List PyData}, shGs W L ds → shAll ds
  | [], _ => by unfold shAll; trivial
  | d :: ds, h => by unfold shGs at h; unfold shAll; exact ⟨shG.sh hW hL h.1, shGs.sh hW hL h.2⟩
end
/-- fine: may be laid, to depth k, width W, texts L -/
structure Fq (k W L : Nat) (d : PyData) : Prop where
  lay : d.canLay0 = true
  dp : d.depth ≤ k
  sh : shG W L d
theorem Fq.more {k W L k' W' L' : Nat} {d : PyData} (h : Fq k W L d) (hk : k ≤ k') (hW : W ≤ W') (hL : L ≤ L') : Fq k' W' L' d := ⟨h.lay, Nat.le_trans h.dp hk, h.sh.more hW hL⟩
theorem Fq.dok {k W L : Nat} {d : PyData} (h : Fq k W L d) (hk : k ≤ 60) (hW : W ≤ 60) (hL : L ≤ 1000) (hn : nd d ≤ 1000) : DOk d := ⟨⟨h.lay, Nat.le_trans h.dp hk⟩, hn, h.sh.sh hW hL⟩
theorem fq_tup {k W L : Nat} {ds : List PyData} : Fq (k + 1) W L (.tuple ds) ↔ ds.length ≤ W ∧ ∀ d ∈ ds, Fq k W L d := by
  constructor
  · rintro ⟨h1, h2, h3⟩
    have h3 := shG_tup.mp h3
    have h1 : PyData.canLayAll0 ds = true := h1
    have h2 : PyData.depthAll ds + 1 ≤ k + 1 := h2
    exact ⟨h3.1, fun d hd => ⟨(okAll h1 k (by omega) d hd).1, (okAll h1 k (by omega) d hd).2, h3.2 d hd⟩⟩
  · rintro ⟨h1, h2⟩
    have z := lay_all (k := k) fun d hd => ⟨(h2 d hd).lay, (h2 d hd).dp⟩
    exact ⟨z.1, (by show PyData.depthAll ds + 1 ≤ k + 1; omega), shG_tup.mpr ⟨h1, fun d hd => (h2 d hd).sh⟩⟩
theorem fq_list {k W L : Nat} {ds : List PyData} : Fq (k + 1) W L (.list ds) ↔ ds.length ≤ W ∧ ∀ d ∈ ds, Fq k W L d := by
  constructor
  · rintro ⟨h1, h2, h3⟩
    have h3 := shG_list.mp h3
    have h1 : PyData.canLayAll0 ds = true := h1
    have h2 : PyData.depthAll ds + 1 ≤ k + 1 := h2
    exact ⟨h3.1, fun d hd => ⟨(okAll h1 k (by omega) d hd).1, (okAll h1 k (by omega) d hd).2, h3.2 d hd⟩⟩
  · rintro ⟨h1, h2⟩
    have z := lay_all (k := k) fun d hd => ⟨(h2 d hd).lay, (h2 d hd).dp⟩
    exact ⟨z.1, (by show PyData.depthAll ds + 1 ≤ k + 1; omega), shG_list.mpr ⟨h1, fun d hd => (h2 d hd).sh⟩⟩
/-- an item put in place of another -/
theorem ndAll_set : ∀ {ds : List PyData} {i : Nat} {e : PyData}, ndAll (ds.set i e) ≤ ndAll ds + nd e
  | [], _, _ => by simp [ndAll]
  | d :: ds, 0, e => by simp only [List.set_cons_zero, ndAll]; omega
  | d :: ds, i + 1, e => by have := ndAll_set (ds := ds) (i := i) (e := e); simp only [List.set_cons_succ, ndAll]; omega
theorem ndAll_erase : ∀ {ds : List PyData} {i : Nat}, ndAll (ds.eraseIdx i) ≤ ndAll ds
  | [], _ => by simp [ndAll]
  | d :: ds, 0 => by simp only [List.eraseIdx_cons_zero, ndAll]; omega
  | d :: ds, i + 1 => by have := ndAll_erase (ds := ds) (i := i); simp only [List.eraseIdx_cons_succ, ndAll]; omega
theorem ndAll_back : ∀ {ds : List PyData}, ndAll ds.reverse = ndAll ds
  | [] => rfl
  | d :: ds => by rw [List.reverse_cons, ndAll_append, ndAll_back]; simp only [ndAll]; omega
theorem ndAll_cut {ds : List PyData} {i : Nat} : ndAll (ds.take i) + ndAll (ds.drop i) = ndAll ds := by
  rw [← ndAll_append, List.take_append_drop]
end Rp

set_option maxHeartbeats 8000000
/-! What a bend makes of a text or an int. -/
namespace Rp
open PySem PySem.Spec PyProof.Rows L2 TL RZ StX
/-- a text of few ASCII signs -/
def Asc (L : Nat) (x : Str) : Prop := x.length ≤ L ∧ ∀ c ∈ tl x, c < 128
theorem Asc.fq {k W L : Nat} {x : Str} (h : Asc L x) : Fq k W L (.str x) := by
  refine ⟨?_, Nat.zero_le _, ?_⟩
  · show x.cps.all (· < 0x110000) = true
    rw [Array.all_eq_true']
    intro c hc
    have := h.2 c (Array.mem_toList_iff.mpr hc)
    exact decide_eq_true (by omega)
  · unfold shG; exact h
theorem Fq.asc {k W L : Nat} {x : Str} (h : Fq k W L (.str x)) : Asc L x := by
  have := h.sh
  unfold shG at this
  exact this
theorem Asc.more {L L' : Nat} {x : Str} (h : Asc L x) (hL : L ≤ L') : Asc L' x := ⟨Nat.le_trans h.1 hL, h.2⟩
theorem asc_upper {L : Nat} {x : Str} (h : Asc L x) : Asc L (Txt.upper x) := by
  rw [upper_ascii h.2]
  refine ⟨?_, fun c hc => ?_⟩
  · show (Array.map up1 x.cps).size ≤ L
    rw [Array.size_map]
    exact h.1
  · have hc : c ∈ (Array.map up1 x.cps).toList := hc
    rw [Array.toList_map] at hc
    obtain ⟨e, he, rfl⟩ := List.mem_map.mp hc
    have := h.2 e he
    unfold up1
    split <;> omega
theorem asc_add {L M : Nat} {x y : Str} (h : Asc L x) (h' : Asc M y) : Asc (L + M) (x ++ y) := by
  refine ⟨?_, fun c hc => ?_⟩
  · show (x.cps ++ y.cps).size ≤ L + M
    rw [Array.size_append]
    have h1 : x.cps.size ≤ L := h.1
    have h2 : y.cps.size ≤ M := h'.1
    omega
  · have hc : c ∈ (x.cps ++ y.cps).toList := hc
    rw [Array.toList_append] at hc
    rcases List.mem_append.mp hc with hc | hc
    · exact h.2 c hc
    · exact h'.2 c hc
theorem asc_cut {L : Nat} {x : Str} {lo hi : Option Int} (h : Asc L x) : Asc L (cutS x lo hi) := by
  have sub : ∀ c ∈ tl (cutS x lo hi), c ∈ tl x := fun c hc => by
    have hc : c ∈ (List.take (HT.sIx x.length x.length hi - HT.sIx x.length 0 lo) (List.drop (HT.sIx x.length 0 lo) x.cps.toList)).toArray.toList := hc
    rw [List.toList_toArray] at hc
    exact List.mem_of_mem_drop (List.mem_of_mem_take hc)
  refine ⟨?_, fun c hc => h.2 c (sub c hc)⟩
  have h1 : x.cps.size ≤ L := h.1
  show (List.take (HT.sIx x.length x.length hi - HT.sIx x.length 0 lo) (List.drop (HT.sIx x.length 0 lo) x.cps.toList)).toArray.size ≤ L
  rw [List.size_toArray, List.length_take, List.length_drop, Array.length_toList]
  omega
theorem fq_int {k W L : Nat} {n : Int} (h : -((1000 + L : Nat) : Int) ≤ n ∧ n ≤ ((1000 + L : Nat) : Int)) : Fq k W L (.int n) := ⟨rfl, Nat.zero_le _, by unfold shG; exact h⟩
theorem Fq.int {k W L : Nat} {n : Int} (h : Fq k W L (.int n)) : -((1000 + L : Nat) : Int) ≤ n ∧ n ≤ ((1000 + L : Nat) : Int) := by
  have := h.sh
  unfold shG at this
  exact this
theorem asc_int {n : Int} (h : -1000000 ≤ n ∧ n ≤ 1000000) : Asc 9 (Str.ofString (toString n)) := by
  refine ⟨?_, ?_⟩
  · rw [PySem.ofString_length]
    exact Nat.le_trans (int_text_length_le10 (a := n) (k := 8) (by decide) (by omega)) (by decide)
  · cases n with
    | ofNat k =>
      intro c hc
      have e : tl (Str.ofString (toString (Int.ofNat k))) = numL k := tl_num k
      rw [e] at hc
      have := numL_digits k c hc
      omega
    | negSucc k =>
      intro c hc
      have e : tl (Str.ofString (toString (Int.negSucc k))) = 45 :: tl (Str.ofString (toString (((k + 1 : Nat) : Int)))) := by
        rw [TL.tl_ofString, TL.tl_ofString]
        show List.map Char.toNat ("-" ++ toString (k + 1)).toList = _
        rw [String.toList_append]
        rfl
      rw [e, tl_num] at hc
      rcases List.mem_cons.mp hc with hc | hc
      · omega
      · have := numL_digits (k + 1) c hc
        omega
end Rp

set_option maxHeartbeats 8000000
/-! Displays of data; the odd things of _law_otherwise. -/
namespace Rp
open PySem PySem.Spec PyProof.Rows L2 TL RZ StX
mutual
inductive Lq where
  | non
  | bl (b : Bool)
  | i (n : Int)
  | m (n : Int)
  | s (x : Str)
  | t (l : Lqs)
  | l (l : Lqs)
inductive Lqs where
  | nil
  | cons (a : Lq) (r : Lqs)
end
mutual
def Lq.te : Lq → TE
  | .non => tC .non
  | .bl b => tC (.bl b)
  | .i n => tC (.int n)
  | .m n => tUn (rU fun i => .int (-i)) (tC (.int n))
  | .s x => tC (.str x)
  | .t l => tTup l.ta
  | .l l => tLst l.ta
def Lqs.ta : Lqs → TA
  | .nil => tNil
  | .cons a r => tCons a.te r.ta
end
mutual
def Lq.d : Lq → PyData
  | .non => .none
  | .bl b => .bool b
  | .i n => .int n
  | .m n => .int (-n)
  | .s x => .str x
  | .t l => .tuple l.ds
  | .l l => .list l.ds
def Lqs.ds : Lqs → List PyData
  | .nil => []
  | .cons a r => a.d :: r.ds
end
def Lqs.len : Lqs → Nat
  | .nil => 0
  | .cons _ r => r.len + 1
mutual
def Lq.ok : Lq → Prop
  | .t l => l.len ≤ 1000 ∧ l.ok
  | .l l => l.len ≤ 1000 ∧ l.ok
  | _ => True
def Lqs.ok : Lqs → Prop
  | .nil => True
  | .cons a r => a.ok ∧ r.ok
end
theorem Lqs.ds_len : ∀ l : Lqs, l.ds.length = l.len
  | .nil => rfl
  | .cons _ r => congrArg (· + 1) r.ds_len
/-- no new list stands at b -/
def Apart (H H' : Hp) (b : Addr) : Prop := H' b = none ∨ ∃ o, H b = some o
theorem Apart.less {H H1 H' : Hp} {b : Addr} (s : Same H1 H') (h : Apart H H' b) : Apart H H1 b := h.imp (fun z => by
  cases e : H1 b with
  | none => rfl
  | some o => rw [s _ _ e] at z; cases z) id
theorem Apart.step {H H1 H' : Hp} {b : Addr} (s : Same H H1) (h : Apart H H' b) : Apart H1 H' b := h.imp id fun ⟨o, e⟩ => ⟨o, s _ _ e⟩
theorem Apart.ne {H H1 : Hp} {b p : Addr} {o : HO} (s : Same H H1) (hp : H1 p = none) (h : Apart H (upd H1 p o) b) : p ≠ b := by
  rintro rfl
  rcases h with h | ⟨u, h⟩
  · rw [upd_same] at h; cases h
  · rw [s _ _ h] at hp; cases hp
mutual
theorem Lq.run {σ : L2.St} : ∀ (L : Lq) {H : Hp} {Q : V → Hp → Prop}, L.ok → (∀ (v : V) (H' : Hp), (∀ b, Apart H H' b → DAt H' b v L.d) → Same H H' → Q v H') → L.te σ H Q
  | .non, H, Q, _, q => q _ H (fun b _ => by unfold Lq.d DAt; rfl) (Same.refl H)
  | .bl c, H, Q, _, q => q _ H (fun b _ => by unfold Lq.d DAt; rfl) (Same.refl H)
  | .i n, H, Q, _, q => q _ H (fun b _ => by unfold Lq.d DAt; rfl) (Same.refl H)
  | .m n, H, Q, _, q => ⟨n, rfl, q _ H (fun b _ => by unfold Lq.d DAt; rfl) (Same.refl H)⟩
  | .s x, H, Q, _, q => q _ H (fun b _ => by unfold Lq.d DAt; rfl) (Same.refl H)
  | .t l, H, Q, ⟨hl, ho⟩, q => Lqs.run l ho fun xs H1 hn hx s1 => by
    have big : (1000 : Nat) ≤ sizeLine := by decide
    refine ⟨by rw [hn]; exact Nat.le_trans hl big, fun p hp => ?_⟩
    have s2 := same_new hp (.tup xs)
    exact q _ _ (fun b hb => by unfold Lq.d DAt; exact ⟨p, xs, rfl, .inl upd_same, (hx b (hb.less s2)).same s2⟩) (s1.trans s2)
  | .l l, H, Q, ⟨hl, ho⟩, q => Lqs.run l ho fun xs H1 hn hx s1 => by
    have big : (1000 : Nat) ≤ sizeLine := by decide
    refine ⟨by rw [hn]; exact Nat.le_trans hl big, fun p hp => ?_⟩
    have s2 := same_new hp (.lst xs)
    exact q _ _ (fun b hb => by unfold Lq.d DAt; exact ⟨p, xs, rfl, hb.ne s1 hp, upd_same, (hx b (hb.less s2)).same s2⟩) (s1.trans s2)
theorem Lqs.run {σ : L2.St} : ∀ (L : Lqs) {H : Hp} {Q : List V → Hp → Prop}, L.ok → (∀ (v : List V) (H' : Hp), v.length = L.len → (∀ b, Apart H H' b → DAtAll H' b v L.ds) → Same H H' → Q v H') → L.ta σ H Q
  | .nil, H, Q, _, q => q _ H rfl (fun b _ => by unfold Lqs.ds; exact DAtAll.nil) (Same.refl H)
  | .cons a r, H, Q, ⟨h1, h2⟩, q => Lq.run a h1 fun v H1 hv s1 => Lqs.run r h2 fun xs H2 hn hx s2 =>
    q _ _ (congrArg (· + 1) hn) (fun b hb => by unfold Lqs.ds; exact DAtAll.cons ((hv b (hb.less s2)).same s2) (hx b (hb.step s1))) (s1.trans s2)
end
theorem Lq.runE {σ : L2.St} (L : Lq) (te : TE) (e : L.te = te) {H : Hp} {Q : V → Hp → Prop} (h : L.ok) (q : ∀ (v : V) (H' : Hp), (∀ b, Apart H H' b → DAt H' b v L.d) → Same H H' → Q v H') : te σ H Q := e ▸ Lq.run L h q
theorem seq_asg {te : TE} {g : TG} {rest : TS} {D : Ends} {σ : L2.St} {H : Hp} (h : te σ H fun v H1 => g v σ H1 fun σ2 H2 => rest D σ2 H2) : tSeq (tAsg te g) rest D σ H := h
def oddL : Lq := .l (.cons (.non) (.cons (.bl true) (.cons (.bl false) (.cons (.m 1) (.cons (.i 100) (.cons (.i 99) (.cons (.i 0) (.cons (.i 1) (.cons (.s "") (.cons (.s "s") (.cons (.s "f") (.cons (.s "0") (.cons (.s "if") (.cons (.s "nat") (.cons (.s "natural") (.cons (.t .nil) (.cons (.l .nil) (.cons (.t (.cons (.s "0") .nil)) (.cons (.l (.cons (.s "0") .nil)) (.nil))))))))))))))))))))
def oddDs : List PyData := match oddL.d with | .list ds => ds | _ => []
theorem odd_len : oddDs.length = 19 := rfl
theorem oddL_ok : oddL.ok := by simp [oddL, Lq.ok, Lqs.ok, Lqs.len]
theorem asc_of {L : Nat} {x : Str} (h : (decide (x.length ≤ L) && (tl x).all (fun c => decide (c < 128))) = true) : Asc L x := by
  rw [Bool.and_eq_true, decide_eq_true_iff, List.all_eq_true] at h
  exact ⟨h.1, fun c hc => of_decide_eq_true (h.2 c hc)⟩
theorem fq_non {k W L : Nat} : Fq k W L .none := ⟨rfl, Nat.zero_le _, by unfold shG; trivial⟩
theorem fq_bl {k W L : Nat} {c : Bool} : Fq k W L (.bool c) := ⟨rfl, Nat.zero_le _, by unfold shG; trivial⟩
theorem odd_fq : ∀ e ∈ oddDs, Fq 1 1 7 e ∧ nd e ≤ 2 := by
  intro e he
  have he : e ∈ [PyData.none, .bool true, .bool false, .int (-1), .int 100, .int 99, .int 0, .int 1, .str "", .str "s", .str "f", .str "0", .str "if", .str "nat", .str "natural", .tuple [], .list [], .tuple [.str "0"], .list [.str "0"]] := he
  have n1 : ∀ x : Str, nd (.str x) ≤ 2 := fun x => by simp [nd]
  have i1 : ∀ n : Int, nd (.int n) ≤ 2 := fun x => by simp [nd]
  have z : Fq 0 1 7 (.str "0") := Asc.fq (asc_of (by decide +kernel))
  simp only [List.mem_cons, List.not_mem_nil, or_false] at he
  rcases he with rfl | rfl | rfl | rfl | rfl | rfl | rfl | rfl | rfl | rfl | rfl | rfl | rfl | rfl | rfl | rfl | rfl | rfl | rfl
  · exact ⟨fq_non, by simp [nd]⟩
  · exact ⟨fq_bl, by simp [nd]⟩
  · exact ⟨fq_bl, by simp [nd]⟩
  · exact ⟨fq_int (by omega), i1 _⟩
  · exact ⟨fq_int (by omega), i1 _⟩
  · exact ⟨fq_int (by omega), i1 _⟩
  · exact ⟨fq_int (by omega), i1 _⟩
  · exact ⟨fq_int (by omega), i1 _⟩
  · exact ⟨Asc.fq (asc_of (by decide +kernel)), n1 _⟩
  · exact ⟨Asc.fq (asc_of (by decide +kernel)), n1 _⟩
  · exact ⟨Asc.fq (asc_of (by decide +kernel)), n1 _⟩
  · exact ⟨Asc.fq (asc_of (by decide +kernel)), n1 _⟩
  · exact ⟨Asc.fq (asc_of (by decide +kernel)), n1 _⟩
  · exact ⟨Asc.fq (asc_of (by decide +kernel)), n1 _⟩
  · exact ⟨Asc.fq (asc_of (by decide +kernel)), n1 _⟩
  · exact ⟨fq_tup.mpr ⟨by simp, by simp⟩, by simp [nd, ndAll]⟩
  · exact ⟨fq_list.mpr ⟨by simp, by simp⟩, by simp [nd, ndAll]⟩
  · exact ⟨fq_tup.mpr ⟨by simp, by simpa using z⟩, by simp [nd, ndAll]⟩
  · exact ⟨fq_list.mpr ⟨by simp, by simpa using z⟩, by simp [nd, ndAll]⟩
end Rp

/-! What k10 takes over: small TERMs, the stack, NAMEs. -/
namespace Rp
open PySem PySem.Spec PyProof.Rows L2 TL
def runs : List Tm → List Tm → List Tm → Prop
  | S, [], S' => S = S'
  | S, k :: r, S' => ∃ S0, S = S0 ++ k.kids ∧ runs (S0 ++ [k]) r S'
theorem runs_post : ∀ (t : Tm) (S r S' : List Tm), runs (S ++ [t]) r S' → runs S (t.rpost.reverse ++ r) S'
  | .v n, S, r, S', h => by simp only [Tm.rpost, List.reverse_singleton, List.singleton_append]; exact ⟨S, by simp [Tm.kids], h⟩
  | .z, S, r, S', h => by simp only [Tm.rpost, List.reverse_singleton, List.singleton_append]; exact ⟨S, by simp [Tm.kids], h⟩
  | .s t, S, r, S', h => by
    simp only [Tm.rpost, List.reverse_cons, List.append_assoc, List.singleton_append]
    exact runs_post t S _ _ ⟨S, by simp [Tm.kids], h⟩
  | .f l r', S, r, S', h => by
    simp only [Tm.rpost, List.reverse_cons, List.reverse_append, List.append_assoc, List.singleton_append]
    refine runs_post l S _ _ (runs_post r' (S ++ [l]) _ _ ⟨S, by simp [Tm.kids], h⟩)
theorem part_of : ∀ {t k : Tm}, k ∈ t.rpost → k.size ≤ t.size ∧ ∀ n ∈ k.nums, n ∈ t.nums
  | .v n, k, h => by simp [Tm.rpost] at h; subst h; exact ⟨Nat.le_refl _, fun n h => h⟩
  | .z, k, h => by simp [Tm.rpost] at h; subst h; exact ⟨Nat.le_refl _, fun n h => h⟩
  | .s t, k, h => by
    simp [Tm.rpost] at h
    rcases h with rfl | h
    · exact ⟨Nat.le_refl _, fun n h => h⟩
    · have := part_of h
      exact ⟨by simp only [Tm.size]; omega, this.2⟩
  | .f l r, k, h => by
    simp [Tm.rpost] at h
    rcases h with rfl | h | h
    · exact ⟨Nat.le_refl _, fun n h => h⟩
    · have := part_of h
      exact ⟨by simp only [Tm.size]; omega, fun n hn => List.mem_append.mpr (.inr (this.2 n hn))⟩
    · have := part_of h
      exact ⟨by simp only [Tm.size]; omega, fun n hn => List.mem_append.mpr (.inl (this.2 n hn))⟩
theorem drop_min {α : Type} (xs : List α) (i : Nat) : xs.drop (min i xs.length) = xs.drop i := by
  rcases Nat.le_total i xs.length with h | h
  · rw [Nat.min_eq_left h]
  · rw [Nat.min_eq_right h, List.drop_length, List.drop_of_length_le h]
theorem cut_from {xs : List V} {i : Nat} {a : Int} (h : a = (i : Nat)) : cutV xs (some a) none = xs.drop i := by
  subst h
  unfold cutV
  rw [HT.sIx_none, HT.sIx_nat, drop_min]
  refine List.take_of_length_le ?_
  rw [List.length_drop]
  omega
end Rp

/-! Tuples that are known to be plain (they bear no dict of their own), made by tuple(list) and by a display; dict(t) of such a tuple of pairs. -/
namespace Rp
open PySem PySem.Spec PyProof.Rows L2
/-- a plain tuple stands at a -/
def PlT (H : Hp) (a : Addr) (xs : List V) : Prop := ∃ o : Obj, o.dict = none ∧ H a = some (.frz o (.tup xs))
theorem PlT.sq {K : PySem.W.Frag} {H : Hp} {a : Addr} {xs : List V} (h : PlT H a xs) : SqT K H a xs := let ⟨o, _, e⟩ := h; .inl (.inr ⟨o, e⟩)
theorem PlT.same {H H' : Hp} {a : Addr} {xs : List V} (e : Same H H') (h : PlT H a xs) : PlT H' a xs := let ⟨o, d, q⟩ := h; ⟨o, d, e _ _ q⟩
theorem PlT.mono {H H' : Hp} {a : Addr} {xs : List V} (e : ∀ o, H a = some (.frz o (.tup xs)) → H' a = some (.frz o (.tup xs))) (h : PlT H a xs) : PlT H' a xs := let ⟨o, d, q⟩ := h; ⟨o, d, e _ q⟩
section
variable {X : Cx}
def rTupF (K : PySem.W.Frag) : List V → Hp → VK → Prop := fun vs H Q => ∃ (p : Addr) (ys : List V), vs = [.ref p] ∧ SqL K H p ys ∧ ∀ (l : Addr) (o : Obj), o.dict = none → H l = none → Q (.ref l) (upd H l (.frz o (.tup ys)))
theorem cr_tupF : CallR X (.type "tuple") (rTupF X.K) := by
  intro pins s σ H vs us Q I r h
  obtain ⟨p, ys, rfl, hq, q⟩ := h
  rw [Vals.ref1 r]
  obtain ⟨its, rv, pl, hz⟩ := I.list hq
  have few := rv.length
  refine call_tuple_list pl.isList (fun g old => ?_) (by simp only [List.size_toArray] <;> omega)
  have J : Inv X pins σ H { s with heap := g } := I.kept (t' := s.toks) old
  have there : (g.push { cls := .type "tuple", data := .seq its.toArray }).get? g.objs.size = some { cls := .type "tuple", data := .seq its.toArray } := Heap.get?_push_size _ rfl
  exact ⟨.ref g.objs.size, _, J.laid (t' := s.toks) (o := .frz { cls := .type "tuple", data := .seq its.toArray } (.tup ys)) (fun b o e => Heap.get?_push_of_some _ e) (Nat.le_refl _) ⟨there, hz, its, rv, IsTup.new _ _⟩, rfl,
    q _ _ rfl (J.hok.fresh (Nat.le_refl _))⟩
/-- (e, ..), told to be plain -/
def tTupF (t : TA) : TE := fun σ H Q => t σ H fun xs H1 => xs.length ≤ sizeLine ∧ ∀ (p : Addr) (o : Obj), o.dict = none → H1 p = none → Q (.ref p) (upd H1 p (.frz o (.tup xs)))
theorem pe_tupF {es : List Expr} {t : TA} {x1 : Nat} {pos : Pos} (h : PA X es t) : PE X (.Tuple es x1 pos) (tTupF t) := by
  refine ⟨fun pins s σ H Q I hq => wpAny_Tuple_spliced (thn (h.run pos pins s σ H _ I hq) fun us s1 ⟨xs, H1, I1, r, z, q⟩ => ⟨by rw [← r.length]; exact z, ?_⟩)⟩
  have at_ : (s1.heap.push { cls := .type "tuple", data := .seq us.toArray }).get? s1.heap.objs.size = some { cls := .type "tuple", data := .seq us.toArray } := Heap.get?_push_size _ rfl
  exact ⟨.ref s1.heap.objs.size, _, I1.laid (t' := s1.toks) (o := .frz { cls := .type "tuple", data := .seq us.toArray } (.tup xs)) (fun b u e => Heap.get?_push_of_some _ e) (Nat.le_refl _) ⟨at_, z, us, r, ⟨_, at_, rfl, _, rfl⟩⟩, rfl,
    q _ _ rfl (I1.hok.fresh (Nat.le_refl _))⟩
theorem raw_pairs {pins : List (Addr × Obj)} {σ : L2.St} {H : Hp} {s : Shared} (I : Inv X pins σ H s) : ∀ {ps : List Addr} {kvs : List (Key × V)}, Paired (fun p (kv : Key × V) => SqT X.K H p [kV kv.1, kv.2]) ps kvs →
    ∃ (prs : List (Key × Value)) (raw : List (Value × Value)), KV kvs prs ∧ raw.length = ps.length ∧ prs.length = ps.length ∧ ∀ j : Nat, j < ps.length → ∃ (b : Addr) (k : Key) (u x : Value), ps[j]? = some b ∧ prs[j]? = some (k, x) ∧ raw[j]? = some (u, x) ∧ IsTup s.heap b #[u, x] ∧ keyIs k u = true
  | _, _, .nil => ⟨[], [], .nil, rfl, rfl, fun j h => absurd h (Nat.not_lt_zero _)⟩
  | _, _, .cons (a := p) (b := kv) h t => by
    obtain ⟨prs, raw, r, l1, l2, each⟩ := raw_pairs I t
    obtain ⟨its, rv, ht, _⟩ := I.tuple h
    obtain ⟨u, y, rfl, ru, ry⟩ := vals2 rv
    refine ⟨(kv.1, y) :: prs, (u, y) :: raw, .cons ⟨rfl, ry⟩ r, congrArg (· + 1) l1, congrArg (· + 1) l2, fun j hj => ?_⟩
    cases j with
    | zero => exact ⟨p, kv.1, u, y, rfl, rfl, rfl, ht, kV_is (P := X.prog) (w := X.w) ru⟩
    | succ j => exact each j (Nat.lt_of_succ_lt_succ hj)
def rDictT (K : PySem.W.Frag) : List V → Hp → VK → Prop := fun vs H Q => ∃ (a : Addr) (ps : List Addr) (kvs : List (Key × V)), vs = [.ref a] ∧ PlT H a (ps.map V.ref) ∧ Paired (fun p (kv : Key × V) => SqT K H p [kV kv.1, kv.2]) ps kvs ∧
  ∀ p, H p = none → Q (.ref p) (upd H p (.dK (mergeK [] kvs)))
theorem cr_dictT (calm : X.calm = true) : CallR X (.type "dict") (rDictT X.K) := by
  intro pins s σ H vs us Q I r told
  obtain ⟨a, ps, kvs, rfl, ⟨o, od, ha⟩, pairs, go⟩ := told
  rw [Vals.ref1 r]
  obtain ⟨ho, hz, its, rv, oo, ho', hc, n, hd⟩ := (show ObjOk X.prog X.w H s.heap a (.frz o (.tup (ps.map V.ref))) from I.hok a _ ha)
  obtain rfl : o = oo := Option.some.inj (ho.symm.trans ho')
  have ei := refs_at rv
  subst ei
  obtain ⟨prs, raw, rel, l1, l2, each⟩ := raw_pairs I pairs
  rw [List.length_map] at hz
  have items : PairItems s.heap (ps.map Value.ref).toArray (fun j => ps.getD j 0) raw := by
    refine ⟨by simp [l1], fun j k v e => ?_⟩
    have lj : j < ps.length := by rw [← l1]; exact (List.getElem?_eq_some_iff.mp e).1
    obtain ⟨b, k', u, x, e1, e2, e3, e4, e5⟩ := each j lj
    obtain ⟨rfl, rfl⟩ : k = u ∧ v = x := by rw [e] at e3; cases e3; exact ⟨rfl, rfl⟩
    have gd : ps.getD j 0 = b := by rw [List.getD_eq_getElem?_getD, e1]; rfl
    refine ⟨by simp [e1, gd], .inl ?_⟩
    show s.heap.IsTuple (ps.getD j 0) #[k, v]
    rw [gd]
    exact e4
  refine PySem.call_dict_pairs (knd := mixKind X.prog X.w) (kvs := prs) (PairArg.tuple a _ _ raw) (I.ok.hd calm) ⟨⟨o, n, ho, hc, od, hd⟩, items⟩ ?_ (by omega) fun g tk now old => ?_
  · refine ⟨by omega, fun j k v e => ?_⟩
    have lj : j < ps.length := by rw [← l1]; exact (List.getElem?_eq_some_iff.mp (show raw[j]? = some (k, v) from e)).1
    obtain ⟨b, k', u, x, e1, e2, e3, e4, e5⟩ := each j lj
    obtain ⟨rfl, rfl⟩ : k = u ∧ v = x := by
      have e : raw[j]? = some (k, v) := e
      rw [e] at e3; cases e3; exact ⟨rfl, rfl⟩
    exact ⟨k', e2, e5⟩
  · have hm : (s.heap.objs.size == sysModules) = false := beq_eq_false_iff_ne.mpr (Nat.ne_of_gt I.big)
    have len : (mergeK [] kvs).length ≤ sizeLine := by
      have q := length_mergeK kvs []
      have z := rel.length
      rw [List.length_nil] at q
      omega
    exact ⟨.ref s.heap.objs.size, _, I.laid (t' := tk) (o := .dK (mergeK [] kvs)) (fun b u e => old b u (by simp) e) (Nat.le_refl _) ⟨len, hm, merged [] prs, KV.merge rel .nil, now⟩, rfl, go _ (I.hok.fresh (Nat.le_refl _))⟩
end
end Rp

/-! A def within a def, handed to another def and called there: what its cells hold is known where that def is called, and stays so while it runs. -/
namespace Rp
open PySem PySem.Spec PyProof.Rows L2 NdefX LamX
/-- what the cells of Fn hold, and that they are no caller's frame -/
def Held1 (cl : List (Str × Addr)) (fr : List Str) (ws : List (Option V)) (outer : List Env) (s : Shared) (H : Hp) : Prop := CellsAt cl fr ws s.heap H ∧ ∀ y c, cl.lookup y = some c → c ∉ frs outer
/-- a def's promise, kept where R is known of the caller's state -/
structure QnOk (P : Program) (w : World) (K : PySem.W.Frag) (mg : Str → Option Value) (base : Heap) (k : Nat) (f : Addr) (fd : FuncData) (ps : List Str) (R : List Env → Shared → Hp → Prop) (sp : Sp) : Prop where
  len : ∀ vs H Q E, sp vs H Q E → vs.length = ps.length
  run : ∀ (A : Around) (outer : List Env) (s : Shared) (H : Hp) (args : Args) (us : List Value) (vs : List V) (Q : VK) (E : XK), R outer s H → Room k A → Env0 P w K mg base A outer s H → BindsTo s fd args (ps.zip us) → Vals vs us → sp vs H Q E →
    codeAny (model P w) A (.call (.ref f) args) (CR CX0 outer P w H s Q E) s
section
variable {P : Program} {w : World} {K : PySem.W.Frag} {mg : Str → Option Value} {base : Heap}
/-- a def by its body, R told of the caller's state -/
theorem qok {x qual : Str} {st : Stmt} {f : Addr} {fd : FuncData} {N ps : List Str} {k : Nat} {R : List Env → Shared → Hp → Prop} {sp : Sp} (F : Fun K x qual st f fd) (S : FnScope N ps (defScope st)) (len : ∀ vs H Q E, sp vs H Q E → vs.length = ps.length)
    (walk : ∀ (cdv : Value) (A : Around) (outer : List Env) (s : Shared) (H : Hp) (vs : List V) (Q : VK) (E : XK), R outer s H → Room k (A.deeper (envOfC qual (defScope st) s.heap.objs.size f cdv)) → sp vs H Q E →
      ∃ t, PSs (cxOf CX0 P w K mg base N qual (defScope st) f cdv A outer s H E).nox (defBody st) t ∧ t { nx := fun _ H' => Q .non H', rt := Q } (start N vs) H) : QnOk P w K mg base (k + 1) f fd ps R sp := by
  obtain ⟨oc, od, kV, doc, pm, an, cdv, ct, osl, rfl, lk, hcd⟩ := F.ex
  refine ⟨len, fun A outer s H args us vs Q E hR hr e0 hb r hsp => ?_⟩
  have K0 : K.In s.heap := e0.mod.kin.keeps fun b o e => (e0.bs b o e).1
  have L0 : s.heap.NoLimit := e0.mod.nolimit.keeps fun b o e => (e0.bs b o e).1
  have each : ∀ y ∈ ps.zip us, (defScope st).names.lookup y.1 = some .local ∨ ((defScope st).names.lookup y.1 = some .cell ∧ ((cellsFrom (s.heap.objs.size + 1) (defScope st).names []).lookup y.1).isSome = true) := by
    rintro ⟨n, v⟩ hy
    exact (S.par n (List.of_mem_zip hy).1).imp id fun q => ⟨q, PySem.W.cellsFrom_some _ _ _ (.inl q)⟩
  refine codeAny_call_function hr.depth (K0 _ _ lk) rfl S.co S.gen rfl (PySem.W.codeRec_of K0 hcd) (hb _ _ _ _ (wpAny_newFunctionEnv_cells S.kind each fun env he s1 z => ?_))
  subst he
  refine ⟨L0.keeps z.toInCall.keep, codeAny_func ?_⟩
  obtain ⟨t, ht, hq⟩ := walk cdv A outer s H vs Q E hR (hr.deeper _) hsp
  have I : L2.Inv (cxOf CX0 P w K mg base N qual (defScope st) f cdv A outer s H E) [] (start N vs) H s1 := inv_start S hr.hd e0 (len _ _ _ _ hsp) r z
  refine wpAny_mono (ht.nox.run [] s1 (start N vs) H _ I hq) (fun fl s' hs => ?_) fun e s' hs => hs
  rcases fl with _ | _ | _ | u
  · obtain ⟨_, H', J, q⟩ := hs
    exact ⟨V.non, H', J.os, J.bare, J.base, J.hok, rfl, q⟩
  · exact hs.choose_spec.choose_spec.2.elim
  · exact hs.choose_spec.choose_spec.2.elim
  · obtain ⟨v, _, H', J, rv, q⟩ := hs
    exact ⟨v, H', J.os, J.bare, J.base, J.hok, rv, q⟩
end
section
variable {X : Cx} {k j i : Nat} {f : Addr} {fd : FuncData} {ps fr : List Str} {E : XK} {x : Str} {p pos : Pos} {e : Expr} {es : List Expr} {t : TA} {cl : List (Str × Addr)} {js : List Nat}
/-- a cell of the running frame is no caller's frame -/
theorem cells_apart {pins : List (Addr × Obj)} {σ : L2.St} {H : Hp} {s : Shared} (I : L2.Inv X pins σ H s) (stk : X.stack = X.env :: X.outer ∧ X.env.frame = some X.env.locals) (fn : ∀ y, X.fn y = true) (low : ∀ b ∈ frs X.outer, b < X.s_0.heap.objs.size) {y : Str} {c : Addr} (hc : X.env.cells.lookup y = some c) : c ∉ frs X.stack := by
  intro hm
  rw [stk.1] at hm
  have hm : c ∈ (X.env :: X.outer).filterMap (·.frame) := hm
  rw [List.filterMap_cons, stk.2] at hm
  rcases List.mem_cons.mp hm with e | hm
  · obtain ⟨m, ⟨o, es, ep, h1, h2, _⟩, _⟩ := I.loc
    obtain ⟨v, o', h1', h2'⟩ := I.cell y c hc
    rw [e, h1] at h1'
    cases h1'
    rw [h2] at h2'
    cases h2'
  · have a := low c hm
    have b := I.ok.cab y c (fn y) hc
    exact absurd a (Nat.not_lt.mpr b)
theorem low_frames {h base : Heap} {l : List Env} (hf : Heap.FunFrames h base l) : ∀ b ∈ frs l, b < h.objs.size := fun b hb => by
  obtain ⟨_, o, ho, _⟩ := hf.mem hb
  exact Heap.lt_size ho
/-- f(e, ..), f a def of the module that wants to know what a handed def's cells hold -/
def tCallQ (sp : Addr → Addr → List (Option V) → Sp) (js : List Nat) (E : XK) (t : TA) : TE := fun σ H Q => t σ H fun vs H1 => ∃ g c', sp g c' (js.map (slotAt σ)) vs H1 Q E
theorem pe_callQ {sp : Addr → Addr → List (Option V) → Sp} (F : ∀ g c' ws, QnOk X.prog X.w X.K X.mg X.base k f fd ps (Held1 cl fr ws) (sp g c' ws)) (cp : X.Ok → Caps X cl fr js) (stk : X.stack = X.env :: X.outer ∧ X.env.frame = some X.env.locals) (fn : ∀ y, X.fn y = true)
    (hr : Room k X.A) (hg : Gl X x) (hm : X.mg x = some (.ref f)) (hk : PySem.W.keepIn X.K (.ref f) = true) (hb : Binds X.K fd ps []) (ha : PA X (e :: es) t)
    (hdb : (x == ("__debug__" : Str)) = false := by decide) (he : starEach (e :: es) X.env = (false, eval e X.env) :: starEach es X.env := by rfl) (hpl : (backTo pos (starEach es X.env)).any (·.1) = false := by rfl) :
    PE X (.Call (.Name x p) (e :: es) [] pos) (tCallQ sp js E0 t) := by
  refine ⟨fun pins s σ H Q I h => wpAny_Call_Name_kw (ld_glob I hg hm ?_ hdb)⟩
  refine PySem.W.callWith_K (h₀ := X.base) I.ok.mod.kin hk (thn (ha.run pos pins s σ H _ I h) fun us s1 ⟨vs, H1, I1, r, g, c', q⟩ => ⟨I1.kIn, ?_⟩) he hpl
  have hl : us.length = ps.length := r.length.symm.trans ((F g c' _).len _ _ _ _ q)
  have hb' := hb s1 us I1.kIn (by rw [List.append_nil]; exact hl)
  rw [List.append_nil] at hb'
  have held : Held1 cl fr (js.map (slotAt σ)) X.stack s1 H1 := ⟨cells_of I1 (cp I1.ok), fun y c hc => cells_apart I1 stk fn (low_frames I1.ok.funs) ((cp I1.ok).sub y c hc)⟩
  refine wpAny_call (codeAny_mono ((F g c' _).run X.A X.stack s1 H1 ⟨us, []⟩ us vs Q E0 held hr I1.env0 hb' r q) fun r' s' hq => ?_)
  rcases r' with e' | fl
  · exact hq.elim
  · rcases fl with _ | _ | _ | u
    · exact hq.elim
    · exact hq.elim
    · exact hq.elim
    · exact I1.after hq
/-- f(e, ..), f a local name that holds a handed def; what its cells hold was known at this def's own start -/
def tCallV (i : Nat) (g : Addr) (Fn : NF) (ws : List (Option V)) (sp : List (Option V) → Sp) (E : XK) (t : TA) : TE := fun σ H Q => σ[i]? = some (some (.ref g)) ∧ H g = some (FnO g Fn) ∧ t σ H fun vs H1 => H1 g = some (FnO g Fn) ∧ H1 Fn.c = some (CodeO Fn.c Fn.qual) ∧ sp ws vs H1 Q E
theorem pe_callV {Fn : NF} {g : Addr} {ws : List (Option V)} {sp : List (Option V) → Sp} (N : NOk X.prog X.w X.K X.mg X.base CX0 k g Fn ps fr sp) (held : Held1 Fn.cl fr ws X.outer X.s_0 X.H_0) (exn : X.ex = []) (hr : Room k X.A) (hN : X.N[i]? = some x) (hv : Vis X.env.scope x) (ha : PA X (e :: es) t)
    (hd : (x == ("__debug__" : Str)) = false := by decide) (hcd : (x == ("__classdict__" : Str)) = false := by decide)
    (he : starEach (e :: es) X.env = (false, eval e X.env) :: starEach es X.env := by rfl) (hpl : (backTo pos (starEach es X.env)).any (·.1) = false := by rfl) : PE X (.Call (.Name x p) (e :: es) [] pos) (tCallV i g Fn ws sp E0 t) := by
  refine ⟨fun pins s σ H Q I h => ?_⟩
  obtain ⟨hs, hf, ht⟩ := h
  refine wpAny_Call_Name_kw (thn ((pe_var (pos := p) hN hv hd hcd).run pins s σ H (fun v H1 => v = .ref g ∧ H1 = H) I ⟨.ref g, hs, rfl, rfl⟩) fun u s1 ⟨v, H1, I1, rel, ev, eH⟩ => ?_)
  subst ev
  rw [eH] at I1
  obtain rfl : u = Value.ref g := rel
  refine PySem.W.callWith_F (first := []) (fnAt_of I1 hf) (thn (ha.run pos pins s1 σ H _ I1 ht) fun us s2 ⟨vs, H2, I2, r, h1, h2, q⟩ => ⟨fnAt_of I2 h1, ?_⟩) he hpl
  show wpAny _ _ (call (.ref g) us) _ _ _
  have C : CellsAt Fn.cl fr ws s2.heap H2 := held.1.later held.2 (fun y c _ => by rw [exn]; simp) I2
  refine wpAny_call (codeAny_mono (N.run X.A X.stack s2 H2 us vs ws Q E0 hr I2.env0 h1 h2 C r q) fun r' s' hq => ?_)
  rcases r' with e' | fl
  · exact hq.elim
  · rcases fl with _ | _ | _ | u
    · exact hq.elim
    · exact hq.elim
    · exact hq.elim
    · exact I2.after hq
end
end Rp

/-! put: a dict of the BINDING, a def within the def that knows it, folded. -/
namespace Rp
open PySem PySem.Spec PyProof.Rows L2 TL NdefX LamX StX
abbrev Bd := List (Int × Tm)
namespace Tm
def put (b : Bd) : Tm → Tm
  | v n => (b.lookup n).getD (v n)
  | z => z
  | s t => s (t.put b)
  | f l r => f (l.put b) (r.put b)
end Tm
/-- what a dict of a BINDING tells -/
def DbAt (H : Hp) (kvs : List (Key × V)) (bd : Bd) : Prop := ∀ n : Int, (∃ v t, valV kvs (Sum.inl n) = some v ∧ bd.lookup n = some t ∧ TmAt H v t) ∨ (valV kvs (Sum.inl n) = none ∧ bd.lookup n = none)
theorem DbAt.mono {H H' : Hp} {kvs : List (Key × V)} {bd : Bd} (e : ∀ a xs, H a = some (.tup xs) → H' a = some (.tup xs)) (D : DbAt H kvs bd) : DbAt H' kvs bd :=
  fun n => (D n).imp (fun ⟨v, t, a, b, c⟩ => ⟨v, t, a, b, c.mono e⟩) id
/-- pairs of a variable and a TERM -/
def PrAt (H : Hp) (p : Addr) (kv : Int × Tm) : Prop := ∃ x, H p = some (.tup [.int kv.1, x]) ∧ TmAt H x kv.2
theorem PrAt.mono {H H' : Hp} {p : Addr} {kv : Int × Tm} (e : ∀ a xs, H a = some (.tup xs) → H' a = some (.tup xs)) : PrAt H p kv → PrAt H' p kv := fun ⟨x, h, t⟩ => ⟨x, e _ _ h, t.mono e⟩
/-- a BINDING: a plain tuple of pairs, its variables unlike -/
def BdAt (H : Hp) (a : Addr) (bd : Bd) : Prop := ∃ ps : List Addr, PlT H a (ps.map V.ref) ∧ Paired (PrAt H) ps bd ∧ (bd.map (·.1)).Nodup ∧ bd.length ≤ 1000
/-- all tuples stay, plain ones too -/
def Tups (H H' : Hp) : Prop := (∀ a xs, H a = some (.tup xs) → H' a = some (.tup xs)) ∧ ∀ a o xs, H a = some (.frz o (.tup xs)) → H' a = some (.frz o (.tup xs))
theorem Tups.same {H H' : Hp} (e : Same H H') : Tups H H' := ⟨fun _ _ h => e _ _ h, fun _ _ _ h => e _ _ h⟩
theorem Tups.ext {H H' : Hp} (e : ExtN H H') : Tups H H' := ⟨fun _ _ h => e _ _ h (fun _ z => by cases z), fun _ _ _ h => e _ _ h (fun _ z => by cases z)⟩
theorem Tups.but {H H' : Hp} {b : Addr} {ys : List V} (e : But b H H') (hb : H b = some (.lst ys)) : Tups H H' :=
  ⟨fun _ _ h => e _ _ h (ne_of h hb (by intro z; cases z)), fun _ _ _ h => e _ _ h (ne_of h hb (by intro z; cases z))⟩
theorem Tups.trans {H H1 H2 : Hp} (a : Tups H H1) (b : Tups H1 H2) : Tups H H2 := ⟨fun _ _ h => b.1 _ _ (a.1 _ _ h), fun _ _ _ h => b.2 _ _ _ (a.2 _ _ _ h)⟩
theorem BdAt.mono {H H' : Hp} {a : Addr} {bd : Bd} (e : Tups H H') : BdAt H a bd → BdAt H' a bd :=
  fun ⟨ps, h, p, nd, z⟩ => ⟨ps, h.mono fun o => e.2 _ _ _, L2.Paired.mapP p fun _ _ q => q.mono e.1, nd, z⟩
abbrev qEx : Str := ("put" : Str) ++ ".<locals>." ++ "exchanged"
abbrev nmEx : Nat → Nat → Str := fun _ _ => qEx
abbrev NEx : List Str := ["part", "below", "found"]
def spEx (ws : List (Option V)) : Sp := fun vs H Q _ => ∃ (x : V) (k : Tm) (l D : Addr) (ks : List V) (bd : Bd) (kvs : List (Key × V)), vs = [x, .ref l] ∧ ws = [some (.ref D)] ∧ TmAt H x k ∧ H l = some (.lst ks) ∧ AllAt H ks (k.kids.map (Tm.put bd)) ∧
  H D = some (.dK kvs) ∧ DbAt H kvs bd ∧ ∀ (v : V) (H' : Hp), TmAt H' v (k.put bd) → Same H H' → Q v H'
section
variable {P : Program} {w : World} {K : PySem.W.Frag} {mg : Str → Option Value} {base : Heap}
end
end Rp

/-! put: fold with the inner def, put itself. -/
namespace Rp
open PySem PySem.Spec PyProof.Rows L2 TL NdefX LamX StX
theorem AllAt.split {H : Hp} {xs : List V} {a b : List Tm} (h : AllAt H xs (a ++ b)) : ∃ ys zs, xs = ys ++ zs ∧ AllAt H ys a ∧ AllAt H zs b := by
  have l := h.len
  rw [List.length_append] at l
  refine ⟨xs.take a.length, xs.drop a.length, (List.take_append_drop _ _).symm, ?_⟩
  rw [← List.take_append_drop a.length xs] at h
  obtain ⟨t1, t2, e, h1, h2⟩ := h.parted
  have l1 := h1.len
  rw [List.length_take] at l1
  obtain ⟨rfl, rfl⟩ := List.append_inj e (by omega)
  exact ⟨h1, h2⟩
theorem put_kids (bd : Bd) {t : Tm} (no : ∀ n, t ≠ .v n) : (t.put bd).kids = t.kids.map (Tm.put bd) := by
  cases t with
  | v n => exact absurd rfl (no n)
  | z => rfl
  | s t => rfl
  | f l r => rfl
abbrev slEx (D : Addr) : List (Option V) := [some (.ref D)]
section
variable {P : Program} {w : World} {K : PySem.W.Frag} {mg : Str → Option Value} {base : Heap}
theorem scFold : FnScope ["term", "made_of", "made", "part", "first"] ["term", "made_of"] (defScope sFold) := ⟨rfl, rfl, rfl, by decide +kernel, rfl, by decide +kernel, by decide +kernel⟩
end
end Rp

/-! put itself; all but the tables stays. -/
namespace Rp
open PySem PySem.Spec PyProof.Rows L2 TL NdefX LamX StX
/-- all but the tables stays, the tables are tables still -/
structure Ext (T : List NTab) (H H' : Hp) : Prop where
  ext : ExtN H H'
  tab : TabsN T H'
  nn : ∀ b, H' b = none → H b = none
theorem same_none {H H' : Hp} (e : Same H H') (b : Addr) (h : H' b = none) : H b = none := by
  cases q : H b with
  | none => rfl
  | some u => have := e _ _ q; rw [h] at this; cases this
theorem Ext.same {T : List NTab} {H H' : Hp} (t : TabsN T H) (e : Same H H') : Ext T H H' := ⟨ExtN.of e, t.ext e, same_none e⟩
theorem Ext.trans {T : List NTab} {H H1 H2 : Hp} (a : Ext T H H1) (b : Ext T H1 H2) : Ext T H H2 := ⟨a.ext.trans b.ext, b.tab, fun x h => a.nn _ (b.nn _ h)⟩
theorem Ext.lst {T : List NTab} {H H' : Hp} (e : Ext T H H') {a : Addr} {xs : List V} (h : H a = some (.lst xs)) : H' a = some (.lst xs) := e.ext _ _ h fun _ z => by cases z
theorem Ext.tups {T : List NTab} {H H' : Hp} (e : Ext T H H') : Tups H H' := Tups.ext e.ext
theorem pairs_of {K : PySem.W.Frag} {H : Hp} : ∀ {ps : List Addr} {bd : Bd}, Paired (PrAt H) ps bd → ∃ kvs : List (Key × V), Paired (fun p (kv : Key × V) => SqT K H p [kV kv.1, kv.2]) ps kvs ∧ Paired (fun (kv : Key × V) (q : Int × Tm) => kv.1 = Sum.inl q.1 ∧ TmAt H kv.2 q.2) kvs bd
  | _, _, .nil => ⟨[], .nil, .nil⟩
  | _, _, .cons (b := q) h t => by
    obtain ⟨x, hx, tx⟩ := h
    obtain ⟨kvs, h1, h2⟩ := pairs_of (K := K) t
    exact ⟨(Sum.inl q.1, x) :: kvs, .cons (.inl (.inl hx)) h1, .cons ⟨rfl, tx⟩ h2⟩
theorem merged_tells {H : Hp} : ∀ {kvs : List (Key × V)} {bd : Bd}, Paired (fun (kv : Key × V) (q : Int × Tm) => kv.1 = Sum.inl q.1 ∧ TmAt H kv.2 q.2) kvs bd → (bd.map (·.1)).Nodup → ∀ (acc : List (Key × V)) (n : Int),
    (bd.lookup n = none → valV (mergeK acc kvs) (Sum.inl n) = valV acc (Sum.inl n)) ∧ (∀ t, bd.lookup n = some t → ∃ v, valV (mergeK acc kvs) (Sum.inl n) = some v ∧ TmAt H v t)
  | _, _, .nil, _, acc, n => ⟨fun _ => rfl, fun t h => by cases h⟩
  | _, _, .cons (a := kv) (l₁ := kvs) (b := q) (l₂ := bd) h t, nd, acc, n => by
    obtain ⟨k, y⟩ := kv
    obtain ⟨m, tm⟩ := q
    obtain ⟨e, T⟩ := h
    have e : k = Sum.inl m := e
    subst e
    have T : TmAt H y tm := T
    rw [List.map_cons, List.nodup_cons] at nd
    have ih := merged_tells t nd.2 (putK acc (Sum.inl m) y) n
    have step : mergeK acc ((Sum.inl m, y) :: kvs) = mergeK (putK acc (Sum.inl m) y) kvs := rfl
    rw [step]
    by_cases hn : n = m
    · subst hn
      have no : bd.lookup n = none := by
        rw [List.lookup_eq_none_iff]
        intro p hp
        have : n ≠ p.1 := fun z => nd.1 (List.mem_map.mpr ⟨p, hp, z.symm⟩)
        simpa using this
      have hl : ((n, tm) :: bd).lookup n = some tm := by simp [List.lookup]
      refine ⟨fun z => ?_, fun t' z => ?_⟩
      · rw [hl] at z; cases z
      · rw [hl] at z; cases z
        refine ⟨y, ?_, T⟩
        rw [ih.1 no, valV_put, if_pos rfl]
    · have hl : ((m, tm) :: bd).lookup n = bd.lookup n := by
        rw [List.lookup_cons, beq_eq_false_iff_ne.mpr hn]
      rw [hl]
      refine ⟨fun z => ?_, ih.2⟩
      rw [ih.1 z, valV_put, if_neg (fun z => hn (Sum.inl.inj z))]
theorem dict_of {H : Hp} {kvs : List (Key × V)} {bd : Bd} (h : Paired (fun (kv : Key × V) (q : Int × Tm) => kv.1 = Sum.inl q.1 ∧ TmAt H kv.2 q.2) kvs bd) (nd : (bd.map (·.1)).Nodup) : DbAt H (mergeK [] kvs) bd := fun n => by
  obtain ⟨h1, h2⟩ := merged_tells h nd [] n
  cases e : bd.lookup n with
  | none => exact .inr ⟨h1 e, rfl⟩
  | some t =>
    obtain ⟨v, a, b⟩ := h2 t e
    exact .inl ⟨v, t, a, rfl, b⟩
def spPut (T : List NTab) : Sp := fun vs H Q _ => ∃ (v : V) (t : Tm) (a : Addr) (bd : Bd), vs = [v, .ref a] ∧ TmAt H v t ∧ t.size ≤ 1000 ∧ BdAt H a bd ∧ TabsN T H ∧ ∀ (v' : V) (H' : Hp), TmAt H' v' (t.put bd) → Ext T H H' → Q v' H'
section
variable {P : Program} {w : World} {K : PySem.W.Frag} {mg : Str → Option Value} {base : Heap}
/-- a def by its body, its code object told -/
theorem okC {x qual : Str} {st : Stmt} {f c : Addr} {fd : FuncData} {N ps : List Str} {k : Nat} {sp : Sp} (F : Fun K x qual st f fd) (hc : fd.code = .ref c) (S : FnScope N ps (defScope st)) (len : ∀ vs H Q E, sp vs H Q E → vs.length = ps.length)
    (walk : ∀ (A : Around) (outer : List Env) (s : Shared) (H : Hp) (vs : List V) (Q : VK) (E : XK), Room k (A.deeper (envOfC qual (defScope st) s.heap.objs.size f (.ref c))) → sp vs H Q E →
      ∃ t, PSs (cxOf CX0 P w K mg base N qual (defScope st) f (.ref c) A outer s H E).nox (defBody st) t ∧ t { nx := fun _ H' => Q .non H', rt := Q } (start N vs) H) : FnOk P w K mg base CX0 (k + 1) f fd ps sp := by
  obtain ⟨oc, od, kV, doc, pm, an, cdv, ct, osl, rfl, lk, hcd⟩ := F.ex
  obtain rfl : cdv = .ref c := hc
  refine fn_of lk hcd S len fun A outer s H vs Q E hr hsp => ?_
  obtain ⟨t, h, q⟩ := walk A outer s H vs Q E hr hsp
  exact ⟨t, h.nox, q⟩
abbrev NPut : List Str := ["term", "binding", "found", "exchanged"]
end
end Rp

/-! A set of ints made by a comprehension of two fors. -/
namespace Rp
open PySem PySem.Spec PyProof.Rows L2 PpSet
/-- {elt for ta in ia if fa for tb in ib if fb} -/
abbrev scx (elt ta ia : Expr) (fa : List Expr) (tb ib : Expr) (fb : List Expr) (sc : Scope) (at_ : Pos) : Expr := .SetComp elt [⟨ta, ia, fa, 0⟩, ⟨tb, ib, fb, 0⟩] sc at_
theorem scx_turnA (elt ta ia : Expr) (fa : List Expr) (tb ib : Expr) (fb : List Expr) (sc : Scope) (at_ : Pos) (cur box : Value) (en : Env) :
    compTurn (scx elt ta ia fa tb ib fb sc at_) 0 cur box en = (do
      standAt ia.pos
      match ← pyNext cur with
      | none => pure (.done .next)
      | some got =>
        letOwnedTupleGo ta cur got
        assign ta en got
        let mut fine := true
        for c in fa do
          if fine then fine ← isTrue c en (eval c en)
        if fine then
          let y ← eval ib en
          standAt ib.pos
          let y ← foldedSetIterable ib en y
          let _ ← runOwn (.compStart (scx elt ta ia fa tb ib fb sc at_) 1 (← holding [y] (pyIter y)) box en) en
        again (.compLoop (scx elt ta ia fa tb ib fb sc at_) 0 cur box en)) := by rfl
theorem scx_turnB (elt ta ia : Expr) (fa : List Expr) (tb ib : Expr) (fb : List Expr) (sc : Scope) (at_ : Pos) (cur box : Value) (en : Env) :
    compTurn (scx elt ta ia fa tb ib fb sc at_) 1 cur box en = (do
      standAt ib.pos
      match ← pyNext cur with
      | none => pure (.done .next)
      | some got =>
        letOwnedTupleGo tb cur got
        assign tb en got
        let mut fine := true
        for c in fb do
          if fine then fine ← isTrue c en (eval c en)
        if fine then
          (do let y ← eval elt en; standAt elt.pos; let _ ← call (.builtin "set.add") [box, y])
        again (.compLoop (scx elt ta ia fa tb ib fb sc at_) 1 cur box en)) := by rfl
section
variable {pr : Program} {w : World} {A : Around} {R : Result → Shared → Prop} {s : Shared} {elt ta ia tb ib : Expr} {fa fb : List Expr} {sc : Scope} {at_ : Pos} {cur box : Value} {en : Env}
/-- a clause's tests -/
abbrev testsOf (fs : List Expr) (en : Env) : Sem Bool := forIn fs true fun c r => if r = true then do let fine ← isTrue c en (eval c en); pure (ForInStep.yield fine) else pure (ForInStep.yield r)
/-- an error on the way is noted -/
abbrev noteE (pr : Program) (w : World) (A : Around) (R : Result → Shared → Prop) (en : Env) : Value → Shared → Prop := notedBy (model pr w) A en fun e s' => R (.error e) s'
theorem scx_loopA (plain : ∀ y, foldedSetIterable ib en y = pure y) (J : Nat → Shared → Prop)
    (each : ∀ n s, J n s → wpAny (model pr w) A (pyNext cur) (fun r s1 => match r with
      | none => R (.ok .next) s1
      | some got => wpAny (model pr w) A (letOwnedTupleGo ta cur got) (fun _ s2 => wpAny (model pr w) A (assign ta en got) (fun _ s3 => wpAny (model pr w) A (testsOf fa en) (fun fine s4 =>
            if fine = true then wpAny (model pr w) A (eval ib en) (fun y s5 => wpAny (model pr w) A (pyIter y) (fun cur1 s6 =>
              codeAny (model pr w) A (.compStart (scx elt ta ia fa tb ib fb sc at_) 1 cur1 box en) (fun r s' => match r with
                | .ok _ => ∃ m, m < n ∧ J m s'
                | .error _ => False) s6) (noteE pr w A R en) s5) (noteE pr w A R en) s4
            else ∃ m, m < n ∧ J m s4) (noteE pr w A R en) s3) (noteE pr w A R en) s2) (noteE pr w A R en) s1) (noteE pr w A R en) s)
    (n : Nat) (h0 : J n s) : codeAny (model pr w) A (.compLoop (scx elt ta ia fa tb ib fb sc at_) 0 cur box en) R s := by
  refine codeAny_loop rfl J (fun n s hJ => ?_) n h0
  show wpAny _ A ((compTurn (scx elt ta ia fa tb ib fb sc at_) 0 cur box en).onRaise (fun z => do noteFrame z en; theTreesLotGoes z)) _ _ s
  refine wpAny_noted ?_
  rw [scx_turnA]
  refine wpAny_bind (wpAny_standAt (wpAny_bind (wpAny_mono (each n s hJ) (fun r s1 q1 => ?_) fun _ _ z => z)))
  rcases r with _ | got
  · exact wpAny_pure q1
  · refine wpAny_bind (wpAny_mono q1 (fun _ s2 q2 => wpAny_bind (wpAny_mono q2 (fun _ s3 q3 => wpAny_bind (wpAny_mono q3 (fun fine s4 q4 => ?_) fun _ _ z => z)) fun _ _ z => z)) fun _ _ z => z)
    cases fine with
    | false => exact wpAny_pure ⟨rfl, q4⟩
    | true =>
      refine wpAny_bind (wpAny_mono q4 (fun y s5 q5 => wpAny_bind (wpAny_standAt (wpAny_bind (wpAny_of_eq (plain y) (wpAny_bind (wpAny_holding (wpAny_mono q5 (fun cur1 s6 q6 => ?_) fun _ _ z => z))))))) fun _ _ z => z)
      refine wpAny_bind (wpAny_runOwn ?_)
      rw [Around.mark_none]
      refine codeAny_mono q6 fun r s' hr => ?_
      rcases r with e | fl
      · exact hr.elim
      · first
          | exact wpAny_pure ⟨rfl, hr⟩
          | exact wpAny_bind (wpAny_pure (wpAny_pure ⟨rfl, hr⟩))
theorem scx_loopB (J : Nat → Shared → Prop)
    (each : ∀ n s, J n s → wpAny (model pr w) A (pyNext cur) (fun r s1 => match r with
      | none => R (.ok .next) s1
      | some got => wpAny (model pr w) A (letOwnedTupleGo tb cur got) (fun _ s2 => wpAny (model pr w) A (assign tb en got) (fun _ s3 => wpAny (model pr w) A (testsOf fb en) (fun fine s4 =>
            if fine = true then wpAny (model pr w) A (eval elt en) (fun y s5 => wpAny (model pr w) A (call (.builtin "set.add") [box, y]) (fun _ s6 => ∃ m, m < n ∧ J m s6) (noteE pr w A R en) s5) (noteE pr w A R en) s4
            else ∃ m, m < n ∧ J m s4) (noteE pr w A R en) s3) (noteE pr w A R en) s2) (noteE pr w A R en) s1) (noteE pr w A R en) s)
    (n : Nat) (h0 : J n s) : codeAny (model pr w) A (.compLoop (scx elt ta ia fa tb ib fb sc at_) 1 cur box en) R s := by
  refine codeAny_loop rfl J (fun n s hJ => ?_) n h0
  show wpAny _ A ((compTurn (scx elt ta ia fa tb ib fb sc at_) 1 cur box en).onRaise (fun z => do noteFrame z en; theTreesLotGoes z)) _ _ s
  refine wpAny_noted ?_
  rw [scx_turnB]
  refine wpAny_bind (wpAny_standAt (wpAny_bind (wpAny_mono (each n s hJ) (fun r s1 q1 => ?_) fun _ _ z => z)))
  rcases r with _ | got
  · exact wpAny_pure q1
  · refine wpAny_bind (wpAny_mono q1 (fun _ s2 q2 => wpAny_bind (wpAny_mono q2 (fun _ s3 q3 => wpAny_bind (wpAny_mono q3 (fun fine s4 q4 => ?_) fun _ _ z => z)) fun _ _ z => z)) fun _ _ z => z)
    cases fine with
    | false => exact wpAny_pure ⟨rfl, q4⟩
    | true => exact wpAny_bind (wpAny_bind (wpAny_mono q4 (fun y s5 q5 => wpAny_bind (wpAny_standAt (wpAny_bind (wpAny_mono q5 (fun _ s6 q6 => wpAny_pure (wpAny_pure ⟨rfl, q6⟩)) fun _ _ z => z)))) fun _ _ z => z))
theorem scx_startB (go : codeAny (model pr w) A (.compLoop (scx elt ta ia fa tb ib fb sc at_) 1 cur box en) R s)
    (own : wpAny (model pr w) A (pyIter cur) (fun c' s' => codeAny (model pr w) A (.compLoop (scx elt ta ia fa tb ib fb sc at_) 1 c' box en) R s') (noteE pr w A R en) s) :
    codeAny (model pr w) A (.compStart (scx elt ta ia fa tb ib fb sc at_) 1 cur box en) R s := by
  refine codeAny_of_tree ?_
  show wpAny _ _ ((compStart (scx elt ta ia fa tb ib fb sc at_) 1 cur box en).onRaise (fun z => do noteFrame z en; standAt theWindowsPlace)) _ _ s
  refine wpAny_notedAt ?_
  unfold compStart
  show wpAny _ _ (ask >>= _) _ _ s
  refine wpAny_bind (wpAny_askSetting (wpAny_ite ?_))
  split
  · first
      | exact wpAny_bind (wpAny_pure (wpAny_pure (And.intro rfl go)))
      | exact wpAny_pure (And.intro rfl go)
  · first
      | exact wpAny_bind (wpAny_rule (wpAny_bind (wpAny_standAt (wpAny_bind (wpAny_mono own (fun c' s' q => wpAny_pure (And.intro rfl q)) fun _ _ z => z)))))
      | (refine wpAny_bind (wpAny_rule ?_); show wpAny _ _ (standAt ib.pos >>= _) _ _ s; exact wpAny_bind (wpAny_standAt (wpAny_bind (wpAny_mono own (fun c' s' q => wpAny_pure (And.intro rfl q)) fun _ _ z => z))))
end
section
variable {X : Cx}
/-- what such a comprehension asks: the outer walk's turns (W, Nx), behind each one the inner walk's (W', Nx') -/
def tScI2 (w : World) (wi : TI) (g : TG) (tt : TT) (wi' : TI) (g' : TG) (tt' : TT) (te : TE) (vs vs' : List Nat) : TE := fun σ H Q => wi σ H fun J H1 => ∀ D, H1 D = none →
  ∃ W : Nat → Nat → Hp → Prop, (∃ m, W 0 m (upd H1 D (SetO w D (fun _ => false) 0))) ∧ ∀ i m H, W i m H → (J.stop i H ∧ Q (.ref D) H) ∨
    (J.go i H ∧ ∃ Nx : Hp → Prop, (∀ H', Nx H' → ∃ m', m' < m ∧ W (i + 1) m' H') ∧ ∀ x H', J.yld i H x H' → g x (wipe σ vs) H' fun σ2 H2 => wipe σ2 vs = wipe σ vs ∧
      tt σ2 H2 fun b H3 => if b = true then wi' σ2 H3 fun J' H4 => ∃ W' : Nat → Nat → Hp → Prop, (∃ m, W' 0 m H4) ∧ ∀ j k H, W' j k H → (J'.stop j H ∧ Nx H) ∨
        (J'.go j H ∧ ∃ Nx' : Hp → Prop, (∀ H', Nx' H' → ∃ k', k' < k ∧ W' (j + 1) k' H') ∧ ∀ x H', J'.yld j H x H' → g' x (wipe σ2 vs') H' fun σ3 H5 => wipe σ3 vs' = wipe σ2 vs' ∧
          tt' σ3 H5 fun b H6 => if b = true then te σ3 H6 fun y H7 => ∃ (n : Int) (S : Int → Bool) (c : Nat), y = .int n ∧ H7 D = some (SetO w D S c) ∧ c + 1 < scanBound ∧
            Nx' (upd H7 D (SetO w D (fun j => S j || decide (j = n)) (if S n = true then c else c + 1))) else Nx' H6)
      else Nx H3)
theorem pe_scI2 {elt ta ia tb ib : Expr} {fa fb : List Expr} {sc : Scope} {own : List (PySem.Str × Nat)} {vs' : List Nat} {at_ : Pos} {wi wi' : TI} {g g' : TG} {tt tt' : TT} {te : TE}
    (calm : X.calm = true) (nd : X.N.Nodup) (hi : PI X ta ia wi) (ok : BlkOk X.N X.env.scope sc own) (inn : ∀ i ∈ vs', i ∈ own.map (·.2))
    (hg : ∀ (s : Shared) (H : Hp) (C : Addr) (cl : List (PySem.Str × Addr)) (fp : List Addr), PG (X.blk s H sc (compEnvC sc cl C X.env) fp) ta g)
    (ht : ∀ (s : Shared) (H : Hp) (C : Addr) (cl : List (PySem.Str × Addr)) (fp : List Addr), PTs (X.blk s H sc (compEnvC sc cl C X.env) fp) fa tt)
    (hi' : ∀ (s : Shared) (H : Hp) (C : Addr) (cl : List (PySem.Str × Addr)) (fp : List Addr), PI (X.blk s H sc (compEnvC sc cl C X.env) fp) tb ib wi')
    (hg' : ∀ (s : Shared) (H : Hp) (C : Addr) (cl : List (PySem.Str × Addr)) (fp : List Addr), PG (X.blk s H sc (compEnvC sc cl C X.env) fp) tb g')
    (ht' : ∀ (s : Shared) (H : Hp) (C : Addr) (cl : List (PySem.Str × Addr)) (fp : List Addr), PTs (X.blk s H sc (compEnvC sc cl C X.env) fp) fb tt')
    (he : ∀ (s : Shared) (H : Hp) (C : Addr) (cl : List (PySem.Str × Addr)) (fp : List Addr), PE (X.blk s H sc (compEnvC sc cl C X.env) fp) elt te)
    (plain : ∀ y, foldedSetIterable ia X.env y = pure y := by intro _; rfl) (plain' : ∀ en y, foldedSetIterable ib en y = pure y := by intro _ _; rfl) :
    PE X (scx elt ta ia fa tb ib fb sc at_) (tScI2 X.w wi g tt wi' g' tt' te (own.map (·.2)) vs') := by
  refine ⟨fun pins s σ H Q I h => ?_⟩
  rw [eval_SetComp]
  have caught : ∀ y ∈ sc.names, y.2 = .free → ∃ c, X.env.cells.lookup y.1 = some c := fun y hy e =>
    (ok.free y hy e).elim (fun k => I.ok.has _ (.inl k)) fun k => I.ok.has _ (.inr k)
  refine wpAny_comprehension_free (use := none) rfl plain (closure_ok caught) ok.kind (fun y hy e => (ok.uniq y hy).trans (by rw [e])) (thn (hi.run pins s σ H _ I h) fun xv s1 hx => thn hx fun itv s2 h2 => ?_)
  obtain ⟨it, fp, tn, J, H2, rfl, I2, T, st2, f2, q⟩ := h2
  refine newSet_ok (newEnv_comp ?_)
  obtain ⟨D, hD⟩ : ∃ D, s2.heap.objs.size = D := ⟨_, rfl⟩
  rw [hD]
  obtain ⟨W, ⟨m0, w0⟩, turn⟩ := q D (I2.hok.fresh (Nat.le_of_eq hD))
  obtain ⟨s3, hs3⟩ : ∃ s3 : Shared, { s2 with heap := s2.heap.push (emptySet X.w) } = s3 := ⟨_, rfl⟩
  have h3 : s3.heap = s2.heap.push (emptySet X.w) := by rw [← hs3]
  have I3 : Inv X pins σ (upd H2 D (SetO X.w D (fun _ => false) 0)) s3 := by
    have z := I2.laid (a := D) (o := SetO X.w D (fun _ => false) 0) (t' := s2.toks) (h' := s2.heap.push (emptySet X.w)) (fun b o e => Heap.get?_push_of_some _ e) (Nat.le_of_eq hD) (by rw [← hD]; exact setO_new (setR_fresh X.w))
    exact hs3 ▸ z
  have low : ∀ b ∈ fp, b < s2.heap.objs.size := fun b hb => let ⟨o, e, _⟩ := T.obj _ _ st2 b hb; Heap.lt_size e
  have f3 : ∀ b ∈ fp, FpOk X pins (upd H2 D (SetO X.w D (fun _ => false) 0)) b ∧ b < s3.heap.objs.size := fun b hb =>
    ⟨⟨(upd_ne (by rw [← hD]; exact Nat.ne_of_lt (low b hb))).trans (f2 b hb).1, (f2 b hb).2⟩, by rw [h3, Heap.size_push]; exact Nat.lt_succ_of_lt (low b hb)⟩
  have st3 : tn 0 s3.heap := T.keep _ _ _ st2 fun b _ o e => h3 ▸ Heap.get?_push_of_some _ e
  have I4 := block_start I3 ok nd f3
  obtain ⟨H3, hH3⟩ : ∃ H3, upd H2 D (SetO X.w D (fun _ => false) 0) = H3 := ⟨_, rfl⟩
  rw [hH3] at I3 f3 I4 w0
  obtain ⟨C, hC⟩ : ∃ C, s3.heap.objs.size = C := ⟨_, rfl⟩
  rw [hC] at I4
  have pg := hg s3 H3 C (cellsFrom (C + 1) sc.names (cloFrom X.env.cells sc.names [])) fp
  have pt := ht s3 H3 C (cellsFrom (C + 1) sc.names (cloFrom X.env.cells sc.names [])) fp
  have pi' := hi' s3 H3 C (cellsFrom (C + 1) sc.names (cloFrom X.env.cells sc.names [])) fp
  have pg' := hg' s3 H3 C (cellsFrom (C + 1) sc.names (cloFrom X.env.cells sc.names [])) fp
  have pt' := ht' s3 H3 C (cellsFrom (C + 1) sc.names (cloFrom X.env.cells sc.names [])) fp
  have pe := he s3 H3 C (cellsFrom (C + 1) sc.names (cloFrom X.env.cells sc.names [])) fp
  subst hs3
  have hC' : (s2.heap.push (emptySet X.w)).objs.size = C := hC
  show codeAny _ _ (.compStart (scx elt ta ia fa tb ib fb sc at_) 0 (.ref it) (.ref D) (compEnvC sc (cellsFrom ((s2.heap.push (emptySet X.w)).objs.size + 1) sc.names (cloFrom X.env.cells sc.names [])) (s2.heap.push (emptySet X.w)).objs.size X.env))
    (compPost (model X.prog X.w) X.A X.xe none (EP X pins σ Q) (.ref D) (s2.heap.push (emptySet X.w)).objs.size) { s2 with heap := pushCells ((s2.heap.push (emptySet X.w)).push { cls := .type "dict", data := .dict #[] }) sc.names }
  rw [hC']
  obtain ⟨ce, hce⟩ : ∃ ce, compEnvC sc (cellsFrom (C + 1) sc.names (cloFrom X.env.cells sc.names [])) C X.env = ce := ⟨_, rfl⟩
  rw [hce] at I4 pg pt pi' pg' pt' pe ⊢
  have cL : ce.locals = C := by subst hce; rfl
  obtain ⟨s4, hs4⟩ : ∃ s4 : Shared, { s2 with heap := pushCells ((s2.heap.push (emptySet X.w)).push { cls := .type "dict", data := .dict #[] }) sc.names } = s4 := ⟨_, rfl⟩
  obtain ⟨Y, hY⟩ : ∃ Y, X.blk { s2 with heap := s2.heap.push (emptySet X.w) } H3 sc ce fp = Y := ⟨_, rfl⟩
  have I4 : Inv Y [] (wipe σ (own.map (·.2))) H3 s4 := hY ▸ hs4 ▸ I4
  rw [hs4]
  have st4 : tn 0 s4.heap := T.keep _ _ _ st3 fun b _ o e => by rw [← hs4]; exact pushCells_keeps _ _ _ _ (Heap.get?_push_of_some _ e)
  have rest : ∀ {σ' : L2.St} {H' : Hp} {s' : Shared}, Inv Y [] σ' H' s' → (∀ b ∈ fp, H' b = none) → ∀ b ∈ fp, FpOk Y [] H' b := by
    subst hY
    intro σ' H' s' I' hn b hb
    exact ⟨hn b hb, (I'.ok.exf b hb).1, I'.ok.exfs b hb, .inl hb, fun x c e => (I'.ok.exf b hb).2 x c e, fun p hp => absurd (show p ∈ ([] : List (Addr × Obj)) ++ [] from hp) (by simp)⟩
  obtain ⟨Go, hGo⟩ : ∃ Go : Nat → Shared → Prop, Go = fun n s' => ∃ i H', Inv Y [] (wipe σ (own.map (·.2))) H' s' ∧ tn i s'.heap ∧ (∀ b ∈ fp, H' b = none) ∧ W i n H' := ⟨_, rfl⟩
  have round : codeAny (model X.prog X.w) X.A (.compLoop (scx elt ta ia fa tb ib fb sc at_) 0 (.ref it) (.ref D) ce) (compPost (model X.prog X.w) X.A X.xe none (EP X pins σ Q) (.ref D) C) s4 := by
    refine scx_loopA (plain' ce) Go ?_ m0 (by rw [hGo]; exact ⟨0, H3, I4, st4, fun b hb => (f3 b hb).1.1, w0⟩)
    intro n s5 g5
    rw [hGo] at g5
    obtain ⟨i, H5, I5, st5, n5, w5⟩ := g5
    rcases turn i n H5 w5 with ⟨over, last⟩ | ⟨more, Nx, hNx, step⟩
    · subst hY
      refine thnF (T.done (X.blk _ H3 sc ce fp) rfl rfl rfl calm i [] s5 _ H5 (fun _ _ => False) I5 (rest I5 n5) st5 over) fun r s6 ⟨hr, I6⟩ => ?_
      subst hr
      have I7 : Inv X pins σ H5 s6 := I3.call' (ch := fp) I6.os I6.base I6.hok I6.bare fun b hb => ⟨(f3 b hb).1.2.2.2.1, (f3 b hb).1.2.1, (f3 b hb).1.2.2.2.2.1, (f3 b hb).1.2.2.2.2.2⟩
      have nC : H5 C = none := cL ▸ (show H5 ce.locals = none from I6.free)
      obtain ⟨m, hn, _⟩ := I6.loc
      have hn : s6.heap.Ns C m := cL ▸ (show s6.heap.Ns ce.locals m from hn)
      refine ⟨m, hn, fun h'' sb => ?_⟩
      obtain ⟨g0, g1, g2, g3, g4, g5⟩ := I3.fpOk (Nat.le_of_eq hC) nC
      exact ⟨.ref D, H5, I7.turned (t' := s6.toks) (fun b o hb e => (sb.2 b hb).trans e) g0 g1 g3 g4 g5, rfl, last⟩
    · have item := T.item Y (by subst hY; rfl) (by subst hY; rfl) (by subst hY; rfl) (by subst hY; exact calm) i [] s5 _ H5 (fun _ _ => False) I5 (rest I5 n5) st5 more
      rw [hY] at pg pt pi' pg' pt' pe
      have yA : Y.A = X.A := by subst hY; rfl
      have yP : Y.prog = X.prog := by subst hY; rfl
      have yw : Y.w = X.w := by subst hY; rfl
      subst hY
      refine thnF item fun r s6 ⟨u, hr, h6⟩ => ?_
      subst hr
      refine thnF h6 fun _ s7 ⟨x, H7, I7, r7, y7, st7, n7⟩ => ?_
      refine thnF (pg.run _ s7 _ H7 x u _ (I7.pinned (rest I7 n7) (T.obj _ _ st7)) r7 (step x H7 y7)) fun _ s8 ⟨σ8, H8, I8, hw8, q8⟩ => ?_
      refine thnF (pt.run _ s8 σ8 H8 _ I8 q8) fun b s9 ⟨H9, I9, q9⟩ => ?_
      -- back at the outer walk
      have back : ∀ {σ' : L2.St} {s' : Shared} {H' : Hp}, Inv (X.blk { s2 with heap := s2.heap.push (emptySet X.w) } H3 sc ce fp) ([] ++ pinsAt fp s7.heap) σ' H' s' → σ'.length = σ8.length → (∀ (j : Nat) v, (wipe σ8 (own.map (·.2)))[j]? = some (some v) → σ'[j]? = some (some v)) → Nx H' → ∃ m, m < n ∧ Go m s' := by
        intro σ' s' H' I' len same nx
        obtain ⟨m', hm, w'⟩ := hNx H' nx
        have pin : ∀ b ∈ fp, ∀ o, s7.heap.get? b = some o → s'.heap.get? b = some o ∧ H' b = none := fun b hb o e =>
          let z := I'.pin (b, o) (List.mem_append_right _ (List.mem_append_right _ (mem_pinsAt hb e))); ⟨z.1, z.2.1⟩
        refine ⟨m', hm, ?_⟩
        rw [hGo]
        refine ⟨i + 1, H', (I'.unpinned (pins := [])).weak (by rw [← hw8, wipe_length, len]) (fun j v e => same j v (by rw [hw8]; exact e)), T.keep _ _ _ st7 fun b hb o e => (pin b hb o e).1, fun b hb => ?_, w'⟩
        obtain ⟨o, e, _⟩ := T.obj _ _ st7 b hb
        exact (pin b hb o e).2
      cases b with
      | false =>
        simp only [Bool.false_eq_true, if_false] at q9 ⊢
        exact back I9 rfl (fun j v e => (wipe_some e).1) q9
      | true =>
        simp only [if_true] at q9 ⊢
        refine thnF (pi'.run _ s9 σ8 H9 _ I9 q9) fun yv s10 hx => thnF hx fun itv s11 h11 => ?_
        obtain ⟨it', fp', tn', J', H11, rfl, I11, T', st11, f11, W', ⟨m1, w1⟩, turn'⟩ := h11
        have rest' : ∀ {H' : Hp}, (∀ b ∈ fp', H' b = none) → ∀ b ∈ fp', FpOk (X.blk { s2 with heap := s2.heap.push (emptySet X.w) } H3 sc ce fp) ([] ++ pinsAt fp s7.heap) H' b := fun hn b hb => ⟨hn b hb, (f11 b hb).2⟩
        obtain ⟨Go', hGo'⟩ : ∃ Go' : Nat → Shared → Prop, Go' = fun k s' => ∃ j H', Inv (X.blk { s2 with heap := s2.heap.push (emptySet X.w) } H3 sc ce fp) ([] ++ pinsAt fp s7.heap) (wipe σ8 vs') H' s' ∧ tn' j s'.heap ∧ (∀ b ∈ fp', H' b = none) ∧ W' j k H' := ⟨_, rfl⟩
        have inner : codeAny (model X.prog X.w) X.A (.compLoop (scx elt ta ia fa tb ib fb sc at_) 1 (.ref it') (.ref D) ce)
            (fun r s' => match r with
              | .ok _ => ∃ m, m < n ∧ Go m s'
              | .error _ => False) s11 := by
          refine scx_loopB Go' ?_ m1 (by rw [hGo']; exact ⟨0, H11, I11.weak (wipe_length _ _) (fun j v e => (wipe_some e).1), st11, fun b hb => (f11 b hb).1, w1⟩)
          intro k s12 g12
          rw [hGo'] at g12
          obtain ⟨j, H12, I12, st12, n12, w12⟩ := g12
          rcases turn' j k H12 w12 with ⟨over', nx⟩ | ⟨more', Nx', hNx', step'⟩
          · refine thnF (T'.done (X.blk { s2 with heap := s2.heap.push (emptySet X.w) } H3 sc ce fp) rfl rfl rfl calm j _ s12 (wipe σ8 vs') H12 (fun _ _ => False) I12 (rest' n12) st12 over') fun r s13 ⟨hr, I13⟩ => ?_
            subst hr
            refine back I13 (wipe_length σ8 vs') (fun l v e => ?_) nx
            obtain ⟨e1, e2⟩ := wipe_some e
            rw [wipe_out fun z => e2 (inn l z)]
            exact e1
          · refine thnF (T'.item (X.blk { s2 with heap := s2.heap.push (emptySet X.w) } H3 sc ce fp) rfl rfl rfl calm j _ s12 (wipe σ8 vs') H12 (fun _ _ => False) I12 (rest' n12) st12 more') fun r s13 ⟨u', hr, h13⟩ => ?_
            subst hr
            refine thnF h13 fun _ s14 ⟨x', H14, I14, r14, y14, st14, n14⟩ => ?_
            refine thnF (pg'.run _ s14 (wipe σ8 vs') H14 x' u' _ (I14.pinned (rest' n14) (T'.obj _ _ st14)) r14 (step' x' H14 y14)) fun _ s15 ⟨σ15, H15, I15, hw15, q15⟩ => ?_
            refine thnF (pt'.run _ s15 σ15 H15 _ I15 q15) fun b' s16 ⟨H16, I16, q16⟩ => ?_
            have back' : ∀ {s' : Shared} {H' : Hp}, Inv (X.blk { s2 with heap := s2.heap.push (emptySet X.w) } H3 sc ce fp) (([] ++ pinsAt fp s7.heap) ++ pinsAt fp' s14.heap) σ15 H' s' → Nx' H' → ∃ m, m < k ∧ Go' m s' := by
              intro s' H' I' nx
              obtain ⟨m', hm, w'⟩ := hNx' H' nx
              have pin : ∀ b ∈ fp', ∀ o, s14.heap.get? b = some o → s'.heap.get? b = some o ∧ H' b = none := fun b hb o e =>
                let z := I'.pin (b, o) (List.mem_append_right _ (List.mem_append_right _ (mem_pinsAt hb e))); ⟨z.1, z.2.1⟩
              refine ⟨m', hm, ?_⟩
              rw [hGo']
              refine ⟨j + 1, H', I'.unpinned.weak (by rw [← hw15, wipe_length]) (fun l v e => by rw [← hw15] at e; exact (wipe_some e).1), T'.keep _ _ _ st14 fun b hb o e => (pin b hb o e).1, fun b hb => ?_, w'⟩
              obtain ⟨o, e, _⟩ := T'.obj _ _ st14 b hb
              exact (pin b hb o e).2
            cases b' with
            | false => simp only [Bool.false_eq_true, if_false] at q16 ⊢; exact back' I16 q16
            | true =>
              simp only [if_true] at q16 ⊢
              refine thnF (pe.run _ s16 σ15 H16 _ I16 q16) fun z s17 ⟨yv, H17, I17, r17, num, S0, c0, ey, hD17, few, nx⟩ => ?_
              subst ey
              obtain ⟨t, rfl⟩ := r17
              exact putInt (X := X.blk _ H3 sc ce fp) I17 hD17 few fun s18 I18 => back' I18 nx
        exact scx_startB inner (T'.self X.A 0 _ _ _ st11 inner)
  exact codeAny_compStart_set round (T.self X.A 0 _ _ _ st4 round)
end
end Rp

/-! ATOMs: their variables, a BINDING put into them. -/
namespace Rp
open PySem PySem.Spec PyProof.Rows L2 TL NdefX LamX StX PpSet
theorem walk_tup {K : PySem.W.Frag} {a : Addr} {xs : List V} {B : V → Hp → (Hp → Prop) → Prop} {H1 : Hp} {Done : Hp → Prop} (Pv : Nat → Hp → Prop) (h0 : Pv 0 H1) (hl : ∀ i H, i ≤ xs.length → Pv i H → SqT K H a xs)
    (hs : ∀ i x H, xs[i]? = some x → Pv i H → B x H (Pv (i + 1))) (hd : ∀ H, Pv xs.length H → Done H) :
    ∃ W : Nat → Nat → Hp → Prop, (∃ m, W 0 m H1) ∧ ∀ i m H, W i m H →
      ((Itt K a).stop i H ∧ Done H) ∨ ((Itt K a).go i H ∧ ∃ Nx : Hp → Prop, (∀ H', Nx H' → ∃ m', m' < m ∧ W (i + 1) m' H') ∧ ∀ x H', (Itt K a).yld i H x H' → B x H' Nx) := by
  refine ⟨fun i m H => m = xs.length - i ∧ i ≤ xs.length ∧ Pv i H, ⟨xs.length, by simp, Nat.zero_le _, h0⟩, ?_⟩
  rintro i m H ⟨rfl, hi, p⟩
  have q := hl i H hi p
  by_cases hlt : i < xs.length
  · refine .inr ⟨⟨xs, xs[i], q, by simp [hlt]⟩, Pv (i + 1), fun H' p' => ⟨xs.length - (i + 1), by omega, rfl, hlt, p'⟩, fun x H' y => ?_⟩
    obtain ⟨e, y⟩ := y
    subst e
    exact hs i x _ (y xs q) p
  · have e : i = xs.length := by omega
    subst e
    exact .inl ⟨⟨xs, q, Nat.le_refl _⟩, hd H p⟩
theorem walk_lst {K : PySem.W.Frag} {a : Addr} {xs : List V} {B : V → Hp → (Hp → Prop) → Prop} {H1 : Hp} {Done : Hp → Prop} (Pv : Nat → Hp → Prop) (h0 : Pv 0 H1) (hl : ∀ i H, i ≤ xs.length → Pv i H → SqL K H a xs)
    (hs : ∀ i x H, xs[i]? = some x → Pv i H → B x H (Pv (i + 1))) (hd : ∀ H, Pv xs.length H → Done H) :
    ∃ W : Nat → Nat → Hp → Prop, (∃ m, W 0 m H1) ∧ ∀ i m H, W i m H →
      ((Itl K a).stop i H ∧ Done H) ∨ ((Itl K a).go i H ∧ ∃ Nx : Hp → Prop, (∀ H', Nx H' → ∃ m', m' < m ∧ W (i + 1) m' H') ∧ ∀ x H', (Itl K a).yld i H x H' → B x H' Nx) := by
  refine ⟨fun i m H => m = xs.length - i ∧ i ≤ xs.length ∧ Pv i H, ⟨xs.length, by simp, Nat.zero_le _, h0⟩, ?_⟩
  rintro i m H ⟨rfl, hi, p⟩
  have q := hl i H hi p
  by_cases hlt : i < xs.length
  · refine .inr ⟨⟨xs, xs[i], q, by simp [hlt]⟩, Pv (i + 1), fun H' p' => ⟨xs.length - (i + 1), by omega, rfl, hlt, p'⟩, fun x H' y => ?_⟩
    obtain ⟨e, y⟩ := y
    subst e
    exact hs i x _ (y xs q) p
  · have e : i = xs.length := by omega
    subst e
    exact .inl ⟨⟨xs, q, Nat.le_refl _⟩, hd H p⟩
/-- an ATOM stands as the value v -/
def AmAt (H : Hp) (v : V) (p : Str) (ts : List Tm) : Prop := ∃ (a : Addr) (xs : List V), v = .ref a ∧ H a = some (.tup (.str p :: xs)) ∧ AllAt H xs ts
theorem AmAt.mono {H H' : Hp} {v : V} {p : Str} {ts : List Tm} (e : ∀ a xs, H a = some (.tup xs) → H' a = some (.tup xs)) : AmAt H v p ts → AmAt H' v p ts := fun ⟨a, xs, h1, h2, h3⟩ => ⟨a, xs, h1, e _ _ h2, h3.mono e⟩
/-- all but D and the tables stays -/
structure ExtB (T : List NTab) (D : Addr) (H H' : Hp) : Prop where
  ext : ∀ c o, H c = some o → c ≠ D → (∀ ps, o ≠ .tbl ps) → H' c = some o
  tab : TabsN T H'
theorem code_lst {c : Addr} {q : Str} {xs : List V} : CodeO c q ≠ .lst xs := fun z => by unfold CodeO at z; cases z
theorem tabs_but {T : List NTab} {H H' : Hp} {D : Addr} {xs : List V} (t : TabsN T H) (hD : H D = some (.lst xs)) (o : But D H H') : TabsN T H' := fun p hp => by
  obtain ⟨ps, h1, h2, h3⟩ := t p hp
  refine ⟨ps, o _ _ h1 (ne_of h1 hD (by intro z; cases z)), h2, fun pos cv hc => ?_⟩
  obtain ⟨c, e1, e2⟩ := h3 pos cv hc
  exact ⟨c, e1, o _ _ e2 (ne_of e2 hD code_lst)⟩
theorem ExtB.refl {T : List NTab} {D : Addr} {H : Hp} (t : TabsN T H) : ExtB T D H H := ⟨fun _ _ h _ _ => h, t⟩
theorem ExtB.trans {T : List NTab} {D : Addr} {H H1 H2 : Hp} (a : ExtB T D H H1) (b : ExtB T D H1 H2) : ExtB T D H H2 := ⟨fun c o h n m => b.ext c o (a.ext c o h n m) n m, b.tab⟩
theorem Ext.toB {T : List NTab} {D : Addr} {H H' : Hp} (e : Ext T H H') : ExtB T D H H' := ⟨fun c o h _ m => e.ext c o h m, e.tab⟩
theorem ExtB.but {T : List NTab} {D : Addr} {xs : List V} {H H' : Hp} (t : TabsN T H) (hD : H D = some (.lst xs)) (o : But D H H') : ExtB T D H H' := ⟨fun c u h n _ => o c u h n, tabs_but t hD o⟩
theorem ExtB.same {T : List NTab} {D : Addr} {H H' : Hp} (t : TabsN T H) (s : Same H H') : ExtB T D H H' := ⟨fun c u h _ _ => s c u h, t.ext s⟩
theorem ExtB.tups {T : List NTab} {D : Addr} {xs : List V} {H H' : Hp} (e : ExtB T D H H') (hD : H D = some (.lst xs)) : Tups H H' :=
  ⟨fun _ _ h => e.ext _ _ h (ne_of h hD (by intro z; cases z)) (fun _ z => by cases z), fun _ _ _ h => e.ext _ _ h (ne_of h hD (by intro z; cases z)) (fun _ z => by cases z)⟩
theorem ExtB.lst {T : List NTab} {D : Addr} {H H' : Hp} (e : ExtB T D H H') {a : Addr} {xs : List V} (h : H a = some (.lst xs)) (n : a ≠ D) : H' a = some (.lst xs) := e.ext _ _ h n fun _ z => by cases z
theorem nums_half : ∀ t : Tm, 2 * t.nums.length ≤ t.size + 1
  | .v n => by simp [Tm.nums, Tm.size]
  | .z => by simp [Tm.nums, Tm.size]
  | .s t => by have := nums_half t; simp only [Tm.nums, Tm.size]; omega
  | .f l r => by have := nums_half l; have := nums_half r; simp only [Tm.nums, Tm.size, List.length_append]; omega
theorem rising_few {ns ms : List Int} (h : ns.Pairwise (· < ·)) (sub : ∀ k ∈ ns, k ∈ ms) : ns.length ≤ ms.length := by
  induction ns generalizing ms with
  | nil => exact Nat.zero_le _
  | cons n r ih =>
    obtain ⟨h1, h2⟩ := List.pairwise_cons.mp h
    have hn := sub n (by simp)
    have := ih (ms := ms.erase n) h2 fun k hk => (List.mem_erase_of_ne (by have := h1 k hk; omega)).mpr (sub k (by simp [hk]))
    rw [List.length_erase_of_mem hn] at this
    have : 0 < ms.length := List.length_pos_of_mem hn
    simp only [List.length_cons]
    omega
def spAVars : Sp := fun vs H Q _ => ∃ (v : V) (p : Str) (ts : List Tm), vs = [v] ∧ AmAt H v p ts ∧ ts.length ≤ 2 ∧ (∀ t ∈ ts, t.size ≤ 40) ∧ ∀ (g : Addr) (ns : List Int) (H' : Hp), H g = none → H' g = some (.lst (ns.map V.int)) → ns.Pairwise (· < ·) → (∀ k, k ∈ ns ↔ k ∈ ts.flatMap Tm.nums) → Same H H' → Q (.ref g) H'
def spAPut (T : List NTab) : Sp := fun vs H Q _ => ∃ (v : V) (p : Str) (ts : List Tm) (a : Addr) (bd : Bd), vs = [v, .ref a] ∧ AmAt H v p ts ∧ ts.length ≤ 2 ∧ (∀ t ∈ ts, t.size ≤ 1000) ∧ BdAt H a bd ∧ TabsN T H ∧
  ∀ (v' : V) (H' : Hp), AmAt H' v' p (ts.map (Tm.put bd)) → Ext T H H' → Q v' H'
abbrev NAV : List Str := ["atom", "term", "variable"]
abbrev NAP : List Str := ["atom", "binding", "term"]
section
variable {P : Program} {w : World} {K : PySem.W.Frag} {mg : Str → Option Value} {base : Heap}
def teVars : TE := fun σ H Q => tCons (tVar 1) tNil σ H fun vs H1 => spVars vs H1 Q E0
def tePut (K : PySem.W.Frag) (T : List NTab) : TE := fun σ H Q => tCons (tVar 2) (tCons (tVar 1) tNil) σ H fun vs H1 => spPut T vs H1 Q E0
end
end Rp

/-! t + u of tuples, t maybe empty: then u itself. -/
namespace Rp
open PySem PySem.Spec PyProof.Rows L2 HT
def rCatE (K : PySem.W.Frag) : R2 := fun x y H Q => ∃ (a b : Addr) (xs ys : List V), x = .ref a ∧ y = .ref b ∧ SqT K H a xs ∧ SqT K H b ys ∧ xs.length + ys.length ≤ sizeLine ∧
  (xs = [] → Q (.ref b) H) ∧ (xs ≠ [] → ys = [] → Q (.ref a) H) ∧ (xs ≠ [] → ys ≠ [] → ∀ p, H p = none → Q (.ref p) (upd H p (.tup (xs ++ ys))))
theorem op_catE {X : Cx} : OpR X (binaryOp .Add) (rCatE X.K) := by
  intro pins s σ H x y v u Q I rx ry h
  obtain ⟨a, b, xs, ys, ex, ey, ha, hb, hz, q0, q1, q2⟩ := h
  by_cases he : xs = []
  · subst ex ey
    cases rx
    cases ry
    obtain ⟨its, r1, p1, _⟩ := I.tuple ha
    obtain ⟨its2, r2, p2, _⟩ := I.tuple hb
    subst he
    cases r1
    obtain ⟨⟨c1, d1, t1, s1⟩, g1, e1, n1, k1⟩ := id p1
    obtain ⟨⟨c2, d2, t2, s2⟩, g2, e2, n2, k2⟩ := id p2
    simp only at e1 k1 e2 k2
    subst e1 k1 e2 k2
    exact concat_meets ⟨_, g1, rfl⟩ ⟨_, g2, rfl⟩ noFill_tuple_add seq_tuple_add PySem.F.slot_tuple_add PySem.F.entry_tuple_add (PySem.F.args_tuple_add_2 _ _)
      (tuple_addW0 a b _ its2.toArray n1 n2 d1 d2 s1 s2 (by simp)) ⟨g1, g2, ⟨.ref b, H, I, rfl, q0 rfl⟩⟩
  · exact op_catT pins s σ H x y v u Q I rx ry ⟨a, b, xs, ys, ex, ey, ha, hb, he, hz, q1 he, q2 he⟩
end Rp

/-! a, *b = t, a tuple of one item at least. -/
namespace Rp
open PySem PySem.Spec PySem.Calls PyProof.Rows L2 PySem.W
section
variable {prog : Program} {w : World} {A : Around} {E : Value → Shared → Prop} {s : Shared}
theorem unpack_starT {l : Addr} {items : Array Value} {n i : Nat} {Q : List Value → Shared → Prop} (isT : IsTup s.heap l items) (calm : A.handled = none) (hi : i < n) (hn : n ≤ items.size + 1) (few : items.size ≤ 16384)
    (go : ∀ (h' : Heap) (tk : Nat), (∀ b o, s.heap.get? b = some o → h'.get? b = some o) → Q (items.toList.take i ++ [.ref h'.objs.size] ++ (items.toList.drop i).drop (items.size + 1 - n))
      { s with heap := h'.push (seqObj "list" ((items.toList.drop i).take (items.size + 1 - n)).toArray 0), toks := tk }) : wpAny (model prog w) A (unpackItems (.ref l) n (some i)) Q E s := by
  have apart : l ≠ s.heap.objs.size := by obtain ⟨o, ho, _⟩ := isT; exact Nat.ne_of_lt (Heap.lt_size ho)
  unfold unpackItems; refine wpAny_bind ?_; unfold notIterableAtAll
  refine wpAny_bind (wpAny_specialOf isT.typeIs slot_tuple_iter.lookup (wpAny_pure ?_)); simp only [Bool.false_eq_true, if_false]
  refine wpAny_bind (wpAny_holding (iter_tuple isT (wpAny_bind (wpAny_holding (draw_tuple apart i 0 _ _ ⟨_, Heap.get?_push_size _ rfl, rfl, rfl⟩ (isT.push _) (by omega) fun h₁ it1 sb1 => ?_)))))
  have isT1 : IsTup h₁ l items := (isT.push _).extBut sb1.extBut apart
  rw [Nat.zero_add] at it1
  obtain ⟨oi, hoi, _⟩ := id it1
  obtain ⟨ol, hol, _⟩ := id isT1
  rw [List.drop_zero, if_neg (show ¬ ((items.toList.take i).length < i) by rw [List.length_take, Array.length_toList]; omega)]
  refine wpAny_bind (wpAny_holding (kun_collect (s := { s with heap := h₁ }) (T := "tuple_iterator") (.inr (.inr (.inr rfl))) (Walks.tuple (A := A.in1) calm s.heap.objs.size l apart items) (fun j u st => st.1.typeIs) (k := i) (by omega) ⟨it1, isT1⟩
    (Heap.lt_size hoi) (Heap.lt_size hol) (fun h₂ tk old => ?_) (by rw [sizeLine_eq]; omega)))
  have rest : (items.toList.drop i).length = items.size - i := by rw [List.length_drop, Array.length_toList]
  show wpAny _ _ (if (items.toList.drop i).length < n - 1 - i then _ else _) _ _ _; rw [if_neg (by rw [rest]; omega)]
  show wpAny _ _ (newList ((items.toList.drop i).take ((items.toList.drop i).length - (n - 1 - i))) >>= fun d => pure (items.toList.take i ++ [d] ++ (items.toList.drop i).drop ((items.toList.drop i).length - (n - 1 - i)))) _ _ _
  rw [show (items.toList.drop i).length - (n - 1 - i) = items.size + 1 - n by rw [rest]; omega]
  refine wpAny_bind (wpAny_newList (wpAny_pure (go h₂ tk fun b o z => old b o (Nat.ne_of_lt (Heap.lt_size z)) (sb1.extBut b o (Nat.ne_of_lt (Heap.lt_size z)) (Heap.get?_push_of_some _ z)))) (by rw [List.length_take, rest, sizeLine_eq]; omega))
end
section
variable {X : Cx} {pos : Pos}
/-- (a, *b) = a tuple: the first item, a new list of the others -/
def gStarT (K : PySem.W.Frag) (t : TGs) : TG := fun v σ H Q => ∃ (a : Addr) (x : V) (xs : List V), v = .ref a ∧ SqT K H a (x :: xs) ∧ xs.length ≤ 16000 ∧ ∀ p, H p = none → t [x, .ref p] σ (upd H p (.lst xs)) Q
theorem pg_starT {es : List Expr} {k : Nat} {t : TGs} (calm : X.calm = true) (h : PGs X es t) (hn : (assignEach es X.env).length = 2 := by rfl) (hst : (assignEach es X.env).findIdx? (·.1) = some 1 := by rfl) : PG X (.Tuple es k pos) (gStarT X.K t) := by
  refine ⟨fun pins s σ H v u Q I r hw => ?_⟩
  obtain ⟨a, x, xs, rfl, sq, few, go⟩ := hw
  cases r
  obtain ⟨its, rv, isT, _⟩ := I.tuple sq
  cases rv with
  | @cons _ v0 _ vs r0 rr =>
    have lv := rr.length
    rw [assign_Tuple]
    refine wpAny_bind (wpAny_standAt ?_)
    unfold unpack
    rw [hn, hst]
    refine wpAny_bind (wpAny_holding (unpack_starT isT (I.ok.hd calm) (by decide) (by simp) (by simp; omega) fun h' tk old => ?_))
    have J : Inv X pins σ H { s with heap := h', toks := tk } := I.kept old
    have big : (20000 : Nat) ≤ sizeLine := by decide
    have K1 : Inv X pins σ (upd H h'.objs.size (.lst xs)) { s with heap := h'.push (seqObj "list" vs.toArray 0), toks := tk } :=
      J.laid (t' := tk) (fun b o z => Heap.get?_push_of_some _ z) (Nat.le_refl _) ⟨by omega, vs, 0, rr, Heap.get?_push_size _ rfl⟩
    have e1 : ((v0 :: vs).toArray.toList.drop 1).take ((v0 :: vs).toArray.size + 1 - 2) = vs := by simp
    have e2 : (v0 :: vs).toArray.toList.take 1 ++ [Value.ref h'.objs.size] ++ ((v0 :: vs).toArray.toList.drop 1).drop ((v0 :: vs).toArray.size + 1 - 2) = [v0, .ref h'.objs.size] := by simp
    rw [e1, e2]
    exact h.run pins _ σ _ [x, .ref h'.objs.size] _ Q K1 (.cons r0 (.cons rfl .nil)) (go _ (J.hok.fresh (Nat.le_refl _)))
end
end Rp

set_option maxHeartbeats 16000000
/-! ATOMs, SAYINGs where they stand; the law's names. -/
namespace Rp
open PySem PySem.Spec PyProof.Rows L2 TL StX
theorem join1 (a x : Str) : Txt.join a [x] = x := by rw [TL.join_eq]; simp [Str.join]
theorem join2 (a x y : Str) : Txt.join a [x, y] = x ++ a ++ y := by rw [TL.join_eq]; simp [Str.join]
theorem slen (a b : Str) : (a ++ b).length = a.length + b.length := Str.length_append a b
theorem tm_ok : ∀ t : Tm, (tmD t).canLay0 = true ∧ (tmD t).depth ≤ t.deep + 1 ∧ nd (tmD t) ≤ 2 * t.size
  | .v n => ⟨rfl, by simp [tmD, PyData.depth], by simp [tmD, nd, Tm.size]⟩
  | .z => ⟨by decide +kernel, by simp [tmD, PyData.depth, PyData.depthAll], by simp [tmD, nd, ndAll, Tm.size]⟩
  | .s t => by
    have ih := tm_ok t
    have a : PyData.canLay0 (.str "s") = true := by decide +kernel
    refine ⟨?_, ?_, ?_⟩
    · simp only [tmD, PyData.canLay0, PyData.canLayAll0, Bool.and_true, Bool.and_eq_true]; exact ⟨by simpa [PyData.canLay0] using a, ih.1⟩
    · simp only [tmD, PyData.depth, PyData.depthAll, Tm.deep]; omega
    · simp only [tmD, nd, ndAll, Tm.size]; omega
  | .f l r => by
    have ih := tm_ok l
    have ih2 := tm_ok r
    have a : PyData.canLay0 (.str "f") = true := by decide +kernel
    refine ⟨?_, ?_, ?_⟩
    · simp only [tmD, PyData.canLay0, PyData.canLayAll0, Bool.and_true, Bool.and_eq_true]; exact ⟨by simpa [PyData.canLay0] using a, ih.1, ih2.1⟩
    · simp only [tmD, PyData.depth, PyData.depthAll, Tm.deep]; omega
    · simp only [tmD, nd, ndAll, Tm.size]; omega
theorem atAt_same {H H' : Hp} {v : V} {a : At} (h : AtAt H v a) (s : Same H H') : AtAt H' v a := by
  obtain ⟨p, xs, e, h1, h2⟩ := h
  exact ⟨p, xs, e, s _ _ h1, h2.mono fun b zs z => s _ _ z⟩
def AtsAt (H : Hp) : List V → List At → Prop
  | [], [] => True
  | v :: xs, a :: as => AtAt H v a ∧ AtsAt H xs as
  | _, _ => False
theorem AtsAt.len {H : Hp} : ∀ {xs : List V} {as : List At}, AtsAt H xs as → xs.length = as.length
  | [], [], _ => rfl
  | _ :: _, _ :: _, h => congrArg (· + 1) (AtsAt.len h.2)
theorem AtsAt.same {H H' : Hp} (s : Same H H') : ∀ {xs : List V} {as : List At}, AtsAt H xs as → AtsAt H' xs as
  | [], [], _ => trivial
  | _ :: _, _ :: _, h => ⟨atAt_same h.1 s, AtsAt.same s h.2⟩
theorem AtsAt.get {H : Hp} : ∀ {xs : List V} {as : List At} {i : Nat} {x : V}, AtsAt H xs as → xs[i]? = some x → ∃ a, as[i]? = some a ∧ AtAt H x a
  | v :: xs, a :: as, 0, x, h, e => ⟨a, rfl, by have : v = x := by simpa using e
                                                subst this; exact h.1⟩
  | _ :: xs, _ :: as, i + 1, x, h, e => by simpa using AtsAt.get h.2 (by simpa using e)
theorem AtsAt.append {H : Hp} : ∀ {xs ys : List V} {as bs : List At}, AtsAt H xs as → AtsAt H ys bs → AtsAt H (xs ++ ys) (as ++ bs)
  | [], _, [], _, _, h => h
  | _ :: xs, _, _ :: as, _, h, h' => ⟨h.1, AtsAt.append h.2 h'⟩
structure AtsOk (as : List At) : Prop where
  few : as.length ≤ 6
  ok : ∀ a ∈ as, AtOk 50 a
theorem atAt_mono {H H' : Hp} (e : ∀ a xs, H a = some (.tup xs) → H' a = some (.tup xs)) {v : V} {a : At} (h : AtAt H v a) : AtAt H' v a := by
  obtain ⟨p, xs, r, h1, h2⟩ := h
  exact ⟨p, xs, r, e _ _ h1, h2.mono e⟩
theorem AtsAt.mono {H H' : Hp} (e : ∀ a xs, H a = some (.tup xs) → H' a = some (.tup xs)) : ∀ {xs : List V} {as : List At}, AtsAt H xs as → AtsAt H' xs as
  | [], [], _ => trivial
  | _ :: _, _ :: _, h => ⟨atAt_mono e h.1, AtsAt.mono e h.2⟩
theorem all_dp {K : PySem.W.Frag} {H : Hp} : ∀ {xs : List V} {ts : List Tm}, AllAt H xs ts → DpAll K H xs (ts.map tmD)
  | [], [], _ => .nil
  | _ :: _, _ :: _, h => .cons (h.1.dat (b := (0 : Nat))).dp (all_dp h.2)
theorem at_dp {K : PySem.W.Frag} {H : Hp} {v : V} {a : At} (h : AtAt H v a) : Dp K H v (atD a) := by
  obtain ⟨p, xs, rfl, h1, h2⟩ := h
  exact .tup (.inl (.inl h1)) (.cons (.str _) (all_dp h2))
theorem ats_dp {K : PySem.W.Frag} {H : Hp} : ∀ {xs : List V} {as : List At}, AtsAt H xs as → DpAll K H xs (as.map atD)
  | [], [], _ => .nil
  | _ :: _, _ :: _, h => .cons (at_dp h.1) (ats_dp h.2)
theorem name_lay {x : Str} (h : NameOk x) : PyData.canLay0 (.str x) = true := by
  show x.cps.all (· < 0x110000) = true
  rw [Array.all_eq_true']
  intro c hc
  have := h.low c (Array.mem_toList_iff.mpr hc)
  exact decide_eq_true (by omega)
theorem tms_lay : ∀ {ts : List Tm}, (∀ t ∈ ts, t.size ≤ 50) → PyData.canLayAll0 (ts.map tmD) = true ∧ PyData.depthAll (ts.map tmD) ≤ 51
  | [], _ => ⟨rfl, by decide⟩
  | t :: ts, h => by
    have ih := tms_lay (ts := ts) fun u hu => h u (by simp [hu])
    have d1 := Tm.deep_lt t
    have z := h t (by simp)
    obtain ⟨c1, c2, _⟩ : (tmD t).canLay0 = true ∧ (tmD t).depth ≤ t.deep + 1 ∧ nd (tmD t) ≤ 2 * t.size := tm_ok t
    simp only [List.map_cons, PyData.canLayAll0, PyData.depthAll, c1, ih.1]
    exact ⟨rfl, by omega⟩
theorem at_lay {a : At} (ok : AtOk 50 a) : (atD a).canLay0 = true ∧ (atD a).depth ≤ 52 := by
  have h := tms_lay (ts := a.ts) fun t ht => (ok.sm t ht).2
  refine ⟨?_, ?_⟩
  · show PyData.canLayAll0 (.str a.nm :: a.ts.map tmD) = true
    simp only [PyData.canLayAll0, name_lay ok.nm, h.1]
    rfl
  · show PyData.depthAll (.str a.nm :: a.ts.map tmD) + 1 ≤ 52
    simp only [PyData.depthAll, PyData.depth]
    omega
theorem ats_lay : ∀ {as : List At}, (∀ a ∈ as, AtOk 50 a) → PyData.canLayAll0 (as.map atD) = true ∧ PyData.depthAll (as.map atD) ≤ 52
  | [], _ => ⟨rfl, by decide⟩
  | a :: as, h => by
    have ih := ats_lay (as := as) fun b hb => h b (by simp [hb])
    have z := at_lay (h a (by simp))
    simp only [List.map_cons, PyData.canLayAll0, PyData.depthAll, z.1, ih.1]
    exact ⟨rfl, by omega⟩
theorem ats_shaped {as : List At} (h : ∀ a ∈ as, AtOk 50 a) : SeqAt.shaped (.list (as.map atD)) = true := by
  have z := ats_lay h
  refine shaped_of ?_ ?_
  · show PyData.canLayAll0 _ = true
    exact z.1
  · show PyData.depthAll _ + 1 ≤ 64
    omega
theorem at_shaped {a : At} (h : AtOk 50 a) : SeqAt.shaped (atD a) = true := shaped_of (at_lay h).1 (by have := (at_lay h).2; omega)
theorem notin_ats {as : List At} {a : At} (h : a ∉ as) : (as.map atD).any (fun z => PyData.eqv z (atD a)) = false := by rw [in_ats, decide_eq_false h]
theorem AtOk.more {z y : Nat} {a : At} (h : AtOk z a) (le : z ≤ y) : AtOk y a := ⟨h.nm, h.one, h.two, fun t ht => ⟨(h.sm t ht).1, Nat.le_trans (h.sm t ht).2 le⟩⟩
theorem unl_nd (as : List At) : (unl as).Nodup := by
  have all : ∀ (as acc : List At), acc.Nodup → (unlG acc as).Nodup := by
    intro as
    induction as with
    | nil => intro acc h; exact h
    | cons a as ih =>
      intro acc h
      have e : unlG acc (a :: as) = unlG (if a ∈ acc then acc else acc ++ [a]) as := rfl
      rw [e]
      by_cases m : a ∈ acc
      · rw [if_pos m]; exact ih _ h
      · rw [if_neg m]
        refine ih _ (List.nodup_append.mpr ⟨h, by simp, fun x hx y hy e' => ?_⟩)
        obtain rfl : y = a := by simpa using hy
        exact m (e' ▸ hx)
  exact all as [] (by simp)
structure Sy where
  hs : List At
  gl : At
def SyAt (H : Hp) (v : V) (s : Sy) : Prop := ∃ (p q : Addr) (vg : V) (xs : List V), v = .ref p ∧ H p = some (.tup [.ref q, vg]) ∧ H q = some (.tup xs) ∧ AtsAt H xs s.hs ∧ AtAt H vg s.gl
structure SyOk (s : Sy) : Prop where
  hs : AtsOk s.hs
  nd : s.hs.Nodup
  gl : AtOk 50 s.gl
theorem syAt_mono {H H' : Hp} (e : ∀ a xs, H a = some (.tup xs) → H' a = some (.tup xs)) {v : V} {s : Sy} (h : SyAt H v s) : SyAt H' v s := by
  obtain ⟨p, q, vg, xs, rfl, h1, h2, h3, h4⟩ := h
  exact ⟨p, q, vg, xs, rfl, e _ _ h1, e _ _ h2, h3.mono e, atAt_mono e h4⟩
theorem SyAt.same {H H' : Hp} {v : V} {s : Sy} (h : SyAt H v s) (e : Same H H') : SyAt H' v s := syAt_mono (fun a xs z => e _ _ z) h
theorem cut_to {xs : List V} (n : Nat) : cutV xs none (some (n : Int)) = xs.take n := by
  unfold cutV
  rw [HT.sIx_none, HT.sIx_nat, List.drop_zero, Nat.sub_zero]
  rcases Nat.le_total n xs.length with h | h
  · rw [Nat.min_eq_left h]
  · rw [Nat.min_eq_right h, List.take_length, List.take_of_length_le h]
theorem cut_mid {xs : List V} (n m : Nat) : ∃ a b, cutV xs (some (n : Int)) (some (m : Int)) = (xs.drop (min n xs.length)).take b ∧ a = b := ⟨_, _, by unfold cutV; rw [HT.sIx_nat, HT.sIx_nat], rfl⟩
theorem eqv_lnil {ds : List PyData} : PyData.eqv (.list ds) (.list []) = ds.isEmpty := by
  cases ds <;> simp [PyData.eqv, PyData.eqvAll]
theorem ixN_int {n : Nat} {i : Int} (h : 0 ≤ i ∧ i < n) : ixN n i = some i.toNat := by unfold ixN; rw [if_pos h.1, if_pos h.2]
theorem but_none {H H' : Hp} {b : Addr} {j : Nat} (o : But b H H') (B : BoxAt H' b j) {D : Addr} (h : H' D = none) : H D = none := by
  cases e : H D with
  | none => rfl
  | some u =>
    have nb : D ≠ b := by
      rintro rfl
      obtain ⟨ys, hb⟩ := B.some
      rw [hb] at h; cases h
    have := o _ _ e nb
    rw [h] at this; cases this
theorem BoxAt.upd {H : Hp} {b D : Addr} {j : Nat} (B : BoxAt H b j) (n : D ≠ b) (o : HO) : BoxAt (L2.upd H D o) b j := by
  obtain ⟨x, y, z, h, r⟩ := B.ex
  exact ⟨x, y, z, by rw [upd_ne n.symm]; exact h, r⟩
def Low (x : Str) : Prop := ∀ c ∈ tl x, 97 ≤ c ∧ c ≤ 122
theorem low_cut {z : Str} (h : Low z) (lo hi : Option Int) : Low (cutS z lo hi) := by
  intro c hc
  have hc : c ∈ (z.cps.toList.drop (HT.sIx z.length 0 lo)).take (HT.sIx z.length z.length hi - HT.sIx z.length 0 lo) := hc
  exact h c (List.mem_of_mem_drop (List.mem_of_mem_take hc))
theorem cutS_parts {z : Str} {k : Nat} (h : k ≤ z.length) : (cutS z none (some (k : Int))).length = k ∧ (cutS z (some (k : Int)) none).length = z.length - k := by
  have e : z.cps.toList.length = z.length := Array.length_toList
  constructor
  · show (((z.cps.toList.drop (HT.sIx z.length 0 none)).take (HT.sIx z.length z.length (some (k : Int)) - HT.sIx z.length 0 none)).toArray).size = k
    rw [List.size_toArray, HT.sIx_none, HT.sIx_nat, List.length_take, List.length_drop, e]
    omega
  · show (((z.cps.toList.drop (HT.sIx z.length 0 (some (k : Int)))).take (HT.sIx z.length z.length none - HT.sIx z.length 0 (some (k : Int)))).toArray).size = _
    rw [List.size_toArray, HT.sIx_none, HT.sIx_nat, List.length_take, List.length_drop, e]
    omega
theorem low_append {a b : Str} (ha : Low a) (hb : Low b) : Low (a ++ b) := by
  intro c hc
  rw [tl_append] at hc
  rcases List.mem_append.mp hc with hc | hc
  · exact ha c hc
  · exact hb c hc
theorem low_one {c : Nat} (h : 97 ≤ c ∧ c ≤ 122) : Low ⟨#[c]⟩ := by
  intro d hd
  have hd : d ∈ [c] := hd
  simp at hd
  omega
theorem low_join : ∀ ys : List Str, (∀ y ∈ ys, y.length = 1 ∧ Low y) → (Txt.join "" ys).length = ys.length ∧ Low (Txt.join "" ys)
  | [], _ => ⟨by decide +kernel, fun c hc => by have : tl (Txt.join "" []) = [] := by decide +kernel
                                                rw [this] at hc; simp at hc⟩
  | [x], h => by rw [join1]; exact h x (by simp)
  | x :: y :: l, h => by
    have ih := low_join (y :: l) fun z hz => h z (by simp at hz ⊢; exact .inr hz)
    have hx := h x (by simp)
    rw [TL.join_eq] at ih ⊢
    have e0 : ("" : Str).length = 0 := by decide +kernel
    have le : Low ("" : Str) := fun c hc => by have : tl ("" : Str) = [] := by decide +kernel
                                               rw [this] at hc; simp at hc
    refine ⟨?_, low_append (low_append hx.2 le) ih.2⟩
    show (x ++ "" ++ Str.join "" (y :: l)).length = _
    rw [slen, slen, e0, hx.1, ih.1]
    simp only [List.length_cons]
    omega
theorem letter_at {i : Int} (h : 0 ≤ i ∧ i < 26) : ∃ c, atI letters.cps.toList i = some c ∧ (97 ≤ c ∧ c ≤ 122) ∧ (c : Int) = 97 + i := by
  have all : ∀ k : Fin 26, atI letters.cps.toList (k.val : Int) = some (97 + k.val) := by decide +kernel
  obtain ⟨k, rfl⟩ := Int.eq_ofNat_of_zero_le h.1
  exact ⟨_, all ⟨k, by omega⟩, ⟨by show 97 ≤ 97 + k; omega, by show 97 + k ≤ 122; omega⟩, by show ((97 + k : Nat) : Int) = _; omega⟩
/-- words alike but for one sign -/
def Named (pre post : Str) (r d : Int) (ws : List Str) : Prop := ∀ (x : Str) (k : Nat), ws[k]? = some x → ∃ c : Nat, x = pre ++ ⟨#[c]⟩ ++ post ∧ (c : Int) = 97 + (r + d * (k : Int)) % 26
theorem Named.snoc {pre post : Str} {r d : Int} {ws : List Str} (h : Named pre post r d ws) {y : Str} (hy : ∃ c : Nat, y = pre ++ ⟨#[c]⟩ ++ post ∧ (c : Int) = 97 + (r + d * (ws.length : Int)) % 26) : Named pre post r d (ws ++ [y]) := by
  intro x k hx
  by_cases hk : k < ws.length
  · rw [List.getElem?_append_left hk] at hx
    exact h x k hx
  · rw [List.getElem?_append_right (by omega)] at hx
    by_cases e : k = ws.length
    · subst e
      simp at hx
      subst hx
      exact hy
    · rw [List.getElem?_eq_none (by simp; omega)] at hx
      cases hx
theorem Named.len {pre post : Str} {r d : Int} {ws : List Str} (h : Named pre post r d ws) : ∀ x ∈ ws, x.length = pre.length + 1 + post.length := by
  intro x hx
  obtain ⟨k, hk, rfl⟩ := List.getElem_of_mem hx
  obtain ⟨c, e, _⟩ := h _ k (List.getElem?_eq_getElem hk)
  rw [e, slen, slen]
  rfl
theorem Named.nodup {pre post : Str} {r d : Int} {ws : List Str} (h : Named pre post r d ws) (w4 : ws.length ≤ 4) (hd : d = 1 ∨ d = 3 ∨ d = 7 ∨ d = 25) : ws.Nodup := by
  refine List.pairwise_iff_getElem.mpr fun i j hi hj lt e => ?_
  obtain ⟨c, e1, c1⟩ := h _ i (List.getElem?_eq_getElem hi)
  obtain ⟨c', e2, c2⟩ := h _ j (List.getElem?_eq_getElem hj)
  rw [e1, e2] at e
  have e := congrArg tl e
  simp only [tl_append, List.append_assoc] at e
  have e := List.append_cancel_left e
  have cc : c = c' := by
    have t1 : tl (⟨#[c]⟩ : Str) = [c] := rfl
    have t2 : tl (⟨#[c']⟩ : Str) = [c'] := rfl
    rw [t1, t2] at e
    simpa using e
  subst cc
  rw [c1] at c2
  have j4 : j = 1 ∨ j = 2 ∨ j = 3 := by omega
  have i4 : i = 0 ∨ i = 1 ∨ i = 2 := by omega
  rcases hd with rfl | rfl | rfl | rfl <;> omega
theorem iff_nodup {ws : List Str} (h : ws.Nodup) (l : ∀ x ∈ ws, ∀ y ∈ ws, x.length = y.length) : (ws.map fun x : Str => if x = ("if" : Str) then ("iff" : Str) else x).Nodup := by
  refine List.pairwise_map.mpr ?_
  refine List.Pairwise.imp_of_mem (R := (· ≠ ·)) (fun {a b} ha hb ne e => ?_) h
  have l2 : ("if" : Str).length = 2 := by decide +kernel
  have l3 : ("iff" : Str).length = 3 := by decide +kernel
  have lab := l a ha b hb
  by_cases h1 : a = ("if" : Str)
  · by_cases h2 : b = ("if" : Str)
    · exact ne (h1.trans h2.symm)
    · simp only [if_pos h1, if_neg h2] at e
      rw [← e, h1] at lab
      omega
  · by_cases h2 : b = ("if" : Str)
    · simp only [if_neg h1, if_pos h2] at e
      rw [e, h2] at lab
      omega
    · simp only [if_neg h1, if_neg h2] at e
      exact ne e
def spWords : Sp := fun vs H Q _ => ∃ (b : Addr) (j n : Nat), vs = [.ref b, .int (n : Nat)] ∧ 1 ≤ n ∧ n ≤ 4 ∧ BoxAt H b j ∧ j + 10 ≤ 1000000 ∧
  ∀ (p : Addr) (ws : List Str) (H' : Hp), H p = none → H' p = some (.lst (ws.map V.str)) → ws.length = n → (∀ x ∈ ws, NameOk x) → ws.Nodup → BoxAt H' b (j + 10) → But b H H' → Q (.ref p) H'
def rMod : R2 := rI (fun _ j => 0 < j) fun i j => .int (i % j)
def rMulI : R2 := rI CMul fun i j => .int (i * j)
def rAddI : R2 := rI0 fun i j => .int (i + j)
def rAddS : R2 := fun x y H Q => ∃ i j, x = .str i ∧ y = .str j ∧ i.length + j.length ≤ sizeLine ∧ Q (.str (i ++ j)) H
theorem op_modP {X : Cx} : OpR X (binaryOp .Mod) rMod := op_mod
theorem op_mulI {X : Cx} : OpR X (binaryOp .Mult) rMulI := op_mul
theorem op_addI {X : Cx} : OpR X (binaryOp .Add) rAddI := op_add
theorem op_addS {X : Cx} : OpR X (binaryOp .Add) rAddS := op_add_str
def teLetter : TE := tOp rIxS (tVar 2) (tCall spTake [] E0 (tCons (tVar 0) (tCons (tC (.int 26)) tNil)))
def teName : TE := tOp rAddS (tOp rAddS (tSl rSlS (tVar 5) tNoPart (tPart (tVar 6))) (tOp rIxS (tVar 2) (tOp rMod (tOp rAddI (tVar 3) (tOp rMulI (tVar 4) (tVar 8))) (tC (.int 26))))) (tSl rSlS (tVar 5) (tPart (tVar 6)) tNoPart)
def teIff : TE := tIf (tTest (tOp rEq (tVar 9) (tC (.str "if")))) (tC (.str "iff")) (tVar 9)
theorem TmAt.box {H H' : Hp} {b : Addr} {v : V} {t : Tm} {j : Nat} (T : TmAt H v t) (o : But b H H') (B : BoxAt H b j) : TmAt H' v t := by
  obtain ⟨ys, hb⟩ := B.some
  exact T.mono fun a xs z => o _ _ z (ne_of z hb (by intro e; cases e))
theorem AtAt.box {H H' : Hp} {b : Addr} {v : V} {a : At} {j : Nat} (T : AtAt H v a) (o : But b H H') (B : BoxAt H b j) : AtAt H' v a := by
  obtain ⟨ys, hb⟩ := B.some
  exact atAt_mono (fun a xs z => o _ _ z (ne_of z hb (by intro e; cases e))) T
theorem AtsAt.box {H H' : Hp} {b : Addr} {xs : List V} {as : List At} {j : Nat} (T : AtsAt H xs as) (o : But b H H') (B : BoxAt H b j) : AtsAt H' xs as := by
  obtain ⟨ys, hb⟩ := B.some
  exact T.mono fun a xs z => o _ _ z (ne_of z hb (by intro e; cases e))
section
variable {P : Program} {w : World} {K : PySem.W.Frag} {mg : Str → Option Value} {base : Heap}
abbrev NW : List Str := ["_law_box_here", "_law_count", "_law_letters", "_law_begun", "_law_by", "_law_tail", "_law_at", "_law_found", "_law_k", "_law_name"]
theorem scWords : FnScope NW ["_law_box_here", "_law_count"] (defScope sNames) := ⟨rfl, rfl, rfl, by decide +kernel, rfl, by decide +kernel, by decide +kernel⟩
theorem ok_words {f fT : Addr} {fd fdT : FuncData} (F : Fun K "_law_names" "_law_names" sNames f fd) (FT : Fun K "_law_take" "_law_take" sTake fT fdT) (bT : Binds K fdT ["_law_box_here", "_law_reach"] []) (mT : mg "_law_take" = some (.ref fT))
    (mRange : mg "range" = none) (mLen : mg "len" = none) : FnOk P w K mg base CX0 2 f fd ["_law_box_here", "_law_count"] spWords := by
  have GT : FnOk P w K mg base CX0 1 fT fdT ["_law_box_here", "_law_reach"] spTake := ok_take FT
  refine F.ok scWords (fun vs H Q E h => ?_) (fun cdv A outer s H vs Q E hr h => ?_)
  · obtain ⟨b, j, n, rfl, _⟩ := h
    rfl
  obtain ⟨b, j, n, rfl, n1, n4, B, hj, q⟩ := h
  refine ⟨_, pss_cons (ps_asg (pe_tup (pa_cons pe_str (pa_cons (pe_call GT hr (by rfl) mT FT.kp bT .nil pass0 (pa_cons (pv 0) (pa_cons pe_int pa_nil))) (pa_cons (pe_ix ix_list (pe_lst (pa_cons pe_int (pa_cons pe_int (pa_cons pe_int (pa_cons pe_int pa_nil))))) (pe_call GT hr (by rfl) mT FT.kp bT .nil pass0 (pa_cons (pv 0) (pa_cons pe_int pa_nil))) (fun _ _ => rfl)) pa_nil))))
      (pg_tup (by rfl) (pgs_cons (pg_name (i := 2) scWords.nd rfl (Or.inr rfl)) (pgs_cons (pg_name (i := 3) scWords.nd rfl (Or.inr rfl)) (pgs_cons (pg_name (i := 4) scWords.nd rfl (Or.inr rfl)) pgs_nil)))))
    (pss_cons (ps_set (i := 5) scWords.nd rfl (Or.inr rfl) (pe_bm PySem.F.plainAttrs_str PySem.F.slot_str_join PySem.F.type_str_join mt_join pe_str (pa_cons
      (pe_lc (own := [("_law_k", 8)]) (g := gName 8) (tt := tYes) (te := teLetter) rfl scWords.nd (pi_range1 (by rfl) mRange (pa_cons (pe_call GT hr (by rfl) mT FT.kp bT .nil pass0 (pa_cons (pv 0) (pa_cons pe_int pa_nil))) pa_nil))
        (blkOk_by (N := NW) (sc := defScope sNames) (by decide +kernel)) (fun _ _ _ _ _ => pg_name (i := 8) scWords.nd rfl (Or.inl rfl)) (fun _ _ _ _ _ => pts_nil)
        (fun _ _ _ _ _ => pe_ix ix_str (pv 2) (pe_call GT hr (by rfl) mT FT.kp bT .nil pass0 (pa_cons (pv 0) (pa_cons pe_int pa_nil))) (fun _ _ => rfl))) pa_nil)))
    (pss_cons (ps_set (i := 6) scWords.nd rfl (Or.inr rfl) (pe_call GT hr (by rfl) mT FT.kp bT .nil pass0 (pa_cons (pv 0) (pa_cons (pe_op op_addI (pe_callB call_len_str (by rfl) mLen PySem.boot_len (pa_cons (pv 5) pa_nil)) pe_int) pa_nil))))
    (pss_cons (ps_setLc (i := 7) (own := [("_law_k", 8)]) (g := gName 8) (tt := tYes) (te := teName) rfl scWords.nd rfl rfl (by rfl) (pi_range1 (by rfl) mRange (pa_cons (pv 1) pa_nil))
        (blkOk_by (N := NW) (sc := defScope sNames) (by decide +kernel)) (fun _ _ _ _ _ => pg_name (i := 8) scWords.nd rfl (Or.inl rfl)) (fun _ _ _ _ _ => pts_nil)
        (fun _ _ _ _ _ => pe_op op_addS (pe_op op_addS (pe_slice sl_str (pv 5) po_none (po_some (pv 6))) (pe_ix ix_str (pv 2) (pe_op op_modP (pe_op op_addI (pv 3) (pe_op op_mulI (pv 4) (pv 8))) pe_int) (fun _ _ => rfl))) (pe_slice sl_str (pv 5) (po_some (pv 6)) po_none)))
    (pss_one (ps_ret (pe_lc (own := [("_law_name", 9)]) (g := gName 9) (tt := tYes) (te := teIff) rfl scWords.nd (pi_list (pv 7))
        (blkOk_by (N := NW) (sc := defScope sNames) (by decide +kernel)) (fun _ _ _ _ _ => pg_name (i := 9) scWords.nd rfl (Or.inl rfl)) (fun _ _ _ _ _ => pts_nil)
        (fun _ _ _ _ _ => pe_ifExp (pt_cmpR op_eq (pv 9) pe_str (nomark _)) pe_str (pv 9)))))))), ?_⟩
  have big : (10000 : Nat) ≤ sizeLine := by decide
  have l0 : ("" : Str).length = 0 := by decide +kernel
  have ll : letters.length = 26 := by decide +kernel
  refine ⟨_, rfl, b, _, j, rfl, B, by omega, by decide, by decide, fun r1 H1 a0 a1 B1 o1 => ?_⟩
  refine ⟨(by show 4 ≤ sizeLine; decide), fun d hd => ?_⟩
  have s2 := same_new hd (.lst [V.int 1, V.int 3, V.int 7, V.int 25])
  refine ⟨_, rfl, b, _, _, rfl, B1.same s2, by omega, by decide, by decide, fun r2 H3 b0 b1 B3 o3 => ?_⟩
  obtain ⟨y1, hb1⟩ := B1.some
  have db : d ≠ b := (ne_of_none hb1 hd).symm
  have hd3 := o3 _ _ upd_same db
  obtain ⟨by_, hat, hby⟩ : ∃ n : Int, atI [V.int 1, V.int 3, V.int 7, V.int 25] r2 = some (.int n) ∧ (n = 1 ∨ n = 3 ∨ n = 7 ∨ n = 25) := by
    rcases (by omega : r2 = 0 ∨ r2 = 1 ∨ r2 = 2 ∨ r2 = 3) with e | e | e | e <;> subst e
    · exact ⟨_, at_of (j := 0) rfl rfl, by omega⟩
    · exact ⟨_, at_of (j := 1) rfl rfl, by omega⟩
    · exact ⟨_, at_of (j := 2) rfl rfl, by omega⟩
    · exact ⟨_, at_of (j := 3) rfl rfl, by omega⟩
  refine ⟨d, _, _, _, rfl, rfl, .inl (.inl hd3), hat, (by show 3 ≤ sizeLine; decide), fun t ht => ?_⟩
  have s4 := same_new ht (.tup [V.str letters, V.int r1, V.int by_])
  refine ⟨t, _, rfl, .inl (.inl upd_same), rfl, _, _, rfl, _, _, rfl, _, _, rfl, rfl, ?_⟩
  have B4 := B3.same s4
  refine ⟨rfl, _, rfl, b, _, _, rfl, B4, by omega, by decide, by decide, fun m3 H6 c0 c1 B6 o6 => ?_⟩
  have o06 : But b H H6 := o1.trans ((but_of s2).trans (o3.trans ((but_of s4).trans o6)))
  refine ⟨_, rfl, by omega, by omega, fun D hD => lc_range (lo := 0) (fun i H7 => ∃ ys : List Str, H7 D = some (.lst (ys.map V.str)) ∧ ys.length = i ∧ (∀ y ∈ ys, y.length = 1 ∧ Low y) ∧ BoxAt H7 b (j + 3 + i) ∧ But b H H7)
    ⟨[], upd_same, rfl, by simp, (B6.same (same_new hD _)).more (by omega), o06.trans (but_of (same_new hD _))⟩ ?_ ?_⟩
  · rintro i H7 hi ⟨ys, h7, yl, yo, B7, o7⟩
    have Db : D ≠ b := by
      obtain ⟨y6, hb6⟩ := B6.some
      exact (ne_of_none hb6 hD).symm
    refine ⟨rfl, ?_⟩
    unfold teLetter
    refine ⟨_, rfl, _, rfl, b, _, _, rfl, B7, by omega, by decide, by decide, fun r H8 d0 d1 B8 o8 => ?_⟩
    obtain ⟨c, hc, cl, _⟩ := letter_at ⟨d0, d1⟩
    refine ⟨letters, _, c, rfl, rfl, by omega, hc, ys.map V.str, o8 _ _ h7 Db, by rw [List.length_map]; omega, ys ++ [⟨#[c]⟩], ?_, by simp [yl], ?_, (B8.upd Db _).more (by omega), ?_⟩
    · rw [upd_same, List.map_append]; rfl
    · intro y hy
      rcases List.mem_append.mp hy with hy | hy
      · exact yo y hy
      · obtain rfl : y = ⟨#[c]⟩ := by simpa using hy
        exact ⟨rfl, low_one cl⟩
    · intro x o z nb
      have xD : x ≠ D := ne_of_none z (but_none o06 B6 hD)
      rw [upd_ne xD]
      exact o8 _ _ (o7 _ _ z nb) nb
  · rintro H7 ⟨ys, h7, yl, yo, B7, o7⟩
    obtain ⟨jl, jw⟩ := low_join ys yo
    have sum1 : ∀ zs : List Str, (∀ y ∈ zs, y.length = 1 ∧ Low y) → (zs.map (·.length)).sum = zs.length := by
      intro zs
      induction zs with
      | nil => intro _; rfl
      | cons z zs ih =>
        intro h
        rw [List.map_cons, List.sum_cons, ih fun y hy => h y (by simp [hy]), (h z (by simp)).1, List.length_cons]
        omega
    refine ⟨"", D, ys, rfl, rfl, .inl (.inl (.inl h7)), by rw [l0, sum1 ys yo]; omega, ?_⟩
    generalize Txt.join "" ys = tail at jl jw
    have tl5 : tail.length ≤ 5 := by omega
    refine ⟨_, rfl, _, rfl, tail, rfl, by omega, _, _, rfl, rfl, b, _, _, rfl, B7, by omega, by omega, by omega, fun r8 H8 e0 e1 B8 o8 => ?_⟩
    obtain ⟨k, rfl⟩ := Int.eq_ofNat_of_zero_le e0
    obtain ⟨p1, p2⟩ := cutS_parts (z := tail) (k := k) (by omega)
    have w1 := low_cut jw none (some (k : Int))
    have w2 := low_cut jw (some (k : Int)) none
    have o08 := o7.trans o8
    refine ⟨_, rfl, _, rfl, by omega, by omega, fun D2 hD2 => lc_range (lo := 0) (fun i H9 => ∃ ws : List Str, H9 D2 = some (.lst (ws.map V.str)) ∧ ws.length = i ∧ (∀ x ∈ ws, 1 ≤ x.length ∧ x.length ≤ 6 ∧ Low x) ∧ Named (cutS tail none (some (k : Int))) (cutS tail (some (k : Int)) none) r1 by_ ws ∧ Same H8 H9) ⟨[], upd_same, rfl, by simp, fun x i h => by simp at h, same_new hD2 _⟩ ?_ ?_⟩
    · rintro i H9 hi ⟨ws, h9, wl, wo, wn, s9⟩
      refine ⟨rfl, ?_⟩
      unfold teName
      have i4 : i < 4 := by omega
      obtain ⟨c, hc, cl, ce⟩ := letter_at (i := (r1 + by_ * (0 + (i : Int))) % 26) (by omega)
      have one : (⟨#[c]⟩ : Str).length = 1 := rfl
      refine ⟨_, rfl, _, rfl, (k : Int), rfl, tail, rfl, by omega, ?_⟩
      refine ⟨_, rfl, _, rfl, _, rfl, _, rfl, _, _, rfl, rfl, .inl ⟨by omega, by omega⟩, _, _, rfl, rfl, _, _, rfl, rfl, (by show (0 : Int) < 26; decide), letters, _, c, rfl, rfl, by omega, hc, ?_⟩
      refine ⟨_, _, rfl, rfl, by rw [p1, one]; omega, ?_⟩
      refine ⟨_, rfl, _, rfl, (k : Int), rfl, tail, rfl, by omega, ?_⟩
      refine ⟨_, _, rfl, rfl, by rw [slen, p1, p2, one]; omega, ?_⟩
      refine ⟨ws.map V.str, h9, by rw [List.length_map]; omega, ws ++ [cutS tail none (some (k : Int)) ++ ⟨#[c]⟩ ++ cutS tail (some (k : Int)) none], by rw [upd_same, List.map_append]; rfl, by simp [wl], ?_, wn.snoc ⟨c, rfl, by rw [ce, wl]; simp⟩, ?_⟩
      · intro x hx
        rcases List.mem_append.mp hx with hx | hx
        · exact wo x hx
        · obtain rfl : x = _ := List.mem_singleton.mp hx
          refine ⟨?_, ?_, low_append (low_append w1 (low_one cl)) w2⟩
          · rw [slen, slen, p1, p2, one]; omega
          · rw [slen, slen, p1, p2, one]; omega
      · intro x o z
        rw [upd_ne (ne_of_none z hD2)]
        exact s9 _ _ z
    · rintro H9 ⟨ws, h9, wl, wo, wn, s9⟩
      have wl4 : ws.length = n := by rw [wl]; omega
      refine ⟨_, rfl, D2, rfl, ⟨_, .inl (.inl h9)⟩, fun D3 hD3 => lc_list (K := K) (a := D2) (xs := ws.map V.str) (fun i H10 => H10 D3 = some (.lst (((ws.take i).map fun x : Str => if x = ("if" : Str) then ("iff" : Str) else x).map V.str)) ∧ Same H9 H10) ⟨upd_same, same_new hD3 _⟩ (fun i H10 _ h => .inl (.inl (h.2 _ _ h9))) ?_ ?_⟩
      · rintro i x H10 hi ⟨h10, s10⟩
        rw [List.getElem?_map] at hi
        obtain ⟨y, hy, rfl⟩ : ∃ y, ws[i]? = some y ∧ x = .str y := by
          cases hq : ws[i]? with
          | none => rw [hq] at hi; cases hi
          | some p => rw [hq] at hi; exact ⟨p, rfl, by simpa using hi.symm⟩
        have tk : ws.take (i + 1) = ws.take i ++ [y] := by rw [List.take_add_one, hy]; rfl
        refine ⟨rfl, ?_⟩
        unfold teIff
        have fin : ∀ z : Str, z = (if y = ("if" : Str) then ("iff" : Str) else y) → ∃ acc, H10 D3 = some (.lst acc) ∧ acc.length < sizeLine ∧ (upd H10 D3 (.lst (acc ++ [V.str z]))) D3 = some (.lst (((ws.take (i + 1)).map fun x : Str => if x = ("if" : Str) then ("iff" : Str) else x).map V.str)) ∧ Same H9 (upd H10 D3 (.lst (acc ++ [V.str z]))) := by
          rintro z rfl
          refine ⟨_, h10, ?_, ?_, ?_⟩
          · rw [List.length_map, List.length_map, List.length_take]; omega
          · rw [upd_same, tk, List.map_append, List.map_append]; rfl
          · intro x o z
            rw [upd_ne (ne_of_none z hD3)]
            exact s10 _ _ z
        by_cases hif : y = ("if" : Str)
        · exact ⟨_, rfl, rfl, true, congrArg V.bl (decide_eq_true (by rw [hif])), iteT (fin _ (if_pos hif).symm)⟩
        · exact ⟨_, rfl, rfl, false, congrArg V.bl (decide_eq_false fun z => hif (V.str.inj z)), iteF ⟨_, rfl, fin _ (if_neg hif).symm⟩⟩
      · rintro H10 ⟨h10, s10⟩
        rw [List.length_map, List.take_length] at h10
        have o09 : But b H H9 := o08.trans (but_of s9)
        refine q D3 _ H10 (but_none o09 (B8.same s9) hD3) h10 (by rw [List.length_map, wl4]) ?_ (iff_nodup (wn.nodup (by omega) hby) fun x hx y hy => by rw [wn.len x hx, wn.len y hy]) (((B8.same s9).same s10).more (by omega)) (o09.trans (but_of s10))
        intro x hx
        obtain ⟨y, hy, rfl⟩ := List.mem_map.mp hx
        by_cases hif : y = ("if" : Str)
        · rw [if_pos hif]
          exact ⟨by decide +kernel, by decide +kernel, by decide +kernel, by decide +kernel⟩
        · rw [if_neg hif]
          obtain ⟨g1, g2, g3⟩ := wo y hy
          exact ⟨g1, g2, g3, hif⟩
end
end Rp

set_option maxHeartbeats 16000000
/-! The law's terms; atoms without copies. -/
namespace Rp
open PySem PySem.Spec PyProof.Rows L2 TL StX
theorem dp_ints {K : PySem.W.Frag} {H : Hp} : ∀ l : List Int, DpAll K H (l.map V.int) (l.map PyData.int)
  | [] => .nil
  | n :: l => .cons (.int n) (dp_ints l)
theorem ints_shaped (l : List Int) : SeqAt.shaped (.list (l.map PyData.int)) = true := by
  have c : PyData.canLayAll0 (l.map PyData.int) = true := by
    induction l with
    | nil => rfl
    | cons a l ih => show (true && PyData.canLayAll0 (l.map PyData.int)) = true; rw [ih]; rfl
  have d : PyData.depthAll (l.map PyData.int) ≤ 1 := by
    induction l with
    | nil => decide
    | cons a l ih =>
      have := ih (by
        have c' : (true && PyData.canLayAll0 (l.map PyData.int)) = true := c
        simpa using c')
      simp only [List.map_cons, PyData.depthAll, PyData.depth]; omega
  refine shaped_of c ?_
  show PyData.depthAll _ + 1 ≤ 64
  omega
def spLTerm (n : Nat) : Sp := fun vs H Q _ => ∃ (b p : Addr) (ks : List Int) (j d : Nat), vs = [.ref b, .ref p, .int d] ∧ BoxAt H b j ∧ H p = some (.lst (ks.map V.int)) ∧ (∀ k ∈ ks, 0 ≤ k ∧ k ≤ 99) ∧ ks.length ≤ 200 ∧ p ≠ b ∧ d < n ∧ d ≤ 2 ∧ j + (4 * 2 ^ d - 1) ≤ 1000000 ∧
  ∀ (v : V) (t : Tm) (H' : Hp), TmAt H' v t → t.small → t.size + 1 ≤ 2 ^ (d + 1) → BoxAt H' b (j + (4 * 2 ^ d - 1)) → But b H H' → Q v H'
def spUnlikeL : Sp := fun vs H Q _ => ∃ (q : Addr) (xs : List V) (as : List At), vs = [.ref q] ∧ H q = some (.lst xs) ∧ AtsAt H xs as ∧ AtsOk as ∧
  ∀ (p : Addr) (ys : List V) (H' : Hp), H' p = some (.tup ys) → AtsAt H' ys (unl as) → Same H H' → Q (.ref p) H'
def teLeaf (K : PySem.W.Frag) : TE := tIf (tAnd (tTest (tOp (rNeD K) (tVar 1) (tLst tNil))) (tTest (tOp (rI0 fun i j => .bl (decide (j < i))) (tCall spTake [] E0 (tCons (tVar 0) (tCons (tC (.int 3)) tNil))) (tC (.int 0)))))
  (tCall spPick [] E0 (tCons (tVar 0) (tCons (tVar 1) tNil))) (tTup (tCons (tC (.str "0")) tNil))
theorem leaf_ok {K : PySem.W.Frag} {H : Hp} {b p : Addr} {ks : List Int} {j : Nat} {r : List (Option V)} {Q : V → Hp → Prop} (B : BoxAt H b j) (hp : H p = some (.lst (ks.map V.int))) (pk : ∀ k ∈ ks, 0 ≤ k ∧ k ≤ 99) (pl : ks.length ≤ 200) (pb : p ≠ b) (hj : j + 2 ≤ 1000000)
    (q : ∀ (v : V) (t : Tm) (H' : Hp), TmAt H' v t → t.small → t.size = 1 → BoxAt H' b (j + 2) → But b H H' → Q v H') : teLeaf K (some (.ref b) :: some (.ref p) :: r) H Q := by
  unfold teLeaf
  refine ⟨_, rfl, (by show 0 ≤ sizeLine; decide), fun l hl => ?_⟩
  have s1 := same_new hl (.lst ([] : List V))
  have B1 := B.same s1
  have hp1 := s1 _ _ hp
  refine ⟨.list (ks.map .int), .list [], .lst (.inl (.inl hp1)) (dp_ints ks), .lst (.inl (.inl upd_same)) .nil, ints_shaped _, ints_shaped [], !(ks.map PyData.int).isEmpty, congrArg (fun z => V.bl (!z)) eqv_lnil, ?_⟩
  generalize upd H l (.lst ([] : List V)) = H1 at s1 B1 hp1 ⊢
  have zero : ∀ (H2 : Hp) (j2 : Nat), BoxAt H2 b j2 → j2 ≤ j + 2 → But b H1 H2 → ∀ c, H2 c = none → Q (.ref c) (upd H2 c (.tup [V.str "0"])) := fun H2 j2 B2 le o2 c hc => by
    have s3 := same_new hc (.tup [V.str "0"])
    exact q (.ref c) .z _ (.z upd_same) (fun k hk => by simp [Tm.nums] at hk) rfl ((B2.same s3).more le) ((but_of s1).trans (o2.trans (but_of s3)))
  cases ks with
  | nil => exact iteF (iteF ⟨(by show 1 ≤ sizeLine; decide), fun c hc => zero H1 j B1 (by omega) (But.refl _ _) c hc⟩)
  | cons k0 ks =>
    refine iteT ?_
    refine ⟨_, rfl, b, _, j, rfl, B1, by omega, by decide, by decide, fun r3 H2 c0 c1 B2 o2 => ?_⟩
    have hp2 := o2 _ _ hp1 pb
    refine ⟨_, _, rfl, rfl, decide ((0 : Int) < r3), rfl, ?_⟩
    by_cases h3 : (0 : Int) < r3
    · rw [decide_eq_true h3]
      refine iteT ⟨_, rfl, _, rfl, b, p, _, _, rfl, B2, by omega, hp2, pb, by simp, by rw [List.length_map]; omega, fun v H3 hv B3 o3 => ?_⟩
      obtain ⟨m, hm, rfl⟩ := List.mem_map.mp hv
      have m9 := pk m hm
      exact q _ (.v m) H3 (.v m) (fun k hk => by simp [Tm.nums] at hk; subst hk; exact m9) rfl (B3.more (by omega)) ((but_of s1).trans (o2.trans o3))
    · rw [decide_eq_false h3]
      exact iteF ⟨(by show 1 ≤ sizeLine; decide), fun c hc => zero H2 _ B2 (by omega) o2 c hc⟩
section
variable {P : Program} {w : World} {K : PySem.W.Frag} {mg : Str → Option Value} {base : Heap}
abbrev NT : List Str := ["_law_box_here", "_law_pool", "_law_deep", "_law_way", "_law_one"]
theorem scLTerm : FnScope NT ["_law_box_here", "_law_pool", "_law_deep"] (defScope sTermL) := ⟨rfl, rfl, rfl, by decide +kernel, rfl, by decide +kernel, by decide +kernel⟩
theorem ok_lterm {n : Nat} {f fT fP : Addr} {fd fdT dP : FuncData} (F : Fun K "_law_term" "_law_term" sTermL f fd) (b2 : Binds K fd ["_law_box_here", "_law_pool", "_law_deep"] []) (mF : mg "_law_term" = some (.ref f))
    (G : FnOk P w K mg base CX0 (n + 2) f fd ["_law_box_here", "_law_pool", "_law_deep"] (spLTerm n))
    (GT : FnOk P w K mg base CX0 1 fT fdT ["_law_box_here", "_law_reach"] spTake) (kT : PySem.W.keepIn K (.ref fT) = true) (bT : Binds K fdT ["_law_box_here", "_law_reach"] []) (mT : mg "_law_take" = some (.ref fT))
    (GP : FnOk P w K mg base CX0 2 fP dP ["_law_box_here", "_law_things"] spPick) (kP : PySem.W.keepIn K (.ref fP) = true) (bP : Binds K dP ["_law_box_here", "_law_things"] []) (mP : mg "_law_pick" = some (.ref fP)) :
    FnOk P w K mg base CX0 (n + 3) f fd ["_law_box_here", "_law_pool", "_law_deep"] (spLTerm (n + 1)) := by
  refine F.ok scLTerm (fun vs H Q E h => ?_) (fun cdv A outer s H vs Q E hr h => ?_)
  · obtain ⟨b, p, ks, j, d, rfl, _⟩ := h
    rfl
  obtain ⟨b, p, ks, j, d, rfl, B, hp, pk, pl, pb, dn, d4, hj, q⟩ := h
  have r1 : Room 1 _ := hr.mono (by omega)
  have r2 : Room 2 _ := hr.mono (by omega)
  refine ⟨_, pss_cons (ps_set (i := 3) scLTerm.nd rfl (Or.inl rfl) (pe_call GT r1 rfl mT kT bT .nil pass0 (pa_cons (pv 0) (pa_cons pe_int pa_nil))))
    (pss_cons (ps_if (PW.pt (pw_or (pt_cmpR op_eq (pv 2) pe_int (nomark _)) (pw_or1 (pt_cmpR op_lt (pv 3) pe_int (nomark _))))) (pss_one (ps_ret (pe_ifExp (PW.pt (pw_and (pt_cmpR (op_neD hr.units) (pv 1) (pe_lst pa_nil) (nomark _))
        (pw_and1 (pt_cmpR op_gt (pe_call GT r1 rfl mT kT bT .nil pass0 (pa_cons (pv 0) (pa_cons pe_int pa_nil))) pe_int (nomark _)))))
        (pe_call GP r2 rfl mP kP bP .nil pass0 (pa_cons (pv 0) (pa_cons (pv 1) pa_nil))) (pe_tup (pa_cons pe_str pa_nil))))) pss_nil)
    (pss_cons (ps_if (pt_cmpR op_lt (pv 3) pe_int (nomark _)) (pss_one (ps_ret (pe_tup (pa_cons pe_str (pa_cons (pe_call G hr rfl mF F.kp b2 .nil pass0 (pa_cons (pv 0) (pa_cons (pv 1) (pa_cons (pe_op op_sub (pv 2) pe_int) pa_nil)))) pa_nil))))) pss_nil)
    (pss_cons (ps_set (i := 4) scLTerm.nd rfl (Or.inl rfl) (pe_call G hr rfl mF F.kp b2 .nil pass0 (pa_cons (pv 0) (pa_cons (pv 1) (pa_cons (pe_op op_sub (pv 2) pe_int) pa_nil)))))
    (pss_one (ps_ret (pe_tup (pa_cons pe_str (pa_cons (pv 4) (pa_cons (pe_call G hr rfl mF F.kp b2 .nil pass0 (pa_cons (pv 0) (pa_cons (pv 1) (pa_cons (pe_op op_sub (pv 2) pe_int) pa_nil)))) pa_nil))))))))), ?_⟩
  have p1 : 1 ≤ 2 ^ d := Nat.one_le_two_pow
  have p2 : 2 ^ (d + 1) = 2 * 2 ^ d := by rw [Nat.pow_succ]; omega
  refine ⟨_, rfl, b, _, j, rfl, B, by omega, by decide, by decide, fun way H1 w0 w5 B1 o1 => ?_⟩
  have hp1 := o1 _ _ hp pb
  by_cases h0 : d = 0
  · refine ⟨_, rfl, rfl, true, congrArg V.bl (decide_eq_true (by rw [h0]; rfl)), iteT ?_⟩
    exact leaf_ok B1 hp1 pk pl pb (by omega) fun v t H2 T sm sz B2 o2 => q v t H2 T sm (by omega) (B2.more (by omega)) (o1.trans o2)
  · refine ⟨_, rfl, rfl, false, congrArg V.bl (decide_eq_false (fun z => h0 (by injection z with z; omega))), iteF ?_⟩
    refine ⟨_, rfl, _, _, rfl, rfl, decide (way < 2), rfl, ?_⟩
    by_cases h2 : way < 2
    · rw [decide_eq_true h2]
      refine iteT ?_
      exact leaf_ok B1 hp1 pk pl pb (by omega) fun v t H2 T sm sz B2 o2 => q v t H2 T sm (by omega) (B2.more (by omega)) (o1.trans o2)
    · rw [decide_eq_false h2]
      refine iteF ?_
      obtain ⟨e, rfl⟩ : ∃ e, d = e + 1 := ⟨d - 1, by omega⟩
      have e1 : ([V.ref b, V.ref p, V.int (((e + 1 : Nat) : Int) - 1)] : List V) = [V.ref b, V.ref p, V.int (e : Nat)] := by rw [show (((e + 1 : Nat) : Int) - 1) = (e : Nat) by omega]
      have p0 : 1 ≤ 2 ^ e := Nat.one_le_two_pow
      have p3 : 2 ^ (e + 1) = 2 * 2 ^ e := by rw [Nat.pow_succ]; omega
      refine ⟨_, rfl, _, _, rfl, rfl, decide (way < 4), rfl, ?_⟩
      by_cases h3 : way < 4
      · rw [decide_eq_true h3]
        refine iteT ⟨_, rfl, _, rfl, _, rfl, _, _, rfl, rfl, b, p, ks, _, e, e1, B1, hp1, pk, pl, pb, by omega, by omega, by omega, fun v t H2 T sm sz B2 o2 => ?_⟩
        refine ⟨(by show 2 ≤ sizeLine; decide), fun c hc => ?_⟩
        have s3 := same_new hc (.tup [V.str "s", v])
        exact q (.ref c) (.s t) _ (.s upd_same (T.same s3)) sm (by rw [p2]; simp only [Tm.size]; omega) ((B2.same s3).more (by omega)) (o1.trans (o2.trans (but_of s3)))
      · rw [decide_eq_false h3]
        refine iteF ⟨_, rfl, _, rfl, _, rfl, _, _, rfl, rfl, b, p, ks, _, e, e1, B1, hp1, pk, pl, pb, by omega, by omega, by omega, fun v t H2 T sm sz B2 o2 => ?_⟩
        have hp2 := o2 _ _ hp1 pb
        refine ⟨_, rfl, _, rfl, _, rfl, _, rfl, _, _, rfl, rfl, b, p, ks, _, e, e1, B2, hp2, pk, pl, pb, by omega, by omega, by omega, fun v' t' H3 T' sm' sz' B3 o3 => ?_⟩
        refine ⟨(by show 3 ≤ sizeLine; decide), fun c hc => ?_⟩
        have s4 := same_new hc (.tup [V.str "f", v, v'])
        exact q (.ref c) (.f t t') _ (.f upd_same ((T.box o3 B2).same s4) (T'.same s4)) (fun k hk => by
            rcases List.mem_append.mp hk with hk | hk
            · exact sm k hk
            · exact sm' k hk) (by rw [p2]; simp only [Tm.size]; omega) ((B3.same s4).more (by omega)) (o1.trans (o2.trans (o3.trans (but_of s4))))
theorem lterm_ok {f fT fP : Addr} {fd fdT dP : FuncData} (F : Fun K "_law_term" "_law_term" sTermL f fd) (b2 : Binds K fd ["_law_box_here", "_law_pool", "_law_deep"] []) (mF : mg "_law_term" = some (.ref f))
    (GT : FnOk P w K mg base CX0 1 fT fdT ["_law_box_here", "_law_reach"] spTake) (kT : PySem.W.keepIn K (.ref fT) = true) (bT : Binds K fdT ["_law_box_here", "_law_reach"] []) (mT : mg "_law_take" = some (.ref fT))
    (GP : FnOk P w K mg base CX0 2 fP dP ["_law_box_here", "_law_things"] spPick) (kP : PySem.W.keepIn K (.ref fP) = true) (bP : Binds K dP ["_law_box_here", "_law_things"] []) (mP : mg "_law_pick" = some (.ref fP)) :
    ∀ n : Nat, FnOk P w K mg base CX0 (n + 2) f fd ["_law_box_here", "_law_pool", "_law_deep"] (spLTerm n)
  | 0 => none_left fun vs H Q E h => by
    obtain ⟨b, p, ks, j, d, _, _, _, _, _, _, h, _⟩ := h
    omega
  | n + 1 => ok_lterm F b2 mF (lterm_ok F b2 mF GT kT bT mT GP kP bP mP n) GT kT bT mT GP kP bP mP
theorem scUnlikeL2 : FnScope ["_law_atoms", "_law_found", "_law_atom_here"] ["_law_atoms"] (defScope sUnlikeL) := ⟨rfl, rfl, rfl, by decide +kernel, rfl, by decide +kernel, by decide +kernel⟩
theorem ok_unlikel {f : Addr} {fd : FuncData} (F : Fun K "_law_unlike" "_law_unlike" sUnlikeL f fd) (mTuple : mg "tuple" = none) : FnOk P w K mg base CX0 1 f fd ["_law_atoms"] spUnlikeL := by
  refine F.ok scUnlikeL2 (fun vs H Q E h => ?_) (fun cdv A outer s H vs Q E hr h => ?_)
  · obtain ⟨q, xs, as, rfl, _⟩ := h
    rfl
  obtain ⟨q, xs, as, rfl, hq, A1, ok, fin⟩ := h
  refine ⟨_, pss_cons (ps_set (i := 1) scUnlikeL2.nd rfl (Or.inl rfl) (pe_lst pa_nil))
    (pss_cons (ps_for PassesOwn.never rfl (pi_list (pv 0)) (pg_name (i := 2) scUnlikeL2.nd rfl (Or.inl rfl))
      (pss_one (ps_if (pt_cmpR (op_notInD (hu65 hr)) (pv 2) (pv 1) (by rfl)) (pss_one (ps_expr (pe_bm PySem.F.plainAttrs_list PySem.F.slot_list_append PySem.F.type_list_append mt_append (pv 1) (pa_cons (pv 2) pa_nil)))) pss_nil)))
    (pss_one (ps_ret (pe_callTy call_tuple_of (by rfl) mTuple (by decide +kernel) (pa_cons (pv 1) pa_nil))))), ?_⟩
  have big : (10000 : Nat) ≤ sizeLine := by decide
  have xl := A1.len
  have o6 := ok.few
  refine ⟨(by show 0 ≤ sizeLine; decide), fun l hl => ?_⟩
  have s1 := same_new hl (.lst ([] : List V))
  have hq1 := s1 _ _ hq
  have lq : q ≠ l := ne_of_none hq hl
  refine ⟨_, rfl, q, rfl, ⟨_, .inl (.inl hq1)⟩, for_list (K := K) (a := q) (xs := xs) (fun i σ H2 => ∃ (x2 : Option V) (ys : List V), σ = [some (.ref q), some (.ref l), x2] ∧ H2 l = some (.lst ys) ∧ AtsAt H2 ys (unl (as.take i)) ∧ Same H H2)
    ⟨none, [], rfl, upd_same, trivial, s1⟩ (fun i σ H2 _ ⟨_, _, _, _, _, h⟩ => .inl (.inl (h _ _ hq))) ?_ ?_⟩
  · rintro i x σ H2 hi ⟨x2, ys, rfl, h2, A2, s2⟩
    obtain ⟨a, ha, T⟩ := A1.get hi
    have am := List.mem_of_getElem? ha
    have li : i < as.length := (List.getElem?_eq_some_iff.mp ha).1
    have yl := A2.len
    have ul := unl_le (as := as.take i)
    rw [List.length_take] at ul
    have tk : as.take (i + 1) = as.take i ++ [a] := by rw [List.take_add_one, ha]; rfl
    have T2 := atAt_same T s2
    refine ⟨_, rfl, _, rfl, atD a, (unl (as.take i)).map atD, at_dp T2, .lst (.inl (.inl h2)) (ats_dp A2), at_shaped (ok.ok a am), ats_shaped fun b hb => ok.ok b (List.mem_of_mem_take (mem_unl hb)), ?_⟩
    by_cases nin : a ∈ unl (as.take i)
    · refine ⟨false, by rw [in_ats, decide_eq_true nin]; rfl, iteF ?_⟩
      exact ⟨_, ys, rfl, h2, by rw [tk, unl_snoc, if_pos nin]; exact A2, s2⟩
    · refine ⟨true, by rw [notin_ats nin]; rfl, iteT ?_⟩
      refine ⟨_, rfl, .inl ⟨rfl, _, .inl (.inl h2)⟩, _, rfl, l, _, _, rfl, rfl, h2, by omega, ?_⟩
      have keep : ∀ b zs, H2 b = some (.tup zs) → (upd H2 l (.lst (ys ++ [x]))) b = some (.tup zs) := fun b zs z => by rw [upd_ne (ne_of z h2 (by intro e; cases e))]; exact z
      refine ⟨_, ys ++ [x], rfl, upd_same, by rw [tk, unl_snoc, if_neg nin]; exact (A2.mono keep).append ⟨atAt_mono keep T2, trivial⟩, ?_⟩
      intro c o z
      rw [upd_ne (ne_of_none z hl)]
      exact s2 _ _ z
  · rintro σ H2 ⟨x2, ys, rfl, h2, A2, s2⟩
    rw [xl, List.take_length] at A2
    exact ⟨_, rfl, l, _, rfl, .inl ⟨.inl (.inl h2), fun p hp => fin p ys _ upd_same (A2.same (same_new hp _)) (s2.trans (same_new hp _))⟩⟩
theorem ok_unlt {f : Addr} {fd : FuncData} (F : Fun K "unlike" "unlike" sUnlike f fd) (mTuple : mg "tuple" = none) : FnOk P w K mg base CX0 1 f fd ["atoms"] spUnlikeL := by
  refine F.ok scUnlike (fun vs H Q E h => ?_) (fun cdv A outer s H vs Q E hr h => ?_)
  · obtain ⟨q, xs, as, rfl, _⟩ := h
    rfl
  obtain ⟨q, xs, as, rfl, hq, A1, ok, fin⟩ := h
  refine ⟨_, pss_cons (ps_set (i := 1) scUnlike.nd rfl (Or.inl rfl) (pe_lst pa_nil))
    (pss_cons (ps_for PassesOwn.never rfl (pi_list (pv 0)) (pg_name (i := 2) scUnlike.nd rfl (Or.inl rfl))
      (pss_one (ps_if (pt_cmpR (op_notInD (hu65 hr)) (pv 2) (pv 1) (by rfl)) (pss_one (ps_expr (pe_bm PySem.F.plainAttrs_list PySem.F.slot_list_append PySem.F.type_list_append mt_append (pv 1) (pa_cons (pv 2) pa_nil)))) pss_nil)))
    (pss_one (ps_ret (pe_callTy call_tuple_of (by rfl) mTuple (by decide +kernel) (pa_cons (pv 1) pa_nil))))), ?_⟩
  have big : (10000 : Nat) ≤ sizeLine := by decide
  have xl := A1.len
  have o6 := ok.few
  refine ⟨(by show 0 ≤ sizeLine; decide), fun l hl => ?_⟩
  have s1 := same_new hl (.lst ([] : List V))
  have hq1 := s1 _ _ hq
  have lq : q ≠ l := ne_of_none hq hl
  refine ⟨_, rfl, q, rfl, ⟨_, .inl (.inl hq1)⟩, for_list (K := K) (a := q) (xs := xs) (fun i σ H2 => ∃ (x2 : Option V) (ys : List V), σ = [some (.ref q), some (.ref l), x2] ∧ H2 l = some (.lst ys) ∧ AtsAt H2 ys (unl (as.take i)) ∧ Same H H2)
    ⟨none, [], rfl, upd_same, trivial, s1⟩ (fun i σ H2 _ ⟨_, _, _, _, _, h⟩ => .inl (.inl (h _ _ hq))) ?_ ?_⟩
  · rintro i x σ H2 hi ⟨x2, ys, rfl, h2, A2, s2⟩
    obtain ⟨a, ha, T⟩ := A1.get hi
    have am := List.mem_of_getElem? ha
    have li : i < as.length := (List.getElem?_eq_some_iff.mp ha).1
    have yl := A2.len
    have ul := unl_le (as := as.take i)
    rw [List.length_take] at ul
    have tk : as.take (i + 1) = as.take i ++ [a] := by rw [List.take_add_one, ha]; rfl
    have T2 := atAt_same T s2
    refine ⟨_, rfl, _, rfl, atD a, (unl (as.take i)).map atD, at_dp T2, .lst (.inl (.inl h2)) (ats_dp A2), at_shaped (ok.ok a am), ats_shaped fun b hb => ok.ok b (List.mem_of_mem_take (mem_unl hb)), ?_⟩
    by_cases nin : a ∈ unl (as.take i)
    · refine ⟨false, by rw [in_ats, decide_eq_true nin]; rfl, iteF ?_⟩
      exact ⟨_, ys, rfl, h2, by rw [tk, unl_snoc, if_pos nin]; exact A2, s2⟩
    · refine ⟨true, by rw [notin_ats nin]; rfl, iteT ?_⟩
      refine ⟨_, rfl, .inl ⟨rfl, _, .inl (.inl h2)⟩, _, rfl, l, _, _, rfl, rfl, h2, by omega, ?_⟩
      have keep : ∀ b zs, H2 b = some (.tup zs) → (upd H2 l (.lst (ys ++ [x]))) b = some (.tup zs) := fun b zs z => by rw [upd_ne (ne_of z h2 (by intro e; cases e))]; exact z
      refine ⟨_, ys ++ [x], rfl, upd_same, by rw [tk, unl_snoc, if_neg nin]; exact (A2.mono keep).append ⟨atAt_mono keep T2, trivial⟩, ?_⟩
      intro c o z
      rw [upd_ne (ne_of_none z hl)]
      exact s2 _ _ z
  · rintro σ H2 ⟨x2, ys, rfl, h2, A2, s2⟩
    rw [xl, List.take_length] at A2
    exact ⟨_, rfl, l, _, rfl, .inl ⟨.inl (.inl h2), fun p hp => fin p ys _ upd_same (A2.same (same_new hp _)) (s2.trans (same_new hp _))⟩⟩
end
end Rp

set_option maxHeartbeats 16000000
/-! The law's shapes, atoms, sayings. -/
namespace Rp
open PySem PySem.Spec PyProof.Rows L2 TL StX
abbrev KVs := List (L2.Key × V)
def ShE (v : V) : Prop := ∃ m : Nat, v = .int (m : Nat) ∧ 1 ≤ m ∧ m ≤ 2
def ShOk (ws : List Str) (kvs : KVs) : Prop := ∀ x ∈ ws, ∃ v, valV kvs (.inr x) = some v ∧ ShE v
theorem merge_has : ∀ {more acc : KVs} {k : L2.Key}, (∀ kv ∈ more, ShE kv.2) → ((∃ v, valV acc k = some v ∧ ShE v) ∨ k ∈ more.map (·.1)) → ∃ v, valV (mergeK acc more) k = some v ∧ ShE v
  | [], acc, k, _, h => by
    rcases h with h | h
    · exact h
    · simp at h
  | kv :: more, acc, k, e, h => by
    have e1 : mergeK acc (kv :: more) = mergeK (putK acc kv.1 kv.2) more := rfl
    rw [e1]
    refine merge_has (fun z hz => e z (by simp [hz])) ?_
    by_cases z : k = kv.1
    · exact .inl ⟨kv.2, by rw [valV_put, if_pos z], e kv (by simp)⟩
    · rcases h with ⟨v, h1, h2⟩ | h
      · exact .inl ⟨v, by rw [valV_put, if_neg z]; exact h1, h2⟩
      · simp only [List.map_cons, List.mem_cons] at h
        exact .inr (h.resolve_left z)
def PairsAt (H : Hp) : List Addr → KVs → Prop
  | [], [] => True
  | p :: ps, kv :: kvs => H p = some (.tup [kV kv.1, kv.2]) ∧ PairsAt H ps kvs
  | _, _ => False
theorem PairsAt.mono {H H' : Hp} (e : ∀ a xs, H a = some (.tup xs) → H' a = some (.tup xs)) : ∀ {ps : List Addr} {kvs : KVs}, PairsAt H ps kvs → PairsAt H' ps kvs
  | [], [], _ => trivial
  | _ :: _, _ :: _, h => ⟨e _ _ h.1, PairsAt.mono e h.2⟩
theorem PairsAt.len {H : Hp} : ∀ {ps : List Addr} {kvs : KVs}, PairsAt H ps kvs → ps.length = kvs.length
  | [], [], _ => rfl
  | _ :: _, _ :: _, h => congrArg (· + 1) (PairsAt.len h.2)
theorem PairsAt.snoc {H : Hp} {p : Addr} {kv : L2.Key × V} (hp : H p = some (.tup [kV kv.1, kv.2])) : ∀ {ps : List Addr} {kvs : KVs}, PairsAt H ps kvs → PairsAt H (ps ++ [p]) (kvs ++ [kv])
  | [], [], _ => ⟨hp, trivial⟩
  | _ :: _, _ :: _, h => ⟨h.1, PairsAt.snoc hp h.2⟩
theorem PairsAt.paired {K : PySem.W.Frag} {H : Hp} : ∀ {ps : List Addr} {kvs : KVs}, PairsAt H ps kvs → Paired (fun p (kv : L2.Key × V) => SqT K H p [kV kv.1, kv.2]) ps kvs
  | [], [], _ => .nil
  | _ :: _, _ :: _, h => .cons (.inl (.inl h.1)) (PairsAt.paired h.2)
theorem ne_box {H : Hp} {a b : Addr} {j : Nat} (B : BoxAt H b j) (h : H a = none) : a ≠ b := by
  obtain ⟨y, hb⟩ := B.some
  exact (ne_of_none hb h).symm
theorem ne_boxT {H : Hp} {a b : Addr} {j : Nat} {o : HO} (B : BoxAt H b j) (h : H a = some o) (n : ∀ xs, o ≠ .lst xs) : a ≠ b := by
  obtain ⟨y, hb⟩ := B.some
  rintro rfl
  rw [hb] at h
  exact n _ (Option.some.inj h).symm
/-- tuples stay, a list taken anew -/
theorem keepU {H : Hp} {D : Addr} {xs : List V} {o : HO} (h : H D = some (.lst xs)) : ∀ q zs, H q = some (.tup zs) → (upd H D o) q = some (.tup zs) := fun q zs z => by
  rw [upd_ne (ne_of z h (by intro e; cases e))]; exact z
theorem keepB {H H' : Hp} {b : Addr} {j : Nat} (B : BoxAt H b j) (o : But b H H') : ∀ q zs, H q = some (.tup zs) → H' q = some (.tup zs) := fun q zs z => o _ _ z (ne_boxT B z (by intro xs e; cases e))
theorem but_new {H : Hp} {b D : Addr} {H0 H1 : Hp} {o : HO} (hD : H D = none) (h : But b H H0) (h' : ∀ x u, H0 x = some u → x ≠ b → H1 x = some u) : But b H (upd H1 D o) := by
  intro x u z nb
  rw [upd_ne (ne_of_none z hD)]
  exact h' _ _ (h _ _ z nb) nb
def spShapes : Sp := fun vs H Q _ => ∃ (b p : Addr) (ws : List Str) (j : Nat), vs = [.ref b, .ref p] ∧ BoxAt H b j ∧ H p = some (.lst (ws.map V.str)) ∧ p ≠ b ∧ ws.length ≤ 4 ∧ j + 4 ≤ 1000000 ∧
  ∀ (d : Addr) (kvs : KVs) (H' : Hp), H d = none → H' d = some (.dK kvs) → ShOk ws kvs → BoxAt H' b (j + 4) → But b H H' → Q (.ref d) H'
structure Wrd (H : Hp) (b d p pp : Addr) (ws : List Str) (ks : List Int) (kvs : KVs) : Prop where
  hd : H d = some (.dK kvs)
  sh : ShOk ws kvs
  hp : H p = some (.lst (ws.map V.str))
  hq : H pp = some (.lst (ks.map V.int))
  pk : ∀ k ∈ ks, 0 ≤ k ∧ k ≤ 99
  pl : ks.length ≤ 200
  pb : p ≠ b
  qb : pp ≠ b
  nm : ∀ x ∈ ws, NameOk x
  one : 1 ≤ ws.length
  four : ws.length ≤ 4
theorem Wrd.db {H : Hp} {b d p pp : Addr} {ws : List Str} {ks : List Int} {kvs : KVs} {j : Nat} (W : Wrd H b d p pp ws ks kvs) (B : BoxAt H b j) : d ≠ b := ne_boxT B W.hd (by intro xs e; cases e)
theorem Wrd.but {H H' : Hp} {b d p pp : Addr} {ws : List Str} {ks : List Int} {kvs : KVs} {j : Nat} (W : Wrd H b d p pp ws ks kvs) (B : BoxAt H b j) (o : But b H H') : Wrd H' b d p pp ws ks kvs :=
  ⟨o _ _ W.hd (W.db B), W.sh, o _ _ W.hp W.pb, o _ _ W.hq W.qb, W.pk, W.pl, W.pb, W.qb, W.nm, W.one, W.four⟩
theorem Wrd.same {H H' : Hp} {b d p pp : Addr} {ws : List Str} {ks : List Int} {kvs : KVs} (W : Wrd H b d p pp ws ks kvs) (o : Same H H') : Wrd H' b d p pp ws ks kvs :=
  ⟨o _ _ W.hd, W.sh, o _ _ W.hp, o _ _ W.hq, W.pk, W.pl, W.pb, W.qb, W.nm, W.one, W.four⟩
def spAtomL : Sp := fun vs H Q _ => ∃ (b d p pp : Addr) (ws : List Str) (ks : List Int) (kvs : KVs) (j m : Nat), vs = [.ref b, .ref d, .ref p, .ref pp, .int m] ∧ BoxAt H b j ∧ Wrd H b d p pp ws ks kvs ∧ m ≤ 2 ∧ j + 31 ≤ 1000000 ∧
  ∀ (v : V) (a : At) (H' : Hp), AtAt H' v a → AtOk (2 ^ (m + 1) - 1) a → BoxAt H' b (j + 31) → But b H H' → Q v H'
def spSayingL : Sp := fun vs H Q _ => ∃ (b d p pp : Addr) (ws : List Str) (ks : List Int) (kvs : KVs) (j m : Nat), vs = [.ref b, .ref d, .ref p, .ref pp, .int m] ∧ BoxAt H b j ∧ Wrd H b d p pp ws ks kvs ∧ m ≤ 6 ∧ j + 300 ≤ 1000000 ∧
  ∀ (v : V) (s : Sy) (H' : Hp), SyAt H' v s → SyOk s → s.hs.length ≤ m → (∀ a ∈ s.hs, AtOk 3 a) → AtOk 7 s.gl → BoxAt H' b (j + 300) → But b H H' → Q v H'
section
variable {P : Program} {w : World} {K : PySem.W.Frag} {mg : Str → Option Value} {base : Heap}
theorem scShapes : FnScope ["_law_box_here", "_law_names_here", "_law_name"] ["_law_box_here", "_law_names_here"] (defScope sShapes) := ⟨rfl, rfl, rfl, by decide +kernel, rfl, by decide +kernel, by decide +kernel⟩
def tePair (K : PySem.W.Frag) : TE := tTup (tCons (tVar 2) (tCons (tOp (rIxL K) (tLst (tCons (tC (.int 1)) (tCons (tC (.int 1)) (tCons (tC (.int 1)) (tCons (tC (.int 2)) tNil))))) (tCall spTake [] E0 (tCons (tVar 0) (tCons (tC (.int 4)) tNil)))) tNil))
theorem ok_shapes {f fT : Addr} {fd fdT : FuncData} (F : Fun K "_law_shapes" "_law_shapes" sShapes f fd)
    (GT : FnOk P w K mg base CX0 1 fT fdT ["_law_box_here", "_law_reach"] spTake) (kT : PySem.W.keepIn K (.ref fT) = true) (bT : Binds K fdT ["_law_box_here", "_law_reach"] []) (mT : mg "_law_take" = some (.ref fT))
    (mDict : mg "dict" = none) : FnOk P w K mg base CX0 2 f fd ["_law_box_here", "_law_names_here"] spShapes := by
  refine F.ok scShapes (fun vs H Q E h => ?_) (fun cdv A outer s H vs Q E hr h => ?_)
  · obtain ⟨b, p, ws, j, rfl, _⟩ := h
    rfl
  obtain ⟨b, p, ws, j, rfl, B, hp, pb, w4, hj, q⟩ := h
  refine ⟨_, pss_one (ps_ret (pe_callTy (call_dictP rfl) (by rfl) mDict (by decide +kernel) (pa_cons (pe_lc (own := [("_law_name", 2)]) (g := gName 2) (tt := tYes) (te := tePair K) rfl scShapes.nd (pi_list (pv 1))
        (blkOk_by (N := ["_law_box_here", "_law_names_here", "_law_name"]) (sc := defScope sShapes) (by decide +kernel)) (fun _ _ _ _ _ => pg_name (i := 2) scShapes.nd rfl (Or.inl rfl)) (fun _ _ _ _ _ => pts_nil)
        (fun _ _ _ _ _ => pe_tup (pa_cons (pv 2) (pa_cons (pe_ix ix_list (pe_lst (pa_cons pe_int (pa_cons pe_int (pa_cons pe_int (pa_cons pe_int pa_nil))))) (pe_call GT hr (by rfl) mT kT bT .nil pass0 (pa_cons (pv 0) (pa_cons pe_int pa_nil))) (fun _ _ => rfl)) pa_nil)))) pa_nil))), ?_⟩
  have big : (10000 : Nat) ≤ sizeLine := by decide
  refine ⟨_, rfl, p, rfl, ⟨_, .inl (.inl hp)⟩, fun D hD => lc_list (K := K) (a := p) (xs := ws.map V.str) (fun i H2 => ∃ (ps : List Addr) (kvs : KVs), H2 D = some (.lst (ps.map V.ref)) ∧ PairsAt H2 ps kvs ∧ kvs.map (·.1) = (ws.take i).map Sum.inr ∧ (∀ kv ∈ kvs, ShE kv.2) ∧ BoxAt H2 b (j + i) ∧ H2 p = some (.lst (ws.map V.str)) ∧ But b H H2)
    ⟨[], [], upd_same, trivial, rfl, by simp, (B.same (same_new hD _)).more (by omega), same_new hD _ _ _ hp, but_of (same_new hD _)⟩ (fun i H2 _ ⟨_, _, _, _, _, _, _, h, _⟩ => .inl (.inl h)) ?_ ?_⟩
  · rintro i x H2 hi ⟨ps, kvs, h2, A2, kl, ke, B2, hp2, o2⟩
    rw [List.getElem?_map] at hi
    obtain ⟨y, hy, rfl⟩ : ∃ y, ws[i]? = some y ∧ x = .str y := by
      cases hq : ws[i]? with
      | none => rw [hq] at hi; cases hi
      | some p => rw [hq] at hi; exact ⟨p, rfl, by simpa using hi.symm⟩
    have li : i < ws.length := (List.getElem?_eq_some_iff.mp hy).1
    have Db : D ≠ b := ne_box B hD
    have Dp : D ≠ p := (ne_of_none hp hD).symm
    have pl := A2.len
    have kl2 : kvs.length ≤ 4 := by
      have := congrArg List.length kl
      rw [List.length_map, List.length_map, List.length_take] at this
      omega
    refine ⟨rfl, ?_⟩
    unfold tePair
    refine ⟨_, rfl, (by show 4 ≤ sizeLine; decide), fun c hc => ?_⟩
    have s3 := same_new hc (.lst [V.int 1, V.int 1, V.int 1, V.int 2])
    have B3 := B2.same s3
    have cb : c ≠ b := ne_box B2 hc
    refine ⟨_, rfl, b, _, _, rfl, B3, by omega, by decide, by decide, fun r H4 r0 r4 B4 o4 => ?_⟩
    have hc4 := o4 _ _ upd_same cb
    obtain ⟨m, hat, hm⟩ : ∃ m : Nat, atI [V.int 1, V.int 1, V.int 1, V.int 2] r = some (.int (m : Nat)) ∧ 1 ≤ m ∧ m ≤ 2 := by
      rcases (by omega : r = 0 ∨ r = 1 ∨ r = 2 ∨ r = 3) with e | e | e | e <;> subst e
      · exact ⟨1, at_of (j := 0) rfl rfl, by omega, by omega⟩
      · exact ⟨1, at_of (j := 1) rfl rfl, by omega, by omega⟩
      · exact ⟨1, at_of (j := 2) rfl rfl, by omega, by omega⟩
      · exact ⟨2, at_of (j := 3) rfl rfl, by omega, by omega⟩
    refine ⟨c, _, _, _, rfl, rfl, .inl (.inl hc4), hat, (by show 2 ≤ sizeLine; decide), fun t ht => ?_⟩
    have s4 := same_new ht (.tup [V.str y, V.int (m : Nat)])
    have hD4 := s4 _ _ (o4 _ _ (s3 _ _ h2) Db)
    have keep : ∀ a zs, H2 a = some (.tup zs) → (upd (upd H4 t (.tup [V.str y, V.int (m : Nat)])) D (.lst (ps.map V.ref ++ [.ref t]))) a = some (.tup zs) := fun a zs z =>
      keepU hD4 _ _ (s4 _ _ (keepB B3 o4 _ _ (s3 _ _ z)))
    have tD : t ≠ D := (ne_of_none (o4 _ _ (s3 _ _ h2) Db) ht).symm
    refine ⟨_, hD4, by rw [List.length_map]; omega, ps ++ [t], kvs ++ [(.inr y, .int (m : Nat))], by rw [upd_same, List.map_append]; rfl, PairsAt.snoc (by rw [upd_ne tD, upd_same]; rfl) (A2.mono keep), ?_, ?_, ((B4.same s4).upd Db _).more (by omega), ?_, ?_⟩
    · have tk : ws.take (i + 1) = ws.take i ++ [y] := by rw [List.take_add_one, hy]; rfl
      rw [tk, List.map_append, List.map_append, kl]; rfl
    · intro kv hkv
      rcases List.mem_append.mp hkv with hkv | hkv
      · exact ke kv hkv
      · obtain rfl : kv = (.inr y, .int (m : Nat)) := by simpa using hkv
        exact ⟨m, rfl, hm.1, hm.2⟩
    · rw [upd_ne Dp.symm]
      exact s4 _ _ (o4 _ _ (s3 _ _ hp2) pb)
    · exact but_new hD o2 fun a o z nb => s4 _ _ (o4 _ _ (s3 _ _ z) nb)
  · rintro H2 ⟨ps, kvs, h2, A2, kl, ke, B2, hp2, o2⟩
    rw [List.length_map] at B2
    rw [List.length_map, List.take_length] at kl
    refine ⟨D, ps, kvs, rfl, .inl (.inl h2), A2.paired, fun d hd => ?_⟩
    have s3 := same_new hd (.dK (mergeK [] kvs))
    have hd0 : H d = none := but_none o2 B2 hd
    exact q d _ _ hd0 upd_same (fun x hx => merge_has ke (.inr (by rw [kl]; exact List.mem_map.mpr ⟨x, hx, rfl⟩))) ((B2.same s3).more (by omega)) (o2.trans (but_of s3))
abbrev NA : List Str := ["_law_box_here", "_law_shapes_here", "_law_names_here", "_law_pool", "_law_deep", "_law_word", "_law_part"]
theorem scAtomL : FnScope NA ["_law_box_here", "_law_shapes_here", "_law_names_here", "_law_pool", "_law_deep"] (defScope sAtomL) := ⟨rfl, rfl, rfl, by decide +kernel, rfl, by decide +kernel, by decide +kernel⟩
def teTm : TE := tCall (spLTerm 3) [] E0 (tCons (tVar 0) (tCons (tVar 3) (tCons (tVar 4) tNil)))
theorem ok_atoml {f fP fTm : Addr} {fd dP dTm : FuncData} (F : Fun K "_law_atom" "_law_atom" sAtomL f fd)
    (GP : FnOk P w K mg base CX0 2 fP dP ["_law_box_here", "_law_things"] spPick) (kP : PySem.W.keepIn K (.ref fP) = true) (bP : Binds K dP ["_law_box_here", "_law_things"] []) (mP : mg "_law_pick" = some (.ref fP))
    (GTm : FnOk P w K mg base CX0 5 fTm dTm ["_law_box_here", "_law_pool", "_law_deep"] (spLTerm 3)) (kTm : PySem.W.keepIn K (.ref fTm) = true) (bTm : Binds K dTm ["_law_box_here", "_law_pool", "_law_deep"] []) (mTm : mg "_law_term" = some (.ref fTm))
    (mRange : mg "range" = none) (mTuple : mg "tuple" = none) : FnOk P w K mg base CX0 6 f fd ["_law_box_here", "_law_shapes_here", "_law_names_here", "_law_pool", "_law_deep"] spAtomL := by
  refine F.ok scAtomL (fun vs H Q E h => ?_) (fun cdv A outer s H vs Q E hr h => ?_)
  · obtain ⟨b, d, p, pp, ws, ks, kvs, j, m, rfl, _⟩ := h
    rfl
  obtain ⟨b, d, p, pp, ws, ks, kvs, j, m, rfl, B, W, m2, hj, q⟩ := h
  have r2 : Room 2 _ := hr.mono (by decide)
  refine ⟨_, pss_cons (ps_set (i := 5) scAtomL.nd rfl (Or.inl rfl) (pe_call GP r2 rfl mP kP bP .nil pass0 (pa_cons (pv 0) (pa_cons (pv 2) pa_nil))))
    (pss_one (ps_ret (pe_op op_catT (pe_tup (pa_cons (pv 5) pa_nil)) (pe_callTy call_tuple_of (by rfl) mTuple (by decide +kernel) (pa_cons
      (pe_lc (own := [("_law_part", 6)]) (g := gName 6) (tt := tYes) (te := teTm) rfl scAtomL.nd (pi_range1 (by rfl) mRange (pa_cons (pe_dget (hu_of hr) (pv 1) (pv 5) (fun _ _ => rfl)) pa_nil)) (blkOk_by (N := NA) (sc := defScope sAtomL) (by decide +kernel))
        (fun _ _ _ _ _ => pg_name (i := 6) scAtomL.nd rfl (Or.inl rfl)) (fun _ _ _ _ _ => pts_nil) (fun _ _ _ _ _ => pe_call GTm hr (by rfl) mTm kTm bTm .nil pass0 (pa_cons (pv 0) (pa_cons (pv 3) (pa_cons (pv 4) pa_nil))))) pa_nil))))), ?_⟩
  have big : (10000 : Nat) ≤ sizeLine := by decide
  have pw1 : 2 ^ m ≤ 2 ^ 2 := Nat.pow_le_pow_right (by decide) m2
  have pw2 : 2 ^ (m + 1) ≤ 2 ^ 3 := Nat.pow_le_pow_right (by decide) (by omega)
  have w4 := W.four
  have w1 := W.one
  refine ⟨_, rfl, _, rfl, b, p, _, j, rfl, B, by omega, W.hp, W.pb, by rw [List.length_map]; omega, by rw [List.length_map]; omega, fun v H1 hv B1 o1 => ?_⟩
  obtain ⟨x, hx, rfl⟩ := List.mem_map.mp hv
  have W1 := W.but B o1
  obtain ⟨_, hval, mm, rfl, mm1, mm2⟩ := W1.sh x hx
  refine ⟨_, rfl, (by show 1 ≤ sizeLine; decide), fun t ht => ?_⟩
  have s2 := same_new ht (.tup [V.str x])
  have W2 := W1.same s2
  have B2 := B1.same s2
  refine ⟨_, rfl, _, rfl, d, _, rfl, by rw [← hval]; exact DGet.k (k := Sum.inr x) W2.hd, _, rfl, by omega, by omega, fun D hD => lc_range (lo := 0) (fun e H3 => ∃ (xs : List V) (ts : List Tm), H3 D = some (.lst xs) ∧ AllAt H3 xs ts ∧ ts.length = e ∧ (∀ u ∈ ts, u.small ∧ u.size ≤ 2 ^ (m + 1) - 1) ∧ BoxAt H3 b (j + 1 + 15 * e) ∧ But b (upd H1 t (.tup [V.str x])) H3)
    ⟨[], [], upd_same, trivial, rfl, by simp, (B2.same (same_new hD _)).more (by omega), but_of (same_new hD _)⟩ ?_ ?_⟩
  · rintro e H3 he ⟨xs, ts, h3, A3, tl, tk, B3, o3⟩
    have Db : D ≠ b := ne_box B2 hD
    have xl := A3.len
    have W3 := W2.but B2 o3
    refine ⟨rfl, ?_⟩
    unfold teTm
    refine ⟨_, rfl, _, rfl, _, rfl, b, pp, ks, _, m, rfl, B3, W3.hq, W3.pk, W3.pl, W3.qb, by omega, m2, by omega, fun v u H4 T sm sz B4 o4 => ?_⟩
    have h4 := o4 _ _ h3 Db
    refine ⟨xs, h4, by omega, xs ++ [v], ts ++ [u], upd_same, (A3.mono fun q zs z => keepU h4 _ _ (keepB B3 o4 _ _ z)).append ⟨T.mono (keepU h4), trivial⟩, by simp [tl], fun y hy => ?_, (B4.upd Db _).more (by omega), ?_⟩
    · rcases List.mem_append.mp hy with hy | hy
      · exact tk y hy
      · obtain rfl : y = u := by simpa using hy
        exact ⟨sm, by omega⟩
    · exact but_new hD o3 o4
  · rintro H3 ⟨xs, ts, h3, A3, tl, tk, B3, o3⟩
    have tl2 : ts.length = mm := by rw [tl]; omega
    have xl := A3.len
    refine ⟨D, xs, rfl, .inl ⟨.inl (.inl h3), fun g hg => ?_⟩⟩
    have s4 := same_new hg (.tup xs)
    have ht3 := keepB B2 o3 _ _ (upd_same : (upd H1 t (.tup [V.str x])) t = _)
    refine ⟨t, g, [V.str x], xs, rfl, rfl, .inl (.inl (s4 _ _ ht3)), .inl (.inl upd_same), by simp, by simp; omega, fun e => ?_, fun _ t2 ht2 => ?_⟩
    · rw [e] at xl; simp at xl; omega
    · have s5 := same_new ht2 (.tup ([V.str x] ++ xs))
      exact q _ ⟨x, ts⟩ _ ⟨t2, xs, rfl, upd_same, A3.mono fun q zs z => s5 _ _ (s4 _ _ z)⟩ ⟨W.nm x hx, by show 1 ≤ ts.length; omega, by show ts.length ≤ 2; omega, tk⟩ (((B3.same s4).same s5).more (by omega))
        (o1.trans ((but_of s2).trans (o3.trans ((but_of s4).trans (but_of s5)))))
abbrev NSy : List Str := ["_law_box_here", "_law_shapes_here", "_law_names_here", "_law_pool", "_law_count", "_law_hyps", "_law_turn"]
theorem scSayingL : FnScope NSy ["_law_box_here", "_law_shapes_here", "_law_names_here", "_law_pool", "_law_count"] (defScope sSayingL) := ⟨rfl, rfl, rfl, by decide +kernel, rfl, by decide +kernel, by decide +kernel⟩
def teAtom : TE := tCall spAtomL [] E0 (tCons (tVar 0) (tCons (tVar 1) (tCons (tVar 2) (tCons (tVar 3) (tCons (tCall spTake [] E0 (tCons (tVar 0) (tCons (tC (.int 2)) tNil))) tNil)))))
theorem ok_sayingl {f fT fA fU : Addr} {fd dT dA dU : FuncData} (F : Fun K "_law_saying" "_law_saying" sSayingL f fd)
    (GT : FnOk P w K mg base CX0 1 fT dT ["_law_box_here", "_law_reach"] spTake) (kT : PySem.W.keepIn K (.ref fT) = true) (bT : Binds K dT ["_law_box_here", "_law_reach"] []) (mT : mg "_law_take" = some (.ref fT))
    (GA : FnOk P w K mg base CX0 6 fA dA ["_law_box_here", "_law_shapes_here", "_law_names_here", "_law_pool", "_law_deep"] spAtomL) (kA : PySem.W.keepIn K (.ref fA) = true) (bA : Binds K dA ["_law_box_here", "_law_shapes_here", "_law_names_here", "_law_pool", "_law_deep"] []) (mA : mg "_law_atom" = some (.ref fA))
    (GU : FnOk P w K mg base CX0 1 fU dU ["_law_atoms"] spUnlikeL) (kU : PySem.W.keepIn K (.ref fU) = true) (bU : Binds K dU ["_law_atoms"] []) (mU : mg "_law_unlike" = some (.ref fU))
    (mRange : mg "range" = none) : FnOk P w K mg base CX0 7 f fd ["_law_box_here", "_law_shapes_here", "_law_names_here", "_law_pool", "_law_count"] spSayingL := by
  refine F.ok scSayingL (fun vs H Q E h => ?_) (fun cdv A outer s H vs Q E hr h => ?_)
  · obtain ⟨b, d, p, pp, ws, ks, kvs, j, m, rfl, _⟩ := h
    rfl
  obtain ⟨b, d, p, pp, ws, ks, kvs, j, m, rfl, B, W, m3, hj, q⟩ := h
  have r1 : Room 1 _ := hr.mono (by decide)
  refine ⟨_, pss_cons (ps_setLc (i := 5) (own := [("_law_turn", 6)]) (g := gName 6) (tt := tYes) (te := teAtom) rfl scSayingL.nd rfl rfl (by rfl) (pi_range1 (by rfl) mRange (pa_cons (pe_call GT r1 (by rfl) mT kT bT .nil pass0 (pa_cons (pv 0) (pa_cons (pe_op op_addI (pv 4) pe_int) pa_nil))) pa_nil))
        (blkOk_by (N := NSy) (sc := defScope sSayingL) (by decide +kernel)) (fun _ _ _ _ _ => pg_name (i := 6) scSayingL.nd rfl (Or.inl rfl)) (fun _ _ _ _ _ => pts_nil)
        (fun _ _ _ _ _ => pe_call GA hr (by rfl) mA kA bA .nil pass0 (pa_cons (pv 0) (pa_cons (pv 1) (pa_cons (pv 2) (pa_cons (pv 3) (pa_cons (pe_call GT r1 (by rfl) mT kT bT .nil pass0 (pa_cons (pv 0) (pa_cons pe_int pa_nil))) pa_nil)))))))
    (pss_one (ps_ret (pe_tup (pa_cons (pe_call GU r1 (by rfl) mU kU bU .nil pass0 (pa_cons (pv 5) pa_nil)) (pa_cons (pe_call GA hr (by rfl) mA kA bA .nil pass0 (pa_cons (pv 0) (pa_cons (pv 1) (pa_cons (pv 2) (pa_cons (pv 3) (pa_cons (pe_call GT r1 (by rfl) mT kT bT .nil pass0 (pa_cons (pv 0) (pa_cons pe_int pa_nil))) pa_nil)))))) pa_nil))))), ?_⟩
  have big : (10000 : Nat) ≤ sizeLine := by decide
  refine ⟨_, rfl, _, rfl, _, _, rfl, rfl, b, _, j, rfl, B, by omega, by omega, by omega, fun c H1 c0 c1 B1 o1 => ?_⟩
  have W1 := W.but B o1
  refine ⟨_, rfl, by omega, by omega, fun D hD => lc_range (lo := 0) (fun e H3 => ∃ (xs : List V) (as : List At), H3 D = some (.lst xs) ∧ AtsAt H3 xs as ∧ as.length = e ∧ (∀ a ∈ as, AtOk 3 a) ∧ BoxAt H3 b (j + 1 + 32 * e) ∧ But b H1 H3)
    ⟨[], [], upd_same, trivial, rfl, by simp, (B1.same (same_new hD _)).more (by omega), but_of (same_new hD _)⟩ ?_ ?_⟩
  · rintro e H3 he ⟨xs, as, h3, A3, al, ao, B3, o3⟩
    have Db : D ≠ b := ne_box B1 hD
    have xl := A3.len
    have W3 := W1.but B1 o3
    refine ⟨rfl, ?_⟩
    unfold teAtom
    refine ⟨_, rfl, _, rfl, _, rfl, _, rfl, _, rfl, b, _, _, rfl, B3, by omega, by decide, by decide, fun z H4 z0 z1 B4 o4 => ?_⟩
    obtain ⟨mz, rfl⟩ := Int.eq_ofNat_of_zero_le z0
    have W4 := W3.but B3 o4
    refine ⟨b, d, p, pp, ws, ks, kvs, _, mz, rfl, B4, W4, by omega, by omega, fun v a H5 A5 ok5 B5 o5 => ?_⟩
    have h5 := o5 _ _ (o4 _ _ h3 Db) Db
    refine ⟨xs, h5, by omega, xs ++ [v], as ++ [a], upd_same, (A3.mono fun q zs z => keepU h5 _ _ (keepB B4 o5 _ _ (keepB B3 o4 _ _ z))).append ⟨atAt_mono (keepU h5) A5, trivial⟩, by simp [al], fun y hy => ?_, (B5.upd Db _).more (by omega), ?_⟩
    · rcases List.mem_append.mp hy with hy | hy
      · exact ao y hy
      · obtain rfl : y = a := by simpa using hy
        have pz : 2 ^ (mz + 1) ≤ 2 ^ 2 := Nat.pow_le_pow_right (by decide) (by omega)
        exact ok5.more (by omega)
    · exact but_new hD o3 (o4.trans o5)
  · rintro H3 ⟨xs, as, h3, A3, al, ao, B3, o3⟩
    have al3 : as.length ≤ m := by omega
    have W3 := W1.but B1 o3
    refine ⟨_, rfl, D, xs, as, rfl, h3, A3, AtsOk.mk (by omega) (fun a ha => (ao a ha).more (by decide)), fun g ys H4 hg A4 s4 => ?_⟩
    have B4 := B3.same s4
    have W4 := W3.same s4
    refine ⟨_, rfl, _, rfl, _, rfl, _, rfl, _, rfl, b, _, _, rfl, B4, by omega, by decide, by decide, fun z H5 z0 z1 B5 o5 => ?_⟩
    obtain ⟨mz, rfl⟩ := Int.eq_ofNat_of_zero_le z0
    have W5 := W4.but B4 o5
    have pz : 2 ^ (mz + 1) ≤ 2 ^ 3 := Nat.pow_le_pow_right (by decide) (by omega)
    refine ⟨b, d, p, pp, ws, ks, kvs, _, mz, rfl, B5, W5, by omega, by omega, fun v a H6 A6 ok6 B6 o6 => ⟨(by show 2 ≤ sizeLine; decide), fun t ht => ?_⟩⟩
    have s7 := same_new ht (.tup [V.ref g, v])
    exact q _ ⟨unl as, a⟩ _ ⟨t, g, v, ys, rfl, upd_same, s7 _ _ (keepB B5 o6 _ _ (keepB B4 o5 _ _ hg)), A4.mono fun q zs z => s7 _ _ (keepB B5 o6 _ _ (keepB B4 o5 _ _ z)), atAt_same A6 s7⟩ ⟨AtsOk.mk (by have := unl_le (as := as); show (unl as).length ≤ 6; omega) (fun a ha => (ao a (mem_unl ha)).more (by decide)), unl_nd as, ok6.more (by omega)⟩ (Nat.le_trans unl_le al3) (fun a ha => ao a (mem_unl ha)) (ok6.more (by omega)) ((B6.same s7).more (by omega))
      (o1.trans (o3.trans ((but_of s4).trans (o5.trans (o6.trans (but_of s7))))))
end
end Rp

/-! A tuple times one: the tuple itself; a tuple times one or two. -/
namespace Rp
open PySem PySem.Spec PyProof.Rows L2
theorem once_meets (p : Addr) (its : Array Value) (m : Nat) (od : Option Addr) (ss : Array (Option Value)) (u : Tok) : Meets (Builtin.«tuple.__mul__» ⟨[.ref p, .int 1 u], []⟩)
    (fun _ R s => s.heap.get? p = some ⟨.type "tuple", od, .seq its m, ss⟩ ∧ R (.ok (.ret (.ref p))) s) :=
  .of_wp fun pr w A R s h => by
    obtain ⟨hp, g, d, tk, os⟩ := s
    obtain ⟨hl, h⟩ := h
    have f1 := AutoSeq1.idx_int
    have one : (its.isEmpty || (1 : Int) == 1) = true := by simp
    wp_walk using wpAny_loadPart' hl
    repeat (first
      | (refine wpAny_ite_false (by decide) ?_; wp_walk using wpAny_loadPart' hl)
      | (refine wpAny_ite_true (decide_eq_true one) ?_; wp_walk using wpAny_loadPart' hl))
    all_goals first | exact ⟨_, rfl, h⟩ | exact h | trivial
def rRepO (K : PySem.W.Frag) : R2 := fun x y H Q => ∃ (l : Addr) (k : Int) (xs : List V), x = .ref l ∧ y = .int k ∧ SqT K H l xs ∧ xs ≠ [] ∧ 1 ≤ k ∧ k ≤ 1000 ∧ xs.length ≤ 1000 ∧ (k = 1 → Q (.ref l) H) ∧
  (2 ≤ k → ∀ p, H p = none → Q (.ref p) (upd H p (.tup (List.replicate k.toNat xs).flatten)))
theorem op_repO {X : Cx} : OpR X (binaryOp .Mult) (rRepO X.K) := by
  intro pins s σ H x y v u Q I rx ry h
  obtain ⟨l, k, xs, ex, ey, ht, ne, k1, k2, sz, qs, qn⟩ := h
  by_cases two : 2 ≤ k
  · exact op_repT pins s σ H x y v u Q I rx ry ⟨l, k, xs, ex, ey, ht, ne, two, k2, sz, qn two⟩
  · obtain rfl : k = 1 := by omega
    subst ex ey
    cases rx
    obtain ⟨t, rfl⟩ := ry
    obtain ⟨its, r, q1, q2⟩ := I.tuple ht
    obtain ⟨⟨c1, d1, t1, s1⟩, g1, e1, n1, f1⟩ := id q1
    simp only at e1 f1
    subst e1 f1
    exact wpAny_binaryOp_repeat_ref (T := "tuple") (U := "int") (by decide) ⟨_, g1, rfl⟩ (fun s' => typeIs_int s' 1 t) noFill_tuple_mul F.fills_int_mul F.slot_int_rmul repeat_tuple F.slot_int_index.lookup
      (call_meets F.slot_int_rmul (typeIs_int s 1 t) F.entry_int_rmul (F.args_int_rmul_2 _ _) (int_rmul_tuple 1 t l its.toArray n1 d1 s1)
        ⟨g1, rfl, ⟨_, g1, rfl⟩, call_meets F.slot_tuple_mul ⟨_, g1, rfl⟩ F.entry_tuple_mul (F.args_tuple_mul_2 _ _) (once_meets l its.toArray n1 d1 s1 t) ⟨g1, ⟨.ref l, H, I, rfl, qs rfl⟩⟩⟩)
end Rp

set_option maxHeartbeats 16000000
/-! The law's rules, that it lets go; its beginning. -/
namespace Rp
open PySem PySem.Spec PyProof.Rows L2 TL StX
/-- the shapes and the words stand -/
structure Wsh (H : Hp) (b d p : Addr) (ws : List Str) (kvs : KVs) : Prop where
  hd : H d = some (.dK kvs)
  sh : ShOk ws kvs
  hp : H p = some (.lst (ws.map V.str))
  pb : p ≠ b
  one : 1 ≤ ws.length
  four : ws.length ≤ 4
theorem Wsh.db {H : Hp} {b d p : Addr} {ws : List Str} {kvs : KVs} {j : Nat} (W : Wsh H b d p ws kvs) (B : BoxAt H b j) : d ≠ b := ne_boxT B W.hd (by intro xs e; cases e)
theorem Wsh.but {H H' : Hp} {b d p : Addr} {ws : List Str} {kvs : KVs} {j : Nat} (W : Wsh H b d p ws kvs) (B : BoxAt H b j) (o : But b H H') : Wsh H' b d p ws kvs :=
  ⟨o _ _ W.hd (W.db B), W.sh, o _ _ W.hp W.pb, W.pb, W.one, W.four⟩
def spRuleL : Sp := fun vs H Q _ => ∃ (b d p : Addr) (ws : List Str) (kvs : KVs) (j : Nat), vs = [.ref b, .ref d, .ref p] ∧ BoxAt H b j ∧ Wsh H b d p ws kvs ∧ j + 30 ≤ 1000000 ∧
  ∀ (v : V) (H' : Hp), BoxAt H' b (j + 30) → But b H H' → Q v H'
theorem Same.gen {H H' : Hp} (s : Same H H') : ∃ H2, H' = H2 ∧ Same H H2 := ⟨_, rfl, s⟩
def teCnt (K : PySem.W.Frag) : TE := tIf (tTest (tOp (rI0 fun i j => .bl (decide (j < i))) (tVar 5) (tC (.int 0)))) (tOp (rIxL K) (tLst (tCons (tC (.int 0)) (tCons (tC (.int 1)) (tCons (tC (.int 1)) (tCons (tC (.int 2)) (tCons (tC (.int 1)) (tCons (tC (.int 3)) tNil))))))) (tCall spTake [] E0 (tCons (tVar 0) (tCons (tC (.int 6)) tNil)))) (tC (.int 0))
theorem cnt_ok {K : PySem.W.Frag} {σ : L2.St} {H : Hp} {Q : V → Hp → Prop} {b : Addr} {j fr : Nat} (e0 : σ[0]? = some (some (.ref b))) (e5 : σ[5]? = some (some (.int (fr : Nat)))) (B : BoxAt H b j) (hj : j + 1 ≤ 1000000)
    (q : ∀ (n : Nat) (H' : Hp), n ≤ 3 → (0 < n → 0 < fr) → BoxAt H' b (j + 1) → But b H H' → Q (.int (n : Nat)) H') : teCnt K σ H Q := by
  refine ⟨_, e5, _, _, rfl, rfl, decide ((0 : Int) < (fr : Nat)), rfl, ?_⟩
  by_cases h : (0 : Int) < (fr : Nat)
  · rw [decide_eq_true h]
    refine iteT ⟨(by show 6 ≤ sizeLine; decide), fun a ha => ?_⟩
    have s1 := same_new ha (.lst [V.int 0, V.int 1, V.int 1, V.int 2, V.int 1, V.int 3])
    refine ⟨_, e0, b, _, _, rfl, B.same s1, by omega, by decide, by decide, fun r H2 c0 c1 B2 o2 => ?_⟩
    obtain ⟨k, rfl⟩ := Int.eq_ofNat_of_zero_le c0
    have k6 : k < 6 := by omega
    obtain ⟨z, hz, z3⟩ : ∃ z : Nat, [V.int 0, V.int 1, V.int 1, V.int 2, V.int 1, V.int 3][k]? = some (.int (z : Nat)) ∧ z ≤ 3 := by
      match k, k6 with
      | 0, _ => exact ⟨0, rfl, by omega⟩
      | 1, _ => exact ⟨1, rfl, by omega⟩
      | 2, _ => exact ⟨1, rfl, by omega⟩
      | 3, _ => exact ⟨2, rfl, by omega⟩
      | 4, _ => exact ⟨1, rfl, by omega⟩
      | 5, _ => exact ⟨3, rfl, by omega⟩
    exact ⟨a, _, _, _, rfl, rfl, .inl (.inl (o2 _ _ upd_same (ne_box B ha))), at_of (j := k) rfl hz, q z H2 z3 (fun _ => by omega) B2 ((but_of s1).trans o2)⟩
  · rw [decide_eq_false h]
    exact iteF (q 0 H (by omega) (fun h => nomatch h) (B.more (by omega)) (But.refl b H))
def teArgR : TE := tCall spTake [] E0 (tCons (tVar 0) (tCons (tVar 5) tNil))
section
variable {P : Program} {w : World} {K : PySem.W.Frag} {mg : Str → Option Value} {base : Heap}
abbrev NRl : List Str := ["_law_box_here", "_law_shapes_here", "_law_names_here", "_law_word", "_law_terms", "_law_fresh", "_law_turn", "_law_way", "_law_body", "_law_own", "_law_part"]
theorem scRuleL : FnScope NRl ["_law_box_here", "_law_shapes_here", "_law_names_here"] (defScope sRuleL) := ⟨rfl, rfl, rfl, by decide +kernel, rfl, by decide +kernel, by decide +kernel⟩
theorem ok_rulel {f fT fP : Addr} {fd fdT dP : FuncData} (F : Fun K "_law_rule" "_law_rule" sRuleL f fd)
    (GT : FnOk P w K mg base CX0 1 fT fdT ["_law_box_here", "_law_reach"] spTake) (kT : PySem.W.keepIn K (.ref fT) = true) (bT : Binds K fdT ["_law_box_here", "_law_reach"] []) (mT : mg "_law_take" = some (.ref fT))
    (GP : FnOk P w K mg base CX0 2 fP dP ["_law_box_here", "_law_things"] spPick) (kP : PySem.W.keepIn K (.ref fP) = true) (bP : Binds K dP ["_law_box_here", "_law_things"] []) (mP : mg "_law_pick" = some (.ref fP))
    (mRange : mg "range" = none) (mTuple : mg "tuple" = none) : FnOk P w K mg base CX0 3 f fd ["_law_box_here", "_law_shapes_here", "_law_names_here"] spRuleL := by
  refine F.ok scRuleL (fun vs H Q E h => ?_) (fun cdv A outer s H vs Q E hr h => ?_)
  · obtain ⟨b, d, p, ws, kvs, j, rfl, _⟩ := h
    rfl
  obtain ⟨b, d, p, ws, kvs, j, rfl, B, W, hj, q⟩ := h
  have r1 : Room 1 _ := hr.mono (by decide)
  refine ⟨_, pss_cons (ps_asg (pe_tup (pa_cons (pe_call GP hr rfl mP kP bP .nil pass0 (pa_cons (pv 0) (pa_cons (pv 2) pa_nil))) (pa_cons (pe_lst pa_nil) (pa_cons pe_int pa_nil))))
      (pg_tup (by rfl) (pgs_cons (pg_name (i := 3) scRuleL.nd rfl (Or.inl rfl)) (pgs_cons (pg_name (i := 4) scRuleL.nd rfl (Or.inl rfl)) (pgs_cons (pg_name (i := 5) scRuleL.nd rfl (Or.inr rfl)) pgs_nil)))))
    (pss_cons (ps_for PassesOwn.never rfl (pi_range1 (by rfl) mRange (pa_cons (pe_dget (hu_of hr) (pv 1) (pv 3) (fun _ _ => rfl)) pa_nil)) (pg_name (i := 6) scRuleL.nd rfl (Or.inl rfl))
      (pss_cons (ps_set (i := 7) scRuleL.nd rfl (Or.inl rfl) (pe_call GT r1 rfl mT kT bT .nil pass0 (pa_cons (pv 0) (pa_cons pe_int pa_nil))))
      (pss_cons (ps_expr (pe_bm PySem.F.plainAttrs_list PySem.F.slot_list_append PySem.F.type_list_append mt_append (pv 4) (pa_cons (pe_ix ix_list (pe_lst (pa_cons (pe_tup (pa_cons pe_str pa_nil)) (pa_cons (pv 5) (pa_cons (pe_tup (pa_cons pe_str (pa_cons (pv 5) pa_nil))) (pa_cons (pe_tup (pa_cons pe_str (pa_cons (pv 5) pa_nil))) (pa_cons (pe_tup (pa_cons pe_str (pa_cons (pv 5) pa_nil)))
          (pa_cons (pe_tup (pa_cons pe_str (pa_cons (pv 5) (pa_cons (pe_op op_add (pv 5) pe_int) pa_nil)))) pa_nil))))))) (pv 7) (fun _ _ => rfl)) pa_nil)))
      (pss_one (ps_set (i := 5) scRuleL.nd rfl (Or.inr rfl) (pe_op op_add (pv 5) (pe_ix ix_list (pe_lst (pa_cons pe_int (pa_cons pe_int (pa_cons pe_int (pa_cons pe_int (pa_cons pe_int (pa_cons pe_int pa_nil))))))) (pv 7) (fun _ _ => rfl))))))))
    (pss_cons (ps_set (i := 8) scRuleL.nd rfl (Or.inl rfl) (pe_lst pa_nil))
    (pss_cons (ps_for PassesOwn.never rfl (pi_range1 (by rfl) mRange (pa_cons (pe_ifExp (pt_cmpR op_gt (pv 5) pe_int (nomark _)) (pe_ix ix_list (pe_lst (pa_cons pe_int (pa_cons pe_int (pa_cons pe_int (pa_cons pe_int (pa_cons pe_int (pa_cons pe_int pa_nil))))))) (pe_call GT r1 rfl mT kT bT .nil pass0 (pa_cons (pv 0) (pa_cons pe_int pa_nil))) (fun _ _ => rfl)) pe_int) pa_nil)) (pg_name (i := 6) scRuleL.nd rfl (Or.inl rfl))
      (pss_cons (ps_set (i := 9) scRuleL.nd rfl (Or.inl rfl) (pe_call GP hr rfl mP kP bP .nil pass0 (pa_cons (pv 0) (pa_cons (pv 2) pa_nil))))
      (pss_one (ps_expr (pe_bm PySem.F.plainAttrs_list PySem.F.slot_list_append PySem.F.type_list_append mt_append (pv 8) (pa_cons (pe_op op_catT (pe_tup (pa_cons (pv 9) pa_nil)) (pe_callTy call_tuple_of (by rfl) mTuple (by decide +kernel) (pa_cons
        (pe_lc (own := [("_law_part", 10)]) (g := gName 10) (tt := tYes) (te := teArgR) rfl scRuleL.nd (pi_range1 (by rfl) mRange (pa_cons (pe_dget (hu_of hr) (pv 1) (pv 9) (fun _ _ => rfl)) pa_nil)) (blkOk_by (N := NRl) (sc := defScope sRuleL) (by decide +kernel))
          (fun _ _ _ _ _ => pg_name (i := 10) scRuleL.nd rfl (Or.inl rfl)) (fun _ _ _ _ _ => pts_nil) (fun _ _ _ _ _ => pe_call GT r1 (by rfl) mT kT bT .nil pass0 (pa_cons (pv 0) (pa_cons (pv 5) pa_nil)))) pa_nil))) pa_nil))))))
    (pss_one (ps_ret (pe_tup (pa_cons (pe_op op_catT (pe_tup (pa_cons (pv 3) pa_nil)) (pe_callTy call_tuple_of (by rfl) mTuple (by decide +kernel) (pa_cons (pv 4) pa_nil))) (pa_cons (pe_callTy call_tuple_of (by rfl) mTuple (by decide +kernel) (pa_cons (pv 8) pa_nil)) pa_nil)))))))), ?_⟩
  have big : (10000 : Nat) ≤ sizeLine := by decide
  have w4 := W.four
  have w1 := W.one
  have pick : ∀ {H1 : Hp} {j1 : Nat}, BoxAt H1 b j1 → Wsh H1 b d p ws kvs → j1 + 1 ≤ 1000000 → True := fun _ _ _ => trivial
  refine ⟨_, rfl, _, rfl, b, p, _, j, rfl, B, by omega, W.hp, W.pb, by rw [List.length_map]; omega, by rw [List.length_map]; omega, fun v H1 hv B1 o1 => ?_⟩
  obtain ⟨x, hx, rfl⟩ := List.mem_map.mp hv
  have W1 := W.but B o1
  refine ⟨(by show 0 ≤ sizeLine; decide), fun l hl => ⟨(by show 3 ≤ sizeLine; decide), fun t ht => ?_⟩⟩
  have s2 := same_new hl (.lst ([] : List V))
  have s3 := same_new ht (.tup [V.str x, V.ref l, V.int 0])
  have lb : l ≠ b := ne_box B1 hl
  have hl0 : H l = none := but_none o1 B1 hl
  refine ⟨t, _, rfl, .inl (.inl upd_same), rfl, _, _, rfl, _, _, rfl, _, _, rfl, rfl, ?_⟩
  have o3 : But b H _ := o1.trans (but_of (s2.trans s3))
  have B3 := (B1.same s2).same s3
  have hl3 := s3 _ _ (upd_same : (upd H1 l (.lst ([] : List V))) l = _)
  generalize upd (upd H1 l (.lst ([] : List V))) t (.tup [V.str x, V.ref l, V.int 0]) = H3 at o3 B3 hl3 ⊢
  have W3 := W.but B o3
  obtain ⟨_, hval, mm, rfl, mm1, mm2⟩ := W3.sh x hx
  refine ⟨_, rfl, _, rfl, d, _, rfl, by rw [← hval]; exact DGet.k (k := Sum.inr x) W3.hd, _, rfl, by omega, by omega, for_range (lo := 0) (n := ((mm : Nat) : Int).toNat) (fun i σ H6 => ∃ (xs : List V) (fr : Nat) (x6 x7 : Option V), σ = [some (.ref b), some (.ref d), some (.ref p), some (.str x), some (.ref l), some (.int (fr : Nat)), x6, x7, none, none, none] ∧
      H6 l = some (.lst xs) ∧ xs.length = i ∧ fr ≤ 2 * i ∧ BoxAt H6 b (j + 1 + i) ∧ But b H H6)
    ⟨[], 0, none, none, rfl, hl3, rfl, by omega, B3, o3⟩ ?_ ?_⟩
  · rintro i σ H6 hi ⟨xs, fr, x6, x7, rfl, h6l, xl, fl, B6, o6⟩
    refine ⟨_, rfl, b, _, _, rfl, B6, by omega, by decide, by decide, fun way H7 y0 y6 B7 o7 => ?_⟩
    have h7l := o7 _ _ h6l lb
    obtain ⟨k, rfl⟩ := Int.eq_ofNat_of_zero_le y0
    have k6 : k < 6 := by omega
    refine ⟨_, rfl, .inl ⟨rfl, _, .inl (.inl h7l)⟩, (by show 1 ≤ sizeLine; decide), fun a1 ha1 => ⟨_, rfl, ⟨_, rfl, (by show 2 ≤ sizeLine; decide), fun a2 ha2 => ⟨_, rfl, (by show 2 ≤ sizeLine; decide), fun a3 ha3 => ⟨_, rfl, (by show 2 ≤ sizeLine; decide), fun a4 ha4 => ⟨_, rfl, _, rfl, _, _, rfl, rfl, (by show 3 ≤ sizeLine; decide), fun a5 ha5 => ⟨(by show 6 ≤ sizeLine; decide), fun a6 ha6 => ?_⟩⟩⟩⟩⟩⟩⟩
    have q1 := same_new ha1 (.tup [V.str "0"])
    have q2 := same_new ha2 (.tup [V.str "s", V.int (fr : Nat)])
    have q3 := same_new ha3 (.tup [V.str "s", V.int (fr : Nat)])
    have q4 := same_new ha4 (.tup [V.str "s", V.int (fr : Nat)])
    have q5 := same_new ha5 (.tup [V.str "f", V.int (fr : Nat), V.int ((fr : Nat) + 1)])
    have q6 := same_new ha6 (.lst [V.ref a1, V.int (fr : Nat), V.ref a2, V.ref a3, V.ref a4, V.ref a5])
    have sA := q1.trans (q2.trans (q3.trans (q4.trans (q5.trans q6))))
    obtain ⟨y, hy⟩ : ∃ y, [V.ref a1, V.int (fr : Nat), V.ref a2, V.ref a3, V.ref a4, V.ref a5][k]? = some y := ⟨_, List.getElem?_eq_getElem (by simpa using k6)⟩
    obtain ⟨H8, e8, sA⟩ := Same.gen sA
    have e6 : H8 a6 = some (.lst [V.ref a1, V.int (fr : Nat), V.ref a2, V.ref a3, V.ref a4, V.ref a5]) := by rw [← e8]; exact upd_same
    have h8l := sA _ _ h7l
    have B8 := B7.same sA
    refine ⟨_, rfl, a6, _, _, y, rfl, rfl, .inl (.inl upd_same), at_of (j := k) rfl hy, ?_⟩
    rw [e8]
    refine ⟨l, _, _, rfl, rfl, h8l, by omega, ?_⟩
    have o8 := but_new hl0 (o6.trans o7) (o := .lst (xs ++ [y])) fun z u hz nb => sA _ _ hz
    have B9 := B8.upd lb (.lst (xs ++ [y]))
    have h9l : (upd H8 l (.lst (xs ++ [y]))) l = some (.lst (xs ++ [y])) := upd_same
    generalize upd H8 l (.lst (xs ++ [y])) = H9 at o8 B9 h9l ⊢
    refine ⟨_, rfl, (by show 6 ≤ sizeLine; decide), fun a7 ha7 => ?_⟩
    have q7 := same_new ha7 (.lst [V.int 0, V.int 1, V.int 1, V.int 1, V.int 1, V.int 2])
    obtain ⟨z, hz, z2⟩ : ∃ z : Nat, [V.int 0, V.int 1, V.int 1, V.int 1, V.int 1, V.int 2][k]? = some (.int (z : Nat)) ∧ z ≤ 2 := by
      match k, k6 with
      | 0, _ => exact ⟨0, rfl, by omega⟩
      | 1, _ => exact ⟨1, rfl, by omega⟩
      | 2, _ => exact ⟨1, rfl, by omega⟩
      | 3, _ => exact ⟨1, rfl, by omega⟩
      | 4, _ => exact ⟨1, rfl, by omega⟩
      | 5, _ => exact ⟨2, rfl, by omega⟩
    refine ⟨_, rfl, a7, _, _, _, rfl, rfl, .inl (.inl upd_same), at_of (j := k) rfl hz, _, _, rfl, rfl, ?_⟩
    exact ⟨xs ++ [y], fr + z, _, _, rfl, q7 _ _ h9l, by simp [xl], by omega, (B9.same q7).more (by omega), o8.trans (but_of q7)⟩
  · rintro σ H6 ⟨xs, fr, x6, x7, rfl, h6l, xl, fl, B6, o6⟩
    have xl2 : xs.length ≤ 2 := by omega
    refine ⟨(by show 0 ≤ sizeLine; decide), fun l2 hl2 => ?_⟩
    have s7 := same_new hl2 (.lst ([] : List V))
    have l2b : l2 ≠ b := ne_box B6 hl2
    have hl20 : H l2 = none := but_none o6 B6 hl2
    have ll : l ≠ l2 := ne_of_none h6l hl2
    have h7l := s7 _ _ h6l
    have B7 := (B6.same s7).more (k := j + 4) (by omega)
    have o7 := o6.trans (but_of s7)
    have h7 : (upd H6 l2 (.lst ([] : List V))) l2 = some (.lst []) := upd_same
    generalize upd H6 l2 (.lst ([] : List V)) = H7 at h7l B7 o7 h7 ⊢
    refine cnt_ok (H := H7) rfl rfl B7 (by omega) fun n H8 n3 nf B8 o8' => ?_
    have h8l := o8' _ _ h7l lb
    have h82 := o8' _ _ h7 l2b
    have o8 := o7.trans o8'
    refine ⟨_, rfl, by omega, by omega, for_range (lo := 0) (n := ((n : Nat) : Int).toNat) (fun i σ H9 => ∃ (ys : List V) (x6 x9 : Option V), σ = [some (.ref b), some (.ref d), some (.ref p), some (.str x), some (.ref l), some (.int (fr : Nat)), x6, x7, some (.ref l2), x9, none] ∧
      H9 l2 = some (.lst ys) ∧ ys.length = i ∧ H9 l = some (.lst xs) ∧ BoxAt H9 b (j + 5 + 5 * i) ∧ But b H H9)
      ⟨[], _, none, rfl, h82, rfl, h8l, B8, o8⟩ ?_ ?_⟩
    · rintro i σ H9 hi ⟨ys, x6', x9, rfl, h9, yl, h9l, B9, o9⟩
      have fp : 0 < fr := nf (by omega)
      have W9 := W.but B o9
      refine ⟨_, rfl, _, rfl, b, p, _, _, rfl, B9, by omega, W9.hp, W.pb, by rw [List.length_map]; omega, by rw [List.length_map]; omega, fun v H10 hv B10 o10 => ?_⟩
      obtain ⟨x2, hx2, rfl⟩ := List.mem_map.mp hv
      have h10 := o10 _ _ h9 l2b
      refine ⟨_, rfl, .inl ⟨rfl, _, .inl (.inl h10)⟩, _, rfl, (by show 1 ≤ sizeLine; decide), fun t1 ht1 => ?_⟩
      have s11 := same_new ht1 (.tup [V.str x2])
      have t1b : t1 ≠ b := ne_box B10 ht1
      have et1 : (upd H10 t1 (.tup [V.str x2])) t1 = some (.tup [V.str x2]) := upd_same
      have B11 := B10.same s11
      have o11 := (o9.trans o10).trans (but_of s11)
      have h11 := s11 _ _ h10
      have h11l := s11 _ _ (o10 _ _ h9l lb)
      generalize upd H10 t1 (.tup [V.str x2]) = H11 at et1 B11 o11 h11 h11l ⊢
      have W11 := W.but B o11
      obtain ⟨_, hval2, m2, rfl, m21, m22⟩ := W11.sh x2 hx2
      refine ⟨_, rfl, _, rfl, d, _, rfl, by rw [← hval2]; exact DGet.k (k := Sum.inr x2) W11.hd, _, rfl, by omega, by omega, fun D hD => lc_range (lo := 0) (fun r H12 => ∃ zs : List V, H12 D = some (.lst zs) ∧ zs.length = r ∧ BoxAt H12 b (j + 5 + 5 * i + 1 + r) ∧ But b H11 H12)
        ⟨[], upd_same, rfl, (B11.same (same_new hD _)).more (by omega), but_of (same_new hD _)⟩ ?_ ?_⟩
      · rintro r H12 hr' ⟨zs, h12, zl, B12, o12⟩
        have Db : D ≠ b := ne_box B11 hD
        refine ⟨rfl, ?_⟩
        unfold teArgR
        refine ⟨_, rfl, _, rfl, b, _, _, rfl, B12, by omega, by omega, by omega, fun z H13 z0 z1 B13 o13 => ?_⟩
        exact ⟨zs, o13 _ _ h12 Db, by omega, zs ++ [.int z], upd_same, by simp [zl], (B13.upd Db _).more (by omega), but_new hD o12 o13⟩
      · rintro H12 ⟨zs, h12, zl, B12, o12⟩
        have zl2 : zs.length ≤ 2 := by omega
        refine ⟨D, zs, rfl, .inl ⟨.inl (.inl h12), fun g hg => ?_⟩⟩
        have s13 := same_new hg (.tup zs)
        have fin2 : ∀ (v : V) (H14 : Hp), Same H12 H14 → ∃ l0 xs0 y0, V.ref l2 = V.ref l0 ∧ [v] = [y0] ∧ H14 l0 = some (.lst xs0) ∧ xs0.length < sizeLine ∧
            (∃ (ys : List V) (x6 x9 : Option V), ([some (.ref b), some (.ref d), some (.ref p), some (.str x), some (.ref l), some (.int (fr : Nat)), some (.int (0 + (i : Int))), x7, some (.ref l2), some (.str x2), none] : L2.St) = [some (.ref b), some (.ref d), some (.ref p), some (.str x), some (.ref l), some (.int (fr : Nat)), x6, x7, some (.ref l2), x9, none] ∧
              (upd H14 l0 (.lst (xs0 ++ [y0]))) l2 = some (.lst ys) ∧ ys.length = i + 1 ∧ (upd H14 l0 (.lst (xs0 ++ [y0]))) l = some (.lst xs) ∧ BoxAt (upd H14 l0 (.lst (xs0 ++ [y0]))) b (j + 5 + 5 * (i + 1)) ∧ But b H (upd H14 l0 (.lst (xs0 ++ [y0])))) := by
          intro v H14 s14
          have h14 := s14 _ _ (o12 _ _ h11 l2b)
          refine ⟨l2, ys, v, rfl, rfl, h14, by omega, ys ++ [v], _, _, rfl, upd_same, by simp [yl], ?_, ((B12.same s14).upd l2b _).more (by omega), but_new hl20 (o11.trans o12) fun z u hz _ => s14 _ _ hz⟩
          rw [upd_ne ll]
          exact s14 _ _ (o12 _ _ h11l lb)
        refine ⟨t1, g, [V.str x2], zs, rfl, rfl, .inl (.inl (s13 _ _ (o12 _ _ et1 t1b))), .inl (.inl upd_same), by simp, by simp; omega, fun _ => fin2 _ _ s13, fun _ t2 ht2 => fin2 _ _ (s13.trans (same_new ht2 _))⟩
    · rintro σ H9 ⟨ys, x6', x9, rfl, h9, yl, h9l, B9, o9⟩
      have yl3 : ys.length ≤ 3 := by omega
      refine ⟨_, rfl, (by show 1 ≤ sizeLine; decide), fun t1 ht1 => ?_⟩
      have s10 := same_new ht1 (.tup [V.str x])
      refine ⟨_, rfl, l, xs, rfl, .inl ⟨.inl (.inl (s10 _ _ h9l)), fun g hg => ?_⟩⟩
      have s11 := same_new hg (.tup xs)
      have fin3 : ∀ (H14 : Hp), Same H9 H14 → ∀ v : V, ∃ v0, ([some (.ref b), some (.ref d), some (.ref p), some (.str x), some (.ref l), some (.int (fr : Nat)), x6', x7, some (.ref l2), x9, none] : L2.St)[8]? = some (some v0) ∧ ∃ p0 ys0, [v0] = [V.ref p0] ∧
          ((SqL K H14 p0 ys0 ∧ ∀ l0, H14 l0 = none → 2 ≤ sizeLine ∧ ∀ c, (upd H14 l0 (.tup ys0)) c = none → Q (.ref c) (upd (upd H14 l0 (.tup ys0)) c (.tup [v, .ref l0]))) ∨ (SqT K H14 p0 ys0 ∧ 2 ≤ sizeLine ∧ ∀ c, H14 c = none → Q (.ref c) (upd H14 c (.tup [v, .ref p0])))) := by
        intro H14 s14 v
        refine ⟨_, rfl, l2, ys, rfl, .inl ⟨.inl (.inl (s14 _ _ h9)), fun l0 hl0 => ⟨by decide, fun c hc => ?_⟩⟩⟩
        have s15 := same_new hl0 (.tup ys)
        have s16 := same_new hc (.tup [v, .ref l0])
        have sB := s14.trans (s15.trans s16)
        exact q _ _ ((B9.same sB).more (by omega)) (o9.trans (but_of sB))
      exact ⟨t1, g, [V.str x], xs, rfl, rfl, .inl (.inl (s11 _ _ upd_same)), .inl (.inl upd_same), by simp, by simp; omega, fun _ => fin3 _ (s10.trans s11) _, fun _ t2 ht2 => fin3 _ (s10.trans (s11.trans (same_new ht2 _))) _⟩
end
end Rp

set_option maxHeartbeats 16000000
namespace Rp
open PySem PySem.Spec PyProof.Rows L2 TL StX
def spBaseL : Sp := fun vs H Q _ => ∃ (d : Addr) (kvs : KVs) (x : Str) (m : Nat), vs = [.ref d, .str x] ∧ H d = some (.dK kvs) ∧ valV kvs (.inr x) = some (.int (m : Nat)) ∧ 1 ≤ m ∧ m ≤ 2 ∧ ∀ (v : V) (H' : Hp), Same H H' → Q v H'
def spRulesL : Sp := fun vs H Q _ => ∃ (b d p : Addr) (ws : List Str) (kvs : KVs) (j n : Nat), vs = [.ref b, .ref d, .ref p, .int (n : Nat)] ∧ 1 ≤ n ∧ n ≤ 8 ∧ BoxAt H b j ∧ Wsh H b d p ws kvs ∧ j + 250 ≤ 1000000 ∧
  ∀ (v : V) (H' : Hp), BoxAt H' b (j + 250) → But b H H' → Q v H'
def spBegin : Sp := fun vs H Q _ => ∃ (b : Addr) (j n : Nat), vs = [.ref b, .int (n : Nat)] ∧ 1 ≤ n ∧ n ≤ 8 ∧ BoxAt H b j ∧ j + 270 ≤ 1000000 ∧
  ∀ (t d p : Addr) (r : V) (ws : List Str) (kvs : KVs) (H' : Hp), H' t = some (.tup [.ref p, .ref d, r]) → Wsh H' b d p ws kvs → (∀ x ∈ ws, NameOk x) → BoxAt H' b (j + 270) → But b H H' → Q (.ref t) H'
def teBaseL : TE := tCall spBaseL [] E0 (tCons (tVar 1) (tCons (tVar 6) tNil))
def ttBaseL : TT := tTest (tOp (rI0 fun i j => .bl (decide (j < i))) (tCall spTake [] E0 (tCons (tVar 0) (tCons (tC (.int 3)) tNil))) (tC (.int 0)))
theorem Wsh.same {H H' : Hp} {b d p : Addr} {ws : List Str} {kvs : KVs} (W : Wsh H b d p ws kvs) (o : Same H H') : Wsh H' b d p ws kvs := ⟨o _ _ W.hd, W.sh, o _ _ W.hp, W.pb, W.one, W.four⟩
section
variable {P : Program} {w : World} {K : PySem.W.Frag} {mg : Str → Option Value} {base : Heap}
theorem scBaseL : FnScope ["_law_shapes_here", "_law_word"] ["_law_shapes_here", "_law_word"] (defScope sBaseL) := ⟨rfl, rfl, rfl, by decide +kernel, rfl, by decide +kernel, by decide +kernel⟩
theorem ok_basel {f : Addr} {fd : FuncData} (F : Fun K "_law_base" "_law_base" sBaseL f fd) : FnOk P w K mg base CX0 1 f fd ["_law_shapes_here", "_law_word"] spBaseL := by
  refine F.ok scBaseL (fun vs H Q E h => ?_) (fun cdv A outer s H vs Q E hr h => ?_)
  · obtain ⟨d, kvs, x, m, rfl, _⟩ := h
    rfl
  obtain ⟨d, kvs, x, m, rfl, hd, hv, m1, m2, q⟩ := h
  refine ⟨_, pss_one (ps_ret (pe_tup (pa_cons (pe_op op_catT (pe_tup (pa_cons (pv 1) pa_nil)) (pe_op op_repO (pe_tup (pa_cons (pe_tup (pa_cons pe_str pa_nil)) pa_nil)) (pe_dget (hu_of hr) (pv 0) (pv 1) (fun _ _ => rfl)))) (pa_cons (pe_tup pa_nil) pa_nil)))), ?_⟩
  have big : (10 : Nat) ≤ sizeLine := by decide
  refine ⟨_, rfl, (by show 1 ≤ sizeLine; decide), fun t1 h1 => ?_⟩
  have s1 := same_new h1 (.tup [V.str x])
  refine ⟨(by show 1 ≤ sizeLine; decide), fun t2 h2 => ⟨(by show 1 ≤ sizeLine; decide), fun t3 h3 => ?_⟩⟩
  have s2 := same_new h2 (.tup [V.str "0"])
  have s3 := same_new h3 (.tup [V.ref t2])
  have sA := s1.trans (s2.trans s3)
  refine ⟨_, rfl, _, rfl, d, _, rfl, by rw [← hv]; exact DGet.k (k := Sum.inr x) (sA _ _ hd), t3, _, _, rfl, rfl, .inl (.inl upd_same), by simp, by omega, by omega, by simp, fun _ => ?_, fun _ t4 h4 => ?_⟩
  · refine ⟨t1, t3, _, _, rfl, rfl, .inl (.inl (s3 _ _ (s2 _ _ upd_same))), .inl (.inl upd_same), by simp, by rw [List.length_singleton, List.length_singleton]; omega, fun e => by simp at e, fun _ t5 h5 => ⟨(by show 0 ≤ sizeLine; decide), fun t6 h6 => ⟨(by show 2 ≤ sizeLine; decide), fun t7 h7 => ?_⟩⟩⟩
    exact q _ _ (sA.trans ((same_new h5 _).trans ((same_new h6 _).trans (same_new h7 _))))
  · have s4 := same_new h4 (.tup (List.replicate (m : Int).toNat [V.ref t2]).flatten)
    have ln : (List.replicate (m : Int).toNat [V.ref t2]).flatten.length = m := by simp
    refine ⟨t1, t4, _, _, rfl, rfl, .inl (.inl (s4 _ _ (s3 _ _ (s2 _ _ upd_same)))), .inl (.inl upd_same), by simp, by rw [ln, List.length_singleton]; omega, fun e => by rw [e] at ln; simp at ln; omega, fun _ t5 h5 => ⟨(by show 0 ≤ sizeLine; decide), fun t6 h6 => ⟨(by show 2 ≤ sizeLine; decide), fun t7 h7 => ?_⟩⟩⟩
    exact q _ _ (sA.trans (s4.trans ((same_new h5 _).trans ((same_new h6 _).trans (same_new h7 _)))))
abbrev NRs : List Str := ["_law_box_here", "_law_shapes_here", "_law_names_here", "_law_count", "_law_found", "_law_turn", "_law_word"]
theorem scRulesL : FnScope NRs ["_law_box_here", "_law_shapes_here", "_law_names_here", "_law_count"] (defScope sRulesL) := ⟨rfl, rfl, rfl, by decide +kernel, rfl, by decide +kernel, by decide +kernel⟩
theorem ok_rulesl {f fT fB fR : Addr} {fd fdT dB dR : FuncData} (F : Fun K "_law_rules" "_law_rules" sRulesL f fd)
    (GT : FnOk P w K mg base CX0 1 fT fdT ["_law_box_here", "_law_reach"] spTake) (kT : PySem.W.keepIn K (.ref fT) = true) (bT : Binds K fdT ["_law_box_here", "_law_reach"] []) (mT : mg "_law_take" = some (.ref fT))
    (GB : FnOk P w K mg base CX0 1 fB dB ["_law_shapes_here", "_law_word"] spBaseL) (kB : PySem.W.keepIn K (.ref fB) = true) (bB : Binds K dB ["_law_shapes_here", "_law_word"] []) (mB : mg "_law_base" = some (.ref fB))
    (GR : FnOk P w K mg base CX0 3 fR dR ["_law_box_here", "_law_shapes_here", "_law_names_here"] spRuleL) (kR : PySem.W.keepIn K (.ref fR) = true) (bR : Binds K dR ["_law_box_here", "_law_shapes_here", "_law_names_here"] []) (mR : mg "_law_rule" = some (.ref fR))
    (mRange : mg "range" = none) : FnOk P w K mg base CX0 4 f fd ["_law_box_here", "_law_shapes_here", "_law_names_here", "_law_count"] spRulesL := by
  refine F.ok scRulesL (fun vs H Q E h => ?_) (fun cdv A outer s H vs Q E hr h => ?_)
  · obtain ⟨b, d, p, ws, kvs, j, n, rfl, _⟩ := h
    rfl
  obtain ⟨b, d, p, ws, kvs, j, n, rfl, n1, n8, B, W, hj, q⟩ := h
  have r1 : Room 1 _ := hr.mono (by decide)
  refine ⟨_, pss_cons (ps_setLc (i := 4) (own := [("_law_word", 6)]) (g := gName 6) (tt := ttBaseL) (te := teBaseL) rfl scRulesL.nd rfl rfl (by rfl) (pi_list (pv 2))
        (blkOk_by (N := NRs) (sc := defScope sRulesL) (by decide +kernel)) (fun _ _ _ _ _ => pg_name (i := 6) scRulesL.nd rfl (Or.inl rfl)) (fun _ _ _ _ _ => pts_one (pt_cmpR op_gt (pe_call GT r1 (by rfl) mT kT bT .nil pass0 (pa_cons (pv 0) (pa_cons pe_int pa_nil))) pe_int (nomark _)))
        (fun _ _ _ _ _ => pe_call GB r1 (by rfl) mB kB bB .nil pass0 (pa_cons (pv 1) (pa_cons (pv 6) pa_nil))))
    (pss_cons (ps_for PassesOwn.never rfl (pi_range1 (by rfl) mRange (pa_cons (pe_op op_add pe_int (pe_call GT r1 rfl mT kT bT .nil pass0 (pa_cons (pv 0) (pa_cons (pv 3) pa_nil)))) pa_nil)) (pg_name (i := 5) scRulesL.nd rfl (Or.inl rfl))
      (pss_one (ps_expr (pe_bm PySem.F.plainAttrs_list PySem.F.slot_list_append PySem.F.type_list_append mt_append (pv 4) (pa_cons (pe_call GR hr rfl mR kR bR .nil pass0 (pa_cons (pv 0) (pa_cons (pv 1) (pa_cons (pv 2) pa_nil)))) pa_nil)))))
    (pss_one (ps_ret (pe_slice sl_list (pv 4) po_none (po_some (pv 3)))))), ?_⟩
  have big : (10000 : Nat) ≤ sizeLine := by decide
  have w4 := W.four
  refine ⟨_, rfl, p, rfl, ⟨_, .inl (.inl W.hp)⟩, fun D hD => lc_list (K := K) (a := p) (xs := ws.map V.str) (fun i H2 => ∃ xs : List V, H2 D = some (.lst xs) ∧ xs.length ≤ i ∧ BoxAt H2 b (j + i) ∧ But b H H2)
    ⟨[], upd_same, Nat.le_refl _, (B.same (same_new hD _)).more (by omega), but_of (same_new hD _)⟩ (fun i H2 _ ⟨_, _, _, _, o⟩ => .inl (.inl (o _ _ W.hp W.pb))) ?_ ?_⟩
  · rintro i x H2 hi ⟨xs, h2, xl, B2, o2⟩
    have Db : D ≠ b := ne_box B hD
    have i4 : i < ws.length := by
      have := (List.getElem?_eq_some_iff.mp hi).1
      rw [List.length_map] at this
      exact this
    obtain ⟨y, hy, rfl⟩ := List.mem_map.mp (List.mem_of_getElem? hi)
    refine ⟨rfl, ?_⟩
    unfold ttBaseL teBaseL
    refine ⟨_, rfl, b, _, _, rfl, B2, by omega, by decide, by decide, fun r H3 c0 c1 B3 o3 => ?_⟩
    refine ⟨_, _, rfl, rfl, decide ((0 : Int) < r), rfl, ?_⟩
    have h3 := o3 _ _ h2 Db
    have o23 := o2.trans o3
    by_cases hr0 : (0 : Int) < r
    · rw [decide_eq_true hr0]
      have W3 := W.but B o23
      obtain ⟨_, hval, m, rfl, m1, m2⟩ := W3.sh y hy
      refine iteT ⟨_, rfl, _, rfl, d, kvs, y, m, rfl, W3.hd, hval, m1, m2, fun v H4 s4 => ?_⟩
      exact ⟨xs, s4 _ _ h3, by omega, xs ++ [v], upd_same, by simp; omega, ((B3.same s4).upd Db _).more (by omega), but_new hD o2 fun z u hz nb => s4 _ _ (o3 _ _ hz nb)⟩
    · rw [decide_eq_false hr0]
      exact iteF ⟨xs, h3, by omega, B3.more (by omega), o23⟩
  · rintro H2 ⟨xs, h2, xl, B2, o2⟩
    rw [List.length_map] at xl B2
    have Db : D ≠ b := ne_box B hD
    refine ⟨_, rfl, _, rfl, b, _, _, rfl, B2, by omega, by omega, by omega, fun r H3 c0 c1 B3 o3 => ?_⟩
    obtain ⟨k, rfl⟩ := Int.eq_ofNat_of_zero_le c0
    refine ⟨_, _, rfl, rfl, _, rfl, by omega, by omega, for_range (lo := 0) (n := ((1 : Int) + (k : Nat)).toNat) (fun i σ H6 => ∃ (ys : List V) (x5 x6 : Option V), σ = [some (.ref b), some (.ref d), some (.ref p), some (.int (n : Nat)), some (.ref D), x5, x6] ∧
      H6 D = some (.lst ys) ∧ ys.length = xs.length + i ∧ BoxAt H6 b (j + 5 + 30 * i) ∧ But b H H6)
      ⟨xs, _, _, rfl, o3 _ _ h2 Db, rfl, B3.more (by omega), o2.trans o3⟩ ?_ ?_⟩
    · rintro i σ H6 hi ⟨ys, x5, x6, rfl, h6, yl, B6, o6⟩
      have W6 := W.but B o6
      refine ⟨_, rfl, .inl ⟨rfl, _, .inl (.inl h6)⟩, _, rfl, _, rfl, _, rfl, b, d, p, ws, kvs, _, rfl, B6, W6, by omega, fun v H7 B7 o7 => ?_⟩
      have h7 := o7 _ _ h6 Db
      exact ⟨D, ys, v, rfl, rfl, h7, by omega, ys ++ [v], _, _, rfl, upd_same, by simp [yl]; omega, (B7.upd Db _).more (by omega), but_new hD o6 o7⟩
    · rintro σ H6 ⟨ys, x5, x6, rfl, h6, yl, B6, o6⟩
      refine ⟨_, rfl, _, rfl, (n : Int), rfl, D, ys, rfl, .inl (.inl h6), fun g hg => ?_⟩
      have s7 := same_new hg (.lst (cutV ys none (some (n : Int))))
      exact q _ _ ((B6.same s7).more (by omega)) (o6.trans (but_of s7))
theorem scBegin : FnScope ["_law_box_here", "_law_count", "_law_words", "_law_shapes_here"] ["_law_box_here", "_law_count"] (defScope sBegin) := ⟨rfl, rfl, rfl, by decide +kernel, rfl, by decide +kernel, by decide +kernel⟩
theorem ok_begin {f fT fN fS fR : Addr} {fd fdT dN dS dR : FuncData} (F : Fun K "_law_begin" "_law_begin" sBegin f fd)
    (GT : FnOk P w K mg base CX0 1 fT fdT ["_law_box_here", "_law_reach"] spTake) (kT : PySem.W.keepIn K (.ref fT) = true) (bT : Binds K fdT ["_law_box_here", "_law_reach"] []) (mT : mg "_law_take" = some (.ref fT))
    (GN : FnOk P w K mg base CX0 2 fN dN ["_law_box_here", "_law_count"] spWords) (kN : PySem.W.keepIn K (.ref fN) = true) (bN : Binds K dN ["_law_box_here", "_law_count"] []) (mN : mg "_law_names" = some (.ref fN))
    (GS : FnOk P w K mg base CX0 2 fS dS ["_law_box_here", "_law_names_here"] spShapes) (kS : PySem.W.keepIn K (.ref fS) = true) (bS : Binds K dS ["_law_box_here", "_law_names_here"] []) (mS : mg "_law_shapes" = some (.ref fS))
    (GR : FnOk P w K mg base CX0 4 fR dR ["_law_box_here", "_law_shapes_here", "_law_names_here", "_law_count"] spRulesL) (kR : PySem.W.keepIn K (.ref fR) = true) (bR : Binds K dR ["_law_box_here", "_law_shapes_here", "_law_names_here", "_law_count"] []) (mR : mg "_law_rules" = some (.ref fR)) : FnOk P w K mg base CX0 5 f fd ["_law_box_here", "_law_count"] spBegin := by
  refine F.ok scBegin (fun vs H Q E h => ?_) (fun cdv A outer s H vs Q E hr h => ?_)
  · obtain ⟨b, j, n, rfl, _⟩ := h
    rfl
  obtain ⟨b, j, n, rfl, n1, n8, B, hj, q⟩ := h
  have r1 : Room 1 _ := hr.mono (by decide)
  have r2 : Room 2 _ := hr.mono (by decide)
  refine ⟨_, pss_cons (ps_set (i := 2) scBegin.nd rfl (Or.inl rfl) (pe_call GN r2 rfl mN kN bN .nil pass0 (pa_cons (pv 0) (pa_cons (pe_op op_add pe_int (pe_call GT r1 rfl mT kT bT .nil pass0 (pa_cons (pv 0) (pa_cons pe_int pa_nil)))) pa_nil))))
    (pss_cons (ps_set (i := 3) scBegin.nd rfl (Or.inl rfl) (pe_call GS r2 rfl mS kS bS .nil pass0 (pa_cons (pv 0) (pa_cons (pv 2) pa_nil))))
    (pss_one (ps_ret (pe_tup (pa_cons (pv 2) (pa_cons (pv 3) (pa_cons (pe_call GR hr rfl mR kR bR .nil pass0 (pa_cons (pv 0) (pa_cons (pv 3) (pa_cons (pv 2) (pa_cons (pv 1) pa_nil))))) pa_nil))))))), ?_⟩
  refine ⟨_, rfl, _, rfl, b, _, _, rfl, B, by omega, by decide, by decide, fun r H1 c0 c1 B1 o1 => ?_⟩
  obtain ⟨k, rfl⟩ := Int.eq_ofNat_of_zero_le c0
  refine ⟨_, _, rfl, rfl, b, _, 1 + k, rfl, by omega, by omega, B1, by omega, fun p ws H2 hp0 hp wl wo wn B2 o2 => ?_⟩
  have pb : p ≠ b := ne_box B1 hp0
  refine ⟨_, rfl, _, rfl, b, p, ws, _, rfl, B2, hp, pb, by omega, by omega, fun d kvs H3 hd0 hd sh B3 o3 => ?_⟩
  have W3 : Wsh H3 b d p ws kvs := ⟨hd, sh, o3 _ _ hp pb, pb, by omega, by omega⟩
  refine ⟨_, rfl, _, rfl, _, rfl, _, rfl, _, rfl, _, rfl, b, d, p, ws, kvs, _, n, rfl, n1, n8, B3, W3, by omega, fun v H4 B4 o4 => ⟨(by show 3 ≤ sizeLine; decide), fun t ht => ?_⟩⟩
  have s5 := same_new ht (.tup [V.ref p, V.ref d, v])
  exact q t d p v ws kvs _ upd_same ((W3.but B3 o4).same s5) wo ((B4.same s5).more (by omega)) (o1.trans (o2.trans (o3.trans (o4.trans (but_of s5)))))
end
end Rp

/-! Texts of TERMs, and the fold that makes them. -/
namespace Rp
open PySem PySem.Spec PyProof.Rows L2
namespace Tm
/-- a sign with the texts of its parts -/
def put1 : Tm → List Str → Str
  | v n, _ => "x" ++ (Str.ofString (toString n))
  | z, _ => "0"
  | s _, ys => "s" ++ "(" ++ Txt.join "," ys ++ ")"
  | f _ _, ys => "f" ++ "(" ++ Txt.join "," ys ++ ")"
def txt : Tm → Str
  | v n => put1 (v n) []
  | z => put1 z []
  | s t => put1 (s t) [t.txt]
  | f l r => put1 (f l r) [l.txt, r.txt]
theorem txt_kids (t : Tm) : t.txt = t.put1 (t.kids.map txt) := by cases t <;> rfl
end Tm
theorem num_len {n : Int} (h : 0 ≤ n ∧ n ≤ 99) : (Str.ofString (toString n)).length ≤ 3 := by
  rw [PySem.ofString_length]
  exact int_text_length_le10 (k := 2) (by decide) (by omega)
theorem txt_len : ∀ t : Tm, t.small → t.txt.length ≤ 4 * t.size
  | .v n, h => by
    have := num_len (h n (by simp [Tm.nums]))
    show (("x" : Str) ++ (Str.ofString (toString n))).length ≤ 4
    rw [slen]
    have : ("x" : Str).length = 1 := by decide +kernel
    omega
  | .z, _ => by decide +kernel
  | .s t, h => by
    have := txt_len t h
    show (("s" : Str) ++ "(" ++ Txt.join "," [t.txt] ++ ")").length ≤ 4 * (t.size + 1)
    rw [join1, slen, slen, slen]
    have a : ("s" : Str).length = 1 := by decide +kernel
    have b : ("(" : Str).length = 1 := by decide +kernel
    have c : (")" : Str).length = 1 := by decide +kernel
    omega
  | .f l r, h => by
    have := txt_len l fun n hn => h n (by simp [Tm.nums, hn])
    have := txt_len r fun n hn => h n (by simp [Tm.nums, hn])
    show (("f" : Str) ++ "(" ++ Txt.join "," [l.txt, r.txt] ++ ")").length ≤ 4 * (l.size + r.size + 1)
    rw [join2, slen, slen, slen, slen, slen]
    have a : ("f" : Str).length = 1 := by decide +kernel
    have b : ("(" : Str).length = 1 := by decide +kernel
    have c : (")" : Str).length = 1 := by decide +kernel
    have d : ("," : Str).length = 1 := by decide +kernel
    omega
/-! ### the stack -/
def spTextOf (K : PySem.W.Frag) : Sp := fun vs H Q _ => ∃ (v : V) (t : Tm) (a : Addr), vs = [v, .ref a] ∧ TmAt H v t ∧ t.small ∧ t.size ≤ 1000 ∧ H a = some (.lst ((t.kids.map Tm.txt).map V.str)) ∧ Q (.str t.txt) H
def spFold (fO : Addr) : Sp := fun vs H Q _ => ∃ (v : V) (t : Tm), vs = [v, .ref fO] ∧ TmAt H v t ∧ t.small ∧ t.size ≤ 1000 ∧ ∀ H', Same H H' → Q (.str t.txt) H'
def spTermText : Sp := fun vs H Q _ => ∃ (v : V) (t : Tm), vs = [v] ∧ TmAt H v t ∧ t.small ∧ t.size ≤ 1000 ∧ ∀ H', Same H H' → Q (.str t.txt) H'
section
variable {P : Program} {w : World} {K : PySem.W.Frag} {mg : Str → Option Value} {base : Heap}
theorem scTextOf : FnScope ["part", "texts", "inner"] ["part", "texts"] (defScope sTextOf) := ⟨rfl, rfl, rfl, by decide +kernel, rfl, by decide +kernel, by decide +kernel⟩
theorem ok_textof {f : Addr} {fd : FuncData} (F : Fun K "_text_of" "_text_of" sTextOf f fd) (mIsi : mg "isinstance" = none) (mInt : mg "int" = none) : FnOk P w K mg base CX0 1 f fd ["part", "texts"] (spTextOf K) := by
  refine F.ok scTextOf (fun vs H Q E h => ?_) (fun cdv A outer s H vs Q E hr h => ?_)
  · obtain ⟨v, t, a, rfl, _⟩ := h
    rfl
  obtain ⟨v, t, a, rfl, T, sm, sz, ha, q⟩ := h
  refine ⟨_, pss_cons (ps_if (pt_val (pe_callB (id := "isinstance") call_isi (by rfl) mIsi (by decide +kernel) (pa_cons (pv 0) (pa_cons (pe_bltn (v := .ty "int") (by rfl) mInt (by decide +kernel) rfl) pa_nil)))) (pss_one (ps_ret (pe_joined (.cons pe_str (.cons (pe_fmt (pv 0)) .nil))))) pss_nil)
    (pss_cons (ps_if (pt_not (pt_truth (pv 1) (by intro _; rfl))) (pss_one (ps_ret (pe_ix ix_tup (pv 0) pe_int (fun _ _ => rfl)))) pss_nil)
    (pss_cons (ps_set (i := 2) scTextOf.nd rfl (Or.inl rfl) (pe_bm PySem.F.plainAttrs_str PySem.F.slot_str_join PySem.F.type_str_join mt_join pe_str (pa_cons (pv 1) pa_nil)))
    (pss_one (ps_ret (pe_joined (.cons (pe_fmt (pe_ix ix_tup (pv 0) pe_int (fun _ _ => rfl))) (.cons pe_str (.cons (pe_fmt (pv 2)) (.cons pe_str .nil))))))))), ?_⟩
  have tl := txt_len t sm
  have big : (10000 : Nat) ≤ sizeLine := by decide
  rcases T.ty (K := K) with ⟨m, rfl, rfl⟩ | ⟨b, xs, rfl, hb, ty, no⟩
  · refine ⟨_, rfl, _, _, _, _, true, rfl, .ty "int", .base (.int m), kit_ii, true, rfl, iteT ?_⟩
    have hm := sm m (by simp [Tm.nums])
    refine ⟨_, rfl, ?_, _, rfl, .inr ⟨m, rfl, ?_, ?_⟩⟩
    · rw [Str.empty_append]; exact Nat.le_trans (by decide +kernel : ("x" : Str).length ≤ 10) (by decide)
    · have := Nat.log2_le_self m.natAbs
      omega
    · refine ⟨_, rfl, ?_, ?_⟩
      · rw [Str.empty_append, slen]
        have := num_len hm
        have : ("x" : Str).length = 1 := by decide +kernel
        exact Nat.le_trans (by omega : _ ≤ 10) (by decide)
      · rw [Str.empty_append]
        exact q
  · obtain ⟨a', ks, e, ha', hk, hks⟩ := T.tupled no
    cases e
    refine ⟨_, rfl, _, _, _, _, false, rfl, .ty "int", ty, kit_ti, false, rfl, iteF ?_⟩
    refine ⟨_, rfl, _, .inl ⟨_, .inl (.inl ha), rfl⟩, ?_⟩
    have lim : ∀ x : Str, x.length ≤ 10000 → x.length ≤ sizeLine := fun x h => Nat.le_trans h big
    have l1 : ("s" : Str).length = 1 := by decide +kernel
    have l2 : ("f" : Str).length = 1 := by decide +kernel
    have l3 : ("(" : Str).length = 1 := by decide +kernel
    have l4 : (")" : Str).length = 1 := by decide +kernel
    have l5 : ("," : Str).length = 1 := by decide +kernel
    cases t with
    | v n => exact absurd rfl (no n)
    | z =>
      refine iteT ⟨_, rfl, _, _, _, _, rfl, rfl, .inl (.inl ha'), at_of (j := 0) rfl rfl, q⟩
    | s t =>
      have tz : (Txt.join "," [t.txt]).length ≤ 9000 := by
        rw [join1]; have := txt_len t sm; simp only [Tm.size] at sz; omega
      refine iteF ⟨rfl, _, rfl, _, a, [t.txt], rfl, rfl, .inl (.inl (.inl ha)), ?_, ?_⟩
      · simp only [List.map_cons, List.map_nil, List.sum_cons, List.sum_nil, List.length_cons, List.length_nil]
        have := txt_len t sm; simp only [Tm.size] at sz; omega
      refine ⟨_, rfl, _, _, _, _, rfl, rfl, .inl (.inl ha'), at_of (j := 0) rfl rfl, .inl ⟨_, rfl, lim _ ?_, _, rfl, lim _ ?_, _, rfl, lim _ ?_, _, rfl, .inl ⟨_, rfl, lim _ ?_, _, rfl, lim _ ?_, _, rfl, lim _ ?_, ?_⟩⟩⟩
      · show ("s" : Str).length ≤ _; omega
      · show (Str.empty ++ ("s" : Str)).length ≤ _; rw [Str.empty_append]; omega
      · show (Str.empty ++ ("s" : Str) ++ "(").length ≤ _; rw [Str.empty_append, slen]; omega
      · omega
      · show (Str.empty ++ ("s" : Str) ++ "(" ++ Txt.join "," [t.txt]).length ≤ _; rw [Str.empty_append, slen, slen]; omega
      · show (Str.empty ++ ("s" : Str) ++ "(" ++ Txt.join "," [t.txt] ++ ")").length ≤ _; rw [Str.empty_append, slen, slen, slen]; omega
      · show Q (.str (Str.empty ++ ("s" : Str) ++ "(" ++ Txt.join "," [t.txt] ++ ")")) H; rw [Str.empty_append]; exact q
    | f l r =>
      have tz : (Txt.join "," [l.txt, r.txt]).length ≤ 9000 := by
        rw [join2, slen, slen]; have := txt_len l (fun n hn => sm n (by simp [Tm.nums, hn])); have := txt_len r (fun n hn => sm n (by simp [Tm.nums, hn])); simp only [Tm.size] at sz; omega
      refine iteF ⟨rfl, _, rfl, _, a, [l.txt, r.txt], rfl, rfl, .inl (.inl (.inl ha)), ?_, ?_⟩
      · simp only [List.map_cons, List.map_nil, List.sum_cons, List.sum_nil, List.length_cons, List.length_nil]
        have := txt_len l (fun n hn => sm n (by simp [Tm.nums, hn])); have := txt_len r (fun n hn => sm n (by simp [Tm.nums, hn])); simp only [Tm.size] at sz; omega
      refine ⟨_, rfl, _, _, _, _, rfl, rfl, .inl (.inl ha'), at_of (j := 0) rfl rfl, .inl ⟨_, rfl, lim _ ?_, _, rfl, lim _ ?_, _, rfl, lim _ ?_, _, rfl, .inl ⟨_, rfl, lim _ ?_, _, rfl, lim _ ?_, _, rfl, lim _ ?_, ?_⟩⟩⟩
      · show ("f" : Str).length ≤ _; omega
      · show (Str.empty ++ ("f" : Str)).length ≤ _; rw [Str.empty_append]; omega
      · show (Str.empty ++ ("f" : Str) ++ "(").length ≤ _; rw [Str.empty_append, slen]; omega
      · omega
      · show (Str.empty ++ ("f" : Str) ++ "(" ++ Txt.join "," [l.txt, r.txt]).length ≤ _; rw [Str.empty_append, slen, slen]; omega
      · show (Str.empty ++ ("f" : Str) ++ "(" ++ Txt.join "," [l.txt, r.txt] ++ ")").length ≤ _; rw [Str.empty_append, slen, slen, slen]; omega
      · show Q (.str (Str.empty ++ ("f" : Str) ++ "(" ++ Txt.join "," [l.txt, r.txt] ++ ")")) H; rw [Str.empty_append]; exact q
end
end Rp

namespace Rp
open PySem PySem.Spec PyProof.Rows L2
section
variable {P : Program} {w : World} {K : PySem.W.Frag} {mg : Str → Option Value} {base : Heap}
theorem ok_fold {f fI fP fO : Addr} {fd dI dP dO : FuncData} (F : Fun K "fold" "fold" sFold f fd)
    (GI : FnOk P w K mg base CX0 2 fI dI ["term"] spInside) (kI : PySem.W.keepIn K (.ref fI) = true) (bI : Binds K dI ["term"] []) (mI : mg "inside_out" = some (.ref fI))
    (GP : FnOk P w K mg base CX0 1 fP dP ["term"] spParts) (kP : PySem.W.keepIn K (.ref fP) = true) (bP : Binds K dP ["term"] []) (mP : mg "_parts" = some (.ref fP))
    (GO : FnOk P w K mg base CX0 1 fO dO ["part", "texts"] (spTextOf K)) (kO : PySem.W.keepIn K (.ref fO) = true) (bO : Binds K dO ["part", "texts"] []) (mLen : mg "len" = none) :
    FnOk P w K mg base CX0 3 f fd ["term", "made_of"] (spFold fO) := by
  refine F.ok scFold (fun vs H Q E h => ?_) (fun cdv A outer s H vs Q E hr h => ?_)
  · obtain ⟨v, t, rfl, _⟩ := h
    rfl
  obtain ⟨v, t, rfl, T, sm, sz, q⟩ := h
  have r1 : Room 1 _ := hr.mono (by decide)
  refine ⟨_, pss_cons (ps_set (i := 2) scFold.nd rfl (Or.inl rfl) (pe_lst pa_nil))
    (pss_cons (ps_for PassesOwn.never rfl (pi_list (pe_call GI hr rfl mI kI bI .nil pass0 (pa_cons (pv 0) pa_nil))) (pg_name (i := 3) scFold.nd rfl (Or.inl rfl))
      (pss_cons (ps_set (i := 4) scFold.nd rfl (Or.inl rfl) (pe_op op_sub (pe_callB call_len_seq (by rfl) mLen PySem.boot_len (pa_cons (pv 2) pa_nil)) (pe_callB call_len_seq (by rfl) mLen PySem.boot_len (pa_cons (pe_call GP r1 rfl mP kP bP .nil pass0 (pa_cons (pv 3) pa_nil)) pa_nil))))
      (pss_one (ps_tail (pv 2) (po_some (pv 4)) (pe_lst (pa_cons (pe_callL (i := 1) GO r1 rfl (Or.inl rfl) kO bO .nil pass0 (pa_cons (pv 3) (pa_cons (pe_slice sl_list (pv 2) (po_some (pv 4)) po_none) pa_nil))) pa_nil))))))
    (pss_one (ps_ret (pe_ix ix_list (pv 2) pe_int (fun _ _ => rfl))))), ?_⟩
  refine ⟨(by show 0 ≤ sizeLine; decide), fun m hm => ?_⟩
  have s0 := same_new hm (.lst ([] : List V))
  refine ⟨_, rfl, v, t, rfl, T.same s0, sz, fun p xs H1 hp h1 A1 s1 => ?_⟩
  have hm1 := s1 _ _ (upd_same : (upd H m (.lst ([] : List V))) m = some (.lst []))
  have pm : p ≠ m := (ne_of_none (upd_same : (upd H m (.lst ([] : List V))) m = some (.lst [])) hp).symm
  have len := A1.len
  rw [List.length_reverse, Tm.rpost_len] at len
  have post : t.rpost.reverse.length = t.size := by rw [List.length_reverse, Tm.rpost_len]
  have big : (10000 : Nat) ≤ sizeLine := by decide
  refine ⟨p, rfl, ⟨_, .inl (.inl h1)⟩, for_list (K := K) (a := p) (xs := xs) (fun i σ H2 => ∃ (S : List Tm) (x3 x4 : Option V), σ = [some v, some (.ref fO), some (.ref m), x3, x4] ∧ H2 m = some (.lst ((S.map Tm.txt).map V.str)) ∧
      runs S (t.rpost.reverse.drop i) [t] ∧ (∀ k ∈ S, k ∈ t.rpost) ∧ S.length ≤ i ∧ But m H1 H2) ⟨[], none, none, rfl, hm1, ?_, by simp, by simp, But.refl _ _⟩ (fun i σ H2 _ ⟨_, _, _, _, _, _, _, _, o⟩ => .inl (.inl (o _ _ h1 pm))) ?_ ?_⟩
  · have := runs_post t [] [] [t] rfl
    simpa using this
  · rintro i x σ H2 hi ⟨S, x3, x4, rfl, h2, run, parts, sl, o2⟩
    obtain ⟨k, hk, Tk⟩ := A1.get hi
    have li : i < t.rpost.reverse.length := (List.getElem?_eq_some_iff.mp hk).1
    have ek : t.rpost.reverse.drop i = k :: t.rpost.reverse.drop (i + 1) := by
      rw [List.drop_eq_getElem_cons li, (List.getElem?_eq_some_iff.mp hk).2]
    rw [ek] at run
    obtain ⟨S0, rfl, run⟩ := run
    have km : k ∈ t.rpost := List.mem_reverse.mp (List.mem_of_getElem? hk)
    have pk := part_of km
    have smk : k.small := fun n hn => sm n (pk.2 n hn)
    have T2 := Tk.but o2 hm1
    rw [List.length_append] at sl
    refine ⟨_, rfl, m, _, rfl, .inl (.inl (.inl h2)), _, rfl, x, k, rfl, T2, fun g ks H3 hg h3 A3 s3 => ?_⟩
    have kl := A3.len
    refine ⟨g, _, rfl, .inr (.inl (.inl h3)), _, _, rfl, rfl, ?_⟩
    have h23 := s3 _ _ h2
    have first : (((((S0 ++ k.kids).map Tm.txt).map V.str).length : Nat) : Int) - ((ks.length : Nat) : Int) = ((S0.length : Nat) : Int) := by
      rw [List.length_map, List.length_map, List.length_append, kl]; omega
    refine ⟨rfl, _, rfl, _, rfl, _, rfl, _, rfl, m, _, rfl, .inl (.inl h23), fun d hd => ?_⟩
    have dm : d ≠ m := (ne_of_none h23 hd).symm
    rw [cut_from (i := S0.length) first]
    have cut : (((S0 ++ k.kids).map Tm.txt).map V.str).drop S0.length = (k.kids.map Tm.txt).map V.str := by
      rw [List.map_append, List.map_append, List.drop_left' (by rw [List.length_map, List.length_map])]
    rw [cut]
    have s4 := same_new hd (.lst ((k.kids.map Tm.txt).map V.str))
    refine ⟨x, k, d, rfl, (T2.same s3).same s4, smk, by omega, upd_same, ?_⟩
    refine ⟨(by show 1 ≤ sizeLine; decide), fun b hb => ?_⟩
    have s5 := same_new hb (.lst [V.str k.txt])
    have h25 := s5 _ _ (s4 _ _ h23)
    refine ⟨_, rfl, _, rfl, _, rfl, m, b, _, _, S0.length, rfl, rfl, congrArg some first, h25, upd_same, ne_of_none (s4 _ _ h23) hb, ?_, ?_, ?_⟩
    · rw [List.length_map, List.length_map, List.length_append]; omega
    · rw [List.length_map, List.length_map, List.length_append, List.length_singleton]; omega
    · refine ⟨S0 ++ [k], _, _, rfl, ?_, run, ?_, ?_, ?_⟩
      · rw [upd_same, List.map_append, List.map_append, List.take_left' (by rw [List.length_map, List.length_map]), List.map_append, List.map_append]
        rfl
      · intro k' hk'
        rcases List.mem_append.mp hk' with z | z
        · exact parts k' (by simp [z])
        · simp at z; subst z; exact km
      · rw [List.length_append, List.length_singleton]
        have := List.length_append (as := S0) (bs := k.kids)
        omega
      · intro c o' z nc
        rw [upd_ne nc]
        exact s5 _ _ (s4 _ _ (s3 _ _ (o2 _ _ z nc)))
  · rintro σ H2 ⟨S, x3, x4, rfl, h2, run, parts, sl, o2⟩
    rw [List.drop_of_length_le (by omega)] at run
    obtain rfl : S = [t] := run
    refine ⟨_, rfl, m, _, _, _, rfl, rfl, .inl (.inl h2), at_of (j := 0) rfl rfl, q H2 ?_⟩
    exact fun c o z => o2 c o (s1 _ _ (s0 _ _ z)) (ne_of_none z hm)
theorem scTermText : FnScope ["term"] ["term"] (defScope sTermText) := ⟨rfl, rfl, rfl, by decide +kernel, rfl, by decide +kernel, by decide +kernel⟩
theorem ok_termtext {f fF fO : Addr} {fd dF : FuncData} (F : Fun K "term_text" "term_text" sTermText f fd)
    (GF : FnOk P w K mg base CX0 3 fF dF ["term", "made_of"] (spFold fO)) (kF : PySem.W.keepIn K (.ref fF) = true) (bF : Binds K dF ["term", "made_of"] []) (mF : mg "fold" = some (.ref fF)) (mO : mg "_text_of" = some (.ref fO)) :
    FnOk P w K mg base CX0 4 f fd ["term"] spTermText := by
  refine F.ok scTermText (fun vs H Q E h => ?_) (fun cdv A outer s H vs Q E hr h => ?_)
  · obtain ⟨v, t, rfl, _⟩ := h
    rfl
  obtain ⟨v, t, rfl, T, sm, sz, q⟩ := h
  refine ⟨_, pss_one (ps_ret (pe_call GF hr rfl mF kF bF .nil pass0 (pa_cons (pv 0) (pa_cons (pe_glob (v := .ref fO) rfl mO rfl) pa_nil)))), ?_⟩
  exact ⟨_, rfl, v, t, rfl, T, sm, sz, q⟩
end
end Rp

/-! A TERM's text, its brackets and commas blanked, cut at the blanks: its signs, ahead of their parts. -/
namespace Rp
open PySem PySem.Spec PyProof.Rows L2 TL
def blank1 (c d : Nat) : Nat := if d = c then 32 else d
theorem spl_ne (S : List Nat) : ∀ (k : Nat) (acc l : List Nat), spl S k acc l ≠ []
  | 0, acc, [] => by rw [spl_nil]; simp
  | k + 1, acc, [] => by rw [spl_nil]; simp
  | k + 1, acc, _ :: r => by show spl S k acc r ≠ []; exact spl_ne S k acc r
  | 0, acc, c :: r => by
    by_cases h : pre S (c :: r) = true
    · rw [spl_hit h]; simp
    · rw [spl_miss (by simpa using h)]; exact spl_ne S 0 _ r
theorem join_spl (c : Nat) : ∀ (l acc : List Nat), joinL [32] (spl [c] 0 acc l) = acc ++ l.map (blank1 c)
  | [], acc => by rw [spl_nil]; simp [joinL]
  | d :: r, acc => by
    by_cases h : d = c
    · have hp : pre [c] (d :: r) = true := by simp [pre, h]
      rw [spl_hit hp]
      have ih := join_spl c r []
      have ne := spl_ne [c] 0 [] r
      show joinL [32] (acc :: spl [c] 0 [] r) = _
      cases e : spl [c] 0 [] r with
      | nil => exact absurd e ne
      | cons q rest =>
        rw [e] at ih
        show acc ++ ([32] ++ joinL [32] (q :: rest)) = _
        rw [ih]
        simp [blank1, h]
    · have hp : pre [c] (d :: r) = false := by simp [pre, h]
      rw [spl_miss hp, join_spl c r]
      simp [blank1, h]
theorem repl_tl (x : Str) {c : Nat} (hc : c < 256) : tl (Txt.replace x ⟨#[c]⟩ ⟨#[32]⟩) = (tl x).map (blank1 c) := by
  rw [PySem.StrLaws.replace_one, tl_join, split_spl x ⟨#[c]⟩ (by show [c] ≠ []; simp) ?_]
  · show joinL [32] (spl [c] 0 [] (tl x)) = _
    rw [join_spl]
    simp
  · exact kind_ok (by simp [hc])
namespace Tm
def sgn : Tm → List Str
  | v n => ["x" ++ Str.ofString (toString n)]
  | z => ["0"]
  | s t => "s" :: t.sgn
  | f l r => "f" :: (l.sgn ++ r.sgn)
theorem sgn_len : ∀ t : Tm, t.sgn.length = t.size
  | v _ => rfl | z => rfl | s t => by simp [sgn, size, sgn_len t]
  | f l r => by simp [sgn, size, sgn_len l, sgn_len r]
end Tm
def b3 (d : Nat) : Nat := blank1 44 (blank1 41 (blank1 40 d))
theorem b3_same {d : Nat} (h : d ≠ 40 ∧ d ≠ 41 ∧ d ≠ 44) : b3 d = d := by
  unfold b3 blank1
  rw [if_neg h.1, if_neg h.2.1, if_neg h.2.2]
theorem b3_num {l : List Nat} (h : ∀ d ∈ l, 48 ≤ d ∧ d ≤ 57) : l.map b3 = l := by
  have : l.map b3 = l.map id := List.map_congr_left fun d hd => b3_same (by have := h d hd; omega)
  rw [this, List.map_id]
theorem numL_small (n : Nat) : ∀ d ∈ numL n, 48 ≤ d ∧ d ≤ 57 := fun d hd => numL_digits n d hd
def spc (t : Tm) : List Nat := (tl t.txt).map b3
theorem t_x : tl ("x" : Str) = [120] := by decide +kernel
theorem t_0 : tl ("0" : Str) = [48] := by decide +kernel
theorem t_s : tl ("s" : Str) = [115] := by decide +kernel
theorem t_f : tl ("f" : Str) = [102] := by decide +kernel
theorem t_open : tl ("(" : Str) = [40] := by decide +kernel
theorem t_close : tl (")" : Str) = [41] := by decide +kernel
theorem t_comma : tl ("," : Str) = [44] := by decide +kernel
theorem tl_int {n : Int} (h : 0 ≤ n) : tl (Str.ofString (toString n)) = numL n.toNat := by
  obtain ⟨k, rfl⟩ := Int.eq_ofNat_of_zero_le h
  rw [tl_num]
  rfl
theorem spc_v {n : Int} (h : 0 ≤ n) : spc (.v n) = 120 :: numL n.toNat := by
  show (tl (("x" : Str) ++ Str.ofString (toString n))).map b3 = _
  rw [tl_append, t_x, tl_int h, List.map_append, b3_num (numL_small _)]
  rfl
theorem spc_z : spc .z = [48] := by decide +kernel
theorem spc_s (t : Tm) : spc (.s t) = 115 :: 32 :: (spc t ++ [32]) := by
  show (tl (("s" : Str) ++ "(" ++ Txt.join "," [t.txt] ++ ")")).map b3 = _
  rw [join1, tl_append, tl_append, tl_append, t_s, t_open, t_close, List.map_append, List.map_append]
  rfl
theorem spc_f (l r : Tm) : spc (.f l r) = 102 :: 32 :: (spc l ++ 32 :: (spc r ++ [32])) := by
  show (tl (("f" : Str) ++ "(" ++ Txt.join "," [l.txt, r.txt] ++ ")")).map b3 = _
  rw [join2, tl_append, tl_append, tl_append, tl_append, tl_append, t_f, t_open, t_close, t_comma]
  simp only [List.map_append]
  show [102] ++ [32] ++ (spc l ++ [32] ++ spc r) ++ [32] = _
  simp
theorem space32 : Unicode.isSpace 32 = true := by decide +kernel
theorem nosp {d : Nat} (h : (48 ≤ d ∧ d ≤ 57) ∨ d = 115 ∨ d = 102 ∨ d = 120) : Unicode.isSpace d = false := by
  have all : ∀ k : Fin 128, ((48 ≤ k.val ∧ k.val ≤ 57) ∨ k.val = 115 ∨ k.val = 102 ∨ k.val = 120) → Unicode.isSpace k.val = false := by decide +kernel
  exact all ⟨d, by omega⟩ h
theorem word_step {p : List Nat} (hp : p ≠ []) (h : ∀ c ∈ p, Unicode.isSpace c = false) (ws : List (List Nat)) (rest : List Nat) : (p ++ 32 :: rest).foldl wstep (ws, []) = rest.foldl wstep (ws ++ [p], []) := by
  rw [List.foldl_append, wfold_word p ws [] h, List.nil_append, List.foldl_cons]
  have : wstep (ws, p) 32 = (ws ++ [p], []) := by unfold wstep; rw [if_pos space32]; exact if_neg hp
  rw [this]
theorem gap_step (ws : List (List Nat)) (rest : List Nat) : (32 :: rest).foldl wstep (ws, []) = rest.foldl wstep (ws, []) := by
  rw [List.foldl_cons]
  have : wstep (ws, []) 32 = (ws, []) := by unfold wstep; rw [if_pos space32]; exact if_pos rfl
  rw [this]
theorem fold_spc : ∀ (t : Tm) (_ : t.small) (ws : List (List Nat)) (rest : List Nat), (spc t ++ 32 :: rest).foldl wstep (ws, []) = rest.foldl wstep (ws ++ t.sgn.map tl, [])
  | .v n, h, ws, rest => by
    have h0 := (h n (by simp [Tm.nums])).1
    rw [spc_v h0, word_step (by simp) ?_]
    · show _ = List.foldl wstep (ws ++ [tl (("x" : Str) ++ Str.ofString (toString n))], []) rest
      rw [tl_append, t_x, tl_int h0]
      rfl
    · intro c hc
      rcases List.mem_cons.mp hc with rfl | hc
      · exact nosp (.inr (.inr (.inr rfl)))
      · exact nosp (.inl (numL_small _ c hc))
  | .z, h, ws, rest => by
    rw [spc_z, word_step (by simp) ?_]
    · show _ = List.foldl wstep (ws ++ [tl ("0" : Str)], []) rest
      rw [t_0]
    · intro c hc
      simp at hc
      exact nosp (.inl (by omega))
  | .s t, h, ws, rest => by
    rw [spc_s]
    show ([115] ++ 32 :: ((spc t ++ [32]) ++ 32 :: rest)).foldl wstep (ws, []) = _
    rw [word_step (by simp) (by intro c hc; simp at hc; exact nosp (.inr (.inl hc)))]
    rw [show (spc t ++ [32]) ++ 32 :: rest = spc t ++ 32 :: (32 :: rest) by simp, fold_spc t h, gap_step]
    simp [Tm.sgn, t_s]
  | .f l r, h, ws, rest => by
    rw [spc_f]
    show ([102] ++ 32 :: ((spc l ++ 32 :: (spc r ++ [32])) ++ 32 :: rest)).foldl wstep (ws, []) = _
    rw [word_step (by simp) (by intro c hc; simp at hc; exact nosp (.inr (.inr (.inl hc))))]
    rw [show (spc l ++ 32 :: (spc r ++ [32])) ++ 32 :: rest = spc l ++ 32 :: (spc r ++ 32 :: (32 :: rest)) by simp,
      fold_spc l (fun n hn => h n (by simp [Tm.nums, hn])), fold_spc r (fun n hn => h n (by simp [Tm.nums, hn])), gap_step]
    simp [Tm.sgn, t_f]
theorem wfin_gap (st : List (List Nat) × List Nat) : wfin (wstep st 32) = wfin st := by
  unfold wstep wfin
  rw [if_pos space32]
  by_cases h : st.2 = []
  · rw [if_pos h, if_pos h]
  · rw [if_neg h, if_neg h]
    simp
/-- the text with brackets and commas blanked -/
def blanked (x : Str) : Str := Txt.replace (Txt.replace (Txt.replace x "(" " ") ")" " ") "," " "
theorem blanked_tl (x : Str) : tl (blanked x) = (tl x).map b3 := by
  have e32 : (" " : Str) = ⟨#[32]⟩ := by decide +kernel
  have e40 : ("(" : Str) = ⟨#[40]⟩ := by decide +kernel
  have e41 : (")" : Str) = ⟨#[41]⟩ := by decide +kernel
  have e44 : ("," : Str) = ⟨#[44]⟩ := by decide +kernel
  unfold blanked
  rw [e32, e40, e41, e44, repl_tl _ (by decide), repl_tl _ (by decide), repl_tl _ (by decide), List.map_map, List.map_map]
  rfl
theorem words_txt (t : Tm) (h : t.small) : Txt.words (blanked t.txt) = t.sgn := by
  refine map_tl_inj ?_
  rw [words_tl, blanked_tl]
  show wfin ((spc t).foldl wstep ([], [])) = _
  rw [← wfin_gap]
  have : wstep ((spc t).foldl wstep ([], [])) 32 = (spc t ++ 32 :: []).foldl wstep ([], []) := by rw [List.foldl_append]; rfl
  rw [this, fold_spc t h]
  simp [wfin]
theorem blanked_len (x : Str) : (blanked x).length = x.length := by
  rw [len_tl, len_tl, blanked_tl, List.length_map]
end Rp

set_option maxHeartbeats 8000000
/-! Signs of variables; what texts of TERMs hold. -/
namespace Rp
open PySem PySem.Spec PyProof.Rows L2 TL StX
/-- the sign of a variable -/
def xn (n : Int) : Str := "x" ++ Str.ofString (toString n)
theorem xn_facts {n : Int} (h : 0 ≤ n ∧ n ≤ 99) : cutS (xn n) none (some 1) = "x" ∧ (xn n).length ≤ 3 ∧ cutS (xn n) (some 1) none = Str.ofString (toString n) ∧ Txt.isdecimal (Str.ofString (toString n)) = true ∧ intText? (Str.ofString (toString n)) = some n ∧
    xn n ≠ "0" ∧ xn n ≠ "s" ∧ xn n ≠ "f" := by
  have all : ∀ k : Fin 100, cutS (xn (k.val : Int)) none (some 1) = "x" ∧ (xn (k.val : Int)).length ≤ 3 ∧ cutS (xn (k.val : Int)) (some 1) none = Str.ofString (toString (k.val : Int)) ∧ Txt.isdecimal (Str.ofString (toString (k.val : Int))) = true ∧
    xn (k.val : Int) ≠ "0" ∧ xn (k.val : Int) ≠ "s" ∧ xn (k.val : Int) ≠ "f" := by decide +kernel
  obtain ⟨k, rfl⟩ := Int.eq_ofNat_of_zero_le h.1
  obtain ⟨a, b, c, d, e, f, g⟩ := all ⟨k, by omega⟩
  exact ⟨a, b, c, d, int_num (Nat.le_trans (numL_len (k := 2) (by decide) (by omega)) (by decide)), e, f, g⟩
theorem t_eq : tl ("=" : Str) = [61] := by decide +kernel
theorem t_sp : tl (" " : Str) = [32] := by decide +kernel
theorem txt_signs : ∀ (t : Tm), t.small → ∀ d ∈ tl t.txt, 40 ≤ d ∧ d ≠ 61
  | .v n, h, d, hd => by
    have hd : d ∈ tl (("x" : Str) ++ Str.ofString (toString n)) := hd
    rw [tl_append, t_x, tl_int (h n (by simp [Tm.nums])).1] at hd
    rcases List.mem_append.mp hd with hd | hd
    · simp at hd; omega
    · have := numL_small _ d hd; omega
  | .z, h, d, hd => by
    have hd : d ∈ tl ("0" : Str) := hd
    rw [t_0] at hd; simp at hd; omega
  | .s t, h, d, hd => by
    have hd : d ∈ tl (("s" : Str) ++ "(" ++ Txt.join "," [t.txt] ++ ")") := hd
    rw [join1, tl_append, tl_append, tl_append, t_s, t_open, t_close] at hd
    simp only [List.mem_append, List.mem_singleton] at hd
    rcases hd with ((hd | hd) | hd) | hd
    · omega
    · omega
    · exact txt_signs t h d hd
    · omega
  | .f l r, h, d, hd => by
    have hd : d ∈ tl (("f" : Str) ++ "(" ++ Txt.join "," [l.txt, r.txt] ++ ")") := hd
    rw [join2, tl_append, tl_append, tl_append, tl_append, tl_append, t_f, t_open, t_close, t_comma] at hd
    simp only [List.mem_append, List.mem_singleton] at hd
    rcases hd with ((hd | hd) | (hd | hd) | hd) | hd
    · omega
    · omega
    · exact txt_signs l (fun n hn => h n (by simp [Tm.nums, hn])) d hd
    · omega
    · exact txt_signs r (fun n hn => h n (by simp [Tm.nums, hn])) d hd
    · omega
theorem xn_signs {n : Int} (h : 0 ≤ n) : tl (xn n) = 120 :: numL n.toNat := by
  unfold xn
  rw [tl_append, t_x, tl_int h]
  rfl
theorem xn_free {n : Int} (h : 0 ≤ n) : 61 ∉ tl (xn n) ∧ 32 ∉ tl (xn n) := by
  rw [xn_signs h]
  constructor
  · intro hd
    rcases List.mem_cons.mp hd with hd | hd
    · omega
    · have := numL_small _ _ hd; omega
  · intro hd
    rcases List.mem_cons.mp hd with hd | hd
    · omega
    · have := numL_small _ _ hd; omega
end Rp

set_option maxHeartbeats 8000000
namespace Rp
open PySem PySem.Spec PyProof.Rows L2 TL StX
theorem pgs_star {X : Cx} {e : Expr} {es : List Expr} {p : Pos} {t : TG} {u : TGs} (h1 : PG X e t) (h2 : PGs X es u) (hs : (assignEach (.Starred e p :: es) X.env).map (·.2) = assign e X.env :: (assignEach es X.env).map (·.2) := by rfl) : PGs X (.Starred e p :: es) (gCons t u) := by
  refine ⟨fun pins s σ H vs us Q I rel told => ?_⟩
  obtain ⟨v, rest, rfl, told⟩ := told
  cases rel with
  | cons r rr =>
    rw [hs]
    exact assignInOrder_cons (thn (h1.run pins s σ H _ _ _ I r told) fun _ s1 ⟨σ1, H1, J, go⟩ => h2.run pins s1 σ1 H1 _ _ Q J rr go)
theorem txt_low : ∀ (t : Tm), t.small → ∀ d ∈ tl t.txt, 40 ≤ d ∧ d ≤ 120
  | .v n, h, d, hd => by
    have hd : d ∈ tl (("x" : Str) ++ Str.ofString (toString n)) := hd
    rw [tl_append, t_x, tl_int (h n (by simp [Tm.nums])).1] at hd
    rcases List.mem_append.mp hd with hd | hd
    · simp at hd; omega
    · have := numL_small _ d hd; omega
  | .z, h, d, hd => by
    have hd : d ∈ tl ("0" : Str) := hd
    rw [t_0] at hd; simp at hd; omega
  | .s t, h, d, hd => by
    have hd : d ∈ tl (("s" : Str) ++ "(" ++ Txt.join "," [t.txt] ++ ")") := hd
    rw [join1, tl_append, tl_append, tl_append, t_s, t_open, t_close] at hd
    simp only [List.mem_append, List.mem_singleton] at hd
    rcases hd with ((hd | hd) | hd) | hd
    · omega
    · omega
    · exact txt_low t h d hd
    · omega
  | .f l r, h, d, hd => by
    have hd : d ∈ tl (("f" : Str) ++ "(" ++ Txt.join "," [l.txt, r.txt] ++ ")") := hd
    rw [join2, tl_append, tl_append, tl_append, tl_append, tl_append, t_f, t_open, t_close, t_comma] at hd
    simp only [List.mem_append, List.mem_singleton] at hd
    rcases hd with ((hd | hd) | (hd | hd) | hd) | hd
    · omega
    · omega
    · exact txt_low l (fun n hn => h n (by simp [Tm.nums, hn])) d hd
    · omega
    · exact txt_low r (fun n hn => h n (by simp [Tm.nums, hn])) d hd
    · omega
def parts (a : At) : List Str := a.nm :: a.ts.map Tm.txt
def atxt (a : At) : Str := Txt.join " " (parts a)
theorem parts_free {z : Nat} {a : At} (ok : AtOk z a) : ∀ p ∈ parts a, 32 ∉ tl p := by
  intro p hp hd
  rcases List.mem_cons.mp hp with rfl | hp
  · have := ok.nm.low _ hd; omega
  · obtain ⟨t, ht, rfl⟩ := List.mem_map.mp hp
    have := txt_low t (ok.sm t ht).1 _ hd
    omega
theorem atxt_split {z : Nat} {a : At} (ok : AtOk z a) : Txt.split (atxt a) " " = parts a := split_join t_sp (by decide +kernel) (by simp [parts]) (parts_free ok)
theorem parts_sum {a : At} (ok : AtOk 50 a) : ((parts a).map (·.length)).sum + (parts a).length * 1 ≤ 500 := by
  have h1 := ok.nm.few
  have each : ∀ t ∈ a.ts, t.txt.length ≤ 200 := fun t ht => by
    have := txt_len t (ok.sm t ht).1
    have := (ok.sm t ht).2
    omega
  have o1 := ok.one
  have o2 := ok.two
  unfold parts
  match hts : a.ts with
  | [] => rw [hts] at o1; simp at o1
  | [t] => have := each t (by rw [hts]; simp); simp; omega
  | [t, u] => have := each t (by rw [hts]; simp); have := each u (by rw [hts]; simp); simp; omega
  | t :: u :: v :: r => rw [hts] at o2; simp at o2
theorem atxt_len {a : At} (ok : AtOk 50 a) : (atxt a).length ≤ 500 := by
  have jl := StrLaws.join_length_le " " (parts a)
  have l1 : (" " : Str).length = 1 := by decide +kernel
  rw [l1] at jl
  have := parts_sum ok
  unfold atxt
  rw [join_eq]
  omega
def spAtomText : Sp := fun vs H Q _ => ∃ (v : V) (a : At), vs = [v] ∧ AtAt H v a ∧ AtOk 50 a ∧ ∀ H', Same H H' → Q (.str (atxt a)) H'
def spAtomOr : Sp := fun vs H Q _ => ∃ a : At, vs = [.str (atxt a)] ∧ AtOk 50 a ∧ ∀ (v : V) (H' : Hp), AtAt H' v a → Same H H' → Q v H'
section
variable {P : Program} {w : World} {K : PySem.W.Frag} {mg : Str → Option Value} {base : Heap}
theorem scAtomText : FnScope ["atom", "term"] ["atom"] (defScope sAtomText) := ⟨rfl, rfl, rfl, by decide +kernel, rfl, by decide +kernel, by decide +kernel⟩
theorem ok_atomtext {f fT : Addr} {fd dT : FuncData} (F : Fun K "atom_text" "atom_text" sAtomText f fd)
    (GT : FnOk P w K mg base CX0 4 fT dT ["term"] spTermText) (kT : PySem.W.keepIn K (.ref fT) = true) (bT : Binds K dT ["term"] []) (mT : mg "term_text" = some (.ref fT)) : FnOk P w K mg base CX0 5 f fd ["atom"] spAtomText := by
  refine F.ok scAtomText (fun vs H Q E h => ?_) (fun cdv A outer s H vs Q E hr h => ?_)
  · obtain ⟨v, a, rfl, _⟩ := h
    rfl
  obtain ⟨v, a, rfl, ⟨p, xs, rfl, hp, A1⟩, ok, q⟩ := h
  refine ⟨_, pss_one (ps_ret (pe_bm PySem.F.plainAttrs_str PySem.F.slot_str_join PySem.F.type_str_join mt_join pe_str (pa_cons (pe_lst (pa_cons (pe_ix ix_tup (pv 0) pe_int (fun _ _ => rfl)) (pa_star
      (pe_lc (own := [("term", 1)]) (g := gName 1) (tt := tYes) (te := tCall spTermText [] E0 (tCons (tVar 1) tNil)) rfl scAtomText.nd (pi_tup (pe_slice sl_tup (pv 0) (po_some pe_int) po_none)) (blkOk_by (N := ["atom", "term"]) (sc := defScope sAtomText) (by decide +kernel)) (fun _ _ _ _ _ => pg_name (i := 1) scAtomText.nd rfl (Or.inl rfl))
        (fun _ _ _ _ _ => pts_nil) (fun _ _ _ _ _ => pe_call GT hr (by rfl) mT kT bT .nil pass0 (pa_cons (pv 1) pa_nil))) pa_nil))) pa_nil))), ?_⟩
  have big : (10000 : Nat) ≤ sizeLine := by decide
  have xl := A1.len
  have o2 := ok.two
  refine ⟨rfl, _, rfl, p, _, _, _, rfl, rfl, .inl (.inl hp), at_of (j := 0) rfl rfl, _, rfl, 1, rfl, p, _, rfl, .inl (.inl hp), cut_part _ _, fun g hg => ?_⟩
  rw [cut_tail]
  have s2 := same_new hg (.tup xs)
  refine ⟨g, rfl, ⟨_, .inl (.inl upd_same)⟩, fun D hD => lc_tup (K := K) (a := g) (xs := xs) (fun i H2 => H2 D = some (.lst (((a.ts.take i).map Tm.txt).map V.str)) ∧ Same (upd H g (.tup xs)) H2) ⟨upd_same, same_new hD _⟩ (fun i H2 _ h => .inl (.inl (h.2 _ _ upd_same))) ?_ ?_⟩
  · rintro i x H2 hi ⟨h2, s3⟩
    obtain ⟨t, ht, T⟩ := A1.get hi
    obtain ⟨sm, sz⟩ := ok.sm t (List.mem_of_getElem? ht)
    refine ⟨rfl, ?_⟩
    refine ⟨_, rfl, x, t, rfl, (T.same s2).same s3, sm, by omega, fun H3 s4 => ⟨_, s4 _ _ h2, ?_, ?_, ?_⟩⟩
    · rw [List.length_map, List.length_map, List.length_take]; omega
    · have tk : a.ts.take (i + 1) = a.ts.take i ++ [t] := by rw [List.take_add_one, ht]; rfl
      rw [upd_same, tk, List.map_append, List.map_append]; rfl
    · intro c o z
      rw [upd_ne (ne_of_none z hD)]
      exact s4 _ _ (s3 _ _ z)
  · rintro H2 ⟨h2, s3⟩
    rw [xl, List.take_of_length_le (Nat.le_refl _)] at h2
    refine ⟨D, _, rfl, .inr (.inl (.inl h2)), ?_⟩
    have ps := parts_sum ok
    have l1 : (" " : Str).length = 1 := by decide +kernel
    have e : [V.str a.nm] ++ ((a.ts.map Tm.txt).map V.str ++ []) = (parts a).map V.str := by simp [parts]
    refine ⟨?_, fun l hl => ?_⟩
    · simp; omega
    · have s4 := same_new hl (.lst ((parts a).map V.str))
      refine ⟨" ", l, parts a, rfl, rfl, .inl (.inl (.inl ?_)), by rw [l1]; omega, ?_⟩
      · rw [upd_same]; simp [parts]
      · exact q _ (s2.trans (Same.trans (H1 := H2) s3 (same_new hl _)))
end
end Rp

set_option maxHeartbeats 8000000
namespace Rp
open PySem PySem.Spec PyProof.Rows L2 TL StX
def btxt (as : List At) : Str := Txt.join ", " (as.map atxt)
def spAtomsText : Sp := fun vs H Q _ => ∃ (q : Addr) (xs : List V) (as : List At), vs = [.ref q] ∧ H q = some (.tup xs) ∧ AtsAt H xs as ∧ AtsOk as ∧ ∀ H', Same H H' → Q (.str (btxt as)) H'
theorem btxt_sum {as : List At} (ok : AtsOk as) : ((as.map atxt).map (·.length)).sum ≤ 500 * as.length := by
  have each : ∀ l : List At, (∀ a ∈ l, AtOk 50 a) → ((l.map atxt).map (·.length)).sum ≤ 500 * l.length := by
    intro l
    induction l with
    | nil => intro _; simp
    | cons a l ih =>
      intro h
      have h1 := atxt_len (h a (by simp))
      have h2 := ih fun b hb => h b (by simp [hb])
      simp only [List.map_cons, List.sum_cons, List.length_cons] at h2 ⊢
      omega
  exact each as ok.ok
theorem btxt_len {as : List At} (ok : AtsOk as) : (btxt as).length ≤ 3012 := by
  unfold btxt
  have jl := StrLaws.join_length_le ", " (as.map atxt)
  have l1 : (", " : Str).length = 2 := by decide +kernel
  rw [l1, List.length_map] at jl
  have h1 := btxt_sum ok
  have h2 := ok.few
  rw [join_eq]
  omega
section
variable {P : Program} {w : World} {K : PySem.W.Frag} {mg : Str → Option Value} {base : Heap}
theorem scAtomsText : FnScope ["atoms", "atom"] ["atoms"] (defScope sAtomsText) := ⟨rfl, rfl, rfl, by decide +kernel, rfl, by decide +kernel, by decide +kernel⟩
theorem ok_atomstext {f fA : Addr} {fd dA : FuncData} (F : Fun K "atoms_text" "atoms_text" sAtomsText f fd)
    (GA : FnOk P w K mg base CX0 5 fA dA ["atom"] spAtomText) (kA : PySem.W.keepIn K (.ref fA) = true) (bA : Binds K dA ["atom"] []) (mA : mg "atom_text" = some (.ref fA)) : FnOk P w K mg base CX0 6 f fd ["atoms"] spAtomsText := by
  refine F.ok scAtomsText (fun vs H Q E h => ?_) (fun cdv A outer s H vs Q E hr h => ?_)
  · obtain ⟨q, xs, as, rfl, _⟩ := h
    rfl
  obtain ⟨q, xs, as, rfl, hq, A2, ok, fin⟩ := h
  refine ⟨_, pss_one (ps_ret (pe_bm PySem.F.plainAttrs_str PySem.F.slot_str_join PySem.F.type_str_join mt_join pe_str (pa_cons
      (pe_lc (own := [("atom", 1)]) (g := gName 1) (tt := tYes) (te := tCall spAtomText [] E0 (tCons (tVar 1) tNil)) rfl scAtomsText.nd (pi_tup (pv 0)) (blkOk_by (N := ["atoms", "atom"]) (sc := defScope sAtomsText) (by decide +kernel)) (fun _ _ _ _ _ => pg_name (i := 1) scAtomsText.nd rfl (Or.inl rfl))
        (fun _ _ _ _ _ => pts_nil) (fun _ _ _ _ _ => pe_call GA hr (by rfl) mA kA bA .nil pass0 (pa_cons (pv 1) pa_nil))) pa_nil))), ?_⟩
  have big : (10000 : Nat) ≤ sizeLine := by decide
  have xl := A2.len
  have o3 := ok.few
  refine ⟨rfl, _, rfl, q, rfl, ⟨_, .inl (.inl hq)⟩, fun D hD => lc_tup (K := K) (a := q) (xs := xs) (fun i H2 => H2 D = some (.lst (((as.take i).map atxt).map V.str)) ∧ Same H H2) ⟨upd_same, same_new hD _⟩ (fun i H2 _ h => .inl (.inl (h.2 _ _ hq))) ?_ ?_⟩
  · rintro i x H2 hi ⟨h2, s3⟩
    obtain ⟨a, ha, T⟩ := A2.get hi
    have li : i < as.length := (List.getElem?_eq_some_iff.mp ha).1
    refine ⟨rfl, ?_⟩
    refine ⟨_, rfl, x, a, rfl, atAt_same T s3, ok.ok a (List.mem_of_getElem? ha), fun H3 s4 => ⟨_, s4 _ _ h2, ?_, ?_, ?_⟩⟩
    · rw [List.length_map, List.length_map, List.length_take]; omega
    · have tk : as.take (i + 1) = as.take i ++ [a] := by rw [List.take_add_one, ha]; rfl
      rw [upd_same, tk, List.map_append, List.map_append]; rfl
    · intro c o z
      rw [upd_ne (ne_of_none z hD)]
      exact s4 _ _ (s3 _ _ z)
  · rintro H2 ⟨h2, s2⟩
    rw [show as.take xs.length = as from by rw [xl]; exact List.take_length] at h2
    have bs := btxt_sum ok
    have l2 : (", " : Str).length = 2 := by decide +kernel
    exact ⟨", ", D, as.map atxt, rfl, rfl, .inl (.inl (.inl h2)), by rw [l2, List.length_map]; omega, fin H2 s2⟩
end
end Rp

set_option maxHeartbeats 8000000
/-! Texts cut at a separator of more than one sign. -/
namespace Rp
open PySem PySem.Spec PyProof.Rows L2 TL StX
/-- each s has a sign behind it, and not n -/
def Fol (s n : Nat) : List Nat → Prop
  | [] => True
  | [c] => c ≠ s
  | c :: d :: r => (c = s → d ≠ n) ∧ Fol s n (d :: r)
theorem fol_free {s n : Nat} : ∀ {p : List Nat}, s ∉ p → Fol s n p
  | [], _ => trivial
  | [c], h => fun e => h (by simp [e])
  | c :: d :: r, h => ⟨fun e => absurd (by simp [e] : s ∈ c :: d :: r) h, fol_free fun z => h (List.mem_cons_of_mem _ z)⟩
theorem fol_append {s n : Nat} : ∀ {p q : List Nat}, Fol s n p → Fol s n q → Fol s n (p ++ q)
  | [], _, _, h => h
  | [c], [], h, _ => h
  | [c], d :: q, h, h' => ⟨fun e => absurd e h, h'⟩
  | c :: d :: r, q, h, h' => ⟨h.1, fol_append (p := d :: r) h.2 h'⟩
theorem fol_cons {s n c : Nat} {q : List Nat} (hc : c ≠ n) (h : Fol s n (c :: q)) : Fol s n (s :: c :: q) := ⟨fun _ => hc, h⟩
theorem fol_pre {s n : Nat} {S q : List Nat} : ∀ {p : List Nat}, Fol s n p → ∀ i, i < p.length → pre (s :: n :: S) ((p ++ q).drop i) = false
  | [c], h, 0, _ => pre_of_head _ _ h
  | c :: d :: r, h, 0, _ => by
    by_cases e : c = s
    · have hd := h.1 e
      subst e
      show (List.take (c :: n :: S).length (c :: d :: (r ++ q)) == c :: n :: S) = false
      rw [beq_eq_false_iff_ne]
      intro z
      rw [List.length_cons, List.length_cons, List.take_succ_cons, List.take_succ_cons] at z
      exact hd (by injection z with _ z; injection z)
    · exact pre_of_head _ _ e
  | c :: d :: r, h, i + 1, hi => by
    have := fol_pre (S := S) (q := q) h.2 i (by simpa using hi)
    simpa using this
  | [c], h, i + 1, hi => by simp at hi
theorem partition_fol {y : Str} {s n : Nat} {S : List Nat} (ey : tl y = s :: n :: S) {a b : Str} (h : Fol s n (tl a)) : Txt.partition (a ++ y ++ b) y = (a, y, b) := by
  rw [partition_par _ y (by rw [ey]; simp), tl_append, tl_append, List.append_assoc, ey, par_part (by simp) (fol_pre h)]
  show ((⟨([] ++ tl a).toArray⟩ : Str), y, (⟨(tl b).toArray⟩ : Str)) = _
  rw [List.nil_append, mk_tl, mk_tl]
theorem fol_pre0 {s n : Nat} {S : List Nat} {p : List Nat} (h : Fol s n p) : ∀ i, i < p.length → pre (s :: n :: S) (p.drop i) = false := fun i hi => by
  have := fol_pre (S := S) (q := []) h i hi
  rwa [List.append_nil] at this
theorem partition_nofol {y : Str} {s n : Nat} {S : List Nat} (ey : tl y = s :: n :: S) {a : Str} (h : Fol s n (tl a)) : Txt.partition a y = (a, Str.empty, Str.empty) := by
  rw [partition_par _ y (by rw [ey]; simp), ey, par_none (fol_pre0 h)]
theorem spl_fol {s n : Nat} {S : List Nat} : ∀ {parts : List (List Nat)}, parts ≠ [] → (∀ p ∈ parts, Fol s n p) → spl (s :: n :: S) 0 [] (joinL (s :: n :: S) parts) = parts
  | [], h, _ => absurd rfl h
  | [p], _, hp => by
    show spl (s :: n :: S) 0 [] p = [p]
    rw [spl_last (fol_pre0 (hp p (List.mem_singleton.mpr rfl))), List.nil_append]
  | p :: q :: r, _, hp => by
    show spl (s :: n :: S) 0 [] (p ++ (s :: n :: S ++ joinL (s :: n :: S) (q :: r))) = p :: q :: r
    rw [spl_part (by simp) (fol_pre (hp p (List.mem_cons_self ..))), List.nil_append, spl_fol (by simp) fun z hz => hp z (List.mem_cons_of_mem _ hz)]
theorem split_fol {y : Str} {s n : Nat} {S : List Nat} (ey : tl y = s :: n :: S) (hk : y.cps.all (· < 256) = true) {parts : List Str} (hne : parts ≠ []) (hp : ∀ p ∈ parts, Fol s n (tl p)) :
    Txt.split (Txt.join y parts) y = parts := by
  refine map_tl_inj ?_
  rw [split_spl _ y (by rw [ey]; simp) (kind_ok hk), join_eq, tl_join, ey]
  refine spl_fol (fun e => hne (List.map_eq_nil_iff.mp e)) fun p h => ?_
  obtain ⟨z, hz, rfl⟩ := List.mem_map.mp h
  exact hp z hz
/-! The texts of terms and atoms. -/
theorem txt_head : ∀ t : Tm, ∃ c q, tl t.txt = c :: q ∧ c ≠ 105 ∧ c ≠ 32
  | .v n => ⟨120, tl (Str.ofString (toString n)), by show tl (("x" : Str) ++ Str.ofString (toString n)) = _; rw [tl_append, t_x]; rfl, by decide, by decide⟩
  | .z => ⟨48, [], t_0, by decide, by decide⟩
  | .s t => ⟨115, tl ("(" ++ Txt.join "," [t.txt] ++ ")"), by show tl (("s" : Str) ++ "(" ++ Txt.join "," [t.txt] ++ ")") = _; simp only [tl_append, t_s]; rfl, by decide, by decide⟩
  | .f l r => ⟨102, tl ("(" ++ Txt.join "," [l.txt, r.txt] ++ ")"), by show tl (("f" : Str) ++ "(" ++ Txt.join "," [l.txt, r.txt] ++ ")") = _; simp only [tl_append, t_f]; rfl, by decide, by decide⟩
theorem txt_fol : ∀ (t : Tm), t.small → Fol 44 32 (tl t.txt)
  | .v n, h => by
    show Fol 44 32 (tl (("x" : Str) ++ Str.ofString (toString n)))
    rw [tl_append, t_x, tl_int (h n (by simp [Tm.nums])).1]
    refine fol_free fun hd => ?_
    rcases List.mem_append.mp hd with hd | hd
    · simp at hd
    · have := numL_small _ _ hd; omega
  | .z, h => by
    show Fol 44 32 (tl ("0" : Str))
    rw [t_0]
    exact fol_free (by simp)
  | .s t, h => by
    show Fol 44 32 (tl (("s" : Str) ++ "(" ++ Txt.join "," [t.txt] ++ ")"))
    rw [join1, tl_append, tl_append, tl_append, t_s, t_open, t_close]
    exact fol_append (fol_append (fol_free (by simp)) (txt_fol t h)) (fol_free (by simp))
  | .f l r, h => by
    show Fol 44 32 (tl (("f" : Str) ++ "(" ++ Txt.join "," [l.txt, r.txt] ++ ")"))
    rw [join2, tl_append, tl_append, tl_append, tl_append, tl_append, t_f, t_open, t_close, t_comma]
    have hl := txt_fol l (fun n hn => h n (by simp [Tm.nums, hn]))
    have hr := txt_fol r (fun n hn => h n (by simp [Tm.nums, hn]))
    obtain ⟨c, q, e, _, c2⟩ := txt_head r
    have hc : Fol 44 32 ([44] ++ tl r.txt) := by
      rw [e] at hr ⊢
      exact fol_cons c2 hr
    rw [List.append_assoc (tl l.txt)]
    exact fol_append (fol_append (fol_free (by simp)) (fol_append hl hc)) (fol_free (by simp))
theorem join_parts (x : Str) : ∀ l : List Str, tl (Txt.join " " (x :: l)) = tl x ++ l.flatMap fun p => 32 :: tl p
  | [] => by rw [join1]; simp
  | y :: l => by
    have ih := join_parts y l
    rw [TL.join_eq] at ih ⊢
    show tl (x ++ " " ++ Str.join " " (y :: l)) = _
    rw [tl_append, tl_append, ih, t_sp]
    simp
theorem atxt_tl (a : At) : tl (atxt a) = tl a.nm ++ a.ts.flatMap fun t => 32 :: tl t.txt := by
  unfold atxt parts
  rw [join_parts, List.flatMap_map]
theorem atxt_if {z : Nat} {a : At} (ok : AtOk z a) : Fol 32 105 (tl (atxt a)) := by
  rw [atxt_tl]
  refine fol_append (fol_free fun hd => ?_) ?_
  · have := ok.nm.low _ hd; omega
  · have each : ∀ l : List Tm, (∀ t ∈ l, t.small) → Fol 32 105 (l.flatMap fun t => 32 :: tl t.txt) := by
      intro l
      induction l with
      | nil => intro _; trivial
      | cons t l ih =>
        intro h
        rw [List.flatMap_cons]
        refine fol_append ?_ (ih fun u hu => h u (by simp [hu]))
        obtain ⟨c, q, e, c1, _⟩ := txt_head t
        have lo : Fol 32 105 (tl t.txt) := fol_free fun hd => by have := txt_low t (h t (by simp)) _ hd; omega
        rw [e] at lo ⊢
        exact fol_cons c1 lo
    exact each a.ts fun t ht => (ok.sm t ht).1
theorem atxt_com {z : Nat} {a : At} (ok : AtOk z a) : Fol 44 32 (tl (atxt a)) := by
  rw [atxt_tl]
  refine fol_append (fol_free fun hd => ?_) ?_
  · have := ok.nm.low _ hd; omega
  · have each : ∀ l : List Tm, (∀ t ∈ l, t.small) → Fol 44 32 (l.flatMap fun t => 32 :: tl t.txt) := by
      intro l
      induction l with
      | nil => intro _; trivial
      | cons t l ih =>
        intro h
        rw [List.flatMap_cons]
        exact fol_append (p := [32] ++ tl t.txt) (fol_append (fol_free (by simp)) (txt_fol t (h t (by simp)))) (ih fun u hu => h u (by simp [hu]))
    exact each a.ts fun t ht => (ok.sm t ht).1
theorem t_if : tl (" if " : Str) = [32, 105, 102, 32] := by decide +kernel
theorem t_cs : tl (", " : Str) = [44, 32] := by decide +kernel
end Rp

set_option maxHeartbeats 8000000
/-! SAYINGs' texts. -/
namespace Rp
open PySem PySem.Spec PyProof.Rows L2 TL StX
theorem starts_app (b r : Str) : Txt.startswith (b ++ r) b = true := by
  unfold Txt.startswith
  rw [PySem.StrLaws.subAt_eq, Bool.and_eq_true]
  refine ⟨decide_eq_true (by rw [slen]; omega), ?_⟩
  rw [beq_iff_eq]
  show List.take b.length ((tl (b ++ r)).drop 0) = tl b
  rw [tl_append, List.drop_zero, show b.length = (tl b).length from len_tl b]
  simp
theorem starts_no {a b : Str} {c d : Nat} {p q : List Nat} (ha : tl a = c :: p) (hb : tl b = d :: q) (ne : c ≠ d) : Txt.startswith a b = false := by
  unfold Txt.startswith
  rw [PySem.StrLaws.subAt_eq, Bool.and_eq_false_iff]
  refine .inr ?_
  rw [beq_eq_false_iff_ne]
  intro e
  have e : List.take b.length ((tl a).drop 0) = tl b := e
  rw [List.drop_zero, show b.length = (tl b).length from len_tl b, ha, hb, List.length_cons, List.take_succ_cons] at e
  injection e with e1
  exact ne e1
theorem cutS_app (b r : Str) : cutS (b ++ r) (some ((b.length : Nat) : Int)) none = r := by
  refine ext_tl ?_
  have e : tl (cutS (b ++ r) (some ((b.length : Nat) : Int)) none) = ((tl (b ++ r)).drop (HT.sIx (b ++ r).length 0 (some ((b.length : Nat) : Int)))).take (HT.sIx (b ++ r).length (b ++ r).length none - HT.sIx (b ++ r).length 0 (some ((b.length : Nat) : Int))) := rfl
  rw [e, HT.sIx_none, HT.sIx_nat, tl_append, slen, Nat.min_eq_left (by omega), show b.length = (tl b).length from len_tl b, List.drop_left, show r.length = (tl r).length from len_tl r]
  rw [show (tl b).length + (tl r).length - (tl b).length = (tl r).length by omega, List.take_length]
theorem txt_head2 : ∀ t : Tm, ∃ c q, tl t.txt = c :: q ∧ (c = 120 ∨ c = 48 ∨ c = 115 ∨ c = 102)
  | .v n => ⟨120, tl (Str.ofString (toString n)), by show tl (("x" : Str) ++ Str.ofString (toString n)) = _; rw [tl_append, t_x]; rfl, by decide⟩
  | .z => ⟨48, [], t_0, by decide⟩
  | .s t => ⟨115, tl ("(" ++ Txt.join "," [t.txt] ++ ")"), by show tl (("s" : Str) ++ "(" ++ Txt.join "," [t.txt] ++ ")") = _; simp only [tl_append, t_s]; rfl, by decide⟩
  | .f l r => ⟨102, tl ("(" ++ Txt.join "," [l.txt, r.txt] ++ ")"), by show tl (("f" : Str) ++ "(" ++ Txt.join "," [l.txt, r.txt] ++ ")") = _; simp only [tl_append, t_f]; rfl, by decide⟩
theorem atxt_head {a : At} (ok : AtOk 50 a) : ∃ c q, tl (atxt a) = c :: q ∧ 97 ≤ c ∧ c ≤ 122 := by
  rw [atxt_tl]
  have h1 := ok.nm.pos
  rw [show a.nm.length = (tl a.nm).length from len_tl a.nm] at h1
  cases e : tl a.nm with
  | nil => rw [e] at h1; simp at h1
  | cons c q =>
    have := ok.nm.low c (by rw [e]; simp)
    exact ⟨c, q ++ a.ts.flatMap fun t => 32 :: tl t.txt, rfl, this.1, this.2⟩
theorem atxt_fol {a : At} (ok : AtOk 50 a) {n : Nat} (hn : n = 124 ∨ n = 59) : Fol 32 n (tl (atxt a)) := by
  rw [atxt_tl]
  refine fol_append (fol_free fun hd => ?_) ?_
  · have := ok.nm.low _ hd; omega
  · have each : ∀ l : List Tm, (∀ t ∈ l, t.small) → Fol 32 n (l.flatMap fun t => 32 :: tl t.txt) := by
      intro l
      induction l with
      | nil => intro _; trivial
      | cons t l ih =>
        intro h
        rw [List.flatMap_cons]
        refine fol_append ?_ (ih fun u hu => h u (by simp [hu]))
        obtain ⟨c, q, e, c1⟩ := txt_head2 t
        have lo : Fol 32 n (tl t.txt) := fol_free fun hd => by have := txt_low t (h t (by simp)) _ hd; omega
        rw [e] at lo ⊢
        exact fol_cons (by omega) lo
    exact each a.ts fun t ht => (ok.sm t ht).1
theorem btxt_cons (a b : At) (l : List At) : tl (btxt (a :: b :: l)) = tl (atxt a) ++ [44, 32] ++ tl (btxt (b :: l)) := by
  unfold btxt
  rw [TL.join_eq, TL.join_eq]
  show tl (atxt a ++ ", " ++ Str.join ", " ((b :: l).map atxt)) = _
  rw [tl_append, tl_append, t_cs]
theorem btxt_one (a : At) : btxt [a] = atxt a := join1 _ _
theorem btxt_head : ∀ {as : List At}, AtsOk as → as ≠ [] → ∃ c q, tl (btxt as) = c :: q ∧ 97 ≤ c ∧ c ≤ 122
  | [a], ok, _ => by rw [btxt_one]; exact atxt_head (ok.ok a (by simp))
  | a :: b :: l, ok, _ => by
    obtain ⟨c, q, e, h1, h2⟩ := atxt_head (ok.ok a (by simp))
    rw [btxt_cons, e]
    exact ⟨c, q ++ [44, 32] ++ tl (btxt (b :: l)), by simp, h1, h2⟩
theorem btxt_fol {n : Nat} (hn : n = 124 ∨ n = 59) : ∀ {as : List At}, AtsOk as → as ≠ [] → Fol 32 n (tl (btxt as))
  | [a], ok, _ => by rw [btxt_one]; exact atxt_fol (ok.ok a (by simp)) hn
  | a :: b :: l, ok, _ => by
    have ok2 : AtsOk (b :: l) := ⟨by have := ok.few; simp only [List.length_cons] at this ⊢; omega, fun x hx => ok.ok x (by simp at hx ⊢; exact .inr hx)⟩
    have ih := btxt_fol hn ok2 (by simp)
    obtain ⟨c, q, e, h1, h2⟩ := btxt_head ok2 (by simp)
    rw [btxt_cons, List.append_assoc]
    refine fol_append (atxt_fol (ok.ok a (by simp)) hn) (fol_append (p := [44]) (q := [32] ++ tl (btxt (b :: l))) (fol_free (by simp)) ?_)
    rw [e] at ih ⊢
    exact fol_cons (by omega) ih
def sytxt (s : Sy) : Str := if s.hs = [] then "|- " ++ atxt s.gl else btxt s.hs ++ " |- " ++ atxt s.gl
theorem t_bare : tl ("|- " : Str) = [124, 45, 32] := by decide +kernel
theorem t_part : tl (" |- " : Str) = [32, 124, 45, 32] := by decide +kernel
theorem t_semi : tl (" ; " : Str) = [32, 59, 32] := by decide +kernel
theorem l_bare : ("|- " : Str).length = 3 := by decide +kernel
theorem l_part : (" |- " : Str).length = 4 := by decide +kernel
theorem sytxt_fol {s : Sy} (ok : SyOk s) : Fol 32 59 (tl (sytxt s)) := by
  obtain ⟨c, q, e, h1, h2⟩ := atxt_head ok.gl
  have g := atxt_fol ok.gl (.inr rfl : (59 : Nat) = 124 ∨ 59 = 59)
  have g2 : Fol 32 59 ([32] ++ tl (atxt s.gl)) := by
    rw [e] at g ⊢
    exact fol_cons (by omega) g
  unfold sytxt
  split
  · rw [tl_append, t_bare]
    exact fol_append (p := [124, 45]) (q := [32] ++ tl (atxt s.gl)) (fol_free (by simp)) g2
  · rename_i ne
    rw [tl_append, tl_append, t_part, List.append_assoc]
    refine fol_append (btxt_fol (.inr rfl) ok.hs ne) (fol_append (p := [32, 124, 45]) (q := [32] ++ tl (atxt s.gl)) ?_ g2)
    exact ⟨fun _ => by decide, ⟨fun h => by omega, by show (45 : Nat) ≠ 32; decide⟩⟩
theorem sytxt_len {s : Sy} (ok : SyOk s) : (sytxt s).length ≤ 3600 := by
  have h1 := atxt_len ok.gl
  have h2 := btxt_len ok.hs
  unfold sytxt
  split
  · rw [slen, l_bare]; omega
  · rw [slen, slen, l_part]; omega
theorem sytxt_bare {s : Sy} (e : s.hs = []) : sytxt s = "|- " ++ atxt s.gl := if_pos e
theorem sytxt_some {s : Sy} (e : s.hs ≠ []) : sytxt s = btxt s.hs ++ " |- " ++ atxt s.gl := if_neg e
theorem sytxt_starts {s : Sy} (ok : SyOk s) : Txt.startswith (sytxt s) "|- " = decide (s.hs = []) := by
  by_cases e : s.hs = []
  · rw [decide_eq_true e, sytxt_bare e]
    exact starts_app _ _
  · rw [decide_eq_false e, sytxt_some e]
    obtain ⟨c, q, h, h1, h2⟩ := btxt_head ok.hs e
    refine starts_no (c := c) (p := q ++ [32, 124, 45, 32] ++ tl (atxt s.gl)) ?_ t_bare (by omega)
    rw [tl_append, tl_append, t_part, h]
    simp
theorem sytxt_parts {s : Sy} (ok : SyOk s) (e : s.hs ≠ []) : Txt.partition (sytxt s) " |- " = (btxt s.hs, (" |- " : Str), atxt s.gl) := by
  rw [sytxt_some e]
  exact partition_fol t_part (btxt_fol (.inl rfl) ok.hs e)
/-- signs from the blank on, but the line feed -/
def Rowy (x : Str) : Prop := ∀ d ∈ tl x, 32 ≤ d
theorem rowy_app {a b : Str} (ha : Rowy a) (hb : Rowy b) : Rowy (a ++ b) := fun d hd => by
  rw [tl_append] at hd
  rcases List.mem_append.mp hd with hd | hd
  · exact ha d hd
  · exact hb d hd
theorem atxt_rowy {a : At} (ok : AtOk 50 a) : Rowy (atxt a) := by
  intro d hd
  rw [atxt_tl] at hd
  rcases List.mem_append.mp hd with hd | hd
  · have := ok.nm.low d hd; omega
  · obtain ⟨t, ht, hd⟩ := List.mem_flatMap.mp hd
    rcases List.mem_cons.mp hd with rfl | hd
    · omega
    · have := txt_low t (ok.sm t ht).1 d hd; omega
theorem btxt_rowy : ∀ {as : List At}, (∀ a ∈ as, AtOk 50 a) → Rowy (btxt as)
  | [], _ => fun d hd => by
    have e : tl (btxt []) = [] := by decide +kernel
    rw [e] at hd; simp at hd
  | [a], ok => by rw [btxt_one]; exact atxt_rowy (ok a (by simp))
  | a :: b :: l, ok => fun d hd => by
    rw [btxt_cons] at hd
    rcases List.mem_append.mp hd with hd | hd
    · rcases List.mem_append.mp hd with hd | hd
      · exact atxt_rowy (ok a (by simp)) d hd
      · simp at hd; omega
    · exact btxt_rowy (as := b :: l) (fun x hx => ok x (by simp at hx ⊢; exact .inr hx)) d hd
theorem rowy_of {x : Str} {l : List Nat} (e : tl x = l) (h : ∀ d ∈ l, 32 ≤ d) : Rowy x := fun d hd => h d (by rw [← e]; exact hd)
theorem sytxt_rowy {s : Sy} (ok : SyOk s) : Rowy (sytxt s) := by
  unfold sytxt
  split
  · exact rowy_app (rowy_of t_bare (by decide)) (atxt_rowy ok.gl)
  · exact rowy_app (rowy_app (btxt_rowy ok.hs.ok) (rowy_of t_part (by decide))) (atxt_rowy ok.gl)
def spSayingText : Sp := fun vs H Q _ => ∃ (v : V) (s : Sy), vs = [v] ∧ SyAt H v s ∧ SyOk s ∧ ∀ H', Same H H' → Q (.str (sytxt s)) H'
section
variable {P : Program} {w : World} {K : PySem.W.Frag} {mg : Str → Option Value} {base : Heap}
theorem scSayingText : FnScope ["saying", "hyps", "goal"] ["saying"] (defScope sSayingText) := ⟨rfl, rfl, rfl, by decide +kernel, rfl, by decide +kernel, by decide +kernel⟩
theorem ok_sayingtext {f fA fB : Addr} {fd dA dB : FuncData} {t1 t2 : Tok} (F : Fun K "saying_text" "saying_text" sSayingText f fd)
    (GA : FnOk P w K mg base CX0 5 fA dA ["atom"] spAtomText) (kA : PySem.W.keepIn K (.ref fA) = true) (bA : Binds K dA ["atom"] []) (mA : mg "atom_text" = some (.ref fA))
    (GB : FnOk P w K mg base CX0 6 fB dB ["atoms"] spAtomsText) (kB : PySem.W.keepIn K (.ref fB) = true) (bB : Binds K dB ["atoms"] []) (mB : mg "atoms_text" = some (.ref fB))
    (mBare : mg "BARE" = some (.str "|- " t1)) (mPart : mg "PARTING" = some (.str " |- " t2)) : FnOk P w K mg base CX0 7 f fd ["saying"] spSayingText := by
  refine F.ok scSayingText (fun vs H Q E h => ?_) (fun cdv A outer s H vs Q E hr h => ?_)
  · obtain ⟨v, s, rfl, _⟩ := h
    rfl
  obtain ⟨v, s, rfl, ⟨p, q, vg, xs, rfl, hp, hq, A1, Ag⟩, ok, fin⟩ := h
  have r5 : Room 5 _ := hr.mono (by decide)
  refine ⟨_, pss_cons (ps_asg (pv 0) (pg_tup (by rfl) (pgs_cons (pg_name (i := 1) scSayingText.nd rfl (Or.inl rfl)) (pgs_cons (pg_name (i := 2) scSayingText.nd rfl (Or.inl rfl)) pgs_nil))))
    (pss_cons (ps_if (pt_not (pt_truth (pv 1) (by intro _; rfl))) (pss_one (ps_ret (pe_op op_add_str (pe_glob (v := .str "|- ") (by rfl) mBare ⟨_, rfl⟩) (pe_call GA r5 rfl mA kA bA .nil pass0 (pa_cons (pv 2) pa_nil))))) pss_nil)
    (pss_one (ps_ret (pe_op op_add_str (pe_op op_add_str (pe_call GB hr rfl mB kB bB .nil pass0 (pa_cons (pv 1) pa_nil)) (pe_glob (v := .str " |- ") (by rfl) mPart ⟨_, rfl⟩)) (pe_call GA r5 rfl mA kA bA .nil pass0 (pa_cons (pv 2) pa_nil)))))), ?_⟩
  have big : (10000 : Nat) ≤ sizeLine := by decide
  have xl := A1.len
  have hl := atxt_len ok.gl
  have bl := btxt_len ok.hs
  refine ⟨_, rfl, p, _, rfl, .inl (.inl hp), rfl, _, _, rfl, _, _, rfl, rfl, ?_⟩
  refine ⟨_, rfl, _, .inr (.inl ⟨_, .inl (.inl hq), rfl⟩), ?_⟩
  by_cases e : s.hs = []
  · obtain rfl : xs = [] := List.length_eq_zero_iff.mp (by rw [xl, e]; rfl)
    refine iteT ⟨_, rfl, vg, s.gl, rfl, Ag, ok.gl, fun H1 s1 => ⟨_, _, rfl, rfl, by rw [l_bare]; omega, ?_⟩⟩
    rw [← sytxt_bare e]
    exact fin H1 s1
  · obtain ⟨x0, xs0, rfl⟩ : ∃ x0 xs0, xs = x0 :: xs0 := by
      cases xs with
      | nil => exact absurd (List.length_eq_zero_iff.mp (by rw [← xl]; rfl)) e
      | cons x0 xs0 => exact ⟨x0, xs0, rfl⟩
    refine iteF ⟨_, rfl, q, _, s.hs, rfl, hq, A1, ok.hs, fun H1 s1 => ⟨_, _, rfl, rfl, by rw [l_part]; omega, ?_⟩⟩
    refine ⟨_, rfl, vg, s.gl, rfl, atAt_same Ag s1, ok.gl, fun H2 s2 => ⟨_, _, rfl, rfl, by rw [slen, l_part]; omega, ?_⟩⟩
    rw [← sytxt_some e]
    exact fin H2 (s1.trans s2)
end
end Rp

set_option maxHeartbeats 16000000
/-! The law's own texts: terms, atoms. -/
namespace Rp
open PySem PySem.Spec PyProof.Rows L2 TL StX
def spLText (n : Nat) : Sp := fun vs H Q _ => ∃ (v : V) (t : Tm), vs = [v] ∧ TmAt H v t ∧ t.small ∧ t.size ≤ 1000 ∧ t.deep < n ∧ ∀ H', Same H H' → Q (.str t.txt) H'
theorem kid_nums {t k : Tm} (h : k ∈ t.kids) : ∀ n ∈ k.nums, n ∈ t.nums := by
  cases t with
  | v n => simp [Tm.kids] at h
  | z => simp [Tm.kids] at h
  | s t => simp [Tm.kids] at h; subst h; exact fun n hn => hn
  | f l r =>
    simp [Tm.kids] at h
    rcases h with rfl | rfl
    · exact fun n hn => List.mem_append.mpr (.inl hn)
    · exact fun n hn => List.mem_append.mpr (.inr hn)
section
variable {P : Program} {w : World} {K : PySem.W.Frag} {mg : Str → Option Value} {base : Heap}
theorem str_ne0 {a : Str} (h : 1 ≤ a.length) : a ≠ ("" : Str) := by
  rintro rfl
  have : ("" : Str).length = 0 := by decide +kernel
  omega
theorem txt_pos (t : Tm) : 1 ≤ t.txt.length := by
  have e := Tm.txt_kids t
  cases t with
  | v n =>
    show 1 ≤ (("x" : Str) ++ Str.ofString (toString n)).length
    rw [slen]
    have : ("x" : Str).length = 1 := by decide +kernel
    omega
  | z => show 1 ≤ ("0" : Str).length; decide +kernel
  | s t =>
    have e : (Tm.s t).txt = ("s" : Str) ++ "(" ++ Txt.join "," [t.txt] ++ ")" := e
    rw [e, slen, slen, slen]
    have : ("s" : Str).length = 1 := by decide +kernel
    omega
  | f l r =>
    have e : (Tm.f l r).txt = ("f" : Str) ++ "(" ++ Txt.join "," [l.txt, r.txt] ++ ")" := e
    rw [e, slen, slen, slen]
    have : ("f" : Str).length = 1 := by decide +kernel
    omega
theorem scLText : FnScope ["_law_term_here", "_law_parts", "_law_part"] ["_law_term_here"] (defScope sText) := ⟨rfl, rfl, rfl, by decide +kernel, rfl, by decide +kernel, by decide +kernel⟩
theorem ok_ltext {n : Nat} {f : Addr} {fd : FuncData} (F : Fun K "_law_term_words" "_law_term_words" sText f fd) (b1 : Binds K fd ["_law_term_here"] []) (mF : mg "_law_term_words" = some (.ref f)) (G : FnOk P w K mg base CX0 n f fd ["_law_term_here"] (spLText n)) (M : SameG mg) :
    FnOk P w K mg base CX0 (n + 1) f fd ["_law_term_here"] (spLText (n + 1)) := by
  refine F.ok scLText (fun vs H Q E h => ?_) (fun cdv A outer s H vs Q E hr h => ?_)
  · obtain ⟨v, t, rfl, _⟩ := h
    rfl
  obtain ⟨v, t, rfl, T, sm, sz, dp, q⟩ := h
  refine ⟨_, pss_cons (ps_if (pt_val (pe_callB (id := "isinstance") call_isi (by rfl) M.isi (by decide +kernel) (pa_cons (pv 0) (pa_cons (pe_bltn (v := .ty "int") (by rfl) M.int (by decide +kernel) rfl) pa_nil))))
      (pss_one (ps_ret (pe_op op_add_str pe_str (pe_callTy call_str_int (by rfl) M.str (by decide +kernel) (pa_cons (pv 0) pa_nil))))) pss_nil)
    (pss_cons (ps_set (i := 1) scLText.nd rfl (Or.inl rfl) (pe_bm PySem.F.plainAttrs_str PySem.F.slot_str_join PySem.F.type_str_join mt_join pe_str (pa_cons
      (pe_lc (own := [("_law_part", 2)]) (g := gName 2) (tt := tYes) (te := tCall (spLText n) [] E0 (tCons (tVar 2) tNil)) rfl scLText.nd (pi_tup (pe_slice sl_tup (pv 0) (po_some pe_int) po_none))
        (blkOk_by (N := ["_law_term_here", "_law_parts", "_law_part"]) (sc := defScope sText) (by decide +kernel)) (fun _ _ _ _ _ => pg_name (i := 2) scLText.nd rfl (Or.inl rfl))
        (fun _ _ _ _ _ => pts_nil) (fun _ _ _ _ _ => pe_call G hr (by rfl) mF F.kp b1 .nil pass0 (pa_cons (pv 2) pa_nil))) pa_nil)))
    (pss_one (ps_ret (pe_op op_add_str (pe_ix ix_tup (pv 0) pe_int (fun _ _ => rfl)) (pe_ifExp (pt_cmpR op_ne (pv 1) pe_str (nomark _)) (pe_op op_add_str (pe_op op_add_str pe_str (pv 1)) pe_str) pe_str))))), ?_⟩
  have big : (10000 : Nat) ≤ sizeLine := by decide
  have tl0 := txt_len t sm
  rcases T.ty (K := K) with ⟨m, rfl, rfl⟩ | ⟨a, xs, rfl, ha, ty, no⟩
  · have hm := sm m (by simp [Tm.nums])
    refine ⟨_, rfl, _, _, _, _, true, rfl, .ty "int", .base (.int m), kit_ii, true, rfl, iteT ?_⟩
    refine ⟨_, rfl, m, rfl, ?_, "x", _, rfl, rfl, ?_, q H (Same.refl H)⟩
    · have := Nat.log2_le_self m.natAbs; omega
    · have := num_len hm
      have : ("x" : Str).length = 1 := by decide +kernel
      show 1 + (Str.ofString (toString m)).length ≤ _
      omega
  · obtain ⟨a', ks, e, ha', hk, hks⟩ := T.tupled no
    cases e
    refine ⟨_, rfl, _, _, _, _, false, rfl, .ty "int", ty, kit_ti, false, rfl, iteF ?_⟩
    have l3 : ("(" : Str).length = 1 := by decide +kernel
    have l4 : (")" : Str).length = 1 := by decide +kernel
    have l5 : ("," : Str).length = 1 := by decide +kernel
    have kid_ok : ∀ (x : V) (i : Nat), ks[i]? = some x → ∃ k, t.kids[i]? = some k ∧ TmAt H x k ∧ k.small ∧ k.size ≤ 1000 ∧ k.deep < n := by
      intro x i hx
      have hil : i < t.kids.length := by rw [← hk]; exact (List.getElem?_eq_some_iff.mp hx).1
      have hki : t.kids[i]? = some t.kids[i] := List.getElem?_eq_getElem hil
      have mem : t.kids[i] ∈ t.kids := List.getElem_mem hil
      have d1 := kid_deep mem
      have z1 := kid_size mem
      refine ⟨_, hki, hks i x _ hx hki, ?_, by omega, by omega⟩
      exact fun k hk' => sm k (kid_nums mem k hk')
    have hl1 : (signHead t).length = 1 := by
      cases t with
      | v n => exact absurd rfl (no n)
      | z => show ("0" : Str).length = 1; decide +kernel
      | s t => show ("s" : Str).length = 1; decide +kernel
      | f l r => show ("f" : Str).length = 1; decide +kernel
    refine ⟨rfl, _, rfl, 1, rfl, a, _, rfl, .inl (.inl ha'), cut_part _ _, fun p hp => ?_⟩
    rw [cut_tail]
    have s1 := same_new hp (.tup ks)
    refine ⟨p, rfl, ⟨_, .inl (.inl upd_same)⟩, fun D hD => lc_tup (K := K) (a := p) (xs := ks) (fun i H2 => H2 D = some (.lst (((t.kids.take i).map Tm.txt).map V.str)) ∧ Same (upd H p (.tup ks)) H2) ⟨upd_same, same_new hD _⟩ (fun i H2 _ h => .inl (.inl (h.2 _ _ upd_same))) ?_ ?_⟩
    · rintro i x H2 hi ⟨h2, s2⟩
      obtain ⟨k, hki, Tk, smk, szk, dk⟩ := kid_ok x i hi
      refine ⟨rfl, ?_⟩
      refine ⟨_, rfl, x, k, rfl, (Tk.same s1).same s2, smk, szk, dk, fun H3 s3 => ⟨_, s3 _ _ h2, ?_, ?_, ?_⟩⟩
      · rw [List.length_map, List.length_map, List.length_take]
        have : t.kids.length ≤ 2 := by cases t <;> simp [Tm.kids]
        omega
      · have tk : t.kids.take (i + 1) = t.kids.take i ++ [k] := by rw [List.take_add_one, hki]; rfl
        rw [upd_same, tk, List.map_append, List.map_append]; rfl
      · intro c o z
        rw [upd_ne (ne_of_none z hD)]
        exact s3 _ _ (s2 _ _ z)
    · rintro H2 ⟨h2, s2⟩
      rw [hk, List.take_of_length_le (Nat.le_refl _)] at h2
      have sA := s1.trans s2
      have each : ∀ k ∈ t.kids, k.txt.length ≤ 4000 := fun k hk' => by
          obtain ⟨i, hi, rfl⟩ := List.getElem_of_mem hk'
          obtain ⟨k', h1, _, h3, h4, _⟩ := kid_ok (ks[i]'(by omega)) i (List.getElem?_eq_getElem (by omega))
          rw [List.getElem?_eq_getElem hi] at h1
          cases h1
          have := txt_len _ h3
          omega
      refine ⟨",", D, t.kids.map Tm.txt, rfl, rfl, .inl (.inl (.inl h2)), ?_, ?_⟩
      · rw [l5]
        match hkk : t.kids, each with
        | [], _ => simp
        | [k], each => simp; have := each k (by simp); omega
        | [k, k'], each => simp; have := each k (by simp); have := each k' (by simp); omega
        | k :: k' :: k'' :: r, _ => cases t <;> simp [Tm.kids] at hkk
      · have ha2 := sA _ _ ha'
        refine ⟨_, rfl, a, _, _, _, rfl, rfl, .inl (.inl ha2), at_of (j := 0) rfl rfl, ?_⟩
        have done := q H2 sA
        generalize hjj : Txt.join "," (t.kids.map Tm.txt) = jj
        by_cases hz : t = .z
        · subst hz
          have ej : jj = ("" : Str) := by rw [← hjj]; decide +kernel
          subst ej
          refine ⟨_, rfl, rfl, false, by show V.bl (!decide (V.str "" = V.str "")) = _; rw [decide_eq_true rfl]; rfl, iteF ?_⟩
          refine ⟨signHead .z, "", rfl, rfl, by decide +kernel, ?_⟩
          have e0 : signHead .z ++ ("" : Str) = Tm.z.txt := by decide +kernel
          rw [e0]
          exact done
        · have pt : t.txt = signHead t ++ "(" ++ jj ++ ")" := by
            rw [Tm.txt_kids t, ← hjj]
            cases t with
            | v n => exact absurd rfl (no n)
            | z => exact absurd rfl hz
            | s t => rfl
            | f l r => rfl
          have lt := congrArg Str.length pt
          rw [slen, slen, slen] at lt
          have nz : jj ≠ ("" : Str) := by
            refine str_ne0 ?_
            rw [← hjj]
            cases t with
            | v n => exact absurd rfl (no n)
            | z => exact absurd rfl hz
            | s t => show 1 ≤ (Txt.join "," [t.txt]).length; rw [join1]; exact txt_pos t
            | f l r => show 1 ≤ (Txt.join "," [l.txt, r.txt]).length; rw [join2, slen, slen]; have := txt_pos l; omega
          refine ⟨_, rfl, rfl, true, by show V.bl (!decide (V.str jj = V.str "")) = _; rw [decide_eq_false fun z => nz (V.str.inj z)]; rfl, iteT ?_⟩
          refine ⟨_, rfl, "(", jj, rfl, rfl, by omega, ?_⟩
          refine ⟨"(" ++ jj, ")", rfl, rfl, by rw [slen]; omega, ?_⟩
          refine ⟨signHead t, "(" ++ jj ++ ")", rfl, rfl, by rw [slen, slen]; omega, ?_⟩
          have ea : signHead t ++ ("(" ++ jj ++ ")") = t.txt := by
            rw [pt]
            apply ext_tl
            simp only [tl_append, List.append_assoc]
          rw [ea]
          exact done
theorem ltext_ok {f : Addr} {fd : FuncData} (F : Fun K "_law_term_words" "_law_term_words" sText f fd) (b1 : Binds K fd ["_law_term_here"] []) (mF : mg "_law_term_words" = some (.ref f)) (M : SameG mg) : ∀ n : Nat, FnOk P w K mg base CX0 n f fd ["_law_term_here"] (spLText n)
  | 0 => none_left fun vs H Q E h => by
    obtain ⟨v, t, _, _, _, _, h, _⟩ := h
    omega
  | n + 1 => ok_ltext F b1 mF (ltext_ok F b1 mF M n) M
theorem ltext5 {f : Addr} {fd : FuncData} (F : Fun K "_law_term_words" "_law_term_words" sText f fd) (b1 : Binds K fd ["_law_term_here"] []) (mF : mg "_law_term_words" = some (.ref f)) (M : SameG mg) : FnOk P w K mg base CX0 60 f fd ["_law_term_here"] (spLText 60) := ltext_ok F b1 mF M 60
theorem scLAtom : FnScope ["_law_atom_here", "_law_term_here"] ["_law_atom_here"] (defScope sLawAT) := ⟨rfl, rfl, rfl, by decide +kernel, rfl, by decide +kernel, by decide +kernel⟩
theorem ok_latom {f fT : Addr} {fd dT : FuncData} (F : Fun K "_law_atom_words" "_law_atom_words" sLawAT f fd)
    (GT : FnOk P w K mg base CX0 60 fT dT ["_law_term_here"] (spLText 60)) (kT : PySem.W.keepIn K (.ref fT) = true) (bT : Binds K dT ["_law_term_here"] []) (mT : mg "_law_term_words" = some (.ref fT)) : FnOk P w K mg base CX0 61 f fd ["_law_atom_here"] spAtomText := by
  refine F.ok scLAtom (fun vs H Q E h => ?_) (fun cdv A outer s H vs Q E hr h => ?_)
  · obtain ⟨v, a, rfl, _⟩ := h
    rfl
  obtain ⟨v, a, rfl, ⟨p, xs, rfl, hp, A1⟩, ok, q⟩ := h
  refine ⟨_, pss_one (ps_ret (pe_bm PySem.F.plainAttrs_str PySem.F.slot_str_join PySem.F.type_str_join mt_join pe_str (pa_cons (pe_op op_cat (pe_lst (pa_cons (pe_ix ix_tup (pv 0) pe_int (fun _ _ => rfl)) pa_nil))
      (pe_lc (own := [("_law_term_here", 1)]) (g := gName 1) (tt := tYes) (te := tCall (spLText 60) [] E0 (tCons (tVar 1) tNil)) rfl scLAtom.nd (pi_tup (pe_slice sl_tup (pv 0) (po_some pe_int) po_none)) (blkOk_by (N := ["_law_atom_here", "_law_term_here"]) (sc := defScope sLawAT) (by decide +kernel)) (fun _ _ _ _ _ => pg_name (i := 1) scLAtom.nd rfl (Or.inl rfl))
        (fun _ _ _ _ _ => pts_nil) (fun _ _ _ _ _ => pe_call GT hr (by rfl) mT kT bT .nil pass0 (pa_cons (pv 1) pa_nil)))) pa_nil))), ?_⟩
  have big : (10000 : Nat) ≤ sizeLine := by decide
  have xl := A1.len
  have o2 := ok.two
  refine ⟨rfl, _, rfl, p, _, _, _, rfl, rfl, .inl (.inl hp), at_of (j := 0) rfl rfl, (by show 1 ≤ sizeLine; decide), fun c hc => ?_⟩
  have s1 := same_new hc (.lst [V.str a.nm])
  refine ⟨_, rfl, 1, rfl, p, _, rfl, .inl (.inl (s1 _ _ hp)), cut_part _ _, fun g hg => ?_⟩
  rw [cut_tail]
  have s2 := same_new hg (.tup xs)
  have hg0 : (upd (upd H c (.lst [V.str a.nm])) g (.tup xs)) g = some (.tup xs) := upd_same
  refine ⟨g, rfl, ⟨_, .inl (.inl hg0)⟩, fun D hD => lc_tup (K := K) (a := g) (xs := xs) (fun i H2 => H2 D = some (.lst (((a.ts.take i).map Tm.txt).map V.str)) ∧ Same (upd (upd H c (.lst [V.str a.nm])) g (.tup xs)) H2) ⟨upd_same, same_new hD _⟩ (fun i H2 _ h => .inl (.inl (h.2 _ _ hg0))) ?_ ?_⟩
  · rintro i x H2 hi ⟨h2, s3⟩
    obtain ⟨t, ht, T⟩ := A1.get hi
    obtain ⟨sm, sz⟩ := ok.sm t (List.mem_of_getElem? ht)
    have dl := Tm.deep_lt t
    refine ⟨rfl, ?_⟩
    refine ⟨_, rfl, x, t, rfl, ((T.same s1).same s2).same s3, sm, by omega, by omega, fun H3 s4 => ⟨_, s4 _ _ h2, ?_, ?_, ?_⟩⟩
    · rw [List.length_map, List.length_map, List.length_take]; omega
    · have tk : a.ts.take (i + 1) = a.ts.take i ++ [t] := by rw [List.take_add_one, ht]; rfl
      rw [upd_same, tk, List.map_append, List.map_append]; rfl
    · intro c o z
      rw [upd_ne (ne_of_none z hD)]
      exact s4 _ _ (s3 _ _ z)
  · rintro H2 ⟨h2, s3⟩
    rw [xl, List.take_of_length_le (Nat.le_refl _)] at h2
    have ps := parts_sum ok
    have l1 : (" " : Str).length = 1 := by decide +kernel
    refine ⟨c, D, _, _, rfl, rfl, s3 _ _ (s2 _ _ upd_same), h2, by simp; omega, fun l hl => ?_⟩
    have e : [V.str a.nm] ++ (a.ts.map Tm.txt).map V.str = (parts a).map V.str := by simp [parts]
    rw [e]
    have s4 := same_new hl (.lst ((parts a).map V.str))
    exact ⟨" ", l, parts a, rfl, rfl, .inl (.inl (.inl upd_same)), by rw [l1]; omega, q _ (s1.trans (s2.trans (Same.trans (H1 := H2) s3 s4)))⟩
end
end Rp

set_option maxHeartbeats 8000000
/-! The law's words of sayings. -/
namespace Rp
open PySem PySem.Spec PyProof.Rows L2 TL StX
theorem eq_strD {a b : Str} (h : a = b) : V.bl (!decide (V.str a = V.str b)) = V.bl false := by rw [h, decide_eq_true rfl]; rfl
theorem ne_strD {a b : Str} (h : a ≠ b) : V.bl (!decide (V.str a = V.str b)) = V.bl true := by rw [decide_eq_false fun z => h (V.str.inj z)]; rfl
theorem btxt_ne {as : List At} (ok : AtsOk as) (h : as ≠ []) : btxt as ≠ ("" : Str) := by
  obtain ⟨c, q, e, _⟩ := btxt_head ok h
  intro z
  rw [z] at e
  have : tl ("" : Str) = [] := by decide +kernel
  rw [this] at e
  cases e
def spLSay : Sp := fun vs H Q _ => ∃ (v : V) (s : Sy), vs = [v] ∧ SyAt H v s ∧ SyOk s ∧ ∀ H', Same H H' → Q (.str (sytxt s)) H'
section
variable {P : Program} {w : World} {K : PySem.W.Frag} {mg : Str → Option Value} {base : Heap}
theorem scLSay : FnScope ["_law_saying_here", "_law_ahead", "_law_hyp"] ["_law_saying_here"] (defScope sSayingW) := ⟨rfl, rfl, rfl, by decide +kernel, rfl, by decide +kernel, by decide +kernel⟩
theorem ok_lsay {f fA : Addr} {fd dA : FuncData} (F : Fun K "_law_saying_words" "_law_saying_words" sSayingW f fd)
    (GA : FnOk P w K mg base CX0 61 fA dA ["_law_atom_here"] spAtomText) (kA : PySem.W.keepIn K (.ref fA) = true) (bA : Binds K dA ["_law_atom_here"] []) (mA : mg "_law_atom_words" = some (.ref fA)) : FnOk P w K mg base CX0 62 f fd ["_law_saying_here"] spLSay := by
  refine F.ok scLSay (fun vs H Q E h => ?_) (fun cdv A outer s H vs Q E hr h => ?_)
  · obtain ⟨v, sy, rfl, _⟩ := h
    rfl
  obtain ⟨v, sy, rfl, ⟨p, g, vg, xs, rfl, hp, hg, A1, G1⟩, ok, q⟩ := h
  refine ⟨_, pss_cons (ps_set (i := 1) scLSay.nd rfl (Or.inl rfl) (pe_bm PySem.F.plainAttrs_str PySem.F.slot_str_join PySem.F.type_str_join mt_join pe_str (pa_cons
      (pe_lc (own := [("_law_hyp", 2)]) (g := gName 2) (tt := tYes) (te := tCall spAtomText [] E0 (tCons (tVar 2) tNil)) rfl scLSay.nd (pi_tup (pe_ix ix_tup (pv 0) pe_int (fun _ _ => rfl))) (blkOk_by (N := ["_law_saying_here", "_law_ahead", "_law_hyp"]) (sc := defScope sSayingW) (by decide +kernel))
        (fun _ _ _ _ _ => pg_name (i := 2) scLSay.nd rfl (Or.inl rfl)) (fun _ _ _ _ _ => pts_nil) (fun _ _ _ _ _ => pe_call GA hr (by rfl) mA kA bA .nil pass0 (pa_cons (pv 2) pa_nil))) pa_nil)))
    (pss_one (ps_ret (pe_op op_addS (pe_op op_addS (pe_ifExp (pt_cmpR op_ne (pv 1) pe_str (nomark _)) (pe_op op_addS (pv 1) pe_str) pe_str) pe_str) (pe_call GA hr (by rfl) mA kA bA .nil pass0 (pa_cons (pe_ix ix_tup (pv 0) pe_int (fun _ _ => rfl)) pa_nil))))), ?_⟩
  have big : (10000 : Nat) ≤ sizeLine := by decide
  have xl := A1.len
  have o6 := ok.hs.few
  have bl := btxt_len ok.hs
  have gl := atxt_len ok.gl
  have l2 : (", " : Str).length = 2 := by decide +kernel
  have lb := l_bare
  have l1 : (" " : Str).length = 1 := by decide +kernel
  refine ⟨rfl, _, rfl, p, _, _, _, rfl, rfl, .inl (.inl hp), at_of (j := 0) rfl rfl, g, rfl, ⟨_, .inl (.inl hg)⟩, fun D hD => lc_tup (K := K) (a := g) (xs := xs) (fun i H2 => H2 D = some (.lst (((sy.hs.take i).map atxt).map V.str)) ∧ Same H H2) ⟨upd_same, same_new hD _⟩ (fun i H2 _ h => .inl (.inl (h.2 _ _ hg))) ?_ ?_⟩
  · rintro i x H2 hi ⟨h2, s2⟩
    obtain ⟨a, ha, T⟩ := A1.get hi
    have am := List.mem_of_getElem? ha
    refine ⟨rfl, ?_⟩
    refine ⟨_, rfl, x, a, rfl, atAt_same T s2, ok.hs.ok a am, fun H3 s3 => ⟨_, s3 _ _ h2, ?_, ?_, ?_⟩⟩
    · rw [List.length_map, List.length_map, List.length_take]; omega
    · have tk : sy.hs.take (i + 1) = sy.hs.take i ++ [a] := by rw [List.take_add_one, ha]; rfl
      rw [upd_same, tk, List.map_append, List.map_append]; rfl
    · intro c o z
      rw [upd_ne (ne_of_none z hD)]
      exact s3 _ _ (s2 _ _ z)
  · rintro H2 ⟨h2, s2⟩
    rw [xl, List.take_of_length_le (Nat.le_refl _)] at h2
    have bs := btxt_sum ok.hs
    refine ⟨", ", D, sy.hs.map atxt, rfl, rfl, .inl (.inl (.inl h2)), by rw [l2, List.length_map]; omega, ?_⟩
    have e0 : Txt.join ", " (sy.hs.map atxt) = btxt sy.hs := rfl
    rw [e0]
    have hp2 := s2 _ _ hp
    have G2 := atAt_same G1 s2
    have qq : ∀ H', Same H2 H' → Q (.str (sytxt sy)) H' := fun H' s => q H' (s2.trans s)
    unfold sytxt at qq
    by_cases e : sy.hs = []
    · rw [if_pos e] at qq
      have eb : btxt sy.hs = ("" : Str) := by rw [e]; decide +kernel
      rw [eb]
      refine ⟨_, rfl, rfl, false, eq_strD rfl, iteF ?_⟩
      refine ⟨"", "|- ", rfl, rfl, by decide +kernel, ?_⟩
      refine ⟨_, rfl, p, _, _, _, rfl, rfl, .inl (.inl hp2), at_of (j := 1) rfl rfl, vg, sy.gl, rfl, G2, ok.gl, fun H3 s3 => ?_⟩
      have e1 : ("" : Str) ++ "|- " = "|- " := by decide +kernel
      refine ⟨_, _, rfl, rfl, by rw [e1]; omega, ?_⟩
      rw [e1]
      exact qq _ s3
    · rw [if_neg e] at qq
      refine ⟨_, rfl, rfl, true, ne_strD (btxt_ne ok.hs e), iteT ?_⟩
      refine ⟨_, rfl, _, " ", rfl, rfl, by omega, ?_⟩
      refine ⟨_, "|- ", rfl, rfl, by rw [slen]; omega, ?_⟩
      refine ⟨_, rfl, p, _, _, _, rfl, rfl, .inl (.inl hp2), at_of (j := 1) rfl rfl, vg, sy.gl, rfl, G2, ok.gl, fun H3 s3 => ?_⟩
      refine ⟨_, _, rfl, rfl, by rw [slen, slen]; omega, ?_⟩
      have e1 : btxt sy.hs ++ " " ++ "|- " ++ atxt sy.gl = btxt sy.hs ++ " |- " ++ atxt sy.gl := by
        apply ext_tl
        simp only [tl_append, t_sp, t_bare, t_part, List.append_assoc]
        rfl
      rw [e1]
      exact qq _ s3
end
end Rp

set_option maxHeartbeats 8000000
/-! Numbers and signs of any text. -/
namespace Rp
open PySem PySem.Spec PyProof.Rows L2 TL StX
theorem str_neV {x y : Str} (h : x ≠ y) : decide (V.str x = V.str y) = false := decide_eq_false fun z => h (V.str.inj z)
theorem str_eqV {x y : Str} (h : x = y) : decide (V.str x = V.str y) = true := decide_eq_true (by rw [h])
noncomputable def numOf (x : Str) : Option Int := if cutS x none (some 1) = ("x" : Str) ∧ x.length ≤ 3 ∧ Txt.isdecimal (cutS x (some 1) none) = true then some ((NumText.digitsVal (tl (cutS x (some 1) none)) : Nat) : Int) else none
theorem dec_ascii {c : Nat} (h : c < 128) (d : Unicode.isDecimal c = true) : 48 ≤ c ∧ c ≤ 57 := by
  have all : ∀ k : Fin 128, Unicode.isDecimal k.val = true → 48 ≤ k.val ∧ k.val ≤ 57 := by decide +kernel
  exact all ⟨c, h⟩ d
theorem isdec_digits {x : Str} (ha : ∀ c ∈ tl x, c < 128) (d : Txt.isdecimal x = true) : tl x ≠ [] ∧ ∀ c ∈ tl x, 48 ≤ c ∧ c ≤ 57 := by
  unfold Txt.isdecimal at d
  obtain ⟨d1, d2⟩ := Bool.and_eq_true_iff.mp d
  refine ⟨fun e => ?_, fun c hc => dec_ascii (ha c hc) ?_⟩
  · have := of_decide_eq_true d1
    rw [(len0_tl x).mpr e] at this
    omega
  · rw [Array.all_eq_true'] at d2
    exact d2 c (Array.mem_toList_iff.mp hc)
theorem digits_two {l : List Nat} (h : ∀ c ∈ l, 48 ≤ c ∧ c ≤ 57) (n : l ≠ []) (s : l.length ≤ 2) : NumText.digitsVal l ≤ 99 := by
  match l with
  | [] => exact absurd rfl n
  | [a] =>
    have ha := h a (by simp)
    have all : ∀ k : Fin 10, NumText.digitsVal [48 + k.val] ≤ 99 := by decide +kernel
    have := all ⟨a - 48, by omega⟩
    rwa [show 48 + (a - 48) = a by omega] at this
  | [a, b] =>
    have ha := h a (by simp)
    have hb := h b (by simp)
    have all : ∀ j k : Fin 10, NumText.digitsVal [48 + j.val, 48 + k.val] ≤ 99 := by decide +kernel
    have := all ⟨a - 48, by omega⟩ ⟨b - 48, by omega⟩
    rwa [show 48 + (a - 48) = a by omega, show 48 + (b - 48) = b by omega] at this
  | _ :: _ :: _ :: _ => simp at s
theorem cut_asc {x : Str} {lo hi : Option Int} (h : ∀ c ∈ tl x, c < 128) : ∀ c ∈ tl (cutS x lo hi), c < 128 := (asc_cut (L := x.length) ⟨Nat.le_refl _, h⟩).2
theorem cut1_len (x : Str) : (tl (cutS x (some 1) none)).length = x.length - 1 := by
  show (tl (cutS x (some ((1 : Nat) : Int)) none)).length = _
  have hc : tl (cutS x (some ((1 : Nat) : Int)) none) = (List.take (HT.sIx x.length x.length none - HT.sIx x.length 0 (some ((1 : Nat) : Int))) (List.drop (HT.sIx x.length 0 (some ((1 : Nat) : Int))) x.cps.toList)) := rfl
  rw [hc, HT.sIx_none, HT.sIx_nat, List.length_take, List.length_drop, Array.length_toList]
  have : x.cps.size = x.length := rfl
  omega
theorem numOf_rng {x : Str} (h : ∀ c ∈ tl x, c < 128) {n : Int} (e : numOf x = some n) : 0 ≤ n ∧ n ≤ 99 := by
  unfold numOf at e
  split at e
  · rename_i c
    obtain rfl := Option.some.inj e
    obtain ⟨d1, d2⟩ := isdec_digits (cut_asc h) c.2.2
    have := digits_two d2 d1 (by rw [cut1_len]; have := c.2.1; omega)
    omega
  · cases e
theorem numOf_xn {n : Int} (h : 0 ≤ n ∧ n ≤ 99) : numOf (xn n) = some n := by
  obtain ⟨f1, f2, f3, f4, f5, _⟩ := xn_facts h
  unfold numOf
  rw [f3, if_pos ⟨f1, f2, f4⟩, tl_int h.1, numL_val]
  congr 1
  omega
def optI : Option Int → V
  | some n => .int n
  | none => .non
def spNumG : Sp := fun vs H Q _ => ∃ x : Str, vs = [.str x] ∧ x.length ≤ 1000 ∧ (∀ c ∈ tl x, c < 128) ∧ Q (optI (numOf x)) H
/-- the stack behind a sign, its top ahead -/
noncomputable def stp (S : List Tm) (x : Str) : Option (List Tm) :=
  if x = ("0" : Str) then some (.z :: S) else if x = ("s" : Str) ∧ S ≠ [] then (match S with | t :: r => some (.s t :: r) | [] => none) else
  if x = ("f" : Str) ∧ 1 < S.length then (match S with | l :: r :: q => some (.f l r :: q) | _ => none) else (numOf x).map fun n => .v n :: S
noncomputable def runS : List Tm → List Str → Option (List Tm)
  | S, [] => some S
  | S, x :: xs => (stp S x).bind fun S' => runS S' xs
theorem runS_app : ∀ {xs ys : List Str} {S S' : List Tm}, runS S xs = some S' → runS S (xs ++ ys) = runS S' ys
  | [], ys, S, S', h => by
    obtain rfl := Option.some.inj h
    rfl
  | x :: xs, ys, S, S', h => by
    show (stp S x).bind (fun S1 => runS S1 (xs ++ ys)) = _
    have h : (stp S x).bind (fun S1 => runS S1 xs) = some S' := h
    cases e : stp S x with
    | none => rw [e] at h; cases h
    | some S1 =>
      rw [e] at h
      exact runS_app h
theorem runS_none : ∀ {xs ys : List Str} {S : List Tm}, runS S xs = none → runS S (xs ++ ys) = none
  | [], ys, S, h => by cases h
  | x :: xs, ys, S, h => by
    show (stp S x).bind (fun S1 => runS S1 (xs ++ ys)) = _
    have h : (stp S x).bind (fun S1 => runS S1 xs) = none := h
    cases e : stp S x with
    | none => rfl
    | some S1 =>
      rw [e] at h
      exact runS_none h
theorem runS_one {S : List Tm} {x : Str} : runS S [x] = stp S x := by
  show (stp S x).bind (fun S1 => some S1) = _
  cases stp S x <;> rfl
theorem n0s : ("0" : Str) ≠ "s" := by decide +kernel
theorem n0f : ("0" : Str) ≠ "f" := by decide +kernel
theorem nsf : ("s" : Str) ≠ "f" := by decide +kernel
theorem stp_z (S : List Tm) : stp S "0" = some (.z :: S) := if_pos rfl
theorem stp_s (t : Tm) (S : List Tm) : stp (t :: S) "s" = some (.s t :: S) := by
  unfold stp
  rw [if_neg n0s.symm, if_pos ⟨rfl, by simp⟩]
theorem stp_f (l r : Tm) (S : List Tm) : stp (l :: r :: S) "f" = some (.f l r :: S) := by
  unfold stp
  rw [if_neg n0f.symm, if_neg (fun z => nsf z.1.symm), if_pos ⟨rfl, by simp⟩]
theorem stp_v {n : Int} (h : 0 ≤ n ∧ n ≤ 99) (S : List Tm) : stp S (xn n) = some (.v n :: S) := by
  obtain ⟨_, _, _, _, _, g0, gs, gf⟩ := xn_facts h
  unfold stp
  rw [if_neg g0, if_neg (fun z => gs z.1), if_neg (fun z => gf z.1), numOf_xn h]
  rfl
theorem runS_tm : ∀ {t : Tm} {S : List Tm}, t.small → runS S t.sgn.reverse = some (t :: S)
  | .v n, S, h => by
    show runS S [xn n] = _
    rw [runS_one, stp_v (h n (by simp [Tm.nums]))]
  | .z, S, h => by
    show runS S ["0"] = _
    rw [runS_one, stp_z]
  | .s t, S, h => by
    show runS S (("s" : Str) :: t.sgn).reverse = _
    rw [List.reverse_cons, runS_app (runS_tm (t := t) h), runS_one, stp_s]
  | .f l r, S, h => by
    show runS S (("f" : Str) :: (l.sgn ++ r.sgn)).reverse = _
    rw [List.reverse_cons, List.reverse_append, List.append_assoc, runS_app (runS_tm (t := r) fun n hn => h n (by simp [Tm.nums, hn])), runS_app (runS_tm (t := l) fun n hn => h n (by simp [Tm.nums, hn])), runS_one, stp_f]
/-- what a stack's parts are -/
def StkOk (k : Nat) (S : List Tm) : Prop := (∀ t ∈ S, t.small) ∧ (S.map Tm.size).sum ≤ k
theorem stp_ok {S S' : List Tm} {x : Str} {k : Nat} (ha : ∀ c ∈ tl x, c < 128) (h : StkOk k S) (e : stp S x = some S') : StkOk (k + 1) S' := by
  unfold stp at e
  by_cases h0 : x = ("0" : Str)
  · rw [if_pos h0] at e
    obtain rfl := Option.some.inj e
    refine ⟨fun t ht => ?_, by have := h.2; simp [Tm.size]; omega⟩
    rcases List.mem_cons.mp ht with rfl | ht
    · intro n hn; simp [Tm.nums] at hn
    · exact h.1 t ht
  rw [if_neg h0] at e
  by_cases hs : x = ("s" : Str) ∧ S ≠ []
  · rw [if_pos hs] at e
    match S, e, h with
    | t :: r, e, h =>
      obtain rfl := Option.some.inj e
      refine ⟨fun u hu => ?_, by have := h.2; simp [Tm.size] at this ⊢; omega⟩
      rcases List.mem_cons.mp hu with rfl | hu
      · exact h.1 t (by simp)
      · exact h.1 u (by simp [hu])
  rw [if_neg hs] at e
  by_cases hf : x = ("f" : Str) ∧ 1 < S.length
  · rw [if_pos hf] at e
    match S, e, h with
    | l :: r :: q, e, h =>
      obtain rfl := Option.some.inj e
      refine ⟨fun u hu => ?_, by have := h.2; simp [Tm.size] at this ⊢; omega⟩
      rcases List.mem_cons.mp hu with rfl | hu
      · intro n hn
        simp only [Tm.nums, List.mem_append] at hn
        rcases hn with hn | hn
        · exact h.1 l (by simp) n hn
        · exact h.1 r (by simp) n hn
      · exact h.1 u (by simp [hu])
  rw [if_neg hf] at e
  cases en : numOf x with
  | none => rw [en] at e; cases e
  | some n =>
    rw [en] at e
    obtain rfl := Option.some.inj e
    have rg := numOf_rng ha en
    refine ⟨fun u hu => ?_, by have := h.2; simp [Tm.size]; omega⟩
    rcases List.mem_cons.mp hu with rfl | hu
    · intro m hm
      have : m = n := by simpa [Tm.nums] using hm
      subst this; exact rg
    · exact h.1 u hu
def resS : Option (List Tm) → Option Tm
  | some [t] => some t
  | _ => none
end Rp

set_option maxHeartbeats 8000000
/-! _number_of, _from_signs of any text. -/
namespace Rp
open PySem PySem.Spec PyProof.Rows L2 TL StX
def TmO (H : Hp) (v : V) : Option Tm → Prop
  | some t => TmAt H v t
  | none => v = .non
theorem TmO.same {H H' : Hp} {v : V} {o : Option Tm} (h : TmO H v o) (s : Same H H') : TmO H' v o := by
  cases o with
  | none => exact h
  | some t => exact (show TmAt H v t from h).same s
def spFromG : Sp := fun vs H Q _ => ∃ (p : Addr) (xs : List Str), vs = [.ref p] ∧ H p = some (.lst (xs.map V.str)) ∧ xs.length ≤ 200 ∧ (∀ x ∈ xs, x.length ≤ 1000 ∧ ∀ c ∈ tl x, c < 128) ∧
  ∀ (v : V) (H' : Hp), TmO H' v (resS (runS [] xs.reverse)) → Same H H' → Q v H'
theorem run_ok : ∀ {xs : List Str} {S S' : List Tm} {k : Nat}, (∀ x ∈ xs, ∀ c ∈ tl x, c < 128) → StkOk k S → runS S xs = some S' → StkOk (k + xs.length) S'
  | [], S, S', k, _, h, e => by
    obtain rfl := Option.some.inj e
    exact h
  | x :: xs, S, S', k, ha, h, e => by
    have e : (stp S x).bind (fun S1 => runS S1 xs) = some S' := e
    cases es : stp S x with
    | none => rw [es] at e; cases e
    | some S1 =>
      rw [es] at e
      have := run_ok (xs := xs) (fun y hy => ha y (by simp [hy])) (stp_ok (ha x (by simp)) h es) e
      rw [List.length_cons]
      rwa [show k + (xs.length + 1) = k + 1 + xs.length by omega]
theorem res_ok {xs : List Str} {t : Tm} (ha : ∀ x ∈ xs, ∀ c ∈ tl x, c < 128) (e : resS (runS [] xs) = some t) : t.small ∧ t.size ≤ xs.length := by
  cases er : runS [] xs with
  | none => rw [er] at e; cases e
  | some S =>
    rw [er] at e
    have ok := run_ok (k := 0) ha ⟨by simp, by simp⟩ er
    match S, e, ok with
    | [u], e, ok =>
      obtain rfl := Option.some.inj e
      have := ok.2
      simp at this
      exact ⟨ok.1 u (by simp), by omega⟩
section
variable {P : Program} {w : World} {K : PySem.W.Frag} {mg : Str → Option Value} {base : Heap}
theorem scNumberOf : FnScope ["sign"] ["sign"] (defScope sNumberOf) := ⟨rfl, rfl, rfl, by decide +kernel, rfl, by decide +kernel, by decide +kernel⟩
theorem ok_numg {f : Addr} {fd : FuncData} (F : Fun K "_number_of" "_number_of" sNumberOf f fd) (mLen : mg "len" = none) (mInt : mg "int" = none) : FnOk P w K mg base CX0 1 f fd ["sign"] spNumG := by
  refine F.ok scNumberOf (fun vs H Q E h => ?_) (fun cdv A outer s H vs Q E hr h => ?_)
  · obtain ⟨n, rfl, _⟩ := h
    rfl
  obtain ⟨x, rfl, xl, xa, q⟩ := h
  refine ⟨_, pss_cons (ps_if (PW.pt (pw_and (pt_cmpR op_eq (pe_slice sl_str (pv 0) po_none (po_some pe_int)) pe_str (nomark _))
      (pw_and (pt_cmpR op_le (pe_callB call_len_str (by rfl) mLen PySem.boot_len (pa_cons (pv 0) pa_nil)) pe_int (nomark _))
      (pw_and1 (pt_val (pe_bm0 PySem.F.plainAttrs_str PySem.F.slot_str_isdecimal PySem.F.type_str_isdecimal mt_isdecimal (pe_slice sl_str (pv 0) (po_some pe_int) po_none)))))))
      (pss_one (ps_ret (pe_callTy call_int_str (by rfl) mInt (by decide +kernel) (pa_cons (pe_slice sl_str (pv 0) (po_some pe_int) po_none) pa_nil)))) pss_nil)
    (pss_one (ps_ret pe_non)), ?_⟩
  have big : (10000 : Nat) ≤ sizeLine := by decide
  have no : ¬ (cutS x none (some 1) = ("x" : Str) ∧ x.length ≤ 3 ∧ Txt.isdecimal (cutS x (some 1) none) = true) → Q .non H := fun h => by
    have e : numOf x = none := if_neg h
    rw [e] at q
    exact q
  refine ⟨_, rfl, 1, rfl, x, rfl, by omega, ?_⟩
  by_cases h1 : ¬ cutS x none (some 1) = ("x" : Str)
  · exact ⟨rfl, false, congrArg V.bl (str_neV h1), iteF (no fun z => h1 z.1)⟩
  have h1 := Decidable.not_not.mp h1
  refine ⟨rfl, true, congrArg V.bl (str_eqV h1), iteT ?_⟩
  by_cases h2 : ¬ ((x.length : Nat) : Int) ≤ 3
  · exact ⟨_, rfl, x, rfl, by omega, _, _, rfl, rfl, false, congrArg V.bl (decide_eq_false h2), iteF (no fun z => h2 (by have := z.2.1; omega))⟩
  have h2 := Decidable.not_not.mp h2
  refine ⟨_, rfl, x, rfl, by omega, _, _, rfl, rfl, true, congrArg V.bl (decide_eq_true h2), iteT ?_⟩
  cases h3 : Txt.isdecimal (cutS x (some 1) none) with
  | false => exact ⟨_, rfl, 1, rfl, x, rfl, by omega, rfl, _, rfl, rfl, trivial, false, by rw [h3], iteF (no fun z => by rw [h3] at z; exact absurd z.2.2 (by simp))⟩
  | true =>
    refine ⟨_, rfl, 1, rfl, x, rfl, by omega, rfl, _, rfl, rfl, trivial, true, by rw [h3], iteT ?_⟩
    have e : numOf x = some ((NumText.digitsVal (tl (cutS x (some 1) none)) : Nat) : Int) := if_pos ⟨h1, by omega, h3⟩
    rw [e] at q
    obtain ⟨d1, d2⟩ := isdec_digits (cut_asc xa) h3
    have cl := cut1_len x
    have ll : (cutS x (some 1) none).length = x.length - 1 := by rw [len_tl]; exact cl
    exact ⟨_, rfl, 1, rfl, x, rfl, by omega, _, _, rfl, intText_digits d2 d1 (by omega), by omega, q⟩
end
end Rp

set_option maxHeartbeats 8000000
/-! _from_signs of any signs. -/
namespace Rp
open PySem PySem.Spec PyProof.Rows L2 TL StX
theorem AllAt.last {H : Hp} {ws : List V} {S : List Tm} {t : Tm} (A : AllAt H ws (S ++ [t])) : ∃ w0 w1, ws = w0 ++ [w1] ∧ AllAt H w0 S ∧ TmAt H w1 t := by
  obtain ⟨L1, L2, e2, B1, B2⟩ : ∃ L1 L2, ws = L1 ++ L2 ∧ AllAt H L1 S ∧ AllAt H L2 [t] := by
    have : ∀ (S : List Tm) (ws : List V), AllAt H ws (S ++ [t]) → ∃ L1 L2, ws = L1 ++ L2 ∧ AllAt H L1 S ∧ AllAt H L2 [t] := by
      intro S
      induction S with
      | nil => intro ws h; exact ⟨[], ws, rfl, trivial, h⟩
      | cons u S ih =>
        intro ws h
        cases ws with
        | nil => exact h.elim
        | cons x ws =>
          obtain ⟨L1, L2, e, a, b⟩ := ih ws h.2
          exact ⟨x :: L1, L2, by rw [e]; rfl, ⟨h.1, a⟩, b⟩
    exact this S ws A
  match L2, B2 with
  | [u], B2 => exact ⟨L1, u, e2, B1, B2.1⟩
section
variable {P : Program} {w : World} {K : PySem.W.Frag} {mg : Str → Option Value} {base : Heap}
theorem scFromSigns : FnScope ["signs", "made", "sign", "left"] ["signs"] (defScope sFromSigns) := ⟨rfl, rfl, rfl, by decide +kernel, rfl, by decide +kernel, by decide +kernel⟩
theorem ok_fromg {f fN : Addr} {fd dN : FuncData} (F : Fun K "_from_signs" "_from_signs" sFromSigns f fd)
    (GN : FnOk P w K mg base CX0 1 fN dN ["sign"] spNumG) (kN : PySem.W.keepIn K (.ref fN) = true) (bN : Binds K dN ["sign"] []) (mN : mg "_number_of" = some (.ref fN))
    (mLen : mg "len" = none) (mRev : mg "reversed" = none) : FnOk P w K mg base CX0 2 f fd ["signs"] spFromG := by
  refine F.ok scFromSigns (fun vs H Q E h => ?_) (fun cdv A outer s H vs Q E hr h => ?_)
  · obtain ⟨p, t, rfl, _⟩ := h
    rfl
  obtain ⟨p, xs, rfl, hp, sz, xa, q⟩ := h
  refine ⟨_, pss_cons (ps_set (i := 1) scFromSigns.nd rfl (Or.inl rfl) (pe_lst pa_nil))
    (pss_cons (ps_for PassesOwn.never rfl (pi_reversed (by rfl) mRev (pa_cons (pv 0) pa_nil)) (pg_name (i := 2) scFromSigns.nd rfl (Or.inl rfl))
      (pss_one (ps_if (pt_cmpR op_eq (pv 2) pe_str (nomark _)) (pss_one (ps_expr (pe_bm PySem.F.plainAttrs_list PySem.F.slot_list_append PySem.F.type_list_append mt_append (pv 1) (pa_cons (pe_tup (pa_cons pe_str pa_nil)) pa_nil))))
      (pss_one (ps_if (PW.pt (pw_and (pt_cmpR op_eq (pv 2) pe_str (nomark _)) (pw_and1 (pt_truth (pv 1) (by intro _; rfl)))))
        (pss_one (ps_expr (pe_bm PySem.F.plainAttrs_list PySem.F.slot_list_append PySem.F.type_list_append mt_append (pv 1) (pa_cons (pe_tup (pa_cons pe_str (pa_cons (pe_bm0 PySem.F.plainAttrs_list PySem.F.slot_list_pop PySem.F.type_list_pop mt_pop (pv 1)) pa_nil))) pa_nil))))
      (pss_one (ps_if (PW.pt (pw_and (pt_cmpR op_eq (pv 2) pe_str (nomark _)) (pw_and1 (pt_cmpR op_gt (pe_callB call_len_seq (by rfl) mLen PySem.boot_len (pa_cons (pv 1) pa_nil)) pe_int (nomark _)))))
        (pss_cons (ps_set (i := 3) scFromSigns.nd rfl (Or.inl rfl) (pe_bm0 PySem.F.plainAttrs_list PySem.F.slot_list_pop PySem.F.type_list_pop mt_pop (pv 1)))
        (pss_one (ps_expr (pe_bm PySem.F.plainAttrs_list PySem.F.slot_list_append PySem.F.type_list_append mt_append (pv 1) (pa_cons (pe_tup (pa_cons pe_str (pa_cons (pv 3) (pa_cons (pe_bm0 PySem.F.plainAttrs_list PySem.F.slot_list_pop PySem.F.type_list_pop mt_pop (pv 1)) pa_nil)))) pa_nil)))))
      (pss_one (ps_if (pt_cmpR op_notN (pe_call GN hr rfl mN kN bN .nil pass0 (pa_cons (pv 2) pa_nil)) pe_non (nomark _))
        (pss_one (ps_expr (pe_bm PySem.F.plainAttrs_list PySem.F.slot_list_append PySem.F.type_list_append mt_append (pv 1) (pa_cons (pe_call GN hr rfl mN kN bN .nil pass0 (pa_cons (pv 2) pa_nil)) pa_nil))))
        (pss_one (ps_ret pe_non)))))))))))
    (pss_one (ps_ret (pe_ifExp (pt_cmpR op_eq (pe_callB call_len_seq (by rfl) mLen PySem.boot_len (pa_cons (pv 1) pa_nil)) pe_int (nomark _)) (pe_ix ix_list (pv 1) pe_int (fun _ _ => rfl)) pe_non)))), ?_⟩
  refine ⟨(by show 0 ≤ sizeLine; decide), fun m hm => ?_⟩
  have s0 := same_new hm (.lst ([] : List V))
  have hp1 := s0 _ _ hp
  have pm : p ≠ m := ne_of_none hp hm
  have big : (10000 : Nat) ≤ sizeLine := by decide
  have xl : (xs.map V.str).length = xs.length := by rw [List.length_map]
  have toH : ∀ H2, But m (upd H m (.lst ([] : List V))) H2 → Same H H2 := fun H2 o c w z => o c w (s0 _ _ z) (ne_of_none z hm)
  refine ⟨_, rfl, p, _, rfl, .inl (.inl hp1), RT.for_Itv (K := K) (a := p) (xs := xs.map V.str) (fun i σ H2 => ∃ (S : List Tm) (ws : List V) (x2 x3 : Option V), σ = [some (.ref p), some (.ref m), x2, x3] ∧ H2 m = some (.lst ws) ∧ AllAt H2 ws S.reverse ∧
      runS [] (xs.reverse.take i) = some S ∧ S.length ≤ i ∧ But m (upd H m (.lst ([] : List V))) H2) ⟨[], [], none, none, rfl, upd_same, trivial, rfl, by simp, But.refl _ _⟩ (fun i σ H2 ⟨_, _, _, _, _, _, _, _, _, o⟩ => .inl (.inl (o _ _ hp1 pm))) ?_ ?_⟩
  · rintro i x σ H2 hi hx ⟨S, ws, x2, x3, rfl, h2, AS, run, sl, o2⟩
    rw [xl] at hi hx
    rw [List.getElem?_map] at hx
    obtain ⟨y, hy, rfl⟩ := Option.map_eq_some_iff.mp hx
    have yr : xs.reverse[i]? = some y := by rw [List.getElem?_reverse (by omega)]; exact hy
    obtain ⟨yl, ya⟩ := xa y (List.mem_of_getElem? hy)
    have tk : xs.reverse.take (i + 1) = xs.reverse.take i ++ [y] := by rw [List.take_add_one, yr]; rfl
    have run1 : runS [] (xs.reverse.take (i + 1)) = stp S y := by rw [tk, runS_app run, runS_one]
    have wl := AS.len
    rw [List.length_reverse] at wl
    -- the sign's way, by what the stack is
    have next : ∀ (S' : List Tm) (w0 : List V) (g : V) (H3 : Hp) (x2 x3 : Option V), stp S y = some S' → S'.length ≤ i + 1 → AllAt H3 (w0 ++ [g]) S'.reverse → H3 m = some (.lst (w0 ++ [g])) → (∀ c o, H2 c = some o → c ≠ m → H3 c = some o) →
        ∃ (S : List Tm) (ws : List V) (y2 y3 : Option V), [some (V.ref p), some (.ref m), x2, x3] = [some (.ref p), some (.ref m), y2, y3] ∧ H3 m = some (.lst ws) ∧ AllAt H3 ws S.reverse ∧ runS [] (xs.reverse.take (i + 1)) = some S ∧ S.length ≤ i + 1 ∧ But m (upd H m (.lst ([] : List V))) H3 :=
      fun S' w0 g H3 x2 x3 e l A h3 st => ⟨S', _, _, _, rfl, h3, A, by rw [run1, e], l, fun c o z nc => st _ _ (o2 c o z nc) nc⟩
    by_cases h0 : y = ("0" : Str)
    · subst h0
      refine ⟨_, rfl, rfl, true, congrArg V.bl (decide_eq_true rfl), iteT ?_⟩
      refine ⟨_, rfl, .inl ⟨rfl, _, .inl (.inl h2)⟩, (by show 1 ≤ sizeLine; decide), fun g hg => ?_⟩
      have s3 := same_new hg (.tup [V.str "0"])
      have h3 := s3 _ _ h2
      refine ⟨m, ws, _, rfl, rfl, h3, by omega, ?_⟩
      have keep : ∀ a xs, (upd H2 g (.tup [V.str "0"])) a = some (.tup xs) → (upd (upd H2 g (.tup [V.str "0"])) m (.lst (ws ++ [.ref g]))) a = some (.tup xs) := fun a xs z => by rw [upd_ne (ne_of z h3 (by intro z; cases z))]; exact z
      refine next _ ws (.ref g) _ _ _ (stp_z S) (by simp; omega) ?_ upd_same (fun c o z nc => by rw [upd_ne nc]; exact s3 _ _ z)
      rw [List.reverse_cons]
      exact (AS.mono fun a xs z => keep a xs (s3 _ _ z)).append ⟨.z (keep _ _ upd_same), trivial⟩
    refine ⟨_, rfl, rfl, false, congrArg V.bl (str_neV h0), iteF ?_⟩
    -- no sign of a step or a fork that can be: a number, or nothing
    have last : ¬ (y = ("s" : Str) ∧ S ≠ []) → ¬ (y = ("f" : Str) ∧ 1 < S.length) → stp S y = (numOf y).map fun n => .v n :: S := fun hs hf => by
      unfold stp
      rw [if_neg h0, if_neg hs, if_neg hf]
    have done : stp S y = none → ∀ (v : V) (H3 : Hp), v = .non → Same H H3 → Q v H3 := fun e v H3 hv sH => by
      have : runS [] xs.reverse = none := by
        rw [← List.take_append_drop (i + 1) xs.reverse]
        exact runS_none (by rw [run1, e])
      exact q v H3 (by rw [this]; exact hv) sH
    have num : (numOf y).map (fun n => Tm.v n :: S) = stp S y → ∀ (H3 : Hp), H3 = H2 → (tIfS (tTest (tOp (fun x y H Q => y = .non ∧ Q (.bl (!decide (x = .non))) H) (tCall spNumG [] E0 (tCons (tVar 2) tNil)) (tC .non))) (tDrop (tBM K "list" rAppend (tVar 1) (tCons (tCall spNumG [] E0 (tCons (tVar 2) tNil)) tNil))) (tRet (tC .non)))
        { nx := fun σ H3 => ∃ (S : List Tm) (ws : List V) (y2 y3 : Option V), σ = [some (V.ref p), some (.ref m), y2, y3] ∧ H3 m = some (.lst ws) ∧ AllAt H3 ws S.reverse ∧ runS [] (xs.reverse.take (i + 1)) = some S ∧ S.length ≤ i + 1 ∧ But m (upd H m (.lst ([] : List V))) H3, rt := Q } [some (V.ref p), some (.ref m), some (.str y), x3] H3 := by
      rintro e H3 rfl
      cases en : numOf y with
      | none =>
        rw [en] at e
        refine ⟨_, rfl, y, rfl, yl, ya, ?_⟩
        rw [en]
        refine ⟨rfl, false, congrArg (fun z => V.bl (!z)) (decide_eq_true rfl), iteF ?_⟩
        exact done e.symm _ _ rfl (toH _ o2)
      | some n =>
        rw [en] at e
        refine ⟨_, rfl, y, rfl, yl, ya, ?_⟩
        rw [en]
        refine ⟨rfl, true, congrArg (fun z => V.bl (!z)) (decide_eq_false (fun z => nomatch z)), iteT ?_⟩
        refine ⟨_, rfl, .inl ⟨rfl, _, .inl (.inl h2)⟩, _, rfl, y, rfl, yl, ya, ?_⟩
        rw [en]
        refine ⟨m, ws, _, rfl, rfl, h2, by omega, ?_⟩
        have keep : ∀ a xs, H3 a = some (.tup xs) → (upd H3 m (.lst (ws ++ [.int n]))) a = some (.tup xs) := fun a xs z => by rw [upd_ne (ne_of z h2 (by intro z; cases z))]; exact z
        refine next _ ws (.int n) _ _ _ e.symm (by simp; omega) ?_ upd_same (fun c o z nc => by rw [upd_ne nc]; exact z)
        rw [List.reverse_cons]
        exact (AS.mono keep).append ⟨.v n, trivial⟩
    by_cases hs : y = ("s" : Str)
    · subst hs
      refine ⟨_, rfl, rfl, true, congrArg V.bl (decide_eq_true rfl), iteT ?_⟩
      match S, AS, wl, sl, run, run1, next, last, done, num with
      | [], AS, wl, sl, run, run1, next, last, done, num =>
        have we : ws = [] := List.eq_nil_of_length_eq_zero wl
        subst we
        refine ⟨_, rfl, false, .inl ⟨_, .inl (.inl h2), by simp⟩, iteF ?_⟩
        refine ⟨_, rfl, rfl, false, congrArg V.bl (str_neV nsf), iteF ?_⟩
        refine iteF ?_
        exact num (last (fun z => z.2 rfl) (fun z => nsf z.1)).symm H2 rfl
      | t :: r, AS, wl, sl, run, run1, next, last, done, num =>
        rw [List.reverse_cons] at AS
        obtain ⟨w0, w1, rfl, A0, A1⟩ := AS.last
        refine ⟨_, rfl, true, .inl ⟨_, .inl (.inl h2), by simp⟩, iteT ?_⟩
        refine ⟨_, rfl, .inl ⟨rfl, _, .inl (.inl h2)⟩, _, rfl, .inl ⟨rfl, _, .inl (.inl h2)⟩, m, _, w1, rfl, rfl, h2, by simp, (by show 2 ≤ sizeLine; decide), fun g hg => ?_⟩
        rw [List.dropLast_concat] at hg ⊢
        have s3 := same_new hg (.tup [V.str "s", w1])
        have hm3 := s3 _ _ (upd_same : (upd H2 m (.lst w0)) m = some (.lst w0))
        have sl' : w0.length < sizeLine := by simp at wl; simp at sl; omega
        refine ⟨m, w0, _, rfl, rfl, hm3, sl', ?_⟩
        have k1 : ∀ a xs, H2 a = some (.tup xs) → (upd H2 m (.lst w0)) a = some (.tup xs) := fun a xs z => by rw [upd_ne (ne_of z h2 (by intro z; cases z))]; exact z
        have k2 : ∀ a xs, (upd (upd H2 m (.lst w0)) g (.tup [V.str "s", w1])) a = some (.tup xs) → (upd (upd (upd H2 m (.lst w0)) g (.tup [V.str "s", w1])) m (.lst (w0 ++ [.ref g]))) a = some (.tup xs) := fun a xs z => by rw [upd_ne (ne_of z hm3 (by intro z; cases z))]; exact z
        have k3 : ∀ a xs, H2 a = some (.tup xs) → (upd (upd (upd H2 m (.lst w0)) g (.tup [V.str "s", w1])) m (.lst (w0 ++ [.ref g]))) a = some (.tup xs) := fun a xs z => k2 a xs (s3 _ _ (k1 a xs z))
        refine next _ w0 (.ref g) _ _ _ (stp_s t r) (by simp at sl ⊢; omega) ?_ upd_same (fun c o z nc => by rw [upd_ne nc]; exact s3 _ _ (by rw [upd_ne nc]; exact z))
        rw [List.reverse_cons]
        exact (A0.mono k3).append ⟨.s (k2 _ _ upd_same) (A1.mono k3), trivial⟩
    refine ⟨_, rfl, rfl, false, congrArg V.bl (str_neV hs), iteF ?_⟩
    refine iteF ?_
    by_cases hf : y = ("f" : Str)
    · subst hf
      refine ⟨_, rfl, rfl, true, congrArg V.bl (decide_eq_true rfl), iteT ?_⟩
      match S, AS, wl, sl, run, run1, next, last, done, num with
      | l :: r :: S0, AS, wl, sl, run, run1, next, last, done, num =>
        rw [List.reverse_cons] at AS
        obtain ⟨w1, wl', rfl, A1, Al⟩ := AS.last
        rw [List.reverse_cons] at A1
        obtain ⟨w0, wr, rfl, A0, Ar⟩ := A1.last
        have hl2 : decide ((1 : Int) < (((w0 ++ [wr] ++ [wl']).length : Nat) : Int)) = true := decide_eq_true (by simp; omega)
        refine ⟨_, rfl, m, _, rfl, .inl (.inl (.inl h2)), _, _, rfl, rfl, true, congrArg V.bl hl2, iteT ?_⟩
        refine ⟨_, rfl, .inl ⟨rfl, _, .inl (.inl h2)⟩, m, _, wl', rfl, rfl, h2, by simp, ?_⟩
        rw [List.dropLast_concat]
        have h3 : (upd H2 m (.lst (w0 ++ [wr]))) m = some (.lst (w0 ++ [wr])) := upd_same
        refine ⟨_, rfl, .inl ⟨rfl, _, .inl (.inl h3)⟩, _, rfl, _, rfl, .inl ⟨rfl, _, .inl (.inl h3)⟩, m, _, wr, rfl, rfl, h3, by simp, (by show 3 ≤ sizeLine; decide), fun g hg => ?_⟩
        rw [List.dropLast_concat, upd_upd] at hg ⊢
        have s3 := same_new hg (.tup [V.str "f", wl', wr])
        have hm3 := s3 _ _ (upd_same : (upd H2 m (.lst w0)) m = some (.lst w0))
        have sl' : w0.length < sizeLine := by simp at wl; simp at sl; omega
        refine ⟨m, w0, _, rfl, rfl, hm3, sl', ?_⟩
        have k1 : ∀ a xs, H2 a = some (.tup xs) → (upd H2 m (.lst w0)) a = some (.tup xs) := fun a xs z => by rw [upd_ne (ne_of z h2 (by intro z; cases z))]; exact z
        have k2 : ∀ a xs, (upd (upd H2 m (.lst w0)) g (.tup [V.str "f", wl', wr])) a = some (.tup xs) → (upd (upd (upd H2 m (.lst w0)) g (.tup [V.str "f", wl', wr])) m (.lst (w0 ++ [.ref g]))) a = some (.tup xs) := fun a xs z => by rw [upd_ne (ne_of z hm3 (by intro z; cases z))]; exact z
        have k3 : ∀ a xs, H2 a = some (.tup xs) → (upd (upd (upd H2 m (.lst w0)) g (.tup [V.str "f", wl', wr])) m (.lst (w0 ++ [.ref g]))) a = some (.tup xs) := fun a xs z => k2 a xs (s3 _ _ (k1 a xs z))
        refine next _ w0 (.ref g) _ _ _ (stp_f l r S0) (by simp at sl ⊢; omega) ?_ upd_same (fun c o z nc => by rw [upd_ne nc]; exact s3 _ _ (by rw [upd_ne nc]; exact z))
        rw [List.reverse_cons]
        exact (A0.mono k3).append ⟨.f (k2 _ _ upd_same) (Al.mono k3) (Ar.mono k3), trivial⟩
      | [t], AS, wl, sl, run, run1, next, last, done, num =>
        have hl2 : decide ((1 : Int) < ((ws.length : Nat) : Int)) = false := decide_eq_false (by simp at wl; omega)
        refine ⟨_, rfl, m, _, rfl, .inl (.inl (.inl h2)), _, _, rfl, rfl, false, congrArg V.bl hl2, iteF ?_⟩
        exact num (last (fun z => hs z.1) (fun z => by have := z.2; simp at this)).symm H2 rfl
      | [], AS, wl, sl, run, run1, next, last, done, num =>
        have hl2 : decide ((1 : Int) < ((ws.length : Nat) : Int)) = false := decide_eq_false (by simp at wl; simp [wl])
        refine ⟨_, rfl, m, _, rfl, .inl (.inl (.inl h2)), _, _, rfl, rfl, false, congrArg V.bl hl2, iteF ?_⟩
        exact num (last (fun z => hs z.1) (fun z => by have := z.2; simp at this)).symm H2 rfl
    refine ⟨_, rfl, rfl, false, congrArg V.bl (str_neV hf), iteF ?_⟩
    refine iteF ?_
    exact num (last (fun z => hs z.1) (fun z => hf z.1)).symm H2 rfl
  · rintro σ H2 ⟨S, ws, x2, x3, rfl, h2, AS, run, sl, o2⟩
    rw [xl, List.take_of_length_le (by rw [List.length_reverse]; exact Nat.le_refl _)] at run
    have wl := AS.len
    rw [List.length_reverse] at wl
    rw [run] at q
    match S, AS, wl, q with
    | [t], AS, wl, q =>
      match ws, AS with
      | [x], AS =>
        refine ⟨_, rfl, m, _, rfl, .inl (.inl (.inl h2)), rfl, true, congrArg V.bl (decide_eq_true rfl), iteT ?_⟩
        exact ⟨_, rfl, m, _, _, _, rfl, rfl, .inl (.inl h2), at_of (j := 0) rfl rfl, q x H2 AS.1 (toH _ o2)⟩
    | [], AS, wl, q =>
      refine ⟨_, rfl, m, _, rfl, .inl (.inl (.inl h2)), rfl, false, congrArg V.bl (decide_eq_false (fun z => by have := V.int.inj z; simp at wl; rw [wl] at this; simp at this)), iteF ?_⟩
      exact q _ H2 rfl (toH _ o2)
    | _ :: _ :: _, AS, wl, q =>
      refine ⟨_, rfl, m, _, rfl, .inl (.inl (.inl h2)), rfl, false, congrArg V.bl (decide_eq_false (fun z => by have := V.int.inj z; simp at wl; omega)), iteF ?_⟩
      exact q _ H2 rfl (toH _ o2)
end
end Rp

set_option maxHeartbeats 8000000
/-! term_or_none of any text. -/
namespace Rp
open PySem PySem.Spec PyProof.Rows L2 TL StX CwR
section
variable {X : Cx} {o e : Expr} {to te : TE}
/-- words of what wants a token -/
theorem pet_words {apos pos : Pos} (ho : PET X o to) (hbase : attributeBase o "split" X.env (eval o X.env) = eval o X.env := by rfl) (hline : (apos.endLine == pos.line) = true := by rfl) :
    PET X (.Call (.Attribute o "split" apos) [] [] pos) (tM0 (fun x xs H Q => ∃ a, x = .str a ∧ xs = [] ∧ a.length + 2 ≤ sizeLine ∧ rNewStrs (Txt.words a) H Q) to) := by
  intro pins s σ H Q tk I h
  refine PySem.Call_method0 hbase hline (thn (ho pins s σ H _ tk I h) fun recv s1 ⟨x, H1, I1, rel, told, go⟩ => ?_)
  obtain ⟨text, rfl⟩ := told
  obtain ⟨tok, rfl⟩ := _root_.id rel
  exact ⟨"str", _, PySem.F.plainAttrs_str, PySem.F.slot_str_split, PySem.F.type_str_split, typeIs_str _ _ _, (fun _ z => nomatch z), Calls.callWith_builtin rfl (PySem.evalArgs_none (mt_words pins s1 σ H1 _ [] _ [] Q I1 rel .nil go))⟩
/-- name = e, e wants a token -/
theorem pst_set {i : Nat} {x : Str} {pos pos' : Pos} (hN : X.N.Nodup) (hi : X.N[i]? = some x) (hx : Loc X.env.scope x) (he : PET X e te) (hs : swapsWith e (some (.Name x pos')) pos.line X.env = pure false := by rfl)
    (hf : X.fn x = true ∨ X.env.scope.names.lookup x = some .local := by first | exact .inl rfl | exact .inr rfl | assumption) : PST X (.Assign [.Name x pos'] e pos) (tAsg te (gName i)) := by
  intro pins s σ H D tk I h
  refine wpAny_Assign_Name (thn (he pins s σ H _ tk I h) fun u s1 ⟨y, H1, I1, rel, go⟩ => store_ok I1 hN hi hx rel (fun s2 I2 => ⟨_, H1, I2, go⟩) hf) hs
end
theorem wstep_ok {N : Nat} {p : Nat → Prop} : ∀ {l : List Nat} {ws : List (List Nat)} {u : List Nat}, (∀ w ∈ ws, w.length ≤ N ∧ ∀ c ∈ w, p c) → u.length + l.length ≤ N → (∀ c ∈ u, p c) → (∀ c ∈ l, p c) → ∀ w ∈ wfin (l.foldl wstep (ws, u)), w.length ≤ N ∧ ∀ c ∈ w, p c
  | [], ws, u, hw, hu, pu, _ => by
    intro w h
    have h : w ∈ (if u = [] then ws else ws ++ [u]) := h
    split at h
    · exact hw w h
    · rcases List.mem_append.mp h with h | h
      · exact hw w h
      · obtain rfl : w = u := by simpa using h
        exact ⟨by simp at hu; omega, pu⟩
  | c :: l, ws, u, hw, hu, pu, pl => by
    rw [List.foldl_cons]
    rw [List.length_cons] at hu
    by_cases hc : Unicode.isSpace c = true
    · by_cases h0 : u = []
      · have e : wstep (ws, u) c = (ws, u) := (if_pos hc).trans (if_pos h0)
        rw [e]
        exact wstep_ok hw (by omega) pu fun d hd => pl d (by simp [hd])
      · have e : wstep (ws, u) c = (ws ++ [u], []) := (if_pos hc).trans (if_neg h0)
        rw [e]
        refine wstep_ok (fun w h => ?_) (by simp; omega) (by simp) fun d hd => pl d (by simp [hd])
        rcases List.mem_append.mp h with h | h
        · exact hw w h
        · obtain rfl : w = u := by simpa using h
          exact ⟨by omega, pu⟩
    · have e : wstep (ws, u) c = (ws, u ++ [c]) := if_neg hc
      rw [e]
      refine wstep_ok hw (by rw [List.length_append]; simp; omega) (fun d hd => ?_) fun d hd => pl d (by simp [hd])
      rcases List.mem_append.mp hd with hd | hd
      · exact pu d hd
      · obtain rfl : d = c := by simpa using hd
        exact pl d (by simp)
theorem words_asc {x : Str} (h : ∀ c ∈ tl x, c < 128) : ∀ w ∈ Txt.words x, w.length ≤ x.length ∧ ∀ c ∈ tl w, c < 128 := by
  intro w hw
  have := wstep_ok (N := x.length) (p := fun c => c < 128) (l := tl x) (ws := []) (u := []) (by simp) (by rw [len_tl]; simp) (by simp) h (tl w) (by rw [← words_tl]; exact List.mem_map.mpr ⟨w, hw, rfl⟩)
  exact ⟨by rw [len_tl]; exact this.1, this.2⟩
theorem blanked_asc {x : Str} (h : ∀ c ∈ tl x, c < 128) : ∀ c ∈ tl (blanked x), c < 128 := by
  rw [blanked_tl]
  intro c hc
  obtain ⟨d, hd, rfl⟩ := List.mem_map.mp hc
  have := h d hd
  unfold b3 blank1
  repeat' split
  all_goals omega
/-- five signs of a TERM want two letters each, nearly -/
theorem size_len : ∀ (t : Tm), t.small → 5 * t.size ≤ 2 * t.txt.length + 3
  | .v n, h => by
    have : 1 ≤ (Tm.v n).txt.length := txt_pos _
    simp [Tm.size]; omega
  | .z, h => by
    have : 1 ≤ (Tm.z).txt.length := txt_pos _
    simp [Tm.size]; omega
  | .s t, h => by
    have ih := size_len t h
    have e : (Tm.s t).txt.length = t.txt.length + 3 := by
      show (("s" : Str) ++ "(" ++ Txt.join "," [t.txt] ++ ")").length = _
      rw [join1, slen, slen, slen]
      have a : ("s" : Str).length = 1 := by decide +kernel
      have b : ("(" : Str).length = 1 := by decide +kernel
      have c : (")" : Str).length = 1 := by decide +kernel
      omega
    rw [e]; simp only [Tm.size]; omega
  | .f l r, h => by
    have ih1 := size_len l fun n hn => h n (by simp [Tm.nums, hn])
    have ih2 := size_len r fun n hn => h n (by simp [Tm.nums, hn])
    have e : (Tm.f l r).txt.length = l.txt.length + r.txt.length + 4 := by
      show (("f" : Str) ++ "(" ++ Txt.join "," [l.txt, r.txt] ++ ")").length = _
      rw [join2, slen, slen, slen, slen, slen]
      have a : ("f" : Str).length = 1 := by decide +kernel
      have b : ("(" : Str).length = 1 := by decide +kernel
      have c : (")" : Str).length = 1 := by decide +kernel
      have d : ("," : Str).length = 1 := by decide +kernel
      omega
    rw [e]; simp only [Tm.size]; omega
def IsTx (x : Str) (t : Tm) : Prop := t.small ∧ t.txt = x
open Classical in
noncomputable def toTm (x : Str) : Option Tm := if h : ∃ t, IsTx x t then some h.choose else none
theorem run_txt {x : Str} {t : Tm} (h : IsTx x t) : Txt.words (blanked x) = t.sgn ∧ resS (runS [] (Txt.words (blanked x)).reverse) = some t := by
  obtain ⟨sm, rfl⟩ := h
  rw [words_txt t sm, runS_tm sm]
  exact ⟨rfl, rfl⟩
theorem tx_one {x : Str} {t u : Tm} (h : IsTx x t) (h' : IsTx x u) : t = u := by
  have a := (run_txt h).2
  rw [(run_txt h').2] at a
  exact (Option.some.inj a).symm
theorem toTm_iff {x : Str} {t : Tm} : toTm x = some t ↔ IsTx x t := by
  unfold toTm
  constructor
  · intro h
    split at h
    · rename_i e
      obtain rfl := Option.some.inj h
      exact e.choose_spec
    · cases h
  · intro h
    have e : ∃ t, IsTx x t := ⟨t, h⟩
    rw [dif_pos e]
    exact congrArg some (tx_one e.choose_spec h)
theorem toTm_none {x : Str} : toTm x = none ↔ ∀ t, ¬ IsTx x t := by
  constructor
  · intro h t ht
    rw [toTm_iff.mpr ht] at h; cases h
  · intro h
    cases e : toTm x with
    | none => rfl
    | some t => exact absurd (toTm_iff.mp e) (h t)
def spTermG : Sp := fun vs H Q _ => ∃ x : Str, vs = [.str x] ∧ Asc 430 x ∧ ∀ (v : V) (H' : Hp), TmO H' v (toTm x) → Same H H' → Q v H'
section
variable {P : Program} {w : World} {K : PySem.W.Frag} {mg : Str → Option Value} {base : Heap}
theorem scTermOr : FnScope ["text", "signs", "term"] ["text"] (defScope sTermOrNone) := ⟨rfl, rfl, rfl, by decide +kernel, rfl, by decide +kernel, by decide +kernel⟩
theorem ok_termg {f fS fT : Addr} {fd dS dT : FuncData} {tk : Tok} (F : Fun K "term_or_none" "term_or_none" sTermOrNone f fd)
    (GS : FnOk P w K mg base CX0 2 fS dS ["signs"] spFromG) (kS : PySem.W.keepIn K (.ref fS) = true) (bS : Binds K dS ["signs"] []) (mS : mg "_from_signs" = some (.ref fS))
    (GT : FnOk P w K mg base CX0 4 fT dT ["term"] spTermText) (kT : PySem.W.keepIn K (.ref fT) = true) (bT : Binds K dT ["term"] []) (mT : mg "term_text" = some (.ref fT))
    (mLen : mg "len" = none) (mMost : mg "MOST_SIGNS" = some (.int 200 tk)) : FnOk P w K mg base CX0 5 f fd ["text"] spTermG := by
  obtain ⟨oc, od, kV, doc, pm, an, cdv, ct, osl, rfl, lk, hcd⟩ := F.ex
  refine fn_ofT lk hcd scTermOr (by decide +kernel) (by decide) (fun vs H Q E h => ?_) (fun A outer s H vs Q E hr h => ?_)
  · obtain ⟨t, rfl, _⟩ := h
    rfl
  obtain ⟨x, rfl, asc, q⟩ := h
  have r2 : Room 2 _ := hr.mono (by decide)
  refine ⟨_, psst_cons (pst_set (i := 1) scTermOr.nd rfl (Or.inl rfl) (pet_words (pet_replT (pet_replT (pet_replC (pv 0))))))
    (PSsT.of (pss_cons (ps_set (i := 2) scTermOr.nd rfl (Or.inl rfl) (pe_ifExp (pt_cmpR op_le (pe_callB call_len_seq (by rfl) mLen PySem.boot_len (pa_cons (pv 1) pa_nil)) (pe_glob (v := .int 200) rfl mMost ⟨_, rfl⟩) (nomark _)) (pe_call GS r2 rfl mS kS bS .nil pass0 (pa_cons (pv 1) pa_nil)) pe_non))
    (pss_cons (ps_if (PW.pt (pw_or (pt_cmpR op_isN (pv 2) pe_non (nomark _)) (pw_or1 (pt_cmpR op_ne (pe_call GT hr rfl mT kT bT .nil pass0 (pa_cons (pv 2) pa_nil)) (pv 0) (nomark _))))) (pss_one (ps_ret pe_non)) pss_nil)
    (pss_one (ps_ret (pv 2)))))), ?_⟩
  have big : (10000 : Nat) ≤ sizeLine := by decide
  have xl := asc.1
  have l1 : (" " : Str).length = 1 := by decide +kernel
  have e32 : (" " : Str) = ⟨#[32]⟩ := by decide +kernel
  have e40 : ("(" : Str) = ⟨#[40]⟩ := by decide +kernel
  have e41 : (")" : Str) = ⟨#[41]⟩ := by decide +kernel
  have rl1 : ∀ x : Str, (Txt.replace x "(" " ").length = x.length := fun x => by rw [e32, e40, len_tl, len_tl, repl_tl _ (by decide), List.length_map]
  have rl2 : ∀ x : Str, (Txt.replace x ")" " ").length = x.length := fun x => by rw [e32, e41, len_tl, len_tl, repl_tl _ (by decide), List.length_map]
  refine ⟨_, rfl, x, rfl, by rw [l1]; omega, _, rfl, by rw [l1, rl1]; omega, _, rfl, by rw [l1, rl2, rl1]; omega, ⟨_, rfl⟩, _, rfl, rfl, ?_, fun p hp => ?_⟩
  · show (blanked x).length + 2 ≤ _
    rw [blanked_len]; omega
  have wa := words_asc (blanked_asc asc.2)
  rw [blanked_len] at wa
  have rt := fun t => run_txt (x := x) (t := t)
  generalize ew : Txt.words (Txt.replace (Txt.replace (Txt.replace x "(" " ") ")" " ") "," " ") = xs at hp ⊢
  have ew : Txt.words (blanked x) = xs := ew
  rw [ew] at wa rt
  have s1 := same_new hp (.lst (xs.map V.str))
  by_cases few : xs.length ≤ 200
  · refine ⟨_, rfl, p, _, rfl, .inl (.inl (.inl upd_same)), _, _, rfl, rfl, true, congrArg V.bl (decide_eq_true (by rw [List.length_map]; omega)), iteT ?_⟩
    refine ⟨_, rfl, p, xs, rfl, upd_same, few, fun y hy => ⟨by have := (wa y hy).1; omega, (wa y hy).2⟩, fun v H2 T s2 => ?_⟩
    cases er : resS (runS [] xs.reverse) with
    | none =>
      rw [er] at T
      have hv : v = .non := T
      subst hv
      refine ⟨_, rfl, rfl, true, rfl, iteT ?_⟩
      refine q .non H2 ?_ (s1.trans s2)
      rw [toTm_none.mpr fun t ht => by have := (rt t ht).2; rw [er] at this; cases this]
      rfl
    | some t =>
      rw [er] at T
      have T : TmAt H2 v t := T
      obtain ⟨sm, sz⟩ := res_ok (fun y hy => (wa y (List.mem_reverse.mp hy)).2) er
      rw [List.length_reverse] at sz
      have vn : v ≠ .non := by cases T <;> (intro z; cases z)
      refine ⟨_, rfl, rfl, false, congrArg V.bl (decide_eq_false vn), iteF ?_⟩
      refine ⟨_, rfl, v, t, rfl, T, sm, by omega, fun H3 s3 => ?_⟩
      by_cases e : t.txt = x
      · refine ⟨_, rfl, rfl, false, congrArg (fun z => V.bl (!z)) (str_eqV e), iteF ?_⟩
        refine ⟨_, rfl, q v H3 ?_ (s1.trans (s2.trans s3))⟩
        rw [toTm_iff.mpr ⟨sm, e⟩]
        exact T.same s3
      · refine ⟨_, rfl, rfl, true, congrArg (fun z => V.bl (!z)) (str_neV e), iteT ?_⟩
        refine q .non H3 ?_ (s1.trans (s2.trans s3))
        rw [toTm_none.mpr fun u hu => by
          have := (rt u hu).2
          rw [er] at this
          have : t = u := Option.some.inj this
          subst this
          exact e hu.2]
        rfl
  · refine ⟨_, rfl, p, _, rfl, .inl (.inl (.inl upd_same)), _, _, rfl, rfl, false, congrArg V.bl (decide_eq_false (by rw [List.length_map]; omega)), iteF ?_⟩
    refine ⟨_, rfl, rfl, true, rfl, iteT ?_⟩
    refine q .non _ ?_ s1
    rw [toTm_none.mpr fun t ht => by
      have e := (rt t ht).1
      have := Tm.sgn_len t
      have sl := size_len t ht.1
      rw [ht.2] at sl
      rw [← e] at this
      omega]
    rfl
end
end Rp

set_option maxHeartbeats 8000000
/-! What cutting a text leaves. -/
namespace Rp
open PySem PySem.Spec PyProof.Rows L2 TL StX CwR
theorem joinL_cons {S p : List Nat} {ps : List (List Nat)} (h : ps ≠ []) : joinL S (p :: ps) = p ++ (S ++ joinL S ps) := by
  cases ps with
  | nil => exact absurd rfl h
  | cons q r => rfl
theorem joinL_spl {S : List Nat} (hS : S ≠ []) : ∀ (n : Nat) (l acc : List Nat), l.length ≤ n → joinL S (spl S 0 acc l) = acc ++ l
  | _, [], acc, _ => by rw [spl_nil, List.append_nil]; rfl
  | 0, c :: r, acc, h => by simp at h
  | n + 1, c :: r, acc, h => by
    rw [List.length_cons] at h
    cases hp : pre S (c :: r) with
    | true =>
      rw [spl_hit hp, joinL_cons (spl_ne S _ _ _), spl_pass, joinL_spl hS n _ [] (by rw [List.length_drop]; omega), List.nil_append]
      have hp : ((c :: r).take S.length == S) = true := hp
      have e := beq_iff_eq.mp hp
      have d := List.take_append_drop S.length (c :: r)
      rw [e] at d
      have : (c :: r).drop S.length = r.drop (S.length - 1) := by
        cases S with
        | nil => exact absurd rfl hS
        | cons s S => rfl
      rw [this] at d
      rw [d]
    | false =>
      rw [spl_miss hp, joinL_spl hS n r _ (by omega)]
      simp
theorem spl_free {s : Nat} : ∀ (l acc : List Nat), s ∉ acc → ∀ p ∈ spl [s] 0 acc l, s ∉ p
  | [], acc, h, p, hp => by
    rw [spl_nil] at hp
    obtain rfl : p = acc := by simpa using hp
    exact h
  | c :: r, acc, h, p, hp => by
    by_cases e : c = s
    · rw [spl_hit (by simp [pre, e])] at hp
      rcases List.mem_cons.mp hp with rfl | hp
      · exact h
      · exact spl_free r [] (by simp) p hp
    · rw [spl_miss (by simp [pre, e])] at hp
      exact spl_free r _ (by simp [h, Ne.symm e]) p hp
theorem joinL_sub {S : List Nat} : ∀ {ps : List (List Nat)} {p : List Nat}, p ∈ ps → ∃ a c, joinL S ps = a ++ p ++ c
  | [q], p, h => by
    obtain rfl : p = q := by simpa using h
    exact ⟨[], [], by simp [joinL]⟩
  | q :: r :: ps, p, h => by
    rw [joinL_cons (by simp)]
    rcases List.mem_cons.mp h with rfl | h
    · exact ⟨[], S ++ joinL S (r :: ps), by simp⟩
    · obtain ⟨a, c, e⟩ := joinL_sub (S := S) h
      exact ⟨q ++ S ++ a, c, by rw [e]; simp⟩
theorem joinL_len {s : Nat} : ∀ {ps : List (List Nat)}, ps ≠ [] → (joinL [s] ps).length + 1 = (ps.map fun p => p.length + 1).sum
  | [p], _ => by simp [joinL]
  | p :: q :: ps, _ => by
    rw [joinL_cons (by simp)]
    have ih := joinL_len (s := s) (ps := q :: ps) (by simp)
    rw [List.map_cons, List.sum_cons, ← ih]
    simp only [List.length_append, List.length_cons, List.length_nil]
    omega
/-- blank-free stretches are at most so long -/
def Bf (L : Nat) (l : List Nat) : Prop := ∀ a m c, l = a ++ m ++ c → 32 ∉ m → m.length ≤ L
theorem Bf.sub {L : Nat} {l a m c : List Nat} (h : Bf L l) (e : l = a ++ m ++ c) : Bf L m := fun a' m' c' e' hf => h (a ++ a') m' (c' ++ c) (by rw [e, e']; simp) hf
theorem split_join_tl {x y : Str} (hy : tl y ≠ []) (hk : y.cps.all (· < 256) = true) : joinL (tl y) ((Txt.split x y).map tl) = tl x := by
  rw [split_spl x y hy (kind_ok hk), joinL_spl hy _ _ [] (Nat.le_refl _), List.nil_append]
theorem split_ne {x y : Str} (hy : tl y ≠ []) (hk : y.cps.all (· < 256) = true) : Txt.split x y ≠ [] := by
  intro e
  have := split_spl x y hy (kind_ok hk)
  rw [e] at this
  exact spl_ne _ _ _ _ this.symm
theorem split_sub {x y p : Str} (hy : tl y ≠ []) (hk : y.cps.all (· < 256) = true) (hp : p ∈ Txt.split x y) : ∃ a c, tl x = a ++ tl p ++ c := by
  rw [← split_join_tl hy hk]
  exact joinL_sub (List.mem_map.mpr ⟨p, hp, rfl⟩)
theorem sp_ne : tl (" " : Str) ≠ [] := by decide +kernel
theorem cs_ne : tl (", " : Str) ≠ [] := by decide +kernel
theorem sp_k : (" " : Str).cps.all (· < 256) = true := by decide +kernel
theorem cs_k : (", " : Str).cps.all (· < 256) = true := by decide +kernel
theorem split_free {x p : Str} (hp : p ∈ Txt.split x " ") : 32 ∉ tl p := by
  have e := split_spl x " " sp_ne (kind_ok sp_k)
  rw [t_sp] at e
  exact spl_free (tl x) [] (by simp) (tl p) (by rw [← e]; exact List.mem_map.mpr ⟨p, hp, rfl⟩)
theorem asc_sub {L : Nat} {x p : Str} (h : Asc L x) (e : ∃ a c, tl x = a ++ tl p ++ c) : Asc L p := by
  obtain ⟨a, c, e⟩ := e
  refine ⟨?_, fun d hd => h.2 d (by rw [e]; simp [hd])⟩
  have h1 : (tl x).length ≤ L := by rw [← len_tl]; exact h.1
  rw [e, List.length_append, List.length_append] at h1
  rw [len_tl]
  omega
theorem bf_sub {L : Nat} {x p : Str} (h : Bf L (tl x)) (e : ∃ a c, tl x = a ++ tl p ++ c) : Bf L (tl p) := by
  obtain ⟨a, c, e⟩ := e
  exact h.sub e
theorem part_len {L : Nat} {x p : Str} (h : Bf L (tl x)) (hp : p ∈ Txt.split x " ") : p.length ≤ L := by
  obtain ⟨a, c, e⟩ := split_sub sp_ne sp_k hp
  rw [len_tl]
  exact h _ _ _ e (split_free hp)
theorem join_back {x : Str} {ps : List Str} (h : Txt.split x " " = ps) : Txt.join " " ps = x := by
  refine ext_tl ?_
  rw [join_eq, tl_join, ← h, split_join_tl sp_ne sp_k]
theorem parts_sum' {x : Str} : ((Txt.split x " ").map fun p => p.length + 1).sum = x.length + 1 := by
  have e := split_join_tl (x := x) sp_ne sp_k
  rw [t_sp] at e
  have := joinL_len (s := 32) (ps := (Txt.split x " ").map tl) (by
    intro z
    exact split_ne (x := x) sp_ne sp_k (List.map_eq_nil_iff.mp z))
  rw [e, ← len_tl, List.map_map] at this
  rw [this]
  exact congrArg List.sum (List.map_congr_left fun p _ => by show p.length + 1 = (tl p).length + 1; rw [len_tl])
/-- the depth by the text -/
theorem deep_len : ∀ t : Tm, 3 * t.deep ≤ t.txt.length
  | .v n => by simp [Tm.deep]
  | .z => by simp [Tm.deep]
  | .s t => by
    have ih := deep_len t
    have e : (Tm.s t).txt.length = t.txt.length + 3 := by
      show (("s" : Str) ++ "(" ++ Txt.join "," [t.txt] ++ ")").length = _
      rw [join1, slen, slen, slen]
      have a : ("s" : Str).length = 1 := by decide +kernel
      have b : ("(" : Str).length = 1 := by decide +kernel
      have c : (")" : Str).length = 1 := by decide +kernel
      omega
    rw [e]; simp only [Tm.deep]; omega
  | .f l r => by
    have ih1 := deep_len l
    have ih2 := deep_len r
    have e : (Tm.f l r).txt.length = l.txt.length + r.txt.length + 4 := by
      show (("f" : Str) ++ "(" ++ Txt.join "," [l.txt, r.txt] ++ ")").length = _
      rw [join2, slen, slen, slen, slen, slen]
      have a : ("f" : Str).length = 1 := by decide +kernel
      have b : ("(" : Str).length = 1 := by decide +kernel
      have c : (")" : Str).length = 1 := by decide +kernel
      have d : ("," : Str).length = 1 := by decide +kernel
      omega
    rw [e]; simp only [Tm.deep]; omega
end Rp

set_option maxHeartbeats 8000000
/-! atom_or_none, atoms_or_nones of any text. -/
namespace Rp
open PySem PySem.Spec PyProof.Rows L2 TL StX CwR
def dO : Option Tm → PyData
  | some t => tmD t
  | none => .none
theorem TmO.dat {H : Hp} {b : Addr} {v : V} {o : Option Tm} (h : TmO H v o) : DAt H b v (dO o) := by
  cases o with
  | none => unfold dO DAt; exact h
  | some t => exact (show TmAt H v t from h).dat
theorem TmO.mono {H H' : Hp} (e : ∀ a xs, H a = some (.tup xs) → H' a = some (.tup xs)) {v : V} {o : Option Tm} (h : TmO H v o) : TmO H' v o := by
  cases o with
  | none => exact h
  | some t => exact TmAt.mono e (show TmAt H v t from h)
def TmOs (H : Hp) : List V → List Str → Prop
  | [], [] => True
  | v :: vs, x :: xs => TmO H v (toTm x) ∧ TmOs H vs xs
  | _, _ => False
theorem TmOs.len {H : Hp} : ∀ {vs : List V} {xs : List Str}, TmOs H vs xs → vs.length = xs.length
  | [], [], _ => rfl
  | _ :: _, _ :: _, h => congrArg (· + 1) (TmOs.len h.2)
theorem TmOs.mono {H H' : Hp} (e : ∀ a xs, H a = some (.tup xs) → H' a = some (.tup xs)) : ∀ {vs : List V} {xs : List Str}, TmOs H vs xs → TmOs H' vs xs
  | [], [], _ => trivial
  | _ :: _, _ :: _, h => ⟨h.1.mono e, TmOs.mono e h.2⟩
theorem TmOs.snoc {H : Hp} {v : V} {x : Str} (hv : TmO H v (toTm x)) : ∀ {vs : List V} {xs : List Str}, TmOs H vs xs → TmOs H (vs ++ [v]) (xs ++ [x])
  | [], [], _ => ⟨hv, trivial⟩
  | _ :: _, _ :: _, h => ⟨h.1, TmOs.snoc hv h.2⟩
theorem TmOs.dat {H : Hp} {b : Addr} : ∀ {vs : List V} {xs : List Str}, TmOs H vs xs → DAtAll H b vs (xs.map fun x => dO (toTm x))
  | [], [], _ => by unfold DAtAll; rfl
  | v :: vs, x :: xs, h => by
    rw [List.map_cons]
    unfold DAtAll
    exact ⟨v, vs, rfl, h.1.dat, TmOs.dat h.2⟩
theorem TmOs.all {H : Hp} : ∀ {vs : List V} {xs : List Str} {ts : List Tm}, TmOs H vs xs → xs.map toTm = ts.map some → AllAt H vs ts
  | [], [], [], _, _ => trivial
  | v :: vs, x :: xs, t :: ts, h, e => by
    rw [List.map_cons, List.map_cons] at e
    injection e with e1 e2
    have h1 := h.1
    rw [e1] at h1
    exact ⟨h1, TmOs.all h.2 e2⟩
def IsAx (x : Str) (a : At) : Prop := AtOk 50 a ∧ atxt a = x
theorem ax_split {x : Str} {a : At} (h : IsAx x a) : Txt.split x " " = parts a := by
  rw [← h.2]; exact atxt_split h.1
theorem txs_one : ∀ {ts us : List Tm}, (∀ t ∈ ts, t.small) → (∀ t ∈ us, t.small) → ts.map Tm.txt = us.map Tm.txt → ts = us
  | [], [], _, _, _ => rfl
  | [], _ :: _, _, _, h => by simp at h
  | _ :: _, [], _, _, h => by simp at h
  | t :: ts, u :: us, ht, hu, h => by
    rw [List.map_cons, List.map_cons] at h
    injection h with h1 h2
    rw [tx_one ⟨ht t (by simp), h1⟩ ⟨hu u (by simp), rfl⟩, txs_one (fun v hv => ht v (by simp [hv])) (fun v hv => hu v (by simp [hv])) h2]
theorem ax_one {x : Str} {a b : At} (h : IsAx x a) (h' : IsAx x b) : a = b := by
  have e := (ax_split h).symm.trans (ax_split h')
  unfold parts at e
  injection e with e1 e2
  have := txs_one (fun t ht => (h.1.sm t ht).1) (fun t ht => (h'.1.sm t ht).1) e2
  cases a; cases b
  simp only at e1 this
  rw [e1, this]
open Classical in
noncomputable def toAt (x : Str) : Option At := if h : ∃ a, IsAx x a then some h.choose else none
theorem toAt_iff {x : Str} {a : At} : toAt x = some a ↔ IsAx x a := by
  unfold toAt
  constructor
  · intro h
    split at h
    · rename_i e
      obtain rfl := Option.some.inj h
      exact e.choose_spec
    · cases h
  · intro h
    have e : ∃ a, IsAx x a := ⟨a, h⟩
    rw [dif_pos e]
    exact congrArg some (ax_one e.choose_spec h)
theorem toAt_none {x : Str} : toAt x = none ↔ ∀ a, ¬ IsAx x a := by
  constructor
  · intro h t ht
    rw [toAt_iff.mpr ht] at h; cases h
  · intro h
    cases e : toAt x with
    | none => rfl
    | some t => exact absurd (toAt_iff.mp e) (h t)
def AtO (H : Hp) (v : V) : Option At → Prop
  | some a => AtAt H v a
  | none => v = .non
theorem AtO.mono {H H' : Hp} (e : ∀ a xs, H a = some (.tup xs) → H' a = some (.tup xs)) {v : V} {o : Option At} (h : AtO H v o) : AtO H' v o := by
  cases o with
  | none => exact h
  | some t => exact atAt_mono e (show AtAt H v t from h)
theorem AtO.same {H H' : Hp} {v : V} {o : Option At} (h : AtO H v o) (s : Same H H') : AtO H' v o := h.mono fun _ _ z => s _ _ z
/-- a text whose atoms are no great ones -/
structure Fit (x : Str) : Prop where
  asc : Asc 430 x
  bf : Bf 118 (tl x)
theorem Fit.sub {x p : Str} (h : Fit x) (e : ∃ a c, tl x = a ++ tl p ++ c) : Fit p := ⟨asc_sub h.asc e, bf_sub h.bf e⟩
/-- what the parts say -/
theorem ax_of {x nm : Str} {rest : List Str} (hx : Fit x) (e : Txt.split x " " = nm :: rest) (hn : NameOk nm) (l1 : 1 ≤ rest.length) (l2 : rest.length ≤ 2) {ts : List Tm} (h : rest.map toTm = ts.map some) : IsAx x ⟨nm, ts⟩ := by
  have ll : rest.length = ts.length := by have := congrArg List.length h; simpa using this
  have each : ∀ {rest : List Str} {ts : List Tm}, rest.map toTm = ts.map some → (∀ p ∈ rest, p.length ≤ 118) → ts.map Tm.txt = rest ∧ ∀ t ∈ ts, t.small ∧ t.size ≤ 50 := by
    intro rest
    induction rest with
    | nil => intro ts h _; cases ts with
      | nil => exact ⟨rfl, by simp⟩
      | cons t ts => simp at h
    | cons p rest ih =>
      intro ts h hl
      cases ts with
      | nil => simp at h
      | cons t ts =>
        rw [List.map_cons, List.map_cons] at h
        injection h with h1 h2
        obtain ⟨sm, tx⟩ := toTm_iff.mp h1
        obtain ⟨i1, i2⟩ := ih h2 fun q hq => hl q (by simp [hq])
        refine ⟨by rw [List.map_cons, tx, i1], fun u hu => ?_⟩
        rcases List.mem_cons.mp hu with rfl | hu
        · have := size_len u sm
          rw [tx] at this
          have := hl p (by simp)
          exact ⟨sm, by omega⟩
        · exact i2 u hu
  obtain ⟨e1, e2⟩ := each h fun p hp => part_len hx.bf (by rw [e]; simp [hp])
  refine ⟨⟨hn, by show 1 ≤ ts.length; omega, by show ts.length ≤ 2; omega, e2⟩, ?_⟩
  show Txt.join " " (nm :: ts.map Tm.txt) = x
  rw [e1, join_back e]
theorem asc_lay {x : Str} (h : ∀ c ∈ tl x, c < 128) : PyData.canLay0 (.str x) = true := by
  show x.cps.all (· < 0x110000) = true
  rw [Array.all_eq_true']
  intro c hc
  have := h c (Array.mem_toList_iff.mpr hc)
  exact decide_eq_true (by omega)
theorem dO_lay {x : Str} (l : x.length ≤ 118) : (dO (toTm x)).canLay0 = true ∧ (dO (toTm x)).depth ≤ 50 ∧ nd (dO (toTm x)) ≤ 2 * (x.length + 1) := by
  cases e : toTm x with
  | none => exact ⟨rfl, Nat.zero_le _, by show nd .none ≤ _; simp [nd]; omega⟩
  | some t =>
    obtain ⟨sm, tx⟩ := toTm_iff.mp e
    obtain ⟨c1, c2, c3⟩ := tm_ok t
    have d := deep_len t
    have z := size_len t sm
    rw [tx] at d z
    exact ⟨c1, by show (tmD t).depth ≤ 50; omega, by show nd (tmD t) ≤ _; omega⟩
theorem dOs_lay : ∀ {xs : List Str}, (∀ x ∈ xs, x.length ≤ 118) → PyData.canLayAll0 (xs.map fun x => dO (toTm x)) = true ∧ PyData.depthAll (xs.map fun x => dO (toTm x)) ≤ 50 ∧ ndAll (xs.map fun x => dO (toTm x)) ≤ 2 * (xs.map fun x => x.length + 1).sum
  | [], _ => ⟨rfl, by simp [PyData.depthAll], by simp [ndAll]⟩
  | x :: xs, h => by
    obtain ⟨a1, a2, a3⟩ := dO_lay (h x (by simp))
    obtain ⟨b1, b2, b3⟩ := dOs_lay (xs := xs) fun y hy => h y (by simp [hy])
    refine ⟨?_, ?_, ?_⟩
    · simp only [List.map_cons, PyData.canLayAll0, a1, b1]; rfl
    · simp only [List.map_cons, PyData.depthAll]; omega
    · simp only [List.map_cons, ndAll, List.sum_cons]; omega
def spAtomG : Sp := fun vs H Q _ => ∃ x : Str, vs = [.str x] ∧ Fit x ∧ ∀ (v : V) (H' : Hp), AtO H' v (toAt x) → Same H H' → Q v H'
section
variable {P : Program} {w : World} {K : PySem.W.Frag} {mg : Str → Option Value} {base : Heap}
theorem scAtomOr : FnScope ["text", "name", "terms", "atom", "term"] ["text"] (defScope sAtomOr) := ⟨rfl, rfl, rfl, by decide +kernel, rfl, by decide +kernel, by decide +kernel⟩
theorem ok_atomg {f fT fI : Addr} {fd dT dI : FuncData} (F : Fun K "atom_or_none" "atom_or_none" sAtomOr f fd)
    (GT : FnOk P w K mg base CX0 5 fT dT ["text"] spTermG) (kT : PySem.W.keepIn K (.ref fT) = true) (bT : Binds K dT ["text"] []) (mT : mg "term_or_none" = some (.ref fT))
    (GI : FnOk P w K mg base CX0 4 fI dI ["thing"] spIsAm) (kI : PySem.W.keepIn K (.ref fI) = true) (bI : Binds K dI ["thing"] []) (mI : mg "is_atom" = some (.ref fI)) : FnOk P w K mg base CX0 6 f fd ["text"] spAtomG := by
  refine F.ok scAtomOr (fun vs H Q E h => ?_) (fun cdv A outer s H vs Q E hr h => ?_)
  · obtain ⟨a, rfl, _⟩ := h
    rfl
  obtain ⟨x, rfl, fx, q⟩ := h
  have r4 : Room 4 _ := hr.mono (by decide)
  refine ⟨_, pss_cons (ps_asg (pe_split (pv 0) pe_str) (pg_star rfl (pgs_cons (pg_name (i := 1) scAtomOr.nd rfl (Or.inl rfl)) (pgs_star (pg_name (i := 2) scAtomOr.nd rfl (Or.inl rfl)) pgs_nil))))
    (pss_cons (ps_set (i := 3) scAtomOr.nd rfl (Or.inl rfl) (pe_tup (pa_cons (pv 1) (pa_star
      (pe_lc (own := [("term", 4)]) (g := gName 4) (tt := tYes) (te := tCall spTermG [] E0 (tCons (tVar 4) tNil)) rfl scAtomOr.nd (pi_list (pv 2)) (blkOk_by (N := ["text", "name", "terms", "atom", "term"]) (sc := defScope sAtomOr) (by decide +kernel)) (fun _ _ _ _ _ => pg_name (i := 4) scAtomOr.nd rfl (Or.inl rfl))
        (fun _ _ _ _ _ => pts_nil) (fun _ _ _ _ _ => pe_call GT hr (by rfl) mT kT bT .nil pass0 (pa_cons (pv 4) pa_nil))) pa_nil))))
    (pss_one (ps_ret (pe_ifExp (pt_val (pe_call GI r4 rfl mI kI bI .nil pass0 (pa_cons (pv 3) pa_nil))) (pv 3) pe_non)))), ?_⟩
  have big : (10000 : Nat) ≤ sizeLine := by decide
  have xl := fx.asc.1
  refine ⟨_, rfl, ⟨_, rfl⟩, x, " ", rfl, rfl, by decide +kernel, by omega, fun l hl => ?_⟩
  have sum := parts_sum' (x := x)
  have pf : ∀ p ∈ Txt.split x " ", Fit p ∧ p.length ≤ 118 := fun p hp => ⟨fx.sub (split_sub sp_ne sp_k hp), part_len fx.bf hp⟩
  have cnt : ∀ l : List Str, l.length ≤ (l.map fun p => p.length + 1).sum := by
    intro l
    induction l with
    | nil => simp
    | cons p l ih => simp; omega
  cases es : Txt.split x " " with
  | nil => exact absurd es (split_ne sp_ne sp_k)
  | cons nm rest =>
  rw [es] at sum pf
  have c0 := cnt rest
  rw [List.map_cons, List.sum_cons] at sum
  have s1 := same_new hl (.lst ((nm :: rest).map V.str))
  refine ⟨l, .str nm, rest.map V.str, rfl, .inl (.inl upd_same), by simp; omega, fun p hp => ?_⟩
  have s2 := same_new hp (.lst (rest.map V.str))
  refine ⟨_, _, rfl, _, _, rfl, rfl, ?_⟩
  have hp2 : (upd (upd H l (.lst ((nm :: rest).map V.str))) p (.lst (rest.map V.str))) p = some (.lst (rest.map V.str)) := upd_same
  refine ⟨_, rfl, _, rfl, p, rfl, ⟨_, .inl (.inl hp2)⟩, fun D hD => lc_list (K := K) (a := p) (xs := rest.map V.str) (fun i H2 => ∃ xs : List V, H2 D = some (.lst xs) ∧ TmOs H2 xs (rest.take i) ∧ Same (upd (upd H l (.lst ((nm :: rest).map V.str))) p (.lst (rest.map V.str))) H2)
    ⟨[], upd_same, trivial, same_new hD _⟩ (fun i H2 _ ⟨_, _, _, h⟩ => .inl (.inl (h _ _ hp2))) ?_ ?_⟩
  · rintro i y H2 hi ⟨xs, h2, A2, s3⟩
    rw [List.getElem?_map] at hi
    obtain ⟨z, hz, rfl⟩ := Option.map_eq_some_iff.mp hi
    have zm := List.mem_of_getElem? hz
    have xl2 := A2.len
    rw [List.length_take] at xl2
    refine ⟨rfl, ?_⟩
    refine ⟨_, rfl, z, rfl, (pf z (by simp [zm])).1.asc, fun v H3 T s4 => ?_⟩
    have h3 := s4 _ _ h2
    have keep : ∀ b zs, H3 b = some (.tup zs) → (upd H3 D (.lst (xs ++ [v]))) b = some (.tup zs) := fun b zs z => by rw [upd_ne (ne_of z h3 (by intro e; cases e))]; exact z
    have tk : rest.take (i + 1) = rest.take i ++ [z] := by rw [List.take_add_one, hz]; rfl
    refine ⟨xs, h3, by omega, xs ++ [v], upd_same, ?_, ?_⟩
    · rw [tk]
      exact (A2.mono fun b zs z => keep b zs (s4 _ _ z)).snoc (T.mono keep)
    · intro c o z
      rw [upd_ne (ne_of_none z hD)]
      exact s4 _ _ (s3 _ _ z)
  · rintro H2 ⟨xs, h2, A2, s3⟩
    rw [List.length_map, List.take_of_length_le (Nat.le_refl _)] at A2
    have xl2 := A2.len
    refine ⟨D, xs, rfl, .inr (.inl (.inl h2)), ?_⟩
    refine ⟨by simp; omega, fun g hg => ?_⟩
    have e0 : V.str nm :: (xs ++ []) = V.str nm :: xs := by simp
    rw [e0]
    have s4 := same_new hg (.tup (V.str nm :: xs))
    have A4 : TmOs (upd H2 g (.tup (V.str nm :: xs))) xs rest := A2.mono fun b zs z => s4 _ _ z
    have sA : Same H _ := s1.trans (s2.trans (s3.trans s4))
    have hg4 : (upd H2 g (.tup (V.str nm :: xs))) g = some (.tup (V.str nm :: xs)) := upd_same
    generalize upd H2 g (.tup (V.str nm :: xs)) = H4 at A4 sA hg4 ⊢
    obtain ⟨y1, y2, y3⟩ := dOs_lay (xs := rest) fun z hz => (pf z (by simp [hz])).2
    have na := (pf nm (by simp)).1.asc
    have cl : PyData.canLayAll0 (.str nm :: rest.map fun x => dO (toTm x)) = true := by simp only [PyData.canLayAll0, asc_lay na.2, y1]; rfl
    have Dt : DAt H4 0 (.ref g) (.tuple (.str nm :: rest.map fun x => dO (toTm x))) := by
      unfold DAt
      refine ⟨g, _, rfl, .inl hg4, ?_⟩
      unfold DAtAll
      exact ⟨.str nm, xs, rfl, by unfold DAt; rfl, A4.dat⟩
    refine ⟨_, rfl, 0, _, _, rfl, Dt, ⟨?_, ?_⟩, ?_, fun z ds ez => ?_, fun r H5 hr' s5 => ⟨r, rfl, ?_⟩⟩
    · show PyData.canLayAll0 _ = true
      exact cl
    · show PyData.depthAll (.str nm :: rest.map fun x => dO (toTm x)) + 1 ≤ 60
      simp only [PyData.depthAll, PyData.depth]; omega
    · show nd (.tuple (.str nm :: rest.map fun x => dO (toTm x))) ≤ 1000
      simp only [nd, ndAll]; omega
    · injection ez with ez
      injection ez with ez1 _
      injection ez1 with ez1
      subst ez1
      have := na.1; omega
    · cases r with
      | true =>
        obtain ⟨nm', es', e1, hn, l1, l2, hT⟩ := hr'.mp rfl
        injection e1 with e1
        injection e1 with e1 e2
        injection e1 with e1
        subst e1 e2
        rw [List.length_map] at l1 l2
        obtain ⟨ts, et⟩ : ∃ ts : List Tm, rest.map toTm = ts.map some := by
          have : ∀ l : List Str, (∀ e ∈ l.map (fun x => dO (toTm x)), IsT e) → ∃ ts : List Tm, l.map toTm = ts.map some := by
            intro l
            induction l with
            | nil => intro _; exact ⟨[], rfl⟩
            | cons y l ih =>
              intro h
              obtain ⟨ts, e⟩ := ih fun z hz => h z (by rw [List.map_cons]; exact List.mem_cons_of_mem _ hz)
              have hy := h (dO (toTm y)) (by simp)
              cases e2 : toTm y with
              | none =>
                rw [e2] at hy
                obtain ⟨t, h1, _⟩ := hy
                cases t <;> cases h1
              | some t => exact ⟨t :: ts, by rw [List.map_cons, List.map_cons, e2, e]⟩
          exact this rest hT
        have ax := ax_of fx es hn l1 l2 et
        refine iteT ⟨_, rfl, q _ H5 ?_ (sA.trans s5)⟩
        rw [toAt_iff.mpr ax]
        exact ⟨g, xs, rfl, s5 _ _ hg4, (A4.all et).mono fun b zs z => s5 _ _ z⟩
      | false =>
        refine iteF ?_
        refine q .non H5 ?_ (sA.trans s5)
        rw [toAt_none.mpr fun a ha => ?_]
        · rfl
        have sp := ax_split ha
        rw [es] at sp
        unfold parts at sp
        injection sp with sp1 sp2
        subst sp1 sp2
        have : IsAm (.tuple (.str a.nm :: (a.ts.map Tm.txt).map fun x => dO (toTm x))) := by
          refine ⟨a.nm, _, rfl, ha.1.nm, by simpa using ha.1.one, by simpa using ha.1.two, fun e he => ?_⟩
          obtain ⟨y, hy, rfl⟩ := List.mem_map.mp he
          obtain ⟨t, ht, rfl⟩ := List.mem_map.mp hy
          rw [toTm_iff.mpr ⟨(ha.1.sm t ht).1, rfl⟩]
          exact ⟨t, rfl, (ha.1.sm t ht).1⟩
        exact absurd (hr'.mpr this) (by simp)
end
end Rp

set_option maxHeartbeats 8000000
/-! atoms_or_nones, saying_or_none of any text. -/
namespace Rp
open PySem PySem.Spec PyProof.Rows L2 TL StX CwR
theorem btxt_split {as : List At} (ok : AtsOk as) (e : as ≠ []) : Txt.split (btxt as) ", " = as.map atxt := by
  unfold btxt
  exact split_fol t_cs cs_k (by simpa using e) fun p hp => by
    obtain ⟨a, ha, rfl⟩ := List.mem_map.mp hp
    exact atxt_com (ok.ok a ha)
def dA : Option At → PyData
  | some a => atD a
  | none => .none
theorem AtO.dat {H : Hp} {b : Addr} {v : V} {o : Option At} (h : AtO H v o) : DAt H b v (dA o) := by
  cases o with
  | none => unfold dA DAt; exact h
  | some a =>
    obtain ⟨p, xs, rfl, hp, A⟩ := (show AtAt H v a from h)
    unfold dA atD DAt
    refine ⟨p, _, rfl, .inl hp, ?_⟩
    unfold DAtAll
    refine ⟨_, xs, rfl, by unfold DAt; rfl, ?_⟩
    have all : ∀ {xs : List V} {ts : List Tm}, AllAt H xs ts → DAtAll H b xs (ts.map tmD) := by
      intro xs
      induction xs with
      | nil => intro ts A; cases ts with
        | nil => unfold DAtAll; rfl
        | cons t ts => exact A.elim
      | cons x xs ih =>
        intro ts A
        cases ts with
        | nil => exact A.elim
        | cons t ts =>
          rw [List.map_cons]
          unfold DAtAll
          exact ⟨x, xs, rfl, A.1.dat, ih A.2⟩
    exact all A
def AtOs (H : Hp) : List V → List Str → Prop
  | [], [] => True
  | v :: vs, x :: xs => AtO H v (toAt x) ∧ AtOs H vs xs
  | _, _ => False
theorem AtOs.len {H : Hp} : ∀ {vs : List V} {xs : List Str}, AtOs H vs xs → vs.length = xs.length
  | [], [], _ => rfl
  | _ :: _, _ :: _, h => congrArg (· + 1) (AtOs.len h.2)
theorem AtOs.mono {H H' : Hp} (e : ∀ a xs, H a = some (.tup xs) → H' a = some (.tup xs)) : ∀ {vs : List V} {xs : List Str}, AtOs H vs xs → AtOs H' vs xs
  | [], [], _ => trivial
  | _ :: _, _ :: _, h => ⟨h.1.mono e, AtOs.mono e h.2⟩
theorem AtOs.same {H H' : Hp} (s : Same H H') {vs : List V} {xs : List Str} (h : AtOs H vs xs) : AtOs H' vs xs := h.mono fun _ _ z => s _ _ z
theorem AtOs.snoc {H : Hp} {v : V} {x : Str} (hv : AtO H v (toAt x)) : ∀ {vs : List V} {xs : List Str}, AtOs H vs xs → AtOs H (vs ++ [v]) (xs ++ [x])
  | [], [], _ => ⟨hv, trivial⟩
  | _ :: _, _ :: _, h => ⟨h.1, AtOs.snoc hv h.2⟩
theorem AtOs.dat {H : Hp} {b : Addr} : ∀ {vs : List V} {xs : List Str}, AtOs H vs xs → DAtAll H b vs (xs.map fun x => dA (toAt x))
  | [], [], _ => by unfold DAtAll; rfl
  | v :: vs, x :: xs, h => by
    rw [List.map_cons]
    unfold DAtAll
    exact ⟨v, vs, rfl, h.1.dat, AtOs.dat h.2⟩
theorem AtOs.all {H : Hp} : ∀ {vs : List V} {xs : List Str} {as : List At}, AtOs H vs xs → xs.map toAt = as.map some → AtsAt H vs as
  | [], [], [], _, _ => trivial
  | v :: vs, x :: xs, t :: ts, h, e => by
    rw [List.map_cons, List.map_cons] at e
    injection e with e1 e2
    have h1 := h.1
    rw [e1] at h1
    exact ⟨h1, AtOs.all h.2 e2⟩
/-- what stands apart at commas -/
theorem cs_sum {x : Str} : ((Txt.split x ", ").map fun p => p.length + 2).sum = x.length + 2 := by
  have e := split_join_tl (x := x) cs_ne cs_k
  rw [t_cs] at e
  have two : ∀ {ps : List (List Nat)}, ps ≠ [] → (joinL [44, 32] ps).length + 2 = (ps.map fun p => p.length + 2).sum := by
    intro ps
    induction ps with
    | nil => intro h; exact absurd rfl h
    | cons p ps ih =>
      intro _
      cases ps with
      | nil => simp [joinL]
      | cons q r =>
        rw [joinL_cons (by simp), List.map_cons, List.sum_cons, ← ih (by simp)]
        simp only [List.length_append, List.length_cons, List.length_nil]
        omega
  have := two (ps := (Txt.split x ", ").map tl) (by
    intro z
    exact split_ne (x := x) cs_ne cs_k (List.map_eq_nil_iff.mp z))
  rw [e, ← len_tl, List.map_map] at this
  rw [this]
  exact congrArg List.sum (List.map_congr_left fun p _ => by show p.length + 2 = (tl p).length + 2; rw [len_tl])
theorem dA_lay (x : Str) : (dA (toAt x)).canLay0 = true ∧ (dA (toAt x)).depth ≤ 52 ∧ nd (dA (toAt x)) ≤ 2 * (x.length + 1) ∧ shS (dA (toAt x)) := by
  cases e : toAt x with
  | none => exact ⟨rfl, Nat.zero_le _, by show nd .none ≤ _; simp [nd]; omega, by unfold dA shS; trivial⟩
  | some a =>
    obtain ⟨ok, tx⟩ := toAt_iff.mp e
    obtain ⟨c1, c2⟩ := at_lay ok
    have sp := ax_split (toAt_iff.mp e)
    have sum := parts_sum' (x := x)
    rw [sp] at sum
    unfold parts at sum
    rw [List.map_cons, List.sum_cons] at sum
    have nl := ok.nm.pos
    have few := ok.nm.few
    have nds : ∀ ts : List Tm, (∀ t ∈ ts, t.small) → ndAll (ts.map tmD) ≤ 2 * ((ts.map Tm.txt).map fun p => p.length + 1).sum := by
      intro ts
      induction ts with
      | nil => intro _; simp [ndAll]
      | cons t ts ih =>
        intro h
        have := (tm_ok t).2.2
        have := size_len t (h t (by simp))
        have := ih fun u hu => h u (by simp [hu])
        simp only [List.map_cons, ndAll, List.sum_cons]
        omega
    have := nds a.ts fun t ht => (ok.sm t ht).1
    refine ⟨c1, c2, ?_, ?_⟩
    · show nd (.tuple (.str a.nm :: a.ts.map tmD)) ≤ _
      simp only [nd, ndAll]; omega
    · show shS (.tuple (.str a.nm :: a.ts.map tmD))
      unfold shS
      refine ⟨by rw [List.length_cons, List.length_map]; have := ok.two; omega, shAll_iff.mpr fun d hd => ?_⟩
      rcases List.mem_cons.mp hd with rfl | hd
      · unfold shS; omega
      · obtain ⟨t, _, rfl⟩ := List.mem_map.mp hd
        have tms : ∀ t : Tm, shS (tmD t) := by
          intro t
          induction t with
          | v n => unfold tmD shS; trivial
          | z =>
            unfold tmD shS
            exact ⟨by simp, shAll_iff.mpr fun d hd => by
              obtain rfl : d = .str "0" := by simpa using hd
              unfold shS; decide +kernel⟩
          | s t ih =>
            unfold tmD shS
            refine ⟨by simp, shAll_iff.mpr fun d hd => ?_⟩
            rcases List.mem_cons.mp hd with rfl | hd
            · unfold shS; decide +kernel
            · obtain rfl : d = tmD t := by simpa using hd
              exact ih
          | f l r ih1 ih2 =>
            unfold tmD shS
            refine ⟨by simp, shAll_iff.mpr fun d hd => ?_⟩
            rcases List.mem_cons.mp hd with rfl | hd
            · unfold shS; decide +kernel
            · rcases List.mem_cons.mp hd with rfl | hd
              · exact ih1
              · obtain rfl : d = tmD r := by simpa using hd
                exact ih2
        exact tms t
theorem dAs_lay : ∀ (xs : List Str), PyData.canLayAll0 (xs.map fun x => dA (toAt x)) = true ∧ PyData.depthAll (xs.map fun x => dA (toAt x)) ≤ 52 ∧ ndAll (xs.map fun x => dA (toAt x)) ≤ 2 * (xs.map fun x => x.length + 2).sum ∧ shAll (xs.map fun x => dA (toAt x))
  | [] => ⟨rfl, by simp [PyData.depthAll], by simp [ndAll], by simp [shAll]⟩
  | x :: xs => by
    obtain ⟨a1, a2, a3, a4⟩ := dA_lay x
    obtain ⟨b1, b2, b3, b4⟩ := dAs_lay xs
    refine ⟨?_, ?_, ?_, ?_⟩
    · simp only [List.map_cons, PyData.canLayAll0, a1, b1]; rfl
    · simp only [List.map_cons, PyData.depthAll]; omega
    · simp only [List.map_cons, ndAll, List.sum_cons]; omega
    · simp only [List.map_cons, shAll]; exact ⟨a4, b4⟩
def spAtomsG : Sp := fun vs H Q _ => ∃ x : Str, vs = [.str x] ∧ Fit x ∧ ∀ (b : Addr) (xs : List V) (H' : Hp), H' b = some (.tup xs) → AtOs H' xs (Txt.split x ", ") → Same H H' → Q (.ref b) H'
section
variable {P : Program} {w : World} {K : PySem.W.Frag} {mg : Str → Option Value} {base : Heap}
theorem scAtomsOr : FnScope ["text", "part"] ["text"] (defScope sAtomsOr) := ⟨rfl, rfl, rfl, by decide +kernel, rfl, by decide +kernel, by decide +kernel⟩
theorem ok_atomsg {f fA : Addr} {fd dA : FuncData} (F : Fun K "atoms_or_nones" "atoms_or_nones" sAtomsOr f fd)
    (GA : FnOk P w K mg base CX0 6 fA dA ["text"] spAtomG) (kA : PySem.W.keepIn K (.ref fA) = true) (bA : Binds K dA ["text"] []) (mA : mg "atom_or_none" = some (.ref fA)) (mTuple : mg "tuple" = none) : FnOk P w K mg base CX0 7 f fd ["text"] spAtomsG := by
  refine F.ok scAtomsOr (fun vs H Q E h => ?_) (fun cdv A outer s H vs Q E hr h => ?_)
  · obtain ⟨as, rfl, _⟩ := h
    rfl
  obtain ⟨x, rfl, fx, q⟩ := h
  refine ⟨_, pss_one (ps_ret (pe_callTy call_tuple_of (by rfl) mTuple (by decide +kernel) (pa_cons (pe_lc (own := [("part", 1)]) (g := gName 1) (tt := tYes) (te := tCall spAtomG [] E0 (tCons (tVar 1) tNil)) rfl scAtomsOr.nd
        (pi_list (pe_split (pv 0) pe_str)) (blkOk_by (N := ["text", "part"]) (sc := defScope sAtomsOr) (by decide +kernel)) (fun _ _ _ _ _ => pg_name (i := 1) scAtomsOr.nd rfl (Or.inl rfl))
        (fun _ _ _ _ _ => pts_nil) (fun _ _ _ _ _ => pe_call GA hr (by rfl) mA kA bA .nil pass0 (pa_cons (pv 1) pa_nil))) pa_nil))), ?_⟩
  have big : (10000 : Nat) ≤ sizeLine := by decide
  have xl := fx.asc.1
  have sum := cs_sum (x := x)
  have pf : ∀ p ∈ Txt.split x ", ", Fit p := fun p hp => fx.sub (split_sub cs_ne cs_k hp)
  have cnt : ∀ l : List Str, l.length ≤ (l.map fun p => p.length + 2).sum := by
    intro l
    induction l with
    | nil => simp
    | cons p l ih => simp; omega
  have c0 := cnt (Txt.split x ", ")
  refine ⟨_, rfl, ⟨_, rfl⟩, x, ", ", rfl, rfl, by decide +kernel, by omega, fun l hl => ?_⟩
  generalize Txt.split x ", " = ps at hl sum pf c0 q ⊢
  have s2 := same_new hl (.lst (ps.map V.str))
  refine ⟨l, rfl, ⟨_, .inl (.inl upd_same)⟩, fun D hD => lc_list (K := K) (a := l) (xs := ps.map V.str) (fun i H2 => ∃ xs : List V, H2 D = some (.lst xs) ∧ AtOs H2 xs (ps.take i) ∧ Same (upd H l (.lst (ps.map V.str))) H2)
    ⟨[], upd_same, trivial, same_new hD _⟩ (fun i H2 _ ⟨_, _, _, h⟩ => .inl (.inl (h _ _ upd_same))) ?_ ?_⟩
  · rintro i y H2 hi ⟨xs, h2, A2, s3⟩
    rw [List.getElem?_map] at hi
    obtain ⟨z, hz, rfl⟩ := Option.map_eq_some_iff.mp hi
    have xl2 := A2.len
    rw [List.length_take] at xl2
    refine ⟨rfl, ?_⟩
    refine ⟨_, rfl, z, rfl, pf z (List.mem_of_getElem? hz), fun v H3 T s4 => ⟨xs, s4 _ _ h2, by omega, xs ++ [v], upd_same, ?_, ?_⟩⟩
    · have h3 := s4 _ _ h2
      have keep : ∀ b zs, H3 b = some (.tup zs) → (upd H3 D (.lst (xs ++ [v]))) b = some (.tup zs) := fun b zs z => by rw [upd_ne (ne_of z h3 (by intro z; cases z))]; exact z
      have tk : ps.take (i + 1) = ps.take i ++ [z] := by rw [List.take_add_one, hz]; rfl
      rw [tk]
      exact (A2.mono fun b zs z => keep b zs (s4 _ _ z)).snoc (T.mono keep)
    · intro c o z
      rw [upd_ne (ne_of_none z hD)]
      exact s4 _ _ (s3 _ _ z)
  · rintro H2 ⟨xs, h2, A2, s3⟩
    rw [List.length_map, List.take_of_length_le (Nat.le_refl _)] at A2
    refine ⟨D, xs, rfl, .inl ⟨.inl (.inl h2), fun b hb => ?_⟩⟩
    have s4 := same_new hb (.tup xs)
    exact q b xs _ upd_same (A2.same s4) (s2.trans (s3.trans s4))
end
end Rp

set_option maxHeartbeats 8000000
/-! saying_or_none of any text. -/
namespace Rp
open PySem PySem.Spec PyProof.Rows L2 TL StX CwR
theorem starts_has {x y : Str} (h : Txt.startswith x y = true) : ∃ r, x = y ++ r := by
  unfold Txt.startswith at h
  rw [PySem.StrLaws.subAt_eq, Bool.and_eq_true] at h
  have e := beq_iff_eq.mp h.2
  have e : List.take y.length ((tl x).drop 0) = tl y := e
  rw [List.drop_zero] at e
  refine ⟨⟨((tl x).drop y.length).toArray⟩, ext_tl ?_⟩
  rw [tl_append, ← e]
  show tl x = List.take y.length (tl x) ++ (tl x).drop y.length
  rw [List.take_append_drop]
def IsSx (x : Str) (s : Sy) : Prop := SyOk s ∧ sytxt s = x
theorem ats_one : ∀ {as bs : List At}, (∀ a ∈ as, AtOk 50 a) → (∀ a ∈ bs, AtOk 50 a) → as.map atxt = bs.map atxt → as = bs
  | [], [], _, _, _ => rfl
  | [], _ :: _, _, _, h => by simp at h
  | _ :: _, [], _, _, h => by simp at h
  | t :: ts, u :: us, ht, hu, h => by
    rw [List.map_cons, List.map_cons] at h
    injection h with h1 h2
    rw [ax_one (x := atxt u) ⟨ht t (by simp), h1⟩ ⟨hu u (by simp), rfl⟩, ats_one (fun v hv => ht v (by simp [hv])) (fun v hv => hu v (by simp [hv])) h2]
theorem sx_one {x : Str} {a b : Sy} (h : IsSx x a) (h' : IsSx x b) : a = b := by
  have e1 := sytxt_starts h.1
  have e2 := sytxt_starts h'.1
  rw [h.2] at e1
  rw [h'.2, e1] at e2
  have e2 : (a.hs = []) ↔ (b.hs = []) := by
    by_cases c : a.hs = [] <;> by_cases d : b.hs = [] <;> simp [c, d] at e2 ⊢
  cases a with | mk ahs agl => cases b with | mk bhs bgl =>
  simp only at e2
  by_cases c : ahs = []
  · have d := e2.mp c
    subst c d
    have t1 : ("|- " : Str) ++ atxt agl = x := by rw [← h.2]; exact (sytxt_bare (s := ⟨[], agl⟩) rfl).symm
    have t2 : ("|- " : Str) ++ atxt bgl = x := by rw [← h'.2]; exact (sytxt_bare (s := ⟨[], bgl⟩) rfl).symm
    have : atxt agl = atxt bgl := by
      have := congrArg tl (t1.trans t2.symm)
      rw [tl_append, tl_append] at this
      exact ext_tl (List.append_cancel_left this)
    have e3 : agl = bgl := ax_one (x := atxt bgl) ⟨h.1.gl, this⟩ ⟨h'.1.gl, rfl⟩
    rw [e3]
  · have d : bhs ≠ [] := fun z => c (e2.mpr z)
    have p1 := sytxt_parts h.1 c
    have p2 := sytxt_parts h'.1 d
    rw [h.2] at p1
    rw [h'.2, p1] at p2
    injection p2 with q1 q2
    injection q2 with _ q2
    have s1 := btxt_split h.1.hs c
    have s2 := btxt_split h'.1.hs d
    have q1 : btxt ahs = btxt bhs := q1
    have q2 : atxt agl = atxt bgl := q2
    have s1 : Txt.split (btxt ahs) ", " = ahs.map atxt := s1
    have s2 : Txt.split (btxt bhs) ", " = bhs.map atxt := s2
    rw [q1, s2] at s1
    have e3 : agl = bgl := ax_one (x := atxt bgl) ⟨h.1.gl, q2⟩ ⟨h'.1.gl, rfl⟩
    have e4 : ahs = bhs := ats_one h.1.hs.ok h'.1.hs.ok s1.symm
    rw [e3, e4]
open Classical in
noncomputable def toSy (x : Str) : Option Sy := if h : ∃ s, IsSx x s then some h.choose else none
theorem toSy_iff {x : Str} {s : Sy} : toSy x = some s ↔ IsSx x s := by
  unfold toSy
  constructor
  · intro h
    split at h
    · rename_i e
      obtain rfl := Option.some.inj h
      exact e.choose_spec
    · cases h
  · intro h
    have e : ∃ s, IsSx x s := ⟨s, h⟩
    rw [dif_pos e]
    exact congrArg some (sx_one e.choose_spec h)
theorem toSy_none {x : Str} : toSy x = none ↔ ∀ s, ¬ IsSx x s := by
  constructor
  · intro h t ht
    rw [toSy_iff.mpr ht] at h; cases h
  · intro h
    cases e : toSy x with
    | none => rfl
    | some t => exact absurd (toSy_iff.mp e) (h t)
def SyO (H : Hp) (v : V) : Option Sy → Prop
  | some s => SyAt H v s
  | none => v = .non
theorem SyO.same {H H' : Hp} {v : V} {o : Option Sy} (h : SyO H v o) (s : Same H H') : SyO H' v o := by
  cases o with
  | none => exact h
  | some t => exact (show SyAt H v t from h).same s
def spSayG : Sp := fun vs H Q _ => ∃ x : Str, vs = [.str x] ∧ Fit x ∧ ∀ (v : V) (H' : Hp), SyO H' v (toSy x) → Same H H' → Q v H'
theorem par_some {S : List Nat} : ∀ {l acc a b : List Nat}, par S acc l = some (a, b) → acc ++ l = a ++ (S ++ b)
  | [], acc, a, b, h => by cases h
  | c :: r, acc, a, b, h => by
    cases hp : pre S (c :: r) with
    | true =>
      rw [par_hit hp] at h
      obtain ⟨rfl, rfl⟩ := Prod.mk.inj (Option.some.inj h)
      have hp : ((c :: r).take S.length == S) = true := hp
      have e := beq_iff_eq.mp hp
      have d := List.take_append_drop S.length (c :: r)
      rw [e] at d
      rw [d]
    | false =>
      rw [par_miss hp] at h
      have := par_some h
      rw [← this]
      simp
theorem part_ne : tl (" |- " : Str) ≠ [] := by decide +kernel
/-- what stands before the parting, and behind it -/
theorem partition_is {x : Str} : (∃ a b : Str, Txt.partition x " |- " = (a, (" |- " : Str), b) ∧ x = a ++ " |- " ++ b) ∨ Txt.partition x " |- " = (x, Str.empty, Str.empty) := by
  rw [partition_par x " |- " part_ne]
  cases e : par (tl (" |- " : Str)) [] (tl x) with
  | none => exact .inr rfl
  | some q =>
    obtain ⟨a, b⟩ := q
    have := par_some e
    rw [List.nil_append] at this
    refine .inl ⟨⟨a.toArray⟩, ⟨b.toArray⟩, rfl, ext_tl ?_⟩
    rw [tl_append, tl_append, this]
    show a ++ (tl (" |- " : Str) ++ b) = (a ++ tl (" |- " : Str)) ++ b
    simp
theorem empty_no {a : At} : ¬ IsAx Str.empty a := fun h => by
  have e := ax_split h
  have : Txt.split Str.empty " " = [Str.empty] := by decide +kernel
  rw [this] at e
  unfold parts at e
  injection e with e1 _
  have p := h.1.nm.pos
  rw [← e1] at p
  have : (Str.empty : Str).length = 0 := by decide +kernel
  omega
/-- the data of a saying's parts -/
theorem sy_data {H : Hp} {bq : Addr} {vg : V} {xs : List V} {ps : List Str} {y : Str} (A : AtOs H xs ps) (G : AtO H vg (toAt y)) (hb : H bq = some (.tup xs)) {c : Addr} (hc : H c = some (.tup [.ref bq, vg])) (sum : (ps.map fun p => p.length + 2).sum ≤ 440) (yl : y.length ≤ 430) (sm : (ps.map fun p => p.length + 2).sum + y.length ≤ 440) :
    DAt H 0 (.ref c) (.tuple [.tuple (ps.map fun x => dA (toAt x)), dA (toAt y)]) ∧ DOk (.tuple [.tuple (ps.map fun x => dA (toAt x)), dA (toAt y)]) := by
  obtain ⟨a1, a2, a3, a4⟩ := dAs_lay ps
  obtain ⟨b1, b2, b3, b4⟩ := dA_lay y
  have cnt : ∀ l : List Str, l.length ≤ (l.map fun p => p.length + 2).sum := by
    intro l
    induction l with
    | nil => simp
    | cons p l ih => simp; omega
  have c0 := cnt ps
  refine ⟨?_, ⟨⟨?_, ?_⟩, ?_, ?_⟩⟩
  · unfold DAt
    refine ⟨c, _, rfl, .inl hc, ?_⟩
    unfold DAtAll
    refine ⟨_, _, rfl, ?_, ?_⟩
    · unfold DAt
      exact ⟨bq, xs, rfl, .inl hb, A.dat⟩
    · unfold DAtAll
      exact ⟨_, _, rfl, G.dat, by unfold DAtAll; rfl⟩
  · show PyData.canLayAll0 [.tuple (ps.map fun x => dA (toAt x)), dA (toAt y)] = true
    simp only [PyData.canLayAll0, PyData.canLay0, a1, b1]; rfl
  · show PyData.depthAll [.tuple (ps.map fun x => dA (toAt x)), dA (toAt y)] + 1 ≤ 60
    simp only [PyData.depthAll, PyData.depth]; omega
  · simp only [nd, ndAll]; omega
  · unfold shS
    refine ⟨by simp, ?_⟩
    unfold shAll
    refine ⟨?_, by unfold shAll; exact ⟨b4, by simp [shAll]⟩⟩
    unfold shS
    exact ⟨by rw [List.length_map]; omega, a4⟩
theorem dA_am {x : Str} (h : IsAm (dA (toAt x))) : ∃ a, toAt x = some a := by
  cases e : toAt x with
  | some a => exact ⟨a, rfl⟩
  | none =>
    rw [e] at h
    obtain ⟨_, _, h1, _⟩ := h
    cases h1
theorem dAs_am : ∀ {ps : List Str}, (∀ h ∈ ps.map (fun x => dA (toAt x)), IsAm h) → ∃ as : List At, ps.map toAt = as.map some ∧ as.map atxt = ps ∧ (∀ a ∈ as, AtOk 50 a) ∧ ps.map (fun x => dA (toAt x)) = as.map atD
  | [], _ => ⟨[], rfl, rfl, by simp, rfl⟩
  | p :: ps, h => by
    obtain ⟨a, ea⟩ := dA_am (h (dA (toAt p)) (by simp))
    obtain ⟨as, e1, e2, e3, e4⟩ := dAs_am (ps := ps) fun d hd => h d (by rw [List.map_cons]; exact List.mem_cons_of_mem _ hd)
    obtain ⟨ok, tx⟩ := toAt_iff.mp ea
    refine ⟨a :: as, by rw [List.map_cons, List.map_cons, ea, e1], by rw [List.map_cons, tx, e2], fun b hb => ?_, by rw [List.map_cons, List.map_cons, ea, e4]; rfl⟩
    rcases List.mem_cons.mp hb with rfl | hb
    · exact ok
    · exact e3 b hb
theorem at_am {a : At} (h : AtOk 50 a) : IsAm (atD a) := ⟨a.nm, a.ts.map tmD, rfl, h.nm, by rw [List.length_map]; exact h.one, by rw [List.length_map]; exact h.two, fun e he => by
  obtain ⟨t, ht, rfl⟩ := List.mem_map.mp he
  exact ⟨t, rfl, (h.sm t ht).1⟩⟩
/-- the data is a SAYING's just where the text is -/
theorem sy_of {ps : List Str} {y : Str} (h : IsSy (.tuple [.tuple (ps.map fun x => dA (toAt x)), dA (toAt y)])) : ∃ (as : List At) (g : At), ps.map toAt = as.map some ∧ as.map atxt = ps ∧ toAt y = some g ∧ atxt g = y ∧ SyOk ⟨as, g⟩ := by
  have h := isSy_two.mp h
  obtain ⟨as, e1, e2, e3, e4⟩ := dAs_am h.am
  obtain ⟨g, eg⟩ := dA_am h.g
  obtain ⟨gok, gtx⟩ := toAt_iff.mp eg
  have nd := h.nd
  rw [e4] at nd
  have few := h.few
  rw [e4, List.length_map] at few
  exact ⟨as, g, e1, e2, eg, gtx, ⟨⟨few, e3⟩, nodup_atD.mp nd, gok⟩⟩
theorem sy_to {s : Sy} (h : SyOk s) : IsSy (.tuple [.tuple ((s.hs.map atxt).map fun x => dA (toAt x)), dA (toAt (atxt s.gl))]) := by
  have each : ∀ as : List At, (∀ a ∈ as, AtOk 50 a) → (as.map atxt).map (fun x => dA (toAt x)) = as.map atD := by
    intro as
    induction as with
    | nil => intro _; rfl
    | cons a as ih =>
      intro h
      rw [List.map_cons, List.map_cons, List.map_cons, ih fun b hb => h b (by simp [hb]), toAt_iff.mpr ⟨h a (by simp), rfl⟩]
      rfl
  rw [each _ h.hs.ok, toAt_iff.mpr ⟨h.gl, rfl⟩]
  refine isSy_two.mpr ⟨by rw [List.length_map]; exact h.hs.few, fun d hd => ?_, at_am h.gl, nodup_atD.mpr h.nd⟩
  obtain ⟨a, ha, rfl⟩ := List.mem_map.mp hd
  exact at_am (h.hs.ok a ha)
section
variable {P : Program} {w : World} {K : PySem.W.Frag} {mg : Str → Option Value} {base : Heap}
theorem scSayingOr : FnScope ["text", "saying", "hyps", "_", "goal"] ["text"] (defScope sSayingOr) := ⟨rfl, rfl, rfl, by decide +kernel, rfl, by decide +kernel, by decide +kernel⟩
theorem ok_sayg {f fA fB fI : Addr} {fd dA dB dI : FuncData} {t1 t2 : Tok} (F : Fun K "saying_or_none" "saying_or_none" sSayingOr f fd)
    (GA : FnOk P w K mg base CX0 6 fA dA ["text"] spAtomG) (kA : PySem.W.keepIn K (.ref fA) = true) (bA : Binds K dA ["text"] []) (mA : mg "atom_or_none" = some (.ref fA))
    (GB : FnOk P w K mg base CX0 7 fB dB ["text"] spAtomsG) (kB : PySem.W.keepIn K (.ref fB) = true) (bB : Binds K dB ["text"] []) (mB : mg "atoms_or_nones" = some (.ref fB))
    (GI : FnOk P w K mg base CX0 5 fI dI ["thing"] spIsSy) (kI : PySem.W.keepIn K (.ref fI) = true) (bI : Binds K dI ["thing"] []) (mI : mg "is_saying" = some (.ref fI))
    (mBare : mg "BARE" = some (.str "|- " t1)) (mPart : mg "PARTING" = some (.str " |- " t2)) (mLen : mg "len" = none) : FnOk P w K mg base CX0 8 f fd ["text"] spSayG := by
  refine F.ok scSayingOr (fun vs H Q E h => ?_) (fun cdv A outer s H vs Q E hr h => ?_)
  · obtain ⟨s, rfl, _⟩ := h
    rfl
  obtain ⟨x, rfl, fx, fin⟩ := h
  have r5 : Room 5 _ := hr.mono (by decide)
  have r6 : Room 6 _ := hr.mono (by decide)
  refine ⟨_, pss_cons (ps_if (pt_val (pe_bm PySem.F.plainAttrs_str PySem.F.slot_str_startswith PySem.F.type_str_startswith mt_startswith (pv 0) (pa_cons (pe_glob (v := .str "|- ") (by rfl) mBare ⟨_, rfl⟩) pa_nil)))
      (pss_one (ps_set (i := 1) scSayingOr.nd rfl (Or.inl rfl) (pe_tup (pa_cons (pe_tup pa_nil) (pa_cons (pe_call GA r6 rfl mA kA bA .nil pass0 (pa_cons (pe_slice sl_str (pv 0) (po_some (pe_callB call_len_str (by rfl) mLen PySem.boot_len (pa_cons (pe_glob (v := .str "|- ") (by rfl) mBare ⟨_, rfl⟩) pa_nil))) po_none) pa_nil)) pa_nil)))))
      (pss_cons (ps_asg (pe_partition (pv 0) (pe_glob (v := .str " |- ") (by rfl) mPart ⟨_, rfl⟩)) (pg_tup (by rfl) (pgs_cons (pg_name (i := 2) scSayingOr.nd rfl (Or.inl rfl)) (pgs_cons (pg_name (i := 3) scSayingOr.nd rfl (Or.inl rfl)) (pgs_cons (pg_name (i := 4) scSayingOr.nd rfl (Or.inl rfl)) pgs_nil)))))
      (pss_one (ps_set (i := 1) scSayingOr.nd rfl (Or.inl rfl) (pe_tup (pa_cons (pe_call GB hr rfl mB kB bB .nil pass0 (pa_cons (pv 2) pa_nil)) (pa_cons (pe_call GA r6 rfl mA kA bA .nil pass0 (pa_cons (pv 4) pa_nil)) pa_nil)))))))
    (pss_one (ps_ret (pe_ifExp (pt_val (pe_call GI r5 rfl mI kI bI .nil pass0 (pa_cons (pv 1) pa_nil))) (pv 1) pe_non))), ?_⟩
  have big : (10000 : Nat) ≤ sizeLine := by decide
  have sl := fx.asc.1
  refine ⟨_, rfl, rfl, _, _, rfl, rfl, _, rfl, ?_⟩
  cases st : Txt.startswith x "|- " with
  | true =>
    refine iteT ⟨(by show 0 ≤ sizeLine; decide), fun b hb => ?_⟩
    have s1 := same_new hb (.tup ([] : List V))
    obtain ⟨y, rfl⟩ : ∃ y, x = "|- " ++ y := starts_has st
    refine ⟨_, rfl, _, rfl, by rw [l_bare]; omega, _, rfl, _, rfl, by omega, ?_⟩
    rw [cutS_app]
    have fy : Fit y := fx.sub ⟨tl ("|- " : Str), [], by rw [tl_append, List.append_nil]⟩
    refine ⟨y, rfl, fy, fun v H2 T s2 => ⟨(by show 2 ≤ sizeLine; decide), fun c hc => ?_⟩⟩
    have s3 := same_new hc (.tup [V.ref b, v])
    have yl := fy.asc.1
    obtain ⟨D1, D2⟩ := sy_data (ps := []) (y := y) (xs := []) trivial (T.same s3) (s3 _ _ (s2 _ _ (upd_same : (upd H b (.tup ([] : List V))) b = _))) (c := c) upd_same (by simp) yl (by simp; omega)
    have hc3 : (upd H2 c (.tup [V.ref b, v])) c = some (.tup [V.ref b, v]) := upd_same
    have hb3 := s3 _ _ (s2 _ _ (upd_same : (upd H b (.tup ([] : List V))) b = _))
    have T3 := T.same s3
    have s13 := s1.trans (s2.trans s3)
    refine ⟨_, rfl, 0, _, _, rfl, D1, D2, fun r H4 hr4 s4 => ⟨r, rfl, ?_⟩⟩
    cases r with
    | true =>
      obtain ⟨as, g, e1, e2, eg, gtx, ok⟩ := sy_of (hr4.mp rfl)
      have : as = [] := by
        cases as with
        | nil => rfl
        | cons a l => simp at e2
      subst this
      rw [eg] at T3
      have sx : IsSx ("|- " ++ y) ⟨[], g⟩ := ⟨ok, by rw [sytxt_bare rfl, gtx]⟩
      refine iteT ⟨_, rfl, fin _ H4 ?_ (s13.trans s4)⟩
      rw [toSy_iff.mpr sx]
      exact ⟨c, b, v, [], rfl, s4 _ _ hc3, s4 _ _ hb3, trivial, atAt_same T3 s4⟩
    | false =>
      refine iteF (fin .non H4 ?_ (s13.trans s4))
      rw [toSy_none.mpr fun s hs => ?_]
      · rfl
      have e := sytxt_starts hs.1
      rw [hs.2, st] at e
      have hn : s.hs = [] := of_decide_eq_true e.symm
      have ty : atxt s.gl = y := by
        have := hs.2
        rw [sytxt_bare hn] at this
        have := congrArg tl this
        rw [tl_append, tl_append] at this
        exact ext_tl (List.append_cancel_left this)
      have := sy_to hs.1
      rw [hn, ty] at this
      exact absurd (hr4.mpr this) (by simp)
  | false =>
    refine iteF ?_
    refine ⟨_, rfl, ⟨_, rfl⟩, x, " |- ", rfl, rfl, by decide +kernel, by omega, fun g hg => ?_⟩
    have fe : Fit Str.empty := ⟨⟨by decide +kernel, by decide +kernel⟩, fun a m c e hm => by
      have : tl Str.empty = [] := by decide +kernel
      rw [this] at e
      have := congrArg List.length e
      simp at this
      omega⟩
    have le : (Str.empty : Str).length = 0 := by decide +kernel
    obtain ⟨a, sep, b, pe, fa, fb, lens, back⟩ : ∃ a sep b, Txt.partition x " |- " = (a, sep, b) ∧ Fit a ∧ Fit b ∧ a.length + b.length ≤ 430 ∧ (b ≠ Str.empty → x = a ++ " |- " ++ b) := by
      rcases partition_is (x := x) with ⟨a, b, e, ex⟩ | e
      · have l4 := l_part
        refine ⟨a, _, b, e, fx.sub ⟨[], tl (" |- " : Str) ++ tl b, by rw [ex, tl_append, tl_append]; simp⟩, fx.sub ⟨tl a ++ tl (" |- " : Str), [], by rw [ex, tl_append, tl_append]; simp⟩, ?_, fun _ => ex⟩
        rw [ex, slen, slen] at sl
        omega
      · exact ⟨x, _, Str.empty, e, fx, fe, by omega, fun z => absurd rfl z⟩
    rw [pe]
    have s1 := same_new hg (.tup [V.str a, .str sep, .str b])
    refine ⟨g, _, rfl, .inl (.inl upd_same), rfl, _, _, rfl, _, _, rfl, _, _, rfl, rfl, ?_⟩
    refine ⟨_, rfl, a, rfl, fa, fun bq xs H2 hb2 A2 s2 => ?_⟩
    refine ⟨_, rfl, b, rfl, fb, fun v H3 T s3 => ⟨(by show 2 ≤ sizeLine; decide), fun c hc => ?_⟩⟩
    have s4 := same_new hc (.tup [V.ref bq, v])
    have sum := cs_sum (x := a)
    have al := fa.asc.1
    have bl := fb.asc.1
    have A4 : AtOs (upd H3 c (.tup [V.ref bq, v])) xs (Txt.split a ", ") := (A2.same s3).same s4
    have T4 := T.same s4
    have hb4 := s4 _ _ (s3 _ _ hb2)
    have hc4 : (upd H3 c (.tup [V.ref bq, v])) c = some (.tup [V.ref bq, v]) := upd_same
    obtain ⟨D1, D2⟩ := sy_data A4 T4 hb4 hc4 (by omega) bl (by omega)
    have s14 := s1.trans (s2.trans (s3.trans s4))
    generalize upd H3 c (.tup [V.ref bq, v]) = H4 at A4 T4 hb4 hc4 D1 D2 s14 ⊢
    refine ⟨_, rfl, 0, _, _, rfl, D1, D2, fun r H5 hr5 s5 => ⟨r, rfl, ?_⟩⟩
    cases r with
    | true =>
      obtain ⟨as, g, e1, e2, eg, gtx, ok⟩ := sy_of (hr5.mp rfl)
      have ne : as ≠ [] := fun z => by
        subst z
        exact split_ne cs_ne cs_k e2.symm
      have bt : btxt as = a := by
        unfold btxt
        rw [e2]
        refine ext_tl ?_
        rw [join_eq, tl_join, split_join_tl cs_ne cs_k]
      have bne : b ≠ Str.empty := fun z => by
        subst z
        exact empty_no (toAt_iff.mp eg)
      have sx : IsSx x ⟨as, g⟩ := ⟨ok, by rw [sytxt_some ne]; show btxt as ++ " |- " ++ atxt g = x; rw [bt, gtx, ← back bne]⟩
      rw [eg] at T4
      refine iteT ⟨_, rfl, fin _ H5 ?_ (s14.trans s5)⟩
      rw [toSy_iff.mpr sx]
      exact ⟨c, bq, v, xs, rfl, s5 _ _ hc4, s5 _ _ hb4, (A4.all e1).same s5, atAt_same T4 s5⟩
    | false =>
      refine iteF (fin .non H5 ?_ (s14.trans s5))
      rw [toSy_none.mpr fun s hs => ?_]
      · rfl
      have e := sytxt_starts hs.1
      rw [hs.2, st] at e
      have hn : s.hs ≠ [] := of_decide_eq_false e.symm
      have pp := sytxt_parts hs.1 hn
      rw [hs.2, pe] at pp
      injection pp with p1 p2
      injection p2 with _ p2
      have := sy_to hs.1
      rw [← btxt_split hs.1.hs hn, ← p1, ← p2] at this
      exact absurd (hr5.mpr this) (by simp)
end
end Rp

/-! A caught exception that outlives its clause: `except X as e: kept = e`; behind the clause it is an object like others. -/
namespace Rp
open PySem PySem.Spec PyProof.Rows L2
/-- an exception object, raised or not: its class, its own dict -/
def exg (a : Addr) (cls : Value) (d : Option Addr) : HO := .ext fun h => ∃ (oe : Obj) (vs : Array Value), h.get? a = some oe ∧ Zc cls d oe ∧ oe.data = .fields vs
theorem exg_ok {P : Program} {w : World} {H : Hp} {h : Heap} {a : Addr} {cls : Value} {d : Option Addr} {oe : Obj} {vs : Array Value} (e : h.get? a = some oe) (z : Zc cls d oe) (q : oe.data = .fields vs) : ObjOk P w H h a (exg a cls d) :=
  ⟨⟨oe, vs, e, z, q⟩, ⟨oe, e⟩, fun _ _ ⟨o, v, r⟩ k => ⟨o, v, k o r.1, r.2⟩⟩
section
variable {X : Cx} {pins : List (Addr × Obj)} {σ : L2.St} {H : Hp} {s : Shared}
/-- an object that is there already comes to be tracked -/
theorem track {a : Addr} {o : HO} (I : Inv X pins σ H s) (hn : H a = none) (old : ∀ b u, X.s_0.heap.get? b = some u → b ∉ X.ex → b ≠ a) (nl : X.env.locals ≠ a) (nc : ∀ v, ¬ s.heap.IsCell a v) (np : ∀ p ∈ X.pn ++ pins, p.1 ≠ a)
    (new : ObjOk X.prog X.w (upd H a o) s.heap a o) : Inv X pins σ (upd H a o) s where
  ok := I.ok
  os := I.os
  bare := I.bare
  base :=
    { keep := I.base.keep
      slot := I.base.slot
      free := fun b u e n hx => by rw [upd_ne (old b u e hx)]; exact I.base.free b u e n hx
      there := I.base.there
      tups := fun b xs e => by
        have q := I.base.tups b xs e
        rw [upd_ne (ne_of_none q hn)]; exact q
      frzs := fun b u v e => by
        have q := I.base.frzs b u v e
        rw [upd_ne (ne_of_none q hn)]; exact q
      tbls := fun b ps e => by
        obtain ⟨m, q⟩ := I.base.tbls b ps e
        exact ⟨m, by rw [upd_ne (ne_of_none q hn)]; exact q⟩ }
  loc := I.loc
  cell := I.cell
  free := by rw [upd_ne nl]; exact I.free
  freeC := fun x c e => by
    obtain ⟨v, z⟩ := I.cell x c e
    rw [upd_ne (show c ≠ a from fun q => nc v (by rw [← q]; exact z))]
    exact I.freeC x c e
  pin := fun p hp => by
    obtain ⟨e, n, r⟩ := I.pin p hp
    exact ⟨e, by rw [upd_ne (np p hp)]; exact n, r⟩
  hok := I.hok.laidN (fun _ _ q => q) hn new
  len := I.len
end
/-- what the clause 'except x as n' that keeps its exception wishes of an exception of the body: it is the clause's own; behind the suite the exception is tracked -/
def wKeep (K : PySem.W.Frag) (c : Value) (i : Nat) (ts : Addr → Value → Option Addr → TS) (D : Ends) : WX := fun cls d σ H =>
  PySem.W.exmOne K cls c = some true ∧ ∀ a, H a = none →
    ts a cls d { nx := fun σ' H' => H' a = none → D.nx (σ'.set i none) (upd H' a (exg a cls d)), rt := fun _ _ => False, bk := fun _ _ => False, ct := fun _ _ => False } (σ.set i (some (.ref a))) H
section
variable {X : Cx} {x n : Str} {c : Value} {i : Nat} {body suite : List Stmt} {b₀ : Stmt} {npos pos pos' : Pos} {tb : WX → TS} {ts : Addr → Value → Option Addr → TS}
theorem ps_try_keep (hs : X.stack = X.env :: X.outer) (hf : X.env.frame = some X.env.locals) (hN : X.N.Nodup) (hi : X.N[i]? = some n) (hln : X.env.kindOf n = some .local) (hc : Names X x c)
    (hb : ∀ (W : WX) (pn : List (Addr × Obj)) (xe : Value → Shared → Prop), Takes (X.tr pn xe) W → PassesOwn (model X.prog X.w) X.A X.env xe → PSs (X.tr pn xe) body (tb W))
    (hsu : ∀ (a : Addr) (oe : Obj) (cls : Value) (d : Option Addr) (pn : List (Addr × Obj)), Zc cls d oe → (∃ vs, oe.data = .fields vs) → PSs (X.suite a ((a, oe) :: pn)) (b₀ :: suite) (ts a cls d)) :
    PS X (.Try body [.ExceptHandler (some (.Name x npos)) (some n) (b₀ :: suite) pos'] [] [] pos) (fun D σ H => tb (wKeep X.K c i ts D) D σ H) := by
  refine ⟨fun pins s σ H D I h => ?_⟩
  have ok := I.ok
  have hfr : X.A.frames = some (X.env :: X.outer) := by rw [ok.frames, hs]
  refine wpAny_Try_except (wpAny_mono ((hb (wKeep X.K c i ts D) (X.pn ++ pins) (fun e s₁ => wpAny (model X.prog X.w) X.A (noteFrame e X.env) (fun _ s₂ => wpAny (model X.prog X.w) X.A (setFlight e none) (fun _ s₃ =>
    wpAny (model X.prog X.w) X.A (handleBy e X.env [.ExceptHandler (some (.Name x npos)) (some n) (b₀ :: suite) pos']) (SP X pins D) X.xe s₃) X.xe s₂) X.xe s₁) (fun u s' xx => ?_) PassesOwn.looking).run [] s σ H D (I.toTry _) h) (fun f s1 hsp => ?_) (fun e s1 he => he))
  · obtain ⟨a, B, sI, pins', σ', H', cls, d, rfl, J', nb, up, sky, na, os, ag, hb1, wish⟩ := xx
    have J : Inv X pins σ' H' sI := J'.ofTry ok
    show wpAny (model X.prog X.w) X.A (noteFrame (.ref a) X.env) _ _ _
    refine Sky.land Zc.steady hfr hf (by rw [← hs]; exact sky) fun h3 fl3 up3 => ?_
    -- the exception was made behind the entry: no object of the ground, no frame
    have apart : ∀ {h : Heap}, HandSPX.FlyingZ B (X.env :: X.outer) a (Zc cls d) h → a ∉ frs (X.env :: X.outer) := fun {h} fl hm => by
      obtain ⟨oe, vs, he, _, hd⟩ := fl.there
      obtain ⟨_, o', e', hnf⟩ := fl.2.2.1.mem hm
      rw [he] at e'; cases e'
      exact hnf _ hd
    have nfr := apart fl3
    have nL : a ≠ X.env.locals := fun z => nfr (List.mem_filterMap.mpr ⟨X.env, List.mem_cons_self, by rw [hf, z]⟩)
    have nF : a ∉ X.fs := fun hm => by
      obtain ⟨e, he, q⟩ := List.mem_filterMap.mp hm
      exact nfr (List.mem_filterMap.mpr ⟨e, List.mem_cons_of_mem _ he, q⟩)
    have noI : ∀ b o, sI.heap.get? b = some o → b ≠ a := fun b o e z => by
      subst z
      have := nb b o e (by rw [hs]; exact nfr)
      rw [fl3.2.1] at this; cases this
    have old : ∀ b u, X.s_0.heap.get? b = some u → b ∉ X.ex → b ≠ a := fun b u e hx => by
      obtain ⟨o', e'⟩ := J.base.there b u e hx
      exact noI b o' e'
    have np : ∀ p ∈ X.pn ++ pins, p.1 ≠ a := fun p hp => noI _ _ (J.pin p hp).1
    obtain ⟨oe3, vs3, he3, hz3, hd3⟩ := fl3.there
    have J3 : Inv X pins σ' H' { s' with heap := h3 } := J.landed nb fl3.1 (up.trans up3) os ag
    have S3 := J3.suite he3 hd3 na nL nF
    refine wpAny_handleBy_cons (codeAny_handlers_test ?_) (by intro q; cases q)
    have LT : PySem.W.Looks (model X.prog X.w) h3 (typeOf (.ref a)) cls := fun A Q E s k q => wpAny_typeOf_ref (k _ _ he3) (by rw [hz3.1]; exact q)
    have LM := PySem.W.exm_one (M := model X.prog X.w) J3.kIn LT hb1
    have test : ∀ {Q : Value → Shared → Prop} {E : Value → Shared → Prop}, Q c { s' with heap := h3 } → wpAny (model X.prog X.w) (X.A.mark (some (.ref a))) (eval (.Name x npos) X.env) Q E { s' with heap := h3 } := fun {Q E} q => by
      obtain ⟨hg, hdbg, hm | ⟨hm, hv, hnn⟩⟩ := hc
      · exact ld_glob (X := X.suite a ((a, oe3) :: (X.pn ++ pins))) S3 hg hm q hdbg
      · exact ld_blt (X := X.suite a ((a, oe3) :: (X.pn ++ pins))) S3 hg hm hv q hnn hdbg
    refine test (LM.here ?_)
    refine codeAny_handlers_suite_as (HandSPX.lands_againZ fl3 fun h4 fl4 up4 => ?_)
    obtain ⟨oe4, vs4, he4, hz4, hd4⟩ := fl4.there
    have J4 : Inv X pins σ' H' { s' with heap := h4 } := J.landed nb fl4.1 ((up.trans up3).trans up4) os ag
    have S4 := J4.suite he4 hd4 na nL nF
    refine store_ok (X := X.suite a ((a, oe4) :: (X.pn ++ pins))) (v := .ref a) S4 hN hi (.inl hln) rfl (fun s5 S5 => ?_) (.inr hln)
    refine wpAny_mono ((hsu a oe4 cls d (X.pn ++ pins) hz4 ⟨_, hd4⟩).run [] s5 _ H' _ S5 (wish a na)) (fun f s6 hsp => ?_) (fun _ _ z => False.elim z)
    cases f with
    | next =>
      obtain ⟨σ6, H6, S6, q6⟩ := hsp
      obtain ⟨g6, n6, _⟩ := S6.pin (a, oe4) (List.mem_append_left _ List.mem_cons_self)
      have T6 := track (o := exg a cls d) (S6.unsuite ok) n6 old (Ne.symm nL) (fun v ⟨o, ho, hd⟩ => by rw [g6] at ho; cases ho; rw [hd4] at hd; cases hd) np (exg_ok g6 hz4 hd4)
      exact gone_ok T6 hN hi hln fun s7 J7 => ⟨_, _, J7, q6 n6⟩
    | brk =>
      obtain ⟨_, _, _, q6⟩ := hsp
      exact q6.elim
    | cont =>
      obtain ⟨_, _, _, q6⟩ := hsp
      exact q6.elim
    | ret u =>
      obtain ⟨_, _, _, _, _, q6⟩ := hsp
      exact q6.elim
  · cases f with
    | next =>
      obtain ⟨σ', H', J', q⟩ := hsp
      exact wpAny_execs_nil ⟨σ', H', J'.ofTry ok, q⟩
    | brk =>
      obtain ⟨σ', H', J', q⟩ := hsp
      exact ⟨σ', H', J'.ofTry ok, q⟩
    | cont =>
      obtain ⟨σ', H', J', q⟩ := hsp
      exact ⟨σ', H', J'.ofTry ok, q⟩
    | ret u =>
      obtain ⟨v, σ', H', J', r, q⟩ := hsp
      exact ⟨v, σ', H', J'.ofTry ok, r, q⟩
end
end Rp

/-! A kept exception: asked for its kind, read. -/
namespace Rp
open PySem PySem.Spec PyProof.Rows L2
/-- a kept exception: its class, what it's told with -/
def KpAt (H : Hp) (v : V) (C : Addr) (y : V) : Prop := ∃ (a d : Addr) (fs : List (Str × V)), v = .ref a ∧ H a = some (exg a (.ref C) (some d)) ∧ H d = some (.xd fs) ∧ fs.lookup ("what" : Str) = some y
theorem KpAt.same {H H' : Hp} {v : V} {C : Addr} {y : V} (h : KpAt H v C y) (s : ∀ b u, H b = some u → H' b = some u) : KpAt H' v C y := by
  obtain ⟨a, d, fs, e, h1, h2, h3⟩ := h
  exact ⟨a, d, fs, e, s _ _ h1, s _ _ h2, h3⟩
section
variable {X : Cx} {p pos : Pos} {e : Expr} {es : List Expr} {ta : TA} {te : TE}
theorem kp_inst {pins : List (Addr × Obj)} {σ : L2.St} {H : Hp} {s : Shared} {v : V} {C : Addr} {y : V} (I : Inv X pins σ H s) (h : KpAt H v C y) {u : Value} (r : RelV v u) :
    ∃ (a : Addr) (oe od : Obj), u = .ref a ∧ PySem.W.InstAt s.heap a oe C (some od) ∧ ∃ uy, PySem.W.lookIn "what" od = some (some uy) ∧ RelV y uy := by
  obtain ⟨a, d, fs, rfl, h1, h2, h3⟩ := h
  obtain rfl : u = Value.ref a := r
  obtain ⟨⟨oe, vs, ha, hz, hd⟩, _⟩ := I.hok a _ h1
  have hx : ObjOk X.prog X.w H s.heap d (.xd fs) := I.hok d _ h2
  obtain ⟨mA, hns, hr⟩ := hx
  obtain ⟨od, ho, hl⟩ := lookIn_ns hns
  obtain ⟨uy, hu, ru⟩ := RelO.some_of (v := y) (o := mA "what") (by rw [← h3]; exact hr "what")
  exact ⟨a, oe, od, rfl, ⟨ha, hz.1, by unfold PySem.W.notCls; rw [hd] <;> rfl, by rw [hz.2]; exact ho⟩, uy, by rw [hl, hu], ru⟩
/-- isinstance(e, c), isinstance(e, (c, ..)) -/
def rIsK (K : PySem.W.Frag) : List V → Hp → VK → Prop := fun xs H Q => ∃ (v c : V) (C : Addr) (y : V) (cv : Value) (b : Bool), xs = [v, c] ∧ KpAt H v C y ∧ ExcC K C ∧ ClsV c cv ∧ PySem.W.kitOne K (.ref C) cv = some b ∧ Q (.bl b) H
theorem call_isK : CallR X (.builtin "isinstance") (rIsK X.K) := by
  intro pins s σ H xs us Q I r h
  obtain ⟨v, c, C, y, cv, b, rfl, hv, E, k, e, q⟩ := h
  obtain ⟨u1, u2, rfl, r1, r2⟩ := vals2 r
  have e2 := k.eq r2
  subst e2
  obtain ⟨a, oe, od, rfl, J, _⟩ := kp_inst I hv r1
  have some_ : (PySem.W.clsIn X.K C).isSome = true := by
    obtain ⟨cd, hc, _⟩ := PySem.W.any_some E.hd
    rw [hc]; rfl
  exact PySem.W.kia_one (PySem.W.kitx_exc some_ E.hg E.hk E.hs E.ha E.hn E.ht E.hm) I.kIn J e (fun z => nomatch z) fun tk => ⟨.bl b, H, I.tok tk, rfl, q⟩
def rIsKT (K : PySem.W.Frag) : List V → Hp → VK → Prop := fun xs H Q => ∃ (v : V) (tp : Addr) (cs : List V) (C : Addr) (y : V) (us : List Value) (b : Bool), xs = [v, .ref tp] ∧ H tp = some (.tup cs) ∧ Paired ClsV cs us ∧ KpAt H v C y ∧ ExcC K C ∧ PySem.W.kitAny K (.ref C) us = some b ∧ Q (.bl b) H
theorem call_isKT : CallR X (.builtin "isinstance") (rIsKT X.K) := by
  intro pins s σ H xs us Q I r h
  obtain ⟨v, tp, cs, C, y, ws, b, rfl, hT, k, hv, E, e, q⟩ := h
  obtain ⟨u1, u2, rfl, r1, r2⟩ := vals2 r
  cases (show u2 = Value.ref tp from r2)
  obtain ⟨a, oe, od, rfl, J, _⟩ := kp_inst I hv r1
  obtain ⟨_, its, rv, o, h1, h2, n, h3⟩ := (show ObjOk X.prog X.w H s.heap tp (.tup cs) from I.hok tp _ hT)
  have e3 := ClsV.all k rv
  subst e3
  have some_ : (PySem.W.clsIn X.K C).isSome = true := by
    obtain ⟨cd, hc, _⟩ := PySem.W.any_some E.hd
    rw [hc]; rfl
  obtain ⟨oc, od', dt, sl⟩ := o
  simp only at h2 h3
  subst h2 h3
  exact PySem.W.kia_tup (PySem.W.kitx_exc some_ E.hg E.hk E.hs E.ha E.hn E.ht E.hm) I.kIn J h1 e (fun z => nomatch z) fun tk => ⟨.bl b, H, I.tok tk, rfl, q⟩
/-- e.what -/
def tKpWhat (K : PySem.W.Frag) (te : TE) : TE := fun σ H Q => te σ H fun v H1 => ∃ (C : Addr) (y : V), KpAt H1 v C y ∧ XfC K C ∧ PySem.W.findIn K (.ref C) "what" = some none ∧ Q y H1
theorem pe_kpwhat (he : PE X e te) (hb : attributeBase e "what" X.env (eval e X.env) = eval e X.env := by rfl) : PE X (.Attribute e "what" pos) (tKpWhat X.K te) := by
  refine ⟨fun pins s σ H Q I h => ?_⟩
  refine attr_of hb (thn (he.run pins s σ H _ I h) fun u s1 hh => ?_)
  obtain ⟨v, H1, I1, rx, C, y, hv, T, hno, q⟩ := hh
  obtain ⟨a, oe, od, rfl, J, uy, hl, ru⟩ := kp_inst I1 hv rx
  exact HandSPX.exc_get I1.kIn J T.ga T.gg T.exC (PySem.W.findObj_own T.hdC hno rfl hl) (handed_of ru) ⟨y, H1, I1.tok _, ru, q⟩
end
end Rp

set_option maxHeartbeats 8000000
/-! The refusal's __init__; saying_in; the law asks in a try. -/
namespace Rp
open PySem PySem.Spec PyProof.Rows L2 TL StX
def inCls (s : Stmt) (i : Nat) : Stmt := (match s with
  | .ClassDef _ _ _ b _ _ _ _ _ _ _ => b
  | _ => []).getD i (.Pass ⟨0, 0, 0, 0⟩)
abbrev sErrI : Stmt := inCls sErr 0
def spXInit (K : PySem.W.Frag) : Sp := fun vs H Q _ => ∃ (a C : Addr) (y : V), vs = [.ref a, y] ∧ OexC K C ∧ PySem.W.findIn K (.ref C) "what" = some none ∧ H a = some (exo a C none) ∧
  ∀ d H', H d = none → d ≠ a → H' = upd (upd H d (exd d [("what", y)])) a (exo a C (some d)) → Q .non H'
structure ErrK (K : PySem.W.Frag) (fI C : Addr) : Prop where
  oex : OexC K C
  ini : PySem.W.findIn K (.ref C) "__init__" = some (some (.ref fI))
  ty : PySem.W.typeIn K (.ref fI) = some (.type "function")
  wh : PySem.W.findIn K (.ref C) "what" = some none
/-- the classes that the law names -/
structure ErrG (K : PySem.W.Frag) (mg : Str → Option Value) (CE CB CR CS : Addr) : Prop where
  mE : mg "RingError" = some (.ref CE)
  mB : mg "BadText" = some (.ref CB)
  mR : mg "BadRow" = some (.ref CR)
  mS : mg "BadStep" = some (.ref CS)
  ex : PySem.W.exmOne K (.ref CB) (.ref CE) = some true
  kB : PySem.W.kitOne K (.ref CB) (.ref CB) = some true
  kV : PySem.W.kitOne K (.ref CB) (.type "ValueError") = some true
  kRS : PySem.W.kitAny K (.ref CB) [.ref CR, .ref CS] = some false
  exc : ExcC K CB
  xf : XfC K CB
  wh : PySem.W.findIn K (.ref CB) "what" = some none
def spSayIn (CB : Addr) : Sp := fun vs H Q E => ∃ x : Str, vs = [.str x] ∧ Fit x ∧ (∀ s, toSy x = some s → ∀ (v : V) (H' : Hp), SyAt H' v s → Same H H' → Q v H') ∧
  (toSy x = none → ∀ (d : Addr) (fs : List (Str × V)) (H' : Hp), H d = none → H' d = some (.xd fs) → fs.lookup ("what" : Str) = some (.str x) → Same H H' → E (.ref CB) (some d) H')
def spTold : Sp := fun vs H Q _ => ∃ x : Str, vs = [.str x] ∧ Fit x ∧ (∀ s, toSy x = some s → ∀ (v : V) (H' : Hp), SyAt H' v s → Same H H' → Q v H') ∧
  (toSy x = none → ∀ (q : Addr) (H' : Hp), H' q = some (.lst [.str "bad", .str x]) → Same H H' → Q (.ref q) H')
section
variable {P : Program} {w : World} {K : PySem.W.Frag} {mg : Str → Option Value} {base : Heap}
theorem scErrI : FnScope ["self", "what"] ["self", "what"] (defScope sErrI) := ⟨rfl, rfl, rfl, by decide +kernel, rfl, by decide +kernel, by decide +kernel⟩
theorem ok_xinit {f : Addr} {fd : FuncData} (F : Fun K "__init__" "RingError.__init__" sErrI f fd) (mV : mg "ValueError" = none) (vV : PySem.W.findCls K (.type "ValueError") (.type "type") "__init__" = some (.val (.builtin "ValueError.__init__"))) :
    FnOk P w K mg base CX0 1 f fd ["self", "what"] (spXInit K) := by
  refine F.ok scErrI (fun vs H Q E h => ?_) (fun cdv A outer s H vs Q E hr h => ?_)
  · obtain ⟨a, C, y, rfl, _⟩ := h
    rfl
  obtain ⟨a, C, y, rfl, T, hw, ha, fin⟩ := h
  refine ⟨_, pss_cons (ps_expr (pe_veinit (by rfl) mV vV (pa_cons (pv 0) (pa_cons (pv 1) pa_nil)))) (pss_one (ps_ost (pv 0) (pv 1))), ?_⟩
  refine ⟨_, rfl, _, rfl, a, C, [y], rfl, by simp, T, ha, ?_⟩
  exact ⟨_, rfl, _, rfl, a, C, rfl, T, hw, .inl ⟨ha, fun dx hdx ne => fin dx _ hdx ne rfl⟩⟩
theorem scSayIn : FnScope ["text", "saying"] ["text"] (defScope sSayingIn) := ⟨rfl, rfl, rfl, by decide +kernel, rfl, by decide +kernel, by decide +kernel⟩
theorem ok_sayin {f fO CB fX : Addr} {fd dO dX : FuncData} (F : Fun K "saying_in" "saying_in" sSayingIn f fd) (EK : ErrK K fX CB) (GX : FnOk P w K mg base CX0 1 fX dX ["self", "what"] (spXInit K)) (bX : Binds K dX ["self", "what"] []) (mCB : mg "BadText" = some (.ref CB))
    (GO : FnOk P w K mg base CX0 8 fO dO ["text"] spSayG) (kO : PySem.W.keepIn K (.ref fO) = true) (bO : Binds K dO ["text"] []) (mO : mg "saying_or_none" = some (.ref fO)) : FnOk P w K mg base (L2.CX P w) 9 f fd ["text"] (spSayIn CB) := by
  refine F.okX scSayIn (fun vs H Q E h => ?_) (fun cdv A outer s H vs Q E hr h => ?_)
  · obtain ⟨x, rfl, _⟩ := h
    rfl
  obtain ⟨x, rfl, fx, qN, qE⟩ := h
  have r2 : Room 2 _ := hr.mono (by decide)
  refine ⟨_, pss_cons (ps_set (i := 1) scSayIn.nd rfl (Or.inl rfl) (pe_call GO hr rfl mO kO bO .nil pass0 (pa_cons (pv 0) pa_nil)))
    (pss_cons (ps_if (pt_cmpR op_isN (pv 1) pe_non (nomark _)) (pss_one (ps_raise rfl (takes_of rfl rfl rfl rfl) (pmk_oex EK.oex EK.ini EK.ty GX r2 bX .nil pass0 (by rfl) mCB (pa_cons (pv 0) pa_nil)))) pss_nil)
    (pss_one (ps_ret (pv 1)))), ?_⟩
  have big : (10000 : Nat) ≤ sizeLine := by decide
  refine ⟨_, rfl, x, rfl, fx, fun v H1 T s1 => ?_⟩
  cases e : toSy x with
  | some s =>
    rw [e] at T
    have T : SyAt H1 v s := T
    have vn : v ≠ .non := by
      obtain ⟨p, q, vg, xs, rfl, _⟩ := T
      intro z; cases z
    refine ⟨_, rfl, rfl, false, congrArg V.bl (decide_eq_false vn), iteF ⟨_, rfl, qN s e v H1 T s1⟩⟩
  | none =>
    rw [e] at T
    have T : v = .non := T
    subst T
    refine ⟨_, rfl, rfl, true, rfl, iteT ?_⟩
    refine ⟨_, rfl, by simp, fun a ha => ?_⟩
    refine ⟨a, CB, .str x, rfl, EK.oex, EK.wh, upd_same, fun dd H' hd ne e' => ?_⟩
    have hd4 : H1 dd = none := by rw [upd_ne ne] at hd; exact hd
    have noH : ∀ b, H1 b = none → H b = none := fun b z => by
      cases q : H b with
      | none => rfl
      | some u => rw [s1 _ _ q] at z; cases z
    subst e'
    refine ⟨rfl, dd, [("what", .str x)], upd_same, by rw [upd_ne ne]; exact upd_same, hd4, qE e dd [("what", .str x)] _ (noH _ hd4) upd_same (by simp) fun b o z => ?_⟩
    have nb : b ≠ a := ne_of_none (s1 _ _ z) ha
    have nd : b ≠ dd := ne_of_none (s1 _ _ z) hd4
    rw [upd_ne nd, del_ne nb, upd_ne nb, upd_ne nd, upd_ne nb]
    exact s1 _ _ z
theorem scTold : FnScope ["_law_text", "_law_found", "_law_caught", "error"] ["_law_text"] (defScope sLawTold) := ⟨rfl, rfl, rfl, by decide +kernel, rfl, by decide +kernel, by decide +kernel⟩
theorem ok_told {f fS CE CB CR CS : Addr} {fd dS : FuncData} (F : Fun K "_law_told" "_law_told" sLawTold f fd) (G : ErrG K mg CE CB CR CS)
    (GS : FnOk P w K mg base (L2.CX P w) 9 fS dS ["text"] (spSayIn CB)) (kS : PySem.W.keepIn K (.ref fS) = true) (bS : Binds K dS ["text"] []) (mS : mg "saying_in" = some (.ref fS)) (mIsi : mg "isinstance" = none) (mV : mg "ValueError" = none) :
    FnOk P w K mg base CX0 10 f fd ["_law_text"] spTold := by
  refine F.ok scTold (fun vs H Q E h => ?_) (fun cdv A outer s H vs Q E hr h => ?_)
  · obtain ⟨x, rfl, _⟩ := h
    rfl
  obtain ⟨x, rfl, fx, qN, qE⟩ := h
  refine ⟨_, pss_cons (ps_asg (pe_tup (pa_cons pe_non (pa_cons pe_non pa_nil))) (pg_tup (by rfl) (pgs_cons (pg_name (i := 1) scTold.nd rfl (Or.inl rfl)) (pgs_cons (pg_name (i := 2) scTold.nd rfl (Or.inl rfl)) pgs_nil))))
    (pss_cons (ps_try_keep (i := 3) (tb := fun W => tAsg (tCallS (spSayIn CB) (WE W) (tCons (tVar 0) tNil)) (gName 1)) (ts := fun a cls d => tAsg (tVar 3) (gName 2)) rfl rfl scTold.nd rfl rfl ⟨rfl, by decide, Or.inl G.mE⟩
      (fun W pn xe tk _ => pss_one (ps_set (i := 1) scTold.nd rfl (Or.inl rfl) (by exact (pe_callS GS hr rfl mS kS bS (fun σ => passAt tk σ) (pa_cons (pv 0) pa_nil)))))
      (fun a oe cls d pn hz hf => pss_one (ps_set (i := 2) scTold.nd rfl (Or.inl rfl) (pv 3))))
    (pss_cons (ps_if (pt_cmpR op_isN (pv 2) pe_non (nomark _)) (pss_one (ps_ret (pv 1))) pss_nil)
    (pss_cons (ps_if (PW.pt (pw_or (pt_val (pe_callB (id := "isinstance") call_isKT (by rfl) mIsi (by decide +kernel) (pa_cons (pv 2) (pa_cons (pe_tup (pa_cons (pe_glob (v := .ref CR) rfl G.mR rfl) (pa_cons (pe_glob (v := .ref CS) rfl G.mS rfl) pa_nil))) pa_nil))))
      (pw_or (pt_not (pt_val (pe_callB (id := "isinstance") call_isK (by rfl) mIsi (by decide +kernel) (pa_cons (pv 2) (pa_cons (pe_glob (v := .ref CB) rfl G.mB rfl) pa_nil)))))
      (pw_or1 (pt_not (pt_val (pe_callB (id := "isinstance") call_isK (by rfl) mIsi (by decide +kernel) (pa_cons (pv 2) (pa_cons (pe_bltn (v := .ty "ValueError") (by rfl) mV (by decide +kernel) rfl) pa_nil)))))))))
      (pss_one (ps_ret pe_str)) pss_nil)
    (pss_one (ps_ret (pe_lst (pa_cons pe_str (pa_cons (pe_kpwhat (pv 2)) pa_nil)))))))), ?_⟩
  have big : (10000 : Nat) ≤ sizeLine := by decide
  refine ⟨(by show 2 ≤ sizeLine; decide), fun t ht => ?_⟩
  have s1 := same_new ht (.tup [V.non, V.non])
  refine ⟨t, _, rfl, .inl (.inl upd_same), rfl, _, _, rfl, _, _, rfl, rfl, ?_⟩
  generalize upd H t (.tup [V.non, V.non]) = H1 at s1 ⊢
  refine ⟨_, rfl, x, rfl, fx, fun s es v H2 T s2 => ?_, fun en d fs H2 hd h2 hl s2 => ?_⟩
  · exact ⟨_, rfl, rfl, true, rfl, iteT ⟨_, rfl, qN s es v H2 T (s1.trans s2)⟩⟩
  · refine ⟨G.ex, fun a ha => ⟨_, rfl, fun _ => ?_⟩⟩
    have da : d ≠ a := ne_of_none h2 ha
    have s3 := same_new ha (exg a (.ref CB) (some d))
    have kp : KpAt (upd H2 a (exg a (.ref CB) (some d))) (.ref a) CB (.str x) := ⟨a, d, fs, rfl, upd_same, s3 _ _ h2, hl⟩
    have s13 := (s1.trans s2).trans s3
    generalize upd H2 a (exg a (.ref CB) (some d)) = H3 at s13 kp ⊢
    refine ⟨_, rfl, rfl, false, rfl, iteF ?_⟩
    refine ⟨_, rfl, (by show 2 ≤ sizeLine; decide), fun g hg => ?_⟩
    have s4 := same_new hg (.tup [V.ref CR, V.ref CS])
    have kp4 := kp.same s4
    have hg4 : (upd H3 g (.tup [V.ref CR, V.ref CS])) g = some (.tup [V.ref CR, V.ref CS]) := upd_same
    have s14 := s13.trans s4
    generalize upd H3 g (.tup [V.ref CR, V.ref CS]) = H4 at kp4 hg4 s14 ⊢
    refine ⟨_, g, _, CB, _, _, false, rfl, hg4, .cons (.own CR) (.cons (.own CS) .nil), kp4, G.exc, G.kRS, false, rfl, iteF ?_⟩
    refine ⟨_, rfl, _, _, CB, _, _, true, rfl, kp4, G.exc, .own CB, G.kB, true, rfl, iteF ?_⟩
    refine ⟨_, rfl, _, _, CB, _, _, true, rfl, kp4, G.exc, .ty _, G.kV, true, rfl, iteF ?_⟩
    refine ⟨_, rfl, CB, .str x, kp4, G.xf, G.wh, (by show 2 ≤ sizeLine; decide), fun q hq => ?_⟩
    exact qE en q _ upd_same (s14.trans (same_new hq _))
end
end Rp

set_option maxHeartbeats 8000000
/-! TERMs out of a text, from the left. -/
namespace Rp
open PySem PySem.Spec PyProof.Rows L2 TL StX CwR
def digB (c : Nat) : Bool := decide (48 ≤ c ∧ c ≤ 57)
/-- how many digits stand ahead, two at most -/
def digs : List Nat → Nat
  | [] => 0
  | c :: r => if digB c = true then (match r with | [] => 1 | d :: _ => if digB d = true then 2 else 1) else 0
def lawNum (ds : List Nat) : Option Int := if 0 < ds.length ∧ ds.length < 4 ∧ ds.all digB = true ∧ ¬ (ds.head? = some 48 ∧ ds ≠ [48]) then some ((NumText.digitsVal ds : Nat) : Int) else none
def cl (o : Option (Tm × List Nat)) (c : Nat) (k : Tm → List Nat → Option (Tm × List Nat)) : Option (Tm × List Nat) :=
  match o with
  | some (t, d :: r) => if d = c then k t r else none
  | _ => none
def pT : Nat → List Nat → Option (Tm × List Nat)
  | 0, _ => none
  | _ + 1, [] => none
  | n + 1, c :: r => if c = 48 then some (.z, r) else if c = 120 then (lawNum (r.take (digs r))).map (fun m => (.v m, r.drop (digs r)))
    else if (c = 115 ∨ c = 102) ∧ r.head? = some 40 then (if c = 115 then cl (pT n r.tail) 41 (fun t r1 => some (.s t, r1)) else cl (pT n r.tail) 44 fun a r1 => cl (pT n r1) 41 fun b r2 => some (.f a b, r2)) else none
theorem cl_some {o : Option (Tm × List Nat)} {c : Nat} {k : Tm → List Nat → Option (Tm × List Nat)} {q : Tm × List Nat} (h : cl o c k = some q) : ∃ t r, o = some (t, c :: r) ∧ k t r = some q := by
  unfold cl at h
  split at h
  · split at h
    · rename_i e
      subst e
      exact ⟨_, _, rfl, h⟩
    · cases h
  · cases h
theorem cl_hit {t : Tm} {c : Nat} {r : List Nat} {k : Tm → List Nat → Option (Tm × List Nat)} : cl (some (t, c :: r)) c k = k t r := by
  unfold cl
  exact if_pos rfl
theorem digs_le (l : List Nat) : digs l ≤ 2 ∧ digs l ≤ l.length := by
  match l with
  | [] => exact ⟨by decide, by decide⟩
  | [c] =>
    unfold digs
    by_cases h : digB c = true <;> simp [h]
  | c :: d :: r =>
    unfold digs
    by_cases h : digB c = true <;> by_cases h2 : digB d = true <;> simp [h, h2]
theorem num_few : ∀ k : Fin 100, (numL k.val).length ≤ 2 ∧ (numL k.val) ≠ [] ∧ lawNum (numL k.val) = some (k.val : Int) := by
  have : ∀ k : Fin 100, (numL k.val).length ≤ 2 ∧ (numL k.val) ≠ [] ∧ lawNum (numL k.val) = some (k.val : Int) := by decide +kernel
  exact this
/-- a number of the law's, written again -/
theorem lawNum_txt {ds : List Nat} (h2 : ds.length ≤ 2) {m : Int} (h : lawNum ds = some m) : 0 ≤ m ∧ m ≤ 99 ∧ numL m.toNat = ds := by
  unfold lawNum at h
  split at h
  · rename_i c
    obtain ⟨c1, c2, c3, c4⟩ := c
    obtain rfl := Option.some.inj h
    match ds, c1, c2, c3, c4, h2 with
    | [a], _, _, c3, c4, _ =>
      have ha : 48 ≤ a ∧ a ≤ 57 := of_decide_eq_true (List.all_eq_true.mp c3 a (by simp))
      have all : ∀ k : Fin 10, ((NumText.digitsVal [48 + k.val] : Nat) : Int) ≤ 99 ∧ numL (NumText.digitsVal [48 + k.val]) = [48 + k.val] := by decide +kernel
      have := all ⟨a - 48, by omega⟩
      rw [show 48 + (a - 48) = a by omega] at this
      exact ⟨by omega, this.1, by rw [show (((NumText.digitsVal [a] : Nat) : Int)).toNat = NumText.digitsVal [a] from Int.toNat_natCast _]; exact this.2⟩
    | [a, b], _, _, c3, c4, _ =>
      have ha : 48 ≤ a ∧ a ≤ 57 := of_decide_eq_true (List.all_eq_true.mp c3 a (by simp))
      have hb : 48 ≤ b ∧ b ≤ 57 := of_decide_eq_true (List.all_eq_true.mp c3 b (by simp))
      have a0 : a ≠ 48 := fun e => c4 ⟨by simp [e], by simp⟩
      have all : ∀ j k : Fin 10, 0 < j.val → ((NumText.digitsVal [48 + j.val, 48 + k.val] : Nat) : Int) ≤ 99 ∧ numL (NumText.digitsVal [48 + j.val, 48 + k.val]) = [48 + j.val, 48 + k.val] := by decide +kernel
      have := all ⟨a - 48, by omega⟩ ⟨b - 48, by omega⟩ (by show 0 < a - 48; omega)
      rw [show 48 + (a - 48) = a by omega, show 48 + (b - 48) = b by omega] at this
      exact ⟨by omega, this.1, by rw [show (((NumText.digitsVal [a, b] : Nat) : Int)).toNat = NumText.digitsVal [a, b] from Int.toNat_natCast _]; exact this.2⟩
  · cases h
theorem tx_v {n : Int} (h : 0 ≤ n) : tl (Tm.v n).txt = 120 :: numL n.toNat := by
  show tl (("x" : Str) ++ Str.ofString (toString n)) = _
  rw [tl_append, t_x, tl_int h]; rfl
theorem tx_z : tl (Tm.z).txt = [48] := by decide +kernel
theorem tx_s (t : Tm) : tl (Tm.s t).txt = 115 :: 40 :: (tl t.txt ++ [41]) := by
  show tl (("s" : Str) ++ "(" ++ Txt.join "," [t.txt] ++ ")") = _
  rw [join1, tl_append, tl_append, tl_append, t_s, t_open, t_close]; simp
theorem tx_f (l r : Tm) : tl (Tm.f l r).txt = 102 :: 40 :: (tl l.txt ++ 44 :: (tl r.txt ++ [41])) := by
  show tl (("f" : Str) ++ "(" ++ Txt.join "," [l.txt, r.txt] ++ ")") = _
  rw [join2, tl_append, tl_append, tl_append, tl_append, tl_append, t_f, t_open, t_close, t_comma]; simp
theorem head40 {r : List Nat} (h : r.head? = some 40) : r = 40 :: r.tail := by
  cases r with
  | nil => cases h
  | cons c r =>
    simp at h
    subst h
    rfl
theorem pT_sound : ∀ (n : Nat) {l : List Nat} {t : Tm} {r : List Nat}, pT n l = some (t, r) → t.small ∧ l = tl t.txt ++ r
  | 0, l, t, r, h => by cases h
  | n + 1, [], t, r, h => by cases h
  | n + 1, c :: l, t, r, h => by
    unfold pT at h
    by_cases h0 : c = 48
    · rw [if_pos h0] at h
      obtain ⟨rfl, rfl⟩ := Prod.mk.inj (Option.some.inj h)
      subst h0
      exact ⟨fun n hn => by simp [Tm.nums] at hn, by rw [tx_z]; rfl⟩
    rw [if_neg h0] at h
    by_cases hx : c = 120
    · rw [if_pos hx] at h
      subst hx
      cases em : lawNum (l.take (digs l)) with
      | none => rw [em] at h; cases h
      | some m =>
        rw [em] at h
        obtain ⟨rfl, rfl⟩ := Prod.mk.inj (Option.some.inj h)
        obtain ⟨m0, m1, e⟩ := lawNum_txt (by rw [List.length_take]; have := digs_le l; omega) em
        refine ⟨fun k hk => by have : k = m := by simpa [Tm.nums] using hk
                               subst this; exact ⟨m0, m1⟩, ?_⟩
        rw [tx_v m0, e]
        show 120 :: l = 120 :: (l.take (digs l) ++ l.drop (digs l))
        rw [List.take_append_drop]
    rw [if_neg hx] at h
    by_cases hp : (c = 115 ∨ c = 102) ∧ l.head? = some 40
    · rw [if_pos hp] at h
      have hl := head40 hp.2
      by_cases hs : c = 115
      · rw [if_pos hs] at h
        obtain ⟨t1, r1, e1, e2⟩ := cl_some h
        obtain ⟨rfl, rfl⟩ := Prod.mk.inj (Option.some.inj e2)
        obtain ⟨s1, l1⟩ := pT_sound n e1
        refine ⟨s1, ?_⟩
        rw [tx_s, hs, hl, l1]
        simp
      · rw [if_neg hs] at h
        obtain ⟨a, r1, e1, e2⟩ := cl_some h
        obtain ⟨b, r2, e3, e4⟩ := cl_some e2
        obtain ⟨rfl, rfl⟩ := Prod.mk.inj (Option.some.inj e4)
        obtain ⟨s1, l1⟩ := pT_sound n e1
        obtain ⟨s2, l2⟩ := pT_sound n e3
        have hf : c = 102 := by rcases hp.1 with z | z; exact absurd z hs; exact z
        refine ⟨fun k hk => ?_, ?_⟩
        · simp only [Tm.nums, List.mem_append] at hk
          rcases hk with hk | hk
          · exact s1 k hk
          · exact s2 k hk
        · rw [tx_f, hf, hl, l1, l2]
          simp
    · rw [if_neg hp] at h; cases h
theorem digs_num {ds r : List Nat} (h1 : ds ≠ []) (h2 : ds.length ≤ 2) (hd : ds.all digB = true) (hr : ∀ d r', r = d :: r' → digB d = false) : digs (ds ++ r) = ds.length := by
  match ds, h1, h2, hd with
  | [a], _, _, hd =>
    have ha := List.all_eq_true.mp hd a (by simp)
    cases r with
    | nil => show digs [a] = 1; simp [digs, ha]
    | cons d r =>
      have := hr d r rfl
      show digs (a :: d :: r) = 1
      simp [digs, ha, this]
  | [a, b], _, _, hd =>
    have ha := List.all_eq_true.mp hd a (by simp)
    have hb := List.all_eq_true.mp hd b (by simp)
    show digs (a :: b :: r) = 2
    simp [digs, ha, hb]
theorem pT_full : ∀ (n : Nat) {t : Tm} {r : List Nat}, t.small → t.deep < n → (∀ d r', r = d :: r' → digB d = false) → pT n (tl t.txt ++ r) = some (t, r)
  | 0, t, r, _, h, _ => by omega
  | n + 1, .v m, r, hs, h, hr => by
    have hm := hs m (by simp [Tm.nums])
    obtain ⟨k, rfl⟩ := Int.eq_ofNat_of_zero_le hm.1
    obtain ⟨f1, f2, f3⟩ := num_few ⟨k, by omega⟩
    rw [tx_v hm.1]
    show pT (n + 1) (120 :: (numL k ++ r)) = _
    have e : digs (numL k ++ r) = (numL k).length := digs_num f2 f1 (List.all_eq_true.mpr fun c hc => decide_eq_true (numL_small k c hc)) hr
    unfold pT
    rw [if_neg (by decide), if_pos rfl, e, List.take_left, List.drop_left]
    have f3 : lawNum (numL k) = some (k : Int) := f3
    rw [f3]
    rfl
  | n + 1, .z, r, hs, h, hr => by
    rw [tx_z]
    rfl
  | n + 1, .s t, r, hs, h, hr => by
    rw [tx_s]
    show pT (n + 1) (115 :: (40 :: ((tl t.txt ++ [41]) ++ r))) = _
    unfold pT
    rw [if_neg (by decide), if_neg (by decide), if_pos ⟨.inl rfl, rfl⟩, if_pos rfl]
    show cl (pT n ((tl t.txt ++ [41]) ++ r)) 41 _ = _
    simp only [Tm.deep] at h
    rw [List.append_assoc, pT_full n (t := t) (r := [41] ++ r) hs (by omega) (fun d r' e => by
      injection e with e1 _; subst e1; decide)]
    exact cl_hit
  | n + 1, .f a b, r, hs, h, hr => by
    rw [tx_f]
    show pT (n + 1) (102 :: (40 :: ((tl a.txt ++ 44 :: (tl b.txt ++ [41])) ++ r))) = _
    unfold pT
    rw [if_neg (by decide), if_neg (by decide), if_pos ⟨.inr rfl, rfl⟩, if_neg (by decide)]
    show cl (pT n ((tl a.txt ++ 44 :: (tl b.txt ++ [41])) ++ r)) 44 _ = _
    simp only [Tm.deep] at h
    rw [show (tl a.txt ++ 44 :: (tl b.txt ++ [41])) ++ r = tl a.txt ++ (44 :: (tl b.txt ++ (41 :: r))) by simp,
      pT_full n (t := a) (r := 44 :: (tl b.txt ++ (41 :: r))) (fun k hk => hs k (by simp [Tm.nums, hk])) (by omega) (fun d r' e => by injection e with e1 _; subst e1; decide)]
    rw [cl_hit, pT_full n (t := b) (r := 41 :: r) (fun k hk => hs k (by simp [Tm.nums, hk])) (by omega) (fun d r' e => by injection e with e1 _; subst e1; decide)]
    exact cl_hit
theorem pT_tm {n : Nat} {x : Str} (hn : x.length < 3 * n) : (match pT n (tl x) with | some (t, []) => some t | _ => none) = toTm x := by
  cases e : toTm x with
  | some t =>
    obtain ⟨sm, tx⟩ := toTm_iff.mp e
    have d := deep_len t
    rw [tx] at d
    have := pT_full n (r := []) sm (by omega) (fun d r' e => by cases e)
    rw [List.append_nil, tx] at this
    rw [this]
  | none =>
    have no := toTm_none.mp e
    cases ep : pT n (tl x) with
    | none => rfl
    | some q =>
      obtain ⟨t, r⟩ := q
      cases r with
      | cons c r => rfl
      | nil =>
        obtain ⟨sm, l⟩ := pT_sound n ep
        rw [List.append_nil] at l
        exact absurd ⟨sm, ext_tl l.symm⟩ (no t)
end Rp

set_option maxHeartbeats 8000000
/-! The law's words and numbers. -/
namespace Rp
open PySem PySem.Spec PyProof.Rows L2 TL StX CwR
def digits10 : Str := "0123456789"
theorem digits10_iff {c : Nat} : c ∈ digits10.cps.toList ↔ 48 ≤ c ∧ c ≤ 57 := by
  have e : digits10.cps.toList = [48, 49, 50, 51, 52, 53, 54, 55, 56, 57] := by decide +kernel
  rw [e]
  constructor
  · intro h
    simp at h; omega
  · intro h
    have : c = 48 ∨ c = 49 ∨ c = 50 ∨ c = 51 ∨ c = 52 ∨ c = 53 ∨ c = 54 ∨ c = 55 ∨ c = 56 ∨ c = 57 := by omega
    simp; omega
theorem digB_iff {c : Nat} : decide (c ∈ digits10.cps.toList) = digB c := by
  unfold digB
  by_cases h : 48 ≤ c ∧ c ≤ 57
  · rw [decide_eq_true h, decide_eq_true (digits10_iff.mpr h)]
  · rw [decide_eq_false h, decide_eq_false (fun z => h (digits10_iff.mp z))]
def spWordG : Sp := fun vs H Q _ => ∃ x : Str, vs = [.str x] ∧ x.length ≤ 1000 ∧ ∀ (r : Bool) (H' : Hp), (r = true ↔ NameOk x) → Same H H' → Q (.bl r) H'
def spNumIn : Sp := fun vs H Q _ => ∃ x : Str, vs = [.str x] ∧ x.length ≤ 600 ∧ ∀ H', Same H H' → Q (optI (lawNum (tl x))) H'
section
variable {P : Program} {w : World} {K : PySem.W.Frag} {mg : Str → Option Value} {base : Heap}
theorem scWordG : FnScope ["_law_thing", "_law_sign_here"] ["_law_thing"] (defScope sLawWord) := ⟨rfl, rfl, rfl, by decide +kernel, rfl, by decide +kernel, by decide +kernel⟩
theorem ok_wordg {f : Addr} {fd : FuncData} (F : Fun K "_law_is_word" "_law_is_word" sLawWord f fd) (M : SameG mg) : FnOk P w K mg base CX0 1 f fd ["_law_thing"] spWordG := by
  refine F.ok scWordG (fun vs H Q E h => ?_) (fun cdv A outer s H vs Q E hr h => ?_)
  · obtain ⟨x, rfl, _⟩ := h
    rfl
  obtain ⟨x, rfl, z1, q⟩ := h
  refine ⟨_, pss_cons (ps_if (PW.pt (pw_or (pt_not (pt_val (pe_callB (id := "isinstance") call_isi (by rfl) M.isi (by decide +kernel) (pa_cons (pv 0) (pa_cons (pe_bltn (v := .ty "str") (by rfl) M.str (by decide +kernel) rfl) pa_nil)))))
      (pw_or (pt_not (pt_chain op_lt op_lt pe_int (pe_callB call_len_str (by rfl) M.len PySem.boot_len (pa_cons (pv 0) pa_nil)) pe_int)) (pw_or1 (pt_cmpR op_eq (pv 0) pe_str (nomark _)))))) (pss_one (ps_ret pe_bl)) pss_nil)
    (pss_one (ps_ret (pe_callB (cr_all rfl) (by rfl) M.all (by decide +kernel) (pa_cons (pe_lc (own := [("_law_sign_here", 1)]) (g := gName 1) (tt := tYes) (te := tOp rInS (tVar 1) (tC (.str letters))) rfl scWordG.nd
        (pi_str (pv 0)) (blkOk_by (N := ["_law_thing", "_law_sign_here"]) (sc := defScope sLawWord) (by decide +kernel)) (fun _ _ _ _ _ => pg_name (i := 1) scWordG.nd rfl (Or.inl rfl))
        (fun _ _ _ _ _ => pts_nil) (fun _ _ _ _ _ => pe_cmpR op_inS (pv 1) pe_str (by rfl))) pa_nil)))), ?_⟩
  have big : (10000 : Nat) ≤ sizeLine := by decide
  have no : ¬ NameOk x → Q (.bl false) H := fun h => q false _ ⟨(fun e => nomatch e), fun z => absurd z h⟩ (fun _ _ z => z)
  refine ⟨_, rfl, _, _, _, _, true, rfl, .ty "str", .base (.str x), kitB_of (by decide +kernel), true, rfl, iteF ?_⟩
  refine ⟨_, rfl, x, rfl, by omega, _, _, rfl, rfl, decide ((0 : Int) < (x.length : Nat)), rfl, ?_⟩
  by_cases h1 : (0 : Int) < (x.length : Nat)
  · rw [decide_eq_true h1]
    refine iteT ⟨_, _, rfl, rfl, decide (((x.length : Nat) : Int) < 7), rfl, ?_⟩
    by_cases h6 : ((x.length : Nat) : Int) < 7
    · rw [decide_eq_true h6]
      refine iteF ⟨_, rfl, rfl, decide (V.str x = V.str "if"), rfl, ?_⟩
      by_cases hif : x = "if"
      · rw [decide_eq_true (by rw [hif])]
        exact iteT (no fun z => z.nif hif)
      · rw [decide_eq_false (fun z => hif (by injection z))]
        refine iteF ?_
        refine ⟨_, rfl, x, rfl, fun D hD => lc_it (walk_str (z := x)) (fun i H2 => H2 D = some (.lst ((((tl x).take i).map fun c => decide (c ∈ letters.cps.toList)).map V.bl)) ∧ Same H H2) ⟨upd_same, same_new hD _⟩ (fun _ _ _ _ => trivial) ?_ ?_⟩
        · rintro i y H2 H3 hi ⟨h2, s2⟩ ⟨rfl, c, hc, rfl⟩
          have li : x.cps.size = x.length := rfl
          have hc' : (tl x)[i]? = some c := by show x.cps.toList[i]? = some c; rw [Array.getElem?_toList]; exact hc
          have tk : (tl x).take (i + 1) = (tl x).take i ++ [c] := by rw [List.take_add_one, hc']; rfl
          refine ⟨rfl, ?_⟩
          refine ⟨_, rfl, c, letters, rfl, rfl, _, h2, ?_, ?_, ?_⟩
          · rw [List.length_map, List.length_map, List.length_take]; omega
          · rw [upd_same, tk, List.map_append, List.map_append]; rfl
          · intro a o z
            rw [upd_ne (ne_of_none z hD)]
            exact s2 _ _ z
        · rintro H2 ⟨h2, s2⟩
          have full : (tl x).take x.cps.size = tl x := List.take_of_length_le (by show x.cps.toList.length ≤ _; simp)
          rw [full] at h2
          refine ⟨D, (tl x).map fun c => decide (c ∈ letters.cps.toList), rfl, .inl (.inl h2), ?_⟩
          refine q _ H2 ?_ s2
          have e : ((tl x).map fun c => decide (c ∈ letters.cps.toList)).all id = lowB x := by unfold lowB; rw [List.all_map]; rfl
          rw [e, lowB_iff]
          exact ⟨fun h => ⟨by omega, by omega, h, hif⟩, fun h => h.low⟩
    · rw [decide_eq_false h6]
      exact iteT (no fun z => by have := z.few; omega)
  · rw [decide_eq_false h1]
    exact iteF ⟨false, rfl, iteT (no fun z => by have := z.pos; omega)⟩
theorem scNumIn : FnScope ["_law_text", "_law_sign_here"] ["_law_text"] (defScope sLawNum) := ⟨rfl, rfl, rfl, by decide +kernel, rfl, by decide +kernel, by decide +kernel⟩
theorem ok_numin {f : Addr} {fd : FuncData} (F : Fun K "_law_number_in" "_law_number_in" sLawNum f fd) (M : SameG mg) : FnOk P w K mg base CX0 1 f fd ["_law_text"] spNumIn := by
  refine F.ok scNumIn (fun vs H Q E h => ?_) (fun cdv A outer s H vs Q E hr h => ?_)
  · obtain ⟨x, rfl, _⟩ := h
    rfl
  obtain ⟨x, rfl, xl, q⟩ := h
  refine ⟨_, pss_cons (ps_if (PW.pt (pw_or (pt_not (pt_chain op_lt op_lt pe_int (pe_callB call_len_str (by rfl) M.len PySem.boot_len (pa_cons (pv 0) pa_nil)) pe_int))
      (pw_or (pt_not (pt_val (pe_callB (cr_all rfl) (by rfl) M.all (by decide +kernel) (pa_cons (pe_lc (own := [("_law_sign_here", 1)]) (g := gName 1) (tt := tYes) (te := tOp rInS (tVar 1) (tC (.str digits10))) rfl scNumIn.nd
        (pi_str (pv 0)) (blkOk_by (N := ["_law_text", "_law_sign_here"]) (sc := defScope sLawNum) (by decide +kernel)) (fun _ _ _ _ _ => pg_name (i := 1) scNumIn.nd rfl (Or.inl rfl))
        (fun _ _ _ _ _ => pts_nil) (fun _ _ _ _ _ => pe_cmpR op_inS (pv 1) pe_str (by rfl))) pa_nil))))
      (pw_or1 (PW.pt (pw_and (pt_cmpR op_eq (pe_ix ix_str (pv 0) pe_int (fun _ _ => rfl)) pe_str (nomark _)) (pw_and1 (pt_cmpR op_ne (pv 0) pe_str (nomark _))))))))) (pss_one (ps_ret pe_non)) pss_nil)
    (pss_one (ps_ret (pe_callTy call_int_str (by rfl) M.int (by decide +kernel) (pa_cons (pv 0) pa_nil)))), ?_⟩
  have big : (10000 : Nat) ≤ sizeLine := by decide
  have li : x.cps.size = x.length := rfl
  have ll := len_tl x
  have no : ∀ {H' : Hp}, Same H H' → lawNum (tl x) = none → Q .non H' := fun s h => by
    have := q _ s
    rw [h] at this
    exact this
  refine ⟨_, rfl, x, rfl, by omega, _, _, rfl, rfl, decide ((0 : Int) < (x.length : Nat)), rfl, ?_⟩
  by_cases h1 : (0 : Int) < (x.length : Nat)
  · rw [decide_eq_true h1]
    refine iteT ⟨_, _, rfl, rfl, decide (((x.length : Nat) : Int) < 4), rfl, ?_⟩
    by_cases h4 : ((x.length : Nat) : Int) < 4
    · rw [decide_eq_true h4]
      refine iteF ?_
      refine ⟨_, rfl, x, rfl, fun D hD => lc_it (walk_str (z := x)) (fun i H2 => H2 D = some (.lst ((((tl x).take i).map fun c => decide (c ∈ digits10.cps.toList)).map V.bl)) ∧ Same H H2) ⟨upd_same, same_new hD _⟩ (fun _ _ _ _ => trivial) ?_ ?_⟩
      · rintro i y H2 H3 hi ⟨h2, s2⟩ ⟨rfl, c, hc, rfl⟩
        have hc' : (tl x)[i]? = some c := by show x.cps.toList[i]? = some c; rw [Array.getElem?_toList]; exact hc
        have tk : (tl x).take (i + 1) = (tl x).take i ++ [c] := by rw [List.take_add_one, hc']; rfl
        refine ⟨rfl, ?_⟩
        refine ⟨_, rfl, c, digits10, rfl, rfl, _, h2, ?_, ?_, ?_⟩
        · rw [List.length_map, List.length_map, List.length_take]; omega
        · rw [upd_same, tk, List.map_append, List.map_append]; rfl
        · intro a o z
          rw [upd_ne (ne_of_none z hD)]
          exact s2 _ _ z
      · rintro H2 ⟨h2, s2⟩
        have full : (tl x).take x.cps.size = tl x := List.take_of_length_le (by show x.cps.toList.length ≤ _; simp)
        rw [full] at h2
        have e : ((tl x).map fun c => decide (c ∈ digits10.cps.toList)) = (tl x).map digB := List.map_congr_left fun c _ => digB_iff
        rw [e] at h2
        refine ⟨D, (tl x).map digB, rfl, .inl (.inl h2), ?_⟩
        have e2 : ((tl x).map digB).all id = (tl x).all digB := by rw [List.all_map]; rfl
        rw [e2]
        cases hd : (tl x).all digB with
        | false =>
          exact ⟨false, rfl, iteT (no s2 (if_neg fun z => by have := z.2.2.1; rw [hd] at this; cases this))⟩
        | true =>
          refine ⟨true, rfl, iteF ?_⟩
          obtain ⟨c, r, ht⟩ : ∃ c r, tl x = c :: r := by
            cases e : tl x with
            | nil => rw [e] at ll; simp at ll; omega
            | cons c r => exact ⟨c, r, rfl⟩
          have at0 : atI x.cps.toList 0 = some c := by
            have : x.cps.toList = c :: r := ht
            rw [this]
            unfold atI ixN
            rw [if_pos (Int.le_refl 0), if_pos (by rw [List.length_cons]; omega)]
            rfl
          refine ⟨_, rfl, x, 0, c, rfl, rfl, by omega, at0, rfl, decide (V.str ⟨#[c]⟩ = V.str "0"), rfl, ?_⟩
          have done : lawNum (tl x) = some ((NumText.digitsVal (tl x) : Nat) : Int) → (tCB (fun xs H Q => ∃ (a : Str) (n : Int), xs = [.str a] ∧ PySem.intText? a = some n ∧ a.length ≤ 640 ∧ Q (.int n) H) (tCons (tVar 0) tNil)) [some (.str x), none] H2 Q := fun hl => by
            have qq := q _ s2
            rw [hl] at qq
            refine ⟨_, rfl, x, _, rfl, intText_digits (fun d hd' => ?_) (by rw [show x.cps.toList = c :: r from ht]; simp) (by omega), by omega, qq⟩
            exact of_decide_eq_true (List.all_eq_true.mp hd d hd')
          by_cases c0 : c = 48
          · subst c0
            rw [show decide (V.str ⟨#[48]⟩ = V.str "0") = true from decide_eq_true (congrArg V.str (by decide +kernel))]
            refine iteT ⟨_, rfl, rfl, !decide (V.str x = V.str "0"), rfl, ?_⟩
            by_cases x0 : x = "0"
            · rw [decide_eq_true (by rw [x0])]
              refine iteF (done ?_)
              rw [x0]
              decide +kernel
            · rw [decide_eq_false (fun z => x0 (by injection z))]
              refine iteT (no s2 (if_neg fun z => z.2.2.2 ⟨by rw [ht]; rfl, fun e => x0 (ext_tl (by rw [e, t_0]))⟩))
          · rw [decide_eq_false (fun z => c0 (by
              injection z with z
              have := congrArg tl z
              have : [c] = [48] := this.trans t_0
              injection this))]
            refine iteF (done (if_pos ⟨by omega, by omega, hd, fun z => c0 (by have := z.1; rw [ht] at this; injection this)⟩))
    · rw [decide_eq_false h4]
      exact iteT (no (fun _ _ z => z) (if_neg fun z => by have := z.2.1; omega))
  · rw [decide_eq_false h1]
    exact iteF ⟨false, rfl, iteT (no (fun _ _ z => z) (if_neg fun z => by have := z.1; omega))⟩
end
end Rp

set_option maxHeartbeats 8000000
/-! The law's own reading of TERMs. -/
namespace Rp
open PySem PySem.Spec PyProof.Rows L2 TL StX CwR
theorem cut_at {x : Str} {a b : Nat} (ha : a ≤ x.length) : tl (cutS x (some (a : Int)) (some (b : Int))) = ((tl x).drop a).take (b - a) := by
  have hc : tl (cutS x (some (a : Int)) (some (b : Int))) = ((tl x).drop (HT.sIx x.length 0 (some (a : Int)))).take (HT.sIx x.length x.length (some (b : Int)) - HT.sIx x.length 0 (some (a : Int))) := rfl
  rw [hc, HT.sIx_nat, HT.sIx_nat, Nat.min_eq_left ha]
  have ll : (tl x).length = x.length := (len_tl x).symm
  rcases Nat.le_total b x.length with h | h
  · rw [Nat.min_eq_left h]
  · rw [Nat.min_eq_right h, List.take_of_length_le (by rw [List.length_drop, ll]; omega), List.take_of_length_le (by rw [List.length_drop, ll]; omega)]
theorem cut1_at {x : Str} {a : Nat} (ha : a ≤ x.length) : cutS x (some (a : Int)) (some ((a + 1 : Nat) : Int)) = (match (tl x).drop a with | [] => Str.empty | c :: _ => ⟨#[c]⟩) := by
  refine ext_tl ?_
  rw [cut_at ha, show a + 1 - a = 1 by omega]
  cases (tl x).drop a with
  | nil => rfl
  | cons c r => rfl
theorem one_eq {c d : Nat} {y : Str} (hy : tl y = [d]) : ((⟨#[c]⟩ : Str) = y) ↔ c = d := by
  constructor
  · intro h
    have := congrArg tl h
    rw [hy] at this
    have : [c] = [d] := this
    simpa using this
  · intro h
    subst h
    exact ext_tl (by rw [hy])
theorem empty_ne {d : Nat} {y : Str} (hy : tl y = [d]) : (Str.empty : Str) ≠ y := fun h => by
  have := congrArg tl h
  rw [hy] at this
  have e : tl (Str.empty : Str) = [] := by decide +kernel
  rw [e] at this
  cases this
theorem digs_step {r : List Nat} {i : Nat} (hi : i < 2) : digs (r.take (i + 1)) = digs (r.take i) + (match r.drop (digs (r.take i)) with | [] => 0 | c :: _ => if digB c = true then 1 else 0) := by
  rcases (by omega : i = 0 ∨ i = 1) with rfl | rfl
  · match r with
    | [] => rfl
    | c :: r =>
      show digs [c] = 0 + (if digB c = true then 1 else 0)
      unfold digs
      simp
  · match r with
    | [] => rfl
    | [c] =>
      show digs [c] = digs [c] + (match [c].drop (digs [c]) with | [] => 0 | c :: _ => if digB c = true then 1 else 0)
      by_cases h : digB c = true <;> simp [digs, h]
    | c :: d :: r =>
      show digs [c, d] = digs [c] + (match (c :: d :: r).drop (digs [c]) with | [] => 0 | c :: _ => if digB c = true then 1 else 0)
      by_cases h : digB c = true <;> by_cases h2 : digB d = true <;> simp [digs, h, h2]
theorem digs_two (r : List Nat) : digs (r.take 2) = digs r := by
  match r with
  | [] => rfl
  | [c] => rfl
  | c :: d :: r => rfl
/-- so many TERMs, each with its sign behind it -/
def pK (n : Nat) : List Nat → List Nat → Option (List Tm × List Nat)
  | [], r => some ([], r)
  | c :: cs, r => match pT n r with
    | some (t, d :: r1) => if d = c then (pK n cs r1).map (fun q => (t :: q.1, q.2)) else none
    | _ => none
def mkT (c : Nat) (ts : List Tm) : Option Tm := if c = 115 then (match ts with | [t] => some (.s t) | _ => none) else (match ts with | [a, b] => some (.f a b) | _ => none)
def csOf (c : Nat) : List Nat := if c = 115 then [41] else [44, 41]
def cstr (c : Nat) : Str := if c = 44 then "," else ")"
theorem pT_cons {n c : Nat} {r : List Nat} (hc : c = 115 ∨ c = 102) (hr : r.head? = some 40) : pT (n + 1) (c :: r) = (match pK n (csOf c) r.tail with | some (ts, r1) => (mkT c ts).map (fun t => (t, r1)) | none => none) := by
  have n0 : c ≠ 48 := by omega
  have nx : c ≠ 120 := by omega
  unfold pT
  rw [if_neg n0, if_neg nx, if_pos ⟨hc, hr⟩]
  rcases hc with rfl | rfl
  · rw [if_pos rfl]
    show cl (pT n r.tail) 41 _ = (match pK n [41] r.tail with | some (ts, r1) => (mkT 115 ts).map (fun t => (t, r1)) | none => none)
    unfold pK cl
    cases pT n r.tail with
    | none => rfl
    | some q =>
      obtain ⟨t, u⟩ := q
      cases u with
      | nil => rfl
      | cons d u =>
        by_cases h : d = 41
        · simp [h, pK, mkT]
        · simp [h]
  · rw [if_neg (by decide)]
    show cl (pT n r.tail) 44 _ = (match pK n [44, 41] r.tail with | some (ts, r1) => (mkT 102 ts).map (fun t => (t, r1)) | none => none)
    unfold pK cl
    cases pT n r.tail with
    | none => rfl
    | some q =>
      obtain ⟨t, u⟩ := q
      cases u with
      | nil => rfl
      | cons d u =>
        by_cases h : d = 44
        · simp only [h, if_true]
          unfold pK
          cases pT n u with
          | none => rfl
          | some q2 =>
            obtain ⟨t2, u2⟩ := q2
            cases u2 with
            | nil => rfl
            | cons d2 u2 =>
              by_cases h2 : d2 = 41
              · simp [h2, pK, mkT]
              · simp [h2]
        · simp [h]
theorem suff {l p r : List Nat} (e : l = p ++ r) : l.drop (l.length - r.length) = r := by
  subst e
  rw [List.length_append, show p.length + r.length - r.length = p.length by omega, List.drop_left]
def spLTI (n : Nat) : Sp := fun vs H Q _ => ∃ (x : Str) (a m : Nat), vs = [.str x, .int (a : Int)] ∧ n = m + 1 ∧ x.length ≤ 430 ∧ a ≤ x.length ∧ x.length - a + 2 ≤ 2 * m ∧ (pT n ((tl x).drop a) = none → ∀ H', Same H H' → Q .non H') ∧
  (∀ t r, pT n ((tl x).drop a) = some (t, r) → ∀ (p : Addr) (v : V) (H' : Hp), H' p = some (.tup [v, .int ((x.length - r.length : Nat) : Int)]) → TmAt H' v t → Same H H' → Q (.ref p) H')
theorem asc_len (x : Str) (lo hi : Option Int) : (cutS x lo hi).length ≤ x.length := by
  show (List.take (HT.sIx x.length x.length hi - HT.sIx x.length 0 lo) (List.drop (HT.sIx x.length 0 lo) x.cps.toList)).toArray.size ≤ x.length
  rw [List.size_toArray, List.length_take, List.length_drop, Array.length_toList]
  have : x.cps.size = x.length := rfl
  omega
abbrev NTi : List Str := ["_law_text", "_law_at", "_law_sign_here", "_law_end", "_law_turn", "_law_number", "_law_parts", "_law_spot", "_law_close", "_law_told_here"]
section
variable {P : Program} {w : World} {K : PySem.W.Frag} {mg : Str → Option Value} {base : Heap}
theorem scLTI : FnScope NTi ["_law_text", "_law_at"] (defScope sLawTermIn) := ⟨rfl, rfl, rfl, by decide +kernel, rfl, by decide +kernel, by decide +kernel⟩
theorem ok_lti {n : Nat} {f fN : Addr} {fd dN : FuncData} (F : Fun K "_law_term_in" "_law_term_in" sLawTermIn f fd) (b2 : Binds K fd ["_law_text", "_law_at"] []) (mF : mg "_law_term_in" = some (.ref f)) (G : FnOk P w K mg base CX0 n f fd ["_law_text", "_law_at"] (spLTI n))
    (GN : FnOk P w K mg base CX0 1 fN dN ["_law_text"] spNumIn) (kN : PySem.W.keepIn K (.ref fN) = true) (bN : Binds K dN ["_law_text"] []) (mN : mg "_law_number_in" = some (.ref fN)) (mInt : mg "int" = none) (mRange : mg "range" = none) (mTuple : mg "tuple" = none) (n1 : 1 ≤ n) :
    FnOk P w K mg base CX0 (n + 1) f fd ["_law_text", "_law_at"] (spLTI (n + 1)) := by
  refine F.ok scLTI (fun vs H Q E h => ?_) (fun cdv A outer s H vs Q E hr h => ?_)
  · obtain ⟨x, a, m, rfl, _⟩ := h
    rfl
  obtain ⟨x, a, m, rfl, em, xl, al, am, qN, qS⟩ := h
  have em : n = m := by omega
  subst em
  have r1 : Room 1 _ := hr.mono n1
  refine ⟨_, pss_cons (ps_set (i := 2) scLTI.nd rfl (Or.inl rfl) (pe_slice sl_str (pv 0) (po_some (pv 1)) (po_some (pe_op op_add (pv 1) pe_int))))
    (pss_cons (ps_if (pt_cmpR op_eq (pv 2) pe_str (nomark _)) (pss_one (ps_ret (pe_tup (pa_cons (pe_tup (pa_cons pe_str pa_nil)) (pa_cons (pe_op op_add (pv 1) pe_int) pa_nil))))) pss_nil)
    (pss_cons (ps_if (pt_cmpR op_eq (pv 2) pe_str (nomark _))
      (pss_cons (ps_set (i := 3) scLTI.nd rfl (Or.inl rfl) (pe_op op_add (pv 1) pe_int))
      (pss_cons (ps_for PassesOwn.never rfl (pi_range1 (by rfl) mRange (pa_cons pe_int pa_nil)) (pg_name (i := 4) scLTI.nd rfl (Or.inl rfl))
        (pss_one (ps_set (i := 3) scLTI.nd rfl (Or.inl rfl) (pe_op op_add (pv 3) (pe_callTy call_int1 (by rfl) mInt (by decide +kernel) (pa_cons (pe_and (pe_cmpR op_ne (pe_slice sl_str (pv 0) (po_some (pv 3)) (po_some (pe_op op_add (pv 3) pe_int))) pe_str (nomark _))
          (pe_one (pe_cmpR op_inS (pe_slice sl_str (pv 0) (po_some (pv 3)) (po_some (pe_op op_add (pv 3) pe_int))) pe_str (by rfl)))) pa_nil))))))
      (pss_cons (ps_set (i := 5) scLTI.nd rfl (Or.inl rfl) (pe_call GN r1 rfl mN kN bN .nil pass0 (pa_cons (pe_slice sl_str (pv 0) (po_some (pe_op op_add (pv 1) pe_int)) (po_some (pv 3))) pa_nil)))
      (pss_one (ps_ret (pe_ifExp (pt_cmpR op_isN (pv 5) pe_non (nomark _)) pe_non (pe_tup (pa_cons (pv 5) (pa_cons (pv 3) pa_nil))))))))) pss_nil)
    (pss_cons (ps_if (PW.pt (pw_or (pt_cmpR op_notIn_seq (pv 2) (pe_tup (pa_cons pe_str (pa_cons pe_str pa_nil))) (by rfl)) (pw_or1 (pt_cmpR op_ne (pe_slice sl_str (pv 0) (po_some (pe_op op_add (pv 1) pe_int)) (po_some (pe_op op_add (pv 1) pe_int))) pe_str (nomark _))))) (pss_one (ps_ret pe_non)) pss_nil)
    (pss_cons (ps_par (i := 6) (j := 7) rfl scLTI.nd rfl rfl (by decide) rfl rfl (pa_cons (pe_lst pa_nil) (pa_cons (pe_op op_add (pv 1) pe_int) pa_nil)) (by rfl))
    (pss_cons (ps_for PassesOwn.never rfl (pi_list (pe_ifExp (pt_cmpR op_eq (pv 2) pe_str (nomark _)) (pe_lst (pa_cons pe_str pa_nil)) (pe_lst (pa_cons pe_str (pa_cons pe_str pa_nil))))) (pg_name (i := 8) scLTI.nd rfl (Or.inl rfl))
      (pss_cons (ps_set (i := 9) scLTI.nd rfl (Or.inl rfl) (pe_call G hr rfl mF F.kp b2 .nil pass0 (pa_cons (pv 0) (pa_cons (pv 7) pa_nil))))
      (pss_cons (ps_if (PW.pt (pw_or (pt_cmpR op_isN (pv 9) pe_non (nomark _)) (pw_or1 (pt_cmpR op_ne (pe_slice sl_str (pv 0) (po_some (pe_ix ix_tup (pv 9) pe_int (fun _ _ => rfl))) (po_some (pe_op op_add (pe_ix ix_tup (pv 9) pe_int (fun _ _ => rfl)) pe_int))) (pv 8) (nomark _))))) (pss_one (ps_ret pe_non)) pss_nil)
      (pss_cons (ps_expr (pe_bm PySem.F.plainAttrs_list PySem.F.slot_list_append PySem.F.type_list_append mt_append (pv 6) (pa_cons (pe_ix ix_tup (pv 9) pe_int (fun _ _ => rfl)) pa_nil)))
      (pss_one (ps_set (i := 7) scLTI.nd rfl (Or.inl rfl) (pe_op op_add (pe_ix ix_tup (pv 9) pe_int (fun _ _ => rfl)) pe_int)))))))
    (pss_one (ps_ret (pe_tup (pa_cons (pe_op op_catT (pe_tup (pa_cons (pv 2) pa_nil)) (pe_callTy call_tuple_of (by rfl) mTuple (by decide +kernel) (pa_cons (pv 6) pa_nil))) (pa_cons (pv 7) pa_nil)))))))))), ?_⟩
  have big : (10000 : Nat) ≤ sizeLine := by decide
  have ll : (tl x).length = x.length := (len_tl x).symm
  have clen : ∀ lo hi : Option Int, (cutS x lo hi).length ≤ 430 := fun lo hi => Nat.le_trans (asc_len x lo hi) xl
  refine ⟨_, rfl, _, rfl, _, rfl, _, rfl, _, _, rfl, rfl, _, rfl, x, rfl, by omega, ?_⟩
  show gName 2 (V.str (cutS x (some (a : Int)) (some ((a : Int) + 1)))) _ H _
  have e1 : ((a : Int) + 1) = ((a + 1 : Nat) : Int) := by omega
  have e2 : ((a : Int) + 2) = ((a + 2 : Nat) : Int) := by omega
  rw [e1, cut1_at al]
  have nS : pT (n + 1) ((tl x).drop a) = none → Q .non H := fun h => qN h H (fun _ _ z => z)
  cases hl : (tl x).drop a with
  | nil =>
    show gName 2 (V.str Str.empty) _ H _
    refine ⟨_, rfl, rfl, false, congrArg V.bl (str_neV (empty_ne t_0)), iteF ?_⟩
    refine ⟨_, rfl, rfl, false, congrArg V.bl (str_neV (empty_ne t_x)), iteF ?_⟩
    refine ⟨_, rfl, (by show 2 ≤ sizeLine; decide), fun p hp => ?_⟩
    refine ⟨p, _, rfl, .inr (.inl (.inl upd_same)), rfl, rfl, true, by decide +kernel, iteT (iteT ?_)⟩
    exact qN (by rw [hl]; rfl) _ (same_new hp _)
  | cons c r =>
    show gName 2 (V.str ⟨#[c]⟩) _ H _
    rw [hl] at qS nS qN
    have lr : x.length = a + 1 + r.length := by
      have := congrArg List.length hl
      rw [List.length_drop, ll, List.length_cons] at this
      omega
    have rd : (tl x).drop (a + 1) = r := by
      rw [← List.drop_drop, hl]; rfl
    by_cases h0 : c = 48
    · subst h0
      refine ⟨_, rfl, rfl, true, congrArg V.bl (str_eqV ((one_eq t_0).mpr rfl)), iteT ?_⟩
      refine ⟨(by show 1 ≤ sizeLine; decide), fun g hg => ⟨_, rfl, _, _, rfl, rfl, (by show 2 ≤ sizeLine; decide), fun g2 hg2 => ?_⟩⟩
      have s1 := same_new hg (.tup [V.str "0"])
      have s2 := same_new hg2 (.tup [V.ref g, V.int ((a : Int) + 1)])
      refine qS .z r rfl g2 (.ref g) _ ?_ (.z (s2 _ _ upd_same)) (s1.trans s2)
      rw [show ((x.length - r.length : Nat) : Int) = (a : Int) + 1 by omega]
      exact upd_same
    refine ⟨_, rfl, rfl, false, congrArg V.bl (str_neV (fun z => h0 ((one_eq t_0).mp z))), iteF ?_⟩
    by_cases hx : c = 120
    · subst hx
      refine ⟨_, rfl, rfl, true, congrArg V.bl (str_eqV ((one_eq t_x).mpr rfl)), iteT ?_⟩
      refine ⟨_, rfl, _, _, rfl, rfl, ?_⟩
      have dle := digs_le r
      refine ⟨_, rfl, by decide, by decide, for_range (lo := 0) (n := (2 : Int).toNat) (fun i σ H1 => ∃ x4 : Option V, σ = [some (.str x), some (.int (a : Int)), some (.str ⟨#[120]⟩), some (.int ((a + 1 + digs (r.take i) : Nat) : Int)), x4, none, none, none, none, none] ∧ H1 = H)
        ⟨none, by show [some (V.str x), some (.int (a : Int)), some (.str ⟨#[120]⟩), some (.int ((a : Int) + 1)), none, none, none, none, none, none] = _; rw [e1]; rfl, rfl⟩ ?_ ?_⟩
      · rintro i σ H1 hi ⟨x4, rfl, rfl⟩
        have i2 : i < 2 := hi
        have st := digs_step (r := r) i2
        have dle2 := (digs_le (r.take i)).2
        rw [List.length_take] at dle2
        generalize digs (r.take i) = k at st dle2 ⊢
        have kd : (tl x).drop (a + 1 + k) = r.drop k := by rw [← List.drop_drop, rd]
        have ck := cut1_at (x := x) (a := a + 1 + k) (by omega)
        rw [kd] at ck
        have e3 : (((a + 1 + k : Nat) : Int) + 1) = ((a + 1 + k + 1 : Nat) : Int) := by omega
        have fin : ∀ b : Bool, digs (r.take (i + 1)) = k + (if b = true then 1 else 0) → (∃ y4 : Option V, [some (V.str x), some (.int (a : Int)), some (.str ⟨#[120]⟩), some (.int (((a + 1 + k : Nat) : Int) + (if b = true then 1 else 0))), some (.int (0 + (i : Nat))), none, none, none, none, none] = [some (V.str x), some (.int (a : Int)), some (.str ⟨#[120]⟩), some (.int ((a + 1 + digs (r.take (i + 1)) : Nat) : Int)), y4, none, none, none, none, none] ∧ H1 = H1) := by
          intro b hb
          refine ⟨some (.int (0 + (i : Nat))), ?_, rfl⟩
          rw [hb]
          congr 5
          cases b <;> simp <;> omega
        refine ⟨_, rfl, ?_⟩
        refine ⟨_, rfl, _, rfl, _, rfl, _, rfl, _, _, rfl, rfl, _, rfl, x, rfl, by omega, rfl, ?_⟩
        show ∃ b, V.bl (!decide (V.str (cutS x (some ((a + 1 + k : Nat) : Int)) (some (((a + 1 + k : Nat) : Int) + 1))) = V.str "")) = V.bl b ∧ _
        rw [e3, ck]
        cases hk : r.drop k with
        | nil =>
          rw [hk] at st
          refine ⟨false, by decide +kernel, iteF ?_⟩
          exact .inr ⟨false, rfl, _, _, rfl, rfl, fin false st⟩
        | cons d u =>
          rw [hk] at st
          refine ⟨true, congrArg (fun z => V.bl (!z)) (str_neV (fun z => by
            have := congrArg tl z
            have e : tl ("" : Str) = [] := by decide +kernel
            rw [e] at this
            cases this)), iteT ?_⟩
          refine ⟨_, rfl, _, rfl, _, rfl, _, rfl, _, _, rfl, rfl, _, rfl, x, rfl, by omega, d, digits10, ?_, rfl, ?_⟩
          · show V.str (cutS x (some ((a + 1 + k : Nat) : Int)) (some (((a + 1 + k : Nat) : Int) + 1))) = _
            rw [e3, ck, hk]
          · refine .inr ⟨_, rfl, _, _, rfl, rfl, fin _ ?_⟩
            rw [digB_iff]
            exact st
      · rintro σ H1 ⟨x4, rfl, rfl⟩
        have d2 : digs (r.take (2 : Int).toNat) = digs r := digs_two r
        rw [d2]
        refine ⟨_, rfl, _, rfl, _, _, rfl, rfl, _, rfl, _, rfl, _, rfl, x, rfl, by omega, ?_⟩
        have ct : tl (cutS x (some ((a : Int) + 1)) (some ((a + 1 + digs r : Nat) : Int))) = r.take (digs r) := by
          have ct := cut_at (x := x) (a := a + 1) (b := a + 1 + digs r) (by omega)
          rw [rd, show a + 1 + digs r - (a + 1) = digs r by omega] at ct
          rw [e1]
          exact ct
        refine ⟨_, rfl, Nat.le_trans (clen _ _) (by decide), fun H2 s2 => ?_⟩
        rw [ct]
        have ep : pT (n + 1) (120 :: r) = (lawNum (r.take (digs r))).map (fun m => (.v m, r.drop (digs r))) := by
          unfold pT
          rw [if_neg (by decide), if_pos rfl]
        cases en : lawNum (r.take (digs r)) with
        | none =>
          rw [en] at ep
          exact ⟨_, rfl, rfl, true, rfl, iteT (qN ep H2 s2)⟩
        | some m =>
          rw [en] at ep
          refine ⟨_, rfl, rfl, false, rfl, iteF ?_⟩
          refine ⟨_, rfl, _, rfl, (by show 2 ≤ sizeLine; decide), fun g hg => ?_⟩
          have s3 := same_new hg (.tup [optI (some m), V.int ((a + 1 + digs r : Nat) : Int)])
          refine qS _ _ ep g (.int m) _ ?_ (.v m) (s2.trans s3)
          rw [List.length_drop, show ((x.length - (r.length - digs r) : Nat) : Int) = ((a + 1 + digs r : Nat) : Int) by omega]
          exact upd_same
    refine ⟨_, rfl, rfl, false, congrArg V.bl (str_neV (fun z => hx ((one_eq t_x).mp z))), iteF ?_⟩
    refine ⟨_, rfl, (by show 2 ≤ sizeLine; decide), fun p hp => ?_⟩
    have s1 := same_new hp (.tup [V.str "s", V.str "f"])
    have hp1 : (upd H p (.tup [V.str "s", V.str "f"])) p = some (.tup [V.str "s", V.str "f"]) := upd_same
    generalize upd H p (.tup [V.str "s", V.str "f"]) = H1 at s1 hp1 ⊢
    have ts : tl ("s" : Str) = [115] := t_s
    have tf : tl ("f" : Str) = [102] := t_f
    have nil : ∀ {H2 : Hp}, Same H H2 → pT (n + 1) (c :: r) = none → Q .non H2 := fun s h => qN h _ s
    by_cases hc : ¬ (c = 115 ∨ c = 102)
    · refine ⟨p, _, rfl, .inr (.inl (.inl hp1)), rfl, rfl, true, ?_, iteT (iteT ?_)⟩
      · have n1 : (⟨#[c]⟩ : Str) ≠ "s" := fun z => hc (.inl ((one_eq ts).mp z))
        have n2 : (⟨#[c]⟩ : Str) ≠ "f" := fun z => hc (.inr ((one_eq tf).mp z))
        have : inV (V.str ⟨#[c]⟩) [V.str "s", V.str "f"] = false := by
          unfold inV
          simp [eqV, n1.symm, n2.symm]
        show V.bl (!inV (V.str ⟨#[c]⟩) [V.str "s", V.str "f"]) = V.bl true
        rw [this]; rfl
      · refine nil s1 ?_
        unfold pT
        rw [if_neg h0, if_neg hx, if_neg (fun z => hc z.1)]
    have hc := Decidable.not_not.mp hc
    refine ⟨p, _, rfl, .inr (.inl (.inl hp1)), rfl, rfl, false, ?_, iteF ?_⟩
    · rcases hc with rfl | rfl
      · decide +kernel
      · decide +kernel
    have ck := cut1_at (x := x) (a := a + 1) (by omega)
    rw [rd] at ck
    refine ⟨_, rfl, _, rfl, _, _, rfl, rfl, _, rfl, _, rfl, _, _, rfl, rfl, _, rfl, x, rfl, by omega, rfl, ?_⟩
    show ∃ b, V.bl (!decide (V.str (cutS x (some ((a : Int) + 1)) (some ((a : Int) + 2))) = V.str "(")) = V.bl b ∧ _
    rw [e1, e2, show ((a + 2 : Nat) : Int) = ((a + 1 + 1 : Nat) : Int) from rfl, ck]
    by_cases h40 : ¬ r.head? = some 40
    · refine ⟨true, congrArg (fun z => V.bl (!z)) (str_neV ?_), iteT (nil s1 ?_)⟩
      · cases r with
        | nil => exact empty_ne t_open
        | cons d u => exact fun z => h40 (by rw [(one_eq t_open).mp z]; rfl)
      · unfold pT
        rw [if_neg h0, if_neg hx, if_neg (fun z => h40 z.2)]
    have h40 := Decidable.not_not.mp h40
    have hr40 := head40 h40
    refine ⟨false, congrArg (fun z => V.bl (!z)) (str_eqV (by rw [hr40]; exact (one_eq t_open).mpr rfl)), iteF ?_⟩
    have ep := pT_cons (n := n) hc h40
    rw [ep] at qS
    have nil : ∀ {H2 : Hp}, Same H H2 → pK n (csOf c) r.tail = none → Q .non H2 := fun s h => qN (by rw [ep, h]) _ s
    refine ⟨(by show 0 ≤ sizeLine; decide), fun q hq => ⟨_, rfl, _, _, rfl, rfl, _, _, rfl, ?_⟩⟩
    have s2 := s1.trans (same_new hq (.lst ([] : List V)))
    have hq2 : (upd H1 q (.lst ([] : List V))) q = some (.lst []) := upd_same
    generalize upd H1 q (.lst ([] : List V)) = H2 at s2 hq2 ⊢
    have rt : r.tail.length = x.length - (a + 2) ∧ a + 2 ≤ x.length := by
      have hh : r.length = r.tail.length + 1 := congrArg List.length hr40
      omega
    have rtd : (tl x).drop (a + 2) = r.tail := by
      rw [show a + 2 = (a + 1) + 1 by omega, ← List.drop_drop, rd, hr40]; rfl
    -- the walk over the closing signs
    have loop : ∀ (cs : List Nat) (g : Addr) (H3 : Hp) (D : L2.Ends), cs = csOf c → H3 g = some (.lst (cs.map fun d => V.str (cstr d))) → g ≠ q → H3 q = some (.lst []) → Same H H3 → D.rt = Q →
        (∀ (x8 x9 : Option V) (ts : List Tm) (ws : List V) (r1 : List Nat) (H4 : Hp), pK n (csOf c) r.tail = some (ts, r1) → AllAt H4 ws ts → H4 q = some (.lst ws) → ts.length = cs.length → But q H3 H4 → r1.length ≤ x.length → D.nx [some (V.str x), some (.int (a : Int)), some (.str ⟨#[c]⟩), none, none, none, some (.ref q), some (.int ((x.length - r1.length : Nat) : Int)), x8, x9] H4) →
        ∃ W : Nat → Nat → L2.St → Hp → Prop, (∃ m, W 0 m [some (V.str x), some (.int (a : Int)), some (.str ⟨#[c]⟩), none, none, none, some (.ref q), some (.int ((a : Int) + 2)), none, none] H3) ∧ ∀ i m σ H, W i m σ H →
          ((Itl K g).stop i H ∧ D.nx σ H) ∨ ((Itl K g).go i H ∧ ∃ N : L2.St → Hp → Prop, (∀ σ' H', N σ' H' → ∃ m', m' < m ∧ W (i + 1) m' σ' H') ∧ ∀ y H', (Itl K g).yld i H y H' → gName 8 y σ H' fun σ2 H2 =>
            (tSeq (tAsg (tCall (spLTI n) [] E0 (tCons (tVar 0) (tCons (tVar 7) tNil))) (gName 9))
              (tSeq (tIfS (tOr (tTest (tOp (fun x y H Q => y = .non ∧ Q (.bl (decide (x = .non))) H) (tVar 9) (tC .non))) (tTest (tOp rNe (tSl rSlS (tVar 0) (tPart (tOp (rIxT K) (tVar 9) (tC (.int 1)))) (tPart (tOp (rI0 fun i j => .int (i + j)) (tOp (rIxT K) (tVar 9) (tC (.int 1))) (tC (.int 1))))) (tVar 8)))) (tRet (tC .non)) tNext)
              (tSeq (tDrop (tBM K "list" rAppend (tVar 6) (tCons (tOp (rIxT K) (tVar 9) (tC (.int 0))) tNil))) (tAsg (tOp (rI0 fun i j => .int (i + j)) (tOp (rIxT K) (tVar 9) (tC (.int 1))) (tC (.int 1))) (gName 7))))) { D with nx := N, ct := N, bk := D.nx } σ2 H2) := by
      intro cs g H3 D ecs hg gq hq3 s3 hrt done
      subst ecs
      have csd : ∀ d ∈ csOf c, tl (cstr d) = [d] := by
        intro d hd
        unfold csOf at hd
        split at hd
        · obtain rfl : d = 41 := by simpa using hd
          exact t_close
        · rcases List.mem_cons.mp hd with rfl | hd
          · exact t_comma
          · obtain rfl : d = 41 := by simpa using hd
            exact t_close
      refine for_list (K := K) (a := g) (xs := (csOf c).map fun d => V.str (cstr d)) (fun i σ H4 => ∃ (x8 x9 : Option V) (ts : List Tm) (ws : List V) (r1 : List Nat), σ = [some (V.str x), some (.int (a : Int)), some (.str ⟨#[c]⟩), none, none, none, some (.ref q), some (.int ((x.length - r1.length : Nat) : Int)), x8, x9] ∧ H4 q = some (.lst ws) ∧ AllAt H4 ws ts ∧ ts.length = i ∧
        pK n (csOf c) r.tail = (pK n ((csOf c).drop i) r1).map (fun z => (ts ++ z.1, z.2)) ∧ (tl x).drop (x.length - r1.length) = r1 ∧ r1.length ≤ r.tail.length ∧ But q H3 H4) ⟨none, none, [], [], r.tail, ?_, hq3, trivial, rfl, ?_, ?_, Nat.le_refl _, But.refl _ _⟩ (fun i σ H4 _ ⟨_, _, _, _, _, _, _, _, _, _, _, _, o⟩ => .inl (.inl (o _ _ hg gq))) ?_ ?_
      · rw [show ((x.length - r.tail.length : Nat) : Int) = (a : Int) + 2 by omega]
      · rw [List.drop_zero]
        cases pK n (csOf c) r.tail with
        | none => rfl
        | some z => rfl
      · rw [show x.length - r.tail.length = a + 2 by omega]; exact rtd
      · rintro i y σ H4 hi ⟨x8, x9, ts', ws, r1, rfl, h4, A4, tl4, ek, rd1, rl1, o4⟩
        rw [List.getElem?_map] at hi
        obtain ⟨d, hd, rfl⟩ := Option.map_eq_some_iff.mp hi
        have ilt := (List.getElem?_eq_some_iff.mp hd).1
        have dm := List.mem_of_getElem? hd
        have td := csd d dm
        have dr : (csOf c).drop i = d :: (csOf c).drop (i + 1) := by rw [List.drop_eq_getElem_cons ilt]; congr 1; exact (List.getElem?_eq_some_iff.mp hd).2
        rw [dr] at ek
        have few : ws.length ≤ 2 := by
          rw [A4.len, tl4]
          have : (csOf c).length ≤ 2 := by unfold csOf; split <;> simp
          omega
        have sH : Same H H4 := fun b o z => o4 _ _ (s3 _ _ z) (ne_of_none (s1 _ _ z) hq)
        have bad : pK n (d :: (csOf c).drop (i + 1)) r1 = none → ∀ {H5 : Hp}, Same H H5 → D.rt .non H5 := fun e H5 s5 => by
          rw [hrt]
          refine nil s5 ?_
          rw [ek, e]; rfl
        obtain ⟨m1, rfl⟩ : ∃ m1, n = m1 + 1 := ⟨n - 1, by omega⟩
        refine ⟨_, rfl, _, rfl, x, x.length - r1.length, m1, rfl, rfl, xl, by omega, by omega, fun en H5 s5 => ?_, fun t r2 es p1 v H5 hp5 T5 s5 => ?_⟩
        · rw [rd1] at en
          refine ⟨_, rfl, rfl, true, rfl, iteT (iteT ?_)⟩
          refine bad ?_ (sH.trans s5)
          unfold pK
          rw [en]
        · rw [rd1] at es
          obtain ⟨_, er⟩ := pT_sound _ es
          have r2l : r2.length ≤ r1.length := by rw [er, List.length_append]; omega
          have rd2 : (tl x).drop (x.length - r2.length) = r2 := by
            have : tl x = ((tl x).take (x.length - r1.length) ++ tl t.txt) ++ r2 := by
              rw [List.append_assoc, ← er, ← rd1]
              rw [rd1]
              exact (by rw [← rd1]; rw [rd1]; exact (List.take_append_drop (x.length - r1.length) (tl x)).symm.trans (by rw [rd1]))
            have := suff this
            rwa [ll] at this
          have ck2 := cut1_at (x := x) (a := x.length - r2.length) (by omega)
          rw [rd2] at ck2
          have e3 : (((x.length - r2.length : Nat) : Int) + 1) = ((x.length - r2.length + 1 : Nat) : Int) := by omega
          have pS : SqT K H5 p1 [v, V.int ((x.length - r2.length : Nat) : Int)] := .inl (.inl hp5)
          refine ⟨_, rfl, rfl, false, rfl, iteF ?_⟩
          refine ⟨_, rfl, _, rfl, p1, _, 1, _, rfl, rfl, pS, at_of (j := 1) rfl rfl, _, rfl, _, rfl, p1, _, 1, _, rfl, rfl, pS, at_of (j := 1) rfl rfl, _, _, rfl, rfl, _, rfl, x, rfl, by omega, _, rfl, rfl, ?_⟩
          show ∃ b, V.bl (!decide (V.str (cutS x (some ((x.length - r2.length : Nat) : Int)) (some (((x.length - r2.length : Nat) : Int) + 1))) = V.str (cstr d))) = V.bl b ∧ _
          rw [e3, ck2]
          cases r2 with
          | nil =>
            refine ⟨true, congrArg (fun z => V.bl (!z)) (str_neV (empty_ne td)), iteT (bad ?_ (sH.trans s5))⟩
            unfold pK
            rw [es]
          | cons d2 r3 =>
            by_cases hd2 : d2 = d
            · subst hd2
              refine ⟨false, congrArg (fun z => V.bl (!z)) (str_eqV ((one_eq td).mpr rfl)), iteF ?_⟩
              have h5 := s5 _ _ h4
              refine ⟨_, rfl, .inl ⟨rfl, _, .inl (.inl h5)⟩, _, rfl, p1, _, 0, _, rfl, rfl, pS, at_of (j := 0) rfl rfl, q, ws, _, rfl, rfl, h5, by omega, ?_⟩
              have pq : p1 ≠ q := ne_of hp5 h5 (by intro z; cases z)
              refine ⟨_, rfl, p1, _, 1, _, rfl, rfl, .inl (.inl (by rw [upd_ne pq]; exact hp5)), at_of (j := 1) rfl rfl, _, _, rfl, rfl, ?_⟩
              have keep : ∀ b zs, H5 b = some (.tup zs) → (upd H5 q (.lst (ws ++ [v]))) b = some (.tup zs) := fun b zs z => by rw [upd_ne (ne_of z h5 (by intro e; cases e))]; exact z
              rw [List.length_cons] at r2l
              refine ⟨some (.str (cstr d2)), some (.ref p1), ts' ++ [t], ws ++ [v], r3, ?_, upd_same, (A4.mono fun b zs z => keep b zs (s5 _ _ z)).append ⟨T5.mono keep, trivial⟩, by simp [tl4], ?_, ?_, by omega, fun b o z nb => by rw [upd_ne nb]; exact s5 _ _ (o4 _ _ z nb)⟩
              · rw [List.length_cons] at *
                rw [show ((x.length - r3.length : Nat) : Int) = ((x.length - (r3.length + 1) : Nat) : Int) + 1 by omega]
                rfl
              · rw [ek]
                show ((match pT (m1 + 1) r1 with | some (t, d :: r1) => if d = d2 then (pK (m1 + 1) ((csOf c).drop (i + 1)) r1).map (fun (q : List Tm × List Nat) => (t :: q.1, q.2)) else none | _ => none).map fun (z : List Tm × List Nat) => (ts' ++ z.1, z.2)) = _
                rw [es]
                show ((if d2 = d2 then (pK (m1 + 1) ((csOf c).drop (i + 1)) r3).map (fun (q : List Tm × List Nat) => (t :: q.1, q.2)) else none).map fun (z : List Tm × List Nat) => (ts' ++ z.1, z.2)) = _
                rw [if_pos rfl]
                cases pK (m1 + 1) ((csOf c).drop (i + 1)) r3 with
                | none => rfl
                | some z => simp
              · have : x.length - r3.length = (x.length - (d2 :: r3).length) + 1 := by rw [List.length_cons]; omega
                rw [this, ← List.drop_drop, rd2]; rfl
            · refine ⟨true, congrArg (fun z => V.bl (!z)) (str_neV (fun z => hd2 ((one_eq td).mp z))), iteT (bad ?_ (sH.trans s5))⟩
              unfold pK
              rw [es]
              exact if_neg hd2
      · rintro σ H4 ⟨x8, x9, ts', ws, r1, rfl, h4, A4, tl4, ek, rd1, rl1, o4⟩
        rw [List.length_map] at ek tl4
        rw [List.drop_length] at ek
        refine done x8 x9 ts' ws r1 H4 ?_ A4 h4 tl4 o4 (by omega)
        rw [ek]
        show (some ([], r1) : Option (List Tm × List Nat)).map _ = _
        simp
    rcases hc with rfl | rfl
    · refine ⟨_, rfl, rfl, true, congrArg V.bl (str_eqV ((one_eq t_s).mpr rfl)), iteT ⟨(by show 1 ≤ sizeLine; decide), fun g hg => ?_⟩⟩
      have s3 := same_new hg (.lst [V.str ")"])
      have gq : g ≠ q := (ne_of_none hq2 hg).symm
      refine ⟨g, rfl, ⟨_, .inl (.inl upd_same)⟩, loop (csOf 115) g _ _ rfl upd_same gq (s3 _ _ hq2) (s2.trans s3) rfl fun x8 x9 ts ws r1 H4 epk A4 h4 tl4 o4 rl4 => ?_⟩
      have sH : Same H H4 := fun b o z => o4 _ _ (s3 _ _ (s2 _ _ z)) (ne_of_none (s1 _ _ z) hq)
      match ts, ws, A4, tl4 with
      | [t], [w1], A4, _ =>
        refine ⟨_, rfl, (by show 1 ≤ sizeLine; decide), fun t1 ht1 => ?_⟩
        have s5 := same_new ht1 (.tup [V.str ⟨#[115]⟩])
        refine ⟨_, rfl, q, _, rfl, .inl ⟨.inl (.inl (s5 _ _ h4)), fun t2 ht2 => ?_⟩⟩
        have s6 := same_new ht2 (.tup [w1])
        refine ⟨t1, t2, [V.str ⟨#[115]⟩], [w1], rfl, rfl, .inl (.inl (s6 _ _ upd_same)), .inl (.inl upd_same), by simp, by simp; omega, fun e => (by cases e), fun _ t3 ht3 => ?_⟩
        have s7 := same_new ht3 (.tup ([V.str ⟨#[115]⟩] ++ [w1]))
        refine ⟨_, rfl, (by show 2 ≤ sizeLine; decide), fun t4 ht4 => ?_⟩
        have s8 := same_new ht4 (.tup [V.ref t3, V.int ((x.length - r1.length : Nat) : Int)])
        have s48 := s5.trans (s6.trans (s7.trans s8))
        have up : ∀ b zs, H4 b = some (.tup zs) → _ := fun b zs z => s48 b (.tup zs) z
        refine qS (.s t) r1 (by rw [epk]; rfl) t4 (.ref t3) _ upd_same ?_ (sH.trans s48)
        have e3 := s8 _ _ (upd_same : (upd _ t3 (.tup ([V.str ⟨#[115]⟩] ++ [w1]))) t3 = _)
        exact .s (by rw [e3]; rfl) (A4.1.mono up)
    · refine ⟨_, rfl, rfl, false, congrArg V.bl (str_neV (fun z => absurd ((one_eq t_s).mp z) (by decide))), iteF ⟨(by show 2 ≤ sizeLine; decide), fun g hg => ?_⟩⟩
      have s3 := same_new hg (.lst [V.str ",", V.str ")"])
      have gq : g ≠ q := (ne_of_none hq2 hg).symm
      refine ⟨g, rfl, ⟨_, .inl (.inl upd_same)⟩, loop (csOf 102) g _ _ rfl upd_same gq (s3 _ _ hq2) (s2.trans s3) rfl fun x8 x9 ts ws r1 H4 epk A4 h4 tl4 o4 rl4 => ?_⟩
      have sH : Same H H4 := fun b o z => o4 _ _ (s3 _ _ (s2 _ _ z)) (ne_of_none (s1 _ _ z) hq)
      match ts, ws, A4, tl4 with
      | [t, u], [w1, w2], A4, _ =>
        refine ⟨_, rfl, (by show 1 ≤ sizeLine; decide), fun t1 ht1 => ?_⟩
        have s5 := same_new ht1 (.tup [V.str ⟨#[102]⟩])
        refine ⟨_, rfl, q, _, rfl, .inl ⟨.inl (.inl (s5 _ _ h4)), fun t2 ht2 => ?_⟩⟩
        have s6 := same_new ht2 (.tup [w1, w2])
        refine ⟨t1, t2, [V.str ⟨#[102]⟩], [w1, w2], rfl, rfl, .inl (.inl (s6 _ _ upd_same)), .inl (.inl upd_same), by simp, by simp; omega, fun e => (by cases e), fun _ t3 ht3 => ?_⟩
        have s7 := same_new ht3 (.tup ([V.str ⟨#[102]⟩] ++ [w1, w2]))
        refine ⟨_, rfl, (by show 2 ≤ sizeLine; decide), fun t4 ht4 => ?_⟩
        have s8 := same_new ht4 (.tup [V.ref t3, V.int ((x.length - r1.length : Nat) : Int)])
        have s48 := s5.trans (s6.trans (s7.trans s8))
        have up : ∀ b zs, H4 b = some (.tup zs) → _ := fun b zs z => s48 b (.tup zs) z
        refine qS (.f t u) r1 (by rw [epk]; rfl) t4 (.ref t3) _ upd_same ?_ (sH.trans s48)
        have e3 := s8 _ _ (upd_same : (upd _ t3 (.tup ([V.str ⟨#[102]⟩] ++ [w1, w2]))) t3 = _)
        exact .f (by rw [e3]; rfl) (A4.1.mono up) (A4.2.1.mono up)
theorem lti_ok {f fN : Addr} {fd dN : FuncData} (F : Fun K "_law_term_in" "_law_term_in" sLawTermIn f fd) (b2 : Binds K fd ["_law_text", "_law_at"] []) (mF : mg "_law_term_in" = some (.ref f))
    (GN : FnOk P w K mg base CX0 1 fN dN ["_law_text"] spNumIn) (kN : PySem.W.keepIn K (.ref fN) = true) (bN : Binds K dN ["_law_text"] []) (mN : mg "_law_number_in" = some (.ref fN)) (mInt : mg "int" = none) (mRange : mg "range" = none) (mTuple : mg "tuple" = none) :
    ∀ n : Nat, FnOk P w K mg base CX0 (n + 1) f fd ["_law_text", "_law_at"] (spLTI (n + 1))
  | 0 => none_left fun vs H Q E h => by
    obtain ⟨x, a, m, _, e, _, _, l, _⟩ := h
    omega
  | n + 1 => ok_lti F b2 mF (lti_ok F b2 mF GN kN bN mN mInt mRange mTuple n) GN kN bN mN mInt mRange mTuple (by omega)
end
end Rp

set_option maxHeartbeats 8000000
/-! The law's own reading of whole TERMs, of ATOMs. -/
namespace Rp
open PySem PySem.Spec PyProof.Rows L2 TL StX CwR
def spWhole : Sp := fun vs H Q _ => ∃ x : Str, vs = [.str x] ∧ x.length ≤ 118 ∧ ∀ (v : V) (H' : Hp), TmO H' v (toTm x) → Same H H' → Q v H'
section
variable {P : Program} {w : World} {K : PySem.W.Frag} {mg : Str → Option Value} {base : Heap}
theorem scWhole : FnScope ["_law_text", "_law_told_here"] ["_law_text"] (defScope sLawWhole) := ⟨rfl, rfl, rfl, by decide +kernel, rfl, by decide +kernel, by decide +kernel⟩
theorem ok_whole {f fI : Addr} {fd dI : FuncData} (F : Fun K "_law_whole_term" "_law_whole_term" sLawWhole f fd) (GI : FnOk P w K mg base CX0 61 fI dI ["_law_text", "_law_at"] (spLTI 61)) (kI : PySem.W.keepIn K (.ref fI) = true) (bI : Binds K dI ["_law_text", "_law_at"] []) (mI : mg "_law_term_in" = some (.ref fI)) (mLen : mg "len" = none) :
    FnOk P w K mg base CX0 62 f fd ["_law_text"] spWhole := by
  refine F.ok scWhole (fun vs H Q E h => ?_) (fun cdv A outer s H vs Q E hr h => ?_)
  · obtain ⟨x, rfl, _⟩ := h
    rfl
  obtain ⟨x, rfl, xl, q⟩ := h
  refine ⟨_, pss_cons (ps_set (i := 1) scWhole.nd rfl (Or.inl rfl) (pe_call GI hr rfl mI kI bI .nil pass0 (pa_cons (pv 0) (pa_cons pe_int pa_nil))))
    (pss_one (ps_ret (pe_ifExp (PW.pt (pw_and (pt_cmpR op_notN (pv 1) pe_non (nomark _)) (pw_and1 (pt_cmpR op_eq (pe_ix ix_tup (pv 1) pe_int (fun _ _ => rfl)) (pe_callB call_len_str (by rfl) mLen PySem.boot_len (pa_cons (pv 0) pa_nil)) (nomark _))))) (pe_ix ix_tup (pv 1) pe_int (fun _ _ => rfl)) pe_non))), ?_⟩
  have big : (10000 : Nat) ≤ sizeLine := by decide
  have e := pT_tm (n := 61) (x := x) (by omega)
  refine ⟨_, rfl, x, 0, 60, rfl, rfl, by omega, by omega, by omega, fun en H1 s1 => ?_, fun t r es p v H1 hp T s1 => ?_⟩
  · rw [List.drop_zero] at en
    rw [en] at e
    refine ⟨_, rfl, rfl, false, rfl, iteF (iteF ?_)⟩
    refine q .non H1 ?_ s1
    rw [← e]; rfl
  · rw [List.drop_zero] at es
    have rl : r.length ≤ x.length := by
      have := congrArg List.length (pT_sound _ es).2
      rw [List.length_append, ← len_tl] at this
      omega
    rw [es] at e
    have pS : SqT K H1 p [v, V.int ((x.length - r.length : Nat) : Int)] := .inl (.inl hp)
    refine ⟨_, rfl, rfl, true, rfl, iteT ?_⟩
    refine ⟨_, rfl, p, _, 1, _, rfl, rfl, pS, at_of (j := 1) rfl rfl, _, rfl, x, rfl, by omega, rfl, ?_⟩
    cases r with
    | nil =>
      refine ⟨true, congrArg V.bl (decide_eq_true rfl), iteT ?_⟩
      refine ⟨_, rfl, p, _, 0, _, rfl, rfl, pS, at_of (j := 0) rfl rfl, q v H1 ?_ s1⟩
      rw [← e]
      exact T
    | cons c r =>
      rw [List.length_cons] at rl
      refine ⟨false, congrArg V.bl (decide_eq_false fun z => ?_), iteF (q .non H1 ?_ s1)⟩
      · have := V.int.inj z
        rw [List.length_cons] at this
        omega
      · rw [← e]; rfl
end
end Rp

set_option maxHeartbeats 8000000
/-! The law's own reading of ATOMs. -/
namespace Rp
open PySem PySem.Spec PyProof.Rows L2 TL StX CwR
theorem TmOs.dp {K : PySem.W.Frag} {H : Hp} : ∀ {vs : List V} {xs : List Str}, TmOs H vs xs → DpAll K H vs (xs.map fun x => dO (toTm x))
  | [], [], _ => .nil
  | _ :: _, _ :: _, h => .cons ((h.1.dat (b := 0)).dp _) (TmOs.dp h.2)
theorem AtOs.dp {K : PySem.W.Frag} {H : Hp} : ∀ {vs : List V} {xs : List Str}, AtOs H vs xs → DpAll K H vs (xs.map fun x => dA (toAt x))
  | [], [], _ => .nil
  | _ :: _, _ :: _, h => .cons ((h.1.dat (b := 0)).dp _) (AtOs.dp h.2)
theorem dO_non {o : Option Tm} : PyData.eqv (dO o) .none = o.isNone := by
  cases o with
  | none => rfl
  | some t => cases t <;> rfl
theorem dA_non {o : Option At} : PyData.eqv (dA o) .none = o.isNone := by
  cases o with
  | none => rfl
  | some t => rfl
theorem any_dO : ∀ {xs : List Str}, ((xs.map fun x => dO (toTm x)).any fun z => PyData.eqv z .none) = false → ∃ ts : List Tm, xs.map toTm = ts.map some
  | [], _ => ⟨[], rfl⟩
  | x :: xs, h => by
    rw [List.map_cons, List.any_cons, Bool.or_eq_false_iff] at h
    obtain ⟨ts, e⟩ := any_dO h.2
    have h1 := h.1
    rw [dO_non] at h1
    cases et : toTm x with
    | none => rw [et] at h1; cases h1
    | some t => exact ⟨t :: ts, by rw [List.map_cons, List.map_cons, et, e]⟩
theorem any_dO' {xs : List Str} {ts : List Tm} (h : xs.map toTm = ts.map some) : ((xs.map fun x => dO (toTm x)).any fun z => PyData.eqv z .none) = false := by
  induction xs generalizing ts with
  | nil => rfl
  | cons x xs ih =>
    cases ts with
    | nil => simp at h
    | cons t ts =>
      rw [List.map_cons, List.map_cons] at h
      injection h with h1 h2
      rw [List.map_cons, List.any_cons, ih h2, dO_non, h1]; rfl
theorem any_dA : ∀ {xs : List Str}, ((xs.map fun x => dA (toAt x)).any fun z => PyData.eqv z .none) = false → ∃ ts : List At, xs.map toAt = ts.map some
  | [], _ => ⟨[], rfl⟩
  | x :: xs, h => by
    rw [List.map_cons, List.any_cons, Bool.or_eq_false_iff] at h
    obtain ⟨ts, e⟩ := any_dA h.2
    have h1 := h.1
    rw [dA_non] at h1
    cases et : toAt x with
    | none => rw [et] at h1; cases h1
    | some t => exact ⟨t :: ts, by rw [List.map_cons, List.map_cons, et, e]⟩
theorem any_dA' {xs : List Str} {ts : List At} (h : xs.map toAt = ts.map some) : ((xs.map fun x => dA (toAt x)).any fun z => PyData.eqv z .none) = false := by
  induction xs generalizing ts with
  | nil => rfl
  | cons x xs ih =>
    cases ts with
    | nil => simp at h
    | cons t ts =>
      rw [List.map_cons, List.map_cons] at h
      injection h with h1 h2
      rw [List.map_cons, List.any_cons, ih h2, dA_non, h1]; rfl
theorem in_12 {n : Nat} : inV (.int (n : Int)) [.int 1, .int 2] = decide (1 ≤ n ∧ n ≤ 2) := by
  unfold inV
  have e : ∀ k : Int, eqV (.int k) (.int (n : Int)) = decide (k = (n : Int)) := fun k => by
    show (k == (n : Int)) = _
    by_cases h : k = (n : Int)
    · rw [decide_eq_true h, h]; simp
    · rw [decide_eq_false h]; simp [h]
  simp only [List.any_cons, List.any_nil, e, Bool.or_false]
  by_cases h : 1 ≤ n ∧ n ≤ 2
  · rw [decide_eq_true h]
    rcases (by omega : n = 1 ∨ n = 2) with rfl | rfl <;> rfl
  · rw [decide_eq_false h, decide_eq_false (by omega), decide_eq_false (by omega)]; rfl
section
variable {P : Program} {w : World} {K : PySem.W.Frag} {mg : Str → Option Value} {base : Heap}
theorem scAtIn : FnScope ["_law_text", "_law_parts", "_law_terms", "_law_part"] ["_law_text"] (defScope sLawAtomIn) := ⟨rfl, rfl, rfl, by decide +kernel, rfl, by decide +kernel, by decide +kernel⟩
theorem ok_atin {f fT fW : Addr} {fd dT dW : FuncData} (F : Fun K "_law_atom_in" "_law_atom_in" sLawAtomIn f fd)
    (GT : FnOk P w K mg base CX0 62 fT dT ["_law_text"] spWhole) (kT : PySem.W.keepIn K (.ref fT) = true) (bT : Binds K dT ["_law_text"] []) (mT : mg "_law_whole_term" = some (.ref fT))
    (GW : FnOk P w K mg base CX0 1 fW dW ["_law_thing"] spWordG) (kW : PySem.W.keepIn K (.ref fW) = true) (bW : Binds K dW ["_law_thing"] []) (mW : mg "_law_is_word" = some (.ref fW)) (mLen : mg "len" = none) (mTuple : mg "tuple" = none) :
    FnOk P w K mg base CX0 63 f fd ["_law_text"] spAtomG := by
  refine F.ok scAtIn (fun vs H Q E h => ?_) (fun cdv A outer s H vs Q E hr h => ?_)
  · obtain ⟨a, rfl, _⟩ := h
    rfl
  obtain ⟨x, rfl, fx, q⟩ := h
  have r1 : Room 1 _ := hr.mono (by decide)
  refine ⟨_, pss_cons (ps_set (i := 1) scAtIn.nd rfl (Or.inl rfl) (pe_split (pv 0) pe_str))
    (pss_cons (ps_setLc (i := 2) (own := [("_law_part", 3)]) (g := gName 3) (tt := tYes) (te := tCall spWhole [] E0 (tCons (tVar 3) tNil)) rfl scAtIn.nd rfl rfl (by rfl) (pi_list (pe_slice sl_list (pv 1) (po_some pe_int) po_none)) (blkOk_by (N := ["_law_text", "_law_parts", "_law_terms", "_law_part"]) (sc := defScope sLawAtomIn) (by decide +kernel)) (fun _ _ _ _ _ => pg_name (i := 3) scAtIn.nd rfl (Or.inl rfl))
        (fun _ _ _ _ _ => pts_nil) (fun _ _ _ _ _ => pe_call GT hr (by rfl) mT kT bT .nil pass0 (pa_cons (pv 3) pa_nil)))
    (pss_one (ps_ret (pe_ifExp (PW.pt (pw_and (pt_val (pe_call GW r1 rfl mW kW bW .nil pass0 (pa_cons (pe_ix ix_list (pv 1) pe_int (fun _ _ => rfl)) pa_nil)))
        (pw_and (pt_cmpR op_in_seq (pe_callB call_len_seq (by rfl) mLen PySem.boot_len (pa_cons (pv 2) pa_nil)) (pe_tup (pa_cons pe_int (pa_cons pe_int pa_nil))) (by rfl)) (pw_and1 (pt_cmpR (op_notInD (hu65 hr)) pe_non (pv 2) (by rfl))))))
      (pe_op op_catT (pe_tup (pa_cons (pe_ix ix_list (pv 1) pe_int (fun _ _ => rfl)) pa_nil)) (pe_callTy call_tuple_of (by rfl) mTuple (by decide +kernel) (pa_cons (pv 2) pa_nil))) pe_non)))), ?_⟩
  have big : (10000 : Nat) ≤ sizeLine := by decide
  have xl := fx.asc.1
  refine ⟨_, rfl, ⟨_, rfl⟩, x, " ", rfl, rfl, by decide +kernel, by omega, fun l hl => ?_⟩
  have sum := parts_sum' (x := x)
  have pf : ∀ p ∈ Txt.split x " ", Fit p ∧ p.length ≤ 118 := fun p hp => ⟨fx.sub (split_sub sp_ne sp_k hp), part_len fx.bf hp⟩
  have cnt : ∀ l : List Str, l.length ≤ (l.map fun p => p.length + 1).sum := by
    intro l
    induction l with
    | nil => simp
    | cons p l ih => simp; omega
  cases es : Txt.split x " " with
  | nil => exact absurd es (split_ne sp_ne sp_k)
  | cons nm rest =>
  rw [es] at sum pf
  have c0 := cnt rest
  rw [List.map_cons, List.sum_cons] at sum
  have s1 := same_new hl (.lst ((nm :: rest).map V.str))
  have hl1 : (upd H l (.lst ((nm :: rest).map V.str))) l = some (.lst ((nm :: rest).map V.str)) := upd_same
  generalize upd H l (.lst ((nm :: rest).map V.str)) = H1 at s1 hl1 ⊢
  refine ⟨_, rfl, _, rfl, l, _, rfl, .inl (.inl hl1), fun p hp => ?_⟩
  rw [show cutV (List.map V.str (nm :: rest)) (some 1) none = rest.map V.str from cut_tail _ _]
  have s2 := same_new hp (.lst (rest.map V.str))
  have hp2 : (upd H1 p (.lst (rest.map V.str))) p = some (.lst (rest.map V.str)) := upd_same
  generalize upd H1 p (.lst (rest.map V.str)) = H2 at s2 hp2 ⊢
  refine ⟨p, rfl, ⟨_, .inl (.inl hp2)⟩, fun D hD => lc_list (K := K) (a := p) (xs := rest.map V.str) (fun i H3 => ∃ xs : List V, H3 D = some (.lst xs) ∧ TmOs H3 xs (rest.take i) ∧ Same H2 H3)
    ⟨[], upd_same, trivial, same_new hD _⟩ (fun i H3 _ ⟨_, _, _, h⟩ => .inl (.inl (h _ _ hp2))) ?_ ?_⟩
  · rintro i y H3 hi ⟨xs, h3, A3, s3⟩
    rw [List.getElem?_map] at hi
    obtain ⟨z, hz, rfl⟩ := Option.map_eq_some_iff.mp hi
    have zm := List.mem_of_getElem? hz
    have xl2 := A3.len
    rw [List.length_take] at xl2
    refine ⟨rfl, ?_⟩
    refine ⟨_, rfl, z, rfl, (pf z (by simp [zm])).2, fun v H4 T s4 => ?_⟩
    have h4 := s4 _ _ h3
    have keep : ∀ b zs, H4 b = some (.tup zs) → (upd H4 D (.lst (xs ++ [v]))) b = some (.tup zs) := fun b zs z => by rw [upd_ne (ne_of z h4 (by intro e; cases e))]; exact z
    have tk : rest.take (i + 1) = rest.take i ++ [z] := by rw [List.take_add_one, hz]; rfl
    refine ⟨xs, h4, by omega, xs ++ [v], upd_same, ?_, ?_⟩
    · rw [tk]
      exact (A3.mono fun b zs z => keep b zs (s4 _ _ z)).snoc (T.mono keep)
    · intro c o z
      rw [upd_ne (ne_of_none z hD)]
      exact s4 _ _ (s3 _ _ z)
  · rintro H3 ⟨xs, h3, A3, s3⟩
    rw [List.length_map, List.take_of_length_le (Nat.le_refl _)] at A3
    have xl2 := A3.len
    have hl3 := s3 _ _ (s2 _ _ hl1)
    have sA : Same H H3 := s1.trans (s2.trans s3)
    have np := (pf nm (by simp)).2
    have no : ∀ {H' : Hp}, Same H H' → (∀ a, ¬ IsAx x a) → Q .non H' := fun s h => q _ _ (by rw [toAt_none.mpr h]; rfl) s
    have at0 : atI ((nm :: rest).map V.str) 0 = some (V.str nm) := at_of (j := 0) rfl rfl
    refine ⟨_, rfl, l, _, 0, _, rfl, rfl, .inl (.inl hl3), at0, nm, rfl, by omega, fun r H4 hr4 s4 => ⟨r, rfl, ?_⟩⟩
    have aw : ∀ a, IsAx x a → NameOk nm ∧ rest = a.ts.map Tm.txt ∧ 1 ≤ rest.length ∧ rest.length ≤ 2 ∧ rest.map toTm = a.ts.map some := fun a ha => by
      have sp := ax_split ha
      rw [es] at sp
      unfold parts at sp
      injection sp with sp1 sp2
      refine ⟨sp1 ▸ ha.1.nm, sp2, by rw [sp2, List.length_map]; exact ha.1.one, by rw [sp2, List.length_map]; exact ha.1.two, ?_⟩
      rw [sp2, List.map_map]
      exact List.map_congr_left fun t ht => toTm_iff.mpr ⟨(ha.1.sm t ht).1, rfl⟩
    cases r with
    | false => exact iteF (no (sA.trans s4) fun a ha => by have := hr4.mpr (aw a ha).1; cases this)
    | true =>
      have nok := hr4.mp rfl
      refine iteT ?_
      have h4 := s4 _ _ h3
      refine ⟨_, rfl, D, xs, rfl, .inl (.inl (.inl h4)), (by show 2 ≤ sizeLine; decide), fun g hg => ?_⟩
      have s5 := same_new hg (.tup [V.int 1, V.int 2])
      refine ⟨g, _, rfl, .inr (.inl (.inl upd_same)), rfl, rfl, decide (1 ≤ rest.length ∧ rest.length ≤ 2), ?_, ?_⟩
      · show V.bl (inV (.int (xs.length : Nat)) [V.int 1, V.int 2]) = _
        rw [in_12, xl2]
      by_cases few : ¬ (1 ≤ rest.length ∧ rest.length ≤ 2)
      · rw [decide_eq_false few]
        exact iteF (no (sA.trans (s4.trans s5)) fun a ha => few ⟨(aw a ha).2.2.1, (aw a ha).2.2.2.1⟩)
      have few := Decidable.not_not.mp few
      rw [decide_eq_true few]
      refine iteT ?_
      have A5 : TmOs (upd H4 g (.tup [V.int 1, V.int 2])) xs rest := A3.mono fun b zs z => s5 _ _ (s4 _ _ z)
      have h5 := s5 _ _ h4
      have hl5 := s5 _ _ (s4 _ _ hl3)
      have sB := sA.trans (s4.trans s5)
      generalize upd H4 g (.tup [V.int 1, V.int 2]) = H5 at A5 h5 hl5 sB ⊢
      obtain ⟨y1, y2, y3⟩ := dOs_lay (xs := rest) fun z hz => (pf z (by simp [hz])).2
      refine ⟨_, rfl, .none, _, .non, .lst (.inl (.inl h5)) A5.dp, rfl, shaped_of (by show PyData.canLayAll0 _ = true; exact y1) (by show PyData.depthAll _ + 1 ≤ 64; omega), ?_⟩
      cases ea : ((rest.map fun x => dO (toTm x)).any fun z => PyData.eqv z .none) with
      | true => exact ⟨false, rfl, iteF (no sB fun a ha => by have := any_dO' (aw a ha).2.2.2.2; rw [ea] at this; cases this)⟩
      | false =>
        obtain ⟨ts, et⟩ := any_dO ea
        have ax := ax_of fx es nok few.1 few.2 et
        refine ⟨true, rfl, iteT ?_⟩
        refine ⟨_, rfl, l, _, 0, _, rfl, rfl, .inl (.inl hl5), at0, (by show 1 ≤ sizeLine; decide), fun t1 ht1 => ?_⟩
        have s6 := same_new ht1 (.tup [V.str nm])
        refine ⟨_, rfl, D, xs, rfl, .inl ⟨.inl (.inl (s6 _ _ h5)), fun t2 ht2 => ?_⟩⟩
        have s7 := same_new ht2 (.tup xs)
        refine ⟨t1, t2, [V.str nm], xs, rfl, rfl, .inl (.inl (s7 _ _ upd_same)), .inl (.inl upd_same), by simp, by simp; omega, fun e => ?_, fun _ t3 ht3 => ?_⟩
        · rw [e] at xl2; simp at xl2; omega
        · have s8 := same_new ht3 (.tup ([V.str nm] ++ xs))
          refine q _ _ ?_ (sB.trans (s6.trans (s7.trans s8)))
          rw [toAt_iff.mpr ax]
          exact ⟨t3, xs, rfl, upd_same, (A5.all et).mono fun b zs z => s8 _ _ (s7 _ _ (s6 _ _ z))⟩
end
end Rp

set_option maxHeartbeats 8000000
/-! Where a SAYING's sign stands in its text. -/
namespace Rp
open PySem PySem.Spec PyProof PyProof.Rows L2 TL StX CwR
/-- the sign stands there -/
def Bar (l : List Nat) (i : Nat) : Prop := (l.drop i).take 3 = [124, 45, 32]
theorem at_bar {x : Str} {i : Nat} : StrLaws.At x "|- " x.length i ↔ Bar (tl x) i := by
  unfold StrLaws.At Bar
  rw [PySem.StrLaws.subAt_eq, l_bare]
  have e : (("|- " : Str).cps.toList) = [124, 45, 32] := t_bare
  rw [e]
  constructor
  · intro h
    exact beq_iff_eq.mp h.2
  · intro h
    refine ⟨?_, beq_iff_eq.mpr h⟩
    have := congrArg List.length h
    rw [List.length_take, List.length_drop, ← len_tl] at this
    simp at this
    omega
theorem bar_cut {l : List Nat} {i : Nat} (h : Bar l i) : l = l.take i ++ ([124, 45, 32] ++ l.drop (i + 3)) ∧ i + 3 ≤ l.length := by
  unfold Bar at h
  have e : [124, 45, 32] ++ l.drop (i + 3) = l.drop i := by
    rw [← h, ← List.drop_drop, List.take_append_drop]
  refine ⟨by rw [e, List.take_append_drop], ?_⟩
  have := congrArg List.length h
  rw [List.length_take, List.length_drop] at this
  simp at this
  omega
theorem bar_app {a b : List Nat} : Bar (a ++ ([124, 45, 32] ++ b)) a.length := by
  unfold Bar
  rw [List.drop_left]
  rfl
theorem bar_at {l : List Nat} {i : Nat} (h : Bar l i) : l[i]? = some 124 := by
  have e := (bar_cut h)
  have : (l.take i).length = i := by rw [List.length_take]; omega
  rw [e.1, List.getElem?_append_right (by omega), this, Nat.sub_self]
  rfl
theorem atxt_low {a : At} (ok : AtOk 50 a) : ∀ d ∈ tl (atxt a), d ≠ 124 := by
  intro d hd
  rw [atxt_tl] at hd
  rcases List.mem_append.mp hd with hd | hd
  · have := ok.nm.low d hd; omega
  · obtain ⟨t, ht, hd⟩ := List.mem_flatMap.mp hd
    rcases List.mem_cons.mp hd with rfl | hd
    · omega
    · have := txt_low t (ok.sm t ht).1 d hd; omega
theorem btxt_low : ∀ {as : List At}, (∀ a ∈ as, AtOk 50 a) → ∀ d ∈ tl (btxt as), d ≠ 124
  | [], _, d, hd => by
    have e : tl (btxt []) = [] := by decide +kernel
    rw [e] at hd; simp at hd
  | [a], ok, d, hd => by rw [btxt_one] at hd; exact atxt_low (ok a (by simp)) d hd
  | a :: b :: l, ok, d, hd => by
    rw [btxt_cons] at hd
    rcases List.mem_append.mp hd with hd | hd
    · rcases List.mem_append.mp hd with hd | hd
      · exact atxt_low (ok a (by simp)) d hd
      · simp at hd; omega
    · exact btxt_low (as := b :: l) (fun x hx => ok x (by simp at hx ⊢; exact .inr hx)) d hd
theorem sx_bare {x : Str} {s : Sy} (h : IsSx x s) (e : s.hs = []) : x = "|- " ++ atxt s.gl ∧ Bar (tl x) 0 := by
  have hx : x = "|- " ++ atxt s.gl := by rw [← h.2]; exact sytxt_bare e
  refine ⟨hx, ?_⟩
  rw [hx, tl_append, t_bare]
  exact bar_app (a := [])
theorem sx_far {x : Str} {s : Sy} (h : IsSx x s) (e : s.hs ≠ []) : tl x = (tl (btxt s.hs) ++ [32]) ++ ([124, 45, 32] ++ tl (atxt s.gl)) := by
  rw [← h.2, sytxt_some e, tl_append, tl_append, t_part]
  simp
theorem sx_bar {x : Str} {s : Sy} (h : IsSx x s) : ∃ i, Bar (tl x) i := by
  by_cases e : s.hs = []
  · exact ⟨0, (sx_bare h e).2⟩
  · refine ⟨(tl (btxt s.hs) ++ [32]).length, ?_⟩
    rw [sx_far h e]
    exact bar_app
theorem sx_first {x : Str} {s : Sy} (h : IsSx x s) (e : s.hs ≠ []) {i : Nat} (hi : Bar (tl x) i) (first : ∀ k, k < i → ¬ Bar (tl x) k) : i = (tl (btxt s.hs)).length + 1 := by
  have ex := sx_far h e
  have b : Bar (tl x) (tl (btxt s.hs) ++ [32]).length := by rw [ex]; exact bar_app
  rw [List.length_append] at b
  have b : Bar (tl x) ((tl (btxt s.hs)).length + 1) := b
  rcases Nat.lt_trichotomy i ((tl (btxt s.hs)).length + 1) with lt | eq | gt
  · exfalso
    have g := bar_at hi
    rw [ex, List.append_assoc] at g
    rcases Nat.lt_or_ge i (tl (btxt s.hs)).length with l1 | l1
    · rw [List.getElem?_append_left l1] at g
      exact btxt_low h.1.hs.ok 124 (List.mem_of_getElem? g) rfl
    · have : i = (tl (btxt s.hs)).length := by omega
      subst this
      rw [List.getElem?_append_right (Nat.le_refl _), Nat.sub_self] at g
      cases g
  · exact eq
  · exact absurd b (first _ gt)
theorem eqv_atsT {as bs : List At} : PyData.eqv (.tuple (as.map atD)) (.tuple (bs.map atD)) = decide (as = bs) := by
  rw [eqv_tup]
  by_cases h : as = bs
  · rw [decide_eq_true h]; exact eqv_ats.mpr h
  · rw [decide_eq_false h]
    cases e : PyData.eqvAll (as.map atD) (bs.map atD) with
    | true => exact absurd (eqv_ats.mp e) h
    | false => rfl
end Rp

set_option maxHeartbeats 8000000
/-! The law's own reading of SAYINGs. -/
namespace Rp
open PySem PySem.Spec PyProof PyProof.Rows L2 TL StX CwR
theorem pe_weak {X : Cx} {e : Expr} {te te' : TE} (h : PE X e te) (w : ∀ σ H Q, te' σ H Q → te σ H Q) : PE X e te' := ⟨fun pins s σ H Q I q => h.1 pins s σ H Q I (w _ _ _ q)⟩
theorem cutS_to {x : Str} {n : Nat} : tl (cutS x none (some (n : Int))) = (tl x).take n := by
  have hc : tl (cutS x none (some (n : Int))) = ((tl x).drop 0).take (HT.sIx x.length x.length (some (n : Int)) - 0) := rfl
  rw [hc, HT.sIx_nat, List.drop_zero, Nat.sub_zero]
  have ll : (tl x).length = x.length := (len_tl x).symm
  rcases Nat.le_total n x.length with h | h
  · rw [Nat.min_eq_left h]
  · rw [Nat.min_eq_right h, List.take_of_length_le (by omega), List.take_of_length_le (by omega)]
theorem cutS_from {x : Str} {n : Nat} : tl (cutS x (some (n : Int)) none) = (tl x).drop n := by
  have hc : tl (cutS x (some (n : Int)) none) = ((tl x).drop (HT.sIx x.length 0 (some (n : Int)))).take (x.length - HT.sIx x.length 0 (some (n : Int))) := rfl
  rw [hc, HT.sIx_nat]
  have ll : (tl x).length = x.length := (len_tl x).symm
  rw [List.take_of_length_le (by rw [List.length_drop]; omega)]
  rcases Nat.le_total n x.length with h | h
  · rw [Nat.min_eq_left h]
  · rw [Nat.min_eq_right h, List.drop_eq_nil_of_le (by omega), List.drop_eq_nil_of_le (by omega)]
theorem pt_weak {X : Cx} {e : Expr} {te te' : TT} (h : PT X e te) (w : ∀ σ H Q, te' σ H Q → te σ H Q) : PT X e te' := ⟨fun pins s σ H Q I q => h.1 pins s σ H Q I (w _ _ _ q)⟩
theorem some_inj {α : Type} : ∀ {as bs : List α}, as.map some = bs.map some → as = bs
  | [], [], _ => rfl
  | [], _ :: _, h => by simp at h
  | _ :: _, [], h => by simp at h
  | a :: as, b :: bs, h => by
    rw [List.map_cons, List.map_cons] at h
    injection h with h1 h2
    rw [Option.some.inj h1, some_inj h2]
abbrev NSi : List Str := ["_law_text", "_law_at", "_law_ahead", "_law_goal", "_law_part"]
/-- the texts of the hyps -/
def aheadP (x : Str) (i : Nat) : List Str := if i = 0 then [] else Txt.split (cutS x none (some ((i - 1 : Nat) : Int))) ", "
def teAhead : TE := fun σ H Q => ∃ (x : Str) (i : Nat), σ = [some (.str x), some (.int (i : Int)), none, none, none] ∧ Fit x ∧ ∀ (l : Addr) (xs : List V) (H' : Hp), H' l = some (.lst xs) → AtOs H' xs (aheadP x i) → Same H H' → Q (.ref l) H'
def atO : Option Nat → Int
  | some i => (i : Int)
  | none => -1
/-- the sign stands in front, or behind a blank -/
def Alone (x : Str) (i : Nat) : Prop := i = 0 ∨ 0 < i ∧ (tl x)[i - 1]? = some 32
instance (x : Str) (i : Nat) : Decidable (Alone x i) := by unfold Alone; infer_instance
def ttAlone : TT := fun σ H Q => ∃ (x : Str) (o : Option Nat), σ = [some (.str x), some (.int (atO o)), none, none, none] ∧ x.length ≤ 430 ∧ (∀ i, o = some i → i + 3 ≤ x.length) ∧
  Q (match o with | none => true | some i => !decide (Alone x i)) H
section
variable {P : Program} {w : World} {K : PySem.W.Frag} {mg : Str → Option Value} {base : Heap}
theorem scSyIn : FnScope NSi ["_law_text"] (defScope sLawSyIn) := ⟨rfl, rfl, rfl, by decide +kernel, rfl, by decide +kernel, by decide +kernel⟩
theorem ok_syin {f fA fU : Addr} {fd dF dU : FuncData} (F : Fun K "_law_saying_in" "_law_saying_in" sLawSyIn f fd)
    (GA : FnOk P w K mg base CX0 63 fA dF ["_law_text"] spAtomG) (kA : PySem.W.keepIn K (.ref fA) = true) (bA : Binds K dF ["_law_text"] []) (mA : mg "_law_atom_in" = some (.ref fA))
    (GU : FnOk P w K mg base CX0 1 fU dU ["_law_atoms"] spUnlikeL) (kU : PySem.W.keepIn K (.ref fU) = true) (bU : Binds K dU ["_law_atoms"] []) (mU : mg "_law_unlike" = some (.ref fU)) (mLen : mg "len" = none) (mTuple : mg "tuple" = none) :
    FnOk P w K mg base CX0 64 f fd ["_law_text"] spSayG := by
  refine F.ok scSyIn (fun vs H Q E h => ?_) (fun cdv A outer s H vs Q E hr h => ?_)
  · obtain ⟨a, rfl, _⟩ := h
    rfl
  obtain ⟨x, rfl, fx, q⟩ := h
  have big : (10000 : Nat) ≤ sizeLine := by decide
  have r1 : Room 1 _ := hr.mono (by decide)
  refine ⟨_, pss_cons (ps_set (i := 1) scSyIn.nd rfl (Or.inl rfl) (pe_bm PySem.F.plainAttrs_str PySem.F.slot_str_find PySem.F.type_str_find mt_find (pv 0) (pa_cons pe_str pa_nil)))
    (pss_cons (ps_if (pt_weak (te' := ttAlone) (PW.pt (pw_or (pt_cmpR op_lt (pv 1) pe_int (nomark _)) (pw_or1 (PW.pt (pw_and (pt_cmpR op_gt (pv 1) pe_int (nomark _)) (pw_and1 (pt_cmpR op_ne (pe_slice sl_str (pv 0) (po_some (pe_op op_sub (pv 1) pe_int)) (po_some (pv 1))) pe_str (nomark _)))))))) ?wt) (pss_one (ps_ret pe_non)) pss_nil)
    (pss_cons (ps_set (i := 2) scSyIn.nd rfl (Or.inl rfl) (pe_weak (te' := teAhead) (pe_ifExp (pt_cmpR op_eq (pv 1) pe_int (nomark _)) (pe_lst pa_nil)
      (pe_lc (own := [("_law_part", 4)]) (g := gName 4) (tt := tYes) (te := tCall spAtomG [] E0 (tCons (tVar 4) tNil)) rfl scSyIn.nd
        (pi_list (pe_split (pe_slice sl_str (pv 0) po_none (po_some (pe_op op_sub (pv 1) pe_int))) pe_str)) (blkOk_by (N := NSi) (sc := defScope sLawSyIn) (by decide +kernel)) (fun _ _ _ _ _ => pg_name (i := 4) scSyIn.nd rfl (Or.inl rfl))
        (fun _ _ _ _ _ => pts_nil) (fun _ _ _ _ _ => pe_call GA hr (by rfl) mA kA bA .nil pass0 (pa_cons (pv 4) pa_nil)))) ?w))
    (pss_cons (ps_set (i := 3) scSyIn.nd rfl (Or.inl rfl) (pe_call GA hr rfl mA kA bA .nil pass0 (pa_cons (pe_slice sl_str (pv 0) (po_some (pe_op op_add (pv 1) pe_int)) po_none) pa_nil)))
    (pss_cons (ps_if (PW.pt (pw_or (pt_cmpR op_isN (pv 3) pe_non (nomark _)) (pw_or (pt_cmpR (op_inD (hu65 hr)) pe_non (pv 2) (by rfl)) (pw_or (pt_cmpR op_gt (pe_callB call_len_seq (by rfl) mLen PySem.boot_len (pa_cons (pv 2) pa_nil)) pe_int (nomark _))
        (pw_or1 (pt_cmpR (op_neD hr.units) (pe_call GU r1 rfl mU kU bU .nil pass0 (pa_cons (pv 2) pa_nil)) (pe_callTy call_tuple_of (by rfl) mTuple (by decide +kernel) (pa_cons (pv 2) pa_nil)) (nomark _))))))) (pss_one (ps_ret pe_non)) pss_nil)
    (pss_one (ps_ret (pe_tup (pa_cons (pe_callTy call_tuple_of (by rfl) mTuple (by decide +kernel) (pa_cons (pv 2) pa_nil)) (pa_cons (pv 3) pa_nil)))))))))
    , ?_⟩
  case wt =>
    rintro σ H Q ⟨x, o, rfl, xl, io, fin⟩
    cases o with
    | none => exact ⟨_, rfl, _, _, rfl, rfl, true, rfl, iteT fin⟩
    | some i =>
      have il := io i rfl
      have fin : Q (!decide (Alone x i)) H := fin
      show ∃ y, _
      refine ⟨_, rfl, _, _, rfl, rfl, false, congrArg V.bl (decide_eq_false (by show ¬ ((i : Int) < 0); omega)), iteF ?_⟩
      by_cases i0 : i = 0
      · have al : Alone x i := .inl i0
        rw [decide_eq_true al] at fin
        exact ⟨_, rfl, _, _, rfl, rfl, false, congrArg V.bl (decide_eq_false (by show ¬ (0 < (i : Int)); omega)), iteF fin⟩
      · obtain ⟨j, rfl⟩ : ∃ j, i = j + 1 := ⟨i - 1, by omega⟩
        refine ⟨_, rfl, _, _, rfl, rfl, true, congrArg V.bl (decide_eq_true (by show 0 < ((j + 1 : Nat) : Int); omega)), iteT ?_⟩
        have e1 : ((j + 1 : Nat) : Int) - 1 = (j : Int) := by omega
        have ck := cut1_at (x := x) (a := j) (by omega)
        have ll : (tl x).length = x.length := (len_tl x).symm
        refine ⟨_, rfl, _, rfl, _, _, rfl, rfl, _, rfl, _, rfl, _, rfl, x, rfl, by omega, rfl, ?_⟩
        show ∃ b, V.bl (!decide (V.str (cutS x (some (((j + 1 : Nat) : Int) - 1)) (some ((j + 1 : Nat) : Int))) = V.str " ")) = V.bl b ∧ _
        rw [e1, ck]
        cases hd : (tl x).drop j with
        | nil =>
          have := congrArg List.length hd
          rw [List.length_drop, ll, List.length_nil] at this
          omega
        | cons c r =>
          have cj : (tl x)[j]? = some c := by
            have := List.getElem?_drop (xs := tl x) (i := j) (j := 0)
            rw [hd] at this
            exact this.symm
          by_cases hc : c = 32
          · have al : Alone x (j + 1) := .inr ⟨by omega, by rw [Nat.add_sub_cancel, cj, hc]⟩
            rw [decide_eq_true al] at fin
            exact ⟨false, congrArg (fun z => V.bl (!z)) (str_eqV ((one_eq t_sp).mpr hc)), fin⟩
          · have al : ¬ Alone x (j + 1) := fun h => by
              rcases h with h | h
              · omega
              · rw [Nat.add_sub_cancel, cj] at h
                exact hc (Option.some.inj h.2)
            rw [decide_eq_false al] at fin
            exact ⟨true, congrArg (fun z => V.bl (!z)) (str_neV (fun z => hc ((one_eq t_sp).mp z))), fin⟩
  case w =>
    rintro σ H Q ⟨x, i, rfl, fx, fin⟩
    have xl := fx.asc.1
    refine ⟨_, rfl, rfl, decide (i = 0), ?_, ?_⟩
    · refine congrArg V.bl ?_
      by_cases h : i = 0
      · subst h; rfl
      · rw [decide_eq_false h]
        exact decide_eq_false fun z => h (by injection z with z; omega)
    by_cases h : i = 0
    · subst h
      refine iteT ⟨(by show 0 ≤ sizeLine; decide), fun p hp => ?_⟩
      exact fin p [] _ upd_same trivial (same_new hp _)
    · rw [decide_eq_false h]
      refine iteF ?_
      unfold aheadP at fin
      rw [if_neg h] at fin
      have ei : ((i : Int) - 1) = ((i - 1 : Nat) : Int) := by omega
      refine ⟨_, rfl, _, rfl, _, _, rfl, rfl, _, rfl, x, rfl, by omega, ?_⟩
      rw [ei]
      have tz : tl (cutS x none (some ((i - 1 : Nat) : Int))) = (tl x).take (i - 1) := cutS_to
      have zl := asc_len x none (some ((i - 1 : Nat) : Int))
      generalize cutS x none (some ((i - 1 : Nat) : Int)) = z at fin tz zl ⊢
      have fz : Fit z := fx.sub ⟨[], (tl x).drop (i - 1), by rw [tz]; simp⟩
      have sum := cs_sum (x := z)
      have pf : ∀ p ∈ Txt.split z ", ", Fit p := fun p hp => fz.sub (split_sub cs_ne cs_k hp)
      have cnt : ∀ l : List Str, l.length ≤ (l.map fun p => p.length + 2).sum := by
        intro l
        induction l with
        | nil => simp
        | cons p l ih => simp; omega
      have c0 := cnt (Txt.split z ", ")
      refine ⟨⟨_, rfl⟩, z, ", ", rfl, rfl, by decide +kernel, by omega, fun l hl => ?_⟩
      generalize Txt.split z ", " = ps at hl sum pf c0 fin ⊢
      have s2 := same_new hl (.lst (ps.map V.str))
      refine ⟨l, rfl, ⟨_, .inl (.inl upd_same)⟩, fun D hD => lc_list (K := K) (a := l) (xs := ps.map V.str) (fun i H2 => ∃ xs : List V, H2 D = some (.lst xs) ∧ AtOs H2 xs (ps.take i) ∧ Same (upd H l (.lst (ps.map V.str))) H2)
        ⟨[], upd_same, trivial, same_new hD _⟩ (fun i H2 _ ⟨_, _, _, h⟩ => .inl (.inl (h _ _ upd_same))) ?_ ?_⟩
      · rintro i y H2 hi ⟨xs, h2, A2, s3⟩
        rw [List.getElem?_map] at hi
        obtain ⟨z, hz, rfl⟩ := Option.map_eq_some_iff.mp hi
        have xl2 := A2.len
        rw [List.length_take] at xl2
        refine ⟨rfl, ?_⟩
        refine ⟨_, rfl, z, rfl, pf z (List.mem_of_getElem? hz), fun v H3 T s4 => ⟨xs, s4 _ _ h2, by omega, xs ++ [v], upd_same, ?_, ?_⟩⟩
        · have h3 := s4 _ _ h2
          have keep : ∀ b zs, H3 b = some (.tup zs) → (upd H3 D (.lst (xs ++ [v]))) b = some (.tup zs) := fun b zs z => by rw [upd_ne (ne_of z h3 (by intro z; cases z))]; exact z
          have tk : ps.take (i + 1) = ps.take i ++ [z] := by rw [List.take_add_one, hz]; rfl
          rw [tk]
          exact (A2.mono fun b zs z => keep b zs (s4 _ _ z)).snoc (T.mono keep)
        · intro c o z
          rw [upd_ne (ne_of_none z hD)]
          exact s4 _ _ (s3 _ _ z)
      · rintro H2 ⟨xs, h2, A2, s3⟩
        rw [List.length_map, List.take_of_length_le (Nat.le_refl _)] at A2
        exact fin D xs H2 h2 A2 (s2.trans s3)
  have xl := fx.asc.1
  have no : ∀ {H' : Hp}, Same H H' → (∀ a, ¬ IsSx x a) → Q .non H' := fun s h => q _ _ (by rw [toSy_none.mpr h]; rfl) s
  refine ⟨_, rfl, rfl, x, "|- ", rfl, rfl, ?_⟩
  rcases find_whole x "|- " with ⟨e, hn⟩ | ⟨i, e, hi, first⟩
  · rw [e]
    refine ⟨x, none, rfl, xl, (fun i z => nomatch z), no (fun _ _ z => z) fun a ha => ?_⟩
    obtain ⟨i, b⟩ := sx_bar ha
    exact hn i (at_bar.mpr b)
  rw [e]
  have hi := at_bar.mp hi
  have first : ∀ k, k < i → ¬ Bar (tl x) k := fun k hk b => first k hk (at_bar.mpr b)
  obtain ⟨cut, il⟩ := bar_cut hi
  have ll : (tl x).length = x.length := (len_tl x).symm
  -- what is left, once the sign stands alone
  have fy : Fit (cutS x (some ((i + 3 : Nat) : Int)) none) := fx.sub ⟨(tl x).take (i + 3), [], by rw [cutS_from, List.append_nil, List.take_append_drop]⟩
  have ty : tl (cutS x (some ((i + 3 : Nat) : Int)) none) = (tl x).drop (i + 3) := cutS_from
  have e3 : ((i : Int) + 3) = ((i + 3 : Nat) : Int) := by omega
  have ready : Alone x i → (∀ s, IsSx x s → s.hs.map atxt = aheadP x i ∧ atxt s.gl = cutS x (some ((i + 3 : Nat) : Int)) none) ∧
      (∀ (as : List At) (g : At), (aheadP x i).map toAt = as.map some → toAt (cutS x (some ((i + 3 : Nat) : Int)) none) = some g → as.length ≤ 6 → as.Nodup → IsSx x ⟨as, g⟩) := by
    intro h
    have each : ∀ {ps : List Str} {as : List At}, ps.map toAt = as.map some → as.map atxt = ps ∧ ∀ a ∈ as, AtOk 50 a := by
      intro ps
      induction ps with
      | nil =>
        intro as h
        cases as with
        | nil => exact ⟨rfl, by simp⟩
        | cons a as => simp at h
      | cons p ps ih =>
        intro as h
        cases as with
        | nil => simp at h
        | cons a as =>
          rw [List.map_cons, List.map_cons] at h
          injection h with h1 h2
          obtain ⟨i1, i2⟩ := ih h2
          obtain ⟨o1, o2⟩ := toAt_iff.mp h1
          refine ⟨by rw [List.map_cons, i1, o2], fun b hb => ?_⟩
          rcases List.mem_cons.mp hb with rfl | hb
          · exact o1
          · exact i2 b hb
    by_cases i0 : i = 0
    · subst i0
      have ea : aheadP x 0 = [] := if_pos rfl
      rw [ea]
      have ex : x = "|- " ++ cutS x (some ((0 + 3 : Nat) : Int)) none := by
        refine ext_tl ?_
        rw [tl_append, ty, t_bare]
        exact cut
      refine ⟨fun s hs => ?_, fun as g h1 h2 _ _ => ?_⟩
      · by_cases eh : s.hs = []
        · refine ⟨by rw [eh]; rfl, ?_⟩
          have h1 := (sx_bare hs eh).1
          rw [ex] at h1
          have := congrArg tl h1
          rw [tl_append, tl_append] at this
          have := List.append_cancel_left this
          exact (ext_tl this).symm
        · have := sx_first hs eh hi first
          omega
      · cases as with
        | cons a as => simp at h1
        | nil =>
          obtain ⟨o1, o2⟩ := toAt_iff.mp h2
          refine ⟨⟨⟨by simp, by simp⟩, List.nodup_nil, o1⟩, ?_⟩
          rw [sytxt_bare rfl]
          show "|- " ++ atxt g = x
          rw [o2, ← ex]
    · have ipos : 0 < i := by omega
      have c32 : (tl x)[i - 1]? = some 32 := by
        rcases h with h | h
        · exact absurd h i0
        · exact h.2
      have ea : aheadP x i = Txt.split (cutS x none (some ((i - 1 : Nat) : Int))) ", " := if_neg i0
      rw [ea]
      have tz : tl (cutS x none (some ((i - 1 : Nat) : Int))) = (tl x).take (i - 1) := cutS_to
      have t1 : (tl x).take i = (tl x).take (i - 1) ++ [32] := by
        have := List.take_add_one (l := tl x) (i := i - 1)
        rw [show i - 1 + 1 = i by omega, c32] at this
        exact this
      have ex : x = cutS x none (some ((i - 1 : Nat) : Int)) ++ " |- " ++ cutS x (some ((i + 3 : Nat) : Int)) none := by
        refine ext_tl ?_
        rw [tl_append, tl_append, ty, tz, t_part]
        rw [t1] at cut
        rw [List.append_assoc] at cut ⊢
        exact cut
      generalize hz : cutS x none (some ((i - 1 : Nat) : Int)) = z at tz ex ⊢
      generalize hy : cutS x (some ((i + 3 : Nat) : Int)) none = y at ty ex ⊢
      refine ⟨fun s hs => ?_, fun as g h1 h2 h6 hnd => ?_⟩
      · by_cases eh : s.hs = []
        · exact absurd (sx_bare hs eh).2 (first 0 ipos)
        · have ei := sx_first hs eh hi first
          have far := sx_far hs eh
          have e1 : tl z = tl (btxt s.hs) := by
            rw [tz, far, ei, List.append_assoc, Nat.add_sub_cancel, List.take_left]
          have e2 : tl y = tl (atxt s.gl) := by
            have : (tl (btxt s.hs) ++ [32]) ++ ([124, 45, 32] ++ tl (atxt s.gl)) = ((tl (btxt s.hs) ++ [32]) ++ [124, 45, 32]) ++ tl (atxt s.gl) := by simp
            rw [ty, far, this, ei]
            have l3 : (tl (btxt s.hs)).length + 1 + 3 = ((tl (btxt s.hs) ++ [32]) ++ [124, 45, 32]).length := by simp
            rw [l3, List.drop_left]
          have e1 : z = btxt s.hs := ext_tl e1
          rw [e1, btxt_split hs.1.hs eh]
          exact ⟨rfl, (ext_tl e2).symm⟩
      · obtain ⟨b1, b2⟩ := each h1
        obtain ⟨o1, o2⟩ := toAt_iff.mp h2
        have ne : as ≠ [] := fun e0 => by
          subst e0
          exact split_ne cs_ne cs_k b1.symm
        refine ⟨⟨⟨h6, b2⟩, hnd, o1⟩, ?_⟩
        rw [sytxt_some ne]
        show btxt as ++ " |- " ++ atxt g = x
        have bt : btxt as = z := by
          unfold btxt
          rw [b1]
          refine ext_tl ?_
          rw [join_eq, tl_join, split_join_tl cs_ne cs_k]
        rw [bt, o2, ← ex]
  refine ⟨x, some i, rfl, xl, (fun j z => by obtain rfl := Option.some.inj z; omega), ?_⟩
  by_cases al : ¬ Alone x i
  · show ite ((!decide (Alone x i)) = true) _ _
    rw [decide_eq_false al]
    refine iteT (no (fun _ _ z => z) fun s hs => al ?_)
    by_cases eh : s.hs = []
    · have b0 := (sx_bare hs eh).2
      rcases Nat.eq_zero_or_pos i with h | h
      · exact .inl h
      · exact absurd b0 (first 0 h)
    · have ei := sx_first hs eh hi first
      refine .inr ⟨by omega, ?_⟩
      rw [sx_far hs eh, ei, Nat.add_sub_cancel, List.append_assoc, List.getElem?_append_right (Nat.le_refl _), Nat.sub_self]
      rfl
  have al := Decidable.not_not.mp al
  show ite ((!decide (Alone x i)) = true) _ _
  rw [decide_eq_true al]
  refine iteF ?_
  obtain ⟨w1, w2⟩ := ready al
  refine ⟨x, i, rfl, fx, fun l xs H1 h1 A1 s1 => ?_⟩
  refine ⟨_, rfl, _, rfl, _, _, rfl, rfl, _, rfl, x, rfl, by omega, ?_⟩
  rw [e3]
  generalize cutS x (some ((i + 3 : Nat) : Int)) none = y at fy w1 w2 ⊢
  generalize aheadP x i = ps at A1 w1 w2
  refine ⟨y, rfl, fy, fun v H2 T s2 => ?_⟩
  have h2 := s2 _ _ h1
  have A2 := A1.same s2
  have s02 := s1.trans s2
  have pl := A2.len
  cases ey : toAt y with
  | none =>
    rw [ey] at T
    have T : v = .non := T
    subst T
    refine ⟨_, rfl, rfl, true, rfl, iteT (no s02 fun s hs => ?_)⟩
    have := (w1 s hs).2
    rw [toAt_none] at ey
    exact ey s.gl ⟨hs.1.gl, this⟩
  | some g =>
    rw [ey] at T
    have T : AtAt H2 v g := T
    have vn : v ≠ .non := by
      obtain ⟨p, xs, rfl, _⟩ := T
      intro z; cases z
    refine ⟨_, rfl, rfl, false, congrArg V.bl (decide_eq_false vn), iteF ?_⟩
    obtain ⟨y1, y2, y3, y4⟩ := dAs_lay ps
    refine ⟨_, rfl, .none, _, .non, .lst (.inl (.inl h2)) A2.dp, rfl, shaped_of (by show PyData.canLayAll0 _ = true; exact y1) (by show PyData.depthAll _ + 1 ≤ 64; omega), ?_⟩
    have hsx : ∀ s, IsSx x s → ps.map toAt = s.hs.map some := fun s hs => by
      rw [← (w1 s hs).1, List.map_map]
      exact List.map_congr_left fun a ha => toAt_iff.mpr ⟨hs.1.hs.ok a ha, rfl⟩
    cases ea : ((ps.map fun x => dA (toAt x)).any fun z => PyData.eqv z .none) with
    | true => exact ⟨true, rfl, iteT (no s02 fun s hs => by have := any_dA' (hsx s hs); rw [ea] at this; cases this)⟩
    | false =>
      obtain ⟨as, et⟩ := any_dA ea
      have one : ∀ s, IsSx x s → s.hs = as := fun s hs => by
        have := (hsx s hs).symm.trans et
        exact some_inj this
      have la : ps.length = as.length := by have := congrArg List.length et; simpa using this
      refine ⟨false, rfl, iteF ?_⟩
      refine ⟨_, rfl, l, xs, rfl, .inl (.inl (.inl h2)), _, _, rfl, rfl, decide (6 < as.length), ?_, ?_⟩
      · refine congrArg V.bl ?_
        by_cases h : 6 < as.length
        · rw [decide_eq_true h]; exact decide_eq_true (by omega)
        · rw [decide_eq_false h]; exact decide_eq_false (by omega)
      by_cases h6 : 6 < as.length
      · rw [decide_eq_true h6]
        exact iteT (no s02 fun s hs => by have := hs.1.hs.few; rw [one s hs] at this; omega)
      rw [decide_eq_false h6]
      refine iteF ?_
      have AA := A2.all et
      have aok : ∀ a ∈ as, AtOk 50 a := fun a ha => by
        have : some a ∈ ps.map toAt := by rw [et]; exact List.mem_map.mpr ⟨a, ha, rfl⟩
        obtain ⟨p, _, hp⟩ := List.mem_map.mp this
        exact (toAt_iff.mp hp).1
      refine ⟨_, rfl, l, xs, as, rfl, h2, AA, ⟨by omega, aok⟩, fun p ys H3 h3 A3 s3 => ?_⟩
      refine ⟨_, rfl, l, xs, rfl, .inl ⟨.inl (.inl (s3 _ _ h2)), fun t ht => ?_⟩⟩
      have s4 := same_new ht (.tup xs)
      have ht4 : (upd H3 t (.tup xs)) t = some (.tup xs) := upd_same
      have A4 := AA.same (s3.trans s4)
      have B4 := A3.same s4
      have h34 := s4 _ _ h3
      have h24 := s4 _ _ (s3 _ _ h2)
      have T4 := atAt_same T (s3.trans s4)
      have s04 := s02.trans (s3.trans s4)
      generalize upd H3 t (.tup xs) = H4 at ht4 A4 B4 h34 h24 T4 s04 ⊢
      have shp : ∀ {l : List At}, (∀ a ∈ l, AtOk 50 a) → SeqAt.shaped (.tuple (l.map atD)) = true := fun h => by
        exact (ats_shaped h)
      refine ⟨_, _, .tup (.inl (.inl h34)) (ats_dp B4), .tup (.inl (.inl ht4)) (ats_dp A4), shp (fun a ha => aok a (mem_unl ha)), shp aok, ?_⟩
      rw [eqv_atsT]
      by_cases nd : as.Nodup
      · refine ⟨false, by rw [decide_eq_true (unl_id.mpr nd)]; rfl, iteF ?_⟩
        refine ⟨_, rfl, l, xs, rfl, .inl ⟨.inl (.inl h24), fun t2 ht2 => ?_⟩⟩
        have s5 := same_new ht2 (.tup xs)
        refine ⟨_, rfl, (by show 2 ≤ sizeLine; decide), fun c hc => ?_⟩
        have s6 := same_new hc (.tup [.ref t2, v])
        refine q _ _ ?_ (s04.trans (s5.trans s6))
        rw [toSy_iff.mpr (w2 as g et ey (by omega) nd)]
        exact ⟨c, t2, v, xs, rfl, upd_same, s6 _ _ upd_same, A4.same (s5.trans s6), atAt_same T4 (s5.trans s6)⟩
      · refine ⟨true, by rw [decide_eq_false (fun z => nd (unl_id.mp z))]; rfl, iteT (no s04 fun s hs => nd ?_)⟩
        rw [← one s hs]
        exact hs.1.nd
end
end Rp

set_option maxHeartbeats 8000000
/-! Blank-free stretches of texts put together; texts times none to two. -/
namespace Rp
open PySem PySem.Spec PyProof PyProof.Rows L2 TL StX CwR
theorem bf_len (l : List Nat) : Bf l.length l := fun a m c e _ => by
  have := congrArg List.length e
  simp at this
  omega
theorem bf_mono {A B : Nat} {l : List Nat} (h : Bf A l) (le : A ≤ B) : Bf B l := fun a m c e f => Nat.le_trans (h a m c e f) le
theorem bf_short {L : Nat} {l : List Nat} (h : l.length ≤ L) : Bf L l := bf_mono (bf_len l) h
theorem bf_app {A C : Nat} {p q : List Nat} (hp : Bf A p) (hq : Bf C q) : Bf (A + C) (p ++ q) := by
  intro a m c e f
  rw [List.append_assoc] at e
  rcases List.append_eq_append_iff.mp e with ⟨a', e1, e2⟩ | ⟨c', e1, e2⟩
  · have := hq a' m c (by rw [e2, List.append_assoc]) f
    omega
  · rcases List.append_eq_append_iff.mp e2 with ⟨u, e3, e4⟩ | ⟨u, e3, e4⟩
    · have := hp a m u (by rw [e1, e3, List.append_assoc]) f
      omega
    · have f1 : 32 ∉ c' := fun h => f (by rw [e3]; simp [h])
      have f2 : 32 ∉ u := fun h => f (by rw [e3]; simp [h])
      have h1 := hp a c' [] (by rw [e1]; simp) f1
      have h2 := hq [] u c (by rw [e4]; simp) f2
      rw [e3, List.length_append]
      omega
theorem bf_sp {L : Nat} {p q : List Nat} (hp : Bf L p) (hq : Bf L q) : Bf L (p ++ 32 :: q) := by
  intro a m c e f
  rw [List.append_assoc] at e
  rcases List.append_eq_append_iff.mp e with ⟨a', e1, e2⟩ | ⟨c', e1, e2⟩
  · cases a' with
    | nil =>
      rw [List.nil_append] at e2
      cases m with
      | nil => simp
      | cons d m =>
        injection e2 with e2 _
        exact absurd (by rw [e2]; simp) f
    | cons d a' =>
      injection e2 with _ e2
      exact hq a' m c (by rw [e2, List.append_assoc]; rfl) f
  · rcases List.append_eq_append_iff.mp e2 with ⟨u, e3, e4⟩ | ⟨u, e3, e4⟩
    · exact hp a m u (by rw [e1, e3, List.append_assoc]) f
    · cases u with
      | nil =>
        rw [e3, List.append_nil]
        refine hp a c' [] (by rw [e1]; simp) fun h => f (by rw [e3]; simp [h])
      | cons d u =>
        injection e4 with e4 _
        exact absurd (by rw [e3, ← e4]; simp) f
theorem bf_join {L : Nat} : ∀ {ps : List (List Nat)}, (∀ p ∈ ps, p.length ≤ L) → Bf L (joinL [32] ps)
  | [], _ => bf_short (by simp [joinL])
  | [p], h => by show Bf L p; exact bf_short (h p (by simp))
  | p :: q :: r, h => by
    rw [joinL_cons (by simp)]
    exact bf_sp (bf_short (h p (by simp))) (bf_join fun x hx => h x (by simp at hx ⊢; exact .inr hx))
/-- a stretch between two of a text -/
theorem bf_mid {L k : Nat} {p m q : List Nat} (hp : Bf L p) (hq : Bf L q) (hm : m.length ≤ k) : Bf (2 * L + k) (p ++ (m ++ q)) :=
  bf_mono (bf_app hp (bf_app (bf_short hm) hq)) (by omega)
theorem bf_take {L n : Nat} {l : List Nat} (h : Bf L l) : Bf L (l.take n) := h.sub (a := []) (c := l.drop n) (by simp)
theorem bf_drop {L n : Nat} {l : List Nat} (h : Bf L l) : Bf L (l.drop n) := h.sub (a := l.take n) (c := []) (by simp)
def repS (z : Str) (n : Int) : Str := if n < 1 then Str.empty else if n = 1 then z else z ++ z
def rMulC : R2 := fun x y H Q => ∃ (z : Str) (n : Int), x = .str z ∧ y = .int n ∧ 0 ≤ n ∧ n ≤ 2 ∧ 1 ≤ z.length ∧ z.length ≤ 1000 ∧ Q (.str (repS z n)) H
theorem op_mulC {X : Cx} : OpR X (binaryOp .Mult) rMulC := by
  intro pins s σ H x y v u Q I rx ry h
  obtain ⟨z, n, rfl, rfl, n0, n2, z1, z2, q⟩ := h
  obtain ⟨t, rfl⟩ := rx
  obtain ⟨t', rfl⟩ := ry
  have zl : (z.length == 0) = false := by simp; omega
  rcases (by omega : n = 0 ∨ n = 1 ∨ n = 2) with rfl | rfl | rfl
  · exact PySem.P.mul_str (by decide) (fun h _ => absurd (by decide) h) (fun h _ => absurd (by decide) h) (by rw [if_pos (by decide)]; exact ⟨by decide, V.str Str.empty, H, I.tok _, ⟨_, rfl⟩, q⟩)
  · exact PySem.P.mul_str (by decide) (fun _ e => absurd e (by simp)) (fun _ e => absurd e (by simp)) (by rw [if_neg (by decide), if_pos (by simp)]; exact ⟨V.str z, H, I, ⟨_, rfl⟩, q⟩)
  · have big : (10000 : Nat) ≤ sizeLine := by decide
    refine PySem.P.mul_str (by decide) (fun _ _ => ?_) (fun _ _ => by show decide (z.length * 2 > sizeLine) = false; exact decide_eq_false (by omega)) ?_
    · have : ((2 : Int) ^ 63 - 1) / 2 = 4611686018427387903 := by decide
      rw [this]; omega
    · rw [if_neg (by decide), if_neg (by rw [zl]; decide)]
      have e : (⟨(List.replicate (2 : Int).toNat z.cps).foldl (· ++ ·) #[]⟩ : Str) = z ++ z := by
        refine ext_tl ?_
        show ((#[] ++ z.cps) ++ z.cps).toList = tl (z ++ z)
        rw [tl_append]
        simp [tl]
      have big : (10000 : Nat) ≤ sizeLine := by decide
      rw [e]
      exact ⟨by rw [slen]; omega, V.str (z ++ z), H, I.tok _, ⟨_, rfl⟩, q⟩
/-! ### a text is given out -/
def PEk (X : Cx) (e : Expr) (t : TE) : Prop :=
  ∀ (pins : List (Addr × Obj)) (s : Shared) (σ : L2.St) (H : Hp) (Q : VK), Inv X pins σ H s → t σ H Q → wpAny (model X.prog X.w) X.A (eval e X.env) (fun v s1 => 1 ≤ s1.toks ∧ EP X pins σ Q v s1) X.xe s
section
variable {X : Cx} {a b e o z1 : Expr} {ta tb te to tz : TE} {pos : Pos}
theorem pek_str {x : Str} {j : Nat} : PEk X (.Constant (.str x) j pos) (tC (.str x)) := fun _ s _ H _ I h => Calls.Constant_str ⟨by show 1 ≤ s.toks + 1; omega, .str x, H, I.tok _, ⟨_, rfl⟩, h⟩
theorem pek_opR {op : Operator} {r : R2} (ho : OpR X (binaryOp op) r) (ha : PE X a ta) (hb : PEk X b tb) : PEk X (.BinOp a op b pos) (tOp r ta tb) := by
  intro pins s σ H Q I h
  refine wpAny_BinOp (thn (ha.run pins s σ H _ I h) fun v s1 ⟨x, H1, I1, r1, q1⟩ => thn (hb pins s1 σ H1 _ I1 q1) fun u s2 ⟨hk, y, H2, I2, r2, q2⟩ => ?_)
  exact wpAny_mono (PySem.wpAny_toks_of hk (ho pins s2 σ H2 x y v u Q I2 r1 r2 q2)) (fun _ _ z => z) fun _ _ z => z.2
theorem pek_opL {op : Operator} {r : R2} (ho : OpR X (binaryOp op) r) (ha : PEk X a ta) (hb : PE X b tb) : PEk X (.BinOp a op b pos) (tOp r ta tb) := by
  intro pins s σ H Q I h
  refine wpAny_BinOp (thn (ha pins s σ H _ I h) fun v s1 ⟨hk, x, H1, I1, r1, q1⟩ => ?_)
  refine wpAny_mono (PySem.wpAny_toks_of hk (hb.run pins s1 σ H1 _ I1 q1)) (fun u s2 ⟨hk2, y, H2, I2, r2, q2⟩ => ?_) fun _ _ z => z.2
  exact wpAny_mono (PySem.wpAny_toks_of hk2 (ho pins s2 σ H2 x y v u Q I2 r1 r2 q2)) (fun _ _ z => z) fun _ _ z => z.2
def tReplN (to tz : TE) (y c : Str) : TE := fun σ H Q => to σ H fun v H1 => ∃ x, v = .str x ∧ tz σ H1 fun v2 H2 => ∃ a, v2 = .str a ∧ 1 ≤ a.length ∧ 1 ≤ c.length ∧ a.length + c.length ≤ sizeLine ∧ y ≠ a ++ c ∧
  x.length + (x.length + 1) * (a ++ c).length ≤ 16777216 ∧ Q (.str (Txt.replace x y (a ++ c))) H2
/-- e.replace(y, z + c) -/
theorem pet_replN {y c : Str} {j k : Nat} {c0 c1 apos pz : Pos} (ho : PE X o to) (hz : PE X z1 tz)
    (hst : starEach [.Constant (.str y) j c0, .BinOp z1 .Add (.Constant (.str c) k c1) pz] X.env = [(false, eval (.Constant (.str y) j c0) X.env), (false, eval (.BinOp z1 .Add (.Constant (.str c) k c1) pz) X.env)] := by rfl)
    (hbase : attributeBase o "replace" X.env (eval o X.env) = eval o X.env := by rfl) (hline : (apos.endLine == pos.line) = true := by rfl) :
    PET X (.Call (.Attribute o "replace" apos) [.Constant (.str y) j c0, .BinOp z1 .Add (.Constant (.str c) k c1) pz] [] pos) (tReplN to tz y c) := by
  intro pins s σ H Q h0 I h
  refine PySem.Call_method2 hbase hst hline (wpAny_mono (PySem.wpAny_toks (ho.run pins s σ H _ I h)) (fun v s1 q => ?_) fun _ _ z => z.2)
  obtain ⟨hk, v', H1, I1, r1, x, e1, q⟩ := q
  subst e1
  obtain ⟨tx, e2⟩ := r1
  subst e2
  refine ⟨"str", _, PySem.F.plainAttrs_str, PySem.F.slot_str_replace, PySem.F.type_str_replace, typeIs_str _ _ _, (fun _ e => nomatch e), Calls.callWith_builtin rfl (Calls.evalArgs_plain (Calls.spliced_cons ?_))⟩
  refine Calls.Constant_str (Calls.spliced_cons ?_)
  refine wpAny_BinOp (wpAny_mono (PySem.wpAny_toks (hz.run pins _ σ H1 _ (I1.tok (s1.toks + 1)) q)) (fun v2 s2 q => ?_) fun _ _ z => z.2)
  obtain ⟨hk2, v2', H2, I2, r2, a, e3, a1, c1, big, ne, fit, q⟩ := q
  have hk2 : s1.toks + 1 ≤ s2.toks := hk2
  subst e3
  obtain ⟨ta, e4⟩ := r2
  subst e4
  refine Calls.Constant_str ?_
  have z1 : ¬ ((a.length == 0) = true) := by simp; omega
  have z2 : ¬ ((c.length == 0) = true) := by simp; omega
  refine PySem.P.add_str ?_
  rw [if_neg z1, if_neg z2]
  refine ⟨by rw [slen]; exact big, ?_⟩
  refine Calls.spliced_nil ?_
  exact PySem.SC.replace (by show s1.toks ≠ 0; omega) (by show s2.toks + 1 ≠ 0; omega) (by show s1.toks ≠ s2.toks + 1; omega) (by simp [ne]) fit fun t' k => ⟨.str (Txt.replace x y (a ++ c)), H2, I2.tok k, ⟨t', rfl⟩, q⟩
theorem pe_lstK {e1 e2 : Expr} {t1 t2 : TE} (h1 : PEk X e1 t1) (h2 : PET X e2 t2) (hs : starEach [e1, e2] X.env = [(false, eval e1 X.env), (false, eval e2 X.env)] := by rfl) : PE X (.List [e1, e2] pos) (tLst (tCons t1 (tCons t2 tNil))) := by
  refine ⟨fun pins s σ H Q I hq => wpAny_List_spliced ?_⟩
  rw [hs]
  show wpAny _ _ (spliced [(false, _), (false, _)]) _ _ s
  refine Calls.spliced_cons (thn (h1 pins s σ H _ I hq) fun v s1 ⟨hk, x, H1, I1, r1, q1⟩ => ?_)
  refine Calls.spliced_cons (thn (h2 pins s1 σ H1 _ hk I1 q1) fun u s2 ⟨y, H2, I2, r2, z, q⟩ => Calls.spliced_nil ?_)
  have hf : H2 s2.heap.objs.size = none := I2.hok.fresh (Nat.le_refl _)
  refine ⟨z, .ref s2.heap.objs.size, upd H2 s2.heap.objs.size (.lst [x, y]), I2.laid (t' := s2.toks) (fun b u e => Heap.get?_push_of_some _ e) (Nat.le_refl _) ?_, rfl, q _ hf⟩
  exact ⟨z, [v, u], 0, .cons r1 (.cons r2 .nil), Heap.get?_push_size _ rfl⟩
end
end Rp

set_option maxHeartbeats 8000000
/-! A sign of the law's own; a text bent. -/
namespace Rp
open PySem PySem.Spec PyProof PyProof.Rows L2 TL StX CwR
def spPickS : Sp := fun vs H Q _ => ∃ (b : Addr) (x : Str) (j : Nat), vs = [.ref b, .str x] ∧ BoxAt H b j ∧ j ≤ 1000000 ∧ 1 ≤ x.length ∧ x.length ≤ 1000 ∧
  ∀ (c : Nat) (H' : Hp), c ∈ tl x → BoxAt H' b (j + 1) → But b H H' → Q (.str ⟨#[c]⟩) H'
def spSign : Sp := fun vs H Q _ => ∃ (b : Addr) (j : Nat), vs = [.ref b] ∧ BoxAt H b j ∧ j + 2 ≤ 1000000 ∧
  ∀ (c : Nat) (H' : Hp), c < 128 → BoxAt H' b (j + 2) → But b H H' → Q (.str ⟨#[c]⟩) H'
def spBent : Sp := fun vs H Q _ => ∃ (b : Addr) (x : Str) (j : Nat), vs = [.ref b, .str x] ∧ BoxAt H b j ∧ j + 10 ≤ 1000000 ∧ x.length ≤ 430 ∧ (∀ c ∈ tl x, c < 128) ∧
  ∀ (y : Str) (H' : Hp), (∀ c ∈ tl y, c < 128) → y.length ≤ x.length + 1 → (∀ L, Bf L (tl x) → Bf (2 * L + 2) (tl y)) → BoxAt H' b (j + 10) → But b H H' → Q (.str y) H'
/-- what stands between two pieces of a text -/
theorem bent_ok {x y : Str} {i n : Nat} {m : List Nat} (e : tl y = (tl x).take i ++ (m ++ (tl x).drop (i + n))) (hm : m.length ≤ 2) (mn : m.length ≤ n + 1) (mc : ∀ c ∈ m, c < 128) (hx : ∀ c ∈ tl x, c < 128) (il : i ≤ x.length) (ml : i + n ≤ x.length ∨ m.length ≤ 1) :
    (∀ c ∈ tl y, c < 128) ∧ y.length ≤ x.length + 1 ∧ ∀ L, Bf L (tl x) → Bf (2 * L + 2) (tl y) := by
  refine ⟨fun c hc => ?_, ?_, fun L h => ?_⟩
  · rw [e] at hc
    rcases List.mem_append.mp hc with hc | hc
    · exact hx c (List.mem_of_mem_take hc)
    · rcases List.mem_append.mp hc with hc | hc
      · exact mc c hc
      · exact hx c (List.mem_of_mem_drop hc)
  · have := congrArg List.length e
    rw [List.length_append, List.length_append, List.length_take, List.length_drop, ← len_tl, ← len_tl] at this
    rw [this]
    omega
  · rw [e]
    exact bf_mid (bf_take h) (bf_drop h) hm
theorem set_sum {v : Nat} : ∀ {l : List Nat} {k : Nat} (h : k < l.length), (l.set k v).sum + l[k] = l.sum + v
  | a :: l, 0, _ => by simp; omega
  | a :: l, k + 1, h => by
    have := set_sum (v := v) (l := l) (k := k) (by simpa using h)
    simp only [List.set_cons_succ, List.sum_cons, List.getElem_cons_succ]
    omega
theorem swap_ok {ws : List Str} {g : Nat} (n1 : 0 < ws.length) (gl : g < ws.length) :
    (∀ p ∈ (ws.set g ws[0]).set 0 ws[g], p ∈ ws) ∧ (((ws.set g ws[0]).set 0 ws[g]).map fun p => p.length + 1).sum = (ws.map fun p => p.length + 1).sum ∧ True ∧ (ws.set g ws[0]).set 0 ws[g] ≠ [] := by
  refine ⟨fun p hp => ?_, ?_, trivial, fun z => ?_⟩
  · rcases List.mem_or_eq_of_mem_set hp with hp | rfl
    · rcases List.mem_or_eq_of_mem_set hp with hp | rfl
      · exact hp
      · exact List.getElem_mem _
    · exact List.getElem_mem _
  · match ws, n1, g, gl with
    | h :: t, _, 0, _ => rfl
    | h :: t, _, g + 1, gl =>
      have gl' : g < t.length := by simpa using gl
      have := set_sum (v := h.length + 1) (l := t.map fun p => p.length + 1) (k := g) (by rw [List.length_map]; exact gl')
      rw [List.getElem_map] at this
      simp only [List.set_cons_succ, List.set_cons_zero, List.getElem_cons_succ, List.getElem_cons_zero, List.map_cons, List.sum_cons, List.map_set]
      omega
  · have := congrArg List.length z
    rw [List.length_set, List.length_set] at this
    simp at this
    rw [this] at n1
    simp at n1
section
variable {P : Program} {w : World} {K : PySem.W.Frag} {mg : Str → Option Value} {base : Heap}
theorem ok_picks {f fT : Addr} {fd fdT : FuncData} (F : Fun K "_law_pick" "_law_pick" sPick f fd) (GT : FnOk P w K mg base CX0 1 fT fdT ["_law_box_here", "_law_reach"] spTake) (kT : PySem.W.keepIn K (.ref fT) = true) (bT : Binds K fdT ["_law_box_here", "_law_reach"] []) (mT : mg "_law_take" = some (.ref fT)) (mLen : mg "len" = none) :
    FnOk P w K mg base CX0 2 f fd ["_law_box_here", "_law_things"] spPickS := by
  refine F.ok scPick (fun vs H Q E h => ?_) (fun cdv A outer s H vs Q E hr h => ?_)
  · obtain ⟨b, x, j, rfl, _⟩ := h
    rfl
  obtain ⟨b, x, j, rfl, B, hj, l1, l2, q⟩ := h
  have big : (10000 : Nat) ≤ sizeLine := by decide
  refine ⟨_, pss_one (ps_ret (pe_ix ix_str (pv 1) (pe_call GT hr rfl mT kT bT .nil pass0 (pa_cons (pv 0) (pa_cons (pe_callB call_len_str (by rfl) mLen PySem.boot_len (pa_cons (pv 1) pa_nil)) pa_nil))) (fun _ _ => rfl))), ?_⟩
  refine ⟨_, rfl, _, rfl, _, rfl, x, rfl, by omega, b, _, j, rfl, B, hj, by omega, by omega, fun r H' r0 r1 B' o => ?_⟩
  have ll : (tl x).length = x.length := (len_tl x).symm
  have hr' : r.toNat < (tl x).length := by omega
  refine ⟨x, r, (tl x)[r.toNat], rfl, rfl, by omega, ?_, q _ _ (List.getElem_mem hr') B' o⟩
  show atI (tl x) r = _
  unfold atI ixN
  rw [if_pos r0, if_pos (by omega)]
  exact List.getElem?_eq_getElem hr'
theorem scSign : FnScope ["_law_box_here", "_law_signs", "_law_own"] ["_law_box_here"] (defScope sLawSign) := ⟨rfl, rfl, rfl, by decide +kernel, rfl, by decide +kernel, by decide +kernel⟩
theorem ok_sign {f fT fP : Addr} {fd dT dP : FuncData} (F : Fun K "_law_sign" "_law_sign" sLawSign f fd)
    (GT : FnOk P w K mg base CX0 1 fT dT ["_law_box_here", "_law_reach"] spTake) (kT : PySem.W.keepIn K (.ref fT) = true) (bT : Binds K dT ["_law_box_here", "_law_reach"] []) (mT : mg "_law_take" = some (.ref fT))
    (GP : FnOk P w K mg base CX0 2 fP dP ["_law_box_here", "_law_things"] spPickS) (kP : PySem.W.keepIn K (.ref fP) = true) (bP : Binds K dP ["_law_box_here", "_law_things"] []) (mP : mg "_law_pick" = some (.ref fP)) :
    FnOk P w K mg base CX0 3 f fd ["_law_box_here"] spSign := by
  refine F.ok scSign (fun vs H Q E h => ?_) (fun cdv A outer s H vs Q E hr h => ?_)
  · obtain ⟨b, j, rfl, _⟩ := h
    rfl
  obtain ⟨b, j, rfl, B, hj, q⟩ := h
  have r1 : Room 1 _ := hr.mono (by decide)
  refine ⟨_, pss_cons (ps_set (i := 1) scSign.nd rfl (Or.inl rfl) pe_str) (pss_cons (ps_set (i := 2) scSign.nd rfl (Or.inl rfl) pe_str)
    (pss_one (ps_ret (pe_ifExp (pt_cmpR op_eq (pe_call GT r1 rfl mT kT bT .nil pass0 (pa_cons (pv 0) (pa_cons pe_int pa_nil))) pe_int (nomark _))
      (pe_call GP hr rfl mP kP bP .nil pass0 (pa_cons (pv 0) (pa_cons (pv 1) pa_nil))) (pe_call GP hr rfl mP kP bP .nil pass0 (pa_cons (pv 0) (pa_cons (pv 2) pa_nil))))))), ?_⟩
  refine ⟨_, rfl, b, _, j, rfl, B, by omega, by omega, by omega, fun r H1 r0 r1 B1 o1 => ⟨rfl, decide (V.int r = V.int 0), rfl, ?_⟩⟩
  cases decide (V.int r = V.int 0) with
  | true =>
    refine iteT ⟨_, rfl, _, rfl, b, _, _, rfl, B1, by omega, by decide +kernel, by decide +kernel, fun c H2 hc B2 o2 => q c H2 ?_ B2 (o1.trans o2)⟩
    revert c
    decide +kernel
  | false =>
    refine iteF ⟨_, rfl, _, rfl, b, _, _, rfl, B1, by omega, by decide +kernel, by decide +kernel, fun c H2 hc B2 o2 => q c H2 ?_ B2 (o1.trans o2)⟩
    revert c
    decide +kernel
abbrev NBt : List Str := ["_law_box_here", "_law_text", "_law_at", "_law_way", "_law_ahead", "_law_behind", "_law_words", "_law_one"]
theorem scBent : FnScope NBt ["_law_box_here", "_law_text"] (defScope sLawBentT) := ⟨rfl, rfl, rfl, by decide +kernel, rfl, by decide +kernel, by decide +kernel⟩
theorem ok_bent {f fT fS : Addr} {fd dT dS : FuncData} (F : Fun K "_law_bent_text" "_law_bent_text" sLawBentT f fd)
    (GT : FnOk P w K mg base CX0 1 fT dT ["_law_box_here", "_law_reach"] spTake) (kT : PySem.W.keepIn K (.ref fT) = true) (bT : Binds K dT ["_law_box_here", "_law_reach"] []) (mT : mg "_law_take" = some (.ref fT))
    (GS : FnOk P w K mg base CX0 3 fS dS ["_law_box_here"] spSign) (kS : PySem.W.keepIn K (.ref fS) = true) (bS : Binds K dS ["_law_box_here"] []) (mS : mg "_law_sign" = some (.ref fS)) (mLen : mg "len" = none) (mInt : mg "int" = none) :
    FnOk P w K mg base CX0 4 f fd ["_law_box_here", "_law_text"] spBent := by
  refine F.ok scBent (fun vs H Q E h => ?_) (fun cdv A outer s H vs Q E hr h => ?_)
  · obtain ⟨b, x, j, rfl, _⟩ := h
    rfl
  obtain ⟨b, x, j, rfl, B, hj, xl, xc, q⟩ := h
  have big : (10000 : Nat) ≤ sizeLine := by decide
  have r1 : Room 1 _ := hr.mono (by decide)
  refine ⟨_, pss_cons (ps_par (i := 2) (j := 3) rfl scBent.nd rfl rfl (by decide) rfl rfl (pa_cons (pe_call GT r1 rfl mT kT bT .nil pass0 (pa_cons (pv 0) (pa_cons (pe_op op_add (pe_callB call_len_str (by rfl) mLen PySem.boot_len (pa_cons (pv 1) pa_nil)) pe_int) pa_nil))) (pa_cons (pe_call GT r1 rfl mT kT bT .nil pass0 (pa_cons (pv 0) (pa_cons pe_int pa_nil))) pa_nil)) (by rfl))
    (pss_cons (ps_par (i := 4) (j := 5) rfl scBent.nd rfl rfl (by decide) rfl rfl (pa_cons (pe_slice sl_str (pv 1) po_none (po_some (pv 2))) (pa_cons (pe_slice sl_str (pv 1) (po_some (pv 2)) po_none) pa_nil)) (by rfl))
    (pss_cons (ps_if (pt_cmpR op_eq (pv 3) pe_int (nomark _))
      (pss_cons (ps_par (i := 6) (j := 7) rfl scBent.nd rfl rfl (by decide) rfl rfl (pa_cons (pe_split (pv 1) pe_str) (pa_cons (pe_call GT r1 rfl mT kT bT .nil pass0 (pa_cons (pv 0) (pa_cons (pe_callB call_len_seq (by rfl) mLen PySem.boot_len (pa_cons (pe_split (pv 1) pe_str) pa_nil)) pa_nil))) pa_nil)) (by rfl))
      (pss_cons (ps_asg (pe_tup (pa_cons (pe_ix ix_list (pv 6) pe_int (fun _ _ => rfl)) (pa_cons (pe_ix ix_list (pv 6) (pv 7) (fun _ _ => rfl)) pa_nil))) (pg_tup (by rfl) (pgs_cons (pg_sub (pv 6) (pv 7) set_list) (pgs_cons (pg_sub (pv 6) pe_int set_list) pgs_nil))))
      (pss_one (ps_ret (pe_bm PySem.F.plainAttrs_str PySem.F.slot_str_join PySem.F.type_str_join mt_join pe_str (pa_cons (pv 6) pa_nil)))))) pss_nil)
    (pss_cons (ps_if (pt_cmpR op_eq (pv 3) pe_int (nomark _)) (pss_one (ps_ret (pe_op op_addS (pe_op op_addS (pe_op op_addS (pv 4) (pe_slice sl_str (pv 5) (po_some pe_int) (po_some pe_int))) (pe_slice sl_str (pv 5) po_none (po_some pe_int))) (pe_slice sl_str (pv 5) (po_some pe_int) po_none)))) pss_nil)
    (pss_cons (ps_if (pt_cmpR op_eq (pv 3) pe_int (nomark _)) (pss_one (ps_ret (pe_op op_addS (pe_op op_addS (pv 4) (pe_slice sl_str (pv 5) po_none (po_some pe_int))) (pv 5)))) pss_nil)
    (pss_one (ps_ret (pe_op op_addS (pe_op op_addS (pv 4) (pe_op op_mulC (pe_call GS hr rfl mS kS bS .nil pass0 (pa_cons (pv 0) pa_nil)) (pe_callTy call_int1 (by rfl) mInt (by decide +kernel) (pa_cons (pe_cmpR op_ne (pv 3) pe_int (nomark _)) pa_nil))))
      (pe_slice sl_str (pv 5) (po_some (pe_callTy call_int1 (by rfl) mInt (by decide +kernel) (pa_cons (pe_cmpR op_gt (pv 3) pe_int (nomark _)) pa_nil))) po_none)))))))), ?_⟩
  have ll : (tl x).length = x.length := (len_tl x).symm
  refine ⟨_, rfl, _, rfl, x, rfl, by omega, _, _, rfl, rfl, b, _, j, rfl, B, by omega, by omega, by omega, fun r H1 r0 rlt B1 o1 => ?_⟩
  refine ⟨_, rfl, b, _, _, rfl, B1, by omega, by omega, by omega, fun wy H2 w0 w1 B2 o2 => ⟨_, _, rfl, ?_⟩⟩
  obtain ⟨i, rfl⟩ := Int.eq_ofNat_of_zero_le r0
  obtain ⟨k, rfl⟩ := Int.eq_ofNat_of_zero_le w0
  have il : i ≤ x.length := by omega
  refine ⟨_, rfl, _, rfl, _, rfl, x, rfl, by omega, _, rfl, _, rfl, _, rfl, x, rfl, by omega, _, _, rfl, ?_⟩
  have ta : tl (cutS x none (some (i : Int))) = (tl x).take i := cutS_to
  have tb : tl (cutS x (some (i : Int)) none) = (tl x).drop i := cutS_from
  have la := asc_len x none (some (i : Int))
  have lb := asc_len x (some (i : Int)) none
  have o12 := o1.trans o2
  show (tSeq _ _) _ [_, _, _, _, some (V.str (cutS x none (some (i : Int)))), some (V.str (cutS x (some (i : Int)) none)), _, _] H2
  generalize cutS x none (some (i : Int)) = ah at ta la ⊢
  generalize cutS x (some (i : Int)) none = bh at tb lb ⊢
  have B10 : BoxAt H2 b (j + 10) := B2.more (by omega)
  by_cases k5 : k = 5
  · subst k5
    refine ⟨_, rfl, rfl, true, rfl, iteT ?_⟩
    refine ⟨_, rfl, ⟨_, rfl⟩, x, " ", rfl, rfl, by decide +kernel, by omega, fun l hl => ?_⟩
    have sum := parts_sum' (x := x)
    have pl : ∀ L, Bf L (tl x) → ∀ p ∈ Txt.split x " ", p.length ≤ L := fun L h p hp => part_len h hp
    have pc : ∀ p ∈ Txt.split x " ", ∀ c ∈ tl p, c < 128 := fun p hp c hc => by
      obtain ⟨a, z, e⟩ := split_sub sp_ne sp_k hp
      exact xc c (by rw [e]; simp [hc])
    have cnt : ∀ l : List Str, l.length ≤ (l.map fun p => p.length + 1).sum := by
      intro l
      induction l with
      | nil => simp
      | cons p l ih => simp; omega
    have c0 := cnt (Txt.split x " ")
    have ne := split_ne (x := x) sp_ne sp_k
    generalize hws : Txt.split x " " = ws at hl sum pl pc c0 ne ⊢
    have s3 := same_new hl (.lst (ws.map V.str))
    have hl3 : (upd H2 l (.lst (ws.map V.str))) l = some (.lst (ws.map V.str)) := upd_same
    have B3 := B2.same s3
    have lb' : l ≠ b := ne_box B2 hl
    generalize upd H2 l (.lst (ws.map V.str)) = H3 at s3 hl3 B3 ⊢
    refine ⟨_, rfl, _, rfl, ⟨_, rfl⟩, x, " ", rfl, rfl, by decide +kernel, by omega, fun l2 hl2 => ?_⟩
    rw [hws]
    have s4 := same_new hl2 (.lst (ws.map V.str))
    have n1 : 1 ≤ ws.length := by cases ws with
      | nil => exact absurd rfl ne
      | cons a l => simp
    refine ⟨l2, _, rfl, .inl (.inl (.inl upd_same)), b, _, _, rfl, B3.same s4, by omega, by rw [List.length_map]; omega, by rw [List.length_map]; omega, fun one H5 q0 q1 B5 o5 => ⟨_, _, rfl, ?_⟩⟩
    obtain ⟨g, rfl⟩ := Int.eq_ofNat_of_zero_le q0
    rw [List.length_map] at q1
    have gl : g < ws.length := by omega
    have hl5 := o5 _ _ (s4 _ _ hl3) lb'
    have sq5 : SqL K H5 l (ws.map V.str) := .inl (.inl hl5)
    have at0 : atI (ws.map V.str) 0 = some (V.str ws[0]) := at_of (j := 0) rfl (by rw [List.getElem?_map, List.getElem?_eq_getElem n1]; rfl)
    have atg : atI (ws.map V.str) (g : Int) = some (V.str ws[g]) := at_of (j := g) rfl (by rw [List.getElem?_map, List.getElem?_eq_getElem gl]; rfl)
    refine ⟨_, rfl, l, _, 0, _, rfl, rfl, sq5, at0, _, rfl, _, rfl, l, _, (g : Int), _, rfl, rfl, sq5, atg, (by show 2 ≤ sizeLine; decide), fun t ht => ?_⟩
    have s6 := same_new ht (.tup [V.str ws[0], V.str ws[g]])
    have ht6 : (upd H5 t (.tup [V.str ws[0], V.str ws[g]])) t = some (.tup [V.str ws[0], V.str ws[g]]) := upd_same
    have hl6 := s6 _ _ hl5
    have B6 := B5.same s6
    have o6 : But b H2 (upd H5 t (.tup [V.str ws[0], V.str ws[g]])) := fun a o z nb => s6 _ _ (o5 _ _ (s4 _ _ (s3 _ _ z)) nb)
    generalize upd H5 t (.tup [V.str ws[0], V.str ws[g]]) = H6 at ht6 hl6 B6 o6 ⊢
    have ix1 : ixN (ws.map V.str).length (g : Int) = some g := by unfold ixN; rw [if_pos (by omega), if_pos (by rw [List.length_map]; omega)]; rfl
    refine ⟨t, _, rfl, .inl (.inl ht6), rfl, _, _, rfl, _, rfl, _, rfl, l, _, (g : Int), g, rfl, rfl, hl6, ix1, ?_⟩
    have hl7 : (upd H6 l (.lst ((ws.map V.str).set g (V.str ws[0])))) l = some (.lst ((ws.map V.str).set g (V.str ws[0]))) := upd_same
    have B7 : BoxAt (upd H6 l (.lst ((ws.map V.str).set g (V.str ws[0])))) b _ := B6.upd lb' _
    have ix0 : ixN ((ws.map V.str).set g (V.str ws[0])).length 0 = some 0 := by unfold ixN; rw [if_pos (by omega), if_pos (by rw [List.length_set, List.length_map]; omega)]; rfl
    refine ⟨_, _, rfl, _, rfl, l, _, 0, 0, rfl, rfl, hl7, ix0, rfl, ?_⟩
    have e8 : ((ws.map V.str).set g (V.str ws[0])).set 0 (V.str ws[g]) = ((ws.set g ws[0]).set 0 ws[g]).map V.str := by rw [List.map_set, List.map_set]
    rw [e8]
    obtain ⟨w1, w2, w3, w4⟩ := swap_ok n1 gl
    generalize (ws.set g ws[0]).set 0 ws[g] = ws' at w1 w2 w3 w4 ⊢
    have hl8 : (upd (upd H6 l (.lst ((ws.map V.str).set g (V.str ws[0])))) l (.lst (ws'.map V.str))) l = some (.lst (ws'.map V.str)) := upd_same
    have B8 : BoxAt (upd (upd H6 l (.lst ((ws.map V.str).set g (V.str ws[0])))) l (.lst (ws'.map V.str))) b _ := B7.upd lb' _
    have o8 : But b H2 (upd (upd H6 l (.lst ((ws.map V.str).set g (V.str ws[0])))) l (.lst (ws'.map V.str))) := fun a o z nb => by
      have al : a ≠ l := ne_of_none z hl
      rw [upd_ne al, upd_ne al]
      exact o6 _ _ z nb
    generalize upd (upd H6 l (.lst ((ws.map V.str).set g (V.str ws[0])))) l (.lst (ws'.map V.str)) = H8 at hl8 B8 o8 ⊢
    have jl : (joinL [32] (ws'.map tl)).length + 1 = x.length + 1 := by
      have := joinL_len (s := 32) (ps := ws'.map tl) (fun z => w4 (List.map_eq_nil_iff.mp z))
      rw [this, List.map_map]
      have e : (ws'.map ((fun p => p.length + 1) ∘ tl)) = ws'.map fun p => p.length + 1 := List.map_congr_left fun p _ => by show (tl p).length + 1 = p.length + 1; rw [← len_tl]
      rw [e, w2, sum]
    have ty : tl (Txt.join " " ws') = joinL [32] (ws'.map tl) := by rw [join_eq, tl_join, t_sp]
    have c1 := cnt ws'
    rw [w2] at c1
    have sl : (ws'.map (·.length)).sum ≤ 431 := by
      have : ∀ l : List Str, (l.map (·.length)).sum ≤ (l.map fun p => p.length + 1).sum := by
        intro l
        induction l with
        | nil => simp
        | cons p l ih => simp; omega
      have := this ws'
      omega
    refine ⟨rfl, _, rfl, " ", l, ws', rfl, rfl, .inl (.inl (.inl hl8)), ?_, ?_⟩
    · have l1 : (" " : Str).length = 1 := by decide +kernel
      rw [l1]; omega
    · refine q _ H8 (fun c hc => ?_) ?_ (fun L h => ?_) (B8.more (by omega)) (o12.trans o8)
      · rw [ty] at hc
        have : ∀ ps : List Str, (∀ p ∈ ps, ∀ c ∈ tl p, c < 128) → ∀ c ∈ joinL [32] (ps.map tl), c < 128 := by
          intro ps
          induction ps with
          | nil => intro _ c hc; simp [joinL] at hc
          | cons p ps ih =>
            intro h c hc
            cases ps with
            | nil => exact h p (by simp) c hc
            | cons p2 r =>
              rw [List.map_cons, List.map_cons, joinL_cons (by simp)] at hc
              rcases List.mem_append.mp hc with hc | hc
              · exact h p (by simp) c hc
              · rcases List.mem_append.mp hc with hc | hc
                · simp at hc; omega
                · exact ih (fun p hp => h p (by simp at hp ⊢; exact .inr hp)) c hc
        exact this ws' (fun p hp => pc p (w1 p hp)) c hc
      · have : (tl (Txt.join " " ws')).length = x.length := by rw [ty]; omega
        rw [len_tl]; omega
      · rw [ty]
        refine bf_mono (bf_join (L := L) fun p hp => ?_) (by omega)
        obtain ⟨p', hp', rfl⟩ := List.mem_map.mp hp
        rw [← len_tl]
        exact pl L h p' (w1 p' hp')
  refine ⟨_, rfl, rfl, false, congrArg V.bl (decide_eq_false fun z => k5 (by injection z with z; omega)), iteF ?_⟩
  have cl : ∀ lo hi, (cutS bh lo hi).length ≤ bh.length := fun lo hi => asc_len bh lo hi
  have c0 : ∀ n : Nat, tl (cutS bh none (some (n : Int))) = (tl bh).take n := fun n => cutS_to
  have c1 : ∀ n : Nat, tl (cutS bh (some (n : Int)) none) = (tl bh).drop n := fun n => cutS_from
  by_cases k3 : k = 3
  · subst k3
    refine ⟨_, rfl, rfl, true, rfl, iteT ?_⟩
    refine ⟨_, rfl, _, rfl, _, rfl, _, rfl, bh, rfl, by omega, ah, _, rfl, rfl, by have := cl (some 1) (some 2); omega, ?_⟩
    have l1 := cl (some 1) (some 2)
    have l2 := cl none (some 1)
    have l3 := cl (some 2) none
    refine ⟨_, rfl, _, rfl, bh, rfl, by omega, _, _, rfl, rfl, by rw [slen]; omega, ?_⟩
    refine ⟨_, rfl, _, rfl, bh, rfl, by omega, _, _, rfl, rfl, by rw [slen, slen]; omega, ?_⟩
    have m2 : (tl (cutS bh (some 1) (some 2)) ++ tl (cutS bh none (some 1))).length ≤ 2 ∧ ∀ c ∈ tl (cutS bh (some 1) (some 2)) ++ tl (cutS bh none (some 1)), c ∈ tl bh := by
      have ea : tl (cutS bh (some 1) (some 2)) = (match tl bh with | _ :: d :: _ => [d] | _ => []) := by
        have hc : tl (cutS bh (some 1) (some 2)) = ((tl bh).drop (HT.sIx bh.length 0 (some ((1 : Nat) : Int)))).take (HT.sIx bh.length bh.length (some ((2 : Nat) : Int)) - HT.sIx bh.length 0 (some ((1 : Nat) : Int))) := rfl
        rw [hc, HT.sIx_nat, HT.sIx_nat, len_tl]
        match tl bh with
        | [] => rfl
        | [c] => rfl
        | c :: d :: r =>
          rw [List.length_cons, List.length_cons, Nat.min_eq_left (by omega), Nat.min_eq_left (by omega)]
          rfl
      have eb : tl (cutS bh none (some 1)) = (tl bh).take 1 := c0 1
      rw [ea, eb]
      match tl bh with
      | [] => simp
      | [c] => simp
      | c :: d :: r => simp
    have ed : tl (cutS bh (some 2) none) = (tl bh).drop 2 := c1 2
    have ok := bent_ok (x := x) (y := ah ++ cutS bh (some 1) (some 2) ++ cutS bh none (some 1) ++ cutS bh (some 2) none) (i := i) (n := 2) (m := tl (cutS bh (some 1) (some 2)) ++ tl (cutS bh none (some 1)))
      (by rw [tl_append, tl_append, tl_append, ta, ed, tb, List.drop_drop]; simp) m2.1 (by omega) (fun c hc => xc c (by have := m2.2 c hc; rw [tb] at this; exact List.mem_of_mem_drop this)) xc il (by
        by_cases h : i + 2 ≤ x.length
        · exact .inl h
        · right
          have lt : (tl bh).length ≤ 1 := by rw [tb, List.length_drop]; omega
          have eb : tl (cutS bh none (some 1)) = (tl bh).take 1 := c0 1
          have ea : (tl (cutS bh (some 1) (some 2))).length ≤ (tl bh).length - 1 := by
            have hc : tl (cutS bh (some 1) (some 2)) = ((tl bh).drop (HT.sIx bh.length 0 (some ((1 : Nat) : Int)))).take (HT.sIx bh.length bh.length (some ((2 : Nat) : Int)) - HT.sIx bh.length 0 (some ((1 : Nat) : Int))) := rfl
            rw [hc, HT.sIx_nat, HT.sIx_nat, List.length_take, List.length_drop, len_tl]
            omega
          rw [List.length_append, eb, List.length_take]
          omega)
    exact q _ H2 ok.1 ok.2.1 ok.2.2 B10 o12
  refine ⟨_, rfl, rfl, false, congrArg V.bl (decide_eq_false fun z => k3 (by injection z with z; omega)), iteF ?_⟩
  by_cases k4 : k = 4
  · subst k4
    refine ⟨_, rfl, rfl, true, rfl, iteT ?_⟩
    have l2 := cl none (some 1)
    refine ⟨_, rfl, _, rfl, _, rfl, bh, rfl, by omega, ah, _, rfl, rfl, by omega, _, rfl, _, _, rfl, rfl, by rw [slen]; omega, ?_⟩
    have eb : tl (cutS bh none (some 1)) = (tl bh).take 1 := c0 1
    have m1 : ((tl bh).take 1).length ≤ 1 := by rw [List.length_take]; omega
    have ok := bent_ok (x := x) (y := ah ++ cutS bh none (some 1) ++ bh) (i := i) (n := 0) (m := (tl bh).take 1)
      (by rw [tl_append, tl_append, ta, eb, tb, Nat.add_zero]; simp) (by omega) (by omega) (fun c hc => xc c (by rw [tb] at hc; exact List.mem_of_mem_drop (List.mem_of_mem_take hc))) xc il (.inl (by omega))
    exact q _ H2 ok.1 ok.2.1 ok.2.2 B10 o12
  refine ⟨_, rfl, rfl, false, congrArg V.bl (decide_eq_false fun z => k4 (by injection z with z; omega)), iteF ?_⟩
  refine ⟨_, rfl, _, rfl, b, _, rfl, B2, by omega, fun c H3 hc B3 o3 => ?_⟩
  have B13 : BoxAt H3 b (j + 10) := B3.more (by omega)
  have o13 := o12.trans o3
  have k2 : k ≤ 2 := by omega
  have lc : (⟨#[c]⟩ : Str).length = 1 := rfl
  have tc : tl (⟨#[c]⟩ : Str) = [c] := rfl
  have te : tl (Str.empty : Str) = [] := by decide +kernel
  have le : (Str.empty : Str).length = 0 := by decide +kernel
  rcases (by omega : k = 0 ∨ k = 1 ∨ k = 2) with rfl | rfl | rfl
  · have l3 := cl (some 0) none
    refine ⟨_, rfl, rfl, .inr ⟨true, rfl, _, 1, rfl, rfl, by omega, by omega, by omega, by omega, ah, _, rfl, rfl, by show ah.length + (⟨#[c]⟩ : Str).length ≤ _; omega, ?_⟩⟩
    refine ⟨_, rfl, _, rfl, _, _, rfl, rfl, .inr ⟨false, rfl, _, rfl, bh, rfl, by omega, ?_⟩⟩
    refine ⟨_, _, rfl, rfl, by rw [slen]; show ah.length + (⟨#[c]⟩ : Str).length + (cutS bh (some 0) none).length ≤ _; omega, ?_⟩
    have e : tl (cutS bh (some 0) none) = (tl bh).drop 0 := c1 0
    have ok := bent_ok (x := x) (y := ah ++ ⟨#[c]⟩ ++ cutS bh (some 0) none) (i := i) (n := 0) (m := [c]) (by rw [tl_append, tl_append, ta, e, tb, tc]; simp) (by simp) (by simp) (by simp [hc]) xc il (.inl (by omega))
    exact q _ H3 ok.1 ok.2.1 ok.2.2 B13 o13
  · have l3 := cl (some 1) none
    refine ⟨_, rfl, rfl, .inr ⟨false, rfl, _, 0, rfl, rfl, by omega, by omega, by omega, by omega, ah, _, rfl, rfl, by show ah.length + (Str.empty : Str).length ≤ _; omega, ?_⟩⟩
    refine ⟨_, rfl, _, rfl, _, _, rfl, rfl, .inr ⟨true, rfl, _, rfl, bh, rfl, by omega, ?_⟩⟩
    refine ⟨_, _, rfl, rfl, by rw [slen]; show ah.length + (Str.empty : Str).length + (cutS bh (some 1) none).length ≤ _; omega, ?_⟩
    have e : tl (cutS bh (some 1) none) = (tl bh).drop 1 := c1 1
    have ok := bent_ok (x := x) (y := ah ++ Str.empty ++ cutS bh (some 1) none) (i := i) (n := 1) (m := []) (by rw [tl_append, tl_append, ta, e, tb, te, List.drop_drop]; simp) (by simp) (by simp) (by simp) xc il (.inr (by simp))
    exact q _ H3 ok.1 ok.2.1 ok.2.2 B13 o13
  · have l3 := cl (some 1) none
    refine ⟨_, rfl, rfl, .inr ⟨true, rfl, _, 1, rfl, rfl, by omega, by omega, by omega, by omega, ah, _, rfl, rfl, by show ah.length + (⟨#[c]⟩ : Str).length ≤ _; omega, ?_⟩⟩
    refine ⟨_, rfl, _, rfl, _, _, rfl, rfl, .inr ⟨true, rfl, _, rfl, bh, rfl, by omega, ?_⟩⟩
    refine ⟨_, _, rfl, rfl, by rw [slen]; show ah.length + (⟨#[c]⟩ : Str).length + (cutS bh (some 1) none).length ≤ _; omega, ?_⟩
    have e : tl (cutS bh (some 1) none) = (tl bh).drop 1 := c1 1
    have ok := bent_ok (x := x) (y := ah ++ ⟨#[c]⟩ ++ cutS bh (some 1) none) (i := i) (n := 1) (m := [c]) (by rw [tl_append, tl_append, ta, e, tb, tc, List.drop_drop]; simp) (by simp) (by simp) (by simp [hc]) xc il (.inr (by simp))
    exact q _ H3 ok.1 ok.2.1 ok.2.2 B13 o13
end
end Rp

set_option maxHeartbeats 8000000
/-! What is alike; the law's texts. -/
namespace Rp
open PySem PySem.Spec PyProof PyProof.Rows L2 TL StX CwR
theorem alike_plain {H : Hp} {n : Nat} {x : V} (p : Plain x) : Alike H n x x := by
  cases n with
  | zero => unfold Alike; exact ⟨p, rfl⟩
  | succ n => unfold Alike; exact .inl ⟨p, rfl⟩
theorem alike_tm {H : Hp} : ∀ {t : Tm} {n : Nat} {x y : V}, TmAt H x t → TmAt H y t → t.deep < n → Alike H n x y
  | .v m, n, _, _, .v _, .v _, _ => alike_plain trivial
  | .z, n + 1, _, _, .z h, .z h', _ => by
    unfold Alike
    refine .inr ⟨_, _, _, _, rfl, rfl, .inr ⟨h, h'⟩, rfl, by simp, fun i u v h1 h2 => ?_⟩
    obtain rfl : u = v := Option.some.inj (h1.symm.trans h2)
    match i with
    | 0 => simp at h1; subst h1; exact alike_plain trivial
    | i + 1 => simp at h1
  | .s t, n + 1, _, _, .s h q, .s h' q', hd => by
    unfold Alike
    refine .inr ⟨_, _, _, _, rfl, rfl, .inr ⟨h, h'⟩, rfl, by simp, fun i u v h1 h2 => ?_⟩
    match i with
    | 0 => simp at h1 h2; subst h1 h2; exact alike_plain trivial
    | 1 => simp at h1 h2; subst h1 h2; exact alike_tm q q' (by simp only [Tm.deep] at hd; omega)
    | i + 2 => simp at h1
  | .f l r, n + 1, _, _, .f h q1 q2, .f h' q1' q2', hd => by
    unfold Alike
    simp only [Tm.deep] at hd
    refine .inr ⟨_, _, _, _, rfl, rfl, .inr ⟨h, h'⟩, rfl, by simp, fun i u v h1 h2 => ?_⟩
    match i with
    | 0 => simp at h1 h2; subst h1 h2; exact alike_plain trivial
    | 1 => simp at h1 h2; subst h1 h2; exact alike_tm q1 q1' (by omega)
    | 2 => simp at h1 h2; subst h1 h2; exact alike_tm q2 q2' (by omega)
    | i + 3 => simp at h1
theorem alike_all {H : Hp} {n : Nat} : ∀ {ts : List Tm} {xs ys : List V}, AllAt H xs ts → AllAt H ys ts → (∀ t ∈ ts, t.deep < n) → ∀ (i : Nat) (u v : V), xs[i]? = some u → ys[i]? = some v → Alike H n u v
  | [], [], [], _, _, _, i, u, v, h, _ => by simp at h
  | t :: ts, x :: xs, y :: ys, A, B, hd, 0, u, v, h, h' => by
    obtain rfl : x = u := by simpa using h
    obtain rfl : y = v := by simpa using h'
    exact alike_tm A.1 B.1 (hd t (by simp))
  | t :: ts, x :: xs, y :: ys, A, B, hd, i + 1, u, v, h, h' => alike_all A.2 B.2 (fun s hs => hd s (by simp [hs])) i u v (by simpa using h) (by simpa using h')
theorem alike_at {H : Hp} {a : At} (ok : AtOk 50 a) {x y : V} (hx : AtAt H x a) (hy : AtAt H y a) : Alike H 52 x y := by
  obtain ⟨p, xs, rfl, hp, A⟩ := hx
  obtain ⟨q, ys, rfl, hq, B⟩ := hy
  have lx := A.len
  have ly := B.len
  have two := ok.two
  unfold Alike
  refine .inr ⟨p, q, _, _, rfl, rfl, .inr ⟨hp, hq⟩, by simp [lx, ly], by simp; omega, fun i u v h1 h2 => ?_⟩
  match i with
  | 0 =>
    simp at h1 h2; subst h1 h2; exact alike_plain trivial
  | i + 1 => exact alike_all A B (fun t ht => by have := Tm.deep_lt t; have := (ok.sm t ht).2; show t.deep < 51; omega) i u v (by simpa using h1) (by simpa using h2)
theorem alike_ats {H : Hp} : ∀ {as : List At} {xs ys : List V}, (∀ a ∈ as, AtOk 50 a) → AtsAt H xs as → AtsAt H ys as → ∀ (i : Nat) (u v : V), xs[i]? = some u → ys[i]? = some v → Alike H 52 u v
  | [], [], [], _, _, _, i, u, v, h, _ => by simp at h
  | a :: as, x :: xs, y :: ys, ok, A, B, 0, u, v, h, h' => by
    obtain rfl : x = u := by simpa using h
    obtain rfl : y = v := by simpa using h'
    exact alike_at (ok a (by simp)) A.1 B.1
  | a :: as, x :: xs, y :: ys, ok, A, B, i + 1, u, v, h, h' => alike_ats (fun b hb => ok b (by simp [hb])) A.2 B.2 i u v (by simpa using h) (by simpa using h')
theorem Alike.up {H : Hp} : ∀ {n : Nat} {x y : V}, Alike H n x y → Alike H (n + 1) x y
  | 0, x, y, h => by unfold Alike at h ⊢; exact .inl h
  | n + 1, x, y, h => by
    unfold Alike at h ⊢
    rcases h with h | ⟨a, b, xs, ys, h1, h2, h3, h4, h5, h6⟩
    · exact .inl h
    · exact .inr ⟨a, b, xs, ys, h1, h2, h3, h4, h5, fun i u v p q => Alike.up (h6 i u v p q)⟩
theorem Alike.ups {H : Hp} {x y : V} {n m : Nat} (h : Alike H n x y) (le : n ≤ m) : Alike H m x y := by
  obtain ⟨k, rfl⟩ := Nat.exists_eq_add_of_le le
  clear le
  induction k with
  | zero => exact h
  | succ k ih => exact ih.up
theorem alike_lst {H : Hp} {n : Nat} {a c : Addr} {xs ys : List V} (ha : H a = some (.lst xs)) (hc : H c = some (.lst ys)) (l : xs.length = ys.length) (b : xs.length ≤ 1000000) (each : ∀ (i : Nat) (u v : V), xs[i]? = some u → ys[i]? = some v → Alike H n u v) : Alike H (n + 1) (.ref a) (.ref c) := by
  unfold Alike
  exact .inr ⟨a, c, xs, ys, rfl, rfl, .inl ⟨ha, hc⟩, l, b, each⟩
theorem alike_sy {H : Hp} {s : Sy} (ok : SyOk s) {x y : V} (hx : SyAt H x s) (hy : SyAt H y s) : Alike H 54 x y := by
  obtain ⟨p, q, vg, xs, rfl, hp, hq, A, G⟩ := hx
  obtain ⟨p', q', vg', ys, rfl, hp', hq', B, G'⟩ := hy
  have lx := A.len
  have ly := B.len
  have few := ok.hs.few
  unfold Alike
  refine .inr ⟨p, p', _, _, rfl, rfl, .inr ⟨hp, hp'⟩, rfl, by simp, fun i u v h1 h2 => ?_⟩
  match i with
  | 0 =>
    simp at h1 h2; subst h1 h2
    unfold Alike
    exact .inr ⟨q, q', _, _, rfl, rfl, .inr ⟨hq, hq'⟩, by omega, by omega, fun i u v h1 h2 => alike_ats ok.hs.ok A B i u v h1 h2⟩
  | 1 => simp at h1 h2; subst h1 h2; exact (alike_at ok.gl G G').up
  | i + 2 => simp at h1
theorem alike_bad {H : Hp} {p q : Addr} {x : Str} (hp : H p = some (.lst [.str "bad", .str x])) (hq : H q = some (.lst [.str "bad", .str x])) : Alike H 54 (.ref p) (.ref q) :=
  alike_lst (n := 53) hp hq rfl (by simp) fun i u v h1 h2 => by
    obtain rfl : u = v := Option.some.inj (h1.symm.trans h2)
    match i with
    | 0 => simp at h1; subst h1; exact alike_plain trivial
    | 1 => simp at h1; subst h1; exact alike_plain trivial
    | i + 2 => simp at h1
/-- a text of so many signs, of so long stretches -/
structure Nc (L B : Nat) (x : Str) : Prop where
  low : ∀ c ∈ tl x, c < 128
  len : x.length ≤ L
  bf : Bf B (tl x)
theorem Nc.more {L B L' B' : Nat} {x : Str} (h : Nc L B x) (l : L ≤ L') (b : B ≤ B') : Nc L' B' x := ⟨h.low, Nat.le_trans h.len l, bf_mono h.bf b⟩
theorem Nc.fit {L B : Nat} {x : Str} (h : Nc L B x) (l : L ≤ 430) (b : B ≤ 118) : Fit x := ⟨⟨Nat.le_trans h.len l, h.low⟩, bf_mono h.bf b⟩
theorem nc_at {a : At} {z : Nat} (ok : AtOk z a) (hz : 2 ≤ z) : Nc (8 * z + 8) (4 * z) (atxt a) := by
  have e : atxt a = Txt.join " " (a.nm :: a.ts.map Tm.txt) := rfl
  have tj : tl (atxt a) = joinL [32] ((a.nm :: a.ts.map Tm.txt).map tl) := by rw [e, join_eq, tl_join, t_sp]
  have nl := ok.nm.few
  have two := ok.two
  have each : ∀ t ∈ a.ts, t.txt.length ≤ 4 * z := fun t ht => by
    have := txt_len t (ok.sm t ht).1
    have := (ok.sm t ht).2
    omega
  refine ⟨fun c hc => ?_, ?_, ?_⟩
  · rw [atxt_tl] at hc
    rcases List.mem_append.mp hc with hc | hc
    · have := ok.nm.low c hc; omega
    · obtain ⟨t, ht, hc⟩ := List.mem_flatMap.mp hc
      rcases List.mem_cons.mp hc with rfl | hc
      · omega
      · have := txt_low t (ok.sm t ht).1 c hc; omega
  · have h0 := joinL_len (s := 32) (ps := (a.nm :: a.ts.map Tm.txt).map tl) (by simp)
    rw [← tj, ← len_tl] at h0
    have sum : ∀ ts : List Tm, (∀ t ∈ ts, t.txt.length ≤ 4 * z) → (((ts.map Tm.txt).map tl).map fun p => p.length + 1).sum ≤ ts.length * (4 * z + 1) := by
      intro ts
      induction ts with
      | nil => intro _; simp
      | cons t ts ih =>
        intro h
        have h1 := h t (by simp)
        have h2 := ih fun u hu => h u (by simp [hu])
        rw [len_tl] at h1
        simp only [List.map_cons, List.sum_cons, List.length_cons, Nat.add_mul]
        omega
    have := sum a.ts each
    have m : a.ts.length * (4 * z + 1) ≤ 2 * (4 * z + 1) := Nat.mul_le_mul_right _ two
    rw [List.map_cons, List.map_cons, List.sum_cons, ← len_tl] at h0
    omega
  · rw [tj]
    refine bf_join fun p hp => ?_
    obtain ⟨q, hq, rfl⟩ := List.mem_map.mp hp
    rw [← len_tl]
    rcases List.mem_cons.mp hq with rfl | hq
    · omega
    · obtain ⟨t, ht, rfl⟩ := List.mem_map.mp hq
      exact each t ht
theorem nc_cs {L M B : Nat} {a b : Str} (ha : Nc L B a) (hb : Nc M B b) : Nc (L + M + 2) (B + 1) (a ++ ", " ++ b) := by
  have e : tl (a ++ ", " ++ b) = (tl a ++ [44]) ++ 32 :: tl b := by rw [tl_append, tl_append, t_cs]; simp
  refine ⟨fun c hc => ?_, ?_, ?_⟩
  · rw [e] at hc
    rcases List.mem_append.mp hc with hc | hc
    · rcases List.mem_append.mp hc with hc | hc
      · exact ha.low c hc
      · simp at hc; omega
    · rcases List.mem_cons.mp hc with rfl | hc
      · omega
      · exact hb.low c hc
  · have := ha.len
    have := hb.len
    have l2 : (", " : Str).length = 2 := by decide +kernel
    rw [slen, slen, l2]; omega
  · rw [e]
    exact bf_sp (bf_app ha.bf (bf_short (by simp))) (bf_mono hb.bf (by omega))
theorem nc_bare {L B : Nat} {g : Str} (h : Nc L B g) (hB : 2 ≤ B) : Nc (L + 3) B ("|- " ++ g) := by
  have e : tl ("|- " ++ g) = [124, 45] ++ 32 :: tl g := by rw [tl_append, t_bare]; rfl
  refine ⟨fun c hc => ?_, ?_, ?_⟩
  · rw [e] at hc
    rcases List.mem_append.mp hc with hc | hc
    · simp at hc; omega
    · rcases List.mem_cons.mp hc with rfl | hc
      · omega
      · exact h.low c hc
  · have := h.len
    rw [slen, l_bare]; omega
  · rw [e]
    exact bf_sp (bf_short (by simpa using hB)) h.bf
theorem nc_bar {L M B : Nat} {a g : Str} (ha : Nc L B a) (h : Nc M B g) (hB : 2 ≤ B) : Nc (L + M + 4) B (a ++ " |- " ++ g) := by
  have hb := nc_bare h hB
  have e : tl (a ++ " |- " ++ g) = tl a ++ 32 :: tl ("|- " ++ g) := by rw [tl_append, tl_append, tl_append, t_part, t_bare]; simp
  refine ⟨fun c hc => ?_, ?_, ?_⟩
  · rw [e] at hc
    rcases List.mem_append.mp hc with hc | hc
    · exact ha.low c hc
    · rcases List.mem_cons.mp hc with rfl | hc
      · omega
      · exact hb.low c hc
  · have := h.len
    have := ha.len
    rw [slen, slen, l_part]; omega
  · rw [e]
    exact bf_sp ha.bf hb.bf
theorem nc_join {L B : Nat} : ∀ {ps : List Str}, (∀ p ∈ ps, Nc L B p) → Nc (ps.length * (L + 2)) (B + 1) (Txt.join ", " ps)
  | [], _ => by
    have e : Txt.join ", " ([] : List Str) = Str.empty := by decide +kernel
    have t : tl (Str.empty : Str) = [] := by decide +kernel
    rw [e]
    exact ⟨by rw [t]; simp, by show (Str.empty : Str).length ≤ _; rw [show (Str.empty : Str).length = 0 from by decide +kernel]; omega, by rw [t]; exact bf_short (by simp)⟩
  | [p], h => by
    have e : Txt.join ", " [p] = p := join1 _ _
    rw [e]
    exact (h p (by simp)).more (by simp) (by omega)
  | p :: q :: r, h => by
    have ih := nc_join (ps := q :: r) fun x hx => h x (by simp at hx ⊢; exact .inr hx)
    have e : Txt.join ", " (p :: q :: r) = p ++ ", " ++ Txt.join ", " (q :: r) := by
      rw [TL.join_eq, TL.join_eq]; rfl
    have hp := h p (by simp)
    have t2 : tl (Txt.join ", " (p :: q :: r)) = (tl p ++ [44]) ++ 32 :: tl (Txt.join ", " (q :: r)) := by rw [e, tl_append, tl_append, t_cs]; simp
    refine ⟨fun c hc => ?_, ?_, ?_⟩
    · rw [t2] at hc
      rcases List.mem_append.mp hc with hc | hc
      · rcases List.mem_append.mp hc with hc | hc
        · exact hp.low c hc
        · simp at hc; omega
      · rcases List.mem_cons.mp hc with rfl | hc
        · omega
        · exact ih.low c hc
    · have := hp.len
      have := ih.len
      have l2 : (", " : Str).length = 2 := by decide +kernel
      rw [e, slen, slen, l2, List.length_cons, Nat.add_mul]
      omega
    · rw [t2]
      exact bf_sp (bf_app hp.bf (bf_short (by simp))) ih.bf
theorem nc_b {as : List At} (h6 : as.length ≤ 6) (ok : ∀ a ∈ as, AtOk 3 a) : Nc 204 13 (btxt as) :=
  (nc_join (L := 32) (B := 12) fun p hp => by
    obtain ⟨a, ha, rfl⟩ := List.mem_map.mp hp
    exact (nc_at (ok a ha) (by decide)).more (by decide) (by decide)).more (by rw [List.length_map]; omega) (by decide)
/-- the text of a saying of the law's -/
theorem nc_sy {s : Sy} (h6 : s.hs.length ≤ 6) (ok : ∀ a ∈ s.hs, AtOk 3 a) (g : AtOk 7 s.gl) : Nc 272 28 (sytxt s) := by
  have G := nc_at g (by decide)
  by_cases e : s.hs = []
  · rw [sytxt_bare e]
    exact (nc_bare G (by decide)).more (by decide) (by decide)
  · rw [sytxt_some e]
    exact (nc_bar ((nc_b h6 ok).more (by decide : 204 ≤ 204) (by decide : 13 ≤ 28)) G (by decide)).more (by decide) (by decide)
theorem occ_124 {l : List Nat} {k : Nat} (h : (l.drop k).take 4 = [32, 124, 45, 32]) : l[k + 1]? = some 124 := by
  have := congrArg (fun z => z[1]?) h
  simp only [List.getElem?_take, List.getElem?_drop] at this
  simpa using this
/-- the text with its sign replaced -/
theorem repl_sy {s : Sy} (ok : SyOk s) (z : Str) : Txt.replace (sytxt s) " |- " z = if s.hs = [] then sytxt s else btxt s.hs ++ z ++ atxt s.gl := by
  refine ext_tl ?_
  have e0 : tl (Txt.replace (sytxt s) " |- " z) = PySem.StrLaws.replL (tl (" |- " : Str)) (tl z) (tl (sytxt s)) := PySem.StrLaws.replace_list (by decide +kernel)
  rw [e0, t_part]
  have G : ∀ d ∈ tl (atxt s.gl), d ≠ 124 := atxt_low ok.gl
  have noG : ∀ k, 0 ≤ k → ¬ ((tl (atxt s.gl)).drop k).take ([32, 124, 45, 32] : List Nat).length = [32, 124, 45, 32] := fun k _ h => G 124 (List.mem_of_getElem? (occ_124 h)) rfl
  by_cases e : s.hs = []
  · rw [if_pos e, sytxt_bare e, tl_append, t_bare]
    have := PySem.StrLaws.repl_none (y := [32, 124, 45, 32]) (z := tl z) (L := [124, 45, 32] ++ tl (atxt s.gl)) (a := 0) fun k _ h => by
      have h := occ_124 h
      match k with
      | 0 => simp at h
      | 1 => simp at h
      | k + 2 =>
        have : (tl (atxt s.gl))[k]? = some 124 := h
        exact G 124 (List.mem_of_getElem? this) rfl
    rw [List.drop_zero] at this
    exact this
  · rw [if_neg e, sytxt_some e, tl_append, tl_append, t_part]
    have lb : ∀ k, k < (tl (btxt s.hs)).length → ¬ (((tl (btxt s.hs) ++ [32, 124, 45, 32] ++ tl (atxt s.gl))).drop k).take ([32, 124, 45, 32] : List Nat).length = [32, 124, 45, 32] := fun k hk h => by
      have h := occ_124 h
      rw [List.append_assoc] at h
      rcases Nat.lt_or_ge (k + 1) (tl (btxt s.hs)).length with l | l
      · rw [List.getElem?_append_left l] at h
        exact btxt_low ok.hs.ok 124 (List.mem_of_getElem? h) rfl
      · have : k + 1 = (tl (btxt s.hs)).length := by omega
        rw [this, List.getElem?_append_right (Nat.le_refl _), Nat.sub_self] at h
        cases h
    have cp := PySem.StrLaws.repl_copy (y := [32, 124, 45, 32]) (z := tl z) (L := tl (btxt s.hs) ++ [32, 124, 45, 32] ++ tl (atxt s.gl)) (tl (btxt s.hs)).length 0 (fun k _ h => lb k (by omega)) (by simp)
    rw [List.drop_zero, Nat.zero_add] at cp
    rw [cp, List.append_assoc, List.take_left, List.drop_left]
    have hit := PySem.StrLaws.replL_hit (y := [32, 124, 45, 32]) (z := tl z) (c := 32) (r := [124, 45, 32] ++ tl (atxt s.gl)) (by simp) rfl
    have hit' : PySem.StrLaws.replL [32, 124, 45, 32] (tl z) ([32, 124, 45, 32] ++ tl (atxt s.gl)) = tl z ++ PySem.StrLaws.replL [32, 124, 45, 32] (tl z) (tl (atxt s.gl)) := hit
    have nn := PySem.StrLaws.repl_none (y := [32, 124, 45, 32]) (z := tl z) (L := tl (atxt s.gl)) (a := 0) noG
    rw [List.drop_zero] at nn
    rw [hit', nn, tl_append, tl_append, List.append_assoc]
end Rp

set_option maxHeartbeats 16000000
/-! The law k26. -/
namespace Rp
open PySem PySem.Spec PyProof.Rows L2 TL StX CwR
def spLaw (K : PySem.W.Frag) : Sp := fun vs H Q _ => ∃ (a : Addr) (ns : List Int), vs = [.ref a] ∧ SqL K H a (ns.map V.int) ∧ ns.length ≤ 63 ∧ ∀ H', Q (.bl true) H'
def tePool (K : PySem.W.Frag) : TE := tCall spTake [] E0 (tCons (tVar 2) (tCons (tOp (rIxL K) (tLst (tCons (tC (.int 3)) (tCons (tC (.int 100)) tNil))) (tCall spTake [] E0 (tCons (tVar 2) (tCons (tC (.int 2)) tNil)))) tNil))
def teSeven (K : PySem.W.Frag) : TE := tOp rAddS (tOp (rIxL K) (tVar 3) (tC (.int 0))) (tOp rMulC (tOp rAddS (tC (.str " x")) (tCB (fun xs H Q => ∃ i, xs = [.int i] ∧ i.natAbs.log2 < 1920 ∧ Q (.str (toString i)) H) (tCons (tVar 16) tNil)))
  (fun σ H Q => tVar 4 σ H fun x H1 => tOp (rIxL K) (tVar 3) (tC (.int 0)) σ H1 fun y H2 => ∃ d v, x = .ref d ∧ DGet H2 d y (some v) ∧ Q v H2))
def wn (n : Nat) : Str := " x" ++ Str.ofString (toString (n : Int))
theorem wn_tl : ∀ n : Fin 7, tl (wn n.val) = [32, 120, 48 + n.val] := by decide +kernel
def sv (x : Str) (mm n : Nat) : Str := x ++ repS (wn n) (mm : Int)
theorem nc_seven {x : Str} {mm n : Nat} (h : NameOk x) (m1 : 1 ≤ mm) (m2 : mm ≤ 2) (hn : n < 7) : Nc 12 6 (sv x mm n) ∧ (wn n).length = 3 ∧ (repS (wn n) (mm : Int)).length ≤ 6 := by
  have tw : tl (wn n) = [32, 120, 48 + n] := wn_tl ⟨n, hn⟩
  have lw : (wn n).length = 3 := by rw [len_tl, tw]; rfl
  have few := h.few
  have xb : Bf 6 (tl x) := bf_short (by rw [← len_tl]; exact few)
  have xc : ∀ c ∈ tl x, c < 128 := fun c hc => by have := h.low c hc; omega
  rcases (by omega : mm = 1 ∨ mm = 2) with rfl | rfl
  · have e : repS (wn n) ((1 : Nat) : Int) = wn n := by unfold repS; rw [if_neg (by decide), if_pos (by decide)]
    refine ⟨⟨fun c hc => ?_, ?_, ?_⟩, lw, by rw [e, lw]; decide⟩
    · unfold sv at hc
      rw [e, tl_append, tw] at hc
      rcases List.mem_append.mp hc with hc | hc
      · exact xc c hc
      · simp at hc; omega
    · unfold sv
      rw [e, slen, lw]; omega
    · unfold sv
      rw [e, tl_append, tw]
      exact bf_sp xb (bf_short (by simp))
  · have e : repS (wn n) ((2 : Nat) : Int) = wn n ++ wn n := by unfold repS; rw [if_neg (by decide), if_neg (by decide)]
    refine ⟨⟨fun c hc => ?_, ?_, ?_⟩, lw, by rw [e, slen, lw]; decide⟩
    · unfold sv at hc
      rw [e, tl_append, tl_append, tw] at hc
      rcases List.mem_append.mp hc with hc | hc
      · exact xc c hc
      · simp at hc; omega
    · unfold sv
      rw [e, slen, slen, lw]; omega
    · unfold sv
      rw [e, tl_append, tl_append, tw]
      exact bf_sp xb (bf_sp (p := [120, 48 + n]) (bf_short (by simp)) (bf_short (by simp)))
theorem no_empty : toSy ("" : Str) = none := toSy_none.mpr fun s hs => by
  obtain ⟨i, b⟩ := sx_bar hs
  have := (bar_cut b).2
  have e : tl ("" : Str) = [] := by decide +kernel
  rw [e] at this
  simp at this
theorem no_bare : toSy ("|- " : Str) = none := toSy_none.mpr fun s hs => by
  by_cases e : s.hs = []
  · have := (sx_bare hs e).1
    have := congrArg tl this
    rw [tl_append, t_bare] at this
    obtain ⟨c, q, h, _⟩ := atxt_head hs.1.gl
    rw [h] at this
    simp at this
  · have := congrArg List.length (sx_far hs e)
    rw [t_bare] at this
    obtain ⟨c, q, h, _⟩ := atxt_head hs.1.gl
    rw [h] at this
    simp at this
    omega
def teBend : TE := fun σ H Q => ∃ (b : Addr) (x : Str) (j : Nat), σ[2]? = some (some (.ref b)) ∧ σ[13]? = some (some (.str x)) ∧ BoxAt H b j ∧ j + 11 ≤ 1000000 ∧ x.length ≤ 430 ∧ (∀ c ∈ tl x, c < 128) ∧ Bf 58 (tl x) ∧
  ∀ (y : Str) (H' : Hp), (∀ c ∈ tl y, c < 128) → y.length ≤ x.length + 1 → Bf 118 (tl y) → BoxAt H' b (j + 11) → But b H H' → Q (.str y) H'
section
variable {P : Program} {w : World} {K : PySem.W.Frag} {mg : Str → Option Value} {base : Heap}
abbrev NLw : List Str := ["_law_script", "_law_k", "_law_box_here", "_law_words", "_law_shapes_here", "_law_rules_here", "_law_turn", "_law_pool", "_law_saying_here", "_law_text", "_law_twice", "_law_seven", "_law_some", "_law_bent", "_law_own", "_law_due", "_law_at"]
theorem scLaw : FnScope NLw ["_law_script"] (defScope sLaw) := ⟨rfl, rfl, rfl, by decide +kernel, rfl, by decide +kernel, by decide +kernel⟩
theorem ok_law {f fB fG fSa fT fY fX fAw fS fD fI fN : Addr} {fd dB dG dSa dT dY dX dAw dS dD dI dN : FuncData} (F : Fun K "law" "law" sLaw f fd)
    (GB : FnOk P w K mg base CX0 1 fB dB ["_law_script", "_law_k"] (spBox K)) (kB : PySem.W.keepIn K (.ref fB) = true) (bB : Binds K dB ["_law_script", "_law_k"] []) (mB : mg "_law_box" = some (.ref fB))
    (GG : FnOk P w K mg base CX0 5 fG dG ["_law_box_here", "_law_count"] spBegin) (kG : PySem.W.keepIn K (.ref fG) = true) (bG : Binds K dG ["_law_box_here", "_law_count"] []) (mG : mg "_law_begin" = some (.ref fG))
    (GSa : FnOk P w K mg base CX0 7 fSa dSa ["_law_box_here", "_law_shapes_here", "_law_names_here", "_law_pool", "_law_count"] spSayingL) (kSa : PySem.W.keepIn K (.ref fSa) = true) (bSa : Binds K dSa ["_law_box_here", "_law_shapes_here", "_law_names_here", "_law_pool", "_law_count"] []) (mSa : mg "_law_saying" = some (.ref fSa))
    (GT : FnOk P w K mg base CX0 1 fT dT ["_law_box_here", "_law_reach"] spTake) (kT : PySem.W.keepIn K (.ref fT) = true) (bT : Binds K dT ["_law_box_here", "_law_reach"] []) (mT : mg "_law_take" = some (.ref fT))
    (GY : FnOk P w K mg base CX0 62 fY dY ["_law_saying_here"] spLSay) (kY : PySem.W.keepIn K (.ref fY) = true) (bY : Binds K dY ["_law_saying_here"] []) (mY : mg "_law_saying_words" = some (.ref fY))
    (GX : FnOk P w K mg base CX0 7 fX dX ["saying"] spSayingText) (kX : PySem.W.keepIn K (.ref fX) = true) (bX : Binds K dX ["saying"] []) (mX : mg "saying_text" = some (.ref fX))
    (GAw : FnOk P w K mg base CX0 61 fAw dAw ["_law_atom_here"] spAtomText) (kAw : PySem.W.keepIn K (.ref fAw) = true) (bAw : Binds K dAw ["_law_atom_here"] []) (mAw : mg "_law_atom_words" = some (.ref fAw))
    (GS : FnOk P w K mg base CX0 56 fS dS ["_law_found", "_law_due"] (spSame 56)) (kS : PySem.W.keepIn K (.ref fS) = true) (bS : Binds K dS ["_law_found", "_law_due"] []) (mS : mg "_law_same" = some (.ref fS))
    (GD : FnOk P w K mg base CX0 10 fD dD ["_law_text"] spTold) (kD : PySem.W.keepIn K (.ref fD) = true) (bD : Binds K dD ["_law_text"] []) (mD : mg "_law_told" = some (.ref fD))
    (GI : FnOk P w K mg base CX0 64 fI dI ["_law_text"] spSayG) (kI : PySem.W.keepIn K (.ref fI) = true) (bI : Binds K dI ["_law_text"] []) (mI : mg "_law_saying_in" = some (.ref fI))
    (GN : FnOk P w K mg base CX0 4 fN dN ["_law_box_here", "_law_text"] spBent) (kN : PySem.W.keepIn K (.ref fN) = true) (bN : Binds K dN ["_law_box_here", "_law_text"] []) (mN : mg "_law_bent_text" = some (.ref fN))
    (mRange : mg "range" = none) (mMax : mg "max" = none) (mMin : mg "min" = none) (mLen : mg "len" = none) (mStr : mg "str" = none) : FnOk P w K mg base CX0 65 f fd ["_law_script"] (spLaw K) := by
  refine F.ok scLaw (fun vs H Q E h => ?_) (fun cdv A outer s H vs Q E hr h => ?_)
  · obtain ⟨a, ns, rfl, _⟩ := h
    rfl
  obtain ⟨a, ns, rfl, hS, hl, q⟩ := h
  have r1 : Room 1 _ := hr.mono (by decide)
  have r4 : Room 4 _ := hr.mono (by decide)
  have r5 : Room 5 _ := hr.mono (by decide)
  have r7 : Room 7 _ := hr.mono (by decide)
  have r10 : Room 10 _ := hr.mono (by decide)
  have r56 : Room 56 _ := hr.mono (by decide)
  have r61 : Room 61 _ := hr.mono (by decide)
  have r62 : Room 62 _ := hr.mono (by decide)
  refine ⟨_, (pss_cons (ps_for PassesOwn.never rfl (pi_range1 (by rfl) mRange (pa_cons (pe_callB (call_max2 rfl) (by rfl) mMax (by decide +kernel) (pa_cons pe_int (pa_cons (pe_callB (call_min2 rfl) (by rfl) mMin (by decide +kernel) (pa_cons pe_int (pa_cons (pe_callB call_len_seq (by rfl) mLen PySem.boot_len (pa_cons (pv 0) pa_nil)) pa_nil))) pa_nil))) pa_nil)) (pg_name (i := 1) scLaw.nd rfl (Or.inl rfl)) (pss_cons (ps_set (i := 2) scLaw.nd rfl (Or.inr rfl) (pe_call GB r1 rfl mB kB bB .nil pass0 (pa_cons (pv 0) (pa_cons (pv 1) pa_nil))))
    (pss_cons (ps_asg (pe_call GG r5 rfl mG kG bG .nil pass0 (pa_cons (pv 2) (pa_cons pe_int pa_nil))) (pg_tup (by rfl) (pgs_cons (pg_name (i := 3) scLaw.nd rfl (Or.inr rfl)) (pgs_cons (pg_name (i := 4) scLaw.nd rfl (Or.inr rfl)) (pgs_cons (pg_name (i := 5) scLaw.nd rfl (Or.inl rfl)) pgs_nil)))))
    (pss_cons (ps_setLc (i := 7) (own := [("_law_turn", 6)]) (g := gName 6) (tt := tYes) (te := tePool K) rfl scLaw.nd rfl rfl (by rfl) (pi_range1 (by rfl) mRange (pa_cons (pe_call GT r1 (by rfl) mT kT bT .nil pass0 (pa_cons (pv 2) (pa_cons pe_int pa_nil))) pa_nil)) (blkOk_by (N := NLw) (sc := defScope sLaw) (by decide +kernel)) (fun _ _ _ _ _ => (pg_name (i := 6) scLaw.nd rfl (Or.inl rfl))) (fun _ _ _ _ _ => pts_nil) (fun _ _ _ _ _ => (pe_call GT r1 (by rfl) mT kT bT .nil pass0 (pa_cons (pv 2) (pa_cons (pe_ix ix_list (pe_lst (pa_cons pe_int (pa_cons pe_int pa_nil))) (pe_call GT r1 (by rfl) mT kT bT .nil pass0 (pa_cons (pv 2) (pa_cons pe_int pa_nil))) (fun _ _ => rfl)) pa_nil)))))
    (pss_cons (ps_set (i := 8) scLaw.nd rfl (Or.inl rfl) (pe_call GSa r7 rfl mSa kSa bSa .nil pass0 (pa_cons (pv 2) (pa_cons (pv 4) (pa_cons (pv 3) (pa_cons (pv 7) (pa_cons pe_int pa_nil)))))))
    (pss_cons (ps_set (i := 9) scLaw.nd rfl (Or.inl rfl) (pe_call GY r62 rfl mY kY bY .nil pass0 (pa_cons (pv 8) pa_nil)))
    (pss_cons (ps_if (PW.pt (pw_or (pt_cmpR op_ne (pe_call GX r7 rfl mX kX bX .nil pass0 (pa_cons (pv 8) pa_nil)) (pv 9) (nomark _)) (pw_or1 (pt_not (pt_val (pe_call GS r56 (by rfl) mS kS bS .nil pass0 (pa_cons (pe_call GD r10 (by rfl) mD kD bD .nil pass0 (pa_cons (pv 9) pa_nil)) (pa_cons (pv 8) pa_nil)))))))) (pss_one (ps_ret pe_bl)) pss_nil)
    (pss_cons (ps_set (i := 10) scLaw.nd rfl (Or.inl rfl) (pe_call GAw r61 rfl mAw kAw bAw .nil pass0 (pa_cons (pe_ix ix_tup (pv 8) pe_int (fun _ _ => rfl)) pa_nil)))
    (pss_cons (ps_setLc (i := 11) (own := [("_law_at", 16)]) (g := gName 16) (tt := tYes) (te := teSeven K) rfl scLaw.nd rfl rfl (by rfl) (pi_range1 (by rfl) mRange (pa_cons pe_int pa_nil)) (blkOk_by (N := NLw) (sc := defScope sLaw) (by decide +kernel)) (fun _ _ _ _ _ => (pg_name (i := 16) scLaw.nd rfl (Or.inl rfl))) (fun _ _ _ _ _ => pts_nil) (fun _ _ _ _ _ => (pe_op op_addS (pe_ix ix_list (pv 3) pe_int (fun _ _ => rfl)) (pe_op op_mulC (pe_op op_addS pe_str (pe_callTy call_str_int (by rfl) mStr (by decide +kernel) (pa_cons (pv 16) pa_nil))) (pe_dget (hu_of hr) (pv 4) (pe_ix ix_list (pv 3) pe_int (fun _ _ => rfl)) (fun _ _ => rfl))))))
    (pss_cons (ps_set (i := 12) scLaw.nd rfl (Or.inl rfl) (pe_lstK (pek_opL op_addS (pek_opR op_addS (pe_op op_addS (pe_op op_addS (pv 10) pe_str) (pv 10)) pek_str) (pv 10)) (pet_replN (pv 9) (pe_op op_addS pe_str (pv 10)))))
    (pss_cons (ps_expr (pe_bm PySem.F.plainAttrs_list PySem.F.slot_list_append PySem.F.type_list_append mt_append (pv 12) (pa_cons (pe_op op_addS (pe_op op_addS (pe_bm PySem.F.plainAttrs_str PySem.F.slot_str_join PySem.F.type_str_join mt_join pe_str (pa_cons (pv 11) pa_nil)) pe_str) (pv 10)) pa_nil)))
    (pss_cons (ps_for PassesOwn.never rfl (pi_list (pe_op op_cat (pv 12) (pe_lst (pa_cons (pe_op op_addS (pe_op op_addS (pv 10) pe_str) (pv 10)) pa_nil)))) (pg_name (i := 13) scLaw.nd rfl (Or.inl rfl)) (pss_cons (ps_set (i := 14) scLaw.nd rfl (Or.inl rfl) (pe_call GI hr rfl mI kI bI .nil pass0 (pa_cons (pv 13) pa_nil)))
    (pss_one (ps_if (pt_not (pt_val (pe_call GS r56 (by rfl) mS kS bS .nil pass0 (pa_cons (pe_call GD r10 (by rfl) mD kD bD .nil pass0 (pa_cons (pv 13) pa_nil)) (pa_cons (pe_ifExp (pt_cmpR op_isN (pv 14) pe_non (nomark _)) (pe_lst (pa_cons pe_str (pa_cons (pv 13) pa_nil))) (pv 14)) pa_nil))))) (pss_one (ps_ret pe_bl)) pss_nil))))
    (pss_one (ps_for PassesOwn.never rfl (pi_range1 (by rfl) mRange (pa_cons pe_int pa_nil)) (pg_name (i := 6) scLaw.nd rfl (Or.inl rfl)) (pss_cons (ps_set (i := 13) scLaw.nd rfl (Or.inl rfl) (pe_call GN r4 rfl mN kN bN .nil pass0 (pa_cons (pv 2) (pa_cons (pv 9) pa_nil))))
    (pss_cons (ps_set (i := 13) scLaw.nd rfl (Or.inl rfl) (pe_weak (te' := teBend) (pe_ifExp (pt_cmpR op_eq (pe_call GT r1 rfl mT kT bT .nil pass0 (pa_cons (pv 2) (pa_cons pe_int pa_nil))) pe_int (nomark _)) (pe_call GN r4 rfl mN kN bN .nil pass0 (pa_cons (pv 2) (pa_cons (pv 13) pa_nil))) (pv 13)) ?wb))
    (pss_cons (ps_set (i := 14) scLaw.nd rfl (Or.inl rfl) (pe_call GI hr rfl mI kI bI .nil pass0 (pa_cons (pv 13) pa_nil)))
    (pss_cons (ps_set (i := 15) scLaw.nd rfl (Or.inl rfl) (pe_ifExp (pt_cmpR op_isN (pv 14) pe_non (nomark _)) (pe_lst (pa_cons pe_str (pa_cons (pv 13) pa_nil))) (pv 14)))
    (pss_one (ps_if (pt_not (pt_val (pe_call GS r56 (by rfl) mS kS bS .nil pass0 (pa_cons (pe_lst (pa_cons (pe_call GD r10 (by rfl) mD kD bD .nil pass0 (pa_cons (pv 13) pa_nil)) (pa_cons (pe_call GD r10 (by rfl) mD kD bD .nil pass0 (pa_cons (pv 13) pa_nil)) pa_nil))) (pa_cons (pe_lst (pa_cons (pv 15) (pa_cons (pv 15) pa_nil))) pa_nil))))) (pss_one (ps_ret pe_bl)) pss_nil))))))))))))))))))))
    (pss_one (ps_ret (pe_and (pe_call GS r56 (by rfl) mS kS bS .nil pass0 (pa_cons (pe_call GD r10 (by rfl) mD kD bD .nil pass0 (pa_cons pe_str pa_nil)) (pa_cons (pe_lst (pa_cons pe_str (pa_cons pe_str pa_nil))) pa_nil))) (pe_one (pe_call GS r56 (by rfl) mS kS bS .nil pass0 (pa_cons (pe_call GD r10 (by rfl) mD kD bD .nil pass0 (pa_cons pe_str pa_nil)) (pa_cons (pe_lst (pa_cons pe_str (pa_cons pe_str pa_nil))) pa_nil)))))))), ?_⟩
  case wb =>
    rintro σ H Q ⟨b, x, j, h2, h13, B, hj, xl, xc, xb, fin⟩
    refine ⟨_, h2, b, _, j, rfl, B, by omega, by omega, by omega, fun r H1 r0 r1 B1 o1 => ⟨rfl, decide (V.int r = V.int 0), rfl, ?_⟩⟩
    cases decide (V.int r = V.int 0) with
    | true => exact iteT ⟨_, h2, _, h13, b, x, _, rfl, B1, by omega, xl, xc, fun y H2 yc yl yb B2 o2 => fin y H2 yc yl (yb 58 xb) (B2.more (by omega)) (o1.trans o2)⟩
    | false => exact iteF ⟨_, h13, fin x H1 xc (by omega) (bf_mono xb (by decide)) (B1.more (by omega)) o1⟩
  have big : (10000 : Nat) ≤ sizeLine := by decide
  have lim : ∀ n : Int, 0 ≤ n → 0 ≤ (if (if n < 6 then n else 6) > (1 : Int) then (if n < 6 then n else 6) else 1) ∧ (if (if n < 6 then n else 6) > (1 : Int) then (if n < 6 then n else 6) else 1) ≤ 6 := by
    intro n hn
    split <;> split <;> omega
  have lim2 := lim (((ns.map V.int).length : Nat) : Int) (by omega)
  refine ⟨_, rfl, a, _, rfl, .inl hS, _, _, rfl, _, _, rfl, _, rfl, by omega, by omega, for_range (lo := 0) (fun i σ H3 => ∃ (y1 y2 y3 y4 y5 y6 y7 y8 y9 y10 y11 y12 y13 y14 y15 y16 : Option V), σ = [some (.ref a), y1, y2, y3, y4, y5, y6, y7, y8, y9, y10, y11, y12, y13, y14, y15, y16] ∧ SqL K H3 a (ns.map V.int))
    ⟨_, _, _, _, _, _, _, _, _, _, _, _, _, _, _, _, rfl, hS⟩ ?_ ?_⟩
  rotate_left
  · rintro σ H3 ⟨y1, y2, y3, y4, y5, y6, y7, y8, y9, y10, y11, y12, y13, y14, y15, y16, rfl, _⟩
    have f0 : Fit ("" : Str) := Nc.fit (L := 0) (B := 0) ⟨by decide +kernel, by decide +kernel, bf_short (by decide +kernel)⟩ (by decide) (by decide)
    have f1 : Fit ("|- " : Str) := Nc.fit (L := 3) (B := 3) ⟨by decide +kernel, by decide +kernel, bf_short (by decide +kernel)⟩ (by decide) (by decide)
    refine ⟨"", rfl, f0, (fun s es => by rw [no_empty] at es; cases es), fun _ g1 H4 h1 s1 => ⟨(by show 2 ≤ sizeLine; decide), fun g2 hg2 => ?_⟩⟩
    have s2 := same_new hg2 (.lst [V.str "bad", V.str ""])
    refine ⟨_, _, 55, rfl, rfl, (alike_bad (s2 _ _ h1) upd_same).up, fun H5 s3 => ⟨true, rfl, iteT ?_⟩⟩
    refine ⟨"|- ", rfl, f1, (fun s es => by rw [no_bare] at es; cases es), fun _ g3 H6 h3 s4 => ⟨(by show 2 ≤ sizeLine; decide), fun g4 hg4 => ?_⟩⟩
    have s5 := same_new hg4 (.lst [V.str "bad", V.str "|- "])
    exact ⟨_, _, 55, rfl, rfl, (alike_bad (s5 _ _ h3) upd_same).up, fun H7 s6 => q H7⟩
  rintro i σ H3 hi ⟨y1, y2, y3, y4, y5, y6, y7, y8, y9, y10, y11, y12, y13, y14, y15, y16, rfl, hS3⟩
  have i6 : (i : Int) < 6 := by omega
  clear lim lim2 hS
  refine ⟨_, rfl, _, rfl, a, ns, _, rfl, hS3, hl, by omega, by omega, fun b H4 hb B4 s4 => ?_⟩
  refine ⟨_, rfl, b, _, 1, rfl, by decide, by decide, B4, by decide, fun t d p r ws kvs H5 ht5 W5 wo B5 o5 => ?_⟩
  refine ⟨t, _, rfl, .inl (.inl ht5), rfl, _, _, rfl, _, _, rfl, _, _, rfl, rfl, ?_⟩
  -- the pool
  refine ⟨_, rfl, b, _, _, rfl, B5, by decide, by decide, by decide, fun r5 H6 c0 c1 B6 o6 => ?_⟩
  refine ⟨_, rfl, by omega, by omega, fun pp hpp => lc_range (lo := 0) (fun n H7 => ∃ ks : List Int, H7 pp = some (.lst (ks.map V.int)) ∧ ks.length = n ∧ (∀ k ∈ ks, 0 ≤ k ∧ k ≤ 99) ∧ BoxAt H7 b (271 + 2 * n) ∧ But b H6 H7)
    ⟨[], upd_same, rfl, by simp, (B6.same (same_new hpp _)).more (by omega), but_of (same_new hpp _)⟩ ?_ ?_⟩
  · rintro n H7 hn ⟨ks, h7, kl, kk, B7, o7⟩
    have ppb : pp ≠ b := ne_box B6 hpp
    refine ⟨rfl, ?_⟩
    unfold tePool
    refine ⟨_, rfl, (by show 2 ≤ sizeLine; decide), fun g hg => ?_⟩
    have s8 := same_new hg (.lst [V.int 3, V.int 100])
    refine ⟨_, rfl, b, _, _, rfl, B7.same s8, by omega, by decide, by decide, fun r8 H9 d0 d1 B9 o9 => ?_⟩
    have hg9 := o9 _ _ upd_same (ne_box B7 hg)
    obtain ⟨m, hat, m1, m2⟩ : ∃ m : Int, atI [V.int 3, V.int 100] r8 = some (.int m) ∧ 1 ≤ m ∧ m ≤ 100 := by
      rcases (by omega : r8 = 0 ∨ r8 = 1) with z | z <;> subst z
      · exact ⟨_, at_of (j := 0) rfl rfl, by decide, by decide⟩
      · exact ⟨_, at_of (j := 1) rfl rfl, by decide, by decide⟩
    refine ⟨g, _, _, _, rfl, rfl, .inl (.inl hg9), hat, b, _, _, rfl, B9, by omega, by omega, by omega, fun z H10 z0 z1 B10 o10 => ?_⟩
    have h10 := o10 _ _ (o9 _ _ (s8 _ _ h7) ppb) ppb
    refine ⟨ks.map V.int, h10, by rw [List.length_map]; omega, ks ++ [z], by rw [upd_same, List.map_append]; rfl, by simp [kl], fun k hk => ?_, (B10.upd ppb _).more (by omega), but_new hpp o7 fun x u hx nb => o10 _ _ (o9 _ _ (s8 _ _ hx) nb) nb⟩
    rcases List.mem_append.mp hk with hk | hk
    · exact kk k hk
    · obtain rfl : k = z := by simpa using hk
      omega
  rintro H7 ⟨ks, h7, kl, kk, B7, o7⟩
  have ppb : pp ≠ b := ne_box B6 hpp
  have kl4 : ks.length ≤ 4 := by omega
  have B7' : BoxAt H7 b 280 := B7.more (by omega)
  have o57 := o6.trans o7
  have W7s := W5.but B5 o57
  have W7 : Wrd H7 b d p pp ws ks kvs := ⟨W7s.hd, W7s.sh, W7s.hp, h7, kk, by omega, W7s.pb, ppb, wo, W7s.one, W7s.four⟩
  -- the saying
  refine ⟨_, rfl, _, rfl, _, rfl, _, rfl, b, d, p, pp, ws, ks, kvs, _, 6, rfl, B7', W7, by decide, by decide, fun vS sy H8 S8 ok8 h8 h33 g7 B8 o8 => ?_⟩
  have W8 := W7.but B7' o8
  have o48 := o5.trans (o57.trans o8)
  clear B7 B7' o57 o6 o7 o8 W7 W7s hpp h7 W5 B5 B6 ht5 o5
  have ncT := nc_sy h8 h33 g7
  have isT : toSy (sytxt sy) = some sy := toSy_iff.mpr ⟨ok8, rfl⟩
  refine ⟨_, rfl, vS, sy, rfl, S8, ok8, fun H9 s9 => ?_⟩
  refine ⟨_, rfl, vS, sy, rfl, S8.same s9, ok8, fun H10 s10 => ⟨_, rfl, rfl, false, eq_strD rfl, iteF ?_⟩⟩
  refine ⟨_, rfl, sytxt sy, rfl, ncT.fit (by decide) (by decide), fun s es v H11 T11 s11 => ?_, (fun en => by rw [isT] at en; cases en)⟩
  obtain rfl : sy = s := Option.some.inj (isT.symm.trans es)
  have sA := (s9.trans s10).trans s11
  refine ⟨_, rfl, v, vS, 55, rfl, rfl, (alike_sy ok8 T11 (S8.same sA)).up, fun H12 s12 => ⟨true, rfl, iteF ?_⟩⟩
  have sB := sA.trans s12
  have S12 := S8.same sB
  have W12 := W8.same sB
  have B12 := B8.same sB
  have o12 := o48.trans (but_of sB)
  clear T11 sA sB s9 s10 s11 s12 S8 W8 B8 o48
  obtain ⟨sp, g0, vg, xs, rfl, hsp, hg0, A0, G0⟩ := id S12
  refine ⟨_, rfl, sp, _, _, _, rfl, rfl, .inl (.inl hsp), at_of (j := 1) rfl rfl, vg, sy.gl, rfl, G0, ok8.gl, fun H13 s13 => ?_⟩
  have W13 := W12.same s13
  have ncW : Nc 64 28 (atxt sy.gl) := nc_at g7 (by decide)
  obtain ⟨x, rest, rfl⟩ : ∃ x rest, ws = x :: rest := by
    cases ws with
    | nil => have := W13.one; simp at this
    | cons x rest => exact ⟨x, rest, rfl⟩
  have nmx : NameOk x := wo x (by simp)
  obtain ⟨_, hval, mm, rfl, mm1, mm2⟩ := W13.sh x (by simp)
  have at0 : atI ((x :: rest).map V.str) 0 = some (V.str x) := at_of (j := 0) rfl rfl
  have few := nmx.few
  -- seven atoms
  refine ⟨_, rfl, by decide, by decide, fun D hD => lc_range (lo := 0) (n := (7 : Int).toNat) (fun n H14 => H14 D = some (.lst (((List.range n).map (sv x mm)).map V.str)) ∧ Same H13 H14)
    ⟨upd_same, same_new hD _⟩ ?_ ?_⟩
  · rintro n H14 hn ⟨h14, s14⟩
    have n7 : n < 7 := hn
    obtain ⟨nc, lw, lr⟩ := nc_seven nmx mm1 mm2 n7
    have W14 := W13.same s14
    refine ⟨rfl, ?_⟩
    unfold teSeven
    have e0 : (0 : Int) + (n : Int) = (n : Int) := by omega
    have lg : (n : Int).natAbs.log2 < 1920 := by
      have : ∀ k : Fin 7, (k.val : Int).natAbs.log2 < 1920 := by decide
      exact this ⟨n, n7⟩
    have lx : (" x" : Str).length = 2 := by decide +kernel
    have ln : (" x" : Str).length + (Str.ofString (toString (n : Int))).length = 3 := by rw [← slen]; exact lw
    refine ⟨_, rfl, p, _, 0, _, rfl, rfl, .inl (.inl W14.hp), at0, _, rfl, (n : Int), by show [V.int (0 + (n : Int))] = [V.int (n : Int)]; rw [e0], lg, " x", _, rfl, rfl, by omega, ?_⟩
    refine ⟨_, rfl, _, rfl, p, _, 0, _, rfl, rfl, .inl (.inl W14.hp), at0, d, _, rfl, by rw [← hval]; exact DGet.k (k := Sum.inr x) W14.hd, wn n, (mm : Int), rfl, rfl, by omega, by omega, by omega, by omega, x, _, rfl, rfl, by omega, ?_⟩
    refine ⟨_, h14, by rw [List.length_map, List.length_map, List.length_range]; omega, ?_, fun c o z => by rw [upd_ne (ne_of_none z hD)]; exact s14 _ _ z⟩
    rw [upd_same, List.range_succ, List.map_append, List.map_append]
    rfl
  rintro H14 ⟨h14, s14⟩
  have h14 : H14 D = some (.lst (((List.range 7).map (sv x mm)).map V.str)) := h14
  -- some texts
  have tl0 := ncW.len
  have tT := ncT.len
  have l2 : (", " : Str).length = 2 := by decide +kernel
  have l4 := l_part
  have lw1 : 1 ≤ (atxt sy.gl).length := by
    obtain ⟨c, q, e, _⟩ := atxt_head ok8.gl
    rw [len_tl, e]; simp
  refine ⟨_, rfl, _, ", ", rfl, rfl, by omega, _, rfl, _, _, rfl, rfl, by rw [slen]; omega, _, " |- ", rfl, rfl, by rw [slen, slen]; omega, _, rfl, _, _, rfl, rfl, by rw [slen, slen, slen]; omega, ?_⟩
  have lz : (", " ++ atxt sy.gl ++ " |- ").length ≤ 70 := by rw [slen, slen]; omega
  refine ⟨_, rfl, sytxt sy, rfl, _, rfl, ", ", _, rfl, rfl, by omega, ", " ++ atxt sy.gl, rfl, by rw [slen]; omega, by omega, by rw [slen]; omega, fun z => ?_, ?_, (by show 2 ≤ sizeLine; decide), fun l hl => ?_⟩
  · have := congrArg Str.length z
    rw [slen, slen] at this
    omega
  · have m1 : ((sytxt sy).length + 1) * (", " ++ atxt sy.gl ++ " |- ").length ≤ 273 * 70 := Nat.mul_le_mul (by omega) lz
    omega
  have s15 := same_new hl (.lst [V.str (atxt sy.gl ++ ", " ++ atxt sy.gl ++ " |- " ++ atxt sy.gl), V.str (Txt.replace (sytxt sy) " |- " (", " ++ atxt sy.gl ++ " |- "))])
  have h15 : (upd H14 l (.lst [V.str (atxt sy.gl ++ ", " ++ atxt sy.gl ++ " |- " ++ atxt sy.gl), V.str (Txt.replace (sytxt sy) " |- " (", " ++ atxt sy.gl ++ " |- "))])) l = some (.lst [V.str (atxt sy.gl ++ ", " ++ atxt sy.gl ++ " |- " ++ atxt sy.gl), V.str (Txt.replace (sytxt sy) " |- " (", " ++ atxt sy.gl ++ " |- "))]) := upd_same
  have lD : l ≠ D := (ne_of_none h14 hl).symm
  have nc1 : Nc 430 118 (atxt sy.gl ++ ", " ++ atxt sy.gl ++ " |- " ++ atxt sy.gl) := (nc_bar (nc_cs ncW ncW) (ncW.more (Nat.le_refl _) (by decide : 28 ≤ 29)) (by decide)).more (by decide) (by decide)
  have nc2 : Nc 430 118 (Txt.replace (sytxt sy) " |- " (", " ++ atxt sy.gl ++ " |- ")) := by
    rw [repl_sy ok8]
    by_cases e : sy.hs = []
    · rw [if_pos e]; exact ncT.more (by decide) (by decide)
    · rw [if_neg e]
      have e2 : btxt sy.hs ++ (", " ++ atxt sy.gl ++ " |- ") ++ atxt sy.gl = btxt sy.hs ++ ", " ++ atxt sy.gl ++ " |- " ++ atxt sy.gl := by
        apply ext_tl
        simp only [tl_append, List.append_assoc]
      rw [e2]
      exact (nc_bar (nc_cs ((nc_b h8 h33).more (by decide : 204 ≤ 204) (by decide : 13 ≤ 28)) ncW) (ncW.more (Nat.le_refl _) (by decide : 28 ≤ 29)) (by decide)).more (by decide) (by decide)
  generalize atxt sy.gl ++ ", " ++ atxt sy.gl ++ " |- " ++ atxt sy.gl = T1 at s15 h15 nc1 ⊢
  generalize Txt.replace (sytxt sy) " |- " (", " ++ atxt sy.gl ++ " |- ") = T2 at s15 h15 nc2 ⊢
  generalize upd H14 l (.lst [V.str T1, V.str T2]) = H15 at s15 h15 ⊢
  have h15D := s15 _ _ h14
  have nc7 : Nc 98 7 (Txt.join ", " ((List.range 7).map (sv x mm))) := (nc_join (L := 12) (B := 6) fun y hy => by
    obtain ⟨n, hn, rfl⟩ := List.mem_map.mp hy
    exact (nc_seven nmx mm1 mm2 (List.mem_range.mp hn)).1).more (by rw [List.length_map, List.length_range]; decide) (by decide)
  have l7 := nc7.len
  have sum7 : (((List.range 7).map (sv x mm)).map (·.length)).sum ≤ 84 := by
    have each : ∀ n < 7, (sv x mm n).length ≤ 12 := fun n hn => (nc_seven nmx mm1 mm2 hn).1.len
    have e0 := each 0 (by decide); have e1 := each 1 (by decide); have e2 := each 2 (by decide); have e3 := each 3 (by decide); have e4 := each 4 (by decide); have e5 := each 5 (by decide); have e6 := each 6 (by decide)
    show (sv x mm 0).length + ((sv x mm 1).length + ((sv x mm 2).length + ((sv x mm 3).length + ((sv x mm 4).length + ((sv x mm 5).length + ((sv x mm 6).length + 0)))))) ≤ 84
    omega
  refine ⟨_, rfl, .inl ⟨rfl, _, .inl (.inl h15)⟩, rfl, _, rfl, ", ", D, _, rfl, rfl, .inl (.inl (.inl h15D)), by rw [l2, List.length_map, List.length_range]; omega, ?_⟩
  refine ⟨_, " |- ", rfl, rfl, by omega, _, rfl, _, _, rfl, rfl, by rw [slen]; omega, l, _, _, rfl, rfl, h15, by show 2 < sizeLine; omega, ?_⟩
  have nc3 : Nc 430 118 (Txt.join ", " ((List.range 7).map (sv x mm)) ++ " |- " ++ atxt sy.gl) := (nc_bar (nc7.more (Nat.le_refl _) (by decide : 7 ≤ 28)) ncW (by decide)).more (by decide) (by decide)
  have h16 : (upd H15 l (.lst ([V.str T1, V.str T2] ++ [V.str (Txt.join ", " ((List.range 7).map (sv x mm)) ++ " |- " ++ atxt sy.gl)]))) l = some (.lst ([V.str T1, V.str T2] ++ [V.str (Txt.join ", " ((List.range 7).map (sv x mm)) ++ " |- " ++ atxt sy.gl)])) := upd_same
  have o16 : Same H14 (upd H15 l (.lst ([V.str T1, V.str T2] ++ [V.str (Txt.join ", " ((List.range 7).map (sv x mm)) ++ " |- " ++ atxt sy.gl)]))) := fun c o z => by rw [upd_ne (ne_of_none z hl)]; exact s15 _ _ z
  generalize Txt.join ", " ((List.range 7).map (sv x mm)) ++ " |- " ++ atxt sy.gl = T3 at nc3 h16 o16 ⊢
  generalize upd H15 l (.lst ([V.str T1, V.str T2] ++ [V.str T3])) = H16 at h16 o16 ⊢
  have s8 := (s13.trans s14).trans o16
  -- each of them
  refine ⟨_, rfl, _, rfl, _, " |- ", rfl, rfl, by omega, _, rfl, _, _, rfl, rfl, by rw [slen]; omega, (by show 1 ≤ sizeLine; decide), fun l2' hl2 => ⟨l, l2', _, _, rfl, rfl, same_new hl2 _ _ _ h16, upd_same, (by show 4 ≤ sizeLine; decide), fun l3 hl3 => ?_⟩⟩
  have nc4 : Nc 430 118 (atxt sy.gl ++ " |- " ++ atxt sy.gl) := (nc_bar ncW ncW (by decide)).more (by decide) (by decide)
  generalize atxt sy.gl ++ " |- " ++ atxt sy.gl = T4 at nc4 hl3 ⊢
  have s17 := (same_new hl2 (.lst [V.str T4])).trans (same_new hl3 (.lst ([V.str T1, V.str T2] ++ [V.str T3] ++ [V.str T4])))
  have h17 : (upd (upd H16 l2' (.lst [V.str T4])) l3 (.lst ([V.str T1, V.str T2] ++ [V.str T3] ++ [V.str T4]))) l3 = some (.lst ([V.str T1, V.str T2] ++ [V.str T3] ++ [V.str T4])) := upd_same
  generalize upd (upd H16 l2' (.lst [V.str T4])) l3 (.lst ([V.str T1, V.str T2] ++ [V.str T3] ++ [V.str T4])) = H17 at s17 h17 ⊢
  have texts : ∀ (n : Nat) (v : V), ([V.str T1, V.str T2] ++ [V.str T3] ++ [V.str T4])[n]? = some v → ∃ y : Str, v = .str y ∧ Nc 430 118 y := by
    intro n v hv
    have e : [V.str T1, V.str T2] ++ [V.str T3] ++ [V.str T4] = [V.str T1, V.str T2, V.str T3, V.str T4] := rfl
    rw [e] at hv
    match n with
    | 0 => simp at hv; exact ⟨T1, hv.symm, nc1⟩
    | 1 => simp at hv; exact ⟨T2, hv.symm, nc2⟩
    | 2 => simp at hv; exact ⟨T3, hv.symm, nc3⟩
    | 3 => simp at hv; exact ⟨T4, hv.symm, nc4⟩
    | n + 4 => simp at hv
  generalize [V.str T1, V.str T2] ++ [V.str T3] ++ [V.str T4] = tv at h17 texts ⊢
  refine ⟨l3, rfl, ⟨_, .inl (.inl h17)⟩, for_list (K := K) (a := l3) (xs := tv) (fun n σ H18 => ∃ z13 z14 : Option V, σ = [some (.ref a), some (.int (0 + (i : Int))), some (.ref b), some (.ref p), some (.ref d), some r, y6, some (.ref pp), some (.ref sp), some (.str (sytxt sy)), some (.str (atxt sy.gl)), some (.ref D), some (.ref l), z13, z14, y15, y16] ∧ Same H17 H18)
    ⟨_, _, rfl, Same.refl _⟩ (fun n σ H18 _ ⟨_, _, _, s⟩ => .inl (.inl (s _ _ h17))) ?_ ?_⟩
  · rintro n y σ H18 hn ⟨z13, z14, rfl, s18⟩
    obtain ⟨y, rfl, ncy⟩ := texts n y hn
    have fy := ncy.fit (by decide) (by decide)
    refine ⟨_, rfl, y, rfl, fy, fun v H19 T19 s19 => ?_⟩
    cases e : toSy y with
    | none =>
      rw [e] at T19
      have T19 : v = .non := T19
      subst T19
      refine ⟨_, rfl, y, rfl, fy, (fun s es => by rw [e] at es; cases es), fun _ q1 H20 h20 s20 => ?_⟩
      refine ⟨_, rfl, rfl, true, rfl, iteT ⟨_, rfl, (by show 2 ≤ sizeLine; decide), fun g hg => ?_⟩⟩
      have s21 := same_new hg (.lst [V.str "bad", V.str y])
      exact ⟨_, _, 55, rfl, rfl, (alike_bad (s21 _ _ h20) upd_same).up, fun H22 s22 => ⟨true, rfl, iteF ⟨_, _, rfl, s18.trans (s19.trans (s20.trans (s21.trans s22)))⟩⟩⟩
    | some sy2 =>
      rw [e] at T19
      have T19 : SyAt H19 v sy2 := T19
      have vn : v ≠ .non := by
        obtain ⟨p, q, vg, xs, rfl, _⟩ := T19
        intro z; cases z
      refine ⟨_, rfl, y, rfl, fy, fun s es v2 H20 T20 s20 => ?_, (fun en => by rw [e] at en; cases en)⟩
      obtain rfl : sy2 = s := Option.some.inj (e.symm.trans es)
      refine ⟨_, rfl, rfl, false, congrArg V.bl (decide_eq_false vn), iteF ⟨_, rfl, v2, v, 55, rfl, rfl, (alike_sy (toSy_iff.mp e).1 T20 (T19.same s20)).up, fun H22 s22 => ⟨true, rfl, iteF ⟨_, _, rfl, s18.trans (s19.trans (s20.trans s22))⟩⟩⟩⟩
  rintro σ H18 ⟨z13, z14, rfl, s18⟩
  have sZ := (s8.trans s17).trans s18
  have B18 := B12.same sZ
  have o18 := o12.trans (but_of sZ)
  clear s8 s17 s18 sZ h17 texts W13 h14 h15 h15D h16
  -- the text bent
  refine ⟨_, rfl, by decide, by decide, for_range (lo := 0) (n := (10 : Int).toNat) (fun n σ H19 => ∃ z6 z13 z14 z15 : Option V, σ = [some (.ref a), some (.int (0 + (i : Int))), some (.ref b), some (.ref p), some (.ref d), some r, z6, some (.ref pp), some (.ref sp), some (.str (sytxt sy)), some (.str (atxt sy.gl)), some (.ref D), some (.ref l), z13, z14, z15, y16] ∧ BoxAt H19 b (600 + 30 * n) ∧ But b H4 H19)
    ⟨_, _, _, _, rfl, B18.more (by omega), o18⟩ ?_ ?_⟩
  · rintro n σ H19 hn ⟨z6, z13, z14, z15, rfl, B19, o19⟩
    have n10 : n < 10 := hn
    refine ⟨_, rfl, _, rfl, b, sytxt sy, _, rfl, B19, by omega, by omega, ncT.low, fun y1 H20 yc yl yb B20 o20 => ?_⟩
    refine ⟨b, y1, _, rfl, rfl, B20, by omega, by omega, yc, yb 28 ncT.bf, fun y2 H21 zc zl zb B21 o21 => ?_⟩
    have f2 : Fit y2 := ⟨⟨by omega, zc⟩, zb⟩
    have o41 := o19.trans (o20.trans o21)
    refine ⟨_, rfl, y2, rfl, f2, fun v H22 T22 s22 => ?_⟩
    have fin : ∀ {H' : Hp} (z6 z13 z14 z15 : Option V), Same H22 H' → ∃ y6 y13 y14 y15 : Option V, [some (V.ref a), some (.int (0 + (i : Int))), some (.ref b), some (.ref p), some (.ref d), some r, z6, some (.ref pp), some (.ref sp), some (.str (sytxt sy)), some (.str (atxt sy.gl)), some (.ref D), some (.ref l), z13, z14, z15, y16] = [some (.ref a), some (.int (0 + (i : Int))), some (.ref b), some (.ref p), some (.ref d), some r, y6, some (.ref pp), some (.ref sp), some (.str (sytxt sy)), some (.str (atxt sy.gl)), some (.ref D), some (.ref l), y13, y14, y15, y16] ∧ BoxAt H' b (600 + 30 * (n + 1)) ∧ But b H4 H' := fun {H'} z6 z13 z14 z15 s => ⟨z6, z13, z14, z15, rfl, ((B21.same s22).same s).more (by omega), o41.trans (but_of (s22.trans s))⟩
    cases e : toSy y2 with
    | none =>
      rw [e] at T22
      have T22 : v = .non := T22
      subst T22
      refine ⟨_, rfl, rfl, true, rfl, iteT ⟨_, rfl, (by show 2 ≤ sizeLine; decide), fun q0 hq0 => ?_⟩⟩
      have t0 := same_new hq0 (.lst [V.str "bad", V.str y2])
      refine ⟨_, rfl, y2, rfl, f2, (fun s es => by rw [e] at es; cases es), fun _ q1 H24 h24 t1 => ?_⟩
      refine ⟨_, rfl, y2, rfl, f2, (fun s es => by rw [e] at es; cases es), fun _ q2 H25 h25 t2 => ⟨(by show 2 ≤ sizeLine; decide), fun g1 hg1 => ?_⟩⟩
      have t3 := same_new hg1 (.lst [V.ref q1, .ref q2])
      refine ⟨_, rfl, _, rfl, (by show 2 ≤ sizeLine; decide), fun g2 hg2 => ?_⟩
      have t4 := same_new hg2 (.lst [V.ref q0, .ref q0])
      have t34 := t3.trans t4
      have hq := t34 _ _ (t2 _ _ (t1 _ _ (upd_same : (upd H22 q0 (.lst [V.str "bad", V.str y2])) q0 = _)))
      refine ⟨_, _, 55, rfl, rfl, alike_lst (n := 54) (t4 _ _ upd_same) upd_same rfl (by simp) (fun i u v h1 h2 => ?_), fun H28 s28 => ⟨true, rfl, iteF (fin _ _ _ _ (t0.trans (t1.trans (t2.trans (t34.trans s28)))))⟩⟩
      match i with
      | 0 => simp at h1 h2; subst h1 h2; exact alike_bad (t34 _ _ (t2 _ _ h24)) hq
      | 1 => simp at h1 h2; subst h1 h2; exact alike_bad (t34 _ _ h25) hq
      | i + 2 => simp at h1
    | some sy2 =>
      rw [e] at T22
      have T22 : SyAt H22 v sy2 := T22
      have ok2 := (toSy_iff.mp e).1
      have vn : v ≠ .non := by
        obtain ⟨p, q, vg, xs, rfl, _⟩ := T22
        intro z; cases z
      refine ⟨_, rfl, rfl, false, congrArg V.bl (decide_eq_false vn), iteF ⟨_, rfl, ?_⟩⟩
      refine ⟨_, rfl, y2, rfl, f2, fun s es v1 H24 T24 t1 => ?_, (fun en => by rw [e] at en; cases en)⟩
      obtain rfl : sy2 = s := Option.some.inj (e.symm.trans es)
      refine ⟨_, rfl, y2, rfl, f2, fun s es v2 H25 T25 t2 => ⟨(by show 2 ≤ sizeLine; decide), fun g1 hg1 => ?_⟩, (fun en => by rw [e] at en; cases en)⟩
      obtain rfl : sy2 = s := Option.some.inj (e.symm.trans es)
      have t3 := same_new hg1 (.lst [v1, v2])
      refine ⟨_, rfl, _, rfl, (by show 2 ≤ sizeLine; decide), fun g2 hg2 => ?_⟩
      have t4 := same_new hg2 (.lst [v, v])
      have t34 := t3.trans t4
      have TT := ((T22.same t1).same t2).same t34
      refine ⟨_, _, 55, rfl, rfl, alike_lst (n := 54) (t4 _ _ upd_same) upd_same rfl (by simp) (fun i u v h1 h2 => ?_), fun H28 s28 => ⟨true, rfl, iteF (fin _ _ _ _ (t1.trans (t2.trans (t34.trans s28))))⟩⟩
      match i with
      | 0 => simp at h1 h2; subst h1 h2; exact alike_sy ok2 ((T24.same t2).same t34) TT
      | 1 => simp at h1 h2; subst h1 h2; exact alike_sy ok2 (T25.same t34) TT
      | i + 2 => simp at h1
  rintro σ H19 ⟨z6, z13, z14, z15, rfl, B19, o19⟩
  refine ⟨_, _, _, _, _, _, _, _, _, _, _, _, _, _, _, _, rfl, ?_⟩
  have keep : ∀ o, H3 a = some o → H19 a = some o := fun o z => o19 _ _ (s4 _ _ z) (ne_of_none z hb)
  rcases hS3 with (z | ⟨o, z⟩) | z
  · exact .inl (.inl (keep _ z))
  · exact .inl (.inr ⟨o, keep _ z⟩)
  · exact .inr z
end
end Rp

set_option maxHeartbeats 8000000
/-! The refusals' classes, together; what the law asks in a try. -/
namespace Rp
open PySem PySem.Spec PyProof.Rows L2 TL StX CwR
structure ErrB (P : Program) (w : World) (K : PySem.W.Frag) (mg : Str → Option Value) (base : Heap) (CE CB CR CS : Addr) : Prop where
  g : ErrG K mg CE CB CR CS
  x : ∃ (fX : Addr) (dX : FuncData), ErrK K fX CB ∧ FnOk P w K mg base CX0 1 fX dX ["self", "what"] (spXInit K) ∧ Binds K dX ["self", "what"] []
section
variable {P : Program} {w : World} {K : PySem.W.Frag} {mg : Str → Option Value} {base : Heap}
theorem ok_toldw {f fS fO CE CB CR CS : Addr} {fd dS dO : FuncData} (F : Fun K "_law_told" "_law_told" sLawTold f fd) (FS : Fun K "saying_in" "saying_in" sSayingIn fS dS) (EB : ErrB P w K mg base CE CB CR CS)
    (kS : PySem.W.keepIn K (.ref fS) = true) (bS : Binds K dS ["text"] []) (mS : mg "saying_in" = some (.ref fS))
    (GO : FnOk P w K mg base CX0 8 fO dO ["text"] spSayG) (kO : PySem.W.keepIn K (.ref fO) = true) (bO : Binds K dO ["text"] []) (mO : mg "saying_or_none" = some (.ref fO)) (mIsi : mg "isinstance" = none) (mV : mg "ValueError" = none) :
    FnOk P w K mg base CX0 10 f fd ["_law_text"] spTold := by
  obtain ⟨fX, dX, EK, GX, bX⟩ := EB.x
  exact ok_told F EB.g (ok_sayin FS EK GX bX EB.g.mB GO kO bO mO) kS bS mS mIsi mV
end
end Rp

namespace Rp
open PySem L2
theorem gn_of {P : Program} {w : World} {K : PySem.W.Frag} {mg : Str → Option Value} {base : Heap} {k : Nat} {f : Addr} {fd : FuncData} {ps : List Str} {sp : Sp} (F : FnOk P w K mg base CX0 k f fd ps sp) : GnOk P w K mg base k f fd ps sp :=
  ⟨F.len, fun A outer s H args us vs Q E _ hr e0 hb r h => F.run A outer s H args us vs Q E hr e0 hb r h⟩
def oexIn (K : PySem.W.Frag) (C : Addr) : Bool := match K.lookup C with
  | some ⟨.type "type", _, .cls cd, sl⟩ => (match cd.mro, sl.toList with
    | .ref C' :: bm, [_, _, _, _, some (.builtin n), _] => C' == C && n == "ValueError.__new__" && !cd.hasDel && cd.hasDict && PySem.HandSPX.refsVE bm
    | _, _ => false)
  | _ => false
theorem oexIn_ok {K : PySem.W.Frag} {C : Addr} (q : oexIn K C = true) : ∃ nm q N bs bm sn sub ab col dd k0 k1 k2 k3 k5, K.lookup C = some (excClassObj nm q C N bs bm true sn sub ab col dd k0 k1 k2 k3 k5 "ValueError.__new__") ∧ PySem.HandSPX.refsVE bm = true := by
  unfold oexIn at q
  split at q
  · rename_i dd cd sl ho
    split at q
    · rename_i C' bm k0 k1 k2 k3 n k5 hm hs
      simp only [Bool.and_eq_true, beq_iff_eq, Bool.not_eq_true'] at q
      obtain ⟨⟨⟨⟨rfl, hn⟩, hdel⟩, hdct⟩, ht⟩ := q
      subst hn
      obtain ⟨nm, bs, mro, ns, qn, hd, sn, sub, ab, col, del⟩ := cd
      dsimp only at hm hdel hdct
      subst hm hdel hdct
      have hsl : sl = #[k0, k1, k2, k3, some (.builtin "ValueError.__new__"), k5] := by
        obtain ⟨l⟩ := sl
        simp only at hs
        rw [hs]
      subst hsl
      exact ⟨nm, qn, ns, bs, bm, sn, sub, ab, col, dd, k0, k1, k2, k3, k5, ho, ht⟩
    · cases q
  · cases q
structure Kls (K : PySem.W.Frag) (fI C : Addr) : Prop where
  oex : OexC K C
  ini : PySem.W.findIn K (.ref C) "__init__" = some (some (.ref fI))
  wh : PySem.W.findIn K (.ref C) "what" = some none
  exc : ExcC K C
  xf : XfC K C
def klsB (K : PySem.W.Frag) (fI C : Addr) : Bool := oexIn K C && (decide (PySem.W.findIn K (.ref C) "__setattr__" = some (some (.builtin "object.__setattr__"))) && (decide (PySem.W.subIn K (.ref C) (.type "BaseException") = some true) && (decide (PySem.W.typeIn K (.ref C) = some (.type "type")) && (PySem.W.keepIn K (.ref C) &&
  (decide (PySem.W.findIn K (.ref C) "__init__" = some (some (.ref fI))) && (decide (PySem.W.findIn K (.ref C) "what" = some none) && (decide (PySem.W.findIn K (.ref C) "__getattribute__" = some (some (.builtin "BaseException.__getattribute__"))) && (decide (PySem.W.findIn K (.ref C) "__getattr__" = some none) && (PySem.W.hasDictIn K C &&
  (decide (PySem.W.findIn K (.ref C) "__class__" = some (some (.builtin "object.__class__"))) && (decide (PySem.W.specialIn K (.builtin "object.__class__") "__get__" = some (some (.builtin "getset_descriptor.__get__"))) && (decide (PySem.W.takesIn K (.builtin "object.__class__") = some true) && decide (PySem.W.mroIn K C (.type "object") = some true)))))))))))))
theorem klsB_ok {K : PySem.W.Frag} {fI C : Addr} (h : klsB K fI C = true) : Kls K fI C := by
  unfold klsB at h
  obtain ⟨h0, h⟩ := Bool.and_eq_true_iff.mp h
  obtain ⟨h1, h⟩ := Bool.and_eq_true_iff.mp h
  obtain ⟨h2, h⟩ := Bool.and_eq_true_iff.mp h
  obtain ⟨h3, h⟩ := Bool.and_eq_true_iff.mp h
  obtain ⟨h4, h⟩ := Bool.and_eq_true_iff.mp h
  obtain ⟨h5, h⟩ := Bool.and_eq_true_iff.mp h
  obtain ⟨h6, h⟩ := Bool.and_eq_true_iff.mp h
  obtain ⟨h7, h⟩ := Bool.and_eq_true_iff.mp h
  obtain ⟨h8, h⟩ := Bool.and_eq_true_iff.mp h
  obtain ⟨h9, h⟩ := Bool.and_eq_true_iff.mp h
  obtain ⟨h10, h⟩ := Bool.and_eq_true_iff.mp h
  obtain ⟨h11, h⟩ := Bool.and_eq_true_iff.mp h
  obtain ⟨h12, h13⟩ := Bool.and_eq_true_iff.mp h
  exact ⟨⟨oexIn_ok h0, of_decide_eq_true h1, of_decide_eq_true h2, of_decide_eq_true h3, h4⟩, of_decide_eq_true h5, of_decide_eq_true h6, ⟨of_decide_eq_true h7, of_decide_eq_true h8, of_decide_eq_true h2, h9, of_decide_eq_true h10, of_decide_eq_true h11, of_decide_eq_true h12, of_decide_eq_true h13⟩,
    ⟨of_decide_eq_true h7, of_decide_eq_true h8, of_decide_eq_true h2, h9⟩⟩
theorem all_mk {l : PySem.W.OpenLaw} {w : World} {K : PySem.W.Frag} {h : Heap} {mg : Str → Option Value} {fa f1 f2 f3 f4 f5 f6 f7 f8 f9 f10 f11 f12 f13 f14 f15 f16 f17 f18 f19 f20 f21 f22 f23 f24 f25 f26 f27 f28 f29 f30 f31 f32 f33 f34 f35 f36 f37 f38 f39 f40 f41 f42 f43 f44 f45 f46 f47 f48 f49 f50 : Addr} (X : K.In h) (G : h.Ns mainGlobals mg) (hfa : mg "law" = some (.ref fa))
    {od1 an1 od2 an2 od3 an3 od4 an4 od5 an5 od6 an6 od7 an7 od8 an8 od9 an9 od10 an10 od11 an11 od12 an12 od13 an13 od14 an14 od15 an15 od16 an16 od17 an17 od18 an18 od19 an19 od20 an20 od21 an21 od22 an22 od23 an23 od24 an24 od25 an25 od26 an26 od27 an27 od28 an28 od29 an29 od30 an30 od31 an31 od32 an32 od33 an33 od34 an34 od35 an35 od36 an36 od37 an37 od38 an38 od39 an39 od40 an40 od41 an41 od42 an42 od43 an43 od44 an44 od45 an45 od46 an46 od47 an47 od48 an48 od49 an49 od50 an50 : Option Addr} {sl1 sl2 sl3 sl4 sl5 sl6 sl7 sl8 sl9 sl10 sl11 sl12 sl13 sl14 sl15 sl16 sl17 sl18 sl19 sl20 sl21 sl22 sl23 sl24 sl25 sl26 sl27 sl28 sl29 sl30 sl31 sl32 sl33 sl34 sl35 sl36 sl37 sl38 sl39 sl40 sl41 sl42 sl43 sl44 sl45 sl46 sl47 sl48 sl49 sl50 : Array (Option Value)} {oc1 kV1 dc1 pm1 cd1 ct1 oc2 kV2 dc2 pm2 cd2 ct2 oc3 kV3 dc3 pm3 cd3 ct3 oc4 kV4 dc4 pm4 cd4 ct4 oc5 kV5 dc5 pm5 cd5 ct5 oc6 kV6 dc6 pm6 cd6 ct6 oc7 kV7 dc7 pm7 cd7 ct7 oc8 kV8 dc8 pm8 cd8 ct8 oc9 kV9 dc9 pm9 cd9 ct9 oc10 kV10 dc10 pm10 cd10 ct10 oc11 kV11 dc11 pm11 cd11 ct11 oc12 kV12 dc12 pm12 cd12 ct12 oc13 kV13 dc13 pm13 cd13 ct13 oc14 kV14 dc14 pm14 cd14 ct14 oc15 kV15 dc15 pm15 cd15 ct15 oc16 kV16 dc16 pm16 cd16 ct16 oc17 kV17 dc17 pm17 cd17 ct17 oc18 kV18 dc18 pm18 cd18 ct18 oc19 kV19 dc19 pm19 cd19 ct19 oc20 kV20 dc20 pm20 cd20 ct20 oc21 kV21 dc21 pm21 cd21 ct21 oc22 kV22 dc22 pm22 cd22 ct22 oc23 kV23 dc23 pm23 cd23 ct23 oc24 kV24 dc24 pm24 cd24 ct24 oc25 kV25 dc25 pm25 cd25 ct25 oc26 kV26 dc26 pm26 cd26 ct26 oc27 kV27 dc27 pm27 cd27 ct27 oc28 kV28 dc28 pm28 cd28 ct28 oc29 kV29 dc29 pm29 cd29 ct29 oc30 kV30 dc30 pm30 cd30 ct30 oc31 kV31 dc31 pm31 cd31 ct31 oc32 kV32 dc32 pm32 cd32 ct32 oc33 kV33 dc33 pm33 cd33 ct33 oc34 kV34 dc34 pm34 cd34 ct34 oc35 kV35 dc35 pm35 cd35 ct35 oc36 kV36 dc36 pm36 cd36 ct36 oc37 kV37 dc37 pm37 cd37 ct37 oc38 kV38 dc38 pm38 cd38 ct38 oc39 kV39 dc39 pm39 cd39 ct39 oc40 kV40 dc40 pm40 cd40 ct40 oc41 kV41 dc41 pm41 cd41 ct41 oc42 kV42 dc42 pm42 cd42 ct42 oc43 kV43 dc43 pm43 cd43 ct43 oc44 kV44 dc44 pm44 cd44 ct44 oc45 kV45 dc45 pm45 cd45 ct45 oc46 kV46 dc46 pm46 cd46 ct46 oc47 kV47 dc47 pm47 cd47 ct47 oc48 kV48 dc48 pm48 cd48 ct48 oc49 kV49 dc49 pm49 cd49 ct49 oc50 kV50 dc50 pm50 cd50 ct50 : Value}
    {fS s1 s2 s3 : Addr} {odS od1_ od2_ od3_ : Option Addr} {nS n1_ n2_ n3_ : Nat} {slS sl1_ sl2_ sl3_ : Array (Option Value)} {t1 t2 t3 t4 t5 t6 : Tok} {tc0 : Tok} {tc1 : Tok} {tc2 : Tok} {tc3 : Tok} {tc4 : Tok} {tc5 : Tok} {tc6 : Tok} {fXi CE CB CR CS : Addr} {odXi anXi : Option Addr} {slXi : Array (Option Value)} {ocXi kVXi dcXi pmXi cdXi ctXi : Value}
    (a1 : PySem.W.nsIn K mainGlobals "is_number" = some (some (.ref f1))) (l1 : K.lookup f1 = some ⟨oc1, od1, .func (PySem.W.fnOf "is_number" "is_number" (defArgs sNumber) (defBody sNumber) (defScope sNumber) .none kV1 dc1 pm1 an1 cd1 ct1), sl1⟩) (c1 : PySem.W.codeIn K cd1 "is_number" = true) (k1 : PySem.W.keepIn K (.ref f1) = true)
    (a2 : PySem.W.nsIn K mainGlobals "is_variable" = some (some (.ref f2))) (l2 : K.lookup f2 = some ⟨oc2, od2, .func (PySem.W.fnOf "is_variable" "is_variable" (defArgs sVariable) (defBody sVariable) (defScope sVariable) .none kV2 dc2 pm2 an2 cd2 ct2), sl2⟩) (c2 : PySem.W.codeIn K cd2 "is_variable" = true) (k2 : PySem.W.keepIn K (.ref f2) = true)
    (a3 : PySem.W.nsIn K mainGlobals "_has_shape" = some (some (.ref f3))) (l3 : K.lookup f3 = some ⟨oc3, od3, .func (PySem.W.fnOf "_has_shape" "_has_shape" (defArgs sShape) (defBody sShape) (defScope sShape) .none kV3 dc3 pm3 an3 cd3 ct3), sl3⟩) (c3 : PySem.W.codeIn K cd3 "_has_shape" = true) (k3 : PySem.W.keepIn K (.ref f3) = true)
    (a4 : PySem.W.nsIn K mainGlobals "is_term" = some (some (.ref f4))) (l4 : K.lookup f4 = some ⟨oc4, od4, .func (PySem.W.fnOf "is_term" "is_term" (defArgs sTerm) (defBody sTerm) (defScope sTerm) .none kV4 dc4 pm4 an4 cd4 ct4), sl4⟩) (c4 : PySem.W.codeIn K cd4 "is_term" = true) (k4 : PySem.W.keepIn K (.ref f4) = true)
    (a5 : PySem.W.nsIn K mainGlobals "_parts" = some (some (.ref f5))) (l5 : K.lookup f5 = some ⟨oc5, od5, .func (PySem.W.fnOf "_parts" "_parts" (defArgs sParts) (defBody sParts) (defScope sParts) .none kV5 dc5 pm5 an5 cd5 ct5), sl5⟩) (c5 : PySem.W.codeIn K cd5 "_parts" = true) (k5 : PySem.W.keepIn K (.ref f5) = true)
    (a6 : PySem.W.nsIn K mainGlobals "inside_out" = some (some (.ref f6))) (l6 : K.lookup f6 = some ⟨oc6, od6, .func (PySem.W.fnOf "inside_out" "inside_out" (defArgs sInside) (defBody sInside) (defScope sInside) .none kV6 dc6 pm6 an6 cd6 ct6), sl6⟩) (c6 : PySem.W.codeIn K cd6 "inside_out" = true) (k6 : PySem.W.keepIn K (.ref f6) = true)
    (a7 : PySem.W.nsIn K mainGlobals "_text_of" = some (some (.ref f7))) (l7 : K.lookup f7 = some ⟨oc7, od7, .func (PySem.W.fnOf "_text_of" "_text_of" (defArgs sTextOf) (defBody sTextOf) (defScope sTextOf) .none kV7 dc7 pm7 an7 cd7 ct7), sl7⟩) (c7 : PySem.W.codeIn K cd7 "_text_of" = true) (k7 : PySem.W.keepIn K (.ref f7) = true)
    (a8 : PySem.W.nsIn K mainGlobals "fold" = some (some (.ref f8))) (l8 : K.lookup f8 = some ⟨oc8, od8, .func (PySem.W.fnOf "fold" "fold" (defArgs sFold) (defBody sFold) (defScope sFold) .none kV8 dc8 pm8 an8 cd8 ct8), sl8⟩) (c8 : PySem.W.codeIn K cd8 "fold" = true) (k8 : PySem.W.keepIn K (.ref f8) = true)
    (a9 : PySem.W.nsIn K mainGlobals "term_text" = some (some (.ref f9))) (l9 : K.lookup f9 = some ⟨oc9, od9, .func (PySem.W.fnOf "term_text" "term_text" (defArgs sTermText) (defBody sTermText) (defScope sTermText) .none kV9 dc9 pm9 an9 cd9 ct9), sl9⟩) (c9 : PySem.W.codeIn K cd9 "term_text" = true) (k9 : PySem.W.keepIn K (.ref f9) = true)
    (a10 : PySem.W.nsIn K mainGlobals "is_name" = some (some (.ref f10))) (l10 : K.lookup f10 = some ⟨oc10, od10, .func (PySem.W.fnOf "is_name" "is_name" (defArgs sIsName) (defBody sIsName) (defScope sIsName) .none kV10 dc10 pm10 an10 cd10 ct10), sl10⟩) (c10 : PySem.W.codeIn K cd10 "is_name" = true) (k10 : PySem.W.keepIn K (.ref f10) = true)
    (a11 : PySem.W.nsIn K mainGlobals "is_atom" = some (some (.ref f11))) (l11 : K.lookup f11 = some ⟨oc11, od11, .func (PySem.W.fnOf "is_atom" "is_atom" (defArgs sIsAtom) (defBody sIsAtom) (defScope sIsAtom) .none kV11 dc11 pm11 an11 cd11 ct11), sl11⟩) (c11 : PySem.W.codeIn K cd11 "is_atom" = true) (k11 : PySem.W.keepIn K (.ref f11) = true)
    (a12 : PySem.W.nsIn K mainGlobals "unlike" = some (some (.ref f12))) (l12 : K.lookup f12 = some ⟨oc12, od12, .func (PySem.W.fnOf "unlike" "unlike" (defArgs sUnlike) (defBody sUnlike) (defScope sUnlike) .none kV12 dc12 pm12 an12 cd12 ct12), sl12⟩) (c12 : PySem.W.codeIn K cd12 "unlike" = true) (k12 : PySem.W.keepIn K (.ref f12) = true)
    (a13 : PySem.W.nsIn K mainGlobals "is_saying" = some (some (.ref f13))) (l13 : K.lookup f13 = some ⟨oc13, od13, .func (PySem.W.fnOf "is_saying" "is_saying" (defArgs sIsSaying) (defBody sIsSaying) (defScope sIsSaying) .none kV13 dc13 pm13 an13 cd13 ct13), sl13⟩) (c13 : PySem.W.codeIn K cd13 "is_saying" = true) (k13 : PySem.W.keepIn K (.ref f13) = true)
    (a14 : PySem.W.nsIn K mainGlobals "_number_of" = some (some (.ref f14))) (l14 : K.lookup f14 = some ⟨oc14, od14, .func (PySem.W.fnOf "_number_of" "_number_of" (defArgs sNumberOf) (defBody sNumberOf) (defScope sNumberOf) .none kV14 dc14 pm14 an14 cd14 ct14), sl14⟩) (c14 : PySem.W.codeIn K cd14 "_number_of" = true) (k14 : PySem.W.keepIn K (.ref f14) = true)
    (a15 : PySem.W.nsIn K mainGlobals "_from_signs" = some (some (.ref f15))) (l15 : K.lookup f15 = some ⟨oc15, od15, .func (PySem.W.fnOf "_from_signs" "_from_signs" (defArgs sFromSigns) (defBody sFromSigns) (defScope sFromSigns) .none kV15 dc15 pm15 an15 cd15 ct15), sl15⟩) (c15 : PySem.W.codeIn K cd15 "_from_signs" = true) (k15 : PySem.W.keepIn K (.ref f15) = true)
    (a16 : PySem.W.nsIn K mainGlobals "term_or_none" = some (some (.ref f16))) (l16 : K.lookup f16 = some ⟨oc16, od16, .func (PySem.W.fnOf "term_or_none" "term_or_none" (defArgs sTermOrNone) (defBody sTermOrNone) (defScope sTermOrNone) .none kV16 dc16 pm16 an16 cd16 ct16), sl16⟩) (c16 : PySem.W.codeIn K cd16 "term_or_none" = true) (k16 : PySem.W.keepIn K (.ref f16) = true)
    (a17 : PySem.W.nsIn K mainGlobals "atom_text" = some (some (.ref f17))) (l17 : K.lookup f17 = some ⟨oc17, od17, .func (PySem.W.fnOf "atom_text" "atom_text" (defArgs sAtomText) (defBody sAtomText) (defScope sAtomText) .none kV17 dc17 pm17 an17 cd17 ct17), sl17⟩) (c17 : PySem.W.codeIn K cd17 "atom_text" = true) (k17 : PySem.W.keepIn K (.ref f17) = true)
    (a18 : PySem.W.nsIn K mainGlobals "atoms_text" = some (some (.ref f18))) (l18 : K.lookup f18 = some ⟨oc18, od18, .func (PySem.W.fnOf "atoms_text" "atoms_text" (defArgs sAtomsText) (defBody sAtomsText) (defScope sAtomsText) .none kV18 dc18 pm18 an18 cd18 ct18), sl18⟩) (c18 : PySem.W.codeIn K cd18 "atoms_text" = true) (k18 : PySem.W.keepIn K (.ref f18) = true)
    (a19 : PySem.W.nsIn K mainGlobals "saying_text" = some (some (.ref f19))) (l19 : K.lookup f19 = some ⟨oc19, od19, .func (PySem.W.fnOf "saying_text" "saying_text" (defArgs sSayingText) (defBody sSayingText) (defScope sSayingText) .none kV19 dc19 pm19 an19 cd19 ct19), sl19⟩) (c19 : PySem.W.codeIn K cd19 "saying_text" = true) (k19 : PySem.W.keepIn K (.ref f19) = true)
    (a20 : PySem.W.nsIn K mainGlobals "atom_or_none" = some (some (.ref f20))) (l20 : K.lookup f20 = some ⟨oc20, od20, .func (PySem.W.fnOf "atom_or_none" "atom_or_none" (defArgs sAtomOr) (defBody sAtomOr) (defScope sAtomOr) .none kV20 dc20 pm20 an20 cd20 ct20), sl20⟩) (c20 : PySem.W.codeIn K cd20 "atom_or_none" = true) (k20 : PySem.W.keepIn K (.ref f20) = true)
    (a21 : PySem.W.nsIn K mainGlobals "atoms_or_nones" = some (some (.ref f21))) (l21 : K.lookup f21 = some ⟨oc21, od21, .func (PySem.W.fnOf "atoms_or_nones" "atoms_or_nones" (defArgs sAtomsOr) (defBody sAtomsOr) (defScope sAtomsOr) .none kV21 dc21 pm21 an21 cd21 ct21), sl21⟩) (c21 : PySem.W.codeIn K cd21 "atoms_or_nones" = true) (k21 : PySem.W.keepIn K (.ref f21) = true)
    (a22 : PySem.W.nsIn K mainGlobals "saying_or_none" = some (some (.ref f22))) (l22 : K.lookup f22 = some ⟨oc22, od22, .func (PySem.W.fnOf "saying_or_none" "saying_or_none" (defArgs sSayingOr) (defBody sSayingOr) (defScope sSayingOr) .none kV22 dc22 pm22 an22 cd22 ct22), sl22⟩) (c22 : PySem.W.codeIn K cd22 "saying_or_none" = true) (k22 : PySem.W.keepIn K (.ref f22) = true)
    (a23 : PySem.W.nsIn K mainGlobals "_law_box" = some (some (.ref f23))) (l23 : K.lookup f23 = some ⟨oc23, od23, .func (PySem.W.fnOf "_law_box" "_law_box" (defArgs sBox) (defBody sBox) (defScope sBox) .none kV23 dc23 pm23 an23 cd23 ct23), sl23⟩) (c23 : PySem.W.codeIn K cd23 "_law_box" = true) (k23 : PySem.W.keepIn K (.ref f23) = true)
    (a24 : PySem.W.nsIn K mainGlobals "_law_take" = some (some (.ref f24))) (l24 : K.lookup f24 = some ⟨oc24, od24, .func (PySem.W.fnOf "_law_take" "_law_take" (defArgs sTake) (defBody sTake) (defScope sTake) .none kV24 dc24 pm24 an24 cd24 ct24), sl24⟩) (c24 : PySem.W.codeIn K cd24 "_law_take" = true) (k24 : PySem.W.keepIn K (.ref f24) = true)
    (a25 : PySem.W.nsIn K mainGlobals "_law_pick" = some (some (.ref f25))) (l25 : K.lookup f25 = some ⟨oc25, od25, .func (PySem.W.fnOf "_law_pick" "_law_pick" (defArgs sPick) (defBody sPick) (defScope sPick) .none kV25 dc25 pm25 an25 cd25 ct25), sl25⟩) (c25 : PySem.W.codeIn K cd25 "_law_pick" = true) (k25 : PySem.W.keepIn K (.ref f25) = true)
    (a26 : PySem.W.nsIn K mainGlobals "_law_same" = some (some (.ref f26))) (l26 : K.lookup f26 = some ⟨oc26, od26, .func (PySem.W.fnOf "_law_same" "_law_same" (defArgs sSame) (defBody sSame) (defScope sSame) .none kV26 dc26 pm26 an26 cd26 ct26), sl26⟩) (c26 : PySem.W.codeIn K cd26 "_law_same" = true) (k26 : PySem.W.keepIn K (.ref f26) = true)
    (a27 : PySem.W.nsIn K mainGlobals "_law_names" = some (some (.ref f27))) (l27 : K.lookup f27 = some ⟨oc27, od27, .func (PySem.W.fnOf "_law_names" "_law_names" (defArgs sNames) (defBody sNames) (defScope sNames) .none kV27 dc27 pm27 an27 cd27 ct27), sl27⟩) (c27 : PySem.W.codeIn K cd27 "_law_names" = true) (k27 : PySem.W.keepIn K (.ref f27) = true)
    (a28 : PySem.W.nsIn K mainGlobals "_law_term" = some (some (.ref f28))) (l28 : K.lookup f28 = some ⟨oc28, od28, .func (PySem.W.fnOf "_law_term" "_law_term" (defArgs sTermL) (defBody sTermL) (defScope sTermL) .none kV28 dc28 pm28 an28 cd28 ct28), sl28⟩) (c28 : PySem.W.codeIn K cd28 "_law_term" = true) (k28 : PySem.W.keepIn K (.ref f28) = true)
    (a29 : PySem.W.nsIn K mainGlobals "_law_unlike" = some (some (.ref f29))) (l29 : K.lookup f29 = some ⟨oc29, od29, .func (PySem.W.fnOf "_law_unlike" "_law_unlike" (defArgs sUnlikeL) (defBody sUnlikeL) (defScope sUnlikeL) .none kV29 dc29 pm29 an29 cd29 ct29), sl29⟩) (c29 : PySem.W.codeIn K cd29 "_law_unlike" = true) (k29 : PySem.W.keepIn K (.ref f29) = true)
    (a30 : PySem.W.nsIn K mainGlobals "_law_shapes" = some (some (.ref f30))) (l30 : K.lookup f30 = some ⟨oc30, od30, .func (PySem.W.fnOf "_law_shapes" "_law_shapes" (defArgs sShapes) (defBody sShapes) (defScope sShapes) .none kV30 dc30 pm30 an30 cd30 ct30), sl30⟩) (c30 : PySem.W.codeIn K cd30 "_law_shapes" = true) (k30 : PySem.W.keepIn K (.ref f30) = true)
    (a31 : PySem.W.nsIn K mainGlobals "_law_base" = some (some (.ref f31))) (l31 : K.lookup f31 = some ⟨oc31, od31, .func (PySem.W.fnOf "_law_base" "_law_base" (defArgs sBaseL) (defBody sBaseL) (defScope sBaseL) .none kV31 dc31 pm31 an31 cd31 ct31), sl31⟩) (c31 : PySem.W.codeIn K cd31 "_law_base" = true) (k31 : PySem.W.keepIn K (.ref f31) = true)
    (a32 : PySem.W.nsIn K mainGlobals "_law_rule" = some (some (.ref f32))) (l32 : K.lookup f32 = some ⟨oc32, od32, .func (PySem.W.fnOf "_law_rule" "_law_rule" (defArgs sRuleL) (defBody sRuleL) (defScope sRuleL) .none kV32 dc32 pm32 an32 cd32 ct32), sl32⟩) (c32 : PySem.W.codeIn K cd32 "_law_rule" = true) (k32 : PySem.W.keepIn K (.ref f32) = true)
    (a33 : PySem.W.nsIn K mainGlobals "_law_rules" = some (some (.ref f33))) (l33 : K.lookup f33 = some ⟨oc33, od33, .func (PySem.W.fnOf "_law_rules" "_law_rules" (defArgs sRulesL) (defBody sRulesL) (defScope sRulesL) .none kV33 dc33 pm33 an33 cd33 ct33), sl33⟩) (c33 : PySem.W.codeIn K cd33 "_law_rules" = true) (k33 : PySem.W.keepIn K (.ref f33) = true)
    (a34 : PySem.W.nsIn K mainGlobals "_law_atom" = some (some (.ref f34))) (l34 : K.lookup f34 = some ⟨oc34, od34, .func (PySem.W.fnOf "_law_atom" "_law_atom" (defArgs sAtomL) (defBody sAtomL) (defScope sAtomL) .none kV34 dc34 pm34 an34 cd34 ct34), sl34⟩) (c34 : PySem.W.codeIn K cd34 "_law_atom" = true) (k34 : PySem.W.keepIn K (.ref f34) = true)
    (a35 : PySem.W.nsIn K mainGlobals "_law_saying" = some (some (.ref f35))) (l35 : K.lookup f35 = some ⟨oc35, od35, .func (PySem.W.fnOf "_law_saying" "_law_saying" (defArgs sSayingL) (defBody sSayingL) (defScope sSayingL) .none kV35 dc35 pm35 an35 cd35 ct35), sl35⟩) (c35 : PySem.W.codeIn K cd35 "_law_saying" = true) (k35 : PySem.W.keepIn K (.ref f35) = true)
    (a36 : PySem.W.nsIn K mainGlobals "_law_begin" = some (some (.ref f36))) (l36 : K.lookup f36 = some ⟨oc36, od36, .func (PySem.W.fnOf "_law_begin" "_law_begin" (defArgs sBegin) (defBody sBegin) (defScope sBegin) .none kV36 dc36 pm36 an36 cd36 ct36), sl36⟩) (c36 : PySem.W.codeIn K cd36 "_law_begin" = true) (k36 : PySem.W.keepIn K (.ref f36) = true)
    (a37 : PySem.W.nsIn K mainGlobals "_law_term_words" = some (some (.ref f37))) (l37 : K.lookup f37 = some ⟨oc37, od37, .func (PySem.W.fnOf "_law_term_words" "_law_term_words" (defArgs sText) (defBody sText) (defScope sText) .none kV37 dc37 pm37 an37 cd37 ct37), sl37⟩) (c37 : PySem.W.codeIn K cd37 "_law_term_words" = true) (k37 : PySem.W.keepIn K (.ref f37) = true)
    (a38 : PySem.W.nsIn K mainGlobals "_law_atom_words" = some (some (.ref f38))) (l38 : K.lookup f38 = some ⟨oc38, od38, .func (PySem.W.fnOf "_law_atom_words" "_law_atom_words" (defArgs sLawAT) (defBody sLawAT) (defScope sLawAT) .none kV38 dc38 pm38 an38 cd38 ct38), sl38⟩) (c38 : PySem.W.codeIn K cd38 "_law_atom_words" = true) (k38 : PySem.W.keepIn K (.ref f38) = true)
    (a39 : PySem.W.nsIn K mainGlobals "_law_saying_words" = some (some (.ref f39))) (l39 : K.lookup f39 = some ⟨oc39, od39, .func (PySem.W.fnOf "_law_saying_words" "_law_saying_words" (defArgs sSayingW) (defBody sSayingW) (defScope sSayingW) .none kV39 dc39 pm39 an39 cd39 ct39), sl39⟩) (c39 : PySem.W.codeIn K cd39 "_law_saying_words" = true) (k39 : PySem.W.keepIn K (.ref f39) = true)
    (a40 : PySem.W.nsIn K mainGlobals "_law_is_word" = some (some (.ref f40))) (l40 : K.lookup f40 = some ⟨oc40, od40, .func (PySem.W.fnOf "_law_is_word" "_law_is_word" (defArgs sLawWord) (defBody sLawWord) (defScope sLawWord) .none kV40 dc40 pm40 an40 cd40 ct40), sl40⟩) (c40 : PySem.W.codeIn K cd40 "_law_is_word" = true) (k40 : PySem.W.keepIn K (.ref f40) = true)
    (a41 : PySem.W.nsIn K mainGlobals "_law_number_in" = some (some (.ref f41))) (l41 : K.lookup f41 = some ⟨oc41, od41, .func (PySem.W.fnOf "_law_number_in" "_law_number_in" (defArgs sLawNum) (defBody sLawNum) (defScope sLawNum) .none kV41 dc41 pm41 an41 cd41 ct41), sl41⟩) (c41 : PySem.W.codeIn K cd41 "_law_number_in" = true) (k41 : PySem.W.keepIn K (.ref f41) = true)
    (a42 : PySem.W.nsIn K mainGlobals "_law_term_in" = some (some (.ref f42))) (l42 : K.lookup f42 = some ⟨oc42, od42, .func (PySem.W.fnOf "_law_term_in" "_law_term_in" (defArgs sLawTermIn) (defBody sLawTermIn) (defScope sLawTermIn) .none kV42 dc42 pm42 an42 cd42 ct42), sl42⟩) (c42 : PySem.W.codeIn K cd42 "_law_term_in" = true) (k42 : PySem.W.keepIn K (.ref f42) = true)
    (a43 : PySem.W.nsIn K mainGlobals "_law_whole_term" = some (some (.ref f43))) (l43 : K.lookup f43 = some ⟨oc43, od43, .func (PySem.W.fnOf "_law_whole_term" "_law_whole_term" (defArgs sLawWhole) (defBody sLawWhole) (defScope sLawWhole) .none kV43 dc43 pm43 an43 cd43 ct43), sl43⟩) (c43 : PySem.W.codeIn K cd43 "_law_whole_term" = true) (k43 : PySem.W.keepIn K (.ref f43) = true)
    (a44 : PySem.W.nsIn K mainGlobals "_law_atom_in" = some (some (.ref f44))) (l44 : K.lookup f44 = some ⟨oc44, od44, .func (PySem.W.fnOf "_law_atom_in" "_law_atom_in" (defArgs sLawAtomIn) (defBody sLawAtomIn) (defScope sLawAtomIn) .none kV44 dc44 pm44 an44 cd44 ct44), sl44⟩) (c44 : PySem.W.codeIn K cd44 "_law_atom_in" = true) (k44 : PySem.W.keepIn K (.ref f44) = true)
    (a45 : PySem.W.nsIn K mainGlobals "_law_saying_in" = some (some (.ref f45))) (l45 : K.lookup f45 = some ⟨oc45, od45, .func (PySem.W.fnOf "_law_saying_in" "_law_saying_in" (defArgs sLawSyIn) (defBody sLawSyIn) (defScope sLawSyIn) .none kV45 dc45 pm45 an45 cd45 ct45), sl45⟩) (c45 : PySem.W.codeIn K cd45 "_law_saying_in" = true) (k45 : PySem.W.keepIn K (.ref f45) = true)
    (a46 : PySem.W.nsIn K mainGlobals "_law_sign" = some (some (.ref f46))) (l46 : K.lookup f46 = some ⟨oc46, od46, .func (PySem.W.fnOf "_law_sign" "_law_sign" (defArgs sLawSign) (defBody sLawSign) (defScope sLawSign) .none kV46 dc46 pm46 an46 cd46 ct46), sl46⟩) (c46 : PySem.W.codeIn K cd46 "_law_sign" = true) (k46 : PySem.W.keepIn K (.ref f46) = true)
    (a47 : PySem.W.nsIn K mainGlobals "_law_bent_text" = some (some (.ref f47))) (l47 : K.lookup f47 = some ⟨oc47, od47, .func (PySem.W.fnOf "_law_bent_text" "_law_bent_text" (defArgs sLawBentT) (defBody sLawBentT) (defScope sLawBentT) .none kV47 dc47 pm47 an47 cd47 ct47), sl47⟩) (c47 : PySem.W.codeIn K cd47 "_law_bent_text" = true) (k47 : PySem.W.keepIn K (.ref f47) = true)
    (a48 : PySem.W.nsIn K mainGlobals "_law_told" = some (some (.ref f48))) (l48 : K.lookup f48 = some ⟨oc48, od48, .func (PySem.W.fnOf "_law_told" "_law_told" (defArgs sLawTold) (defBody sLawTold) (defScope sLawTold) .none kV48 dc48 pm48 an48 cd48 ct48), sl48⟩) (c48 : PySem.W.codeIn K cd48 "_law_told" = true) (k48 : PySem.W.keepIn K (.ref f48) = true)
    (a49 : PySem.W.nsIn K mainGlobals "saying_in" = some (some (.ref f49))) (l49 : K.lookup f49 = some ⟨oc49, od49, .func (PySem.W.fnOf "saying_in" "saying_in" (defArgs sSayingIn) (defBody sSayingIn) (defScope sSayingIn) .none kV49 dc49 pm49 an49 cd49 ct49), sl49⟩) (c49 : PySem.W.codeIn K cd49 "saying_in" = true) (k49 : PySem.W.keepIn K (.ref f49) = true)
    (a50 : PySem.W.nsIn K mainGlobals "law" = some (some (.ref f50))) (l50 : K.lookup f50 = some ⟨oc50, od50, .func (PySem.W.fnOf "law" "law" (defArgs sLaw) (defBody sLaw) (defScope sLaw) .none kV50 dc50 pm50 an50 cd50 ct50), sl50⟩) (c50 : PySem.W.codeIn K cd50 "law" = true) (k50 : PySem.W.keepIn K (.ref f50) = true)
    (z1 : PySem.W.nsIn K mainGlobals "isinstance" = some none)
    (z2 : PySem.W.nsIn K mainGlobals "int" = some none)
    (z3 : PySem.W.nsIn K mainGlobals "len" = some none)
    (z4 : PySem.W.nsIn K mainGlobals "tuple" = some none)
    (z5 : PySem.W.nsIn K mainGlobals "reversed" = some none)
    (z6 : PySem.W.nsIn K mainGlobals "abs" = some none)
    (z7 : PySem.W.nsIn K mainGlobals "range" = some none)
    (z8 : PySem.W.nsIn K mainGlobals "dict" = some none)
    (z9 : PySem.W.nsIn K mainGlobals "ValueError" = some none)
    (z10 : PySem.W.nsIn K mainGlobals "max" = some none)
    (z11 : PySem.W.nsIn K mainGlobals "min" = some none)
    (z12 : PySem.W.nsIn K mainGlobals "str" = some none)
    (z13 : PySem.W.nsIn K mainGlobals "list" = some none)
    (z14 : PySem.W.nsIn K mainGlobals "all" = some none)
    (z15 : PySem.W.nsIn K mainGlobals "zip" = some none)
    (z16 : PySem.W.nsIn K mainGlobals "bool" = some none)
    (xS : PySem.W.nsIn K mainGlobals "SHAPES" = some (some (.ref fS)))
    (xL : K.lookup fS = some ⟨.type "tuple", odS, .seq #[.ref s1, .ref s2, .ref s3] nS, slS⟩)
    (x1 : K.lookup s1 = some ⟨.type "tuple", od1_, .seq #[.str "0" t1, .int 1 t2] n1_, sl1_⟩)
    (x2 : K.lookup s2 = some ⟨.type "tuple", od2_, .seq #[.str "s" t3, .int 2 t4] n2_, sl2_⟩)
    (x3 : K.lookup s3 = some ⟨.type "tuple", od3_, .seq #[.str "f" t5, .int 3 t6] n3_, sl3_⟩)
    (xc0 : PySem.W.nsIn K mainGlobals "LAST_VARIABLE" = some (some (.int 99 tc0)))
    (xc1 : PySem.W.nsIn K mainGlobals "LETTERS" = some (some (.str "abcdefghijklmnopqrstuvwxyz" tc1)))
    (xc2 : PySem.W.nsIn K mainGlobals "MOST_LETTERS" = some (some (.int 6 tc2)))
    (xc3 : PySem.W.nsIn K mainGlobals "MOST_HYPS" = some (some (.int 6 tc3)))
    (xc4 : PySem.W.nsIn K mainGlobals "MOST_SIGNS" = some (some (.int 200 tc4)))
    (xc5 : PySem.W.nsIn K mainGlobals "BARE" = some (some (.str "|- " tc5)))
    (xc6 : PySem.W.nsIn K mainGlobals "PARTING" = some (some (.str " |- " tc6)))
    (xnCE : PySem.W.nsIn K mainGlobals "RingError" = some (some (.ref CE)))
    (xnCB : PySem.W.nsIn K mainGlobals "BadText" = some (some (.ref CB)))
    (xnCR : PySem.W.nsIn K mainGlobals "BadRow" = some (some (.ref CR)))
    (xnCS : PySem.W.nsIn K mainGlobals "BadStep" = some (some (.ref CS)))
    (xaXi : PySem.W.findIn K (.ref CE) "__init__" = some (some (.ref fXi)))
    (xlXi : K.lookup fXi = some ⟨ocXi, odXi, .func (PySem.W.fnOf "__init__" "RingError.__init__" (defArgs sErrI) (defBody sErrI) (defScope sErrI) .none kVXi dcXi pmXi anXi cdXi ctXi), slXi⟩)
    (xcXi : PySem.W.codeIn K cdXi "RingError.__init__" = true)
    (xkXi : PySem.W.keepIn K (.ref fXi) = true)
    (xty : PySem.W.typeIn K (.ref fXi) = some (.type "function"))
    (xvV : PySem.W.findCls K (.type "ValueError") (.type "type") "__init__" = some (.val (.builtin "ValueError.__init__")))
    (xK : klsB K fXi CB = true)
    (xE : (decide (PySem.W.exmOne K (.ref CB) (.ref CE) = some true) && (decide (PySem.W.kitOne K (.ref CB) (.ref CB) = some true) && (decide (PySem.W.kitOne K (.ref CB) (.type "ValueError") = some true) && decide (PySem.W.kitAny K (.ref CB) [.ref CR, .ref CS] = some false)))) = true)
    : ∃ fd : FuncData, (∀ (s : Shared) (v : Value), BindsTo s fd ⟨[v], []⟩ [("_law_script", v)]) ∧ ∀ base : Heap, K.In base → base.Ns mainGlobals mg → GnOk l.prog w K mg base 65 fa fd ["_law_script"] (spLaw K) := by
  have e := hfa.symm.trans (PySem.W.mg_of X G a50)
  cases e
  have F1 := fun_mk (st := sNumber) l1 c1 k1
  have b1 := F1.binds (ps := ["thing"]) fun _ _ _ _ _ _ us hl => match us, hl with | [_], _ => rfl
  have m1 := PySem.W.mg_of X G a1
  have F2 := fun_mk (st := sVariable) l2 c2 k2
  have b2 := F2.binds (ps := ["thing"]) fun _ _ _ _ _ _ us hl => match us, hl with | [_], _ => rfl
  have m2 := PySem.W.mg_of X G a2
  have F3 := fun_mk (st := sShape) l3 c3 k3
  have b3 := F3.binds (ps := ["thing"]) fun _ _ _ _ _ _ us hl => match us, hl with | [_], _ => rfl
  have m3 := PySem.W.mg_of X G a3
  have F4 := fun_mk (st := sTerm) l4 c4 k4
  have b4 := F4.binds (ps := ["thing"]) fun _ _ _ _ _ _ us hl => match us, hl with | [_], _ => rfl
  have m4 := PySem.W.mg_of X G a4
  have F5 := fun_mk (st := sParts) l5 c5 k5
  have b5 := F5.binds (ps := ["term"]) fun _ _ _ _ _ _ us hl => match us, hl with | [_], _ => rfl
  have m5 := PySem.W.mg_of X G a5
  have F6 := fun_mk (st := sInside) l6 c6 k6
  have b6 := F6.binds (ps := ["term"]) fun _ _ _ _ _ _ us hl => match us, hl with | [_], _ => rfl
  have m6 := PySem.W.mg_of X G a6
  have F7 := fun_mk (st := sTextOf) l7 c7 k7
  have b7 := F7.binds (ps := ["part", "texts"]) fun _ _ _ _ _ _ us hl => match us, hl with | [_, _], _ => rfl
  have m7 := PySem.W.mg_of X G a7
  have F8 := fun_mk (st := sFold) l8 c8 k8
  have b8 := F8.binds (ps := ["term", "made_of"]) fun _ _ _ _ _ _ us hl => match us, hl with | [_, _], _ => rfl
  have m8 := PySem.W.mg_of X G a8
  have F9 := fun_mk (st := sTermText) l9 c9 k9
  have b9 := F9.binds (ps := ["term"]) fun _ _ _ _ _ _ us hl => match us, hl with | [_], _ => rfl
  have m9 := PySem.W.mg_of X G a9
  have F10 := fun_mk (st := sIsName) l10 c10 k10
  have b10 := F10.binds (ps := ["thing"]) fun _ _ _ _ _ _ us hl => match us, hl with | [_], _ => rfl
  have m10 := PySem.W.mg_of X G a10
  have F11 := fun_mk (st := sIsAtom) l11 c11 k11
  have b11 := F11.binds (ps := ["thing"]) fun _ _ _ _ _ _ us hl => match us, hl with | [_], _ => rfl
  have m11 := PySem.W.mg_of X G a11
  have F12 := fun_mk (st := sUnlike) l12 c12 k12
  have b12 := F12.binds (ps := ["atoms"]) fun _ _ _ _ _ _ us hl => match us, hl with | [_], _ => rfl
  have m12 := PySem.W.mg_of X G a12
  have F13 := fun_mk (st := sIsSaying) l13 c13 k13
  have b13 := F13.binds (ps := ["thing"]) fun _ _ _ _ _ _ us hl => match us, hl with | [_], _ => rfl
  have m13 := PySem.W.mg_of X G a13
  have F14 := fun_mk (st := sNumberOf) l14 c14 k14
  have b14 := F14.binds (ps := ["sign"]) fun _ _ _ _ _ _ us hl => match us, hl with | [_], _ => rfl
  have m14 := PySem.W.mg_of X G a14
  have F15 := fun_mk (st := sFromSigns) l15 c15 k15
  have b15 := F15.binds (ps := ["signs"]) fun _ _ _ _ _ _ us hl => match us, hl with | [_], _ => rfl
  have m15 := PySem.W.mg_of X G a15
  have F16 := fun_mk (st := sTermOrNone) l16 c16 k16
  have b16 := F16.binds (ps := ["text"]) fun _ _ _ _ _ _ us hl => match us, hl with | [_], _ => rfl
  have m16 := PySem.W.mg_of X G a16
  have F17 := fun_mk (st := sAtomText) l17 c17 k17
  have b17 := F17.binds (ps := ["atom"]) fun _ _ _ _ _ _ us hl => match us, hl with | [_], _ => rfl
  have m17 := PySem.W.mg_of X G a17
  have F18 := fun_mk (st := sAtomsText) l18 c18 k18
  have b18 := F18.binds (ps := ["atoms"]) fun _ _ _ _ _ _ us hl => match us, hl with | [_], _ => rfl
  have m18 := PySem.W.mg_of X G a18
  have F19 := fun_mk (st := sSayingText) l19 c19 k19
  have b19 := F19.binds (ps := ["saying"]) fun _ _ _ _ _ _ us hl => match us, hl with | [_], _ => rfl
  have m19 := PySem.W.mg_of X G a19
  have F20 := fun_mk (st := sAtomOr) l20 c20 k20
  have b20 := F20.binds (ps := ["text"]) fun _ _ _ _ _ _ us hl => match us, hl with | [_], _ => rfl
  have m20 := PySem.W.mg_of X G a20
  have F21 := fun_mk (st := sAtomsOr) l21 c21 k21
  have b21 := F21.binds (ps := ["text"]) fun _ _ _ _ _ _ us hl => match us, hl with | [_], _ => rfl
  have m21 := PySem.W.mg_of X G a21
  have F22 := fun_mk (st := sSayingOr) l22 c22 k22
  have b22 := F22.binds (ps := ["text"]) fun _ _ _ _ _ _ us hl => match us, hl with | [_], _ => rfl
  have m22 := PySem.W.mg_of X G a22
  have F23 := fun_mk (st := sBox) l23 c23 k23
  have b23 := F23.binds (ps := ["_law_script", "_law_k"]) fun _ _ _ _ _ _ us hl => match us, hl with | [_, _], _ => rfl
  have m23 := PySem.W.mg_of X G a23
  have F24 := fun_mk (st := sTake) l24 c24 k24
  have b24 := F24.binds (ps := ["_law_box_here", "_law_reach"]) fun _ _ _ _ _ _ us hl => match us, hl with | [_, _], _ => rfl
  have m24 := PySem.W.mg_of X G a24
  have F25 := fun_mk (st := sPick) l25 c25 k25
  have b25 := F25.binds (ps := ["_law_box_here", "_law_things"]) fun _ _ _ _ _ _ us hl => match us, hl with | [_, _], _ => rfl
  have m25 := PySem.W.mg_of X G a25
  have F26 := fun_mk (st := sSame) l26 c26 k26
  have b26 := F26.binds (ps := ["_law_found", "_law_due"]) fun _ _ _ _ _ _ us hl => match us, hl with | [_, _], _ => rfl
  have m26 := PySem.W.mg_of X G a26
  have F27 := fun_mk (st := sNames) l27 c27 k27
  have b27 := F27.binds (ps := ["_law_box_here", "_law_count"]) fun _ _ _ _ _ _ us hl => match us, hl with | [_, _], _ => rfl
  have m27 := PySem.W.mg_of X G a27
  have F28 := fun_mk (st := sTermL) l28 c28 k28
  have b28 := F28.binds (ps := ["_law_box_here", "_law_pool", "_law_deep"]) fun _ _ _ _ _ _ us hl => match us, hl with | [_, _, _], _ => rfl
  have m28 := PySem.W.mg_of X G a28
  have F29 := fun_mk (st := sUnlikeL) l29 c29 k29
  have b29 := F29.binds (ps := ["_law_atoms"]) fun _ _ _ _ _ _ us hl => match us, hl with | [_], _ => rfl
  have m29 := PySem.W.mg_of X G a29
  have F30 := fun_mk (st := sShapes) l30 c30 k30
  have b30 := F30.binds (ps := ["_law_box_here", "_law_names_here"]) fun _ _ _ _ _ _ us hl => match us, hl with | [_, _], _ => rfl
  have m30 := PySem.W.mg_of X G a30
  have F31 := fun_mk (st := sBaseL) l31 c31 k31
  have b31 := F31.binds (ps := ["_law_shapes_here", "_law_word"]) fun _ _ _ _ _ _ us hl => match us, hl with | [_, _], _ => rfl
  have m31 := PySem.W.mg_of X G a31
  have F32 := fun_mk (st := sRuleL) l32 c32 k32
  have b32 := F32.binds (ps := ["_law_box_here", "_law_shapes_here", "_law_names_here"]) fun _ _ _ _ _ _ us hl => match us, hl with | [_, _, _], _ => rfl
  have m32 := PySem.W.mg_of X G a32
  have F33 := fun_mk (st := sRulesL) l33 c33 k33
  have b33 := F33.binds (ps := ["_law_box_here", "_law_shapes_here", "_law_names_here", "_law_count"]) fun _ _ _ _ _ _ us hl => match us, hl with | [_, _, _, _], _ => rfl
  have m33 := PySem.W.mg_of X G a33
  have F34 := fun_mk (st := sAtomL) l34 c34 k34
  have b34 := F34.binds (ps := ["_law_box_here", "_law_shapes_here", "_law_names_here", "_law_pool", "_law_deep"]) fun _ _ _ _ _ _ us hl => match us, hl with | [_, _, _, _, _], _ => rfl
  have m34 := PySem.W.mg_of X G a34
  have F35 := fun_mk (st := sSayingL) l35 c35 k35
  have b35 := F35.binds (ps := ["_law_box_here", "_law_shapes_here", "_law_names_here", "_law_pool", "_law_count"]) fun _ _ _ _ _ _ us hl => match us, hl with | [_, _, _, _, _], _ => rfl
  have m35 := PySem.W.mg_of X G a35
  have F36 := fun_mk (st := sBegin) l36 c36 k36
  have b36 := F36.binds (ps := ["_law_box_here", "_law_count"]) fun _ _ _ _ _ _ us hl => match us, hl with | [_, _], _ => rfl
  have m36 := PySem.W.mg_of X G a36
  have F37 := fun_mk (st := sText) l37 c37 k37
  have b37 := F37.binds (ps := ["_law_term_here"]) fun _ _ _ _ _ _ us hl => match us, hl with | [_], _ => rfl
  have m37 := PySem.W.mg_of X G a37
  have F38 := fun_mk (st := sLawAT) l38 c38 k38
  have b38 := F38.binds (ps := ["_law_atom_here"]) fun _ _ _ _ _ _ us hl => match us, hl with | [_], _ => rfl
  have m38 := PySem.W.mg_of X G a38
  have F39 := fun_mk (st := sSayingW) l39 c39 k39
  have b39 := F39.binds (ps := ["_law_saying_here"]) fun _ _ _ _ _ _ us hl => match us, hl with | [_], _ => rfl
  have m39 := PySem.W.mg_of X G a39
  have F40 := fun_mk (st := sLawWord) l40 c40 k40
  have b40 := F40.binds (ps := ["_law_thing"]) fun _ _ _ _ _ _ us hl => match us, hl with | [_], _ => rfl
  have m40 := PySem.W.mg_of X G a40
  have F41 := fun_mk (st := sLawNum) l41 c41 k41
  have b41 := F41.binds (ps := ["_law_text"]) fun _ _ _ _ _ _ us hl => match us, hl with | [_], _ => rfl
  have m41 := PySem.W.mg_of X G a41
  have F42 := fun_mk (st := sLawTermIn) l42 c42 k42
  have b42 := F42.binds (ps := ["_law_text", "_law_at"]) fun _ _ _ _ _ _ us hl => match us, hl with | [_, _], _ => rfl
  have m42 := PySem.W.mg_of X G a42
  have F43 := fun_mk (st := sLawWhole) l43 c43 k43
  have b43 := F43.binds (ps := ["_law_text"]) fun _ _ _ _ _ _ us hl => match us, hl with | [_], _ => rfl
  have m43 := PySem.W.mg_of X G a43
  have F44 := fun_mk (st := sLawAtomIn) l44 c44 k44
  have b44 := F44.binds (ps := ["_law_text"]) fun _ _ _ _ _ _ us hl => match us, hl with | [_], _ => rfl
  have m44 := PySem.W.mg_of X G a44
  have F45 := fun_mk (st := sLawSyIn) l45 c45 k45
  have b45 := F45.binds (ps := ["_law_text"]) fun _ _ _ _ _ _ us hl => match us, hl with | [_], _ => rfl
  have m45 := PySem.W.mg_of X G a45
  have F46 := fun_mk (st := sLawSign) l46 c46 k46
  have b46 := F46.binds (ps := ["_law_box_here"]) fun _ _ _ _ _ _ us hl => match us, hl with | [_], _ => rfl
  have m46 := PySem.W.mg_of X G a46
  have F47 := fun_mk (st := sLawBentT) l47 c47 k47
  have b47 := F47.binds (ps := ["_law_box_here", "_law_text"]) fun _ _ _ _ _ _ us hl => match us, hl with | [_, _], _ => rfl
  have m47 := PySem.W.mg_of X G a47
  have F48 := fun_mk (st := sLawTold) l48 c48 k48
  have b48 := F48.binds (ps := ["_law_text"]) fun _ _ _ _ _ _ us hl => match us, hl with | [_], _ => rfl
  have m48 := PySem.W.mg_of X G a48
  have F49 := fun_mk (st := sSayingIn) l49 c49 k49
  have b49 := F49.binds (ps := ["text"]) fun _ _ _ _ _ _ us hl => match us, hl with | [_], _ => rfl
  have m49 := PySem.W.mg_of X G a49
  have F50 := fun_mk (st := sLaw) l50 c50 k50
  have y1 := PySem.W.mg_none_of X G z1
  have y2 := PySem.W.mg_none_of X G z2
  have y3 := PySem.W.mg_none_of X G z3
  have y4 := PySem.W.mg_none_of X G z4
  have y5 := PySem.W.mg_none_of X G z5
  have y6 := PySem.W.mg_none_of X G z6
  have y7 := PySem.W.mg_none_of X G z7
  have y8 := PySem.W.mg_none_of X G z8
  have y9 := PySem.W.mg_none_of X G z9
  have y10 := PySem.W.mg_none_of X G z10
  have y11 := PySem.W.mg_none_of X G z11
  have y12 := PySem.W.mg_none_of X G z12
  have y13 := PySem.W.mg_none_of X G z13
  have y14 := PySem.W.mg_none_of X G z14
  have y15 := PySem.W.mg_none_of X G z15
  have y16 := PySem.W.mg_none_of X G z16
  refine ⟨PySem.W.fnOf "law" "law" (defArgs sLaw) (defBody sLaw) (defScope sLaw) .none kV50 dc50 pm50 an50 cd50 ct50, fun s v => .of_eq rfl, fun base _ _ => ?_⟩
  have c0 : ∀ H, SqT K H fS [V.ref s1, .ref s2, .ref s3] := fun H => .inr ⟨_, _, _, xL, rfl, rfl, (by show 3 ≤ sizeLine; decide), .cons rfl (.cons rfl (.cons rfl .nil))⟩
  have c1 : ∀ H, SqT K H s1 [V.str "0", .int 1] := fun H => .inr ⟨_, _, _, x1, rfl, rfl, (by show 2 ≤ sizeLine; decide), .cons ⟨_, rfl⟩ (.cons ⟨_, rfl⟩ .nil)⟩
  have c2 : ∀ H, SqT K H s2 [V.str "s", .int 2] := fun H => .inr ⟨_, _, _, x2, rfl, rfl, (by show 2 ≤ sizeLine; decide), .cons ⟨_, rfl⟩ (.cons ⟨_, rfl⟩ .nil)⟩
  have c3 : ∀ H, SqT K H s3 [V.str "f", .int 3] := fun H => .inr ⟨_, _, _, x3, rfl, rfl, (by show 2 ≤ sizeLine; decide), .cons ⟨_, rfl⟩ (.cons ⟨_, rfl⟩ .nil)⟩
  have hS : ∀ H, Dp K H (.ref fS) shapesD := fun H =>
    .tup (c0 H) (.cons (.tup (c1 H) (.cons (.str _) (.cons (.int _) .nil))) (.cons (.tup (c2 H) (.cons (.str _) (.cons (.int _) .nil))) (.cons (.tup (c3 H) (.cons (.str _) (.cons (.int _) .nil))) .nil)))
  obtain ⟨e1, xE⟩ := Bool.and_eq_true_iff.mp xE
  obtain ⟨e3, xE⟩ := Bool.and_eq_true_iff.mp xE
  obtain ⟨e4, e5⟩ := Bool.and_eq_true_iff.mp xE
  obtain ⟨kOex, kIni, kWh, kExc, kXf⟩ := klsB_ok xK
  have EK : ErrK K fXi CB := ⟨kOex, kIni, xty, kWh⟩
  have EG : ErrG K mg CE CB CR CS := ⟨(PySem.W.mg_of X G xnCE), (PySem.W.mg_of X G xnCB), (PySem.W.mg_of X G xnCR), (PySem.W.mg_of X G xnCS), of_decide_eq_true e1, of_decide_eq_true e3, of_decide_eq_true e4, of_decide_eq_true e5, kExc, kXf, kWh⟩
  have FXi := fun_mk (st := sErrI) xlXi xcXi xkXi
  have bXi := FXi.binds (ps := ["self", "what"]) fun _ _ _ _ _ _ us hl => match us, hl with | [_, _], _ => rfl
  have GXi := ok_xinit (P := l.prog) (w := w) (mg := mg) (base := base) FXi y9 xvV
  have EB : ErrB l.prog w K mg base CE CB CR CS := ⟨EG, fXi, _, EK, GXi, bXi⟩
  have M : SameG mg := ⟨y1, y13, y4, y3, y14, y15, y12, y2, y16⟩
  have G1_ := ok_number (P := l.prog) (w := w) (mg := mg) (base := base) F1 M
  have G2_ := ok_variable (P := l.prog) (w := w) (mg := mg) (base := base) F2 G1_ k1 b1 m1 (PySem.W.mg_of X G xc0)
  have G3_ := ok_shape (P := l.prog) (w := w) (mg := mg) (base := base) F3 M (PySem.W.mg_of X G xS) hS
  have G4_ := ok_term (P := l.prog) (w := w) (mg := mg) (base := base) F4 G3_ k3 b3 m3 G2_ k2 b2 m2
  have G5_ := ok_parts (P := l.prog) (w := w) (mg := mg) (base := base) F5 y1 y2
  have G6_ := ok_inside (P := l.prog) (w := w) (mg := mg) (base := base) F6 F5 b5 m5 y1 y2
  have G7_ := ok_textof (P := l.prog) (w := w) (mg := mg) (base := base) F7 y1 y2
  have G8_ := ok_fold (P := l.prog) (w := w) (mg := mg) (base := base) F8 G6_ k6 b6 m6 G5_ k5 b5 m5 G7_ k7 b7 y3
  have G9_ := ok_termtext (P := l.prog) (w := w) (mg := mg) (base := base) F9 G8_ k8 b8 m8 m7
  have G10_ := ok_isnm (P := l.prog) (w := w) (mg := mg) (base := base) F10 M (PySem.W.mg_of X G xc1) (PySem.W.mg_of X G xc2)
  have G11_ := ok_isam (P := l.prog) (w := w) (mg := mg) (base := base) F11 G10_ k10 b10 m10 G4_ k4 b4 m4 M
  have G12_ := ok_unl (P := l.prog) (w := w) (mg := mg) (base := base) F12 y4
  have G13_ := ok_issy (P := l.prog) (w := w) (mg := mg) (base := base) F13 G11_ k11 b11 m11 G12_ k12 b12 m12 (PySem.W.mg_of X G xc3) M
  have G14_ := ok_numg (P := l.prog) (w := w) (mg := mg) (base := base) F14 y3 y2
  have G15_ := ok_fromg (P := l.prog) (w := w) (mg := mg) (base := base) F15 G14_ k14 b14 m14 y3 y5
  have G16_ := ok_termg (P := l.prog) (w := w) (mg := mg) (base := base) F16 G15_ k15 b15 m15 G9_ k9 b9 m9 y3 (PySem.W.mg_of X G xc4)
  have G17_ := ok_atomtext (P := l.prog) (w := w) (mg := mg) (base := base) F17 G9_ k9 b9 m9
  have G18_ := ok_atomstext (P := l.prog) (w := w) (mg := mg) (base := base) F18 G17_ k17 b17 m17
  have G19_ := ok_sayingtext (P := l.prog) (w := w) (mg := mg) (base := base) F19 G17_ k17 b17 m17 G18_ k18 b18 m18 (PySem.W.mg_of X G xc5) (PySem.W.mg_of X G xc6)
  have G20_ := ok_atomg (P := l.prog) (w := w) (mg := mg) (base := base) F20 G16_ k16 b16 m16 G11_ k11 b11 m11
  have G21_ := ok_atomsg (P := l.prog) (w := w) (mg := mg) (base := base) F21 G20_ k20 b20 m20 y4
  have G22_ := ok_sayg (P := l.prog) (w := w) (mg := mg) (base := base) F22 G20_ k20 b20 m20 G21_ k21 b21 m21 G13_ k13 b13 m13 (PySem.W.mg_of X G xc5) (PySem.W.mg_of X G xc6) y3
  have G23_ := ok_box (P := l.prog) (w := w) (mg := mg) (base := base) F23 y3 y6 y2
  have G24_ := ok_take (P := l.prog) (w := w) (mg := mg) (base := base) F24
  have G25_ := ok_pick (P := l.prog) (w := w) (mg := mg) (base := base) F25 F24 b24 m24 y3
  have G26_ := ok_picks (P := l.prog) (w := w) (mg := mg) (base := base) F25 G24_ k24 b24 m24 y3
  have G27_ := same_ok (P := l.prog) (w := w) (mg := mg) (base := base) F26 b26 m26 M 56
  have G28_ := ok_words (P := l.prog) (w := w) (mg := mg) (base := base) F27 F24 b24 m24 y7 y3
  have G29_ := lterm_ok (P := l.prog) (w := w) (mg := mg) (base := base) F28 b28 m28 G24_ k24 b24 m24 G25_ k25 b25 m25 3
  have G30_ := ok_unlikel (P := l.prog) (w := w) (mg := mg) (base := base) F29 y4
  have G31_ := ok_shapes (P := l.prog) (w := w) (mg := mg) (base := base) F30 G24_ k24 b24 m24 y8
  have G32_ := ok_basel (P := l.prog) (w := w) (mg := mg) (base := base) F31
  have G33_ := ok_rulel (P := l.prog) (w := w) (mg := mg) (base := base) F32 G24_ k24 b24 m24 G25_ k25 b25 m25 y7 y4
  have G34_ := ok_rulesl (P := l.prog) (w := w) (mg := mg) (base := base) F33 G24_ k24 b24 m24 G32_ k31 b31 m31 G33_ k32 b32 m32 y7
  have G35_ := ok_atoml (P := l.prog) (w := w) (mg := mg) (base := base) F34 G25_ k25 b25 m25 G29_ k28 b28 m28 y7 y4
  have G36_ := ok_sayingl (P := l.prog) (w := w) (mg := mg) (base := base) F35 G24_ k24 b24 m24 G35_ k34 b34 m34 G30_ k29 b29 m29 y7
  have G37_ := ok_begin (P := l.prog) (w := w) (mg := mg) (base := base) F36 G24_ k24 b24 m24 G28_ k27 b27 m27 G31_ k30 b30 m30 G34_ k33 b33 m33
  have G38_ := ltext5 (P := l.prog) (w := w) (mg := mg) (base := base) F37 b37 m37 M
  have G39_ := ok_latom (P := l.prog) (w := w) (mg := mg) (base := base) F38 G38_ k37 b37 m37
  have G40_ := ok_lsay (P := l.prog) (w := w) (mg := mg) (base := base) F39 G39_ k38 b38 m38
  have G41_ := ok_wordg (P := l.prog) (w := w) (mg := mg) (base := base) F40 M
  have G42_ := ok_numin (P := l.prog) (w := w) (mg := mg) (base := base) F41 M
  have G43_ := lti_ok (P := l.prog) (w := w) (mg := mg) (base := base) F42 b42 m42 G42_ k41 b41 m41 y2 y7 y4 60
  have G44_ := ok_whole (P := l.prog) (w := w) (mg := mg) (base := base) F43 G43_ k42 b42 m42 y3
  have G45_ := ok_atin (P := l.prog) (w := w) (mg := mg) (base := base) F44 G44_ k43 b43 m43 G41_ k40 b40 m40 y3 y4
  have G46_ := ok_syin (P := l.prog) (w := w) (mg := mg) (base := base) F45 G45_ k44 b44 m44 G30_ k29 b29 m29 y3 y4
  have G47_ := ok_sign (P := l.prog) (w := w) (mg := mg) (base := base) F46 G24_ k24 b24 m24 G26_ k25 b25 m25
  have G48_ := ok_bent (P := l.prog) (w := w) (mg := mg) (base := base) F47 G24_ k24 b24 m24 G47_ k46 b46 m46 y3 y2
  have G49_ := ok_toldw (P := l.prog) (w := w) (mg := mg) (base := base) F48 F49 EB k49 b49 m49 G22_ k22 b22 m22 y1 y9
  exact gn_of (ok_law F50 G23_ k23 b23 m23 G37_ k36 b36 m36 G36_ k35 b35 m35 G24_ k24 b24 m24 G40_ k39 b39 m39 G19_ k19 b19 m19 G39_ k38 b38 m38 G27_ k26 b26 m26 G49_ k48 b48 m48 G46_ k45 b45 m45 G48_ k47 b47 m47 y7 y10 y11 y3 y12)
theorem walk {l : PySem.W.OpenLaw} {q : Program} {loose : List Str} {XP : (Str → Option Value) → Heap → Prop} {YP : World → Heap → Prop} {d : DefRec} {K : Params → PySem.W.Frag} (hn : l.most = some 63) (hdf : d.params.defaults = [])
    (hY : ∀ (w : World) (h : Heap), YP w h → (K w.params).In h)
    (F : ∀ (w : World) (mg : Str → Option Value) (fa : Addr) (h : Heap), (K w.params).In h → h.Ns mainGlobals mg → mg d.name = some (.ref fa) →
      ∃ fd : FuncData, (∀ (s : Shared) (u : Value), BindsTo s fd ⟨[u], []⟩ [("_law_script", u)]) ∧ ∀ base : Heap, (K w.params).In base → base.Ns mainGlobals mg → GnOk l.prog w (K w.params) mg base 65 fa fd ["_law_script"] (spLaw (K w.params))) :
    PySem.W.WalkO q loose XP YP l.row.toRowW d [] (fun f vs => PySem.call f vs) :=
  walk_ofG (n := 63) (k := 65) (x := "_law_script") (sp := spLaw) hn (by decide) hdf ⟨rfl, by decide, by decide⟩ hY F (fun _ _ a ns hl _ hS => ⟨a, ns, rfl, hS, hl, fun _ => rfl⟩)
end Rp
open PySem PySem.W PyProof.Rows
set_option maxRecDepth 100000 in
set_option maxHeartbeats 0 in
theorem PySem.Challenge.cw_ringproofs_k26_whole_sayings_as_texts_holds : PySem.Challenge.rw_ringproofs_k26_whole_sayings_as_texts.Holds := by
  w_on; o_law; k_head; (case hw => w_witness2)
  k_fill
  refine Rp.walk (l := PySem.Challenge.rw_ringproofs_k26_whole_sayings_as_texts) rfl rfl (fun w h Y => PySem.W.kIn_of Y) ?F
  case F =>
    intro w mg fa h KX G hmg
    refine' Rp.all_mk KX G hmg ?a1 ?l1 ?c1 ?k1 ?a2 ?l2 ?c2 ?k2 ?a3 ?l3 ?c3 ?k3 ?a4 ?l4 ?c4 ?k4 ?a5 ?l5 ?c5 ?k5 ?a6 ?l6 ?c6 ?k6 ?a7 ?l7 ?c7 ?k7 ?a8 ?l8 ?c8 ?k8 ?a9 ?l9 ?c9 ?k9 ?a10 ?l10 ?c10 ?k10 ?a11 ?l11 ?c11 ?k11 ?a12 ?l12 ?c12 ?k12 ?a13 ?l13 ?c13 ?k13 ?a14 ?l14 ?c14 ?k14 ?a15 ?l15 ?c15 ?k15 ?a16 ?l16 ?c16 ?k16 ?a17 ?l17 ?c17 ?k17 ?a18 ?l18 ?c18 ?k18 ?a19 ?l19 ?c19 ?k19 ?a20 ?l20 ?c20 ?k20 ?a21 ?l21 ?c21 ?k21 ?a22 ?l22 ?c22 ?k22 ?a23 ?l23 ?c23 ?k23 ?a24 ?l24 ?c24 ?k24 ?a25 ?l25 ?c25 ?k25 ?a26 ?l26 ?c26 ?k26 ?a27 ?l27 ?c27 ?k27 ?a28 ?l28 ?c28 ?k28 ?a29 ?l29 ?c29 ?k29 ?a30 ?l30 ?c30 ?k30 ?a31 ?l31 ?c31 ?k31 ?a32 ?l32 ?c32 ?k32 ?a33 ?l33 ?c33 ?k33 ?a34 ?l34 ?c34 ?k34 ?a35 ?l35 ?c35 ?k35 ?a36 ?l36 ?c36 ?k36 ?a37 ?l37 ?c37 ?k37 ?a38 ?l38 ?c38 ?k38 ?a39 ?l39 ?c39 ?k39 ?a40 ?l40 ?c40 ?k40 ?a41 ?l41 ?c41 ?k41 ?a42 ?l42 ?c42 ?k42 ?a43 ?l43 ?c43 ?k43 ?a44 ?l44 ?c44 ?k44 ?a45 ?l45 ?c45 ?k45 ?a46 ?l46 ?c46 ?k46 ?a47 ?l47 ?c47 ?k47 ?a48 ?l48 ?c48 ?k48 ?a49 ?l49 ?c49 ?k49 ?a50 ?l50 ?c50 ?k50 ?z1 ?z2 ?z3 ?z4 ?z5 ?z6 ?z7 ?z8 ?z9 ?z10 ?z11 ?z12 ?z13 ?z14 ?z15 ?z16 ?xS ?xL ?x1 ?x2 ?x3 ?xc0 ?xc1 ?xc2 ?xc3 ?xc4 ?xc5 ?xc6 ?xnCE ?xnCB ?xnCR ?xnCS ?xaXi ?xlXi ?xcXi ?xkXi ?xty ?xvV ?xK ?xE
    (case a1 => k_is); (case l1 => k_is); (case c1 => k_is); (case k1 => k_is)
    (case a2 => k_is); (case l2 => k_is); (case c2 => k_is); (case k2 => k_is)
    (case a3 => k_is); (case l3 => k_is); (case c3 => k_is); (case k3 => k_is)
    (case a4 => k_is); (case l4 => k_is); (case c4 => k_is); (case k4 => k_is)
    (case a5 => k_is); (case l5 => k_is); (case c5 => k_is); (case k5 => k_is)
    (case a6 => k_is); (case l6 => k_is); (case c6 => k_is); (case k6 => k_is)
    (case a7 => k_is); (case l7 => k_is); (case c7 => k_is); (case k7 => k_is)
    (case a8 => k_is); (case l8 => k_is); (case c8 => k_is); (case k8 => k_is)
    (case a9 => k_is); (case l9 => k_is); (case c9 => k_is); (case k9 => k_is)
    (case a10 => k_is); (case l10 => k_is); (case c10 => k_is); (case k10 => k_is)
    (case a11 => k_is); (case l11 => k_is); (case c11 => k_is); (case k11 => k_is)
    (case a12 => k_is); (case l12 => k_is); (case c12 => k_is); (case k12 => k_is)
    (case a13 => k_is); (case l13 => k_is); (case c13 => k_is); (case k13 => k_is)
    (case a14 => k_is); (case l14 => k_is); (case c14 => k_is); (case k14 => k_is)
    (case a15 => k_is); (case l15 => k_is); (case c15 => k_is); (case k15 => k_is)
    (case a16 => k_is); (case l16 => k_is); (case c16 => k_is); (case k16 => k_is)
    (case a17 => k_is); (case l17 => k_is); (case c17 => k_is); (case k17 => k_is)
    (case a18 => k_is); (case l18 => k_is); (case c18 => k_is); (case k18 => k_is)
    (case a19 => k_is); (case l19 => k_is); (case c19 => k_is); (case k19 => k_is)
    (case a20 => k_is); (case l20 => k_is); (case c20 => k_is); (case k20 => k_is)
    (case a21 => k_is); (case l21 => k_is); (case c21 => k_is); (case k21 => k_is)
    (case a22 => k_is); (case l22 => k_is); (case c22 => k_is); (case k22 => k_is)
    (case a23 => k_is); (case l23 => k_is); (case c23 => k_is); (case k23 => k_is)
    (case a24 => k_is); (case l24 => k_is); (case c24 => k_is); (case k24 => k_is)
    (case a25 => k_is); (case l25 => k_is); (case c25 => k_is); (case k25 => k_is)
    (case a26 => k_is); (case l26 => k_is); (case c26 => k_is); (case k26 => k_is)
    (case a27 => k_is); (case l27 => k_is); (case c27 => k_is); (case k27 => k_is)
    (case a28 => k_is); (case l28 => k_is); (case c28 => k_is); (case k28 => k_is)
    (case a29 => k_is); (case l29 => k_is); (case c29 => k_is); (case k29 => k_is)
    (case a30 => k_is); (case l30 => k_is); (case c30 => k_is); (case k30 => k_is)
    (case a31 => k_is); (case l31 => k_is); (case c31 => k_is); (case k31 => k_is)
    (case a32 => k_is); (case l32 => k_is); (case c32 => k_is); (case k32 => k_is)
    (case a33 => k_is); (case l33 => k_is); (case c33 => k_is); (case k33 => k_is)
    (case a34 => k_is); (case l34 => k_is); (case c34 => k_is); (case k34 => k_is)
    (case a35 => k_is); (case l35 => k_is); (case c35 => k_is); (case k35 => k_is)
    (case a36 => k_is); (case l36 => k_is); (case c36 => k_is); (case k36 => k_is)
    (case a37 => k_is); (case l37 => k_is); (case c37 => k_is); (case k37 => k_is)
    (case a38 => k_is); (case l38 => k_is); (case c38 => k_is); (case k38 => k_is)
    (case a39 => k_is); (case l39 => k_is); (case c39 => k_is); (case k39 => k_is)
    (case a40 => k_is); (case l40 => k_is); (case c40 => k_is); (case k40 => k_is)
    (case a41 => k_is); (case l41 => k_is); (case c41 => k_is); (case k41 => k_is)
    (case a42 => k_is); (case l42 => k_is); (case c42 => k_is); (case k42 => k_is)
    (case a43 => k_is); (case l43 => k_is); (case c43 => k_is); (case k43 => k_is)
    (case a44 => k_is); (case l44 => k_is); (case c44 => k_is); (case k44 => k_is)
    (case a45 => k_is); (case l45 => k_is); (case c45 => k_is); (case k45 => k_is)
    (case a46 => k_is); (case l46 => k_is); (case c46 => k_is); (case k46 => k_is)
    (case a47 => k_is); (case l47 => k_is); (case c47 => k_is); (case k47 => k_is)
    (case a48 => k_is); (case l48 => k_is); (case c48 => k_is); (case k48 => k_is)
    (case a49 => k_is); (case l49 => k_is); (case c49 => k_is); (case k49 => k_is)
    (case a50 => k_is); (case l50 => k_is); (case c50 => k_is); (case k50 => k_is)
    (case z1 => k_is); (case z2 => k_is); (case z3 => k_is); (case z4 => k_is)
    (case z5 => k_is); (case z6 => k_is); (case z7 => k_is); (case z8 => k_is)
    (case z9 => k_is); (case z10 => k_is); (case z11 => k_is); (case z12 => k_is)
    (case z13 => k_is); (case z14 => k_is); (case z15 => k_is); (case z16 => k_is)
    (case xS => k_is); (case xL => k_is); (case x1 => k_is); (case x2 => k_is)
    (case x3 => k_is); (case xc0 => k_is); (case xc1 => k_is); (case xc2 => k_is)
    (case xc3 => k_is); (case xc4 => k_is); (case xc5 => k_is); (case xc6 => k_is)
    (case xnCE => k_is); (case xnCB => k_is); (case xnCR => k_is); (case xnCS => k_is)
    (case xaXi => k_is); (case xlXi => k_is); (case xcXi => k_is); (case xkXi => k_is)
    (case xty => k_is); (case xvV => k_is); (case xK => kernel_rfl); (case xE => kernel_rfl)

