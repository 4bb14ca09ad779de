import PyProof.Rows.All
import Wide.All
import OpenK.AllK
import Wide.FinOn
import HandS.ForMost
import HandS.IsInst
import HandS.Style
import HandS.Set
import HandS.Strs
import HandS.SetBool
import HandS.SetFor
import PySem.Challenge.RW_ringproofs_k13_rules_told_and_clashes
import HandS.Zip
import HandS.FStr
import HandS.Text
import HandS.CallLocal
import HandS.Codes
import PyProof.StrLaws
import HandS.Rev
import HandS.StrMore
import HandS.ReplaceLit
import HandS.ReplaceDef
import HandS.Deep
import HandS.Flow
import PyProof.Rows.RegFStrParts
import KE.KUnpackStar
import HandS.Walk
import HandS.Steps
import HandS.Star
import HandS.Conv
import HandS.SetKeys
import HandS.Exc
import HandS.ExcValue
import HandS.ExcField
import HandS.ExcIs
import KE.KExcIs
import HandS.More
import HandS.ExcInit
import HandS.WordsExc
import HandS.DictComp
import KE.KDictWalk
import HandS.Defaults
import HandS.ExcOwn
import HandS.TupMul
import HandS.TupAny
import PyProof.Rows.StrMeet
import KE.LtData
import HandS.TryOnly
set_option Elab.async false
set_option linter.all false
set_option maxRecDepth 100000
set_option maxHeartbeats 4000000
/-! Two rules that the layer lacks: a comprehension that makes a set of ints, and set(xs) of a list of ints whose table is known well enough to be sorted afterwards. -/
namespace Rp
open PySem PySem.Spec PyProof.Rows L2 PpSet

section addi
variable {X : Cx}
/-- an int goes into a tracked set of ints -/
theorem putInt {pins : List (Addr × Obj)} {σ : L2.St} {H : Hp} {s : Shared} {E : Value → Shared → Prop} {D : Addr} {S : Int → Bool} {n : Nat} {y : Int} {t : Tok} {Q : Value → Shared → Prop}
    (I : Inv X pins σ H s) (hD : H D = some (SetO X.w D S n)) (few : n + 1 < scanBound)
    (go : ∀ s', Inv X pins σ (upd H D (SetO X.w D (fun j => S j || decide (j = y)) (if S y = true then n else n + 1))) s' → Q .none s') :
    wpAny (model X.prog X.w) X.A (call (.builtin "set.add") [.ref D, .int y t]) Q E s :=
  setR_add (setO_get I hD) few fun h' same now =>
    have there : ∃ u, h'.get? D = some u := let ⟨o, _, _, _, ho, _⟩ := now; ⟨o, ho⟩
    go _ (I.write (e := D) (t' := s.toks + 1) (by rw [hD]; trivial) (.inl rfl) (fun b u ne hu => (same.2 b ne).trans hu) there (setO_new now))

/-- what {e for x in .. if ..} asks where e is an int -/
def tScI (w : World) (wi : TI) (g : TG) (tt : TT) (te : TE) (vs : List Nat) : TE := fun σ H Q => wi σ H fun J H1 => ∀ D, H1 D = none →
  ∃ W : Nat → Nat → Hp → Prop, (∃ m, W 0 m (upd H1 D (SetO w D (fun _ => false) 0))) ∧ ∀ i m H, W i m H → (J.stop i H ∧ Q (.ref D) H) ∨
    (J.go i H ∧ ∃ Nx : Hp → Prop, (∀ H', Nx H' → ∃ m', m' < m ∧ W (i + 1) m' H') ∧ ∀ x H', J.yld i H x H' → g x (wipe σ vs) H' fun σ2 H2 => wipe σ2 vs = wipe σ vs ∧
      tt σ2 H2 fun b H3 => if b = true then te σ2 H3 fun y H4 => ∃ (k : Int) (S : Int → Bool) (n : Nat), y = .int k ∧ H4 D = some (SetO w D S n) ∧ n + 1 < scanBound ∧
        Nx (upd H4 D (SetO w D (fun j => S j || decide (j = k)) (if S k = true then n else n + 1))) else Nx H3)

abbrev emptySet (w : World) : Obj := { cls := .type "set", dict := none, data := .set #[] 0 (.fresh 0 0 (!w.params.followText "set-order")) }

theorem pe_scI {elt tg iter : Expr} {ifs : List Expr} {scope : Scope} {own : List (PySem.Str × Nat)} {pos : Pos} {wi : TI} {g : TG} {tt : TT} {te : TE}
    (hc : X.calm = true) (hN : X.N.Nodup) (hi : PI X tg iter wi) (ok : BlkOk X.N X.env.scope scope own)
    (hg : ∀ (s : Shared) (H : Hp) (C : Addr) (cl : List (PySem.Str × Addr)) (fp : List Addr), PG (X.blk s H scope (compEnvC scope cl C X.env) fp) tg g)
    (ht : ∀ (s : Shared) (H : Hp) (C : Addr) (cl : List (PySem.Str × Addr)) (fp : List Addr), PTs (X.blk s H scope (compEnvC scope cl C X.env) fp) ifs tt)
    (he : ∀ (s : Shared) (H : Hp) (C : Addr) (cl : List (PySem.Str × Addr)) (fp : List Addr), PE (X.blk s H scope (compEnvC scope cl C X.env) fp) elt te)
    (hs : ∀ x, foldedSetIterable iter X.env x = pure x := by intro _; rfl) :
    PE X (.SetComp elt [⟨tg, iter, ifs, 0⟩] scope pos) (tScI X.w wi g tt te (own.map (·.2))) := by
  refine ⟨fun pins s σ H Q I h => ?_⟩
  rw [eval_SetComp]
  have caught : ∀ y ∈ scope.names, y.2 = .free → ∃ c, X.env.cells.lookup y.1 = some c := fun y hy e =>
    (ok.free y hy e).elim (fun k => I.ok.has _ (.inl k)) fun k => I.ok.has _ (.inr k)
  refine wpAny_comprehension_free (use := none) rfl hs (closure_ok caught) ok.kind (fun y hy e => (ok.uniq y hy).trans (by rw [e])) (thn (hi.run pins s σ H _ I h) fun xv s1 hx => thn hx fun itv s2 h2 => ?_)
  obtain ⟨it, fp, tn, J, H2, rfl, I2, T, st2, f2, q⟩ := h2
  refine newSet_ok (newEnv_comp ?_)
  -- the new set's place
  obtain ⟨D, hD⟩ : ∃ D, s2.heap.objs.size = D := ⟨_, rfl⟩
  rw [hD]
  obtain ⟨W, ⟨m0, w0⟩, turn⟩ := q D (I2.hok.fresh (Nat.le_of_eq hD))
  obtain ⟨s3, hs3⟩ : ∃ s3 : Shared, { s2 with heap := s2.heap.push (emptySet X.w) } = s3 := ⟨_, rfl⟩
  have h3 : s3.heap = s2.heap.push (emptySet X.w) := by rw [← hs3]
  have I3 : Inv X pins σ (upd H2 D (SetO X.w D (fun _ => false) 0)) s3 := by
    have z := I2.laid (a := D) (o := SetO X.w D (fun _ => false) 0) (t' := s2.toks) (h' := s2.heap.push (emptySet X.w)) (fun b o e => Heap.get?_push_of_some _ e) (Nat.le_of_eq hD) (by rw [← hD]; exact setO_new (setR_fresh X.w))
    exact hs3 ▸ z
  have low : ∀ b ∈ fp, b < s2.heap.objs.size := fun b hb => let ⟨o, e, _⟩ := T.obj _ _ st2 b hb; Heap.lt_size e
  have f3 : ∀ b ∈ fp, FpOk X pins (upd H2 D (SetO X.w D (fun _ => false) 0)) b ∧ b < s3.heap.objs.size := fun b hb =>
    ⟨⟨(upd_ne (by rw [← hD]; exact Nat.ne_of_lt (low b hb))).trans (f2 b hb).1, (f2 b hb).2⟩, by rw [h3, Heap.size_push]; exact Nat.lt_succ_of_lt (low b hb)⟩
  have st3 : tn 0 s3.heap := T.keep _ _ _ st2 fun b _ o e => h3 ▸ Heap.get?_push_of_some _ e
  have I4 := block_start I3 ok hN f3
  obtain ⟨H3, hH3⟩ : ∃ H3, upd H2 D (SetO X.w D (fun _ => false) 0) = H3 := ⟨_, rfl⟩
  rw [hH3] at I3 f3 I4 w0
  obtain ⟨C, hC⟩ : ∃ C, s3.heap.objs.size = C := ⟨_, rfl⟩
  rw [hC] at I4
  have pg := hg s3 H3 C (cellsFrom (C + 1) scope.names (cloFrom X.env.cells scope.names [])) fp
  have pt := ht s3 H3 C (cellsFrom (C + 1) scope.names (cloFrom X.env.cells scope.names [])) fp
  have pe := he s3 H3 C (cellsFrom (C + 1) scope.names (cloFrom X.env.cells scope.names [])) fp
  subst hs3
  have hC' : (s2.heap.push (emptySet X.w)).objs.size = C := hC
  show codeAny _ _ (.compStart (.SetComp elt [⟨tg, iter, ifs, 0⟩] scope pos) 0 (.ref it) (.ref D) (compEnvC scope (cellsFrom ((s2.heap.push (emptySet X.w)).objs.size + 1) scope.names (cloFrom X.env.cells scope.names [])) (s2.heap.push (emptySet X.w)).objs.size X.env))
    (compPost (model X.prog X.w) X.A X.xe none (EP X pins σ Q) (.ref D) (s2.heap.push (emptySet X.w)).objs.size) { s2 with heap := pushCells ((s2.heap.push (emptySet X.w)).push { cls := .type "dict", data := .dict #[] }) scope.names }
  rw [hC']
  obtain ⟨ce, hce⟩ : ∃ ce, compEnvC scope (cellsFrom (C + 1) scope.names (cloFrom X.env.cells scope.names [])) C X.env = ce := ⟨_, rfl⟩
  rw [hce] at I4 pg pt pe ⊢
  have cL : ce.locals = C := by subst hce; rfl
  obtain ⟨s4, hs4⟩ : ∃ s4 : Shared, { s2 with heap := pushCells ((s2.heap.push (emptySet X.w)).push { cls := .type "dict", data := .dict #[] }) scope.names } = s4 := ⟨_, rfl⟩
  have I4 : Inv (X.blk _ H3 scope ce fp) [] (wipe σ (own.map (·.2))) H3 s4 := hs4 ▸ I4
  rw [hs4]
  have st4 : tn 0 s4.heap := T.keep _ _ _ st3 fun b _ o e => by rw [← hs4]; exact pushCells_keeps _ _ _ _ (Heap.get?_push_of_some _ e)
  obtain ⟨Y, hY⟩ : ∃ Y, X.blk { s2 with heap := s2.heap.push (emptySet X.w) } H3 scope ce fp = Y := ⟨_, rfl⟩
  have rest : ∀ {σ' : L2.St} {H' : Hp} {s' : Shared}, Inv Y [] σ' H' s' → (∀ b ∈ fp, H' b = none) → ∀ b ∈ fp, FpOk Y [] H' b := by
    subst hY
    intro σ' H' s' I' hn b hb
    exact ⟨hn b hb, (I'.ok.exf b hb).1, I'.ok.exfs b hb, .inl hb, fun x c e => (I'.ok.exf b hb).2 x c e, fun p hp => absurd (show p ∈ ([] : List (Addr × Obj)) ++ [] from hp) (by simp)⟩
  have round : codeAny (model X.prog X.w) X.A (.compLoop (.SetComp elt [⟨tg, iter, ifs, 0⟩] scope pos) 0 (.ref it) (.ref D) ce) (compPost (model X.prog X.w) X.A X.xe none (EP X pins σ Q) (.ref D) C) s4 := by
    refine compLoopS_any (fun n s' => ∃ i H', Inv Y [] (wipe σ (own.map (·.2))) H' s' ∧ tn i s'.heap ∧ (∀ b ∈ fp, H' b = none) ∧ W i n H') ?_ m0 ⟨0, H3, hY ▸ I4, st4, fun b hb => (f3 b hb).1.1, w0⟩
    rintro n s5 ⟨i, H5, I5, st5, n5, w5⟩
    rcases turn i n H5 w5 with ⟨stop, qq⟩ | ⟨go, Nx, hNx, step⟩
    · subst hY
      refine thnF (T.done (X.blk _ H3 scope ce fp) rfl rfl rfl hc i [] s5 _ H5 (fun _ _ => False) I5 (rest I5 n5) st5 stop) fun r s6 ⟨hr, I6⟩ => ?_
      subst hr
      have I7 : Inv X pins σ H5 s6 := I3.call' (ch := fp) I6.os I6.base I6.hok I6.bare fun b hb => ⟨(f3 b hb).1.2.2.2.1, (f3 b hb).1.2.1, (f3 b hb).1.2.2.2.2.1, (f3 b hb).1.2.2.2.2.2⟩
      have nC : H5 C = none := cL ▸ (show H5 ce.locals = none from I6.free)
      obtain ⟨m, hn, _⟩ := I6.loc
      have hn : s6.heap.Ns C m := cL ▸ (show s6.heap.Ns ce.locals m from hn)
      refine ⟨m, hn, fun h'' sb => ?_⟩
      obtain ⟨g0, g1, g2, g3, g4, g5⟩ := I3.fpOk (Nat.le_of_eq hC) nC
      exact ⟨.ref D, H5, I7.turned (t' := s6.toks) (fun b o hb e => (sb.2 b hb).trans e) g0 g1 g3 g4 g5, rfl, qq⟩
    · have ti := T.item Y (by subst hY; rfl) (by subst hY; rfl) (by subst hY; rfl) (by subst hY; exact hc) i [] s5 _ H5 (fun _ _ => False) I5 (rest I5 n5) st5 go
      subst hY
      refine thnF ti fun r s6 ⟨u, hr, h6⟩ => ?_
      subst hr
      refine thnF h6 fun _ s7 ⟨x, H7, I7, r7, y7, st7, n7⟩ => ?_
      refine thnF (pg.run _ s7 _ H7 x u _ (I7.pinned (rest I7 n7) (T.obj _ _ st7)) r7 (step x H7 y7)) fun _ s8 ⟨σ8, H8, I8, hw8, q8⟩ => ?_
      refine thnF (pt.run _ s8 σ8 H8 _ I8 q8) fun b s9 ⟨H9, I9, q9⟩ => ?_
      have turned : ∀ {s' : Shared} {H' : Hp}, Inv (X.blk { s2 with heap := s2.heap.push (emptySet X.w) } H3 scope ce fp) ([] ++ pinsAt fp s7.heap) σ8 H' s' → Nx H' → ∃ m, m < n ∧ ∃ i H', Inv (X.blk { s2 with heap := s2.heap.push (emptySet X.w) } H3 scope ce fp) [] (wipe σ (own.map (·.2))) H' s' ∧ tn i s'.heap ∧ (∀ b ∈ fp, H' b = none) ∧ W i m H' := by
        intro s' H' I' nx
        obtain ⟨m', hm, w'⟩ := hNx H' nx
        have pin : ∀ b ∈ fp, ∀ o, s7.heap.get? b = some o → s'.heap.get? b = some o ∧ H' b = none := fun b hb o e =>
          let z := I'.pin (b, o) (List.mem_append_right _ (List.mem_append_right _ (mem_pinsAt hb e))); ⟨z.1, z.2.1⟩
        refine ⟨m', hm, i + 1, H', (I'.unpinned (pins := [])).weak (by rw [← hw8, wipe_length]) (fun j v e => (wipe_some (by rw [hw8]; exact e)).1), T.keep _ _ _ st7 fun b hb o e => (pin b hb o e).1, fun b hb => ?_, w'⟩
        obtain ⟨o, e, _⟩ := T.obj _ _ st7 b hb
        exact (pin b hb o e).2
      cases b with
      | false => simp only [Bool.false_eq_true, if_false] at q9 ⊢; exact turned I9 q9
      | true =>
        simp only [if_true] at q9 ⊢
        refine thnF (pe.run _ s9 σ8 H9 _ I9 q9) fun z s10 ⟨yv, H10, I10, r10, k, S0, n0, ey, hD10, few, nx⟩ => ?_
        subst ey
        obtain ⟨t, rfl⟩ := r10
        exact putInt (X := X.blk _ H3 scope ce fp) I10 hD10 few fun s11 I11 => turned I11 nx
  exact codeAny_compStart_set round (T.self X.A 0 _ _ _ st4 round)

/-- the walk over a list that the block leaves as it is -/
theorem scI_list {w : World} {K : PySem.W.Frag} {a : Addr} {xs : List V} {g : TG} {tt : TT} {te : TE} {vs : List Nat} {σ : L2.St} {H1 : Hp} {D : Addr} {Qd : Hp → Prop}
    (Pv : Nat → Hp → Prop) (h0 : Pv 0 (upd H1 D (SetO w D (fun _ => false) 0))) (hl : ∀ i H, i ≤ xs.length → Pv i H → SqL K H a xs)
    (hs : ∀ i x H, xs[i]? = some x → Pv i H → g x (wipe σ vs) H fun σ2 H2 => wipe σ2 vs = wipe σ vs ∧ tt σ2 H2 fun b H3 => if b = true then te σ2 H3 fun y H4 =>
      ∃ (k : Int) (S : Int → Bool) (n : Nat), y = .int k ∧ H4 D = some (SetO w D S n) ∧ n + 1 < scanBound ∧ Pv (i + 1) (upd H4 D (SetO w D (fun j => S j || decide (j = k)) (if S k = true then n else n + 1))) else Pv (i + 1) H3)
    (hd : ∀ H, Pv xs.length H → Qd H) :
    ∃ W : Nat → Nat → Hp → Prop, (∃ m, W 0 m (upd H1 D (SetO w D (fun _ => false) 0))) ∧ ∀ i m H, W i m H → ((Itl K a).stop i H ∧ Qd H) ∨
      ((Itl K a).go i H ∧ ∃ Nx : Hp → Prop, (∀ H', Nx H' → ∃ m', m' < m ∧ W (i + 1) m' H') ∧ ∀ x H', (Itl K a).yld i H x H' → g x (wipe σ vs) H' fun σ2 H2 => wipe σ2 vs = wipe σ vs ∧
        tt σ2 H2 fun b H3 => if b = true then te σ2 H3 fun y H4 => ∃ (k : Int) (S : Int → Bool) (n : Nat), y = .int k ∧ H4 D = some (SetO w D S n) ∧ n + 1 < scanBound ∧
          Nx (upd H4 D (SetO w D (fun j => S j || decide (j = k)) (if S k = true then n else n + 1))) else Nx H3) := by
  refine ⟨fun i m H => m + i = xs.length ∧ Pv i H, ⟨xs.length, by simp, h0⟩, ?_⟩
  rintro i m H ⟨em, p⟩
  have here := hl i H (by omega) p
  rcases Nat.lt_or_ge i xs.length with lt | ge
  · refine .inr ⟨⟨xs, xs[i], here, by simp [lt]⟩, Pv (i + 1), fun H' p' => ⟨m - 1, by omega, by omega, p'⟩, fun x H' ⟨e, y⟩ => ?_⟩
    subst e
    exact hs i x _ (y xs here) p
  · have e : i = xs.length := by omega
    subst e
    exact .inl ⟨⟨xs, here, Nat.le_refl _⟩, hd H p⟩
end addi
end Rp

namespace Rp
open PySem PySem.Spec PyProof.Rows L2 PpSet
section
variable {P : Program} {w : World} {A : Around} {E : Value → Shared → Prop} {s : Shared}
set_option maxHeartbeats 6400000 in
theorem set_of_list {l : Addr} {items : Array Value} (ns : List Int) {Q : Value → Shared → Prop} (calm : A.handled = none) (hl : s.heap.IsList l items) (hi : IntsAre items.toList ns) (few : ns.length + 1 < scanBound)
    (go : ∀ (h' : Heap) (tk c : Nat), SetR w h' s.heap.objs.size (fun j => decide (j ∈ ns)) c → c ≤ ns.length → (∀ b o, s.heap.get? b = some o → h'.get? b = some o) → Q (.ref s.heap.objs.size) { s with heap := h', toks := tk }) :
    wpAny (model P w) A (call (.type "set") [.ref l]) Q E s := by
  have cnt : items.size = ns.length := by have q := IntsAre.length hi; rwa [Array.length_toList] at q
  obtain ⟨c, tl, hmro⟩ := F.called_set.mro
  have hmade := F.called_set.made
  have hsub := F.called_set.sub
  refine wpAny_call (codeAny_of_tree ?_)
  show wpAny _ _ (callAny (.type "set") _) _ _ _
  refine wpAny_pure ⟨Code.quiet_builtin _ (by decide +kernel), codeAny_builtin F.entry_type_call ?_⟩
  rw [Around.under_plain (weight_type_call_type "set" [.ref l] []) rfl]
  have h1 := F.called_set.notType
  have h2 := F.called_set.canCreate
  have hct := F.typeCall_set_1 (.ref l)
  repeat (any_goals (first | assumption | wp_step))
  refine codeAny_mono (code_set_led1 (.ref l) (E := E) (Q₁ := fun obj z => obj = .ref s.heap.objs.size ∧ z = { s with heap := s.heap.push (emptySet w) }) ⟨rfl, rfl⟩) fun r s₁ hr => ?_
  cases r with
  | error e => exact hr
  | ok fl =>
    cases fl with
    | ret obj =>
      obtain ⟨rfl, rfl⟩ := hr
      have atNew : (s.heap.push (emptySet w)).get? s.heap.objs.size = some (emptySet w) := Heap.get?_push_size _ rfl
      have hT : Shared.TypeIs { s with heap := s.heap.push (emptySet w) } (.ref s.heap.objs.size) "set" := ⟨_, atNew, rfl⟩
      have hli := F.called_set.init.lookup
      have hbi := F.called_set.init.bind (.ref s.heap.objs.size)
      repeat (any_goals (first | assumption | wp_step))
      refine codeAny_mono (codeAny_call_builtin (R := wants (fun r z => r = .none ∧ ∃ h' tk c, z = { s with heap := h', toks := tk } ∧ SetR w h' s.heap.objs.size (fun j => decide (j ∈ ns)) c ∧ c ≤ ns.length ∧
        (∀ b o, s.heap.get? b = some o → h'.get? b = some o)) E) F.called_set.init.plain F.entry_set_init (check_set_init_1 hT ?_)) fun r₂ s₂ hr₂ => ?_
      · obtain ⟨⟨ocls, odict, odata, oslots⟩, hol, hcl, nl, hdl⟩ := hl
        simp only at hcl hdl
        subst hcl hdl
        have hol' : (s.heap.push (emptySet w)).get? l = some { cls := .type "list", dict := odict, data := .seq items nl, slots := oslots } := Heap.get?_push_of_some _ hol
        have hsls := F.sub_list_set
        have hslf := F.sub_list_frozenset
        have hne : (Value.type "list" == Value.type "dict") = false := by decide
        have here : (s.heap.push (emptySet w)).IsList l items := ⟨_, hol', rfl, nl, rfl⟩
        unfold Builtin.«set.__init__» noKeywords Builtin.Frozenset.updateFrom
        generalize hPI : pyIter = PI
        wp_walk
        subst hPI
        refine wpAny_pyIter_list here (wpAny_bind (wpAny_runValue ?_))
        have below : l < s.heap.objs.size := Heap.lt_size hol
        have top : (s.heap.push (emptySet w)).objs.size = s.heap.objs.size + 1 := Heap.size_push ..
        have apart : l ≠ (s.heap.push (emptySet w)).objs.size := by rw [top]; exact Nat.ne_of_lt (Nat.lt_succ_of_lt below)
        have out : s.heap.objs.size ∉ [(s.heap.push (emptySet w)).objs.size, l] := by
          simp only [List.mem_cons, List.not_mem_nil, or_false, not_or, top]
          exact ⟨Nat.ne_of_lt (Nat.lt_succ_self _), Nat.ne_of_gt below⟩
        have each : ∀ (i : Nat) (v : Value), items[i]? = some v → ∃ k t, ns[i]? = some k ∧ v = .int k t := by
          intro i v hv
          have lt : i < ns.length := by rw [← cnt]; exact (Array.getElem?_eq_some_iff.mp hv).1
          obtain ⟨t, e⟩ := PyProof.Rows.IntsAre.int_at hi i v (by rw [Array.getElem?_toList]; exact hv)
          exact ⟨ns[i], t, List.getElem?_eq_getElem lt, by rw [e, List.getD_eq_getElem?_getD, List.getElem?_eq_getElem lt]; rfl⟩
        refine set_update_ints ((Walks.list (by simp [calm]) _ l apart items).toS) s.heap.objs.size out ns cnt few each (items.size - 0) 0 _ (by omega) (Nat.zero_le _)
          ⟨⟨_, Heap.get?_push_size _ rfl, rfl, rfl⟩, here.push _⟩ ⟨0, Nat.le_refl 0, setR_new_at (Heap.get?_push_of_some _ atNew)⟩ fun s' c' hm hc' hS' => ?_
        obtain ⟨h', g2, d', tk', os'⟩ := s'
        have eg : g2 = s.gens := hm.gens
        have ed : d' = s.drawn := hm.drawn
        have eo : os' = s.os := hm.os
        subst eg ed eo
        show wpAny _ _ _ _ _ _
        refine wpAny_pure ?_
        show wpAny _ _ (ret Value.none) _ _ _
        refine wpAny_pure ⟨rfl, h', tk', c', rfl, hS', by omega, fun b o e => ?_⟩
        have lt := Heap.lt_size e
        exact hm.heap b o (by simp only [List.mem_cons, List.not_mem_nil, or_false, not_or, top]; exact ⟨Nat.ne_of_lt lt, Nat.ne_of_lt (Nat.lt_succ_of_lt lt)⟩) (Heap.get?_push_of_some _ (Heap.get?_push_of_some _ e))
      · cases r₂ with
        | error e => exact hr₂
        | ok fl₂ =>
          cases fl₂ with
          | ret r =>
            obtain ⟨rfl, h', tk, c', rfl, hS', hc', hk'⟩ := hr₂
            repeat (any_goals (first | assumption | wp_step))
            exact go _ _ _ hS' hc' hk'
          | _ => exact hr₂.elim
    | _ => exact hr.elim
end
section
variable {X : Cx}
theorem intsOf : ∀ {ns : List Int} {us : List Value}, Vals (ns.map V.int) us → PyProof.Rows.IntsAre us ns
  | [], _, .nil => .nil
  | n :: ns, _, .cons ⟨k, e⟩ t => by subst e; exact .cons n k (intsOf t)
/-- set(xs), xs a list of ints -/
def rSetI (K : PySem.W.Frag) (w : World) : List V → Hp → VK → Prop := fun vs H Q => ∃ (a : Addr) (ns : List Int), vs = [V.ref a] ∧ SqL K H a (ns.map V.int) ∧ ns.length < 1000 ∧
  ∀ (p : Addr) (c : Nat), H p = none → c ≤ ns.length → Q (.ref p) (upd H p (SetO w p (fun j => decide (j ∈ ns)) c))
theorem cr_setI (hc : X.calm = true) : CallR X (.type "set") (rSetI X.K X.w) := by
  intro pins s σ H vs us Q I r h
  obtain ⟨a, ns, rfl, hs, hn, q⟩ := h
  rw [Vals.ref1 r]
  obtain ⟨its, rv, pl, hz⟩ := I.list hs
  refine set_of_list ns (I.ok.hd hc) pl.isList (by simpa using intsOf rv) (by unfold scanBound; omega) fun h' tk c R hc' k => ?_
  have hn : H s.heap.objs.size = none := I.hok.fresh (Nat.le_refl _)
  exact ⟨.ref _, upd H s.heap.objs.size (SetO X.w s.heap.objs.size (fun j => decide (j ∈ ns)) c), I.laid (t' := tk) k (Nat.le_refl _) (setO_new R), rfl, q _ c hn hc'⟩
end
end Rp

namespace Rp
open PySem L2
/-! ### TERMs -/
inductive Tm where
  | v (n : Int) | z | s (t : Tm) | f (l r : Tm)
  deriving DecidableEq
namespace Tm
def size : Tm → Nat
  | v _ => 1 | z => 1 | s t => t.size + 1 | f l r => l.size + r.size + 1
def deep : Tm → Nat
  | v _ => 0 | z => 0 | s t => t.deep + 1 | f l r => max l.deep r.deep + 1
def nums : Tm → List Int
  | v n => [n] | z => [] | s t => t.nums | f l r => l.nums ++ r.nums
/-- all parts, the whole first, the right-hand ones ahead of the left-hand ones -/
def rpost : Tm → List Tm
  | v n => [v n] | z => [z] | s t => s t :: t.rpost | f l r => f l r :: (r.rpost ++ l.rpost)
def kids : Tm → List Tm
  | v _ => [] | z => [] | s t => [t] | f l r => [l, r]
theorem size_pos : ∀ t : Tm, 1 ≤ t.size
  | v _ => Nat.le_refl _ | z => Nat.le_refl _ | s _ => by unfold size; omega | f _ _ => by unfold size; omega
theorem deep_lt : ∀ t : Tm, t.deep < t.size
  | v _ => Nat.zero_lt_one | z => Nat.zero_lt_one | s t => by have := deep_lt t; unfold deep size; omega
  | f l r => by have := deep_lt l; have := deep_lt r; unfold deep size; omega
theorem rpost_len : ∀ t : Tm, t.rpost.length = t.size
  | v _ => rfl | z => rfl | s t => by unfold rpost size; rw [List.length_cons, rpost_len t]
  | f l r => by unfold rpost size; rw [List.length_cons, List.length_append, rpost_len l, rpost_len r]; omega
/-- an int among the parts -/
theorem mem_rpost (n : Int) : ∀ t : Tm, v n ∈ t.rpost ↔ n ∈ t.nums
  | v m => by unfold rpost nums; simp
  | z => by unfold rpost nums; simp
  | s t => by unfold rpost nums; have := mem_rpost n t; simp [this]
  | f l r => by unfold rpost nums; have := mem_rpost n l; have := mem_rpost n r; simp [*]; exact Or.comm
theorem rpost_kids (t : Tm) : t.rpost = t :: (t.kids.reverse.flatMap rpost) := by
  cases t <;> simp [rpost, kids]
theorem kids_size (t : Tm) : (t.kids.map size).sum + 1 = t.size := by
  cases t <;> simp [kids, size] <;> omega
theorem nums_len : ∀ t : Tm, t.nums.length ≤ t.size
  | v _ => Nat.le_refl _ | z => Nat.zero_le _ | s t => by have := nums_len t; unfold nums size; omega
  | f l r => by have := nums_len l; have := nums_len r; unfold nums size; rw [List.length_append]; omega
/-- all signs, as law's leaves has them -/
def signs : Tm → List V
  | v n => [.int n] | z => [.str "0"] | s t => .str "s" :: t.signs | f l r => .str "f" :: (l.signs ++ r.signs)
theorem signs_len : ∀ t : Tm, t.signs.length = t.size
  | v _ => rfl | z => rfl | s t => by unfold signs size; rw [List.length_cons, signs_len t]
  | f l r => by unfold signs size; rw [List.length_cons, List.length_append, signs_len l, signs_len r]
end Tm
/-- the ints of a row of ints and texts -/
def rowInts : List V → List Int
  | [] => []
  | .int n :: r => n :: rowInts r
  | _ :: r => rowInts r
theorem rowInts_append : ∀ a b : List V, rowInts (a ++ b) = rowInts a ++ rowInts b
  | [], b => rfl
  | x :: r, b => by cases x <;> simp [rowInts, rowInts_append r b]
theorem signs_nums : ∀ t : Tm, rowInts t.signs = t.nums
  | .v _ => rfl | .z => rfl | .s t => by simp [Tm.signs, Tm.nums, rowInts, signs_nums t]
  | .f l r => by simp [Tm.signs, Tm.nums, rowInts, rowInts_append, signs_nums l, signs_nums r]
/-- a row of ints and texts -/
def Flat2 : V → Prop
  | .int _ => True
  | .str _ => True
  | _ => False
theorem signs_flat : ∀ t : Tm, ∀ x ∈ t.signs, Flat2 x
  | .v _, x, h => by simp [Tm.signs] at h; subst h; trivial
  | .z, x, h => by simp [Tm.signs] at h; subst h; trivial
  | .s t, x, h => by
    simp only [Tm.signs, List.mem_cons] at h
    rcases h with h | h
    · subst h; trivial
    · exact signs_flat t x h
  | .f l r, x, h => by
    simp only [Tm.signs, List.mem_cons, List.mem_append] at h
    rcases h with h | h | h
    · subst h; trivial
    · exact signs_flat l x h
    · exact signs_flat r x h
/-! ### two rising rows of the same ints are one -/
theorem rising_one : ∀ {a b : List Int}, a.Pairwise (· < ·) → b.Pairwise (· < ·) → (∀ k, k ∈ a ↔ k ∈ b) → a = b
  | [], [], _, _, _ => rfl
  | [], y :: b, _, _, h => by have := (h y).2 (by simp); simp at this
  | x :: a, [], _, _, h => by have := (h x).1 (by simp); simp at this
  | x :: a, y :: b, ha, hb, h => by
    rw [List.pairwise_cons] at ha hb
    have exy : x = y := by
      rcases List.mem_cons.mp ((h x).1 (by simp)) with e | e
      · exact e
      · rcases List.mem_cons.mp ((h y).2 (by simp)) with e' | e'
        · exact e'.symm
        · have := hb.1 x e
          have := ha.1 y e'
          omega
    subst exy
    rw [rising_one ha.2 hb.2 fun k => ?_]
    constructor
    · intro hk
      rcases List.mem_cons.mp ((h k).1 (List.mem_cons_of_mem _ hk)) with e | e
      · have := ha.1 k hk; omega
      · exact e
    · intro hk
      rcases List.mem_cons.mp ((h k).2 (List.mem_cons_of_mem _ hk)) with e | e
      · have := hb.1 k hk; omega
      · exact e
/-! ### heaps -/
/-- all but b stays -/
def But (b : Addr) (H H' : Hp) : Prop := ∀ c o, H c = some o → c ≠ b → H' c = some o
theorem But.refl (b : Addr) (H : Hp) : But b H H := fun _ _ h _ => h
theorem But.trans {b : Addr} {H H1 H2 : Hp} (x : But b H H1) (y : But b H1 H2) : But b H H2 := fun c o h n => y c o (x c o h n) n
theorem but_of {b : Addr} {H H' : Hp} (x : Same H H') : But b H H' := fun c o h _ => x c o h
theorem same_new {H : Hp} {p : Addr} (h : H p = none) (o : HO) : Same H (upd H p o) := fun b u q => by rw [upd_ne (ne_of_none q h)]; exact q
theorem but_upd {H : Hp} {b : Addr} (o : HO) : But b H (upd H b o) := fun c u h n => by rw [upd_ne n]; exact h
/-- the box of draws: j bounds how often it was drawn from -/
structure BoxAt (H : Hp) (b : Addr) (j : Nat) : Prop where
  ex : ∃ x y z : Int, H b = some (.lst [.int x, .int y, .int z]) ∧ 0 ≤ x ∧ 0 ≤ y ∧ y < 10000000000 ∧ 0 ≤ z ∧ z ≤ (j : Int)
theorem BoxAt.same {H H' : Hp} {b : Addr} {j : Nat} (B : BoxAt H b j) (e : Same H H') : BoxAt H' b j := by
  obtain ⟨x, y, z, h, r⟩ := B.ex
  exact ⟨x, y, z, e _ _ h, r⟩
theorem BoxAt.more {H : Hp} {b : Addr} {j k : Nat} (B : BoxAt H b j) (h : j ≤ k) : BoxAt H b k := by
  obtain ⟨x, y, z, e, h1, h2, h3, h4, h5⟩ := B.ex
  exact ⟨x, y, z, e, h1, h2, h3, h4, by omega⟩
theorem BoxAt.some {H : Hp} {b : Addr} {j : Nat} (B : BoxAt H b j) : ∃ xs, H b = some (.lst xs) := by
  obtain ⟨x, y, z, e, _⟩ := B.ex
  exact ⟨_, e⟩
/-- a TERM stands as the value v -/
inductive TmAt (H : Hp) : V → Tm → Prop where
  | v (n : Int) : TmAt H (.int n) (.v n)
  | z {a : Addr} (h : H a = some (.tup [.str "0"])) : TmAt H (.ref a) .z
  | s {a : Addr} {x : V} {t : Tm} (h : H a = some (.tup [.str "s", x])) (q : TmAt H x t) : TmAt H (.ref a) (.s t)
  | f {a : Addr} {x y : V} {l r : Tm} (h : H a = some (.tup [.str "f", x, y])) (q : TmAt H x l) (q' : TmAt H y r) : TmAt H (.ref a) (.f l r)
theorem TmAt.mono {H H' : Hp} (e : ∀ a xs, H a = some (.tup xs) → H' a = some (.tup xs)) {v : V} {t : Tm} (h : TmAt H v t) : TmAt H' v t := by
  induction h with
  | v n => exact .v n
  | z h => exact .z (e _ _ h)
  | s h _ ih => exact .s (e _ _ h) ih
  | f h _ _ ih ih' => exact .f (e _ _ h) ih ih'
theorem TmAt.same {H H' : Hp} (e : Same H H') {v : V} {t : Tm} (h : TmAt H v t) : TmAt H' v t := h.mono fun a xs q => e a _ q
theorem TmAt.but {H H' : Hp} {b : Addr} {ys : List V} (e : But b H H') (hb : H b = some (.lst ys)) {v : V} {t : Tm} (h : TmAt H v t) : TmAt H' v t :=
  h.mono fun a xs q => e a _ q (ne_of q hb (by intro z; cases z))
/-! ### what is alike, kind by kind (to a depth) -/
def Plain : V → Prop
  | .non => True
  | .bl _ => True
  | .int _ => True
  | .str _ => True
  | _ => False
def Alike (H : Hp) : Nat → V → V → Prop
  | 0, x, y => Plain x ∧ x = y
  | n + 1, x, y => (Plain x ∧ x = y) ∨ ∃ a b xs ys, x = .ref a ∧ y = .ref b ∧ ((H a = some (.lst xs) ∧ H b = some (.lst ys)) ∨ (H a = some (.tup xs) ∧ H b = some (.tup ys))) ∧
      xs.length = ys.length ∧ xs.length ≤ 1000000 ∧ ∀ (i : Nat) (u v : V), xs[i]? = some u → ys[i]? = some v → Alike H n u v
theorem Alike.mono {H H' : Hp} (e : Same H H') : ∀ (n : Nat) {x y : V}, Alike H n x y → Alike H' n x y
  | 0, _, _, h => by unfold Alike at h ⊢; exact h
  | n + 1, x, y, h => by
    unfold Alike at h ⊢
    rcases h with h | ⟨a, b, xs, ys, h1, h2, h3, h4, h5, h6⟩
    · exact .inl h
    · exact .inr ⟨a, b, xs, ys, h1, h2, h3.imp (fun q => ⟨e _ _ q.1, e _ _ q.2⟩) (fun q => ⟨e _ _ q.1, e _ _ q.2⟩), h4, h5, fun i u v p q => Alike.mono e n (h6 i u v p q)⟩
theorem alike_ints {H : Hp} {n : Nat} {a b : Addr} {ns : List Int} (ha : H a = some (.lst (ns.map V.int))) (hb : H b = some (.lst (ns.map V.int))) (hl : ns.length ≤ 1000000) : Alike H (n + 1) (.ref a) (.ref b) := by
  unfold Alike
  refine .inr ⟨a, b, _, _, rfl, rfl, .inl ⟨ha, hb⟩, rfl, by rw [List.length_map]; exact hl, fun i u v h1 h2 => ?_⟩
  have e : u = v := Option.some.inj (h1.symm.trans h2)
  subst e
  rw [List.getElem?_map] at h1
  cases q : ns[i]? with
  | none => rw [q] at h1; cases h1
  | some k =>
    rw [q] at h1
    cases h1
    cases n with
    | zero => unfold Alike; exact ⟨trivial, rfl⟩
    | succ n => unfold Alike; exact .inl ⟨trivial, rfl⟩
end Rp

/-! Defs whose body asks for the repr of lists and tuples: their promise is kept where no repr is at work (the around's guards are told to be none), and so where the law itself is called. -/
namespace Rp
open PySem PySem.Spec PyProof.Rows L2
structure GnOk (P : Program) (w : World) (K : PySem.W.Frag) (mg : Str → Option Value) (base : Heap) (k : Nat) (f : Addr) (fd : FuncData) (ps : List Str) (sp : Sp) : Prop where
  len : ∀ vs H Q E, sp vs H Q E → vs.length = ps.length
  run : ∀ (A : Around) (outer : List Env) (s : Shared) (H : Hp) (args : Args) (us : List Value) (vs : List V) (Q : VK) (E : XK), A.guards = some [] → Room k A → Env0 P w K mg base A outer s H → BindsTo s fd args (ps.zip us) → Vals vs us → sp vs H Q E →
    codeAny (model P w) A (.call (.ref f) args) (CR CX0 outer P w H s Q E) s
section
variable {P : Program} {w : World} {K : PySem.W.Frag} {mg : Str → Option Value} {base : Heap}
/-- a def by its body, the guards told -/
theorem gok {x qual : Str} {st : Stmt} {f : Addr} {fd : FuncData} {N ps : List Str} {k : Nat} {sp : Sp} (F : Fun K x qual st f fd) (S : FnScope N ps (defScope st)) (len : ∀ vs H Q E, sp vs H Q E → vs.length = ps.length)
    (walk : ∀ (cdv : Value) (A : Around) (outer : List Env) (s : Shared) (H : Hp) (vs : List V) (Q : VK) (E : XK), A.guards = some [] → Room k (A.deeper (envOfC qual (defScope st) s.heap.objs.size f cdv)) → sp vs H Q E →
      ∃ t, PSs (cxOf CX0 P w K mg base N qual (defScope st) f cdv A outer s H E).nox (defBody st) t ∧ t { nx := fun _ H' => Q .non H', rt := Q } (start N vs) H) : GnOk P w K mg base (k + 1) f fd ps sp := by
  obtain ⟨oc, od, kV, doc, pm, an, cdv, ct, osl, rfl, lk, hcd⟩ := F.ex
  refine ⟨len, fun A outer s H args us vs Q E hg hr e0 hb r hsp => ?_⟩
  have K0 : K.In s.heap := e0.mod.kin.keeps fun b o e => (e0.bs b o e).1
  have L0 : s.heap.NoLimit := e0.mod.nolimit.keeps fun b o e => (e0.bs b o e).1
  have each : ∀ y ∈ ps.zip us, (defScope st).names.lookup y.1 = some .local ∨ ((defScope st).names.lookup y.1 = some .cell ∧ ((cellsFrom (s.heap.objs.size + 1) (defScope st).names []).lookup y.1).isSome = true) := by
    rintro ⟨n, v⟩ hy
    exact (S.par n (List.of_mem_zip hy).1).imp id fun q => ⟨q, PySem.W.cellsFrom_some _ _ _ (.inl q)⟩
  refine codeAny_call_function hr.depth (K0 _ _ lk) rfl S.co S.gen rfl (PySem.W.codeRec_of K0 hcd) (hb _ _ _ _ (wpAny_newFunctionEnv_cells S.kind each fun env he s1 z => ?_))
  subst he
  refine ⟨L0.keeps z.toInCall.keep, codeAny_func ?_⟩
  obtain ⟨t, ht, hq⟩ := walk cdv A outer s H vs Q E hg (hr.deeper _) hsp
  have I : L2.Inv (cxOf CX0 P w K mg base N qual (defScope st) f cdv A outer s H E) [] (start N vs) H s1 := inv_start S hr.hd e0 (len _ _ _ _ hsp) r z
  refine wpAny_mono (ht.nox.run [] s1 (start N vs) H _ I hq) (fun fl s' hs => ?_) fun e s' hs => hs
  rcases fl with _ | _ | _ | u
  · obtain ⟨_, H', J, q⟩ := hs
    exact ⟨V.non, H', J.os, J.bare, J.base, J.hok, rfl, q⟩
  · exact hs.choose_spec.choose_spec.2.elim
  · exact hs.choose_spec.choose_spec.2.elim
  · obtain ⟨v, _, H', J, rv, q⟩ := hs
    exact ⟨v, H', J.os, J.bare, J.base, J.hok, rv, q⟩
end
section
variable {X : Cx} {k : Nat} {f : Addr} {fd : FuncData} {ps : List Str} {sp : Sp} {E : XK} {x : Str} {p pos : Pos} {e : Expr} {es : List Expr} {t : TA}
theorem pe_callG (F : GnOk X.prog X.w X.K X.mg X.base k f fd ps sp) (hgd : X.A.guards = some []) (hr : Room k X.A) (hg : Gl X x) (hm : X.mg x = some (.ref f)) (hk : PySem.W.keepIn X.K (.ref f) = true) (hb : Binds X.K fd ps []) (ha : PA X (e :: es) t)
    (hdb : (x == ("__debug__" : Str)) = false := by decide) (he : starEach (e :: es) X.env = (false, eval e X.env) :: starEach es X.env := by rfl) (hpl : (backTo pos (starEach es X.env)).any (·.1) = false := by rfl) :
    PE X (.Call (.Name x p) (e :: es) [] pos) (tCall sp [] E0 t) := by
  refine ⟨fun pins s σ H Q I h => wpAny_Call_Name_kw (ld_glob I hg hm ?_ hdb)⟩
  refine PySem.W.callWith_K (h₀ := X.base) I.ok.mod.kin hk (thn (ha.run pos pins s σ H _ I h) fun us s1 ⟨vs, H1, I1, r, q⟩ => ⟨I1.kIn, ?_⟩) he hpl
  have q : sp vs H1 Q E0 := by
    have z : sp (vs ++ []) H1 Q E0 := q
    rwa [List.append_nil] at z
  have hl : us.length = ps.length := r.length.symm.trans (F.len _ _ _ _ q)
  have hb' := hb s1 us I1.kIn (by rw [List.append_nil]; exact hl)
  rw [List.append_nil] at hb'
  refine wpAny_call (codeAny_mono (F.run X.A X.stack s1 H1 ⟨us, []⟩ us vs Q E0 hgd hr I1.env0 hb' r q) fun r' s' hq => ?_)
  rcases r' with e' | fl
  · exact hq.elim
  · rcases fl with _ | _ | _ | u
    · exact hq.elim
    · exact hq.elim
    · exact hq.elim
    · exact I1.after hq
/-- repr(v), v data at any depth -/
def rReprD (K : PySem.W.Frag) : List V → Hp → VK → Prop := fun vs H Q => ∃ (v : V) (d : PyData), vs = [v] ∧ Dp K H v d ∧ d.showable = true ∧ d.hasDict = false ∧ d.depth ≤ 64 ∧ d.shown.length ≤ sizeLine ∧ Q (.str d.shown) H
theorem cr_reprD (hgd : X.A.guards = some []) (hu : X.A.units + 66 < cLine) : CallR X (.builtin "repr") (rReprD X.K) := by
  intro pins s σ H vs us Q I r h
  obtain ⟨v, d, rfl, hd, sh, nd, dp, sz, q⟩ := h
  obtain ⟨u, rfl, ru⟩ := vals1 r
  obtain ⟨as, rd⟩ := Dp.reads I d v u hd ru
  cases hd with
  | non => cases ru; exact PySem.P.repr_of_none ⟨.str "None", H, I.tok _, ⟨_, rfl⟩, by simpa [PyData.shown] using q⟩
  | bl b => cases ru; exact PySem.P.repr_of_bool ⟨.str (if b then "True" else "False"), H, I.tok _, ⟨_, rfl⟩, by simpa [PyData.shown] using q⟩
  | int i =>
    obtain ⟨t, rfl⟩ := ru
    exact PySem.P.repr_of_int (by simpa [PyData.showable] using sh) ⟨.str (toString i), H, I.tok _, ⟨_, rfl⟩, by simpa [PyData.shown] using q⟩
  | str x =>
    obtain ⟨t, rfl⟩ := ru
    exact PySem.P.repr_of_str ⟨.str (reprText x), H, I.tok _, ⟨_, rfl⟩, by simpa [PyData.shown] using q⟩ (by simpa [PyData.shown] using sz)
  | lst a b =>
    cases ru
    exact PySem.repr_of_reads' rd sh (fun e => by rw [nd] at e; cases e) hgd (by omega) (fun _ _ e => e) (fun h' u tk k => ⟨.str _, H, I.kept (t' := tk) k, ⟨u, rfl⟩, q⟩) sz
  | tup a b =>
    cases ru
    exact PySem.repr_of_reads' rd sh (fun e => by rw [nd] at e; cases e) hgd (by omega) (fun _ _ e => e) (fun h' u tk k => ⟨.str _, H, I.kept (t' := tk) k, ⟨u, rfl⟩, q⟩) sz
end
/-- the law's own call, its promise with the guards told -/
theorem law_callG {P : Program} {w : World} {K : PySem.W.Frag} {mg mb : Str → Option Value} {k : Nat} {fa a : Addr} {fd : FuncData} {x : Str} {sp : Sp} {s₁ : Shared} {vs : List Value} {ns : List Int}
    (KX : K.In s₁.heap) (hns : s₁.heap.Ns mainGlobals mg) (hb : s₁.heap.Ns builtinsNs mb) (hbb : ∀ x : Str, x ≠ "__name__" → mb x = bootBuiltins x) (hlim : s₁.heap.NoLimit) (hg : s₁.gens = #[])
    (ha : s₁.heap.get? a = some { cls := .type "list", data := .seq vs.toArray }) (hi : IntsAre vs ns) (hl : ns.length ≤ sizeLine) (hr : Room k callerA)
    (F : ∀ base : Heap, K.In base → base.Ns mainGlobals mg → GnOk P w K mg base k fa fd [x] sp) (bind : ∀ (s : Shared) (u : Value), BindsTo s fd ⟨[u], []⟩ [(x, u)])
    (ask : ∀ H : Hp, Only H → SqL K H a (ns.map V.int) → sp [.ref a] H (fun v _ => v = .bl true) E0) :
    codeAny (model P w) callerA (.call (.ref fa) ⟨[.ref a], []⟩) (fun r s' => r = .ok (.ret (.bool true)) ∧ OldK s₁.heap s'.heap ∧ s'.os = s₁.os ∧ AllBare s'.gens) s₁ := by
  have rv := vals_ints hi
  have lenV := hi.length
  have from_ : ∀ H : Hp, Only H → SqL K H a (ns.map V.int) → HOk P w H s₁.heap → (∀ b, H b ≠ none → b = a ∧ K.lookup a = none) →
      codeAny (model P w) callerA (.call (.ref fa) ⟨[.ref a], []⟩) (fun r s' => r = .ok (.ret (.bool true)) ∧ OldK s₁.heap s'.heap ∧ s'.os = s₁.os ∧ AllBare s'.gens) s₁ := by
    intro H only hS hok hA
    have free : ∀ {b : Addr} {o : Obj}, s₁.heap.get? b = some o → (b = a → False) → H b = none := fun {b o} _ n => by
      cases q : H b with
      | none => rfl
      | some u => exact (n (hA b (by rw [q]; simp)).1).elim
    have low : ∀ {b : Addr} {o : Obj}, s₁.heap.get? b = some o → H b = none → (hidT s₁.heap H).get? b = some o := fun e n => hidT_get e n
    have names : ∀ {b : Addr} {m : Str → Option Value}, s₁.heap.Ns b m → (hidT s₁.heap H).Ns b m := fun {b m} ⟨o, es, ep, e, d, r⟩ =>
      ⟨o, es, ep, low e (free e fun z => by subst z; rw [ha] at e; cases e; cases d), d, r⟩
    have hK : K.In (hidT s₁.heap H) := fun b o e => low (KX b o e) (by
      cases q : H b with
      | none => rfl
      | some u =>
        obtain ⟨z, zk⟩ := hA b (by rw [q]; simp)
        subst z
        rw [zk] at e; cases e)
    have M : Mod K mg (hidT s₁.heap H) := ⟨hK, names hns, ⟨mb, names hb, hbb⟩, let ⟨mc, h1, h2⟩ := hlim; ⟨mc, names h1, h2⟩⟩
    have e0 : Env0 P w K mg (hidT s₁.heap H) callerA [] s₁ H := ⟨rfl, M, fun b o e => of_hidT e, Nat.le_of_eq (hidT_size _ _), trivial, fun b z => absurd (show b ∈ ([] : List Addr) from z) (by simp), hok, .of_eq hg⟩
    refine codeAny_mono ((F _ hK (names hns)).run callerA [] s₁ H ⟨[.ref a], []⟩ [.ref a] [.ref a] _ _ rfl hr e0 (bind s₁ (.ref a)) (.cons rfl .nil) (ask H only hS)) fun r s' h => ?_
    rcases r with e | fl
    · exact h.elim
    · rcases fl with _ | _ | _ | u
      · exact h.elim
      · exact h.elim
      · exact h.elim
      · obtain ⟨v, H', os, bare, un, hok', r', q⟩ := h
        obtain rfl : v = .bl true := q
        obtain rfl : u = Value.bool true := r'
        refine ⟨rfl, OldK.of_keep fun b o e => ?_, os, bare⟩
        cases q : H b with
        | none => exact un.keep b o e q (by intro z; exact absurd (show b ∈ ([] : List Addr) from z) (by simp)) (by simp)
        | some u =>
          rcases only b with z | ⟨ob, xs, z⟩
          · rw [q] at z; cases z
          · obtain ⟨e1, _⟩ := hok b _ z
            obtain ⟨e2, _⟩ := hok' b _ (un.frzs b ob _ z)
            rw [e] at e1; cases e1
            exact e2
  cases hk : K.lookup a with
  | some o =>
    have e := KX a o hk
    rw [ha] at e
    cases e
    exact from_ (fun _ => none) (fun _ => .inl rfl) (.inr ⟨_, vs.toArray, _, hk, rfl, rfl, rfl, by rw [List.size_toArray, lenV]; exact hl, by simpa using rv⟩) (fun b u z => nomatch (show (none : Option HO) = some u from z)) fun b z => absurd rfl z
  | none =>
    have at_ : ∀ b, (fun b => if b = a then some (HO.frz { cls := .type "list", data := .seq vs.toArray } (.lst (ns.map V.int))) else none) b ≠ none → b = a := fun b z => by
      by_cases hb : b = a
      · exact hb
      · exact absurd (if_neg hb) z
    refine from_ _ (fun b => ?_) (.inl (.inr ⟨_, if_pos rfl⟩)) (fun b u z => ?_) fun b z => ⟨at_ b z, hk⟩
    · by_cases hb : b = a
      · exact .inr ⟨_, _, if_pos hb⟩
      · exact .inl (if_neg hb)
    · have hb := at_ b (fun e => by have y := z.symm.trans e; cases y)
      subst hb
      have z' := (if_pos rfl).symm.trans z
      cases z'
      exact ⟨ha, by rw [List.length_map]; exact hl, vs, _, rv, ha⟩
theorem walk_ofG {l : PySem.W.OpenLaw} {n k : Nat} {q : Program} {loose : List Str} {XP : (Str → Option Value) → Heap → Prop} {YP : World → Heap → Prop} {d : DefRec} {K : Params → PySem.W.Frag} {sp : PySem.W.Frag → Sp} {x : Str}
    (hn : l.most = some n) (hn2 : n ≤ sizeLine) (hdf : d.params.defaults = []) (hr : Room k callerA) (hY : ∀ (w : World) (h : Heap), YP w h → (K w.params).In h)
    (F : ∀ (w : World) (mg : Str → Option Value) (fa : Addr) (h : Heap), (K w.params).In h → h.Ns mainGlobals mg → mg d.name = some (.ref fa) →
      ∃ fd : FuncData, (∀ (s : Shared) (u : Value), BindsTo s fd ⟨[u], []⟩ [(x, u)]) ∧ ∀ base : Heap, (K w.params).In base → base.Ns mainGlobals mg → GnOk l.prog w (K w.params) mg base k fa fd [x] (sp (K w.params)))
    (ask : ∀ (K : PySem.W.Frag) (H : Hp) (a : Addr) (ns : List Int), ns.length ≤ n → Only H → SqL K H a (ns.map V.int) → sp K [.ref a] H (fun v _ => v = .bl true) E0) :
    PySem.W.WalkO q loose XP YP l.row.toRowW d [] (fun f vs => PySem.call f vs) := by
  refine Att.attach_call hn hdf fun w s₀ s₁ mg mb fa o pm cd doc a vs ns G Y ho hd hcd hmg hobj hints hlen hg => ?_
  obtain ⟨fd, hb, hF⟩ := F w mg fa _ (hY w _ Y) G.T.g hmg
  exact law_callG (hY w _ Y) G.T.g G.T.b G.T.builtins G.T.nolimit hg hobj hints (Nat.le_trans hlen hn2) hr hF hb fun H hO hS => ask _ H a ns hlen hO hS
end Rp

namespace Rp
open PySem L2
def top (i : Nat) : Stmt := PySem.Challenge.pw_ringproofs_k13_rules_told_and_clashes.main.body.getD i (.Pass ⟨0, 0, 0, 0⟩)
abbrev sErr : Stmt := top 2
abbrev sDefs : Stmt := top 7
abbrev sBox : Stmt := top 9
abbrev sTake : Stmt := top 10
abbrev sPick : Stmt := top 11
abbrev sFolded : Stmt := top 12
abbrev sSame : Stmt := top 13
abbrev sWords : Stmt := top 14
abbrev sCounts : Stmt := top 15
abbrev sHead : Stmt := top 16
abbrev sRule : Stmt := top 17
abbrev sDueClash : Stmt := top 18
abbrev sToldOn : Stmt := top 19
abbrev sAnyRule : Stmt := top 20
abbrev sDefsTold : Stmt := top 21
abbrev sDefsDue : Stmt := top 22
abbrev sAsked : Stmt := top 23
abbrev sMadeL : Stmt := top 24
abbrev sBegun : Stmt := top 25
abbrev sUnlikeL : Stmt := top 26
abbrev sLaw : Stmt := top 27
end Rp

namespace Rp
open PySem L2
/-! ### promises -/
def spBox (K : PySem.W.Frag) : Sp := fun vs H Q _ => ∃ (a : Addr) (ns : List Int) (k : Int), vs = [.ref a, .int k] ∧ SqL K H a (ns.map V.int) ∧ ns.length ≤ 63 ∧ 0 ≤ k ∧ k ≤ 63 ∧
  ∀ (b : Addr) (H' : Hp), H b = none → BoxAt H' b 0 → Same H H' → Q (.ref b) H'
def spTake : Sp := fun vs H Q _ => ∃ (b : Addr) (c : Int) (j : Nat), vs = [.ref b, .int c] ∧ BoxAt H b j ∧ j ≤ 1000000 ∧ 1 ≤ c ∧ c ≤ 1000000 ∧
  ∀ (r : Int) (H' : Hp), 0 ≤ r → r < c → BoxAt H' b (j + 1) → But b H H' → Q (.int r) H'
def spPick : Sp := fun vs H Q _ => ∃ (b p : Addr) (xs : List V) (j : Nat), vs = [.ref b, .ref p] ∧ BoxAt H b j ∧ j ≤ 1000000 ∧ H p = some (.lst xs) ∧ p ≠ b ∧ 1 ≤ xs.length ∧ xs.length ≤ 1000000 ∧
  ∀ (v : V) (H' : Hp), v ∈ xs → BoxAt H' b (j + 1) → But b H H' → Q v H'
section
variable {P : Program} {w : World} {K : PySem.W.Frag} {mg : Str → Option Value} {base : Heap}
theorem fmod_pos {a c : Int} (h : 0 < c) : 0 ≤ a.fmod c ∧ a.fmod c < c := by
  rw [Int.fmod_eq_emod_of_nonneg a (Int.le_of_lt h)]
  exact ⟨Int.emod_nonneg a (by omega), Int.emod_lt_of_pos a h⟩
theorem fdiv_pos {a c : Int} (h : 0 < c) (ha : 0 ≤ a) : 0 ≤ a.fdiv c := by
  rw [Int.fdiv_eq_ediv_of_nonneg a (Int.le_of_lt h)]
  exact Int.ediv_nonneg ha (Int.le_of_lt h)
theorem scBox : FnScope ["_law_script", "_law_k", "_law_cell"] ["_law_script", "_law_k"] (defScope sBox) := ⟨rfl, rfl, rfl, by decide +kernel, rfl, by decide +kernel, by decide +kernel⟩
theorem ok_box {f : Addr} {fd : FuncData} (F : Fun K "_law_box" "_law_box" sBox f fd) (mLen : mg "len" = none) (mAbs : mg "abs" = none) (mInt : mg "int" = none) :
    FnOk P w K mg base CX0 1 f fd ["_law_script", "_law_k"] (spBox K) := by
  refine F.ok scBox (fun vs H Q E h => ?_) (fun cdv A outer s H vs Q E hr h => ?_)
  · obtain ⟨a, ns, k, rfl, _⟩ := h
    rfl
  obtain ⟨a, ns, k, rfl, hS, hl, h0, h1, q⟩ := h
  refine ⟨_, pss_cons (ps_set (i := 2) scBox.nd rfl (Or.inl rfl) pe_int)
    (pss_cons (ps_if (pt_cmpR op_lt (pv 1) (pe_callB call_len_seq (by rfl) mLen PySem.boot_len (pa_cons (pv 0) pa_nil)) (nomark _))
      (pss_one (ps_set (i := 2) scBox.nd rfl (Or.inl rfl) (pe_ix ix_list (pv 0) (pv 1) (fun _ _ => rfl)))) pss_nil)
    (pss_one (ps_ret (pe_lst (pa_cons
      (pe_op op_mul (pe_callB call_abs (by rfl) mAbs (by decide +kernel) (pa_cons (pv 2) pa_nil))
        (pe_callTy call_int1 (by rfl) mInt (by decide +kernel) (pa_cons (pe_cmpR op_ge (pe_callB call_abs (by rfl) mAbs (by decide +kernel) (pa_cons (pv 2) pa_nil)) (pe_op op_pow pe_int pe_int) (nomark _)) pa_nil)))
      (pa_cons (pe_op op_add (pe_op op_add (pe_op op_modN (pv 2) pe_int) (pe_op op_mul pe_int (pv 1))) pe_int) (pa_cons pe_int pa_nil))))))), ?_⟩
  refine ⟨_, rfl, _, rfl, a, _, rfl, .inl hS, _, _, rfl, rfl, _, rfl, ?_⟩
  have two : ∀ (b : Bool), -(2 ^ 64) < (if b = true then (1 : Int) else 0) ∧ (if b = true then (1 : Int) else 0) < 2 ^ 64 ∧ 0 ≤ (if b = true then (1 : Int) else 0) := by decide
  have pos : ∀ c : Int, 0 ≤ if c < 0 then -c else c := fun c => by split <;> omega
  have m := fun c : Int => fmod_pos (a := c) (c := 2147483629) (by decide)
  refine ite2 (fun c => ?_) (fun c => ?_)
  · have hk : k.toNat < ns.length := by
      have z : k < (((ns.map V.int).length : Nat) : Int) := of_decide_eq_true c
      rw [List.length_map] at z
      omega
    have it : atI (ns.map V.int) k = some (.int ns[k.toNat]) := at_of (j := k.toNat) (by omega) (by rw [List.getElem?_map, List.getElem?_eq_getElem hk]; rfl)
    refine ⟨_, rfl, _, rfl, a, _, _, _, rfl, rfl, hS, it, ?_⟩
    refine ⟨_, rfl, _, rfl, _, rfl, _, rfl, _, _, rfl, rfl, ⟨by decide, by decide, by decide⟩, _, _, rfl, rfl, .inr ⟨_, rfl, ?_⟩⟩
    refine ⟨_, _, rfl, rfl, .inr ⟨(two _).1, (two _).2.1⟩, _, rfl, _, _, rfl, rfl, (fun h => absurd h (by decide)), _, rfl, _, _, rfl, rfl, .inl ⟨by decide, by decide⟩, _, _, rfl, rfl, _, _, rfl, rfl, (by show 3 ≤ sizeLine; decide), fun b hb => ?_⟩
    have mm := m ns[k.toNat]
    exact q b _ hb ⟨_, _, _, upd_same, Int.mul_nonneg (pos _) (two _).2.2, by omega, by omega, by decide, by decide⟩ (same_new hb _)
  · refine ⟨_, rfl, _, rfl, _, rfl, _, rfl, _, _, rfl, rfl, ⟨by decide, by decide, by decide⟩, _, _, rfl, rfl, .inr ⟨_, rfl, ?_⟩⟩
    refine ⟨_, _, rfl, rfl, .inr ⟨(two _).1, (two _).2.1⟩, _, rfl, _, _, rfl, rfl, (fun h => absurd h (by decide)), _, rfl, _, _, rfl, rfl, .inl ⟨by decide, by decide⟩, _, _, rfl, rfl, _, _, rfl, rfl, (by show 3 ≤ sizeLine; decide), fun b hb => ?_⟩
    have mm := m 0
    exact q b _ hb ⟨_, _, _, upd_same, Int.mul_nonneg (pos _) (two _).2.2, by omega, by omega, by decide, by decide⟩ (same_new hb _)
theorem scTake : FnScope ["_law_box_here", "_law_top", "_law_found", "_law_once"] ["_law_box_here", "_law_top"] (defScope sTake) := ⟨rfl, rfl, rfl, by decide +kernel, rfl, by decide +kernel, by decide +kernel⟩
theorem ok_take {f : Addr} {fd : FuncData} (F : Fun K "_law_take" "_law_take" sTake f fd) : FnOk P w K mg base CX0 1 f fd ["_law_box_here", "_law_top"] spTake := by
  refine F.ok scTake (fun vs H Q E h => ?_) (fun cdv A outer s H vs Q E hr h => ?_)
  · obtain ⟨b, c, j, rfl, _⟩ := h
    rfl
  obtain ⟨b, c, j, rfl, B, hj, h1, h2, q⟩ := h
  obtain ⟨x, y, z, hb, x0, y0, y1, z0, z1⟩ := id B
  have s0 : SqL K H b [.int x, .int y, .int z] := .inl (.inl hb)
  have a0 : ∀ u v t : Int, atI [V.int u, .int v, .int t] 0 = some (.int u) := fun u v t => at_of (j := 0) rfl rfl
  have a1 : ∀ u v t : Int, atI [V.int u, .int v, .int t] 1 = some (.int v) := fun u v t => at_of (j := 1) rfl rfl
  have a2 : ∀ u v t : Int, atI [V.int u, .int v, .int t] 2 = some (.int t) := fun u v t => at_of (j := 2) rfl rfl
  refine ⟨_, pss_cons (ps_if (pt_cmpR op_gt (pe_ix ix_list (pv 0) pe_int (fun _ _ => rfl)) pe_int (nomark _))
      (pss_cons (ps_set (i := 2) scTake.nd rfl (Or.inl rfl) (pe_op op_modN (pe_ix ix_list (pv 0) pe_int (fun _ _ => rfl)) (pv 1)))
      (pss_cons (ps_asg (pe_op op_fdivN (pe_ix ix_list (pv 0) pe_int (fun _ _ => rfl)) (pv 1)) (pg_sub (pv 0) pe_int set_list))
      (pss_one (ps_ret (pv 2))))) pss_nil)
    (pss_cons (ps_asg (pe_op op_add (pe_ix ix_list (pv 0) pe_int (fun _ _ => rfl)) pe_int) (pg_sub (pv 0) pe_int set_list))
    (pss_cons (ps_set (i := 3) scTake.nd rfl (Or.inl rfl) (pe_op op_modN (pe_op op_pow (pe_op op_add (pe_ix ix_list (pv 0) pe_int (fun _ _ => rfl)) (pe_op op_mul pe_int (pe_ix ix_list (pv 0) pe_int (fun _ _ => rfl)))) pe_int) pe_int))
    (pss_one (ps_ret (pe_op op_modN (pe_op op_fdivN (pe_op op_modN (pe_op op_add (pe_op op_mul (pv 3) (pe_op op_add (pe_op op_modN (pv 3) pe_int) pe_int)) (pe_op op_mul (pe_ix ix_list (pv 0) pe_int (fun _ _ => rfl)) pe_int)) pe_int) pe_int) (pv 1)))))), ?_⟩
  refine ⟨_, rfl, b, _, _, _, rfl, rfl, s0, a0 _ _ _, _, _, rfl, rfl, _, rfl, ?_⟩
  refine ite2 (fun d => ?_) (fun d => ?_)
  · refine ⟨_, rfl, b, _, _, _, rfl, rfl, s0, a0 _ _ _, _, rfl, _, _, rfl, rfl, (by omega), ?_⟩
    refine ⟨_, rfl, b, _, _, _, rfl, rfl, s0, a0 _ _ _, _, rfl, _, _, rfl, rfl, ⟨by omega, by omega⟩, ?_⟩
    refine ⟨_, rfl, b, _, _, 0, rfl, rfl, hb, rfl, ?_⟩
    have m := fmod_pos (a := x) (c := c) (by omega)
    exact ⟨_, rfl, q _ _ m.1 m.2 ⟨_, _, _, upd_same, fdiv_pos (by omega) x0, y0, y1, z0, by omega⟩ (but_upd _)⟩
  · refine ⟨_, rfl, b, _, _, _, rfl, rfl, s0, a2 _ _ _, _, _, rfl, rfl, ?_⟩
    refine ⟨_, rfl, b, _, _, 2, rfl, rfl, hb, rfl, ?_⟩
    have hb' : (upd H b (.lst [.int x, .int y, .int (z + 1)])) b = some (.lst [.int x, .int y, .int (z + 1)]) := upd_same
    have s1 : SqL K (upd H b (.lst [.int x, .int y, .int (z + 1)])) b [.int x, .int y, .int (z + 1)] := .inl (.inl hb')
    refine ⟨_, rfl, b, _, _, _, rfl, rfl, s1, a1 _ _ _, _, rfl, b, _, _, _, rfl, rfl, s1, a2 _ _ _, _, _, rfl, rfl, .inl ⟨by decide, by decide⟩, _, _, rfl, rfl, _, _, rfl, rfl, ⟨by decide, by decide, by omega⟩, _, _, rfl, rfl, (fun h => absurd h (by decide)), ?_⟩
    generalize (y + 39373 * (z + 1)) ^ Int.toNat 5 = g
    have m := fmod_pos (a := g) (c := 2147483647) (by decide)
    refine ⟨_, rfl, _, rfl, _, _, rfl, rfl, (fun h => absurd h (by decide)), _, _, rfl, rfl, _, _, rfl, rfl, .inl ⟨by omega, by omega⟩, _, rfl, b, _, _, _, rfl, rfl, s1, a2 _ _ _, _, _, rfl, rfl, .inl ⟨by omega, by omega⟩, _, _, rfl, rfl, _, _, rfl, rfl, (fun h => absurd h (by decide)), _, _, rfl, rfl, ⟨by decide, by decide⟩, _, rfl, _, _, rfl, rfl, (by omega), ?_⟩
    generalize Int.fdiv _ _ = e
    have m2 := fmod_pos (a := e) (c := c) (by omega)
    exact q _ _ m2.1 m2.2 ⟨_, _, _, upd_same, x0, y0, y1, by omega, by omega⟩ (but_upd _)
theorem scPick : FnScope ["_law_box_here", "_law_things"] ["_law_box_here", "_law_things"] (defScope sPick) := ⟨rfl, rfl, rfl, by decide +kernel, rfl, by decide +kernel, by decide +kernel⟩
theorem ok_pick {f fT : Addr} {fd fdT : FuncData} (F : Fun K "_law_pick" "_law_pick" sPick f fd) (FT : Fun K "_law_take" "_law_take" sTake fT fdT) (bT : Binds K fdT ["_law_box_here", "_law_top"] []) (mT : mg "_law_take" = some (.ref fT)) (mLen : mg "len" = none) :
    FnOk P w K mg base CX0 2 f fd ["_law_box_here", "_law_things"] spPick := by
  have GT : FnOk P w K mg base CX0 1 fT fdT ["_law_box_here", "_law_top"] spTake := ok_take FT
  refine F.ok scPick (fun vs H Q E h => ?_) (fun cdv A outer s H vs Q E hr h => ?_)
  · obtain ⟨b, p, xs, j, rfl, _⟩ := h
    rfl
  obtain ⟨b, p, xs, j, rfl, B, hj, hp, ne, l1, l2, q⟩ := h
  refine ⟨_, pss_one (ps_ret (pe_ix ix_list (pv 1) (pe_call GT hr rfl mT FT.kp bT .nil pass0 (pa_cons (pv 0) (pa_cons (pe_callB call_len_seq (by rfl) mLen PySem.boot_len (pa_cons (pv 1) pa_nil)) pa_nil))) (fun _ _ => rfl))), ?_⟩
  refine ⟨_, rfl, _, rfl, _, rfl, p, _, rfl, .inl (.inl (.inl hp)), b, _, j, rfl, B, hj, by omega, by omega, fun r H' r0 r1 B' o => ?_⟩
  have hr' : r.toNat < xs.length := by omega
  refine ⟨p, _, _, _, rfl, rfl, .inl (.inl (o _ _ hp ne)), at_of (j := r.toNat) (v := xs[r.toNat]) (by omega) (List.getElem?_eq_getElem hr'), ?_⟩
  exact q _ _ (List.getElem_mem hr') B' o
end
end Rp

namespace Rp
open PySem L2
section
variable {P : Program} {w : World} {K : PySem.W.Frag} {mg : Str → Option Value} {base : Heap}
theorem none_left {k : Nat} {f : Addr} {fd : FuncData} {ps : List Str} {sp : Sp} (no : ∀ vs H Q E, ¬ sp vs H Q E) : FnOk P w K mg base CX0 k f fd ps sp :=
  ⟨fun vs H Q E h => absurd h (no vs H Q E), fun A outer s H args us vs Q E _ _ _ _ h => absurd h (no vs H Q E)⟩
theorem v1_ne {x y : Int} (c : ¬ decide (V.int x = V.int y) = true) : x ≠ y := fun e => c (by rw [e]; simp)
theorem v1_eq {x y : Int} (c : decide (V.int x = V.int y) = true) : x = y := V.int.inj (of_decide_eq_true c)
theorem big1000 : (1000 : Nat) ≤ sizeLine := by decide
end
end Rp

namespace Rp
open PySem L2
/-- the value of a TERM is an int or a tuple that stands -/
theorem TmAt.ty {K : PySem.W.Frag} {H : Hp} {v : V} {t : Tm} (h : TmAt H v t) : (∃ n, v = .int n ∧ t = .v n) ∨ (∃ a xs, v = .ref a ∧ H a = some (.tup xs) ∧ TyX K H v (.type "tuple") ∧ (∀ n, t ≠ .v n)) := by
  cases h with
  | v n => exact .inl ⟨n, rfl, rfl⟩
  | z h => exact .inr ⟨_, _, rfl, h, .base (.tup h), fun n e => by cases e⟩
  | s h _ => exact .inr ⟨_, _, rfl, h, .base (.tup h), fun n e => by cases e⟩
  | f h _ _ => exact .inr ⟨_, _, rfl, h, .base (.tup h), fun n e => by cases e⟩
def signHead : Tm → Str
  | .v _ => "" | .z => "0" | .s _ => "s" | .f _ _ => "f"
/-- a TERM that is no variable: its tuple, its parts -/
theorem TmAt.tupled {H : Hp} {v : V} {t : Tm} (h : TmAt H v t) (no : ∀ n, t ≠ .v n) : ∃ a ks, v = .ref a ∧ H a = some (.tup (.str (signHead t) :: ks)) ∧ ks.length = t.kids.length ∧ ∀ (i : Nat) (x : V) (k : Tm), ks[i]? = some x → t.kids[i]? = some k → TmAt H x k := by
  cases h with
  | v n => exact absurd rfl (no n)
  | z h => exact ⟨_, [], rfl, h, rfl, fun i x k h => by simp at h⟩
  | @s a x t h q =>
    refine ⟨_, [x], rfl, h, rfl, fun i y k h1 h2 => ?_⟩
    cases i with
    | zero => simp [Tm.kids] at h1 h2; subst h1 h2; exact q
    | succ i => simp at h1
  | @f a x y l r h q q' =>
    refine ⟨_, [x, y], rfl, h, rfl, fun i u k h1 h2 => ?_⟩
    match i with
    | 0 => simp [Tm.kids] at h1 h2; subst h1 h2; exact q
    | 1 => simp [Tm.kids] at h1 h2; subst h1 h2; exact q'
    | i + 2 => simp at h1
theorem signs_kids : ∀ {t : Tm}, (∀ n, t ≠ .v n) → t.signs = .str (signHead t) :: t.kids.flatMap Tm.signs
  | .v n, h => absurd rfl (h n)
  | .z, _ => rfl
  | .s t, _ => by simp [Tm.signs, Tm.kids, signHead]
  | .f l r, _ => by simp [Tm.signs, Tm.kids, signHead]
theorem kid_deep {t k : Tm} (h : k ∈ t.kids) : k.deep < t.deep := by
  cases t with
  | v n => simp [Tm.kids] at h
  | z => simp [Tm.kids] at h
  | s t => simp [Tm.kids] at h; subst h; exact Nat.lt_succ_self _
  | f l r =>
    simp [Tm.kids] at h
    rcases h with h | h <;> subst h <;> (simp only [Tm.deep]; omega)
theorem kid_size {t k : Tm} (h : k ∈ t.kids) : k.size < t.size := by
  cases t with
  | v n => simp [Tm.kids] at h
  | z => simp [Tm.kids] at h
  | s t => simp [Tm.kids] at h; subst h; exact Nat.lt_succ_self _
  | f l r =>
    simp [Tm.kids] at h
    rcases h with h | h <;> subst h <;> (simp only [Tm.size]; omega)
theorem take_flat {t : Tm} (i : Nat) : ((t.kids.take i).flatMap Tm.signs).length ≤ t.size := by
  cases t with
  | v n => simp [Tm.kids]
  | z => simp [Tm.kids]
  | s t =>
    match i with
    | 0 => simp
    | i + 1 => simp [Tm.kids, Tm.signs_len, Tm.size]
  | f l r =>
    match i with
    | 0 => simp
    | 1 => simp [Tm.kids, Tm.signs_len, Tm.size]; try omega
    | i + 2 => simp [Tm.kids, Tm.signs_len, Tm.size]; try omega
theorem cut_tail (x : V) (ks : List V) : cutV (x :: ks) (some 1) none = ks := by
  have e : HT.sIx (x :: ks).length 0 (some 1) = 1 := by
    have := HT.sIx_nat (x :: ks).length 0 1
    rw [List.length_cons] at this ⊢
    rw [show (some 1 : Option Int) = some ((1 : Nat) : Int) from rfl, this]
    omega
  unfold cutV
  rw [e, HT.sIx_none, List.drop_one, List.tail_cons, List.take_of_length_le (by simp)]
theorem cut_part (x : V) (ks : List V) : ¬ (HT.sIx (x :: ks).length 0 (some 1) = 0 ∧ HT.sIx (x :: ks).length (x :: ks).length none = (x :: ks).length) := by
  have := HT.sIx_nat (x :: ks).length 0 1
  rw [List.length_cons] at this ⊢
  rw [show (some 1 : Option Int) = some ((1 : Nat) : Int) from rfl, this]
  omega
section
variable {P : Program} {w : World} {K : PySem.W.Frag} {mg : Str → Option Value} {base : Heap}
theorem kit_ii : PySem.W.kitOne K (.type "int") (.type "int") = some true := kit_ty (by decide +kernel)
theorem kit_ti : PySem.W.kitOne K (.type "tuple") (.type "int") = some false := kit_ty (by decide +kernel)
theorem kit_si : PySem.W.kitOne K (.type "str") (.type "int") = some false := kit_ty (by decide +kernel)
end
end Rp

namespace Rp
open PySem PySem.Spec PyProof.Rows L2
/-- list.extend by any tuple object -/
theorem extend_by (l : Addr) (xs : Array Value) (n : Nat) (b : Addr) (od : Option Addr) (ys : Array Value) (m : Nat) (sl : Array (Option Value)) (short : ¬(!xs.isEmpty && Builtin.List.listTooLong (xs.size + ys.size)) = true) (h1 : xs.size ≤ sizeLine) (h2 : xs.size + ys.size ≤ sizeLine + 1) :
    Meets (Builtin.«list.extend» ⟨[.ref l, .ref b], []⟩) (fun _ R s => s.heap.get? l = some { cls := .type "list", data := .seq xs n } ∧ s.heap.get? b = some ⟨.type "tuple", od, .seq ys m, sl⟩ ∧
      R (.ok (.ret Value.none)) { s with heap := s.heap.update l (Obj.mapSeq fun x => x ++ ys) }) :=
  .of_wp fun prog w A R s ⟨hl, hb, h⟩ => by
    obtain ⟨hp, g, d, tk, os⟩ := s
    have g1 := sub_list_list
    have g2 := sub_tuple_list
    have g3 := sub_tuple_tuple
    have g4 := sub_list_tuple
    have both : (xs ++ ys).size ≤ sizeLine + 1 := by rw [Array.size_append]; exact h2
    wp_walk using (wpAny_updateSeq hl rfl (hz := h1) (_hz' := both)), wpAny_loadPart' hl, wpAny_loadPart' hb
    exact ⟨_, rfl, h⟩
section
variable {X : Cx}
/-- xs.extend(t), t a tuple -/
def rExtT (K : PySem.W.Frag) : V → List V → Hp → VK → Prop := fun x vs H Q => ∃ (l b : Addr) (xs zs : List V), x = .ref l ∧ vs = [.ref b] ∧ H l = some (.lst xs) ∧ SqT K H b zs ∧ xs.length + zs.length ≤ sizeLine ∧ Q .non (upd H l (.lst (xs ++ zs)))
theorem mt_extendT : MtM X "list.extend" (rExtT X.K) := by
  intro pins s σ H x vs v us Q I rx rv h
  obtain ⟨l, b, xs, zs, rfl, rfl, hH, hB, few, q⟩ := h
  cases rx
  obtain ⟨u, rfl, ru⟩ := rv.one
  cases ru
  obtain ⟨z, its, n, r, hl, e⟩ := I.lstM hH
  obtain ⟨its2, r2, ⟨⟨c2, d2, dat2, sl2⟩, e2, hc2, n2, hd2⟩, hz2⟩ := I.tuple hB
  simp only at hc2 hd2
  subst hc2 hd2
  have l1 := r.length
  have l2 := r2.length
  have room : its.toArray.size + its2.toArray.size ≤ sizeLine := by rw [List.size_toArray, List.size_toArray]; omega
  have short : ¬ (!its.toArray.isEmpty && Builtin.List.listTooLong (its.toArray.size + its2.toArray.size)) = true := by
    rw [notLongL room, Bool.and_false]; exact Bool.false_ne_true
  refine call_meets PySem.F.slot_list_extend ⟨_, e, rfl⟩ PySem.F.entry_list_extend (PySem.F.args_list_extend_2 _ _) (extend_by l its.toArray n b d2 its2.toArray n2 sl2 short (by rw [List.size_toArray]; omega) (by omega)) ⟨e, e2, ?_⟩
  refine ⟨.non, _, I.lset (its' := its ++ its2) (t' := s.toks) hH e (by simp) (r.append r2) ?_, rfl, q⟩
  rw [List.length_append]; omega
end
end Rp

namespace Rp
open PySem L2
/-- values and TERMs side by side -/
def AllAt (H : Hp) : List V → List Tm → Prop
  | [], [] => True
  | x :: xs, t :: ts => TmAt H x t ∧ AllAt H xs ts
  | _, _ => False
theorem AllAt.len {H : Hp} : ∀ {xs : List V} {ts : List Tm}, AllAt H xs ts → xs.length = ts.length
  | [], [], _ => rfl
  | x :: xs, t :: ts, h => congrArg (· + 1) (AllAt.len h.2)
theorem AllAt.append {H : Hp} : ∀ {xs ys : List V} {ts us : List Tm}, AllAt H xs ts → AllAt H ys us → AllAt H (xs ++ ys) (ts ++ us)
  | [], _, [], _, _, h => h
  | x :: xs, _, t :: ts, _, h, h' => ⟨h.1, AllAt.append h.2 h'⟩
theorem AllAt.parted {H : Hp} : ∀ {xs ys : List V} {ts : List Tm}, AllAt H (xs ++ ys) ts → ∃ t1 t2, ts = t1 ++ t2 ∧ AllAt H xs t1 ∧ AllAt H ys t2
  | [], _, ts, h => ⟨[], ts, rfl, trivial, h⟩
  | x :: xs, ys, t :: ts, h => by
    obtain ⟨t1, t2, e, h1, h2⟩ := AllAt.parted (xs := xs) h.2
    exact ⟨t :: t1, t2, by rw [e]; rfl, ⟨h.1, h1⟩, h2⟩
theorem AllAt.mono {H H' : Hp} (e : ∀ a xs, H a = some (.tup xs) → H' a = some (.tup xs)) : ∀ {xs : List V} {ts : List Tm}, AllAt H xs ts → AllAt H' xs ts
  | [], [], _ => trivial
  | x :: xs, t :: ts, h => ⟨h.1.mono e, AllAt.mono e h.2⟩
theorem AllAt.back {H : Hp} : ∀ {xs : List V} {ts : List Tm}, AllAt H xs ts → AllAt H xs.reverse ts.reverse
  | [], [], _ => trivial
  | x :: xs, t :: ts, h => by
    rw [List.reverse_cons, List.reverse_cons]
    exact (AllAt.back h.2).append ⟨h.1, trivial⟩
theorem AllAt.get {H : Hp} : ∀ {xs : List V} {ts : List Tm} {i : Nat} {x : V}, AllAt H xs ts → xs[i]? = some x → ∃ t, ts[i]? = some t ∧ TmAt H x t
  | x :: xs, t :: ts, 0, y, h, e => by simp at e; subst e; exact ⟨t, rfl, h.1⟩
  | x :: xs, t :: ts, i + 1, y, h, e => by simpa using AllAt.get h.2 (by simpa using e)
theorem AllAt.of {H : Hp} : ∀ {xs : List V} {ts : List Tm}, xs.length = ts.length → (∀ (i : Nat) (x : V) (k : Tm), xs[i]? = some x → ts[i]? = some k → TmAt H x k) → AllAt H xs ts
  | [], [], _, _ => trivial
  | x :: xs, t :: ts, l, h => ⟨h 0 x t rfl rfl, AllAt.of (by simpa using l) fun i y k a b => h (i + 1) y k (by simpa using a) (by simpa using b)⟩
def spParts : Sp := fun vs H Q _ => ∃ (v : V) (t : Tm), vs = [v] ∧ TmAt H v t ∧ ∀ (p : Addr) (ks : List V) (H' : Hp), H p = none → H' p = some (.tup ks) → AllAt H' ks t.kids → Same H H' → Q (.ref p) H'
def spInside : Sp := fun vs H Q _ => ∃ (v : V) (t : Tm), vs = [v] ∧ TmAt H v t ∧ t.size ≤ 1000 ∧ ∀ (p : Addr) (xs : List V) (H' : Hp), H p = none → H' p = some (.lst xs) → AllAt H' xs t.rpost.reverse → Same H H' → Q (.ref p) H'
def spSize : Sp := fun vs H Q _ => ∃ (v : V) (t : Tm), vs = [v] ∧ TmAt H v t ∧ t.size ≤ 1000 ∧ ∀ H', Same H H' → Q (.int (t.size : Nat)) H'
def spVars : Sp := fun vs H Q _ => ∃ (v : V) (t : Tm), vs = [v] ∧ TmAt H v t ∧ t.size ≤ 60 ∧ ∀ (p : Addr) (ns : List Int) (H' : Hp), H p = none → H' p = some (.lst (ns.map V.int)) → ns.Pairwise (· < ·) → (∀ k, k ∈ ns ↔ k ∈ t.nums) → Same H H' → Q (.ref p) H'
section
variable {P : Program} {w : World} {K : PySem.W.Frag} {mg : Str → Option Value} {base : Heap}
/-- how many parts are still to come -/
def leftOf (n : Nat) (σ : List (Option V)) (H : Hp) : Nat := match σ with
  | _ :: some (V.ref p) :: _ => (match H p with
    | some (HO.lst xs) => n - xs.length
    | _ => 0)
  | _ => 0
theorem leftOf_is {n : Nat} {v : Option V} {p : Addr} {r : List (Option V)} {H : Hp} {xs : List V} (h : H p = some (.lst xs)) : leftOf n (v :: some (.ref p) :: r) H = n - xs.length := by
  unfold leftOf
  simp [h]
end
end Rp

namespace Rp
open PySem L2 RZ
/-- [.. for a, b in zip(xs, ys)], both lists or both tuples, as long -/
theorem lc_pairs {J : It} {xs ys : List V} {g : TG} {tt : TT} {te : TE} {vs : List Nat} {σ : L2.St} {H1 : Hp} {D : Addr} {Qd : Hp → Prop} (same : xs.length = ys.length) (Pv : Nat → Hp → Prop)
    (stops : ∀ H, Pv xs.length H → J.stop xs.length H) (goes : ∀ i H, i < xs.length → Pv i H → J.go i H)
    (gives : ∀ i H v H', Pv i H → J.yld i H v H' → ∃ T x y, v = .ref T ∧ xs[i]? = some x ∧ ys[i]? = some y ∧ H T = none ∧ H' = upd H T (.tup [x, y]))
    (h0 : Pv 0 (upd H1 D (.lst [])))
    (hs : ∀ (i : Nat) (x y : V) (T : Addr) (H : Hp), xs[i]? = some x → ys[i]? = some y → Pv i H → H T = none → g (.ref T) (wipe σ vs) (upd H T (.tup [x, y])) fun σ2 H2 => wipe σ2 vs = wipe σ vs ∧
      tt σ2 H2 fun b H3 => if b = true then te σ2 H3 fun y H4 => ∃ acc, H4 D = some (.lst acc) ∧ acc.length < sizeLine ∧ Pv (i + 1) (upd H4 D (.lst (acc ++ [y]))) else Pv (i + 1) H3)
    (hd : ∀ H, Pv xs.length H → Qd H) :
    ∃ W : Nat → Nat → Hp → Prop, (∃ m, W 0 m (upd H1 D (.lst []))) ∧ ∀ i m H, W i m H → (J.stop i H ∧ Qd H) ∨
      (J.go i H ∧ ∃ Nx : Hp → Prop, (∀ H', Nx H' → ∃ m', m' < m ∧ W (i + 1) m' H') ∧ ∀ x H', J.yld i H x H' → g x (wipe σ vs) H' fun σ2 H2 => wipe σ2 vs = wipe σ vs ∧
        tt σ2 H2 fun b H3 => if b = true then te σ2 H3 fun y H4 => ∃ acc, H4 D = some (.lst acc) ∧ acc.length < sizeLine ∧ Nx (upd H4 D (.lst (acc ++ [y]))) else Nx H3) := by
  refine ⟨fun i m H => m + i = xs.length ∧ Pv i H, ⟨xs.length, by simp, h0⟩, ?_⟩
  rintro i m H ⟨em, p⟩
  rcases Nat.lt_or_ge i xs.length with lt | ge
  · refine .inr ⟨goes i H lt p, Pv (i + 1), fun H' p' => ⟨m - 1, by omega, by omega, p'⟩, fun v H' y => ?_⟩
    obtain ⟨T, x, y', rfl, hx, hy, hT, rfl⟩ := gives i H v H' p y
    exact hs i x y' T H hx hy p hT
  · have e : i = xs.length := by omega
    subst e
    exact .inl ⟨stops H p, hd H p⟩
def spSame (n : Nat) : Sp := fun vs H Q _ => ∃ (x y : V) (m : Nat), vs = [x, y] ∧ n = m + 1 ∧ Alike H m x y ∧ ∀ H', Same H H' → Q (.bl true) H'
section
variable {P : Program} {w : World} {K : PySem.W.Frag} {mg : Str → Option Value} {base : Heap}
structure SameG (mg : Str → Option Value) : Prop where
  isi : mg "isinstance" = none
  list : mg "list" = none
  tuple : mg "tuple" = none
  len : mg "len" = none
  all : mg "all" = none
  zip : mg "zip" = none
  str : mg "str" = none
  int : mg "int" = none
  bool : mg "bool" = none
theorem scSame : FnScope ["_law_found", "_law_due", "_law_one", "_law_two"] ["_law_found", "_law_due"] (defScope sSame) := ⟨rfl, rfl, rfl, by decide +kernel, rfl, by decide +kernel, by decide +kernel⟩
theorem kitB_of {K : PySem.W.Frag} {a b : String} {r : Bool} (h : kitB a b = some r) : PySem.W.kitOne K (.type a) (.type b) = some r := h
theorem kit_lt {K : PySem.W.Frag} {a : String} {p r : Bool} (h1 : kitB a "list" = some p) (h2 : kitB a "tuple" = some r) : PySem.W.kitAny K (.type a) [.type "list", .type "tuple"] = some (p || r) := by
  refine kitAny_cons (kitB_of h1) (fun e => ?_) (fun e => by rw [e]; rfl)
  refine kitAny_cons (kitB_of h2) (fun e2 => by rw [e, e2]; exact kitAny_nil) (fun e2 => by rw [e, e2]; rfl)
theorem ok_same {n : Nat} {f : Addr} {fd : FuncData} (F : Fun K "_law_same" "_law_same" sSame f fd) (b2 : Binds K fd ["_law_found", "_law_due"] []) (mF : mg "_law_same" = some (.ref f)) (G : FnOk P w K mg base CX0 n f fd ["_law_found", "_law_due"] (spSame n)) (M : SameG mg) :
    FnOk P w K mg base CX0 (n + 1) f fd ["_law_found", "_law_due"] (spSame (n + 1)) := by
  refine F.ok scSame (fun vs H Q E h => ?_) (fun cdv A outer s H vs Q E hr h => ?_)
  · obtain ⟨x, y, m, rfl, _⟩ := h
    rfl
  obtain ⟨x, y, m, rfl, em, hA, q⟩ := h
  have em : n = m := by omega
  subst em
  refine ⟨_, pss_cons (ps_if (pt_val (pe_callB (id := "isinstance") call_isiT (by rfl) M.isi (by decide +kernel) (pa_cons (pv 1) (pa_cons (pe_tup (pa_cons (pe_bltn (v := .ty "list") (by rfl) M.list (by decide +kernel) rfl) (pa_cons (pe_bltn (v := .ty "tuple") (by rfl) M.tuple (by decide +kernel) rfl) pa_nil))) pa_nil))))
      (pss_cons (ps_if (PW.pt (pw_or (pt_cmpR op_ne
            (pe_callB (id := "isinstance") call_isi (by rfl) M.isi (by decide +kernel) (pa_cons (pv 0) (pa_cons (pe_bltn (v := .ty "list") (by rfl) M.list (by decide +kernel) rfl) pa_nil)))
            (pe_callB (id := "isinstance") call_isi (by rfl) M.isi (by decide +kernel) (pa_cons (pv 1) (pa_cons (pe_bltn (v := .ty "list") (by rfl) M.list (by decide +kernel) rfl) pa_nil))) (nomark _))
          (pw_or1 (pt_cmpR op_ne
            (pe_callB (id := "isinstance") call_isi (by rfl) M.isi (by decide +kernel) (pa_cons (pv 0) (pa_cons (pe_bltn (v := .ty "tuple") (by rfl) M.tuple (by decide +kernel) rfl) pa_nil)))
            (pe_callB (id := "isinstance") call_isi (by rfl) M.isi (by decide +kernel) (pa_cons (pv 1) (pa_cons (pe_bltn (v := .ty "tuple") (by rfl) M.tuple (by decide +kernel) rfl) pa_nil))) (nomark _))))) (pss_one (ps_ret pe_bl)) pss_nil)
      (pss_cons (ps_if (pt_cmpR op_ne (pe_callB call_len_seq (by rfl) M.len PySem.boot_len (pa_cons (pv 0) pa_nil)) (pe_callB call_len_seq (by rfl) M.len PySem.boot_len (pa_cons (pv 1) pa_nil)) (nomark _)) (pss_one (ps_ret pe_bl)) pss_nil)
      (pss_one (ps_ret (pe_callB (cr_all rfl) (by rfl) M.all (by decide +kernel) (pa_cons (pe_lc (own := [("_law_one", 2), ("_law_two", 3)]) (g := gTup K 2 (gCons (gName 2) (gCons (gName 3) gNil))) (tt := tYes) (te := tCall (spSame n) [] E0 (tCons (tVar 2) (tCons (tVar 3) tNil))) rfl scSame.nd
        (pi_zipA (by rfl) M.zip (pa_cons (pv 0) (pa_cons (pv 1) pa_nil))) (blkOk_by (N := ["_law_found", "_law_due", "_law_one", "_law_two"]) (sc := defScope sSame) (by decide +kernel))
        (fun _ _ _ _ _ => pg_tup (by rfl) (pgs_cons (pg_name (i := 2) scSame.nd rfl (Or.inl rfl)) (pgs_cons (pg_name (i := 3) scSame.nd rfl (Or.inl rfl)) pgs_nil)))
        (fun _ _ _ _ _ => pts_nil) (fun _ _ _ _ _ => pe_call G hr (by rfl) mF F.kp b2 .nil pass0 (pa_cons (pv 2) (pa_cons (pv 3) pa_nil)))) pa_nil)))))) pss_nil)
    (pss_cons (ps_if (PW.pt (pw_or (pt_cmpR op_isN (pv 1) pe_non (nomark _)) (pw_or1 (pt_val (pe_callB (id := "isinstance") call_isi (by rfl) M.isi (by decide +kernel) (pa_cons (pv 1) (pa_cons (pe_bltn (v := .ty "str") (by rfl) M.str (by decide +kernel) rfl) pa_nil)))))))
      (pss_one (ps_ret (pe_and (pe_cmpR op_eq (pv 0) (pv 1) (nomark _)) (pe_one (pe_cmpR op_eq
            (pe_callB (id := "isinstance") call_isi (by rfl) M.isi (by decide +kernel) (pa_cons (pv 0) (pa_cons (pe_bltn (v := .ty "str") (by rfl) M.str (by decide +kernel) rfl) pa_nil)))
            (pe_callB (id := "isinstance") call_isi (by rfl) M.isi (by decide +kernel) (pa_cons (pv 1) (pa_cons (pe_bltn (v := .ty "str") (by rfl) M.str (by decide +kernel) rfl) pa_nil))) (nomark _)))))) pss_nil)
    (pss_one (ps_ret (pe_and (pe_callB (id := "isinstance") call_isi (by rfl) M.isi (by decide +kernel) (pa_cons (pv 0) (pa_cons (pe_bltn (v := .ty "int") (by rfl) M.int (by decide +kernel) rfl) pa_nil)))
      (pe_and (pe_cmpR op_eq
            (pe_callB (id := "isinstance") call_isi (by rfl) M.isi (by decide +kernel) (pa_cons (pv 0) (pa_cons (pe_bltn (v := .ty "bool") (by rfl) M.bool (by decide +kernel) rfl) pa_nil)))
            (pe_callB (id := "isinstance") call_isi (by rfl) M.isi (by decide +kernel) (pa_cons (pv 1) (pa_cons (pe_bltn (v := .ty "bool") (by rfl) M.bool (by decide +kernel) rfl) pa_nil))) (nomark _))
        (pe_one (pe_cmpR op_eq (pv 0) (pv 1) (nomark _)))))))), ?_⟩
  refine ⟨_, rfl, (by show 2 ≤ sizeLine; decide), fun p hp => ?_⟩
  have s1 := same_new hp (.tup [V.ty "list", V.ty "tuple"])
  have plain : Plain x ∧ x = y ∨ ∃ m a b xs ys, n = m + 1 ∧ x = .ref a ∧ y = .ref b ∧ ((H a = some (.lst xs) ∧ H b = some (.lst ys)) ∨ (H a = some (.tup xs) ∧ H b = some (.tup ys))) ∧
      xs.length = ys.length ∧ xs.length ≤ 1000000 ∧ ∀ (i : Nat) (u v : V), xs[i]? = some u → ys[i]? = some v → Alike H m u v := by
    cases n with
    | zero => unfold Alike at hA; exact .inl hA
    | succ m =>
      unfold Alike at hA
      rcases hA with h | ⟨a, b, xs, ys, h⟩
      · exact .inl h
      · exact .inr ⟨m, a, b, xs, ys, rfl, h⟩
  rcases plain with ⟨px, rfl⟩ | ⟨m, a, b, xs, ys, rfl, rfl, rfl, kinds, hl, hz, each⟩
  · cases x with
    | int i =>
      refine ⟨_, p, _, _, [.type "list", .type "tuple"], false, rfl, upd_same, .cons (.ty _) (.cons (.ty _) .nil), .base (.int i), kit_lt (p := false) (r := false) (by decide +kernel) (by decide +kernel), false, rfl, iteF ?_⟩
      refine ⟨_, rfl, rfl, false, congrArg V.bl (decide_eq_false (fun z => nomatch z)), iteF ?_⟩
      refine ⟨_, rfl, _, _, _, _, false, rfl, .ty "str", .base (.int i), kitB_of (by decide +kernel), false, rfl, iteF ?_⟩
      refine ⟨_, rfl, _, _, _, _, true, rfl, .ty "int", .base (.int i), kitB_of (by decide +kernel), true, rfl, iteT ?_⟩
      refine ⟨_, rfl, _, _, _, _, false, rfl, .ty "bool", .base (.int i), kitB_of (by decide +kernel), _, rfl, _, _, _, _, false, rfl, .ty "bool", .base (.int i), kitB_of (by decide +kernel), rfl, true, congrArg V.bl (decide_eq_true rfl), iteT ?_⟩
      refine ⟨_, rfl, _, rfl, rfl, ?_⟩
      have e : decide (V.int i = V.int i) = true := decide_eq_true rfl
      rw [e]
      exact q _ s1
    | bl i =>
      refine ⟨_, p, _, _, [.type "list", .type "tuple"], false, rfl, upd_same, .cons (.ty _) (.cons (.ty _) .nil), .base (.bl i), kit_lt (p := false) (r := false) (by decide +kernel) (by decide +kernel), false, rfl, iteF ?_⟩
      refine ⟨_, rfl, rfl, false, congrArg V.bl (decide_eq_false (fun z => nomatch z)), iteF ?_⟩
      refine ⟨_, rfl, _, _, _, _, false, rfl, .ty "str", .base (.bl i), kitB_of (by decide +kernel), false, rfl, iteF ?_⟩
      refine ⟨_, rfl, _, _, _, _, true, rfl, .ty "int", .base (.bl i), kitB_of (by decide +kernel), true, rfl, iteT ?_⟩
      refine ⟨_, rfl, _, _, _, _, true, rfl, .ty "bool", .base (.bl i), kitB_of (by decide +kernel), _, rfl, _, _, _, _, true, rfl, .ty "bool", .base (.bl i), kitB_of (by decide +kernel), rfl, true, congrArg V.bl (decide_eq_true rfl), iteT ?_⟩
      refine ⟨_, rfl, _, rfl, rfl, ?_⟩
      have e : decide (V.bl i = V.bl i) = true := decide_eq_true rfl
      rw [e]
      exact q _ s1
    | str i =>
      refine ⟨_, p, _, _, [.type "list", .type "tuple"], false, rfl, upd_same, .cons (.ty _) (.cons (.ty _) .nil), .base (.str i), kit_lt (p := false) (r := false) (by decide +kernel) (by decide +kernel), false, rfl, iteF ?_⟩
      refine ⟨_, rfl, rfl, false, congrArg V.bl (decide_eq_false (fun z => nomatch z)), iteF ?_⟩
      refine ⟨_, rfl, _, _, _, _, true, rfl, .ty "str", .base (.str i), kitB_of (by decide +kernel), true, rfl, iteT ?_⟩
      refine ⟨_, rfl, _, rfl, rfl, true, congrArg V.bl (decide_eq_true rfl), iteT ?_⟩
      refine ⟨_, rfl, _, _, _, _, true, rfl, .ty "str", .base (.str i), kitB_of (by decide +kernel), _, rfl, _, _, _, _, true, rfl, .ty "str", .base (.str i), kitB_of (by decide +kernel), rfl, ?_⟩
      have e : decide (V.bl true = V.bl true) = true := decide_eq_true rfl
      rw [e]
      exact q _ s1
    | non =>
      refine ⟨_, p, _, _, [.type "list", .type "tuple"], false, rfl, upd_same, .cons (.ty _) (.cons (.ty _) .nil), .base .non, kit_lt (p := false) (r := false) (by decide +kernel) (by decide +kernel), false, rfl, iteF ?_⟩
      refine ⟨_, rfl, rfl, true, congrArg V.bl (decide_eq_true rfl), iteT ?_⟩
      refine iteT ?_
      refine ⟨_, rfl, _, rfl, rfl, true, congrArg V.bl (decide_eq_true rfl), iteT ?_⟩
      refine ⟨_, rfl, _, _, _, _, false, rfl, .ty "str", .base .non, kitB_of (by decide +kernel), _, rfl, _, _, _, _, false, rfl, .ty "str", .base .non, kitB_of (by decide +kernel), rfl, ?_⟩
      have e : decide (V.bl false = V.bl false) = true := decide_eq_true rfl
      rw [e]
      exact q _ s1
    | _ => exact px.elim
  · rcases kinds with ⟨ha, hb⟩ | ⟨ha, hb⟩
    · have ha1 := s1 _ _ ha
      have hb1 := s1 _ _ hb
      refine ⟨_, p, _, _, [.type "list", .type "tuple"], true, rfl, upd_same, .cons (.ty _) (.cons (.ty _) .nil), .base (.lst hb1), kit_lt (p := true) (r := false) (by decide +kernel) (by decide +kernel), true, rfl, iteT ?_⟩
      refine ⟨_, rfl, _, _, _, _, true, rfl, .ty "list", .base (.lst ha1), kitB_of (by decide +kernel), _, rfl, _, _, _, _, true, rfl, .ty "list", .base (.lst hb1), kitB_of (by decide +kernel), rfl, false, congrArg (fun z => V.bl (!z)) (decide_eq_true rfl), iteF ?_⟩
      refine ⟨_, rfl, _, _, _, _, false, rfl, .ty "tuple", .base (.lst ha1), kitB_of (by decide +kernel), _, rfl, _, _, _, _, false, rfl, .ty "tuple", .base (.lst hb1), kitB_of (by decide +kernel), rfl, false, congrArg (fun z => V.bl (!z)) (decide_eq_true rfl), iteF ?_⟩
      refine ⟨_, rfl, a, _, rfl, .inl (.inl (.inl ha1)), _, rfl, b, _, rfl, .inl (.inl (.inl hb1)), rfl, false, congrArg (fun z => V.bl (!z)) (decide_eq_true (by rw [hl])), iteF ?_⟩
      refine ⟨_, rfl, _, rfl, a, b, xs, ys, rfl, .inl ⟨.inl (.inl ha1), .inl (.inl hb1), fun D hD => ?_⟩⟩
      refine lc_pairs (J := Itz K a b) (xs := xs) (ys := ys) hl (fun i H2 => H2 D = some (.lst (List.replicate i (V.bl true))) ∧ Same _ H2)
        (fun H2 h => ⟨xs, ys, .inl (.inl (h.2 _ _ ha1)), .inl (.inl (h.2 _ _ hb1)), .inl (Nat.le_refl _)⟩)
        (fun i H2 lt h => ⟨xs, ys, xs[i], ys[i]'(by omega), .inl (.inl (h.2 _ _ ha1)), .inl (.inl (h.2 _ _ hb1)), List.getElem?_eq_getElem lt, List.getElem?_eq_getElem (by omega)⟩)
        (fun i H2 v H3 h ⟨T, u, v', e1, hT, e2, f1, f2⟩ => ⟨T, u, v', e1, f1 xs (.inl (.inl (h.2 _ _ ha1))), f2 ys (.inl (.inl (h.2 _ _ hb1))), hT, e2⟩)
        ⟨upd_same, same_new hD _⟩ (fun i u v T H2 hu hv h hT => ?_) (fun H2 h => ⟨D, List.replicate xs.length true, rfl, .inl (.inl (by rw [List.map_replicate]; exact h.1)), ?_⟩)
      · have sT := same_new hT (.tup [u, v])
        refine ⟨T, _, rfl, .inl (.inl upd_same), rfl, _, _, rfl, _, _, rfl, rfl, rfl, ?_⟩
        have lt : i < xs.length := (List.getElem?_eq_some_iff.mp hu).1
        refine ⟨_, rfl, _, rfl, u, v, m, rfl, rfl, Alike.mono (s1.trans (h.2.trans sT)) m (each i u v hu hv), fun H4 s4 => ⟨_, s4 _ _ (sT _ _ h.1), ?_, ?_, ?_⟩⟩
        · rw [List.length_replicate]; exact Nat.lt_of_lt_of_le (by omega : i < 1000000) (by decide)
        · rw [upd_same, List.replicate_succ']
        · intro c o z
          have nD : c ≠ D := fun e => by subst e; rw [hD] at z; cases z
          rw [upd_ne nD]
          exact s4 _ _ (sT _ _ (h.2 _ _ z))
      · have e : (List.replicate xs.length true).all id = true := by rw [List.all_eq_true]; intro x hx; rw [List.eq_of_mem_replicate hx]; rfl
        rw [e]
        exact q _ (s1.trans h.2)
    · have ha1 := s1 _ _ ha
      have hb1 := s1 _ _ hb
      refine ⟨_, p, _, _, [.type "list", .type "tuple"], true, rfl, upd_same, .cons (.ty _) (.cons (.ty _) .nil), .base (.tup hb1), kit_lt (p := false) (r := true) (by decide +kernel) (by decide +kernel), true, rfl, iteT ?_⟩
      refine ⟨_, rfl, _, _, _, _, false, rfl, .ty "list", .base (.tup ha1), kitB_of (by decide +kernel), _, rfl, _, _, _, _, false, rfl, .ty "list", .base (.tup hb1), kitB_of (by decide +kernel), rfl, false, congrArg (fun z => V.bl (!z)) (decide_eq_true rfl), iteF ?_⟩
      refine ⟨_, rfl, _, _, _, _, true, rfl, .ty "tuple", .base (.tup ha1), kitB_of (by decide +kernel), _, rfl, _, _, _, _, true, rfl, .ty "tuple", .base (.tup hb1), kitB_of (by decide +kernel), rfl, false, congrArg (fun z => V.bl (!z)) (decide_eq_true rfl), iteF ?_⟩
      refine ⟨_, rfl, a, _, rfl, .inr (.inl (.inl ha1)), _, rfl, b, _, rfl, .inr (.inl (.inl hb1)), rfl, false, congrArg (fun z => V.bl (!z)) (decide_eq_true (by rw [hl])), iteF ?_⟩
      refine ⟨_, rfl, _, rfl, a, b, xs, ys, rfl, .inr ⟨.inl (.inl ha1), .inl (.inl hb1), fun D hD => ?_⟩⟩
      refine lc_pairs (J := ItzT K a b) (xs := xs) (ys := ys) hl (fun i H2 => H2 D = some (.lst (List.replicate i (V.bl true))) ∧ Same _ H2)
        (fun H2 h => ⟨xs, ys, .inl (.inl (h.2 _ _ ha1)), .inl (.inl (h.2 _ _ hb1)), .inl (Nat.le_refl _)⟩)
        (fun i H2 lt h => ⟨xs, ys, xs[i], ys[i]'(by omega), .inl (.inl (h.2 _ _ ha1)), .inl (.inl (h.2 _ _ hb1)), List.getElem?_eq_getElem lt, List.getElem?_eq_getElem (by omega)⟩)
        (fun i H2 v H3 h ⟨T, u, v', e1, hT, e2, f1, f2⟩ => ⟨T, u, v', e1, f1 xs (.inl (.inl (h.2 _ _ ha1))), f2 ys (.inl (.inl (h.2 _ _ hb1))), hT, e2⟩)
        ⟨upd_same, same_new hD _⟩ (fun i u v T H2 hu hv h hT => ?_) (fun H2 h => ⟨D, List.replicate xs.length true, rfl, .inl (.inl (by rw [List.map_replicate]; exact h.1)), ?_⟩)
      · have sT := same_new hT (.tup [u, v])
        refine ⟨T, _, rfl, .inl (.inl upd_same), rfl, _, _, rfl, _, _, rfl, rfl, rfl, ?_⟩
        have lt : i < xs.length := (List.getElem?_eq_some_iff.mp hu).1
        refine ⟨_, rfl, _, rfl, u, v, m, rfl, rfl, Alike.mono (s1.trans (h.2.trans sT)) m (each i u v hu hv), fun H4 s4 => ⟨_, s4 _ _ (sT _ _ h.1), ?_, ?_, ?_⟩⟩
        · rw [List.length_replicate]; exact Nat.lt_of_lt_of_le (by omega : i < 1000000) (by decide)
        · rw [upd_same, List.replicate_succ']
        · intro c o z
          have nD : c ≠ D := fun e => by subst e; rw [hD] at z; cases z
          rw [upd_ne nD]
          exact s4 _ _ (sT _ _ (h.2 _ _ z))
      · have e : (List.replicate xs.length true).all id = true := by rw [List.all_eq_true]; intro x hx; rw [List.eq_of_mem_replicate hx]; rfl
        rw [e]
        exact q _ (s1.trans h.2)
theorem same_ok {f : Addr} {fd : FuncData} (F : Fun K "_law_same" "_law_same" sSame f fd) (b2 : Binds K fd ["_law_found", "_law_due"] []) (mF : mg "_law_same" = some (.ref f)) (M : SameG mg) :
    ∀ n : Nat, FnOk P w K mg base CX0 n f fd ["_law_found", "_law_due"] (spSame n)
  | 0 => none_left fun vs H Q E h => by
    obtain ⟨x, y, m, _, e, _⟩ := h
    omega
  | n + 1 => ok_same F b2 mF (same_ok F b2 mF M n) M
end
end Rp

/-! xs[a:] = ys, ys another list: what the layer has no statement of. -/
namespace Rp
open PySem PySem.Spec PyProof.Rows L2
theorem tail_bounds {k n : Nat} (h : k ≤ n) : sliceBounds (some (k : Int)) none none n = ((k : Int), (n : Int), 1) := by
  simp only [sliceBounds, Option.getD_none, show ¬ ((k : Int) < 0) by omega, if_false, show (1 : Int) > 0 by decide, if_true]
  congr 1
  · omega
theorem tail_items (old fresh : List Value) (k : Nat) : old.toArray.extract 0 k ++ fresh.toArray ++ old.toArray.extract old.toArray.size old.toArray.size = (old.take k ++ fresh).toArray := by
  apply Array.toList_inj.mp
  simp
section
variable {prog : Program} {w : World} {A : Around} {E : Value → Shared → Prop} {s : Shared}
theorem store_tail {at_ src cut : Addr} {old fresh : Array Value} {n1 n2 : Nat} {vlo : Value} {k : Nat} {Q : Unit → Shared → Prop} (oe : s.heap.get? at_ = some { cls := .type "list", data := .seq old n1 })
    (fe : s.heap.get? src = some { cls := .type "list", data := .seq fresh n2 }) (apart : at_ ≠ src) (isCut : s.heap.IsSliceOf cut vlo .none .none) (pLo : IsPart vlo (some (k : Int))) (hk : k ≤ old.size) (room : old.size + fresh.size ≤ sizeLine)
    (go : Q () { s with heap := s.heap.update at_ (Obj.mapSeq fun xs => xs.extract 0 k ++ fresh ++ xs.extract old.size xs.size) }) : wpAny (model prog w) A (setItem (.ref at_) (.ref cut) (.ref src)) Q E s := by
  have lstIs : s.heap.IsList at_ old := PySem.IsL.isList oe
  have srcIs : s.heap.IsList src fresh := PySem.IsL.isList fe
  obtain ⟨oc, hoc, hcc, hdc⟩ := id isCut
  have cutIs : s.TypeIs (.ref cut) "slice" := ⟨oc, hoc, hcc⟩
  have noStep : ¬ ((rawPart none == rawInt 0) = true) := Bool.false_ne_true
  have other : Builtin.List.listSameRef (.ref at_) (.ref src) = false := by unfold Builtin.List.listSameRef; exact beq_eq_false_iff_ne.mpr apart
  have bound : ((fun xs : Array Value => xs.extract 0 k ++ fresh ++ xs.extract old.size xs.size) old).size ≤ sizeLine + 1 := by simp only [Array.size_append, Array.size_extract]; omega
  unfold setItem; try with_reducible refine wpAny_holding ?_
  first | refine wpAny_bind (wpAny_pure ?_) | skip
  refine wpAny_bind (wpAny_sequenceKey lstIs.typeIs (by decide) (wpAny_bind (wpAny_callSpecial?_slot (name := Str.ofString "__setitem__") lstIs.typeIs slot_list_setitem (wpAny_call_entry slot_list_setitem lstIs.typeIs entry_list_setitem ?_ (args_list_setitem _ _ _)))))
  show wpAny _ _ (Builtin.List.listSubscript? (.ref cut) >>= _) _ _ s
  refine wpAny_bind ?_; unfold Builtin.List.listSubscript?
  refine wpAny_bind (wpAny_specialOf cutIs slice_no_index ?_); simp only [Option.isNone_none, if_true]
  refine wpAny_pure ?_; show wpAny _ _ (typeOf (.ref cut) >>= _) _ _ s
  refine wpAny_bind (wpAny_typeOf cutIs ?_)
  first | rw [if_neg (by decide)] | refine PySem.W.KFB.if_not (by decide) ?_
  rw [listSliceParts_eq]; refine wpAny_bind (wpAny_bind (wpAny_field hoc hdc (x := .none) rfl (wpAny_bind (wpAny_listPart .none ?_))))
  rw [if_neg noStep]; refine wpAny_bind (wpAny_field hoc hdc (x := vlo) rfl (wpAny_bind (wpAny_listPart pLo ?_)))
  refine wpAny_bind (wpAny_field hoc hdc (x := .none) rfl (wpAny_bind (wpAny_listPart .none (wpAny_pure ?_))))
  first | simp only [other, Bool.false_eq_true, if_false] | refine PySem.W.KFB.if_not other ?_ | (dsimp only; rw [if_neg (by rw [other]; exact Bool.false_ne_true)])
  refine wpAny_bind (m := Builtin.List.listAllItems (.ref src) "must assign iterable to extended slice") ?_; unfold Builtin.List.listAllItems
  refine wpAny_bind (wpAny_typeOf srcIs.typeIs ?_)
  first | refine PySem.W.KFB.if_so (by decide) ?_ | rw [if_pos (by decide)] | simp only [beq_self_eq_true, Bool.true_or, if_true]
  unfold Builtin.List.listItems; refine wpAny_bind (wpAny_seqItems fe rfl (wpAny_pure ?_))
  refine wpAny_bind (wpAny_bind (wpAny_seqItems oe rfl (wpAny_pure ?_)))
  refine wpAny_bind (wpAny_of_eq ((sliceIndices_raw (some (k : Int)) none none old.size (by simp)).trans (congrArg (pure : Int × Int × Int → Sem (Int × Int × Int)) (tail_bounds hk))) ?_)
  show wpAny _ _ (if ((1 : Int) == 1) = true then _ else _) _ _ s; rw [if_pos (by decide)]
  refine wpAny_bind (wpAny_rule ?_); have small := notLongL room
  first | simp only [small, Bool.false_eq_true, if_false] | refine PySem.W.KFB.if_not small ?_
  first | refine wpAny_bind (wpAny_pure ?_) | skip
  show wpAny _ _ (updateSeq at_ (fun xs => xs.extract 0 ((k : Int)).toNat ++ fresh ++ xs.extract (max (k : Int) (old.size : Int)).toNat xs.size) >>= _) _ _ s
  rw [show (max (k : Int) (old.size : Int)).toNat = old.size by omega, Int.toNat_natCast]
  refine wpAny_bind (wpAny_updateSeq (hz := Nat.le_trans (Nat.le_add_right _ _) room) (_hz' := bound) oe rfl (wpAny_bind (wpAny_letGo ?_)))
  first | exact wpAny_bind (wpAny_pure (wpAny_pure ⟨.none, rfl, wpAny_pure go⟩)) | exact wpAny_pure ⟨.none, rfl, wpAny_pure go⟩
end
/-- xs[a:] = ys -/
def tTail (to : TE) (ta : TO) (tv : TE) : TS := fun D σ H => tv σ H fun y H1 => to σ H1 fun x H2 => ta σ H2 fun i H3 => ∃ (l b : Addr) (xs ys : List V) (k : Nat), y = .ref b ∧ x = .ref l ∧ i = some (k : Int) ∧ H3 l = some (.lst xs) ∧ H3 b = some (.lst ys) ∧ l ≠ b ∧ k ≤ xs.length ∧ xs.length + ys.length ≤ sizeLine ∧
  D.nx σ (upd H3 l (.lst (xs.take k ++ ys)))
section
variable {X : Cx} {o e value : Expr} {pos pos' p2 : Pos} {td tv : TE} {ta : TO}
theorem ps_tail (ho : PE X o td) (hi : PO X (some e) ta) (hv : PE X value tv) (hs : swapsWith value (some (.Subscript o (.Slice (some e) none none p2) pos')) pos.line X.env = pure false := by rfl) :
    PS X (.Assign [.Subscript o (.Slice (some e) none none p2) pos'] value pos) (tTail td ta tv) := by
  refine ⟨fun pins s σ H D I h => wpAny_Assign_Subscript (thn (hv.run pins s σ H _ I h) fun r s1 ⟨v, H1, I1, rv, q1⟩ => thn (ho.run pins s1 σ H1 _ I1 q1) fun u s2 ⟨x, H2, I2, rx, q2⟩ => ?_) hs⟩
  refine wpAny_Slice (thn (hi.run pins s2 σ H2 _ I2 q2) fun vl s3 ⟨i, H3, I3, pl, q3⟩ => ?_)
  obtain ⟨l, b, xs, ys, k, rfl, rfl, rfl, hl, hb, ne, hk, room, go⟩ := q3
  rw [evalPart_none]
  refine wpAny_pure (wpAny_pure ?_)
  cases rv
  cases rx
  have I4 : Inv X pins σ H3 { s3 with heap := s3.heap.push { cls := .type "slice", data := .fields #[vl, .none, .none] } } := I3.kept (t' := s3.toks) fun c ob w => Heap.get?_push_of_some _ w
  obtain ⟨_, old, n1, ro, lo, oe⟩ := I4.lstM hl
  obtain ⟨_, fresh, n2, rf, lf, fe⟩ := I4.lstM hb
  refine store_tail (k := k) oe fe ne (Heap.IsSliceOf.new ..) pl (by rw [List.size_toArray]; omega) (by rw [List.size_toArray, List.size_toArray]; omega) ?_
  refine ⟨σ, _, I4.lset (its' := old.take k ++ fresh) (t' := s3.toks) hl oe ?_ (Vals.append (ro.take _) rf) ?_, go⟩
  · exact tail_items old fresh k
  · rw [List.length_append, List.length_take]; omega
end
end Rp

/-! Texts of TERMs, and the fold that makes them. -/
namespace Rp
open PySem PySem.Spec PyProof.Rows L2
namespace Tm
/-- a sign with the texts of its parts -/
def put1 : Tm → List Str → Str
  | v n, _ => "x" ++ (Str.ofString (toString n))
  | z, _ => "0"
  | s _, ys => "s" ++ "(" ++ Txt.join "," ys ++ ")"
  | f _ _, ys => "f" ++ "(" ++ Txt.join "," ys ++ ")"
def txt : Tm → Str
  | v n => put1 (v n) []
  | z => put1 z []
  | s t => put1 (s t) [t.txt]
  | f l r => put1 (f l r) [l.txt, r.txt]
theorem txt_kids (t : Tm) : t.txt = t.put1 (t.kids.map txt) := by cases t <;> rfl
def small (t : Tm) : Prop := ∀ n ∈ t.nums, 0 ≤ n ∧ n ≤ 99
end Tm
theorem slen (a b : Str) : (a ++ b).length = a.length + b.length := Str.length_append a b
theorem num_len {n : Int} (h : 0 ≤ n ∧ n ≤ 99) : (Str.ofString (toString n)).length ≤ 3 := by
  rw [PySem.ofString_length]
  exact int_text_length_le10 (k := 2) (by decide) (by omega)
theorem join1 (a x : Str) : Txt.join a [x] = x := by rw [TL.join_eq]; simp [Str.join]
theorem join2 (a x y : Str) : Txt.join a [x, y] = x ++ a ++ y := by rw [TL.join_eq]; simp [Str.join]
theorem txt_len : ∀ t : Tm, t.small → t.txt.length ≤ 4 * t.size
  | .v n, h => by
    have := num_len (h n (by simp [Tm.nums]))
    show (("x" : Str) ++ (Str.ofString (toString n))).length ≤ 4
    rw [slen]
    have : ("x" : Str).length = 1 := by decide +kernel
    omega
  | .z, _ => by decide +kernel
  | .s t, h => by
    have := txt_len t h
    show (("s" : Str) ++ "(" ++ Txt.join "," [t.txt] ++ ")").length ≤ 4 * (t.size + 1)
    rw [join1, slen, slen, slen]
    have a : ("s" : Str).length = 1 := by decide +kernel
    have b : ("(" : Str).length = 1 := by decide +kernel
    have c : (")" : Str).length = 1 := by decide +kernel
    omega
  | .f l r, h => by
    have := txt_len l fun n hn => h n (by simp [Tm.nums, hn])
    have := txt_len r fun n hn => h n (by simp [Tm.nums, hn])
    show (("f" : Str) ++ "(" ++ Txt.join "," [l.txt, r.txt] ++ ")").length ≤ 4 * (l.size + r.size + 1)
    rw [join2, slen, slen, slen, slen, slen]
    have a : ("f" : Str).length = 1 := by decide +kernel
    have b : ("(" : Str).length = 1 := by decide +kernel
    have c : (")" : Str).length = 1 := by decide +kernel
    have d : ("," : Str).length = 1 := by decide +kernel
    omega
/-! ### the stack -/
def runs : List Tm → List Tm → List Tm → Prop
  | S, [], S' => S = S'
  | S, k :: r, S' => ∃ S0, S = S0 ++ k.kids ∧ runs (S0 ++ [k]) r S'
theorem runs_post : ∀ (t : Tm) (S r S' : List Tm), runs (S ++ [t]) r S' → runs S (t.rpost.reverse ++ r) S'
  | .v n, S, r, S', h => by simp only [Tm.rpost, List.reverse_singleton, List.singleton_append]; exact ⟨S, by simp [Tm.kids], h⟩
  | .z, S, r, S', h => by simp only [Tm.rpost, List.reverse_singleton, List.singleton_append]; exact ⟨S, by simp [Tm.kids], h⟩
  | .s t, S, r, S', h => by
    simp only [Tm.rpost, List.reverse_cons, List.append_assoc, List.singleton_append]
    exact runs_post t S _ _ ⟨S, by simp [Tm.kids], h⟩
  | .f l r', S, r, S', h => by
    simp only [Tm.rpost, List.reverse_cons, List.reverse_append, List.append_assoc, List.singleton_append]
    refine runs_post l S _ _ (runs_post r' (S ++ [l]) _ _ ⟨S, by simp [Tm.kids], h⟩)
theorem part_of : ∀ {t k : Tm}, k ∈ t.rpost → k.size ≤ t.size ∧ ∀ n ∈ k.nums, n ∈ t.nums
  | .v n, k, h => by simp [Tm.rpost] at h; subst h; exact ⟨Nat.le_refl _, fun n h => h⟩
  | .z, k, h => by simp [Tm.rpost] at h; subst h; exact ⟨Nat.le_refl _, fun n h => h⟩
  | .s t, k, h => by
    simp [Tm.rpost] at h
    rcases h with rfl | h
    · exact ⟨Nat.le_refl _, fun n h => h⟩
    · have := part_of h
      exact ⟨by simp only [Tm.size]; omega, this.2⟩
  | .f l r, k, h => by
    simp [Tm.rpost] at h
    rcases h with rfl | h | h
    · exact ⟨Nat.le_refl _, fun n h => h⟩
    · have := part_of h
      exact ⟨by simp only [Tm.size]; omega, fun n hn => List.mem_append.mpr (.inr (this.2 n hn))⟩
    · have := part_of h
      exact ⟨by simp only [Tm.size]; omega, fun n hn => List.mem_append.mpr (.inl (this.2 n hn))⟩
def spTextOf (K : PySem.W.Frag) : Sp := fun vs H Q _ => ∃ (v : V) (t : Tm) (a : Addr), vs = [v, .ref a] ∧ TmAt H v t ∧ t.small ∧ t.size ≤ 1000 ∧ H a = some (.lst ((t.kids.map Tm.txt).map V.str)) ∧ Q (.str t.txt) H
def spFold (fO : Addr) : Sp := fun vs H Q _ => ∃ (v : V) (t : Tm), vs = [v, .ref fO] ∧ TmAt H v t ∧ t.small ∧ t.size ≤ 1000 ∧ ∀ H', Same H H' → Q (.str t.txt) H'
def spTermText : Sp := fun vs H Q _ => ∃ (v : V) (t : Tm), vs = [v] ∧ TmAt H v t ∧ t.small ∧ t.size ≤ 1000 ∧ ∀ H', Same H H' → Q (.str t.txt) H'
section
variable {P : Program} {w : World} {K : PySem.W.Frag} {mg : Str → Option Value} {base : Heap}
end
end Rp

namespace Rp
open PySem PySem.Spec PyProof.Rows L2
theorem drop_min {α : Type} (xs : List α) (i : Nat) : xs.drop (min i xs.length) = xs.drop i := by
  rcases Nat.le_total i xs.length with h | h
  · rw [Nat.min_eq_left h]
  · rw [Nat.min_eq_right h, List.drop_length, List.drop_of_length_le h]
theorem cut_from {xs : List V} {i : Nat} {a : Int} (h : a = (i : Nat)) : cutV xs (some a) none = xs.drop i := by
  subst h
  unfold cutV
  rw [HT.sIx_none, HT.sIx_nat, drop_min]
  refine List.take_of_length_le ?_
  rw [List.length_drop]
  omega
section
variable {P : Program} {w : World} {K : PySem.W.Frag} {mg : Str → Option Value} {base : Heap}
end
end Rp

/-! A TERM's text, its brackets and commas blanked, cut at the blanks: its signs, ahead of their parts. -/
namespace Rp
open PySem PySem.Spec PyProof.Rows L2 TL
def blank1 (c d : Nat) : Nat := if d = c then 32 else d
theorem spl_ne (S : List Nat) : ∀ (k : Nat) (acc l : List Nat), spl S k acc l ≠ []
  | 0, acc, [] => by rw [spl_nil]; simp
  | k + 1, acc, [] => by rw [spl_nil]; simp
  | k + 1, acc, _ :: r => by show spl S k acc r ≠ []; exact spl_ne S k acc r
  | 0, acc, c :: r => by
    by_cases h : pre S (c :: r) = true
    · rw [spl_hit h]; simp
    · rw [spl_miss (by simpa using h)]; exact spl_ne S 0 _ r
theorem join_spl (c : Nat) : ∀ (l acc : List Nat), joinL [32] (spl [c] 0 acc l) = acc ++ l.map (blank1 c)
  | [], acc => by rw [spl_nil]; simp [joinL]
  | d :: r, acc => by
    by_cases h : d = c
    · have hp : pre [c] (d :: r) = true := by simp [pre, h]
      rw [spl_hit hp]
      have ih := join_spl c r []
      have ne := spl_ne [c] 0 [] r
      show joinL [32] (acc :: spl [c] 0 [] r) = _
      cases e : spl [c] 0 [] r with
      | nil => exact absurd e ne
      | cons q rest =>
        rw [e] at ih
        show acc ++ ([32] ++ joinL [32] (q :: rest)) = _
        rw [ih]
        simp [blank1, h]
    · have hp : pre [c] (d :: r) = false := by simp [pre, h]
      rw [spl_miss hp, join_spl c r]
      simp [blank1, h]
theorem repl_tl (x : Str) {c : Nat} (hc : c < 256) : tl (Txt.replace x ⟨#[c]⟩ ⟨#[32]⟩) = (tl x).map (blank1 c) := by
  rw [PySem.StrLaws.replace_one, tl_join, split_spl x ⟨#[c]⟩ (by show [c] ≠ []; simp) ?_]
  · show joinL [32] (spl [c] 0 [] (tl x)) = _
    rw [join_spl]
    simp
  · exact kind_ok (by simp [hc])
namespace Tm
def sgn : Tm → List Str
  | v n => ["x" ++ Str.ofString (toString n)]
  | z => ["0"]
  | s t => "s" :: t.sgn
  | f l r => "f" :: (l.sgn ++ r.sgn)
theorem sgn_len : ∀ t : Tm, t.sgn.length = t.size
  | v _ => rfl | z => rfl | s t => by simp [sgn, size, sgn_len t]
  | f l r => by simp [sgn, size, sgn_len l, sgn_len r]
end Tm
def b3 (d : Nat) : Nat := blank1 44 (blank1 41 (blank1 40 d))
theorem b3_same {d : Nat} (h : d ≠ 40 ∧ d ≠ 41 ∧ d ≠ 44) : b3 d = d := by
  unfold b3 blank1
  rw [if_neg h.1, if_neg h.2.1, if_neg h.2.2]
theorem b3_num {l : List Nat} (h : ∀ d ∈ l, 48 ≤ d ∧ d ≤ 57) : l.map b3 = l := by
  have : l.map b3 = l.map id := List.map_congr_left fun d hd => b3_same (by have := h d hd; omega)
  rw [this, List.map_id]
theorem numL_small (n : Nat) : ∀ d ∈ numL n, 48 ≤ d ∧ d ≤ 57 := fun d hd => numL_digits n d hd
def spc (t : Tm) : List Nat := (tl t.txt).map b3
theorem t_x : tl ("x" : Str) = [120] := by decide +kernel
theorem t_0 : tl ("0" : Str) = [48] := by decide +kernel
theorem t_s : tl ("s" : Str) = [115] := by decide +kernel
theorem t_f : tl ("f" : Str) = [102] := by decide +kernel
theorem t_open : tl ("(" : Str) = [40] := by decide +kernel
theorem t_close : tl (")" : Str) = [41] := by decide +kernel
theorem t_comma : tl ("," : Str) = [44] := by decide +kernel
theorem tl_int {n : Int} (h : 0 ≤ n) : tl (Str.ofString (toString n)) = numL n.toNat := by
  obtain ⟨k, rfl⟩ := Int.eq_ofNat_of_zero_le h
  rw [tl_num]
  rfl
theorem spc_v {n : Int} (h : 0 ≤ n) : spc (.v n) = 120 :: numL n.toNat := by
  show (tl (("x" : Str) ++ Str.ofString (toString n))).map b3 = _
  rw [tl_append, t_x, tl_int h, List.map_append, b3_num (numL_small _)]
  rfl
theorem spc_z : spc .z = [48] := by decide +kernel
theorem spc_s (t : Tm) : spc (.s t) = 115 :: 32 :: (spc t ++ [32]) := by
  show (tl (("s" : Str) ++ "(" ++ Txt.join "," [t.txt] ++ ")")).map b3 = _
  rw [join1, tl_append, tl_append, tl_append, t_s, t_open, t_close, List.map_append, List.map_append]
  rfl
theorem spc_f (l r : Tm) : spc (.f l r) = 102 :: 32 :: (spc l ++ 32 :: (spc r ++ [32])) := by
  show (tl (("f" : Str) ++ "(" ++ Txt.join "," [l.txt, r.txt] ++ ")")).map b3 = _
  rw [join2, tl_append, tl_append, tl_append, tl_append, tl_append, t_f, t_open, t_close, t_comma]
  simp only [List.map_append]
  show [102] ++ [32] ++ (spc l ++ [32] ++ spc r) ++ [32] = _
  simp
theorem space32 : Unicode.isSpace 32 = true := by decide +kernel
theorem nosp {d : Nat} (h : (48 ≤ d ∧ d ≤ 57) ∨ d = 115 ∨ d = 102 ∨ d = 120) : Unicode.isSpace d = false := by
  have all : ∀ k : Fin 128, ((48 ≤ k.val ∧ k.val ≤ 57) ∨ k.val = 115 ∨ k.val = 102 ∨ k.val = 120) → Unicode.isSpace k.val = false := by decide +kernel
  exact all ⟨d, by omega⟩ h
theorem word_step {p : List Nat} (hp : p ≠ []) (h : ∀ c ∈ p, Unicode.isSpace c = false) (ws : List (List Nat)) (rest : List Nat) : (p ++ 32 :: rest).foldl wstep (ws, []) = rest.foldl wstep (ws ++ [p], []) := by
  rw [List.foldl_append, wfold_word p ws [] h, List.nil_append, List.foldl_cons]
  have : wstep (ws, p) 32 = (ws ++ [p], []) := by unfold wstep; rw [if_pos space32]; exact if_neg hp
  rw [this]
theorem gap_step (ws : List (List Nat)) (rest : List Nat) : (32 :: rest).foldl wstep (ws, []) = rest.foldl wstep (ws, []) := by
  rw [List.foldl_cons]
  have : wstep (ws, []) 32 = (ws, []) := by unfold wstep; rw [if_pos space32]; exact if_pos rfl
  rw [this]
theorem fold_spc : ∀ (t : Tm) (_ : t.small) (ws : List (List Nat)) (rest : List Nat), (spc t ++ 32 :: rest).foldl wstep (ws, []) = rest.foldl wstep (ws ++ t.sgn.map tl, [])
  | .v n, h, ws, rest => by
    have h0 := (h n (by simp [Tm.nums])).1
    rw [spc_v h0, word_step (by simp) ?_]
    · show _ = List.foldl wstep (ws ++ [tl (("x" : Str) ++ Str.ofString (toString n))], []) rest
      rw [tl_append, t_x, tl_int h0]
      rfl
    · intro c hc
      rcases List.mem_cons.mp hc with rfl | hc
      · exact nosp (.inr (.inr (.inr rfl)))
      · exact nosp (.inl (numL_small _ c hc))
  | .z, h, ws, rest => by
    rw [spc_z, word_step (by simp) ?_]
    · show _ = List.foldl wstep (ws ++ [tl ("0" : Str)], []) rest
      rw [t_0]
    · intro c hc
      simp at hc
      exact nosp (.inl (by omega))
  | .s t, h, ws, rest => by
    rw [spc_s]
    show ([115] ++ 32 :: ((spc t ++ [32]) ++ 32 :: rest)).foldl wstep (ws, []) = _
    rw [word_step (by simp) (by intro c hc; simp at hc; exact nosp (.inr (.inl hc)))]
    rw [show (spc t ++ [32]) ++ 32 :: rest = spc t ++ 32 :: (32 :: rest) by simp, fold_spc t h, gap_step]
    simp [Tm.sgn, t_s]
  | .f l r, h, ws, rest => by
    rw [spc_f]
    show ([102] ++ 32 :: ((spc l ++ 32 :: (spc r ++ [32])) ++ 32 :: rest)).foldl wstep (ws, []) = _
    rw [word_step (by simp) (by intro c hc; simp at hc; exact nosp (.inr (.inr (.inl hc))))]
    rw [show (spc l ++ 32 :: (spc r ++ [32])) ++ 32 :: rest = spc l ++ 32 :: (spc r ++ 32 :: (32 :: rest)) by simp,
      fold_spc l (fun n hn => h n (by simp [Tm.nums, hn])), fold_spc r (fun n hn => h n (by simp [Tm.nums, hn])), gap_step]
    simp [Tm.sgn, t_f]
theorem wfin_gap (st : List (List Nat) × List Nat) : wfin (wstep st 32) = wfin st := by
  unfold wstep wfin
  rw [if_pos space32]
  by_cases h : st.2 = []
  · rw [if_pos h, if_pos h]
  · rw [if_neg h, if_neg h]
    simp
/-- the text with brackets and commas blanked -/
def blanked (x : Str) : Str := Txt.replace (Txt.replace (Txt.replace x "(" " ") ")" " ") "," " "
theorem blanked_tl (x : Str) : tl (blanked x) = (tl x).map b3 := by
  have e32 : (" " : Str) = ⟨#[32]⟩ := by decide +kernel
  have e40 : ("(" : Str) = ⟨#[40]⟩ := by decide +kernel
  have e41 : (")" : Str) = ⟨#[41]⟩ := by decide +kernel
  have e44 : ("," : Str) = ⟨#[44]⟩ := by decide +kernel
  unfold blanked
  rw [e32, e40, e41, e44, repl_tl _ (by decide), repl_tl _ (by decide), repl_tl _ (by decide), List.map_map, List.map_map]
  rfl
theorem words_txt (t : Tm) (h : t.small) : Txt.words (blanked t.txt) = t.sgn := by
  refine map_tl_inj ?_
  rw [words_tl, blanked_tl]
  show wfin ((spc t).foldl wstep ([], [])) = _
  rw [← wfin_gap]
  have : wstep ((spc t).foldl wstep ([], [])) 32 = (spc t ++ 32 :: []).foldl wstep ([], []) := by rw [List.foldl_append]; rfl
  rw [this, fold_spc t h]
  simp [wfin]
theorem blanked_len (x : Str) : (blanked x).length = x.length := by
  rw [len_tl, len_tl, blanked_tl, List.length_map]
end Rp

namespace Rp
open PySem PySem.Spec PyProof.Rows L2 TL
/-- the sign of a variable -/
def xn (n : Int) : Str := "x" ++ Str.ofString (toString n)
theorem xn_facts {n : Int} (h : 0 ≤ n ∧ n ≤ 99) : cutS (xn n) none (some 1) = "x" ∧ (xn n).length ≤ 3 ∧ cutS (xn n) (some 1) none = Str.ofString (toString n) ∧ Txt.isdecimal (Str.ofString (toString n)) = true ∧ intText? (Str.ofString (toString n)) = some n ∧
    xn n ≠ "0" ∧ xn n ≠ "s" ∧ xn n ≠ "f" := by
  have all : ∀ k : Fin 100, cutS (xn (k.val : Int)) none (some 1) = "x" ∧ (xn (k.val : Int)).length ≤ 3 ∧ cutS (xn (k.val : Int)) (some 1) none = Str.ofString (toString (k.val : Int)) ∧ Txt.isdecimal (Str.ofString (toString (k.val : Int))) = true ∧
    xn (k.val : Int) ≠ "0" ∧ xn (k.val : Int) ≠ "s" ∧ xn (k.val : Int) ≠ "f" := by decide +kernel
  obtain ⟨k, rfl⟩ := Int.eq_ofNat_of_zero_le h.1
  obtain ⟨a, b, c, d, e, f, g⟩ := all ⟨k, by omega⟩
  exact ⟨a, b, c, d, int_num (Nat.le_trans (numL_len (k := 2) (by decide) (by omega)) (by decide)), e, f, g⟩
def spNumberOf : Sp := fun vs H Q _ => ∃ n : Int, vs = [.str (xn n)] ∧ 0 ≤ n ∧ n ≤ 99 ∧ Q (.int n) H
section
variable {P : Program} {w : World} {K : PySem.W.Frag} {mg : Str → Option Value} {base : Heap}
end
end Rp

namespace Rp
open PySem PySem.Spec PyProof.Rows L2 TL
namespace Tm
/-- the parts, each ahead of its own -/
def ahead : Tm → List Tm
  | v n => [v n] | z => [z] | s t => s t :: t.ahead | f l r => f l r :: (l.ahead ++ r.ahead)
def sign1 : Tm → Str
  | v n => xn n | z => "0" | s _ => "s" | f _ _ => "f"
theorem sgn_ahead : ∀ t : Tm, t.sgn = t.ahead.map sign1
  | v n => rfl | z => rfl | s t => by simp [sgn, ahead, sign1, sgn_ahead t]
  | f l r => by simp [sgn, ahead, sign1, sgn_ahead l, sgn_ahead r]
theorem ahead_len : ∀ t : Tm, t.ahead.length = t.size
  | v _ => rfl | z => rfl | s t => by simp [ahead, size, ahead_len t]
  | f l r => by simp [ahead, size, ahead_len l, ahead_len r]
end Tm
theorem ahead_small : ∀ {t k : Tm}, k ∈ t.ahead → t.small → k.small
  | .v n, k, h, s => by simp [Tm.ahead] at h; subst h; exact s
  | .z, k, h, s => by simp [Tm.ahead] at h; subst h; exact s
  | .s t, k, h, s => by
    simp [Tm.ahead] at h
    rcases h with rfl | h
    · exact s
    · exact ahead_small (t := t) h s
  | .f l r, k, h, s => by
    simp [Tm.ahead] at h
    rcases h with rfl | h | h
    · exact s
    · exact ahead_small (t := l) h fun n hn => s n (by simp [Tm.nums, hn])
    · exact ahead_small (t := r) h fun n hn => s n (by simp [Tm.nums, hn])
def runsR : List Tm → List Tm → List Tm → Prop
  | S, [], S' => S = S'
  | S, k :: r, S' => ∃ S0, S = S0 ++ k.kids.reverse ∧ runsR (S0 ++ [k]) r S'
theorem runsR_post : ∀ (t : Tm) (S r S' : List Tm), runsR (S ++ [t]) r S' → runsR S (t.ahead.reverse ++ r) S'
  | .v n, S, r, S', h => by simp only [Tm.ahead, List.reverse_singleton, List.singleton_append]; exact ⟨S, by simp [Tm.kids], h⟩
  | .z, S, r, S', h => by simp only [Tm.ahead, List.reverse_singleton, List.singleton_append]; exact ⟨S, by simp [Tm.kids], h⟩
  | .s t, S, r, S', h => by
    simp only [Tm.ahead, List.reverse_cons, List.append_assoc, List.singleton_append]
    exact runsR_post t S _ _ ⟨S, by simp [Tm.kids], h⟩
  | .f l r', S, r, S', h => by
    simp only [Tm.ahead, List.reverse_cons, List.reverse_append, List.append_assoc, List.singleton_append]
    exact runsR_post r' S _ _ (runsR_post l (S ++ [r']) _ _ ⟨S, by simp [Tm.kids], h⟩)
def spFromSigns : Sp := fun vs H Q _ => ∃ (p : Addr) (t : Tm), vs = [.ref p] ∧ H p = some (.lst (t.sgn.map V.str)) ∧ t.small ∧ t.size ≤ 1000 ∧ ∀ (v : V) (H' : Hp), TmAt H' v t → Same H H' → Q v H'
theorem str_ne {x y : Str} (h : x ≠ y) : decide (V.str x = V.str y) = false := decide_eq_false fun z => h (V.str.inj z)
section
variable {P : Program} {w : World} {K : PySem.W.Frag} {mg : Str → Option Value} {base : Heap}
end
end Rp

namespace Rp
open PySem PySem.Spec PyProof.Rows L2 TL CwR
section
variable {X : Cx} {o e : Expr} {to te : TE}
/-- words of what wants a token -/
theorem pet_words {apos pos : Pos} (ho : PET X o to) (hbase : attributeBase o "split" X.env (eval o X.env) = eval o X.env := by rfl) (hline : (apos.endLine == pos.line) = true := by rfl) :
    PET X (.Call (.Attribute o "split" apos) [] [] pos) (tM0 (fun x xs H Q => ∃ a, x = .str a ∧ xs = [] ∧ a.length + 2 ≤ sizeLine ∧ rNewStrs (Txt.words a) H Q) to) := by
  intro pins s σ H Q tk I h
  refine PySem.Call_method0 hbase hline (thn (ho pins s σ H _ tk I h) fun recv s1 ⟨x, H1, I1, rel, told, go⟩ => ?_)
  obtain ⟨text, rfl⟩ := told
  obtain ⟨tok, rfl⟩ := _root_.id rel
  exact ⟨"str", _, PySem.F.plainAttrs_str, PySem.F.slot_str_split, PySem.F.type_str_split, typeIs_str _ _ _, (fun _ z => nomatch z), Calls.callWith_builtin rfl (PySem.evalArgs_none (mt_words pins s1 σ H1 _ [] _ [] Q I1 rel .nil go))⟩
/-- name = e, e wants a token -/
theorem pst_set {i : Nat} {x : Str} {pos pos' : Pos} (hN : X.N.Nodup) (hi : X.N[i]? = some x) (hx : Loc X.env.scope x) (he : PET X e te) (hs : swapsWith e (some (.Name x pos')) pos.line X.env = pure false := by rfl)
    (hf : X.fn x = true ∨ X.env.scope.names.lookup x = some .local := by first | exact .inl rfl | exact .inr rfl | assumption) : PST X (.Assign [.Name x pos'] e pos) (tAsg te (gName i)) := by
  intro pins s σ H D tk I h
  refine wpAny_Assign_Name (thn (he pins s σ H _ tk I h) fun u s1 ⟨y, H1, I1, rel, go⟩ => store_ok I1 hN hi hx rel (fun s2 I2 => ⟨_, H1, I2, go⟩) hf) hs
end
def spTermOr : Sp := fun vs H Q _ => ∃ t : Tm, vs = [.str t.txt] ∧ t.small ∧ t.size ≤ 200 ∧ ∀ (v : V) (H' : Hp), TmAt H' v t → Same H H' → Q v H'
section
variable {P : Program} {w : World} {K : PySem.W.Frag} {mg : Str → Option Value} {base : Heap}
end
end Rp

/-! Data of any depth: what stands as which, and which data are TERMs. -/
namespace Rp
open PySem L2
mutual
/-- the value v stands as the data d; its lists are others than the box b -/
def DAt (H : Hp) (b : Addr) : V → PyData → Prop
  | v, .none => v = .non
  | v, .bool c => v = .bl c
  | v, .int i => v = .int i
  | v, .str x => v = .str x
  | v, .list ds => ∃ (a : Addr) (xs : List V), v = .ref a ∧ a ≠ b ∧ H a = some (.lst xs) ∧ DAtAll H b xs ds
  | v, .tuple ds => ∃ (a : Addr) (xs : List V), v = .ref a ∧ H a = some (.tup xs) ∧ DAtAll H b xs ds
  | _, .dict _ => False
def DAtAll (H : Hp) (b : Addr) : List V → List PyData → Prop
  | xs, [] => xs = []
  | xs, d :: ds => ∃ (x : V) (r : List V), xs = x :: r ∧ DAt H b x d ∧ DAtAll H b r ds
end
mutual
theorem DAt.dp {K : PySem.W.Frag} {H : Hp} {b : Addr} : ∀ (d : PyData) {v : V}, DAt H b v d → Dp K H v d
  | .none, _, h => by unfold DAt at h; subst h; exact .non
  | .bool _, _, h => by unfold DAt at h; subst h; exact .bl _
  | .int _, _, h => by unfold DAt at h; subst h; exact .int _
  | .str _, _, h => by unfold DAt at h; subst h; exact .str _
  | .list ds, _, h => by
    unfold DAt at h
    obtain ⟨a, xs, rfl, _, e, q⟩ := h
    exact .lst (.inl (.inl e)) (DAtAll.dp ds q)
  | .tuple ds, _, h => by
    unfold DAt at h
    obtain ⟨a, xs, rfl, e, q⟩ := h
    exact .tup (.inl (.inl e)) (DAtAll.dp ds q)
  | .dict _, _, h => by unfold DAt at h; exact h.elim
theorem DAtAll.dp {K : PySem.W.Frag} {H : Hp} {b : Addr} : ∀ (ds : List PyData) {xs : List V}, DAtAll H b xs ds → DpAll K H xs ds
  | [], _, h => by unfold DAtAll at h; subst h; exact .nil
  | d :: ds, _, h => by
    unfold DAtAll at h
    obtain ⟨x, r, rfl, q, q'⟩ := h
    exact .cons (DAt.dp d q) (DAtAll.dp ds q')
end
mutual
theorem DAt.mono {H H' : Hp} {b : Addr} (et : ∀ a xs, H a = some (.tup xs) → H' a = some (.tup xs)) (el : ∀ a xs, a ≠ b → H a = some (.lst xs) → H' a = some (.lst xs)) : ∀ (d : PyData) {v : V}, DAt H b v d → DAt H' b v d
  | .none, _, h => by unfold DAt at h ⊢; exact h
  | .bool _, _, h => by unfold DAt at h ⊢; exact h
  | .int _, _, h => by unfold DAt at h ⊢; exact h
  | .str _, _, h => by unfold DAt at h ⊢; exact h
  | .list ds, _, h => by
    unfold DAt at h ⊢
    obtain ⟨a, xs, e, n, q, q'⟩ := h
    exact ⟨a, xs, e, n, el _ _ n q, DAtAll.mono et el ds q'⟩
  | .tuple ds, _, h => by
    unfold DAt at h ⊢
    obtain ⟨a, xs, e, q, q'⟩ := h
    exact ⟨a, xs, e, et _ _ q, DAtAll.mono et el ds q'⟩
  | .dict _, _, h => by unfold DAt at h; exact h.elim
theorem DAtAll.mono {H H' : Hp} {b : Addr} (et : ∀ a xs, H a = some (.tup xs) → H' a = some (.tup xs)) (el : ∀ a xs, a ≠ b → H a = some (.lst xs) → H' a = some (.lst xs)) : ∀ (ds : List PyData) {xs : List V}, DAtAll H b xs ds → DAtAll H' b xs ds
  | [], _, h => by unfold DAtAll at h ⊢; exact h
  | d :: ds, _, h => by
    unfold DAtAll at h ⊢
    obtain ⟨x, r, e, q, q'⟩ := h
    exact ⟨x, r, e, DAt.mono et el d q, DAtAll.mono et el ds q'⟩
end
theorem DAt.same {H H' : Hp} {b : Addr} (e : Same H H') {d : PyData} {v : V} (h : DAt H b v d) : DAt H' b v d := DAt.mono (fun a _ q => e a _ q) (fun a _ _ q => e a _ q) d h
theorem DAt.but {H H' : Hp} {b : Addr} {ys : List V} (e : But b H H') (hb : H b = some (.lst ys)) {d : PyData} {v : V} (h : DAt H b v d) : DAt H' b v d :=
  DAt.mono (fun a _ q => e a _ q (ne_of q hb (by intro z; cases z))) (fun a _ n q => e a _ q n) d h
theorem DAtAll.same {H H' : Hp} {b : Addr} (e : Same H H') {ds : List PyData} {xs : List V} (h : DAtAll H b xs ds) : DAtAll H' b xs ds := DAtAll.mono (fun a _ q => e a _ q) (fun a _ _ q => e a _ q) ds h
theorem DAtAll.but {H H' : Hp} {b : Addr} {ys : List V} (e : But b H H') (hb : H b = some (.lst ys)) {ds : List PyData} {xs : List V} (h : DAtAll H b xs ds) : DAtAll H' b xs ds :=
  DAtAll.mono (fun a _ q => e a _ q (ne_of q hb (by intro z; cases z))) (fun a _ n q => e a _ q n) ds h
theorem DAtAll.nil {H : Hp} {b : Addr} : DAtAll H b [] [] := by unfold DAtAll; rfl
theorem DAtAll.cons {H : Hp} {b : Addr} {x : V} {xs : List V} {d : PyData} {ds : List PyData} (h : DAt H b x d) (h' : DAtAll H b xs ds) : DAtAll H b (x :: xs) (d :: ds) := by unfold DAtAll; exact ⟨x, xs, rfl, h, h'⟩
theorem DAtAll.head {H : Hp} {b : Addr} {x : V} {xs : List V} {ds : List PyData} (h : DAtAll H b (x :: xs) ds) : ∃ d ds', ds = d :: ds' ∧ DAt H b x d ∧ DAtAll H b xs ds' := by
  cases ds with
  | nil => unfold DAtAll at h; cases h
  | cons d ds =>
    unfold DAtAll at h
    obtain ⟨y, r, e, q, q'⟩ := h
    cases e
    exact ⟨d, ds, rfl, q, q'⟩
theorem DAtAll.len {H : Hp} {b : Addr} : ∀ {xs : List V} {ds : List PyData}, DAtAll H b xs ds → xs.length = ds.length
  | xs, [], h => by unfold DAtAll at h; subst h; rfl
  | xs, d :: ds, h => by
    unfold DAtAll at h
    obtain ⟨x, r, rfl, _, q⟩ := h
    rw [List.length_cons, List.length_cons, DAtAll.len q]
theorem DAtAll.append {H : Hp} {b : Addr} : ∀ {xs ys : List V} {ds es : List PyData}, DAtAll H b xs ds → DAtAll H b ys es → DAtAll H b (xs ++ ys) (ds ++ es)
  | xs, ys, [], es, h, h' => by unfold DAtAll at h; subst h; exact h'
  | xs, ys, d :: ds, es, h, h' => by
    unfold DAtAll at h
    obtain ⟨x, r, rfl, q, q'⟩ := h
    exact .cons q (DAtAll.append q' h')
theorem DAtAll.parted {H : Hp} {b : Addr} : ∀ {xs ys : List V} {ds : List PyData}, DAtAll H b (xs ++ ys) ds → ∃ d1 d2, ds = d1 ++ d2 ∧ DAtAll H b xs d1 ∧ DAtAll H b ys d2
  | [], ys, ds, h => ⟨[], ds, rfl, .nil, h⟩
  | x :: xs, ys, ds, h => by
    obtain ⟨d, ds', rfl, q, q'⟩ := DAtAll.head h
    obtain ⟨d1, d2, rfl, h1, h2⟩ := DAtAll.parted q'
    exact ⟨d :: d1, d2, rfl, .cons q h1, h2⟩
theorem DAtAll.take {H : Hp} {b : Addr} : ∀ {xs : List V} {ds : List PyData} (n : Nat), DAtAll H b xs ds → DAtAll H b (xs.take n) (ds.take n)
  | xs, ds, 0, h => by simp; exact .nil
  | [], ds, n + 1, h => by have := h.len; cases ds with | nil => simpa using DAtAll.nil | cons => simp at this
  | x :: xs, ds, n + 1, h => by
    obtain ⟨d, ds', rfl, q, q'⟩ := DAtAll.head h
    exact .cons q (DAtAll.take n q')
theorem DAtAll.drop {H : Hp} {b : Addr} : ∀ {xs : List V} {ds : List PyData} (n : Nat), DAtAll H b xs ds → DAtAll H b (xs.drop n) (ds.drop n)
  | xs, ds, 0, h => by simpa using h
  | [], ds, n + 1, h => by have := h.len; cases ds with | nil => simpa using DAtAll.nil | cons => simp at this
  | x :: xs, ds, n + 1, h => by
    obtain ⟨d, ds', rfl, q, q'⟩ := DAtAll.head h
    simpa using DAtAll.drop n q'
theorem DAtAll.back {H : Hp} {b : Addr} : ∀ {xs : List V} {ds : List PyData}, DAtAll H b xs ds → DAtAll H b xs.reverse ds.reverse
  | [], ds, h => by have := h.len; cases ds with | nil => simpa using DAtAll.nil | cons => simp at this
  | x :: xs, ds, h => by
    obtain ⟨d, ds', rfl, q, q'⟩ := DAtAll.head h
    rw [List.reverse_cons, List.reverse_cons]
    exact (DAtAll.back q').append (.cons q .nil)
theorem DAtAll.get {H : Hp} {b : Addr} : ∀ {xs : List V} {ds : List PyData} {i : Nat} {x : V}, DAtAll H b xs ds → xs[i]? = some x → ∃ d, ds[i]? = some d ∧ DAt H b x d
  | [], ds, i, x, h, e => by simp at e
  | y :: xs, ds, 0, x, h, e => by
    obtain ⟨d, ds', rfl, q, q'⟩ := DAtAll.head h
    simp at e
    subst e
    exact ⟨d, rfl, q⟩
  | y :: xs, ds, i + 1, x, h, e => by
    obtain ⟨d, ds', rfl, q, q'⟩ := DAtAll.head h
    simpa using DAtAll.get q' (by simpa using e)
/-! ### TERMs as data -/
def tmD : Tm → PyData
  | .v n => .int n
  | .z => .tuple [.str "0"]
  | .s t => .tuple [.str "s", tmD t]
  | .f l r => .tuple [.str "f", tmD l, tmD r]
theorem TmAt.dat {H : Hp} {b : Addr} {v : V} {t : Tm} (h : TmAt H v t) : DAt H b v (tmD t) := by
  induction h with
  | v n => unfold tmD DAt; rfl
  | z h => unfold tmD DAt; exact ⟨_, _, rfl, h, .cons (by unfold DAt; rfl) .nil⟩
  | s h _ ih => unfold tmD DAt; exact ⟨_, _, rfl, h, .cons (by unfold DAt; rfl) (.cons ih .nil)⟩
  | f h _ _ ih ih' => unfold tmD DAt; exact ⟨_, _, rfl, h, .cons (by unfold DAt; rfl) (.cons ih (.cons ih' .nil))⟩
theorem DAtAll.nil_of {H : Hp} {b : Addr} {xs : List V} (h : DAtAll H b xs []) : xs = [] := by unfold DAtAll at h; exact h
theorem DAtAll.cons_of {H : Hp} {b : Addr} {xs : List V} {d : PyData} {ds : List PyData} (h : DAtAll H b xs (d :: ds)) : ∃ x r, xs = x :: r ∧ DAt H b x d ∧ DAtAll H b r ds := by unfold DAtAll at h; exact h
theorem DAt.str_of {H : Hp} {b : Addr} {v : V} {x : Str} (h : DAt H b v (.str x)) : v = .str x := by unfold DAt at h; exact h
theorem DAt.int_of {H : Hp} {b : Addr} {v : V} {x : Int} (h : DAt H b v (.int x)) : v = .int x := by unfold DAt at h; exact h
theorem DAt.tup_of {H : Hp} {b : Addr} {v : V} {ds : List PyData} (h : DAt H b v (.tuple ds)) : ∃ (a : Addr) (xs : List V), v = .ref a ∧ H a = some (.tup xs) ∧ DAtAll H b xs ds := by unfold DAt at h; exact h
theorem DAt.lst_of {H : Hp} {b : Addr} {v : V} {ds : List PyData} (h : DAt H b v (.list ds)) : ∃ (a : Addr) (xs : List V), v = .ref a ∧ a ≠ b ∧ H a = some (.lst xs) ∧ DAtAll H b xs ds := by unfold DAt at h; exact h
theorem DAt.tm {H : Hp} {b : Addr} : ∀ (t : Tm) {v : V}, DAt H b v (tmD t) → TmAt H v t
  | .v n, _, h => by rw [DAt.int_of h]; exact .v n
  | .z, _, h => by
    obtain ⟨a, xs, rfl, e, q⟩ := DAt.tup_of h
    obtain ⟨x, r, rfl, q1, q2⟩ := q.cons_of
    cases q1.str_of
    cases q2.nil_of
    exact .z e
  | .s t, _, h => by
    obtain ⟨a, xs, rfl, e, q⟩ := DAt.tup_of h
    obtain ⟨x, r, rfl, q1, q2⟩ := q.cons_of
    obtain ⟨y, r', rfl, q3, q4⟩ := q2.cons_of
    cases q1.str_of
    cases q4.nil_of
    exact .s e (DAt.tm t q3)
  | .f l r, _, h => by
    obtain ⟨a, xs, rfl, e, q⟩ := DAt.tup_of h
    obtain ⟨x, r1, rfl, q1, q2⟩ := q.cons_of
    obtain ⟨y, r2, rfl, q3, q4⟩ := q2.cons_of
    obtain ⟨y', r3, rfl, q5, q6⟩ := q4.cons_of
    cases q1.str_of
    cases q6.nil_of
    exact .f e (DAt.tm l q3) (DAt.tm r q5)
def IsT (d : PyData) : Prop := ∃ t, d = tmD t ∧ ∀ n ∈ t.nums, 0 ≤ n ∧ n ≤ 99
/-- a sign with as many parts as it takes -/
def Shaped (d : PyData) : Prop := ∃ (x : Str) (ds : List PyData), d = .tuple (.str x :: ds) ∧ ((x = "0" ∧ ds.length = 0) ∨ (x = "s" ∧ ds.length = 1) ∨ (x = "f" ∧ ds.length = 2))
theorem isT_shaped {x : Str} {ds : List PyData} (h : (x = "0" ∧ ds.length = 0) ∨ (x = "s" ∧ ds.length = 1) ∨ (x = "f" ∧ ds.length = 2)) : IsT (.tuple (.str x :: ds)) ↔ ∀ d ∈ ds, IsT d := by
  have s0 : ("0" : Str) ≠ "s" := by decide +kernel
  have s1 : ("0" : Str) ≠ "f" := by decide +kernel
  have s2 : ("s" : Str) ≠ "f" := by decide +kernel
  rcases h with ⟨rfl, h⟩ | ⟨rfl, h⟩ | ⟨rfl, h⟩
  · match ds, h with
    | [], _ => exact ⟨fun _ d hd => by simp at hd, fun _ => ⟨.z, rfl, fun n hn => by simp [Tm.nums] at hn⟩⟩
  · match ds, h with
    | [d], _ =>
      constructor
      · rintro ⟨t, e, g⟩ d' hd
        simp at hd
        subst hd
        cases t with
        | s t => unfold tmD at e; injection e with e; injection e with _ e; injection e with e _; exact ⟨t, e, g⟩
        | v n => cases e
        | z => unfold tmD at e; injection e with e; injection e with e _; injection e with e; exact absurd e.symm s0
        | f l r => unfold tmD at e; injection e with e; injection e with e _; injection e with e; exact absurd e s2
      · intro h
        obtain ⟨t, rfl, g⟩ := h d (by simp)
        exact ⟨.s t, rfl, g⟩
  · match ds, h with
    | [d, d'], _ =>
      constructor
      · rintro ⟨t, e, g⟩ d2 hd
        cases t with
        | f l r =>
          unfold tmD at e
          injection e with e
          injection e with _ e
          injection e with e1 e
          injection e with e2 _
          simp at hd
          rcases hd with rfl | rfl
          · exact ⟨l, e1, fun n hn => g n (by simp [Tm.nums, hn])⟩
          · exact ⟨r, e2, fun n hn => g n (by simp [Tm.nums, hn])⟩
        | v n => cases e
        | z => unfold tmD at e; injection e with e; injection e with e _; injection e with e; exact absurd e.symm s1
        | s t => unfold tmD at e; injection e with e; injection e with e _; injection e with e; exact absurd e.symm s2
      · intro h
        obtain ⟨l, rfl, g1⟩ := h d (by simp)
        obtain ⟨r, rfl, g2⟩ := h d' (by simp)
        refine ⟨.f l r, rfl, fun n hn => ?_⟩
        rcases List.mem_append.mp hn with q | q
        · exact g1 n q
        · exact g2 n q
theorem isT_int {n : Int} : IsT (.int n) ↔ 0 ≤ n ∧ n ≤ 99 := by
  constructor
  · rintro ⟨t, e, g⟩
    cases t with
    | v m => unfold tmD at e; injection e with e; subst e; exact g _ (by simp [Tm.nums])
    | z => cases e
    | s t => cases e
    | f l r => cases e
  · intro h
    exact ⟨.v n, rfl, fun m hm => by simp [Tm.nums] at hm; subst hm; exact h⟩
theorem isT_other {d : PyData} (h : ¬ Shaped d) (h' : ∀ n, d ≠ .int n) : ¬ IsT d := by
  rintro ⟨t, rfl, g⟩
  cases t with
  | v n => exact h' n rfl
  | z => exact h ⟨"0", [], rfl, .inl ⟨rfl, rfl⟩⟩
  | s t => exact h ⟨"s", [_], rfl, .inr (.inl ⟨rfl, rfl⟩)⟩
  | f l r => exact h ⟨"f", [_, _], rfl, .inr (.inr ⟨rfl, rfl⟩)⟩
end Rp

namespace Rp
open PySem PySem.Spec PyProof.Rows L2
def tyD : PyData → String
  | .none => "NoneType" | .bool _ => "bool" | .int _ => "int" | .str _ => "str" | .list _ => "list" | .tuple _ => "tuple" | .dict _ => "dict"
theorem DAt.tyx {K : PySem.W.Frag} {H : Hp} {b : Addr} {v : V} {d : PyData} (h : DAt H b v d) : TyX K H v (.type (tyD d)) := by
  cases d with
  | none => unfold DAt at h; subst h; exact .base .non
  | bool c => unfold DAt at h; subst h; exact .base (.bl c)
  | int i => unfold DAt at h; subst h; exact .base (.int i)
  | str x => unfold DAt at h; subst h; exact .base (.str x)
  | list ds => obtain ⟨a, xs, rfl, _, e, _⟩ := h.lst_of; exact .base (.lst e)
  | tuple ds => obtain ⟨a, xs, rfl, e, _⟩ := h.tup_of; exact .base (.tup e)
  | dict ds => unfold DAt at h; exact h.elim
def isI : PyData → Bool | .int _ => true | .bool _ => true | _ => false
def isB : PyData → Bool | .bool _ => true | _ => false
def isS : PyData → Bool | .str _ => true | _ => false
def isU : PyData → Bool | .tuple _ => true | _ => false
def isL : PyData → Bool | .list _ => true | _ => false
def isNum : PyData → Bool | .int _ => true | _ => false
section
variable {K : PySem.W.Frag}
theorem kitI (d : PyData) : PySem.W.kitOne K (.type (tyD d)) (.type "int") = some (isI d) := by cases d <;> exact kit_ty (by simp only [tyD, isI]; decide +kernel)
theorem kitB' (d : PyData) : PySem.W.kitOne K (.type (tyD d)) (.type "bool") = some (isB d) := by cases d <;> exact kit_ty (by simp only [tyD, isB]; decide +kernel)
theorem kitS (d : PyData) : PySem.W.kitOne K (.type (tyD d)) (.type "str") = some (isS d) := by cases d <;> exact kit_ty (by simp only [tyD, isS]; decide +kernel)
theorem kitU (d : PyData) : PySem.W.kitOne K (.type (tyD d)) (.type "tuple") = some (isU d) := by cases d <;> exact kit_ty (by simp only [tyD, isU]; decide +kernel)
theorem kitL (d : PyData) : PySem.W.kitOne K (.type (tyD d)) (.type "list") = some (isL d) := by cases d <;> exact kit_ty (by simp only [tyD, isL]; decide +kernel)
end
def okD (d : PyData) : Prop := d.canLay0 = true ∧ d.depth ≤ 60
theorem okAll {ds : List PyData} (h : PyData.canLayAll0 ds = true) (k : Nat) (hk : PyData.depthAll ds ≤ k) : ∀ d ∈ ds, d.canLay0 = true ∧ d.depth ≤ k := by
  induction ds with
  | nil => intro d hd; simp at hd
  | cons x ds ih =>
    simp only [PyData.canLayAll0, Bool.and_eq_true] at h
    simp only [PyData.depthAll] at hk
    intro d hd
    rcases List.mem_cons.mp hd with rfl | hd
    · exact ⟨h.1, by omega⟩
    · exact ih h.2 (by omega) d hd
theorem okD.tup {ds : List PyData} (h : okD (.tuple ds)) : ∀ d ∈ ds, okD d := fun d hd => by
  have h1 : PyData.canLayAll0 ds = true := by have := h.1; simpa [PyData.canLay0] using this
  have h2 : PyData.depthAll ds + 1 ≤ 60 := by have := h.2; simpa [PyData.depth] using this
  have := okAll h1 59 (by omega) d hd
  exact ⟨this.1, by omega⟩
theorem eqv_str {x : Str} {d : PyData} : PyData.eqv (.str x) d = true ↔ d = .str x := by
  cases d <;> simp [PyData.eqv]
  exact eq_comm
theorem eqv_tup {xs ys : List PyData} : PyData.eqv (.tuple xs) (.tuple ys) = PyData.eqvAll xs ys := by simp only [PyData.eqv]
theorem eqv_int {i j : Int} : PyData.eqv (.int i) (.int j) = (i == j) := by simp only [PyData.eqv]
theorem eqvAll_cons {x y : PyData} {xs ys : List PyData} : PyData.eqvAll (x :: xs) (y :: ys) = (PyData.eqv x y && PyData.eqvAll xs ys) := by simp only [PyData.eqvAll]
theorem eqvAll_nil : PyData.eqvAll [] [] = true := by simp only [PyData.eqvAll]
theorem hu65 {A : Around} {k : Nat} (hr : Room k A) : A.units + 65 < cLine := by have := hr.un; omega
def shapesD : PyData := .tuple [.tuple [.str "0", .int 1], .tuple [.str "s", .int 2], .tuple [.str "f", .int 3]]
def shapesL : List PyData := [.tuple [.str "0", .int 1], .tuple [.str "s", .int 2], .tuple [.str "f", .int 3]]
theorem shapes_any {d0 : PyData} {ds : List PyData} : (shapesL.any fun y => PyData.eqv y (.tuple [d0, .int ((ds.length + 1 : Nat) : Int)])) = true ↔ Shaped (.tuple (d0 :: ds)) := by
  have one : ∀ (x : Str) (n : Int), PyData.eqv (.tuple [.str x, .int n]) (.tuple [d0, .int ((ds.length + 1 : Nat) : Int)]) = true ↔ d0 = .str x ∧ n = ((ds.length + 1 : Nat) : Int) := by
    intro x n
    rw [eqv_tup, eqvAll_cons, eqvAll_cons, eqvAll_nil, eqv_int]
    simp only [Bool.and_true, Bool.and_eq_true, eqv_str, beq_iff_eq]
  simp only [shapesL, List.any_cons, List.any_nil, Bool.or_false, Bool.or_eq_true, one]
  constructor
  · rintro (⟨rfl, e⟩ | ⟨rfl, e⟩ | ⟨rfl, e⟩)
    · exact ⟨"0", ds, rfl, .inl ⟨rfl, by omega⟩⟩
    · exact ⟨"s", ds, rfl, .inr (.inl ⟨rfl, by omega⟩)⟩
    · exact ⟨"f", ds, rfl, .inr (.inr ⟨rfl, by omega⟩)⟩
  · rintro ⟨x, ds', e, h⟩
    injection e with e
    injection e with e1 e2
    subst e1 e2
    rcases h with ⟨rfl, h⟩ | ⟨rfl, h⟩ | ⟨rfl, h⟩
    · exact .inl ⟨rfl, by omega⟩
    · exact .inr (.inl ⟨rfl, by omega⟩)
    · exact .inr (.inr ⟨rfl, by omega⟩)
/-- x in t, t a tuple of data of any depth -/
def rInT (K : PySem.W.Frag) : R2 := fun x y H Q => ∃ (d : PyData) (ds : List PyData), Dp K H x d ∧ Dp K H y (.tuple ds) ∧ SeqAt.shaped d = true ∧ SeqAt.shaped (.tuple ds) = true ∧ Q (.bl (ds.any fun y => PyData.eqv y d)) H
section
variable {X : Cx}
theorem op_inT (hu : X.A.units + 65 < cLine) : OpR X (compareOp .In) (rInT X.K) := by
  intro pins s σ H x y v u Q I rx ry h
  obtain ⟨d, ds, hd, he, sd, se, q⟩ := h
  obtain ⟨as, r1⟩ := Dp.reads I d x v hd rx
  obtain ⟨bs, r2⟩ := Dp.reads I (.tuple ds) y u he ry
  exact SeqAt.in_tuple_reads r2 r1 (SeqAt.canLay_of_shaped se) (SeqAt.canLay_of_shaped sd) (room_in_shaped sd hu) ⟨.bl _, H, I, rfl, q⟩
end
theorem shaped_of {d : PyData} (h : d.canLay0 = true) (h' : d.depth ≤ 64) : SeqAt.shaped d = true := by
  show (d.canLay0 && decide (d.depth ≤ 64)) = true
  rw [h, decide_eq_true h']
  rfl
def spNumber : Sp := fun vs H Q _ => ∃ (b : Addr) (v : V) (d : PyData), vs = [v] ∧ DAt H b v d ∧ Q (.bl (isNum d)) H
def isVar : PyData → Bool | .int n => decide (0 ≤ n) && decide (n ≤ 99) | _ => false
def spVariable : Sp := fun vs H Q _ => ∃ (b : Addr) (v : V) (d : PyData), vs = [v] ∧ DAt H b v d ∧ Q (.bl (isVar d)) H
def spShape : Sp := fun vs H Q _ => ∃ (b : Addr) (v : V) (d : PyData), vs = [v] ∧ DAt H b v d ∧ okD d ∧ ∀ (r : Bool) (H' : Hp), (r = true ↔ Shaped d) → Same H H' → Q (.bl r) H'
section
variable {P : Program} {w : World} {K : PySem.W.Frag} {mg : Str → Option Value} {base : Heap}
end
end Rp

/-! Data of small ints and a few short texts: how large they are, what is said of them. -/
namespace Rp
open PySem PySem.Spec PyProof.Rows L2
def okText (x : Str) : Prop := x = "" ∨ x = "0" ∨ x = "s" ∨ x = "f" ∨ x = "x" ∨ x = "g" ∨ x = "x0"
mutual
def fine (U : List Int) : PyData → Prop
  | .none => True | .bool _ => True | .int i => i ∈ U | .str x => okText x | .list ds => fineAll U ds | .tuple ds => fineAll U ds | .dict _ => False
def fineAll (U : List Int) : List PyData → Prop
  | [] => True
  | d :: ds => fine U d ∧ fineAll U ds
end
mutual
def nd : PyData → Nat
  | .list ds => ndAll ds + 1 | .tuple ds => ndAll ds + 1 | _ => 1
def ndAll : List PyData → Nat
  | [] => 0
  | d :: ds => nd d + ndAll ds
end
theorem nd_pos (d : PyData) : 1 ≤ nd d := by cases d <;> simp [nd]
theorem ndAll_append : ∀ a b : List PyData, ndAll (a ++ b) = ndAll a + ndAll b
  | [], b => by simp [ndAll]
  | x :: a, b => by simp only [List.cons_append, ndAll, ndAll_append a b]; omega
theorem ndAll_mem : ∀ {ds : List PyData} {d : PyData}, d ∈ ds → nd d ≤ ndAll ds
  | x :: ds, d, h => by
    simp only [ndAll]
    rcases List.mem_cons.mp h with rfl | h
    · omega
    · have := ndAll_mem h; omega
theorem ndAll_len : ∀ ds : List PyData, ds.length ≤ ndAll ds
  | [] => Nat.le_refl _
  | d :: ds => by have := ndAll_len ds; have := nd_pos d; simp only [ndAll, List.length_cons]; omega
theorem fineAll_iff {U : List Int} : ∀ {ds : List PyData}, fineAll U ds ↔ ∀ d ∈ ds, fine U d
  | [] => by simp [fineAll]
  | d :: ds => by simp only [fineAll, fineAll_iff (ds := ds), List.forall_mem_cons]
theorem depthAll_iff {k : Nat} : ∀ {ds : List PyData}, PyData.depthAll ds ≤ k ↔ ∀ d ∈ ds, d.depth ≤ k
  | [] => by simp [PyData.depthAll]
  | d :: ds => by simp only [PyData.depthAll, List.forall_mem_cons, ← depthAll_iff (ds := ds)]; omega
theorem okText_lay {x : Str} (h : okText x) : PyData.canLay0 (.str x) = true ∧ x.cps.size ≤ 2 := by
  rcases h with rfl | rfl | rfl | rfl | rfl | rfl | rfl <;> exact ⟨by decide +kernel, by decide +kernel⟩
/-- the few ints of a row of data -/
structure Few (U : List Int) : Prop where
  le : ∀ i ∈ U, -1 ≤ i ∧ i ≤ 100
  len : U.length ≤ 200
mutual
theorem fine_lay {U : List Int} (hU : Few U) : ∀ d : PyData, fine U d → d.canLay0 = true ∧ d.showable = true ∧ d.intsShort 13 = true ∧ d.hasDict = false ∧ d.weight + 1 ≤ 110 * nd d
  | .none, _ => ⟨rfl, rfl, rfl, rfl, by decide⟩
  | .bool b, _ => ⟨rfl, rfl, rfl, rfl, by simp [PyData.weight, nd]⟩
  | .int i, h => by
    have h : -1 ≤ i ∧ i ≤ 100 := hU.le i h
    have a : i.natAbs ≤ 100 := by omega
    have b := Nat.log2_le_self i.natAbs
    refine ⟨rfl, ?_, ?_, rfl, ?_⟩
    · simp only [PyData.showable, decide_eq_true_eq]; omega
    · simp only [PyData.intsShort, decide_eq_true_eq]; exact PyData.shown_int_le (by omega)
    · simp only [PyData.weight, nd]; split <;> omega
  | .str x, h => by
    have z := okText_lay h
    refine ⟨z.1, rfl, rfl, rfl, ?_⟩
    simp only [PyData.weight, nd]
    omega
  | .list ds, h => by
    have z := fine_layAll hU ds h
    simp only [PyData.canLay0, PyData.showable, PyData.intsShort, PyData.hasDict, PyData.weight, nd]
    refine ⟨z.1, z.2.1, z.2.2.1, z.2.2.2.1, by omega⟩
  | .tuple ds, h => by
    have z := fine_layAll hU ds h
    simp only [PyData.canLay0, PyData.showable, PyData.intsShort, PyData.hasDict, PyData.weight, nd]
    refine ⟨z.1, z.2.1, z.2.2.1, z.2.2.2.1, by omega⟩
  | .dict _, h => h.elim
theorem fine_layAll {U : List Int} (hU : Few U) : ∀ ds : List PyData, fineAll U ds → PyData.canLayAll0 ds = true ∧ PyData.showableAll ds = true ∧ PyData.intsShortAll 13 ds = true ∧ PyData.hasDictAll ds = false ∧ PyData.weightAll ds ≤ 110 * ndAll ds
  | [], _ => ⟨rfl, rfl, rfl, rfl, by decide⟩
  | d :: ds, h => by
    have h : fine U d ∧ fineAll U ds := h
    have a := fine_lay hU d h.1
    have b := fine_layAll hU ds h.2
    simp only [PyData.canLayAll0, PyData.showableAll, PyData.intsShortAll, PyData.hasDictAll, PyData.weightAll, ndAll, Bool.and_eq_true, Bool.or_eq_false_iff]
    exact ⟨⟨a.1, b.1⟩, ⟨a.2.1, b.2.1⟩, ⟨a.2.2.1, b.2.2.1⟩, ⟨a.2.2.2.1, b.2.2.2.1⟩, by omega⟩
end
/-- fine, of at most n nodes, at most k deep -/
structure Good (U : List Int) (n k : Nat) (d : PyData) : Prop where
  fine : fine U d
  nd : nd d ≤ n
  dp : d.depth ≤ k
theorem Good.more {U : List Int} {n k n' k' : Nat} {d : PyData} (h : Good U n k d) (hn : n ≤ n') (hk : k ≤ k') : Good U n' k' d := ⟨h.fine, by have := h.nd; omega, by have := h.dp; omega⟩
theorem Good.ok {U : List Int} (hU : Few U) {n k : Nat} {d : PyData} (h : Good U n k d) (hk : k ≤ 60) : okD d := ⟨(fine_lay hU d h.fine).1, by have := h.dp; omega⟩
theorem Good.shown {U : List Int} (hU : Few U) {n k : Nat} {d : PyData} (h : Good U n k d) (hn : n ≤ 9000) (hk : k ≤ 60) : d.showable = true ∧ d.hasDict = false ∧ d.depth ≤ 64 ∧ d.shown.length ≤ 15728653 := by
  obtain ⟨h1, h2, h3, h4, h5⟩ := fine_lay hU d h.fine
  have n1 := h.nd
  have k1 := h.dp
  refine ⟨h2, h4, by omega, shown_le13 ?_ h3⟩
  unfold PyData.layable0
  rw [h1, decide_eq_true (by omega : d.depth ≤ 64), decide_eq_true (by omega : d.weight ≤ 2 ^ 20)]
  rfl
theorem Good.tup {U : List Int} {n k : Nat} {ds : List PyData} (h : Good U n k (.tuple ds)) : (∀ d ∈ ds, Rp.fine U d) ∧ ndAll ds + 1 ≤ n ∧ ∀ d ∈ ds, d.depth + 1 ≤ k := by
  refine ⟨fineAll_iff.mp h.fine, by simpa [Rp.nd] using h.nd, fun d hd => ?_⟩
  have k1 : PyData.depthAll ds + 1 ≤ k := by simpa [PyData.depth] using h.dp
  have := depthAll_iff.mp (Nat.le_refl (PyData.depthAll ds)) d hd
  omega
theorem Good.lst {U : List Int} {n k : Nat} {ds : List PyData} (h : Good U n k (.list ds)) : (∀ d ∈ ds, Rp.fine U d) ∧ ndAll ds + 1 ≤ n ∧ ∀ d ∈ ds, d.depth + 1 ≤ k := by
  refine ⟨fineAll_iff.mp h.fine, by simpa [Rp.nd] using h.nd, fun d hd => ?_⟩
  have k1 : PyData.depthAll ds + 1 ≤ k := by simpa [PyData.depth] using h.dp
  have := depthAll_iff.mp (Nat.le_refl (PyData.depthAll ds)) d hd
  omega
theorem good_lst {U : List Int} {n k : Nat} {ds : List PyData} (h : ∀ d ∈ ds, fine U d) (hn : ndAll ds + 1 ≤ n) (hk : ∀ d ∈ ds, d.depth + 1 ≤ k) (k1 : 1 ≤ k) : Good U n k (.list ds) := by
  refine ⟨fineAll_iff.mpr h, by simpa [Rp.nd] using hn, ?_⟩
  have : PyData.depthAll ds ≤ k - 1 := depthAll_iff.mpr fun d hd => by have := hk d hd; omega
  simp only [PyData.depth]
  omega
theorem good_tup {U : List Int} {n k : Nat} {ds : List PyData} (h : ∀ d ∈ ds, fine U d) (hn : ndAll ds + 1 ≤ n) (hk : ∀ d ∈ ds, d.depth + 1 ≤ k) (k1 : 1 ≤ k) : Good U n k (.tuple ds) := by
  refine ⟨fineAll_iff.mpr h, by simpa [Rp.nd] using hn, ?_⟩
  have : PyData.depthAll ds ≤ k - 1 := depthAll_iff.mpr fun d hd => by have := hk d hd; omega
  simp only [PyData.depth]
  omega
/-- a TERM's data are good -/
theorem tm_good {U : List Int} : ∀ t : Tm, (∀ n ∈ t.nums, n ∈ U) → Good U (2 * t.size) (t.deep + 1) (tmD t)
  | .v n, h => ⟨h n (by simp [Tm.nums]), by simp [tmD, Rp.nd, Tm.size], by simp [tmD, PyData.depth]⟩
  | .z, _ => ⟨⟨.inr (.inl rfl), trivial⟩, by simp [tmD, Rp.nd, ndAll, Tm.size], by simp [tmD, PyData.depth, PyData.depthAll]⟩
  | .s t, h => by
    have g := tm_good t h
    have h1 := g.nd
    have h2 := g.dp
    unfold tmD
    refine good_tup (fun d hd => ?_) ?_ (fun d hd => ?_) (by omega)
    · simp at hd; rcases hd with rfl | rfl
      · exact .inr (.inr (.inl rfl))
      · exact g.fine
    · simp only [ndAll, Rp.nd, Tm.size]; omega
    · simp at hd; rcases hd with rfl | rfl
      · simp [PyData.depth, Tm.deep]
      · simp only [Tm.deep]; omega
  | .f l r, h => by
    have g := tm_good l fun n hn => h n (by simp [Tm.nums, hn])
    have g' := tm_good r fun n hn => h n (by simp [Tm.nums, hn])
    have h1 := g.nd
    have h2 := g.dp
    have h3 := g'.nd
    have h4 := g'.dp
    unfold tmD
    refine good_tup (fun d hd => ?_) ?_ (fun d hd => ?_) (by omega)
    · simp at hd; rcases hd with rfl | rfl | rfl
      · exact .inr (.inr (.inr (.inl rfl)))
      · exact g.fine
      · exact g'.fine
    · simp only [ndAll, Rp.nd, Tm.size]; omega
    · simp at hd; rcases hd with rfl | rfl | rfl
      · simp [PyData.depth, Tm.deep]
      · simp only [Tm.deep]; omega
      · simp only [Tm.deep]; omega
/-- ints of a TERM among the data's -/
theorem tm_fine {U : List Int} : ∀ t : Tm, fine U (tmD t) → ∀ n ∈ t.nums, n ∈ U
  | .v n, h, m, hm => by simp [Tm.nums] at hm; subst hm; exact h
  | .z, h, m, hm => by simp [Tm.nums] at hm
  | .s t, h, m, hm => tm_fine t h.2.1 m hm
  | .f l r, h, m, hm => by
    rcases List.mem_append.mp hm with q | q
    · exact tm_fine l h.2.1 m q
    · exact tm_fine r h.2.2.1 m q
theorem nodup_le : ∀ {L U : List Int}, L.Nodup → (∀ k ∈ L, k ∈ U) → L.length ≤ U.length
  | [], U, _, _ => Nat.zero_le _
  | x :: L, U, h, hs => by
    rw [List.nodup_cons] at h
    have hx := hs x (by simp)
    have := nodup_le (L := L) (U := U.erase x) h.2 fun k hk => (List.mem_erase_of_ne (fun e => h.1 (by rw [← e]; exact hk))).mpr (hs k (by simp [hk]))
    rw [List.length_erase_of_mem hx] at this
    have := List.length_pos_of_mem hx
    rw [List.length_cons]
    omega
/-- the other way: a TERM's data tell its size -/
theorem tm_size : ∀ t : Tm, t.size ≤ nd (tmD t) ∧ t.deep ≤ (tmD t).depth
  | .v n => ⟨by simp [tmD, nd, Tm.size], by simp [Tm.deep]⟩
  | .z => ⟨by simp [tmD, nd, Tm.size], by simp [Tm.deep]⟩
  | .s t => by
    have := tm_size t
    simp only [tmD, nd, ndAll, Tm.size, Tm.deep, PyData.depth, PyData.depthAll]
    omega
  | .f l r => by
    have := tm_size l
    have := tm_size r
    simp only [tmD, nd, ndAll, Tm.size, Tm.deep, PyData.depth, PyData.depthAll]
    omega
end Rp

namespace Rp
open PySem PySem.Spec PyProof.Rows L2
def spTerm : Sp := fun vs H Q _ => ∃ (b : Addr) (v : V) (d : PyData), vs = [v] ∧ DAt H b v d ∧ okD d ∧ nd d ≤ 1000 ∧ ∀ (r : Bool) (H' : Hp), (r = true ↔ IsT d) → Same H H' → Q (.bl r) H'
theorem isVar_iff {d : PyData} (h : ¬ Shaped d) : isVar d = true ↔ IsT d := by
  cases d with
  | int n => rw [isT_int]; simp [isVar]
  | _ => exact ⟨fun e => by simp [isVar] at e, fun e => absurd e (isT_other h fun n z => by cases z)⟩
section
variable {P : Program} {w : World} {K : PySem.W.Frag} {mg : Str → Option Value} {base : Heap}
end
end Rp

/-! a, *b = xs, a list of one item at least. -/
namespace Rp
open PySem PySem.Spec PySem.Calls PyProof.Rows L2 PySem.W
section
variable {prog : Program} {w : World} {A : Around} {E : Value → Shared → Prop} {s : Shared}
theorem unpack_star {l : Addr} {items : Array Value} {n i : Nat} {Q : List Value → Shared → Prop} (isL : s.heap.IsList l items) (calm : A.handled = none) (hi : i < n) (hn : n ≤ items.size + 1) (few : items.size ≤ 16384)
    (go : ∀ (h' : Heap) (tk : Nat), (∀ b o, s.heap.get? b = some o → h'.get? b = some o) → Q (items.toList.take i ++ [.ref h'.objs.size] ++ (items.toList.drop i).drop (items.size + 1 - n))
      { s with heap := h'.push (seqObj "list" ((items.toList.drop i).take (items.size + 1 - n)).toArray 0), toks := tk }) : wpAny (model prog w) A (unpackItems (.ref l) n (some i)) Q E s := by
  have apart : l ≠ s.heap.objs.size := by obtain ⟨o, ho, _⟩ := isL; exact Nat.ne_of_lt (Heap.lt_size ho)
  unfold unpackItems; refine wpAny_bind ?_; unfold notIterableAtAll
  refine wpAny_bind (wpAny_specialOf isL.typeIs slot_list_iter.lookup (wpAny_pure ?_)); simp only [Bool.false_eq_true, if_false]
  refine wpAny_bind (wpAny_holding (wpAny_pyIter_list isL (wpAny_bind (wpAny_holding (kun_draw apart i 0 _ _ ⟨_, Heap.get?_push_size _ rfl, rfl, rfl⟩ (isL.push _) (by omega) fun h₁ it1 sb1 => ?_)))))
  have isL1 : h₁.IsList l items := (isL.push _).extBut sb1.extBut apart
  rw [Nat.zero_add] at it1
  obtain ⟨oi, hoi, _⟩ := id it1
  obtain ⟨ol, hol, _⟩ := id isL1
  rw [List.drop_zero, if_neg (show ¬ ((items.toList.take i).length < i) by rw [List.length_take, Array.length_toList]; omega)]
  refine wpAny_bind (wpAny_holding (kun_collect (s := { s with heap := h₁ }) (T := "list_iterator") (.inr (.inr (.inl rfl))) (Walks.list (A := A.in1) calm s.heap.objs.size l apart items) (fun j u st => st.1.typeIs) (k := i) (by omega) ⟨it1, isL1⟩
    (Heap.lt_size hoi) (Heap.lt_size hol) (fun h₂ tk old => ?_) (by rw [sizeLine_eq]; omega)))
  have rest : (items.toList.drop i).length = items.size - i := by rw [List.length_drop, Array.length_toList]
  show wpAny _ _ (if (items.toList.drop i).length < n - 1 - i then _ else _) _ _ _; rw [if_neg (by rw [rest]; omega)]
  show wpAny _ _ (newList ((items.toList.drop i).take ((items.toList.drop i).length - (n - 1 - i))) >>= fun d => pure (items.toList.take i ++ [d] ++ (items.toList.drop i).drop ((items.toList.drop i).length - (n - 1 - i)))) _ _ _
  rw [show (items.toList.drop i).length - (n - 1 - i) = items.size + 1 - n by rw [rest]; omega]
  refine wpAny_bind (wpAny_newList (wpAny_pure (go h₂ tk fun b o z => old b o (Nat.ne_of_lt (Heap.lt_size z)) (sb1.extBut b o (Nat.ne_of_lt (Heap.lt_size z)) (Heap.get?_push_of_some _ z)))) (by rw [List.length_take, rest, sizeLine_eq]; omega))
end
section
variable {X : Cx} {pos : Pos}
/-- (a, *b) = a list: the first item, a new list of the others -/
def gStar (K : PySem.W.Frag) (t : TGs) : TG := fun v σ H Q => ∃ (a : Addr) (x : V) (xs : List V), v = .ref a ∧ SqL K H a (x :: xs) ∧ xs.length ≤ 16000 ∧ ∀ p, H p = none → t [x, .ref p] σ (upd H p (.lst xs)) Q
theorem pg_star {es : List Expr} {k : Nat} {t : TGs} (calm : X.calm = true) (h : PGs X es t) (hn : (assignEach es X.env).length = 2 := by rfl) (hst : (assignEach es X.env).findIdx? (·.1) = some 1 := by rfl) : PG X (.Tuple es k pos) (gStar X.K t) := by
  refine ⟨fun pins s σ H v u Q I r hw => ?_⟩
  obtain ⟨a, x, xs, rfl, sq, few, go⟩ := hw
  cases r
  obtain ⟨its, rv, isL, _⟩ := I.list sq
  have len := rv.length
  cases rv with
  | @cons _ v0 _ vs r0 rr =>
    have lv := rr.length
    rw [assign_Tuple]
    refine wpAny_bind (wpAny_standAt ?_)
    unfold unpack
    rw [hn, hst]
    refine wpAny_bind (wpAny_holding (unpack_star isL.isList (I.ok.hd calm) (by decide) (by simp) (by simp; omega) fun h' tk old => ?_))
    have J : Inv X pins σ H { s with heap := h', toks := tk } := I.kept old
    have big : (20000 : Nat) ≤ sizeLine := by decide
    have K1 : Inv X pins σ (upd H h'.objs.size (.lst xs)) { s with heap := h'.push (seqObj "list" vs.toArray 0), toks := tk } :=
      J.laid (t' := tk) (fun b o z => Heap.get?_push_of_some _ z) (Nat.le_refl _) ⟨by omega, vs, 0, rr, Heap.get?_push_size _ rfl⟩
    have e1 : ((v0 :: vs).toArray.toList.drop 1).take ((v0 :: vs).toArray.size + 1 - 2) = vs := by simp
    have e2 : (v0 :: vs).toArray.toList.take 1 ++ [Value.ref h'.objs.size] ++ ((v0 :: vs).toArray.toList.drop 1).drop ((v0 :: vs).toArray.size + 1 - 2) = [v0, .ref h'.objs.size] := by simp
    rw [e1, e2]
    exact h.run pins _ σ _ [x, .ref h'.objs.size] _ Q K1 (.cons r0 (.cons rfl .nil)) (go _ (J.hok.fresh (Nat.le_refl _)))
end
end Rp

set_option maxHeartbeats 8000000
/-! NAMEs and ATOMs. -/
namespace Rp
open PySem PySem.Spec PyProof.Rows L2 TL
def letters : Str := "abcdefghijklmnopqrstuvwxyz"
structure NameOk (x : Str) : Prop where
  pos : 1 ≤ x.length
  few : x.length ≤ 6
  low : ∀ c ∈ tl x, 97 ≤ c ∧ c ≤ 122
  nif : x ≠ "if"
theorem in_letters {c : Nat} (h : 97 ≤ c ∧ c ≤ 122) : c ∈ letters.cps.toList := by
  have all : ∀ k : Fin 26, k.val + 97 ∈ letters.cps.toList := by decide +kernel
  have := all ⟨c - 97, by omega⟩
  rwa [show c - 97 + 97 = c by omega] at this
theorem tm_ok : ∀ t : Tm, (tmD t).canLay0 = true ∧ (tmD t).depth ≤ t.deep + 1 ∧ nd (tmD t) ≤ 2 * t.size
  | .v n => ⟨rfl, by simp [tmD, PyData.depth], by simp [tmD, nd, Tm.size]⟩
  | .z => ⟨by decide +kernel, by simp [tmD, PyData.depth, PyData.depthAll], by simp [tmD, nd, ndAll, Tm.size]⟩
  | .s t => by
    have ih := tm_ok t
    have a : PyData.canLay0 (.str "s") = true := by decide +kernel
    refine ⟨?_, ?_, ?_⟩
    · simp only [tmD, PyData.canLay0, PyData.canLayAll0, Bool.and_true, Bool.and_eq_true]; exact ⟨by simpa [PyData.canLay0] using a, ih.1⟩
    · simp only [tmD, PyData.depth, PyData.depthAll, Tm.deep]; omega
    · simp only [tmD, nd, ndAll, Tm.size]; omega
  | .f l r => by
    have ih := tm_ok l
    have ih2 := tm_ok r
    have a : PyData.canLay0 (.str "f") = true := by decide +kernel
    refine ⟨?_, ?_, ?_⟩
    · simp only [tmD, PyData.canLay0, PyData.canLayAll0, Bool.and_true, Bool.and_eq_true]; exact ⟨by simpa [PyData.canLay0] using a, ih.1, ih2.1⟩
    · simp only [tmD, PyData.depth, PyData.depthAll, Tm.deep]; omega
    · simp only [tmD, nd, ndAll, Tm.size]; omega
structure At where
  nm : Str
  ts : List Tm
structure AtOk (z : Nat) (a : At) : Prop where
  nm : NameOk a.nm
  one : 1 ≤ a.ts.length
  two : a.ts.length ≤ 2
  sm : ∀ t ∈ a.ts, t.small ∧ t.size ≤ z
def AtAt (H : Hp) (v : V) (a : At) : Prop := ∃ (p : Addr) (xs : List V), v = .ref p ∧ H p = some (.tup (.str a.nm :: xs)) ∧ AllAt H xs a.ts
def spIsName : Sp := fun vs H Q _ => ∃ x : Str, vs = [.str x] ∧ NameOk x ∧ ∀ H', Same H H' → Q (.bl true) H'
def spIsAtom : Sp := fun vs H Q _ => ∃ (v : V) (a : At), vs = [v] ∧ AtAt H v a ∧ AtOk 50 a ∧ ∀ H', Same H H' → Q (.bl true) H'
section
variable {P : Program} {w : World} {K : PySem.W.Frag} {mg : Str → Option Value} {base : Heap}
end
end Rp

set_option maxHeartbeats 8000000
namespace Rp
open PySem PySem.Spec PyProof.Rows L2 TL StX
theorem pgs_star {X : Cx} {e : Expr} {es : List Expr} {p : Pos} {t : TG} {u : TGs} (h1 : PG X e t) (h2 : PGs X es u) (hs : (assignEach (.Starred e p :: es) X.env).map (·.2) = assign e X.env :: (assignEach es X.env).map (·.2) := by rfl) : PGs X (.Starred e p :: es) (gCons t u) := by
  refine ⟨fun pins s σ H vs us Q I rel told => ?_⟩
  obtain ⟨v, rest, rfl, told⟩ := told
  cases rel with
  | cons r rr =>
    rw [hs]
    exact assignInOrder_cons (thn (h1.run pins s σ H _ _ _ I r told) fun _ s1 ⟨σ1, H1, J, go⟩ => h2.run pins s1 σ1 H1 _ _ Q J rr go)
theorem t_sp : tl (" " : Str) = [32] := by decide +kernel
theorem txt_low : ∀ (t : Tm), t.small → ∀ d ∈ tl t.txt, 40 ≤ d ∧ d ≤ 120
  | .v n, h, d, hd => by
    have hd : d ∈ tl (("x" : Str) ++ Str.ofString (toString n)) := hd
    rw [tl_append, t_x, tl_int (h n (by simp [Tm.nums])).1] at hd
    rcases List.mem_append.mp hd with hd | hd
    · simp at hd; omega
    · have := numL_small _ d hd; omega
  | .z, h, d, hd => by
    have hd : d ∈ tl ("0" : Str) := hd
    rw [t_0] at hd; simp at hd; omega
  | .s t, h, d, hd => by
    have hd : d ∈ tl (("s" : Str) ++ "(" ++ Txt.join "," [t.txt] ++ ")") := hd
    rw [join1, tl_append, tl_append, tl_append, t_s, t_open, t_close] at hd
    simp only [List.mem_append, List.mem_singleton] at hd
    rcases hd with ((hd | hd) | hd) | hd
    · omega
    · omega
    · exact txt_low t h d hd
    · omega
  | .f l r, h, d, hd => by
    have hd : d ∈ tl (("f" : Str) ++ "(" ++ Txt.join "," [l.txt, r.txt] ++ ")") := hd
    rw [join2, tl_append, tl_append, tl_append, tl_append, tl_append, t_f, t_open, t_close, t_comma] at hd
    simp only [List.mem_append, List.mem_singleton] at hd
    rcases hd with ((hd | hd) | (hd | hd) | hd) | hd
    · omega
    · omega
    · exact txt_low l (fun n hn => h n (by simp [Tm.nums, hn])) d hd
    · omega
    · exact txt_low r (fun n hn => h n (by simp [Tm.nums, hn])) d hd
    · omega
def parts (a : At) : List Str := a.nm :: a.ts.map Tm.txt
def atxt (a : At) : Str := Txt.join " " (parts a)
theorem parts_free {z : Nat} {a : At} (ok : AtOk z a) : ∀ p ∈ parts a, 32 ∉ tl p := by
  intro p hp hd
  rcases List.mem_cons.mp hp with rfl | hp
  · have := ok.nm.low _ hd; omega
  · obtain ⟨t, ht, rfl⟩ := List.mem_map.mp hp
    have := txt_low t (ok.sm t ht).1 _ hd
    omega
theorem atxt_split {z : Nat} {a : At} (ok : AtOk z a) : Txt.split (atxt a) " " = parts a := split_join t_sp (by decide +kernel) (by simp [parts]) (parts_free ok)
theorem parts_sum {a : At} (ok : AtOk 50 a) : ((parts a).map (·.length)).sum + (parts a).length * 1 ≤ 500 := by
  have h1 := ok.nm.few
  have each : ∀ t ∈ a.ts, t.txt.length ≤ 200 := fun t ht => by
    have := txt_len t (ok.sm t ht).1
    have := (ok.sm t ht).2
    omega
  have o1 := ok.one
  have o2 := ok.two
  unfold parts
  match hts : a.ts with
  | [] => rw [hts] at o1; simp at o1
  | [t] => have := each t (by rw [hts]; simp); simp; omega
  | [t, u] => have := each t (by rw [hts]; simp); have := each u (by rw [hts]; simp); simp; omega
  | t :: u :: v :: r => rw [hts] at o2; simp at o2
theorem atxt_len {a : At} (ok : AtOk 50 a) : (atxt a).length ≤ 500 := by
  have jl := StrLaws.join_length_le " " (parts a)
  have l1 : (" " : Str).length = 1 := by decide +kernel
  rw [l1] at jl
  have := parts_sum ok
  unfold atxt
  rw [join_eq]
  omega
def spAtomText : Sp := fun vs H Q _ => ∃ (v : V) (a : At), vs = [v] ∧ AtAt H v a ∧ AtOk 50 a ∧ ∀ H', Same H H' → Q (.str (atxt a)) H'
def spAtomOr : Sp := fun vs H Q _ => ∃ a : At, vs = [.str (atxt a)] ∧ AtOk 50 a ∧ ∀ (v : V) (H' : Hp), AtAt H' v a → Same H H' → Q v H'
section
variable {P : Program} {w : World} {K : PySem.W.Frag} {mg : Str → Option Value} {base : Heap}
end
end Rp

set_option maxHeartbeats 8000000
namespace Rp
open PySem PySem.Spec PyProof.Rows L2 TL StX
section
variable {P : Program} {w : World} {K : PySem.W.Frag} {mg : Str → Option Value} {base : Heap}
end
end Rp

set_option maxHeartbeats 8000000
/-! Heads of RULEs. -/
namespace Rp
open PySem PySem.Spec PyProof.Rows L2 TL StX
theorem mt_extendA {X : Cx} : MtM X "list.extend" (fun x vs H Q => rExtend x vs H Q ∨ rExtT X.K x vs H Q) := by
  intro pins s σ H x vs v us Q I rx rv h
  rcases h with h | h
  · exact mt_extend pins s σ H x vs v us Q I rx rv h
  · exact mt_extendT pins s σ H x vs v us Q I rx rv h
/-- a variable, a nought, a step or a fork of variables -/
def Tm.plain : Tm → Prop
  | .v _ => True | .z => True | .s (.v _) => True | .f (.v _) (.v _) => True | _ => False
def hvars (ts : List Tm) : List Int := ts.flatMap Tm.nums
structure HdOk (a : At) : Prop extends AtOk 50 a where
  pl : ∀ t ∈ a.ts, t.plain
  rng : hvars a.ts = (List.range (hvars a.ts).length).map Int.ofNat
def spHeadVars : Sp := fun vs H Q _ => ∃ (v : V) (a : At), vs = [v] ∧ AtAt H v a ∧ HdOk a ∧ ∀ (p : Addr) (H' : Hp), H p = none → H' p = some (.lst ((hvars a.ts).map V.int)) → Same H H' → Q (.ref p) H'
theorem plain_few {t : Tm} (h : t.plain) : t.nums.length ≤ 2 := by
  match t, h with
  | .v _, _ => simp [Tm.nums]
  | .z, _ => simp [Tm.nums]
  | .s (.v _), _ => simp [Tm.nums]
  | .f (.v _) (.v _), _ => simp [Tm.nums]
section
variable {P : Program} {w : World} {K : PySem.W.Frag} {mg : Str → Option Value} {base : Heap}
end
end Rp

set_option maxHeartbeats 8000000
namespace Rp
open PySem PySem.Spec PyProof.Rows L2 TL StX
def spIsHead : Sp := fun vs H Q _ => ∃ (v : V) (a : At), vs = [v] ∧ AtAt H v a ∧ HdOk a ∧ ∀ H', Same H H' → Q (.bl true) H'
theorem dp_ints {K : PySem.W.Frag} {H : Hp} : ∀ l : List Int, DpAll K H (l.map V.int) (l.map PyData.int)
  | [] => .nil
  | x :: l => .cons (.int x) (dp_ints l)
theorem ints_lay : ∀ l : List Int, PyData.canLayAll0 (l.map PyData.int) = true ∧ PyData.depthAll (l.map PyData.int) = 0
  | [] => ⟨rfl, rfl⟩
  | x :: l => by
    have ih := ints_lay l
    simp only [List.map_cons, PyData.canLayAll0, PyData.canLay0, PyData.depthAll, PyData.depth, ih.1, ih.2]
    exact ⟨rfl, rfl⟩
theorem ints_shaped (l : List Int) : SeqAt.shaped (.list (l.map PyData.int)) = true := by
  refine shaped_of ?_ ?_
  · show PyData.canLayAll0 _ = true
    exact (ints_lay l).1
  · show PyData.depthAll _ + 1 ≤ 64
    rw [(ints_lay l).2]
    decide
theorem eqv_ints : ∀ l : List Int, PyData.eqvAll (l.map PyData.int) (l.map PyData.int) = true
  | [] => eqvAll_nil
  | x :: l => by rw [List.map_cons, eqvAll_cons, eqv_int, eqv_ints l]; simp
theorem atAt_same {H H' : Hp} {v : V} {a : At} (h : AtAt H v a) (s : Same H H') : AtAt H' v a := by
  obtain ⟨p, xs, e, h1, h2⟩ := h
  exact ⟨p, xs, e, s _ _ h1, h2.mono fun b zs z => s _ _ z⟩
theorem hvars_few {a : At} (ok : HdOk a) : (hvars a.ts).length ≤ 4 := by
  have each : ∀ l : List Tm, (∀ t ∈ l, t.plain) → (hvars l).length ≤ 2 * l.length := by
    intro l
    induction l with
    | nil => intro _; simp [hvars]
    | cons t l ih =>
      intro h
      have a1 := plain_few (h t (by simp))
      have a2 := ih fun u hu => h u (by simp [hu])
      simp only [hvars, List.flatMap_cons, List.length_append, List.length_cons] at a2 ⊢
      omega
  have := each a.ts ok.pl
  have := ok.two
  omega
section
variable {P : Program} {w : World} {K : PySem.W.Frag} {mg : Str → Option Value} {base : Heap}
end
end Rp

set_option maxHeartbeats 8000000
namespace Rp
open PySem PySem.Spec PyProof.Rows L2 TL StX
theorem walk_tup {K : PySem.W.Frag} {a : Addr} {xs : List V} {B : V → Hp → (Hp → Prop) → Prop} {H1 : Hp} {Done : Hp → Prop} (Pv : Nat → Hp → Prop) (h0 : Pv 0 H1) (hl : ∀ i H, i ≤ xs.length → Pv i H → SqT K H a xs)
    (hs : ∀ i x H, xs[i]? = some x → Pv i H → B x H (Pv (i + 1))) (hd : ∀ H, Pv xs.length H → Done H) :
    ∃ W : Nat → Nat → Hp → Prop, (∃ m, W 0 m H1) ∧ ∀ i m H, W i m H →
      ((Itt K a).stop i H ∧ Done H) ∨ ((Itt K a).go i H ∧ ∃ Nx : Hp → Prop, (∀ H', Nx H' → ∃ m', m' < m ∧ W (i + 1) m' H') ∧ ∀ x H', (Itt K a).yld i H x H' → B x H' Nx) := by
  refine ⟨fun i m H => m = xs.length - i ∧ i ≤ xs.length ∧ Pv i H, ⟨xs.length, by simp, Nat.zero_le _, h0⟩, ?_⟩
  rintro i m H ⟨rfl, hi, p⟩
  have q := hl i H hi p
  by_cases hlt : i < xs.length
  · refine .inr ⟨⟨xs, xs[i], q, by simp [hlt]⟩, Pv (i + 1), fun H' p' => ⟨xs.length - (i + 1), by omega, rfl, hlt, p'⟩, fun x H' y => ?_⟩
    obtain ⟨e, y⟩ := y
    subst e
    exact hs i x _ (y xs q) p
  · have e : i = xs.length := by omega
    subst e
    exact .inl ⟨⟨xs, q, Nat.le_refl _⟩, hd H p⟩
def AtsAt (H : Hp) : List V → List At → Prop
  | [], [] => True
  | v :: xs, a :: as => AtAt H v a ∧ AtsAt H xs as
  | _, _ => False
theorem AtsAt.len {H : Hp} : ∀ {xs : List V} {as : List At}, AtsAt H xs as → xs.length = as.length
  | [], [], _ => rfl
  | _ :: _, _ :: _, h => congrArg (· + 1) (AtsAt.len h.2)
theorem AtsAt.same {H H' : Hp} (s : Same H H') : ∀ {xs : List V} {as : List At}, AtsAt H xs as → AtsAt H' xs as
  | [], [], _ => trivial
  | _ :: _, _ :: _, h => ⟨atAt_same h.1 s, AtsAt.same s h.2⟩
theorem AtsAt.get {H : Hp} : ∀ {xs : List V} {as : List At} {i : Nat} {x : V}, AtsAt H xs as → xs[i]? = some x → ∃ a, as[i]? = some a ∧ AtAt H x a
  | v :: xs, a :: as, 0, x, h, e => ⟨a, rfl, by have : v = x := by simpa using e
                                                subst this; exact h.1⟩
  | _ :: xs, _ :: as, i + 1, x, h, e => by simpa using AtsAt.get h.2 (by simpa using e)
theorem AtsAt.append {H : Hp} : ∀ {xs ys : List V} {as bs : List At}, AtsAt H xs as → AtsAt H ys bs → AtsAt H (xs ++ ys) (as ++ bs)
  | [], _, [], _, _, h => h
  | _ :: xs, _, _ :: as, _, h, h' => ⟨h.1, AtsAt.append h.2 h'⟩
structure BodyOk (ks : List Int) (as : List At) : Prop where
  few : as.length ≤ 3
  ok : ∀ a ∈ as, AtOk 50 a
  vs : ∀ a ∈ as, ∀ t ∈ a.ts, ∃ i ∈ ks, t = Tm.v i
def spIsBody : Sp := fun vs H Q _ => ∃ (p q : Addr) (xs : List V) (as : List At) (ks : List Int), vs = [.ref p, .ref q] ∧ H p = some (.tup xs) ∧ AtsAt H xs as ∧ H q = some (.lst (ks.map V.int)) ∧ BodyOk ks as ∧ ∀ H', Same H H' → Q (.bl true) H'
theorem inV_int {i : Int} {ks : List Int} (h : i ∈ ks) : inV (.int i) (ks.map V.int) = true := by
  unfold inV
  rw [List.any_eq_true]
  exact ⟨.int i, List.mem_map.mpr ⟨i, h, rfl⟩, by simp [eqV]⟩
section
variable {P : Program} {w : World} {K : PySem.W.Frag} {mg : Str → Option Value} {base : Heap}
end
end Rp

set_option maxHeartbeats 8000000
namespace Rp
open PySem PySem.Spec PyProof.Rows L2 TL StX
structure Ru where
  hd : At
  bd : List At
def RuAt (H : Hp) (v : V) (r : Ru) : Prop := ∃ (p q : Addr) (vh : V) (xs : List V), v = .ref p ∧ H p = some (.tup [vh, .ref q]) ∧ AtAt H vh r.hd ∧ H q = some (.tup xs) ∧ AtsAt H xs r.bd
structure RuOk (r : Ru) : Prop where
  hd : HdOk r.hd
  bd : BodyOk (hvars r.hd.ts) r.bd
theorem RuAt.same {H H' : Hp} {v : V} {r : Ru} (h : RuAt H v r) (s : Same H H') : RuAt H' v r := by
  obtain ⟨p, q, vh, xs, e, h1, h2, h3, h4⟩ := h
  exact ⟨p, q, vh, xs, e, s _ _ h1, atAt_same h2 s, s _ _ h3, h4.same s⟩
def spIsRule : Sp := fun vs H Q _ => ∃ (v : V) (r : Ru), vs = [v] ∧ RuAt H v r ∧ RuOk r ∧ ∀ H', Same H H' → Q (.bl true) H'
section
variable {P : Program} {w : World} {K : PySem.W.Frag} {mg : Str → Option Value} {base : Heap}
end
end Rp

set_option maxHeartbeats 8000000
namespace Rp
open PySem PySem.Spec PyProof.Rows L2 TL StX
def btxt (as : List At) : Str := Txt.join ", " (as.map atxt)
def rtxt (r : Ru) : Str := if r.bd = [] then atxt r.hd else atxt r.hd ++ " if " ++ Txt.join ", " (r.bd.map atxt)
def spRuleText : Sp := fun vs H Q _ => ∃ (v : V) (r : Ru), vs = [v] ∧ RuAt H v r ∧ RuOk r ∧ ∀ H', Same H H' → Q (.str (rtxt r)) H'
structure AtsOk (as : List At) : Prop where
  few : as.length ≤ 6
  ok : ∀ a ∈ as, AtOk 50 a
def spAtomsText : Sp := fun vs H Q _ => ∃ (q : Addr) (xs : List V) (as : List At), vs = [.ref q] ∧ H q = some (.tup xs) ∧ AtsAt H xs as ∧ AtsOk as ∧ ∀ H', Same H H' → Q (.str (btxt as)) H'
theorem BodyOk.ats {ks : List Int} {as : List At} (ok : BodyOk ks as) : AtsOk as := ⟨by have := ok.few; omega, ok.ok⟩
theorem btxt_sum {as : List At} (ok : AtsOk as) : ((as.map atxt).map (·.length)).sum ≤ 500 * as.length := by
  have each : ∀ l : List At, (∀ a ∈ l, AtOk 50 a) → ((l.map atxt).map (·.length)).sum ≤ 500 * l.length := by
    intro l
    induction l with
    | nil => intro _; simp
    | cons a l ih =>
      intro h
      have h1 := atxt_len (h a (by simp))
      have h2 := ih fun b hb => h b (by simp [hb])
      simp only [List.map_cons, List.sum_cons, List.length_cons] at h2 ⊢
      omega
  exact each as ok.ok
theorem btxt_len {as : List At} (ok : AtsOk as) : (btxt as).length ≤ 3012 := by
  unfold btxt
  have jl := StrLaws.join_length_le ", " (as.map atxt)
  have l1 : (", " : Str).length = 2 := by decide +kernel
  rw [l1, List.length_map] at jl
  have h1 := btxt_sum ok
  have h2 := ok.few
  rw [join_eq]
  omega
section
variable {P : Program} {w : World} {K : PySem.W.Frag} {mg : Str → Option Value} {base : Heap}
end
end Rp

set_option maxHeartbeats 8000000
/-! Texts cut at a separator of more than one sign. -/
namespace Rp
open PySem PySem.Spec PyProof.Rows L2 TL StX
/-- each s has a sign behind it, and not n -/
def Fol (s n : Nat) : List Nat → Prop
  | [] => True
  | [c] => c ≠ s
  | c :: d :: r => (c = s → d ≠ n) ∧ Fol s n (d :: r)
theorem fol_free {s n : Nat} : ∀ {p : List Nat}, s ∉ p → Fol s n p
  | [], _ => trivial
  | [c], h => fun e => h (by simp [e])
  | c :: d :: r, h => ⟨fun e => absurd (by simp [e] : s ∈ c :: d :: r) h, fol_free fun z => h (List.mem_cons_of_mem _ z)⟩
theorem fol_append {s n : Nat} : ∀ {p q : List Nat}, Fol s n p → Fol s n q → Fol s n (p ++ q)
  | [], _, _, h => h
  | [c], [], h, _ => h
  | [c], d :: q, h, h' => ⟨fun e => absurd e h, h'⟩
  | c :: d :: r, q, h, h' => ⟨h.1, fol_append (p := d :: r) h.2 h'⟩
theorem fol_cons {s n c : Nat} {q : List Nat} (hc : c ≠ n) (h : Fol s n (c :: q)) : Fol s n (s :: c :: q) := ⟨fun _ => hc, h⟩
theorem fol_pre {s n : Nat} {S q : List Nat} : ∀ {p : List Nat}, Fol s n p → ∀ i, i < p.length → pre (s :: n :: S) ((p ++ q).drop i) = false
  | [c], h, 0, _ => pre_of_head _ _ h
  | c :: d :: r, h, 0, _ => by
    by_cases e : c = s
    · have hd := h.1 e
      subst e
      show (List.take (c :: n :: S).length (c :: d :: (r ++ q)) == c :: n :: S) = false
      rw [beq_eq_false_iff_ne]
      intro z
      rw [List.length_cons, List.length_cons, List.take_succ_cons, List.take_succ_cons] at z
      exact hd (by injection z with _ z; injection z)
    · exact pre_of_head _ _ e
  | c :: d :: r, h, i + 1, hi => by
    have := fol_pre (S := S) (q := q) h.2 i (by simpa using hi)
    simpa using this
  | [c], h, i + 1, hi => by simp at hi
theorem partition_fol {y : Str} {s n : Nat} {S : List Nat} (ey : tl y = s :: n :: S) {a b : Str} (h : Fol s n (tl a)) : Txt.partition (a ++ y ++ b) y = (a, y, b) := by
  rw [partition_par _ y (by rw [ey]; simp), tl_append, tl_append, List.append_assoc, ey, par_part (by simp) (fol_pre h)]
  show ((⟨([] ++ tl a).toArray⟩ : Str), y, (⟨(tl b).toArray⟩ : Str)) = _
  rw [List.nil_append, mk_tl, mk_tl]
theorem fol_pre0 {s n : Nat} {S : List Nat} {p : List Nat} (h : Fol s n p) : ∀ i, i < p.length → pre (s :: n :: S) (p.drop i) = false := fun i hi => by
  have := fol_pre (S := S) (q := []) h i hi
  rwa [List.append_nil] at this
theorem partition_nofol {y : Str} {s n : Nat} {S : List Nat} (ey : tl y = s :: n :: S) {a : Str} (h : Fol s n (tl a)) : Txt.partition a y = (a, Str.empty, Str.empty) := by
  rw [partition_par _ y (by rw [ey]; simp), ey, par_none (fol_pre0 h)]
theorem spl_fol {s n : Nat} {S : List Nat} : ∀ {parts : List (List Nat)}, parts ≠ [] → (∀ p ∈ parts, Fol s n p) → spl (s :: n :: S) 0 [] (joinL (s :: n :: S) parts) = parts
  | [], h, _ => absurd rfl h
  | [p], _, hp => by
    show spl (s :: n :: S) 0 [] p = [p]
    rw [spl_last (fol_pre0 (hp p (List.mem_singleton.mpr rfl))), List.nil_append]
  | p :: q :: r, _, hp => by
    show spl (s :: n :: S) 0 [] (p ++ (s :: n :: S ++ joinL (s :: n :: S) (q :: r))) = p :: q :: r
    rw [spl_part (by simp) (fol_pre (hp p (List.mem_cons_self ..))), List.nil_append, spl_fol (by simp) fun z hz => hp z (List.mem_cons_of_mem _ hz)]
theorem split_fol {y : Str} {s n : Nat} {S : List Nat} (ey : tl y = s :: n :: S) (hk : y.cps.all (· < 256) = true) {parts : List Str} (hne : parts ≠ []) (hp : ∀ p ∈ parts, Fol s n (tl p)) :
    Txt.split (Txt.join y parts) y = parts := by
  refine map_tl_inj ?_
  rw [split_spl _ y (by rw [ey]; simp) (kind_ok hk), join_eq, tl_join, ey]
  refine spl_fol (fun e => hne (List.map_eq_nil_iff.mp e)) fun p h => ?_
  obtain ⟨z, hz, rfl⟩ := List.mem_map.mp h
  exact hp z hz
/-! The texts of terms and atoms. -/
theorem txt_head : ∀ t : Tm, ∃ c q, tl t.txt = c :: q ∧ c ≠ 105 ∧ c ≠ 32
  | .v n => ⟨120, tl (Str.ofString (toString n)), by show tl (("x" : Str) ++ Str.ofString (toString n)) = _; rw [tl_append, t_x]; rfl, by decide, by decide⟩
  | .z => ⟨48, [], t_0, by decide, by decide⟩
  | .s t => ⟨115, tl ("(" ++ Txt.join "," [t.txt] ++ ")"), by show tl (("s" : Str) ++ "(" ++ Txt.join "," [t.txt] ++ ")") = _; simp only [tl_append, t_s]; rfl, by decide, by decide⟩
  | .f l r => ⟨102, tl ("(" ++ Txt.join "," [l.txt, r.txt] ++ ")"), by show tl (("f" : Str) ++ "(" ++ Txt.join "," [l.txt, r.txt] ++ ")") = _; simp only [tl_append, t_f]; rfl, by decide, by decide⟩
theorem txt_fol : ∀ (t : Tm), t.small → Fol 44 32 (tl t.txt)
  | .v n, h => by
    show Fol 44 32 (tl (("x" : Str) ++ Str.ofString (toString n)))
    rw [tl_append, t_x, tl_int (h n (by simp [Tm.nums])).1]
    refine fol_free fun hd => ?_
    rcases List.mem_append.mp hd with hd | hd
    · simp at hd
    · have := numL_small _ _ hd; omega
  | .z, h => by
    show Fol 44 32 (tl ("0" : Str))
    rw [t_0]
    exact fol_free (by simp)
  | .s t, h => by
    show Fol 44 32 (tl (("s" : Str) ++ "(" ++ Txt.join "," [t.txt] ++ ")"))
    rw [join1, tl_append, tl_append, tl_append, t_s, t_open, t_close]
    exact fol_append (fol_append (fol_free (by simp)) (txt_fol t h)) (fol_free (by simp))
  | .f l r, h => by
    show Fol 44 32 (tl (("f" : Str) ++ "(" ++ Txt.join "," [l.txt, r.txt] ++ ")"))
    rw [join2, tl_append, tl_append, tl_append, tl_append, tl_append, t_f, t_open, t_close, t_comma]
    have hl := txt_fol l (fun n hn => h n (by simp [Tm.nums, hn]))
    have hr := txt_fol r (fun n hn => h n (by simp [Tm.nums, hn]))
    obtain ⟨c, q, e, _, c2⟩ := txt_head r
    have hc : Fol 44 32 ([44] ++ tl r.txt) := by
      rw [e] at hr ⊢
      exact fol_cons c2 hr
    rw [List.append_assoc (tl l.txt)]
    exact fol_append (fol_append (fol_free (by simp)) (fol_append hl hc)) (fol_free (by simp))
theorem join_parts (x : Str) : ∀ l : List Str, tl (Txt.join " " (x :: l)) = tl x ++ l.flatMap fun p => 32 :: tl p
  | [] => by rw [join1]; simp
  | y :: l => by
    have ih := join_parts y l
    rw [TL.join_eq] at ih ⊢
    show tl (x ++ " " ++ Str.join " " (y :: l)) = _
    rw [tl_append, tl_append, ih, t_sp]
    simp
theorem atxt_tl (a : At) : tl (atxt a) = tl a.nm ++ a.ts.flatMap fun t => 32 :: tl t.txt := by
  unfold atxt parts
  rw [join_parts, List.flatMap_map]
theorem atxt_if {z : Nat} {a : At} (ok : AtOk z a) : Fol 32 105 (tl (atxt a)) := by
  rw [atxt_tl]
  refine fol_append (fol_free fun hd => ?_) ?_
  · have := ok.nm.low _ hd; omega
  · have each : ∀ l : List Tm, (∀ t ∈ l, t.small) → Fol 32 105 (l.flatMap fun t => 32 :: tl t.txt) := by
      intro l
      induction l with
      | nil => intro _; trivial
      | cons t l ih =>
        intro h
        rw [List.flatMap_cons]
        refine fol_append ?_ (ih fun u hu => h u (by simp [hu]))
        obtain ⟨c, q, e, c1, _⟩ := txt_head t
        have lo : Fol 32 105 (tl t.txt) := fol_free fun hd => by have := txt_low t (h t (by simp)) _ hd; omega
        rw [e] at lo ⊢
        exact fol_cons c1 lo
    exact each a.ts fun t ht => (ok.sm t ht).1
theorem atxt_com {z : Nat} {a : At} (ok : AtOk z a) : Fol 44 32 (tl (atxt a)) := by
  rw [atxt_tl]
  refine fol_append (fol_free fun hd => ?_) ?_
  · have := ok.nm.low _ hd; omega
  · have each : ∀ l : List Tm, (∀ t ∈ l, t.small) → Fol 44 32 (l.flatMap fun t => 32 :: tl t.txt) := by
      intro l
      induction l with
      | nil => intro _; trivial
      | cons t l ih =>
        intro h
        rw [List.flatMap_cons]
        exact fol_append (p := [32] ++ tl t.txt) (fol_append (fol_free (by simp)) (txt_fol t (h t (by simp)))) (ih fun u hu => h u (by simp [hu]))
    exact each a.ts fun t ht => (ok.sm t ht).1
theorem t_if : tl (" if " : Str) = [32, 105, 102, 32] := by decide +kernel
theorem t_cs : tl (", " : Str) = [44, 32] := by decide +kernel
end Rp

set_option maxHeartbeats 8000000
namespace Rp
open PySem PySem.Spec PyProof.Rows L2 TL StX
theorem atAt_mono {H H' : Hp} (e : ∀ a xs, H a = some (.tup xs) → H' a = some (.tup xs)) {v : V} {a : At} (h : AtAt H v a) : AtAt H' v a := by
  obtain ⟨p, xs, r, h1, h2⟩ := h
  exact ⟨p, xs, r, e _ _ h1, h2.mono e⟩
theorem AtsAt.mono {H H' : Hp} (e : ∀ a xs, H a = some (.tup xs) → H' a = some (.tup xs)) : ∀ {xs : List V} {as : List At}, AtsAt H xs as → AtsAt H' xs as
  | [], [], _ => trivial
  | _ :: _, _ :: _, h => ⟨atAt_mono e h.1, AtsAt.mono e h.2⟩
theorem rtxt_part0 {r : Ru} (ok : RuOk r) (e : r.bd = []) : Txt.partition (rtxt r) " if " = (atxt r.hd, Str.empty, Str.empty) := by
  unfold rtxt
  rw [if_pos e]
  exact partition_nofol t_if (atxt_if ok.hd.toAtOk)
theorem rtxt_part1 {r : Ru} (ok : RuOk r) (e : r.bd ≠ []) : Txt.partition (rtxt r) " if " = (atxt r.hd, (" if " : Str), btxt r.bd) := by
  unfold rtxt
  rw [if_neg e]
  exact partition_fol t_if (atxt_if ok.hd.toAtOk)
theorem btxt_split {as : List At} (ok : AtsOk as) (e : as ≠ []) : Txt.split (btxt as) ", " = as.map atxt := by
  refine split_fol t_cs (by decide +kernel) (by simpa using e) fun p hp => ?_
  obtain ⟨a, ha, rfl⟩ := List.mem_map.mp hp
  exact atxt_com (ok.ok a ha)
theorem rtxt_len {r : Ru} (ok : RuOk r) : (rtxt r).length ≤ 3600 := by
  have h1 := atxt_len ok.hd.toAtOk
  have h2 : (Txt.join ", " (r.bd.map atxt)).length ≤ 3012 := btxt_len ok.bd.ats
  have l4 : (" if " : Str).length = 4 := by decide +kernel
  unfold rtxt
  split
  · omega
  · rw [slen, slen]; omega
def spRuleOr : Sp := fun vs H Q _ => ∃ r : Ru, vs = [.str (rtxt r)] ∧ RuOk r ∧ ∀ (v : V) (H' : Hp), RuAt H' v r → Same H H' → Q v H'
def spAtomsOr : Sp := fun vs H Q _ => ∃ as : List At, vs = [.str (btxt as)] ∧ AtsOk as ∧ as ≠ [] ∧ ∀ (b : Addr) (xs : List V) (H' : Hp), H' b = some (.tup xs) → AtsAt H' xs as → Same H H' → Q (.ref b) H'
section
variable {P : Program} {w : World} {K : PySem.W.Frag} {mg : Str → Option Value} {base : Heap}
end
end Rp

set_option maxHeartbeats 8000000
/-! The law's own texts. -/
namespace Rp
open PySem PySem.Spec PyProof.Rows L2 TL
def spLText (n : Nat) : Sp := fun vs H Q _ => ∃ (v : V) (t : Tm), vs = [v] ∧ TmAt H v t ∧ t.small ∧ t.size ≤ 1000 ∧ t.deep < n ∧ ∀ H', Same H H' → Q (.str t.txt) H'
theorem kid_nums {t k : Tm} (h : k ∈ t.kids) : ∀ n ∈ k.nums, n ∈ t.nums := by
  cases t with
  | v n => simp [Tm.kids] at h
  | z => simp [Tm.kids] at h
  | s t => simp [Tm.kids] at h; subst h; exact fun n hn => hn
  | f l r =>
    simp [Tm.kids] at h
    rcases h with rfl | rfl
    · exact fun n hn => List.mem_append.mpr (.inl hn)
    · exact fun n hn => List.mem_append.mpr (.inr hn)
def atD (a : At) : PyData := .tuple (.str a.nm :: a.ts.map tmD)
def bdD (as : List At) : PyData := .tuple (as.map atD)
theorem all_dp {K : PySem.W.Frag} {H : Hp} : ∀ {xs : List V} {ts : List Tm}, AllAt H xs ts → DpAll K H xs (ts.map tmD)
  | [], [], _ => .nil
  | _ :: _, _ :: _, h => .cons (h.1.dat (b := (0 : Nat))).dp (all_dp h.2)
theorem at_dp {K : PySem.W.Frag} {H : Hp} {v : V} {a : At} (h : AtAt H v a) : Dp K H v (atD a) := by
  obtain ⟨p, xs, rfl, h1, h2⟩ := h
  exact .tup (.inl (.inl h1)) (.cons (.str _) (all_dp h2))
theorem ats_dp {K : PySem.W.Frag} {H : Hp} : ∀ {xs : List V} {as : List At}, AtsAt H xs as → DpAll K H xs (as.map atD)
  | [], [], _ => .nil
  | _ :: _, _ :: _, h => .cons (at_dp h.1) (ats_dp h.2)
theorem name_lay {x : Str} (h : NameOk x) : PyData.canLay0 (.str x) = true := by
  show x.cps.all (· < 0x110000) = true
  rw [Array.all_eq_true']
  intro c hc
  have := h.low c (Array.mem_toList_iff.mpr hc)
  exact decide_eq_true (by omega)
theorem tms_lay : ∀ {ts : List Tm}, (∀ t ∈ ts, t.size ≤ 50) → PyData.canLayAll0 (ts.map tmD) = true ∧ PyData.depthAll (ts.map tmD) ≤ 51
  | [], _ => ⟨rfl, by decide⟩
  | t :: ts, h => by
    have ih := tms_lay (ts := ts) fun u hu => h u (by simp [hu])
    have d1 := Tm.deep_lt t
    have z := h t (by simp)
    obtain ⟨c1, c2, _⟩ : (tmD t).canLay0 = true ∧ (tmD t).depth ≤ t.deep + 1 ∧ nd (tmD t) ≤ 2 * t.size := tm_ok t
    simp only [List.map_cons, PyData.canLayAll0, PyData.depthAll, c1, ih.1]
    exact ⟨rfl, by omega⟩
theorem at_lay {a : At} (ok : AtOk 50 a) : (atD a).canLay0 = true ∧ (atD a).depth ≤ 52 := by
  have h := tms_lay (ts := a.ts) fun t ht => (ok.sm t ht).2
  refine ⟨?_, ?_⟩
  · show PyData.canLayAll0 (.str a.nm :: a.ts.map tmD) = true
    simp only [PyData.canLayAll0, name_lay ok.nm, h.1]
    rfl
  · show PyData.depthAll (.str a.nm :: a.ts.map tmD) + 1 ≤ 52
    simp only [PyData.depthAll, PyData.depth]
    omega
theorem ats_lay : ∀ {as : List At}, (∀ a ∈ as, AtOk 50 a) → PyData.canLayAll0 (as.map atD) = true ∧ PyData.depthAll (as.map atD) ≤ 52
  | [], _ => ⟨rfl, by decide⟩
  | a :: as, h => by
    have ih := ats_lay (as := as) fun b hb => h b (by simp [hb])
    have z := at_lay (h a (by simp))
    simp only [List.map_cons, PyData.canLayAll0, PyData.depthAll, z.1, ih.1]
    exact ⟨rfl, by omega⟩
theorem bd_shaped {as : List At} (h : ∀ a ∈ as, AtOk 50 a) : SeqAt.shaped (bdD as) = true := by
  have z := ats_lay h
  refine shaped_of ?_ ?_
  · show PyData.canLayAll0 _ = true
    exact z.1
  · show PyData.depthAll _ + 1 ≤ 64
    omega
theorem eqv_tnil {ds : List PyData} : PyData.eqv (.tuple ds) (.tuple []) = ds.isEmpty := by
  cases ds <;> simp [PyData.eqv, PyData.eqvAll]
section
variable {P : Program} {w : World} {K : PySem.W.Frag} {mg : Str → Option Value} {base : Heap}
def spLAtom : Sp := spAtomText
end
end Rp

set_option maxHeartbeats 8000000
/-! The law's terms. -/
namespace Rp
open PySem PySem.Spec PyProof.Rows L2 TL
def spLVar : Sp := fun vs H Q _ => ∃ (b : Addr) (j : Nat), vs = [.ref b] ∧ BoxAt H b j ∧ j + 3 ≤ 1000000 ∧ ∀ (n : Int) (H' : Hp), 0 ≤ n → n ≤ 99 → BoxAt H' b (j + 3) → But b H H' → Q (.int n) H'
def spLTerm (n : Nat) : Sp := fun vs H Q _ => ∃ (b : Addr) (j d : Nat), vs = [.ref b, .int d] ∧ BoxAt H b j ∧ d < n ∧ d ≤ 4 ∧ j + (6 * 2 ^ d - 1) ≤ 1000000 ∧
  ∀ (v : V) (t : Tm) (H' : Hp), TmAt H' v t → t.small → t.size + 1 ≤ 2 ^ (d + 1) → BoxAt H' b (j + (6 * 2 ^ d - 1)) → But b H H' → Q v H'
section
variable {P : Program} {w : World} {K : PySem.W.Frag} {mg : Str → Option Value} {base : Heap}
theorem TmAt.box {H H' : Hp} {b : Addr} {v : V} {t : Tm} {j : Nat} (T : TmAt H v t) (o : But b H H') (B : BoxAt H b j) : TmAt H' v t := by
  obtain ⟨ys, hb⟩ := B.some
  exact T.mono fun a xs z => o _ _ z (ne_of z hb (by intro e; cases e))
end
end Rp

set_option maxHeartbeats 8000000
/-! The law's heads. -/
namespace Rp
open PySem PySem.Spec PyProof.Rows L2 TL StX
def spLHead : Sp := fun vs H Q _ => ∃ (b : Addr) (j m : Nat) (x : Str), vs = [.ref b, .str x, .int m] ∧ BoxAt H b j ∧ j + 2 ≤ 1000000 ∧ NameOk x ∧ 1 ≤ m ∧ m ≤ 2 ∧
  ∀ (p : Addr) (v : V) (a : At) (H' : Hp), H' p = some (.tup [v, .int ((hvars a.ts).length : Nat)]) → AtAt H' v a → a.nm = x → a.ts.length = m → HdOk a → BoxAt H' b (j + 2) → But b H H' → Q (.ref p) H'
section
variable {P : Program} {w : World} {K : PySem.W.Frag} {mg : Str → Option Value} {base : Heap}
theorem scLHead : FnScope ["_law_box_here", "_law_word", "_law_many", "_law_parts", "_law_count", "_law_turn", "_law_way"] ["_law_box_here", "_law_word", "_law_many"] (defScope sHead) := ⟨rfl, rfl, rfl, by decide +kernel, rfl, by decide +kernel, by decide +kernel⟩
theorem ok_lhead {f fT : Addr} {fd fdT : FuncData} (F : Fun K "_law_head" "_law_head" sHead f fd) (FT : Fun K "_law_take" "_law_take" sTake fT fdT) (bT : Binds K fdT ["_law_box_here", "_law_top"] []) (mT : mg "_law_take" = some (.ref fT))
    (mRange : mg "range" = none) (mTuple : mg "tuple" = none) : FnOk P w K mg base CX0 2 f fd ["_law_box_here", "_law_word", "_law_many"] spLHead := by
  have GT : FnOk P w K mg base CX0 1 fT fdT ["_law_box_here", "_law_top"] spTake := ok_take FT
  refine F.ok scLHead (fun vs H Q E h => ?_) (fun cdv A outer s H vs Q E hr h => ?_)
  · obtain ⟨b, j, m, x, rfl, _⟩ := h
    rfl
  obtain ⟨b, j, m, x, rfl, B, hj, nx, m1, m2, q⟩ := h
  refine ⟨_, pss_cons (ps_par (i := 3) (j := 4) rfl scLHead.nd rfl rfl (by decide) rfl rfl (pa_cons (pe_lst (pa_cons (pv 1) pa_nil)) (pa_cons pe_int pa_nil)) (by rfl))
    (pss_cons (ps_for PassesOwn.never rfl (pi_range1 (by rfl) mRange (pa_cons (pv 2) pa_nil)) (pg_name (i := 5) scLHead.nd rfl (Or.inl rfl))
      (pss_cons (ps_set (i := 6) scLHead.nd rfl (Or.inl rfl) (pe_call GT hr rfl mT FT.kp bT .nil pass0 (pa_cons (pv 0) (pa_cons pe_int pa_nil))))
      (pss_cons (ps_if (pt_cmpR op_eq (pv 6) pe_int (nomark _)) (pss_one (ps_expr (pe_bm PySem.F.plainAttrs_list PySem.F.slot_list_append PySem.F.type_list_append mt_append (pv 3) (pa_cons (pe_tup (pa_cons pe_str pa_nil)) pa_nil))))
        (pss_one (ps_if (pt_cmpR op_eq (pv 6) pe_int (nomark _)) (pss_one (ps_expr (pe_bm PySem.F.plainAttrs_list PySem.F.slot_list_append PySem.F.type_list_append mt_append (pv 3) (pa_cons (pv 4) pa_nil))))
        (pss_one (ps_if (pt_cmpR op_eq (pv 6) pe_int (nomark _)) (pss_one (ps_expr (pe_bm PySem.F.plainAttrs_list PySem.F.slot_list_append PySem.F.type_list_append mt_append (pv 3) (pa_cons (pe_tup (pa_cons pe_str (pa_cons (pv 4) pa_nil))) pa_nil))))
          (pss_one (ps_expr (pe_bm PySem.F.plainAttrs_list PySem.F.slot_list_append PySem.F.type_list_append mt_append (pv 3) (pa_cons (pe_tup (pa_cons pe_str (pa_cons (pv 4) (pa_cons (pe_op op_add (pv 4) pe_int) pa_nil)))) pa_nil)))))))))
      (pss_one (ps_set (i := 4) scLHead.nd rfl (Or.inl rfl) (pe_op op_add (pv 4) (pe_ix ix_list (pe_lst (pa_cons pe_int (pa_cons pe_int (pa_cons pe_int (pa_cons pe_int pa_nil))))) (pv 6) (fun _ _ => rfl))))))))
    (pss_one (ps_ret (pe_tup (pa_cons (pe_callTy call_tuple_of (by rfl) mTuple (by decide +kernel) (pa_cons (pv 3) pa_nil)) (pa_cons (pv 4) pa_nil)))))), ?_⟩
  have big : (10000 : Nat) ≤ sizeLine := by decide
  obtain ⟨ys, hb⟩ := B.some
  refine ⟨_, rfl, (by show 1 ≤ sizeLine; decide), fun l hl => ⟨_, _, rfl, ?_⟩⟩
  have s1 := same_new hl (.lst [V.str x])
  have lb : l ≠ b := fun e => by subst e; rw [hb] at hl; cases hl
  refine ⟨_, rfl, _, rfl, by omega, by omega, for_range (lo := 0) (n := (m : Int).toNat) (fun i σ H2 => ∃ (xs : List V) (ts : List Tm) (c : Nat) (tv wv : Option V), σ = [some (.ref b), some (.str x), some (.int m), some (.ref l), some (.int (c : Nat)), tv, wv] ∧
      H2 l = some (.lst (.str x :: xs)) ∧ AllAt H2 xs ts ∧ ts.length = i ∧ (∀ t ∈ ts, t.plain ∧ t.small ∧ t.size ≤ 3) ∧ hvars ts = (List.range c).map Int.ofNat ∧ c ≤ 2 * i ∧ BoxAt H2 b (j + i) ∧ But b H H2)
    ⟨[], [], 0, none, none, rfl, upd_same, trivial, rfl, by simp, rfl, by omega, (B.same s1).more (by omega), but_of s1⟩ ?_ ?_⟩
  · rintro i σ H2 hi ⟨xs, ts, c, tv, wv, rfl, hl2, A2, tl, pl, hv, hc, B2, o2⟩
    refine ⟨_, rfl, b, _, _, rfl, B2, by omega, by decide, by decide, fun way H3 w0 w4 B3 o3 => ?_⟩
    have h3l : H3 l = some (.lst (.str x :: xs)) := o3 _ _ hl2 lb
    have A3 : AllAt H3 xs ts := A2.mono fun a zs z => by
      obtain ⟨ys2, hb2⟩ := B2.some
      exact o3 _ _ z (ne_of z hb2 (by intro e; cases e))
    have xl := A2.len
    have go : ∀ (t : Tm) (v : V) (k : Nat) (cv : Int) (iv wv2 : Option V) (H4 : Hp), Same H3 H4 → TmAt H4 v t → t.plain → t.small → t.size ≤ 3 → t.nums = (List.range k).map (fun n => Int.ofNat (c + n)) → k ≤ 2 → cv = (c + k : Nat) → ∀ d, (upd H4 l (.lst ((.str x :: xs) ++ [v]))) d = none →
        ∃ (xs' : List V) (ts' : List Tm) (c' : Nat) (tv' wv' : Option V), [some (.ref b), some (.str x), some (.int m), some (.ref l), some (.int cv), iv, wv2] = [some (.ref b), some (.str x), some (.int m), some (.ref l), some (.int (c' : Nat)), tv', wv'] ∧
          (upd (upd H4 l (.lst ((.str x :: xs) ++ [v]))) d (.lst [.int 0, .int 1, .int 1, .int 2])) l = some (.lst (.str x :: xs')) ∧ AllAt (upd (upd H4 l (.lst ((.str x :: xs) ++ [v]))) d (.lst [.int 0, .int 1, .int 1, .int 2])) xs' ts' ∧ ts'.length = i + 1 ∧ (∀ t ∈ ts', t.plain ∧ t.small ∧ t.size ≤ 3) ∧ hvars ts' = (List.range c').map Int.ofNat ∧ c' ≤ 2 * (i + 1) ∧
          BoxAt (upd (upd H4 l (.lst ((.str x :: xs) ++ [v]))) d (.lst [.int 0, .int 1, .int 1, .int 2])) b (j + (i + 1)) ∧ But b H (upd (upd H4 l (.lst ((.str x :: xs) ++ [v]))) d (.lst [.int 0, .int 1, .int 1, .int 2])) := by
      intro t v k cv iv wv2 H4 s4 T tp ts_ tz nums k2 hcv d hd
      subst hcv
      have s5 := same_new hd (.lst [.int 0, .int 1, .int 1, .int 2])
      have h4l := s4 _ _ h3l
      have keep : ∀ a zs, H4 a = some (.tup zs) → (upd H4 l (.lst ((.str x :: xs) ++ [v]))) a = some (.tup zs) := fun a zs z => by rw [upd_ne (ne_of z h4l (by intro e; cases e))]; exact z
      refine ⟨xs ++ [v], ts ++ [t], c + k, iv, wv2, rfl, s5 _ _ upd_same, ((A3.mono fun a zs z => s5 _ _ (keep _ _ (s4 _ _ z))).append ⟨T.mono fun a zs z => s5 _ _ (keep _ _ z), trivial⟩), by rw [List.length_append, tl]; rfl, ?_, ?_, by omega, ?_, ?_⟩
      · intro u hu
        rcases List.mem_append.mp hu with hu | hu
        · exact pl u hu
        · obtain rfl : u = t := by simpa using hu
          exact ⟨tp, ts_, tz⟩
      · have e : hvars (ts ++ [t]) = hvars ts ++ t.nums := by simp [hvars]
        rw [e, hv, nums, List.range_add, List.map_append, List.map_map]
        rfl
      · have B5 : BoxAt (upd H4 l (.lst ((.str x :: xs) ++ [v]))) b (j + i + 1) := by
          obtain ⟨x3, y3, z3, h3, r3⟩ := (B3.same s4).ex
          exact ⟨x3, y3, z3, by rw [upd_ne lb.symm]; exact h3, r3⟩
        exact (B5.same s5).more (by omega)
      · intro c' o z nb
        refine s5 _ _ ?_
        rw [upd_ne (ne_of_none z hl)]
        exact s4 _ _ (o3 _ _ (o2 _ _ z nb) nb)
    rcases (by omega : way = 0 ∨ way = 1 ∨ way = 2 ∨ way = 3) with e | e | e | e <;> subst e
    · refine ⟨_, rfl, rfl, true, rfl, iteT ?_⟩
      refine ⟨_, rfl, .inl ⟨rfl, _, .inl (.inl h3l)⟩, (by show 1 ≤ sizeLine; decide), fun g hg => ⟨l, _, _, rfl, rfl, (same_new hg _) _ _ h3l, (by rw [List.length_cons]; omega), ?_⟩⟩
      refine ⟨_, rfl, (by show 4 ≤ sizeLine; decide), fun d hd => ⟨_, rfl, d, _, _, _, rfl, rfl, .inl (.inl upd_same), at_of (j := 0) rfl rfl, _, _, rfl, rfl, ?_⟩⟩
      exact go .z (.ref g) 0 _ _ _ _ (same_new hg _) (.z upd_same) trivial (fun k hk => by simp [Tm.nums] at hk) (by decide) rfl (by decide) (by omega) d hd
    · refine ⟨_, rfl, rfl, false, rfl, iteF ⟨_, rfl, rfl, true, rfl, iteT ?_⟩⟩
      refine ⟨_, rfl, .inl ⟨rfl, _, .inl (.inl h3l)⟩, _, rfl, l, _, _, rfl, rfl, h3l, (by rw [List.length_cons]; omega), ?_⟩
      refine ⟨_, rfl, (by show 4 ≤ sizeLine; decide), fun d hd => ⟨_, rfl, d, _, _, _, rfl, rfl, .inl (.inl upd_same), at_of (j := 1) rfl rfl, _, _, rfl, rfl, ?_⟩⟩
      exact go (.v c) (.int c) 1 _ _ _ _ (Same.refl _) (.v c) trivial (fun k hk => by simp [Tm.nums] at hk; subst hk; omega) (by show 1 ≤ 3; decide) rfl (by decide) (by omega) d hd
    · refine ⟨_, rfl, rfl, false, rfl, iteF ⟨_, rfl, rfl, false, rfl, iteF ⟨_, rfl, rfl, true, rfl, iteT ?_⟩⟩⟩
      refine ⟨_, rfl, .inl ⟨rfl, _, .inl (.inl h3l)⟩, _, rfl, (by show 2 ≤ sizeLine; decide), fun g hg => ⟨l, _, _, rfl, rfl, (same_new hg _) _ _ h3l, (by rw [List.length_cons]; omega), ?_⟩⟩
      refine ⟨_, rfl, (by show 4 ≤ sizeLine; decide), fun d hd => ⟨_, rfl, d, _, _, _, rfl, rfl, .inl (.inl upd_same), at_of (j := 2) rfl rfl, _, _, rfl, rfl, ?_⟩⟩
      exact go (.s (.v c)) (.ref g) 1 _ _ _ _ (same_new hg _) (.s upd_same (.v c)) trivial (fun k hk => by simp [Tm.nums] at hk; subst hk; omega) (by show 2 ≤ 3; decide) rfl (by decide) (by omega) d hd
    · refine ⟨_, rfl, rfl, false, rfl, iteF ⟨_, rfl, rfl, false, rfl, iteF ⟨_, rfl, rfl, false, rfl, iteF ?_⟩⟩⟩
      refine ⟨_, rfl, .inl ⟨rfl, _, .inl (.inl h3l)⟩, _, rfl, _, rfl, _, _, rfl, rfl, (by show 3 ≤ sizeLine; decide), fun g hg => ⟨l, _, _, rfl, rfl, (same_new hg _) _ _ h3l, (by rw [List.length_cons]; omega), ?_⟩⟩
      refine ⟨_, rfl, (by show 4 ≤ sizeLine; decide), fun d hd => ⟨_, rfl, d, _, _, _, rfl, rfl, .inl (.inl upd_same), at_of (j := 3) rfl rfl, _, _, rfl, rfl, ?_⟩⟩
      exact go (.f (.v c) (.v (c + 1))) (.ref g) 2 _ _ _ _ (same_new hg _) (.f upd_same (.v c) (.v _)) trivial (fun k hk => by simp [Tm.nums] at hk; rcases hk with hk | hk <;> subst hk <;> omega) (by show 3 ≤ 3; decide) rfl (by decide) (by omega) d hd
  · rintro σ H2 ⟨xs, ts, c, tv, wv, rfl, hl2, A2, tl, pl, hv, hc, B2, o2⟩
    refine ⟨_, rfl, l, _, rfl, .inl ⟨.inl (.inl hl2), fun t ht => ⟨_, rfl, (by show 2 ≤ sizeLine; decide), fun p hp => ?_⟩⟩⟩
    have s3 := same_new ht (.tup (V.str x :: xs))
    have s4 := same_new hp (.tup [V.ref t, V.int (c : Nat)])
    have cl : (hvars ts).length = c := by rw [hv, List.length_map, List.length_range]
    have tm : ts.length = m := by rw [tl]; omega
    refine q p (.ref t) ⟨x, ts⟩ _ (by rw [upd_same, cl]) ⟨t, xs, rfl, s4 _ _ upd_same, A2.mono fun a zs z => s4 _ _ (s3 _ _ z)⟩ rfl tm
      { nm := nx, one := by rw [tm]; exact m1, two := by rw [tm]; exact m2, sm := fun u hu => ⟨(pl u hu).2.1, by have := (pl u hu).2.2; omega⟩, pl := fun u hu => (pl u hu).1, rng := by rw [cl]; exact hv } ?_ (o2.trans ((but_of s3).trans (but_of s4)))
    exact ((B2.same s3).same s4).more (by omega)
end
end Rp

set_option maxHeartbeats 8000000
/-! The law's folded script, its words. -/
namespace Rp
open PySem PySem.Spec PyProof.Rows L2 TL StX
theorem cut_to {xs : List V} (n : Nat) : cutV xs none (some (n : Int)) = xs.take n := by
  unfold cutV
  rw [HT.sIx_none, HT.sIx_nat, List.drop_zero, Nat.sub_zero]
  rcases Nat.le_total n xs.length with h | h
  · rw [Nat.min_eq_left h]
  · rw [Nat.min_eq_right h, List.take_length, List.take_of_length_le h]
theorem cut_mid {xs : List V} (n m : Nat) : ∃ a b, cutV xs (some (n : Int)) (some (m : Int)) = (xs.drop (min n xs.length)).take b ∧ a = b := ⟨_, _, by unfold cutV; rw [HT.sIx_nat, HT.sIx_nat], rfl⟩
theorem eqv_lnil {ds : List PyData} : PyData.eqv (.list ds) (.list []) = ds.isEmpty := by
  cases ds <;> simp [PyData.eqv, PyData.eqvAll]
theorem ixN_int {n : Nat} {i : Int} (h : 0 ≤ i ∧ i < n) : ixN n i = some i.toNat := by unfold ixN; rw [if_pos h.1, if_pos h.2]
theorem but_none {H H' : Hp} {b : Addr} {j : Nat} (o : But b H H') (B : BoxAt H' b j) {D : Addr} (h : H' D = none) : H D = none := by
  cases e : H D with
  | none => rfl
  | some u =>
    have nb : D ≠ b := by
      rintro rfl
      obtain ⟨ys, hb⟩ := B.some
      rw [hb] at h; cases h
    have := o _ _ e nb
    rw [h] at this; cases this
theorem BoxAt.upd {H : Hp} {b D : Addr} {j : Nat} (B : BoxAt H b j) (n : D ≠ b) (o : HO) : BoxAt (L2.upd H D o) b j := by
  obtain ⟨x, y, z, h, r⟩ := B.ex
  exact ⟨x, y, z, by rw [upd_ne n.symm]; exact h, r⟩
def spFolded (K : PySem.W.Frag) : Sp := fun vs H Q _ => ∃ (a : Addr) (ns : List Int), vs = [.ref a, .int 3] ∧ SqL K H a (ns.map V.int) ∧ ns.length ≤ 63 ∧
  ∀ (p : Addr) (cs : List Int) (H' : Hp), H p = none → H' p = some (.lst (cs.map V.int)) → 1 ≤ cs.length → cs.length ≤ 3 → Same H H' → Q (.ref p) H'
def Low (x : Str) : Prop := ∀ c ∈ tl x, 97 ≤ c ∧ c ≤ 122
theorem low_cut {z : Str} (h : Low z) (lo hi : Option Int) : Low (cutS z lo hi) := by
  intro c hc
  have hc : c ∈ (z.cps.toList.drop (HT.sIx z.length 0 lo)).take (HT.sIx z.length z.length hi - HT.sIx z.length 0 lo) := hc
  exact h c (List.mem_of_mem_drop (List.mem_of_mem_take hc))
theorem cutS_parts {z : Str} {k : Nat} (h : k ≤ z.length) : (cutS z none (some (k : Int))).length = k ∧ (cutS z (some (k : Int)) none).length = z.length - k := by
  have e : z.cps.toList.length = z.length := Array.length_toList
  constructor
  · show (((z.cps.toList.drop (HT.sIx z.length 0 none)).take (HT.sIx z.length z.length (some (k : Int)) - HT.sIx z.length 0 none)).toArray).size = k
    rw [List.size_toArray, HT.sIx_none, HT.sIx_nat, List.length_take, List.length_drop, e]
    omega
  · show (((z.cps.toList.drop (HT.sIx z.length 0 (some (k : Int)))).take (HT.sIx z.length z.length none - HT.sIx z.length 0 (some (k : Int)))).toArray).size = _
    rw [List.size_toArray, HT.sIx_none, HT.sIx_nat, List.length_take, List.length_drop, e]
    omega
theorem low_append {a b : Str} (ha : Low a) (hb : Low b) : Low (a ++ b) := by
  intro c hc
  rw [tl_append] at hc
  rcases List.mem_append.mp hc with hc | hc
  · exact ha c hc
  · exact hb c hc
theorem low_one {c : Nat} (h : 97 ≤ c ∧ c ≤ 122) : Low ⟨#[c]⟩ := by
  intro d hd
  have hd : d ∈ [c] := hd
  simp at hd
  omega
theorem low_join : ∀ ys : List Str, (∀ y ∈ ys, y.length = 1 ∧ Low y) → (Txt.join "" ys).length = ys.length ∧ Low (Txt.join "" ys)
  | [], _ => ⟨by decide +kernel, fun c hc => by have : tl (Txt.join "" []) = [] := by decide +kernel
                                                rw [this] at hc; simp at hc⟩
  | [x], h => by rw [join1]; exact h x (by simp)
  | x :: y :: l, h => by
    have ih := low_join (y :: l) fun z hz => h z (by simp at hz ⊢; exact .inr hz)
    have hx := h x (by simp)
    rw [TL.join_eq] at ih ⊢
    have e0 : ("" : Str).length = 0 := by decide +kernel
    have le : Low ("" : Str) := fun c hc => by have : tl ("" : Str) = [] := by decide +kernel
                                               rw [this] at hc; simp at hc
    refine ⟨?_, low_append (low_append hx.2 le) ih.2⟩
    show (x ++ "" ++ Str.join "" (y :: l)).length = _
    rw [slen, slen, e0, hx.1, ih.1]
    simp only [List.length_cons]
    omega
theorem letter_at {i : Int} (h : 0 ≤ i ∧ i < 26) : ∃ c, atI letters.cps.toList i = some c ∧ 97 ≤ c ∧ c ≤ 122 := by
  have all : ∀ k : Fin 26, atI letters.cps.toList (k.val : Int) = some (97 + k.val) := by decide +kernel
  obtain ⟨k, rfl⟩ := Int.eq_ofNat_of_zero_le h.1
  exact ⟨_, all ⟨k, by omega⟩, by show 97 ≤ 97 + k; omega, by show 97 + k ≤ 122; omega⟩
def spWords : Sp := fun vs H Q _ => ∃ (b : Addr) (j : Nat), vs = [.ref b, .int 5] ∧ BoxAt H b j ∧ j + 10 ≤ 1000000 ∧
  ∀ (p : Addr) (ws : List Str) (H' : Hp), H p = none → H' p = some (.lst (ws.map V.str)) → ws.length = 5 → (∀ x ∈ ws, NameOk x) → BoxAt H' b (j + 10) → But b H H' → Q (.ref p) H'
def rMod : R2 := rI (fun _ j => 0 < j) fun i j => .int (i % j)
def rMulI : R2 := rI CMul fun i j => .int (i * j)
def rAddI : R2 := rI0 fun i j => .int (i + j)
def rAddS : R2 := fun x y H Q => ∃ i j, x = .str i ∧ y = .str j ∧ i.length + j.length ≤ sizeLine ∧ Q (.str (i ++ j)) H
theorem op_modP {X : Cx} : OpR X (binaryOp .Mod) rMod := op_mod
theorem op_mulI {X : Cx} : OpR X (binaryOp .Mult) rMulI := op_mul
theorem op_addI {X : Cx} : OpR X (binaryOp .Add) rAddI := op_add
theorem op_addS {X : Cx} : OpR X (binaryOp .Add) rAddS := op_add_str
def teLetter : TE := tOp rIxS (tVar 2) (tCall spTake [] E0 (tCons (tVar 0) (tCons (tC (.int 26)) tNil)))
def teName : TE := tOp rAddS (tOp rAddS (tSl rSlS (tVar 5) tNoPart (tPart (tVar 6))) (tOp rIxS (tVar 2) (tOp rMod (tOp rAddI (tVar 3) (tOp rMulI (tVar 4) (tVar 8))) (tC (.int 26))))) (tSl rSlS (tVar 5) (tPart (tVar 6)) tNoPart)
def teIff : TE := tIf (tTest (tOp rEq (tVar 9) (tC (.str "if")))) (tC (.str "iff")) (tVar 9)
section
variable {P : Program} {w : World} {K : PySem.W.Frag} {mg : Str → Option Value} {base : Heap}
theorem scFolded : FnScope ["_law_script", "_law_count", "_law_cells", "_law_k", "_law_cell"] ["_law_script", "_law_count"] (defScope sFolded) := ⟨rfl, rfl, rfl, by decide +kernel, rfl, by decide +kernel, by decide +kernel⟩
theorem ok_folded {f : Addr} {fd : FuncData} (F : Fun K "_law_folded" "_law_folded" sFolded f fd) (mList : mg "list" = none) (mEnum : mg "enumerate" = none) : FnOk P w K mg base CX0 1 f fd ["_law_script", "_law_count"] (spFolded K) := by
  refine F.ok scFolded (fun vs H Q E h => ?_) (fun cdv A outer s H vs Q E hr h => ?_)
  · obtain ⟨a, ns, rfl, _⟩ := h
    rfl
  obtain ⟨a, ns, rfl, hS, hl, q⟩ := h
  refine ⟨_, pss_cons (ps_set (i := 2) scFolded.nd rfl (Or.inl rfl) (pe_callTy call_list_of (by rfl) mList (by decide +kernel) (pa_cons (pe_slice sl_list (pv 0) po_none (po_some (pv 1))) pa_nil)))
    (pss_cons (ps_for PassesOwn.never rfl (pi_enum (by rfl) mEnum (pa_cons (pe_slice sl_list (pv 0) (po_some (pv 1)) (po_some pe_int)) pa_nil)) (pg_tup (by rfl) (pgs_cons (pg_name (i := 3) scFolded.nd rfl (Or.inl rfl)) (pgs_cons (pg_name (i := 4) scFolded.nd rfl (Or.inl rfl)) pgs_nil)))
      (pss_one (ps_asg (pe_op op_addI (pe_ix ix_list (pv 2) (pe_op op_modP (pv 3) (pv 1)) (fun _ _ => rfl)) (pe_op op_mulI (pv 4) (pe_op op_addI (pv 3) pe_int))) (pg_sub (pv 2) (pe_op op_modP (pv 3) (pv 1)) set_list))))
    (pss_one (ps_ret (pe_ifExp (pt_cmpR (op_neD hr.units) (pv 2) (pe_lst pa_nil) (nomark _)) (pv 2) (pe_lst (pa_cons pe_int pa_nil)))))), ?_⟩
  have big : (10000 : Nat) ≤ sizeLine := by decide
  have e1 : cutV (ns.map V.int) none (some 3) = (ns.take 3).map V.int := by rw [show (some 3 : Option Int) = some ((3 : Nat) : Int) from rfl, cut_to, List.map_take]
  obtain ⟨ms, e2, ml⟩ : ∃ ms : List Int, cutV (ns.map V.int) (some 3) (some 63) = ms.map V.int ∧ (ms.length ≤ 63 ∧ (0 < ms.length → 3 ≤ ns.length)) := by
    refine ⟨(ns.drop (min 3 ns.length)).take (min 63 ns.length - min 3 ns.length), ?_, ?_⟩
    · rw [show (some 3 : Option Int) = some ((3 : Nat) : Int) from rfl, show (some 63 : Option Int) = some ((63 : Nat) : Int) from rfl]
      unfold cutV
      rw [HT.sIx_nat, HT.sIx_nat, List.length_map, List.map_take, List.map_drop]
    · rw [List.length_take, List.length_drop]
      omega
  refine ⟨_, rfl, _, rfl, 3, rfl, a, _, rfl, hS, fun p hp => ?_⟩
  rw [e1]
  have s1 := same_new hp (.lst ((ns.take 3).map V.int))
  refine ⟨p, _, rfl, .inl (.inl (.inl upd_same)), fun l hl => ?_⟩
  have s2 := same_new hl (.lst ((ns.take 3).map V.int))
  have s12 := s1.trans s2
  refine ⟨_, rfl, _, rfl, 3, rfl, 63, rfl, a, _, rfl, s12.seq hS, fun g hg => ?_⟩
  rw [e2]
  have s3 := same_new hg (.lst (ms.map V.int))
  have lg : l ≠ g := ne_of_none upd_same hg
  refine ⟨g, _, rfl, .inl (.inl upd_same), for_it walk_enum (fun i σ H3 => ∃ (cs : List Int) (x3 x4 : Option V), σ = [some (.ref a), some (.int 3), some (.ref l), x3, x4] ∧ H3 l = some (.lst (cs.map V.int)) ∧ cs.length = (ns.take 3).length ∧ H3 g = some (.lst (ms.map V.int)) ∧ Same H H3)
    ⟨ns.take 3, _, _, rfl, s3 _ _ upd_same, rfl, upd_same, s12.trans s3⟩ (fun i σ H3 _ ⟨_, _, _, _, _, _, h, _⟩ => .inl (.inl h)) ?_ ?_⟩
  · rintro i x σ H3 H4 hi ⟨cs, x3, x4, rfl, h3l, cl, h3g, s⟩ ⟨T, u, v, rfl, hT, rfl, hu, hv⟩
    obtain rfl := Option.some.inj hu
    rw [List.length_map] at hi
    have four := ml.2 (by omega)
    have m63 := ml.1
    have cl4 : cs.length = 3 := by rw [cl, List.length_take]; omega
    have hv : (ms.map V.int)[i]? = some v := hv
    rw [List.getElem?_map, List.getElem?_eq_getElem hi] at hv
    obtain rfl := Option.some.inj hv
    have sT := same_new hT (.tup [V.int (i : Nat), V.int ms[i]])
    refine ⟨T, _, rfl, .inl (.inl upd_same), rfl, _, _, rfl, _, _, rfl, rfl, ?_⟩
    have m0 : 0 ≤ (i : Int) % 3 ∧ (i : Int) % 3 < 4 := by omega
    have lt : ((i : Int) % 3).toNat < cs.length := by omega
    have hix : ixN (cs.map V.int).length ((i : Int) % 3) = some ((i : Int) % 3).toNat := by rw [List.length_map]; exact ixN_int ⟨m0.1, by omega⟩
    have hat : atI (cs.map V.int) ((i : Int) % 3) = some (V.int cs[((i : Int) % 3).toNat]) := by
      unfold atI
      rw [hix]
      show (cs.map V.int)[((i : Int) % 3).toNat]? = _
      rw [List.getElem?_map, List.getElem?_eq_getElem lt]
      rfl
    refine ⟨_, rfl, _, rfl, _, rfl, _, _, rfl, rfl, (by show (0 : Int) < 3; decide), l, _, _, _, rfl, rfl, .inl (.inl (sT _ _ h3l)), hat, ?_⟩
    refine ⟨_, rfl, _, rfl, _, _, rfl, rfl, _, _, rfl, rfl, .inr ⟨by omega, by omega⟩, _, _, rfl, rfl, ?_⟩
    refine ⟨_, rfl, _, rfl, _, rfl, _, _, rfl, rfl, (by show (0 : Int) < 3; decide), l, _, _, _, rfl, rfl, sT _ _ h3l, hix, ?_⟩
    refine ⟨cs.set ((i : Int) % 3).toNat (cs[((i : Int) % 3).toNat] + ms[i] * ((i : Nat) + 2)), _, _, rfl, ?_, ?_, ?_, ?_⟩
    · rw [upd_same, List.map_set]
    · rw [List.length_set, cl]
    · rw [upd_ne lg.symm]
      exact sT _ _ h3g
    · intro c o z
      have cn : c ≠ l := ne_of_none (s1 _ _ z) hl
      rw [upd_ne cn]
      exact sT _ _ (s _ _ z)
  · rintro σ H3 ⟨cs, x3, x4, rfl, h3l, cl, h3g, s⟩
    have cl4 : cs.length ≤ 3 := by rw [cl, List.length_take]; omega
    have hl0 : H l = none := by
      cases e : H l with
      | none => rfl
      | some u => have := s1 _ _ e; rw [hl] at this; cases this
    refine ⟨_, rfl, (by show 0 ≤ sizeLine; decide), fun b hb => ?_⟩
    have s4 := same_new hb (.lst ([] : List V))
    refine ⟨.list (cs.map .int), .list [], .lst (.inl (.inl (s4 _ _ h3l))) (dp_ints cs), .lst (.inl (.inl upd_same)) .nil, ints_shaped cs, ints_shaped [], !(cs.map PyData.int).isEmpty, congrArg (fun z => V.bl (!z)) eqv_lnil, ?_⟩
    cases cs with
    | nil =>
      refine iteF ⟨(by show 1 ≤ sizeLine; decide), fun c hc => ?_⟩
      have s5 := same_new hc (.lst [V.int 0])
      have hc0 : H c = none := by
        cases e : H c with
        | none => rfl
        | some u => have := s4 _ _ (s _ _ e); rw [hc] at this; cases this
      exact q c [0] _ hc0 upd_same (by decide) (by decide) (s.trans (s4.trans s5))
    | cons c0 cr =>
      exact iteT ⟨_, rfl, q l (c0 :: cr) _ hl0 (s4 _ _ h3l) (by simp) cl4 (s.trans s4)⟩
abbrev NW : List Str := ["_law_box_here", "_law_count", "_law_letters", "_law_begun_here", "_law_by", "_law_tail", "_law_at", "_law_found", "_law_k", "_law_name"]
theorem scWords : FnScope NW ["_law_box_here", "_law_count"] (defScope sWords) := ⟨rfl, rfl, rfl, by decide +kernel, rfl, by decide +kernel, by decide +kernel⟩
theorem ok_words {f fT : Addr} {fd fdT : FuncData} (F : Fun K "_law_words" "_law_words" sWords f fd) (FT : Fun K "_law_take" "_law_take" sTake fT fdT) (bT : Binds K fdT ["_law_box_here", "_law_top"] []) (mT : mg "_law_take" = some (.ref fT))
    (mRange : mg "range" = none) (mLen : mg "len" = none) : FnOk P w K mg base CX0 2 f fd ["_law_box_here", "_law_count"] spWords := by
  have GT : FnOk P w K mg base CX0 1 fT fdT ["_law_box_here", "_law_top"] spTake := ok_take FT
  refine F.ok scWords (fun vs H Q E h => ?_) (fun cdv A outer s H vs Q E hr h => ?_)
  · obtain ⟨b, j, rfl, _⟩ := h
    rfl
  obtain ⟨b, j, rfl, B, hj, q⟩ := h
  refine ⟨_, pss_cons (ps_asg (pe_tup (pa_cons pe_str (pa_cons (pe_call GT hr (by rfl) mT FT.kp bT .nil pass0 (pa_cons (pv 0) (pa_cons pe_int pa_nil))) (pa_cons (pe_ix ix_list (pe_lst (pa_cons pe_int (pa_cons pe_int (pa_cons pe_int (pa_cons pe_int pa_nil))))) (pe_call GT hr (by rfl) mT FT.kp bT .nil pass0 (pa_cons (pv 0) (pa_cons pe_int pa_nil))) (fun _ _ => rfl)) pa_nil))))
      (pg_tup (by rfl) (pgs_cons (pg_name (i := 2) scWords.nd rfl (Or.inr rfl)) (pgs_cons (pg_name (i := 3) scWords.nd rfl (Or.inr rfl)) (pgs_cons (pg_name (i := 4) scWords.nd rfl (Or.inr rfl)) pgs_nil)))))
    (pss_cons (ps_set (i := 5) scWords.nd rfl (Or.inr rfl) (pe_bm PySem.F.plainAttrs_str PySem.F.slot_str_join PySem.F.type_str_join mt_join pe_str (pa_cons
      (pe_lc (own := [("_law_k", 8)]) (g := gName 8) (tt := tYes) (te := teLetter) rfl scWords.nd (pi_range1 (by rfl) mRange (pa_cons (pe_ix ix_list (pe_lst (pa_cons pe_int (pa_cons pe_int (pa_cons pe_int (pa_cons pe_int (pa_cons pe_int pa_nil)))))) (pe_call GT hr (by rfl) mT FT.kp bT .nil pass0 (pa_cons (pv 0) (pa_cons pe_int pa_nil))) (fun _ _ => rfl)) pa_nil))
        (blkOk_by (N := NW) (sc := defScope sWords) (by decide +kernel)) (fun _ _ _ _ _ => pg_name (i := 8) scWords.nd rfl (Or.inl rfl)) (fun _ _ _ _ _ => pts_nil)
        (fun _ _ _ _ _ => pe_ix ix_str (pv 2) (pe_call GT hr (by rfl) mT FT.kp bT .nil pass0 (pa_cons (pv 0) (pa_cons pe_int pa_nil))) (fun _ _ => rfl))) pa_nil)))
    (pss_cons (ps_set (i := 6) scWords.nd rfl (Or.inr rfl) (pe_call GT hr (by rfl) mT FT.kp bT .nil pass0 (pa_cons (pv 0) (pa_cons (pe_op op_addI (pe_callB call_len_str (by rfl) mLen PySem.boot_len (pa_cons (pv 5) pa_nil)) pe_int) pa_nil))))
    (pss_cons (ps_setLc (i := 7) (own := [("_law_k", 8)]) (g := gName 8) (tt := tYes) (te := teName) rfl scWords.nd rfl rfl (by rfl) (pi_range1 (by rfl) mRange (pa_cons (pv 1) pa_nil))
        (blkOk_by (N := NW) (sc := defScope sWords) (by decide +kernel)) (fun _ _ _ _ _ => pg_name (i := 8) scWords.nd rfl (Or.inl rfl)) (fun _ _ _ _ _ => pts_nil)
        (fun _ _ _ _ _ => pe_op op_addS (pe_op op_addS (pe_slice sl_str (pv 5) po_none (po_some (pv 6))) (pe_ix ix_str (pv 2) (pe_op op_modP (pe_op op_addI (pv 3) (pe_op op_mulI (pv 4) (pv 8))) pe_int) (fun _ _ => rfl))) (pe_slice sl_str (pv 5) (po_some (pv 6)) po_none)))
    (pss_one (ps_ret (pe_lc (own := [("_law_name", 9)]) (g := gName 9) (tt := tYes) (te := teIff) rfl scWords.nd (pi_list (pv 7))
        (blkOk_by (N := NW) (sc := defScope sWords) (by decide +kernel)) (fun _ _ _ _ _ => pg_name (i := 9) scWords.nd rfl (Or.inl rfl)) (fun _ _ _ _ _ => pts_nil)
        (fun _ _ _ _ _ => pe_ifExp (pt_cmpR op_eq (pv 9) pe_str (nomark _)) pe_str (pv 9)))))))), ?_⟩
  have big : (10000 : Nat) ≤ sizeLine := by decide
  have l0 : ("" : Str).length = 0 := by decide +kernel
  have ll : letters.length = 26 := by decide +kernel
  refine ⟨_, rfl, b, _, j, rfl, B, by omega, by decide, by decide, fun r1 H1 a0 a1 B1 o1 => ?_⟩
  refine ⟨(by show 4 ≤ sizeLine; decide), fun d hd => ?_⟩
  have s2 := same_new hd (.lst [V.int 1, V.int 3, V.int 7, V.int 25])
  refine ⟨_, rfl, b, _, _, rfl, B1.same s2, by omega, by decide, by decide, fun r2 H3 b0 b1 B3 o3 => ?_⟩
  obtain ⟨y1, hb1⟩ := B1.some
  have db : d ≠ b := (ne_of_none hb1 hd).symm
  have hd3 := o3 _ _ upd_same db
  obtain ⟨by_, hat, hby⟩ : ∃ n : Int, atI [V.int 1, V.int 3, V.int 7, V.int 25] r2 = some (.int n) ∧ 1 ≤ n ∧ n ≤ 25 := by
    rcases (by omega : r2 = 0 ∨ r2 = 1 ∨ r2 = 2 ∨ r2 = 3) with e | e | e | e <;> subst e
    · exact ⟨_, at_of (j := 0) rfl rfl, by omega, by omega⟩
    · exact ⟨_, at_of (j := 1) rfl rfl, by omega, by omega⟩
    · exact ⟨_, at_of (j := 2) rfl rfl, by omega, by omega⟩
    · exact ⟨_, at_of (j := 3) rfl rfl, by omega, by omega⟩
  refine ⟨d, _, _, _, rfl, rfl, .inl (.inl hd3), hat, (by show 3 ≤ sizeLine; decide), fun t ht => ?_⟩
  have s4 := same_new ht (.tup [V.str letters, V.int r1, V.int by_])
  refine ⟨t, _, rfl, .inl (.inl upd_same), rfl, _, _, rfl, _, _, rfl, _, _, rfl, rfl, ?_⟩
  refine ⟨rfl, (by show 5 ≤ sizeLine; decide), fun e he => ?_⟩
  have s5 := same_new he (.lst [V.int 0, V.int 1, V.int 2, V.int 3, V.int 5])
  have B5 := (B3.same s4).same s5
  obtain ⟨y3, hb3⟩ := (B3.same s4).some
  have eb : e ≠ b := (ne_of_none hb3 he).symm
  refine ⟨_, rfl, b, _, _, rfl, B5, by omega, by decide, by decide, fun r3 H6 c0 c1 B6 o6 => ?_⟩
  have he6 := o6 _ _ upd_same eb
  obtain ⟨m3, hat3, hm3⟩ : ∃ n : Int, atI [V.int 0, V.int 1, V.int 2, V.int 3, V.int 5] r3 = some (.int n) ∧ 0 ≤ n ∧ n ≤ 5 := by
    rcases (by omega : r3 = 0 ∨ r3 = 1 ∨ r3 = 2 ∨ r3 = 3 ∨ r3 = 4) with e | e | e | e | e <;> subst e
    · exact ⟨_, at_of (j := 0) rfl rfl, by omega, by omega⟩
    · exact ⟨_, at_of (j := 1) rfl rfl, by omega, by omega⟩
    · exact ⟨_, at_of (j := 2) rfl rfl, by omega, by omega⟩
    · exact ⟨_, at_of (j := 3) rfl rfl, by omega, by omega⟩
    · exact ⟨_, at_of (j := 4) rfl rfl, by omega, by omega⟩
  have o06 : But b H H6 := o1.trans ((but_of s2).trans (o3.trans ((but_of s4).trans ((but_of s5).trans o6))))
  refine ⟨e, _, _, _, rfl, rfl, .inl (.inl he6), hat3, _, rfl, by omega, by omega, fun D hD => lc_range (lo := 0) (fun i H7 => ∃ ys : List Str, H7 D = some (.lst (ys.map V.str)) ∧ ys.length = i ∧ (∀ y ∈ ys, y.length = 1 ∧ Low y) ∧ BoxAt H7 b (j + 3 + i) ∧ But b H H7)
    ⟨[], upd_same, rfl, by simp, (B6.same (same_new hD _)).more (by omega), o06.trans (but_of (same_new hD _))⟩ ?_ ?_⟩
  · rintro i H7 hi ⟨ys, h7, yl, yo, B7, o7⟩
    have Db : D ≠ b := by
      obtain ⟨y6, hb6⟩ := B6.some
      exact (ne_of_none hb6 hD).symm
    refine ⟨rfl, ?_⟩
    unfold teLetter
    refine ⟨_, rfl, _, rfl, b, _, _, rfl, B7, by omega, by decide, by decide, fun r H8 d0 d1 B8 o8 => ?_⟩
    obtain ⟨c, hc, cl⟩ := letter_at ⟨d0, d1⟩
    refine ⟨letters, _, c, rfl, rfl, by omega, hc, ys.map V.str, o8 _ _ h7 Db, by rw [List.length_map]; omega, ys ++ [⟨#[c]⟩], ?_, by simp [yl], ?_, (B8.upd Db _).more (by omega), ?_⟩
    · rw [upd_same, List.map_append]; rfl
    · intro y hy
      rcases List.mem_append.mp hy with hy | hy
      · exact yo y hy
      · obtain rfl : y = ⟨#[c]⟩ := by simpa using hy
        exact ⟨rfl, low_one cl⟩
    · intro x o z nb
      have xD : x ≠ D := ne_of_none z (but_none o06 B6 hD)
      rw [upd_ne xD]
      exact o8 _ _ (o7 _ _ z nb) nb
  · rintro H7 ⟨ys, h7, yl, yo, B7, o7⟩
    obtain ⟨jl, jw⟩ := low_join ys yo
    have sum1 : ∀ zs : List Str, (∀ y ∈ zs, y.length = 1 ∧ Low y) → (zs.map (·.length)).sum = zs.length := by
      intro zs
      induction zs with
      | nil => intro _; rfl
      | cons z zs ih =>
        intro h
        rw [List.map_cons, List.sum_cons, ih fun y hy => h y (by simp [hy]), (h z (by simp)).1, List.length_cons]
        omega
    refine ⟨"", D, ys, rfl, rfl, .inl (.inl (.inl h7)), by rw [l0, sum1 ys yo]; omega, ?_⟩
    generalize Txt.join "" ys = tail at jl jw
    have tl5 : tail.length ≤ 5 := by omega
    refine ⟨_, rfl, _, rfl, tail, rfl, by omega, _, _, rfl, rfl, b, _, _, rfl, B7, by omega, by omega, by omega, fun r8 H8 e0 e1 B8 o8 => ?_⟩
    obtain ⟨k, rfl⟩ := Int.eq_ofNat_of_zero_le e0
    obtain ⟨p1, p2⟩ := cutS_parts (z := tail) (k := k) (by omega)
    have w1 := low_cut jw none (some (k : Int))
    have w2 := low_cut jw (some (k : Int)) none
    have o08 := o7.trans o8
    refine ⟨_, rfl, _, rfl, by decide, by decide, fun D2 hD2 => lc_range (lo := 0) (fun i H9 => ∃ ws : List Str, H9 D2 = some (.lst (ws.map V.str)) ∧ ws.length = i ∧ (∀ x ∈ ws, 1 ≤ x.length ∧ x.length ≤ 6 ∧ Low x) ∧ Same H8 H9) ⟨[], upd_same, rfl, by simp, same_new hD2 _⟩ ?_ ?_⟩
    · rintro i H9 hi ⟨ws, h9, wl, wo, s9⟩
      refine ⟨rfl, ?_⟩
      unfold teName
      have i4 : i < 5 := hi
      obtain ⟨c, hc, cl⟩ := letter_at (i := (r1 + by_ * (0 + (i : Int))) % 26) (by omega)
      have one : (⟨#[c]⟩ : Str).length = 1 := rfl
      refine ⟨_, rfl, _, rfl, (k : Int), rfl, tail, rfl, by omega, ?_⟩
      refine ⟨_, rfl, _, rfl, _, rfl, _, rfl, _, _, rfl, rfl, .inl ⟨by omega, by omega⟩, _, _, rfl, rfl, _, _, rfl, rfl, (by show (0 : Int) < 26; decide), letters, _, c, rfl, rfl, by omega, hc, ?_⟩
      refine ⟨_, _, rfl, rfl, by rw [p1, one]; omega, ?_⟩
      refine ⟨_, rfl, _, rfl, (k : Int), rfl, tail, rfl, by omega, ?_⟩
      refine ⟨_, _, rfl, rfl, by rw [slen, p1, p2, one]; omega, ?_⟩
      refine ⟨ws.map V.str, h9, by rw [List.length_map]; omega, ws ++ [cutS tail none (some (k : Int)) ++ ⟨#[c]⟩ ++ cutS tail (some (k : Int)) none], by rw [upd_same, List.map_append]; rfl, by simp [wl], ?_, ?_⟩
      · intro x hx
        rcases List.mem_append.mp hx with hx | hx
        · exact wo x hx
        · obtain rfl : x = _ := List.mem_singleton.mp hx
          refine ⟨?_, ?_, low_append (low_append w1 (low_one cl)) w2⟩
          · rw [slen, slen, p1, p2, one]; omega
          · rw [slen, slen, p1, p2, one]; omega
      · intro x o z
        rw [upd_ne (ne_of_none z hD2)]
        exact s9 _ _ z
    · rintro H9 ⟨ws, h9, wl, wo, s9⟩
      have wl4 : ws.length = 5 := wl
      refine ⟨_, rfl, D2, rfl, ⟨_, .inl (.inl h9)⟩, fun D3 hD3 => lc_list (K := K) (a := D2) (xs := ws.map V.str) (fun i H10 => H10 D3 = some (.lst (((ws.take i).map fun x : Str => if x = ("if" : Str) then ("iff" : Str) else x).map V.str)) ∧ Same H9 H10) ⟨upd_same, same_new hD3 _⟩ (fun i H10 _ h => .inl (.inl (h.2 _ _ h9))) ?_ ?_⟩
      · rintro i x H10 hi ⟨h10, s10⟩
        rw [List.getElem?_map] at hi
        obtain ⟨y, hy, rfl⟩ : ∃ y, ws[i]? = some y ∧ x = .str y := by
          cases hq : ws[i]? with
          | none => rw [hq] at hi; cases hi
          | some p => rw [hq] at hi; exact ⟨p, rfl, by simpa using hi.symm⟩
        have tk : ws.take (i + 1) = ws.take i ++ [y] := by rw [List.take_add_one, hy]; rfl
        refine ⟨rfl, ?_⟩
        unfold teIff
        have fin : ∀ z : Str, z = (if y = ("if" : Str) then ("iff" : Str) else y) → ∃ acc, H10 D3 = some (.lst acc) ∧ acc.length < sizeLine ∧ (upd H10 D3 (.lst (acc ++ [V.str z]))) D3 = some (.lst (((ws.take (i + 1)).map fun x : Str => if x = ("if" : Str) then ("iff" : Str) else x).map V.str)) ∧ Same H9 (upd H10 D3 (.lst (acc ++ [V.str z]))) := by
          rintro z rfl
          refine ⟨_, h10, ?_, ?_, ?_⟩
          · rw [List.length_map, List.length_map, List.length_take]; omega
          · rw [upd_same, tk, List.map_append, List.map_append]; rfl
          · intro x o z
            rw [upd_ne (ne_of_none z hD3)]
            exact s10 _ _ z
        by_cases hif : y = ("if" : Str)
        · exact ⟨_, rfl, rfl, true, congrArg V.bl (decide_eq_true (by rw [hif])), iteT (fin _ (if_pos hif).symm)⟩
        · exact ⟨_, rfl, rfl, false, congrArg V.bl (decide_eq_false fun z => hif (V.str.inj z)), iteF ⟨_, rfl, fin _ (if_neg hif).symm⟩⟩
      · rintro H10 ⟨h10, s10⟩
        rw [List.length_map, List.take_length] at h10
        have o09 : But b H H9 := o08.trans (but_of s9)
        refine q D3 _ H10 (but_none o09 (B8.same s9) hD3) h10 (by rw [List.length_map, wl4]) ?_ (((B8.same s9).same s10).more (by omega)) (o09.trans (but_of s10))
        intro x hx
        obtain ⟨y, hy, rfl⟩ := List.mem_map.mp hx
        by_cases hif : y = ("if" : Str)
        · rw [if_pos hif]
          exact ⟨by decide +kernel, by decide +kernel, by decide +kernel, by decide +kernel⟩
        · rw [if_neg hif]
          obtain ⟨g1, g2, g3⟩ := wo y hy
          exact ⟨g1, g2, g3, hif⟩
end
end Rp

set_option maxHeartbeats 8000000
/-! The law's counts and rules. -/
namespace Rp
open PySem PySem.Spec PyProof.Rows L2 TL StX
abbrev KVs := List (L2.Key × V)
def CtE (kv : L2.Key × V) : Prop := ∃ (x : Str) (m : Nat), kv.1 = .inr x ∧ kv.2 = .int (m : Nat) ∧ NameOk x ∧ 1 ≤ m ∧ m ≤ 2
structure CtOk (kvs : KVs) : Prop where
  each : ∀ kv ∈ kvs, CtE kv
  one : 1 ≤ kvs.length
  few : kvs.length ≤ 7
theorem putK_ct {kvs : KVs} (h : ∀ kv ∈ kvs, CtE kv) {k : L2.Key} {v : V} (e : CtE (k, v)) : ∀ kv ∈ putK kvs k v, CtE kv := by
  intro kv hkv
  unfold putK at hkv
  split at hkv
  · obtain ⟨kv0, h0, rfl⟩ := List.mem_map.mp hkv
    by_cases z : kv0.1 = k
    · rw [if_pos z, z]; exact e
    · rw [if_neg z]; exact h _ h0
  · rcases List.mem_append.mp hkv with hkv | hkv
    · exact h _ hkv
    · obtain rfl : kv = (k, v) := by simpa using hkv
      exact e
theorem putK_pos (kvs : KVs) (k : L2.Key) (v : V) : 1 ≤ (putK kvs k v).length ∧ kvs.length ≤ (putK kvs k v).length := by
  unfold putK
  split
  · rename_i h
    rw [List.length_map]
    refine ⟨?_, Nat.le_refl _⟩
    cases kvs with
    | nil => simp at h
    | cons a r => simp
  · rw [List.length_append]; simp
theorem putK_le (kvs : KVs) (k : L2.Key) (v : V) : (putK kvs k v).length ≤ kvs.length + 1 := by
  unfold putK
  split
  · rw [List.length_map]; omega
  · rw [List.length_append]; simp
theorem merge_ct : ∀ {more acc : KVs}, (∀ kv ∈ acc, CtE kv) → (∀ kv ∈ more, CtE kv) → (∀ kv ∈ mergeK acc more, CtE kv) ∧ (mergeK acc more).length ≤ acc.length + more.length ∧ acc.length ≤ (mergeK acc more).length ∧ (1 ≤ more.length → 1 ≤ (mergeK acc more).length)
  | [], acc, h, _ => ⟨h, Nat.le_refl _, Nat.le_refl _, fun z => by simp at z⟩
  | kv :: more, acc, h, h' => by
    have e : mergeK acc (kv :: more) = mergeK (putK acc kv.1 kv.2) more := rfl
    rw [e]
    obtain ⟨i1, i2, i3, i4⟩ := merge_ct (more := more) (acc := putK acc kv.1 kv.2) (putK_ct h (h' kv (by simp))) fun z hz => h' z (by simp [hz])
    have p1 := putK_le acc kv.1 kv.2
    have p2 := putK_pos acc kv.1 kv.2
    exact ⟨i1, by rw [List.length_cons]; omega, by omega, fun _ => by omega⟩
theorem ct_keys : ∀ {kvs : KVs}, (∀ kv ∈ kvs, CtE kv) → ∃ ks : List Str, kvs.map (·.1) = ks.map Sum.inr ∧ ks.length = kvs.length ∧ ∀ x ∈ ks, NameOk x ∧ ∃ m : Nat, valV kvs (.inr x) = some (.int (m : Nat)) ∧ 1 ≤ m ∧ m ≤ 2
  | [], _ => ⟨[], rfl, rfl, by simp⟩
  | kv :: r, h => by
    obtain ⟨ks, e1, e2, e3⟩ := ct_keys (kvs := r) fun z hz => h z (by simp [hz])
    obtain ⟨x, m, h1, h2, h3, h4, h5⟩ := h kv (by simp)
    refine ⟨x :: ks, by rw [List.map_cons, List.map_cons, e1, h1], by simp [e2], fun y hy => ?_⟩
    by_cases z : x = y
    · subst z
      exact ⟨h3, m, by rw [valV_pos h1, h2], h4, h5⟩
    · rcases List.mem_cons.mp hy with hy | hy
      · exact absurd hy.symm z
      · obtain ⟨g1, m', g2, g3⟩ := e3 y hy
        exact ⟨g1, m', by rw [valV_neg (by rw [h1]; exact fun w => z (Sum.inr.inj w))]; exact g2, g3⟩
def spCounts : Sp := fun vs H Q _ => ∃ (b p : Addr) (ws : List Str) (j : Nat), vs = [.ref b, .ref p] ∧ BoxAt H b j ∧ H p = some (.lst (ws.map V.str)) ∧ p ≠ b ∧ 1 ≤ ws.length ∧ ws.length ≤ 7 ∧ (∀ x ∈ ws, NameOk x) ∧ j + 7 ≤ 1000000 ∧
  ∀ (d : Addr) (kvs : KVs) (H' : Hp), H d = none → H' d = some (.dK kvs) → CtOk kvs → BoxAt H' b (j + 7) → But b H H' → Q (.ref d) H'
def rDiv2 : R2 := rI CDiv fun i j => .int (i / j)
theorem op_div2 {X : Cx} : OpR X (binaryOp .FloorDiv) rDiv2 := op_fdiv
def tePair : TE := tTup (tCons (tVar 2) (tCons (tOp rAddI (tC (.int 1)) (tOp rDiv2 (tCall spTake [] E0 (tCons (tVar 0) (tCons (tC (.int 3)) tNil))) (tC (.int 2)))) tNil))
def PairsAt (H : Hp) : List Addr → KVs → Prop
  | [], [] => True
  | p :: ps, kv :: kvs => H p = some (.tup [kV kv.1, kv.2]) ∧ PairsAt H ps kvs
  | _, _ => False
theorem PairsAt.mono {H H' : Hp} (e : ∀ a xs, H a = some (.tup xs) → H' a = some (.tup xs)) : ∀ {ps : List Addr} {kvs : KVs}, PairsAt H ps kvs → PairsAt H' ps kvs
  | [], [], _ => trivial
  | _ :: _, _ :: _, h => ⟨e _ _ h.1, PairsAt.mono e h.2⟩
theorem PairsAt.len {H : Hp} : ∀ {ps : List Addr} {kvs : KVs}, PairsAt H ps kvs → ps.length = kvs.length
  | [], [], _ => rfl
  | _ :: _, _ :: _, h => congrArg (· + 1) (PairsAt.len h.2)
theorem PairsAt.snoc {H : Hp} {p : Addr} {kv : L2.Key × V} (hp : H p = some (.tup [kV kv.1, kv.2])) : ∀ {ps : List Addr} {kvs : KVs}, PairsAt H ps kvs → PairsAt H (ps ++ [p]) (kvs ++ [kv])
  | [], [], _ => ⟨hp, trivial⟩
  | _ :: _, _ :: _, h => ⟨h.1, PairsAt.snoc hp h.2⟩
theorem PairsAt.paired {K : PySem.W.Frag} {H : Hp} : ∀ {ps : List Addr} {kvs : KVs}, PairsAt H ps kvs → Paired (fun p (kv : L2.Key × V) => SqT K H p [kV kv.1, kv.2]) ps kvs
  | [], [], _ => .nil
  | _ :: _, _ :: _, h => .cons (.inl (.inl h.1)) (PairsAt.paired h.2)
section
variable {P : Program} {w : World} {K : PySem.W.Frag} {mg : Str → Option Value} {base : Heap}
theorem scCounts : FnScope ["_law_box_here", "_law_words_here", "_law_word"] ["_law_box_here", "_law_words_here"] (defScope sCounts) := ⟨rfl, rfl, rfl, by decide +kernel, rfl, by decide +kernel, by decide +kernel⟩
theorem ok_counts {f fT : Addr} {fd fdT : FuncData} (F : Fun K "_law_counts" "_law_counts" sCounts f fd) (FT : Fun K "_law_take" "_law_take" sTake fT fdT) (bT : Binds K fdT ["_law_box_here", "_law_top"] []) (mT : mg "_law_take" = some (.ref fT))
    (mDict : mg "dict" = none) : FnOk P w K mg base CX0 2 f fd ["_law_box_here", "_law_words_here"] spCounts := by
  have GT : FnOk P w K mg base CX0 1 fT fdT ["_law_box_here", "_law_top"] spTake := ok_take FT
  refine F.ok scCounts (fun vs H Q E h => ?_) (fun cdv A outer s H vs Q E hr h => ?_)
  · obtain ⟨b, p, ws, j, rfl, _⟩ := h
    rfl
  obtain ⟨b, p, ws, j, rfl, B, hp, pb, w1, w7, wo, hj, q⟩ := h
  refine ⟨_, pss_one (ps_ret (pe_callTy (call_dictP rfl) (by rfl) mDict (by decide +kernel) (pa_cons (pe_lc (own := [("_law_word", 2)]) (g := gName 2) (tt := tYes) (te := tePair) rfl scCounts.nd (pi_list (pv 1))
        (blkOk_by (N := ["_law_box_here", "_law_words_here", "_law_word"]) (sc := defScope sCounts) (by decide +kernel)) (fun _ _ _ _ _ => pg_name (i := 2) scCounts.nd rfl (Or.inl rfl)) (fun _ _ _ _ _ => pts_nil)
        (fun _ _ _ _ _ => pe_tup (pa_cons (pv 2) (pa_cons (pe_op op_addI pe_int (pe_op op_div2 (pe_call GT hr (by rfl) mT FT.kp bT .nil pass0 (pa_cons (pv 0) (pa_cons pe_int pa_nil))) pe_int)) pa_nil)))) pa_nil))), ?_⟩
  have big : (10000 : Nat) ≤ sizeLine := by decide
  obtain ⟨y0, hb0⟩ := B.some
  refine ⟨_, rfl, p, rfl, ⟨_, .inl (.inl hp)⟩, fun D hD => lc_list (K := K) (a := p) (xs := ws.map V.str) (fun i H2 => ∃ (ps : List Addr) (kvs : KVs), H2 D = some (.lst (ps.map V.ref)) ∧ PairsAt H2 ps kvs ∧ kvs.length = i ∧ (∀ kv ∈ kvs, CtE kv) ∧ BoxAt H2 b (j + i) ∧ H2 p = some (.lst (ws.map V.str)) ∧ But b H H2)
    ⟨[], [], upd_same, trivial, rfl, by simp, (B.same (same_new hD _)).more (by omega), same_new hD _ _ _ hp, but_of (same_new hD _)⟩ (fun i H2 _ ⟨_, _, _, _, _, _, _, h, _⟩ => .inl (.inl h)) ?_ ?_⟩
  · rintro i x H2 hi ⟨ps, kvs, h2, A2, kl, ke, B2, hp2, o2⟩
    rw [List.getElem?_map] at hi
    obtain ⟨y, hy, rfl⟩ : ∃ y, ws[i]? = some y ∧ x = .str y := by
      cases hq : ws[i]? with
      | none => rw [hq] at hi; cases hi
      | some p => rw [hq] at hi; exact ⟨p, rfl, by simpa using hi.symm⟩
    have li : i < ws.length := (List.getElem?_eq_some_iff.mp hy).1
    have Db : D ≠ b := (ne_of_none hb0 hD).symm
    have Dp : D ≠ p := (ne_of_none hp hD).symm
    have pl := A2.len
    refine ⟨rfl, ?_⟩
    unfold tePair
    refine ⟨_, rfl, _, rfl, b, _, _, rfl, B2, by omega, by decide, by decide, fun r H3 r0 r3 B3 o3 => ?_⟩
    refine ⟨_, _, rfl, rfl, ⟨by decide, by decide⟩, _, _, rfl, rfl, (by show 2 ≤ sizeLine; decide), fun t ht => ?_⟩
    obtain ⟨m, hm⟩ := Int.eq_ofNat_of_zero_le (show 0 ≤ 1 + r / 2 by omega)
    rw [show ((fun i j => V.int (i + j)) (1 : Int) (r / 2) : V) = V.int ((m : Nat) : Int) from congrArg V.int hm]
    have s4 := same_new ht (.tup [V.str y, V.int (m : Nat)])
    have hD4 := s4 _ _ (o3 _ _ h2 Db)
    obtain ⟨y2, hb2⟩ := B2.some
    have keep : ∀ a zs, H2 a = some (.tup zs) → (upd (upd H3 t (.tup [V.str y, V.int (m : Nat)])) D (.lst (ps.map V.ref ++ [.ref t]))) a = some (.tup zs) := fun a zs z => by
      rw [upd_ne (ne_of z h2 (by intro e; cases e))]
      exact s4 _ _ (o3 _ _ z (ne_of z hb2 (by intro e; cases e)))
    have tD : t ≠ D := (ne_of_none (o3 _ _ h2 Db) ht).symm
    refine ⟨_, hD4, by rw [List.length_map]; omega, ps ++ [t], kvs ++ [(.inr y, .int (m : Nat))], by rw [upd_same, List.map_append]; rfl, PairsAt.snoc (by rw [upd_ne tD, upd_same]; rfl) (A2.mono keep), by simp [kl], ?_, ((B3.same s4).upd Db _).more (by omega), ?_, ?_⟩
    · intro kv hkv
      rcases List.mem_append.mp hkv with hkv | hkv
      · exact ke kv hkv
      · obtain rfl : kv = (.inr y, .int (m : Nat)) := by simpa using hkv
        exact ⟨y, m, rfl, rfl, wo y (List.mem_of_getElem? hy), by omega, by omega⟩
    · rw [upd_ne Dp.symm]
      exact s4 _ _ (o3 _ _ hp2 pb)
    · intro a o z nb
      rw [upd_ne (ne_of_none z hD)]
      exact s4 _ _ (o3 _ _ (o2 _ _ z nb) nb)
  · rintro H2 ⟨ps, kvs, h2, A2, kl, ke, B2, hp2, o2⟩
    rw [List.length_map] at kl B2
    obtain ⟨g1, g2, g3, g4⟩ := merge_ct (more := kvs) (acc := []) (by simp) ke
    refine ⟨D, ps, kvs, rfl, .inl (.inl h2), A2.paired, fun d hd => ?_⟩
    have s3 := same_new hd (.dK (mergeK [] kvs))
    have hd0 : H d = none := but_none o2 B2 hd
    exact q d _ _ hd0 upd_same ⟨g1, g4 (by omega), by simp at g2; omega⟩ ((B2.same s3).more (by omega)) (o2.trans (but_of s3))
end
end Rp

set_option maxHeartbeats 8000000
/-! The law's rules. -/
namespace Rp
open PySem PySem.Spec PyProof.Rows L2 TL StX
theorem AtAt.box {H H' : Hp} {b : Addr} {v : V} {a : At} {j : Nat} (T : AtAt H v a) (o : But b H H') (B : BoxAt H b j) : AtAt H' v a := by
  obtain ⟨ys, hb⟩ := B.some
  exact atAt_mono (fun a xs z => o _ _ z (ne_of z hb (by intro e; cases e))) T
theorem AtsAt.box {H H' : Hp} {b : Addr} {xs : List V} {as : List At} {j : Nat} (T : AtsAt H xs as) (o : But b H H') (B : BoxAt H b j) : AtsAt H' xs as := by
  obtain ⟨ys, hb⟩ := B.some
  exact T.mono fun a xs z => o _ _ z (ne_of z hb (by intro e; cases e))
def spLRule : Sp := fun vs H Q _ => ∃ (b d : Addr) (kvs : KVs) (j : Nat), vs = [.ref b, .ref d] ∧ BoxAt H b j ∧ H d = some (.dK kvs) ∧ CtOk kvs ∧ j + 20 ≤ 1000000 ∧
  ∀ (v : V) (r : Ru) (H' : Hp), RuAt H' v r → RuOk r → BoxAt H' b (j + 20) → But b H H' → Q v H'
def teArg : TE := tCall spTake [] E0 (tCons (tVar 0) (tCons (tVar 5) tNil))
section
variable {P : Program} {w : World} {K : PySem.W.Frag} {mg : Str → Option Value} {base : Heap}
abbrev NRu : List Str := ["_law_box_here", "_law_counts_here", "_law_words_here", "_law_word", "_law_head_here", "_law_count", "_law_body", "_law_turn", "_law_other", "_law_place"]
theorem scRule : FnScope NRu ["_law_box_here", "_law_counts_here"] (defScope sRule) := ⟨rfl, rfl, rfl, by decide +kernel, rfl, by decide +kernel, by decide +kernel⟩
theorem ok_rule {f fT fP fH : Addr} {fd fdT dP dH : FuncData} (F : Fun K "_law_rule" "_law_rule" sRule f fd) (FT : Fun K "_law_take" "_law_take" sTake fT fdT) (bT : Binds K fdT ["_law_box_here", "_law_top"] []) (mT : mg "_law_take" = some (.ref fT))
    (GP : FnOk P w K mg base CX0 2 fP dP ["_law_box_here", "_law_things"] spPick) (kP : PySem.W.keepIn K (.ref fP) = true) (bP : Binds K dP ["_law_box_here", "_law_things"] []) (mP : mg "_law_pick" = some (.ref fP))
    (GH : FnOk P w K mg base CX0 2 fH dH ["_law_box_here", "_law_word", "_law_many"] spLHead) (kH : PySem.W.keepIn K (.ref fH) = true) (bH : Binds K dH ["_law_box_here", "_law_word", "_law_many"] []) (mH : mg "_law_head" = some (.ref fH))
    (mSorted : mg "sorted" = none) (mRange : mg "range" = none) (mTuple : mg "tuple" = none) : FnOk P w K mg base CX0 3 f fd ["_law_box_here", "_law_counts_here"] spLRule := by
  have GT : FnOk P w K mg base CX0 1 fT fdT ["_law_box_here", "_law_top"] spTake := ok_take FT
  refine F.ok scRule (fun vs H Q E h => ?_) (fun cdv A outer s H vs Q E hr h => ?_)
  · obtain ⟨b, d, kvs, j, rfl, _⟩ := h
    rfl
  obtain ⟨b, d, kvs, j, rfl, B, hd, ct, hj, q⟩ := h
  have r1 : Room 1 _ := hr.mono (by decide)
  refine ⟨_, pss_cons (ps_set (i := 2) scRule.nd rfl (Or.inl rfl) (pe_callB (call_sortedD rfl) (by rfl) mSorted (by decide +kernel) (pa_cons (pv 1) pa_nil)))
    (pss_cons (ps_set (i := 3) scRule.nd rfl (Or.inl rfl) (pe_call GP hr rfl mP kP bP .nil pass0 (pa_cons (pv 0) (pa_cons (pv 2) pa_nil))))
    (pss_cons (ps_asg (pe_call GH hr rfl mH kH bH .nil pass0 (pa_cons (pv 0) (pa_cons (pv 3) (pa_cons (pe_dget (hu_of hr) (pv 1) (pv 3) (fun _ _ => rfl)) pa_nil)))) (pg_tup (by rfl) (pgs_cons (pg_name (i := 4) scRule.nd rfl (Or.inl rfl)) (pgs_cons (pg_name (i := 5) scRule.nd rfl (Or.inr rfl)) pgs_nil))))
    (pss_cons (ps_set (i := 6) scRule.nd rfl (Or.inl rfl) (pe_lst pa_nil))
    (pss_cons (ps_for PassesOwn.never rfl (pi_range1 (by rfl) mRange (pa_cons (pe_ifExp (pt_cmpR op_gt (pv 5) pe_int (nomark _)) (pe_call GT r1 rfl mT FT.kp bT .nil pass0 (pa_cons (pv 0) (pa_cons pe_int pa_nil))) pe_int) pa_nil)) (pg_name (i := 7) scRule.nd rfl (Or.inl rfl))
      (pss_cons (ps_set (i := 8) scRule.nd rfl (Or.inl rfl) (pe_call GP hr rfl mP kP bP .nil pass0 (pa_cons (pv 0) (pa_cons (pv 2) pa_nil))))
      (pss_one (ps_expr (pe_bm PySem.F.plainAttrs_list PySem.F.slot_list_append PySem.F.type_list_append mt_append (pv 6) (pa_cons (pe_op op_catT (pe_tup (pa_cons (pv 8) pa_nil)) (pe_callTy call_tuple_of (by rfl) mTuple (by decide +kernel) (pa_cons
        (pe_lc (own := [("_law_place", 9)]) (g := gName 9) (tt := tYes) (te := teArg) rfl scRule.nd (pi_range1 (by rfl) mRange (pa_cons (pe_dget (hu_of hr) (pv 1) (pv 8) (fun _ _ => rfl)) pa_nil)) (blkOk_by (N := NRu) (sc := defScope sRule) (by decide +kernel))
          (fun _ _ _ _ _ => pg_name (i := 9) scRule.nd rfl (Or.inl rfl)) (fun _ _ _ _ _ => pts_nil) (fun _ _ _ _ _ => pe_call GT r1 (by rfl) mT FT.kp bT .nil pass0 (pa_cons (pv 0) (pa_cons (pv 5) pa_nil)))) pa_nil))) pa_nil))))))
    (pss_one (ps_ret (pe_tup (pa_cons (pv 4) (pa_cons (pe_callTy call_tuple_of (by rfl) mTuple (by decide +kernel) (pa_cons (pv 6) pa_nil)) pa_nil))))))))), ?_⟩
  have big : (10000 : Nat) ≤ sizeLine := by decide
  obtain ⟨ks, ke, kl, ko⟩ := ct_keys ct.each
  have c1 := ct.one
  have c7 := ct.few
  obtain ⟨yb, hb⟩ := B.some
  have db : d ≠ b := ne_of hd hb (by intro z; cases z)
  refine ⟨_, rfl, d, kvs, ks, rfl, .inl hd, ke, by omega, fun ys p perm srt hp => ?_⟩
  have s1 := same_new hp (.lst (ys.map V.str))
  have yl : ys.length = ks.length := perm.length_eq
  have pb : p ≠ b := (ne_of_none hb hp).symm
  have pd : p ≠ d := (ne_of_none hd hp).symm
  refine ⟨_, rfl, _, rfl, b, p, ys.map V.str, _, rfl, B.same s1, by omega, upd_same, pb, by rw [List.length_map]; omega, by rw [List.length_map]; omega, fun v H2 hv B2 o2 => ?_⟩
  obtain ⟨x, hx, rfl⟩ := List.mem_map.mp hv
  obtain ⟨xo, m, hm, m1, m2⟩ := ko x (perm.mem_iff.mp hx)
  have hd2 := o2 _ _ (s1 _ _ hd) db
  have hp2 := o2 _ _ (upd_same : (upd H p (.lst (ys.map V.str))) p = _) pb
  refine ⟨_, rfl, _, rfl, _, rfl, _, rfl, d, _, rfl, by rw [← hm]; exact DGet.k (k := Sum.inr x) hd2, b, _, m, x, rfl, B2, by omega, xo, m1, m2, fun t vh a H3 ht3 A3 an al ao B3 o3 => ?_⟩
  refine ⟨t, _, rfl, .inl (.inl ht3), rfl, _, _, rfl, _, _, rfl, rfl, ?_⟩
  refine ⟨(by show 0 ≤ sizeLine; decide), fun l hl => ?_⟩
  have s4 := same_new hl (.lst ([] : List V))
  have lb : l ≠ b := by
    obtain ⟨y3, hb3⟩ := B3.some
    exact (ne_of_none hb3 hl).symm
  have o03 : But b H H3 := (but_of s1).trans (o2.trans o3)
  have hl0 : H l = none := but_none o03 B3 hl
  have hd4 := s4 _ _ (o3 _ _ hd2 db)
  have hp4 := s4 _ _ (o3 _ _ hp2 pb)
  have A4 := atAt_same A3 s4
  have B4 := B3.same s4
  have o04 : But b H _ := o03.trans (but_of s4)
  have hl4 : (upd H3 l (.lst ([] : List V))) l = some (.lst []) := upd_same
  have dl : d ≠ l := ne_of_none (o03 _ _ hd db) hl
  have pl : p ≠ l := ne_of_none (o3 _ _ hp2 pb) hl
  generalize upd H3 l (.lst ([] : List V)) = H4 at hd4 hp4 A4 B4 o04 hl4 ⊢
  have rng := ao.rng
  have c4 : (hvars a.ts).length ≤ 4 := by
    have each : ∀ ts : List Tm, (∀ u ∈ ts, u.plain) → (hvars ts).length ≤ 2 * ts.length := by
      intro ts
      induction ts with
      | nil => intro _; simp [hvars]
      | cons u ts ih =>
        intro h
        have h1 := plain_few (h u (by simp))
        have h2 := ih fun v hv => h v (by simp [hv])
        have e : hvars (u :: ts) = u.nums ++ hvars ts := by simp [hvars]
        rw [e, List.length_append, List.length_cons]
        omega
    have := each a.ts ao.pl
    have := ao.two
    omega
  have fin : ∀ (xs : List V) (as : List At) (H5 : Hp), H5 l = some (.lst xs) → AtsAt H5 xs as → as.length ≤ 3 → (∀ a' ∈ as, AtOk 50 a' ∧ ∀ u ∈ a'.ts, ∃ i ∈ hvars a.ts, u = Tm.v i) → BoxAt H5 b (j + 20) → (∀ q o, H4 q = some o → q ≠ b → q ≠ l → H5 q = some o) →
      ∀ g, H5 g = none → ∀ c, (upd H5 g (.tup xs)) c = none → Q (.ref c) (upd (upd H5 g (.tup xs)) c (.tup [vh, .ref g])) := by
    intro xs as H5 h5l A5 a3 ak B5 o5 g hg c hc
    have s6 := same_new hg (.tup xs)
    have s7 := same_new hc (.tup [vh, V.ref g])
    have A5h : AtAt H5 vh a := by
      obtain ⟨y4, hb4⟩ := B4.some
      exact atAt_mono (fun q zs z => o5 _ _ z (ne_of z hb4 (by intro e; cases e)) (ne_of z hl4 (by intro e; cases e))) A4
    refine q (.ref c) ⟨a, as⟩ _ ⟨c, g, vh, xs, rfl, upd_same, atAt_same A5h (s6.trans s7), s7 _ _ upd_same, (A5.same s6).same s7⟩ ⟨ao, a3, fun a' h => (ak a' h).1, fun a' h => (ak a' h).2⟩ ((B5.same s6).same s7) ?_
    intro r o z nb
    refine s7 _ _ (s6 _ _ (o5 _ _ (o04 _ _ z nb) nb ?_))
    intro e
    subst e
    rw [hl0] at z; cases z
  by_cases hc : 0 < (hvars a.ts).length
  · refine ⟨_, rfl, _, _, rfl, rfl, true, congrArg V.bl (decide_eq_true (by omega)), iteT ?_⟩
    refine ⟨_, rfl, b, _, _, rfl, B4, by omega, by decide, by decide, fun n H5 n0 n4 B5 o5 => ?_⟩
    obtain ⟨k, rfl⟩ := Int.eq_ofNat_of_zero_le n0
    have k3 : k ≤ 3 := by omega
    refine ⟨_, rfl, by omega, by omega, for_range (lo := 0) (n := ((k : Nat) : Int).toNat) (fun i σ H6 => ∃ (xs : List V) (as : List At) (x7 x8 : Option V), σ = [some (.ref b), some (.ref d), some (.ref p), some (.str x), some vh, some (.int ((hvars a.ts).length : Nat)), some (.ref l), x7, x8, none] ∧
        H6 l = some (.lst xs) ∧ AtsAt H6 xs as ∧ as.length = i ∧ (∀ a' ∈ as, AtOk 50 a' ∧ ∀ u ∈ a'.ts, ∃ i ∈ hvars a.ts, u = Tm.v i) ∧ BoxAt H6 b (j + 4 + 3 * i) ∧ (∀ q o, H4 q = some o → q ≠ b → q ≠ l → H6 q = some o))
      ⟨[], [], none, none, rfl, o5 _ _ hl4 lb, trivial, rfl, by simp, B5.more (by omega), fun q o z nb _ => o5 _ _ z nb⟩ ?_ ?_⟩
    · rintro i σ H6 hi ⟨xs, as, x7, x8, rfl, h6l, A6, al6, ak, B6, o6⟩
      have i3 : i < 3 := by omega
      have hp6 := o6 _ _ hp4 pb pl
      have hd6 := o6 _ _ hd4 db dl
      have xl := A6.len
      refine ⟨_, rfl, _, rfl, b, p, ys.map V.str, _, rfl, B6, by omega, hp6, pb, by rw [List.length_map]; omega, by rw [List.length_map]; omega, fun v2 H7 hv2 B7 o7 => ?_⟩
      obtain ⟨x2, hx2, rfl⟩ := List.mem_map.mp hv2
      obtain ⟨xo2, m', hm', m1', m2'⟩ := ko x2 (perm.mem_iff.mp hx2)
      have h7l := o7 _ _ h6l lb
      have hd7 := o7 _ _ hd6 db
      refine ⟨_, rfl, .inl ⟨rfl, _, .inl (.inl h7l)⟩, _, rfl, (by show 1 ≤ sizeLine; decide), fun t1 ht1 => ?_⟩
      have s8 := same_new ht1 (.tup [V.str x2])
      have hd8 := s8 _ _ hd7
      obtain ⟨y7, hb7⟩ := (B7.same s8).some
      refine ⟨_, rfl, _, rfl, d, _, rfl, by rw [← hm']; exact DGet.k (k := Sum.inr x2) hd8, _, rfl, by omega, by omega, fun D hD => lc_range (lo := 0) (fun r H9 => ∃ is : List Int, H9 D = some (.lst (is.map V.int)) ∧ is.length = r ∧ (∀ i ∈ is, i ∈ hvars a.ts) ∧ BoxAt H9 b (j + 4 + 3 * i + 1 + r) ∧ But b (upd H7 t1 (.tup [V.str x2])) H9)
        ⟨[], upd_same, rfl, by simp, ((B7.same s8).same (same_new hD _)).more (by omega), but_of (same_new hD _)⟩ ?_ ?_⟩
      · rintro r H9 hr' ⟨is, h9, il, ik, B9, o9⟩
        have Db : D ≠ b := (ne_of_none hb7 hD).symm
        refine ⟨rfl, ?_⟩
        unfold teArg
        refine ⟨_, rfl, _, rfl, b, _, _, rfl, B9, by omega, by omega, by omega, fun z H10 z0 z1 B10 o10 => ?_⟩
        refine ⟨is.map V.int, o10 _ _ h9 Db, by rw [List.length_map]; omega, is ++ [z], by rw [upd_same, List.map_append]; rfl, by simp [il], ?_, (B10.upd Db _).more (by omega), ?_⟩
        · intro y hy
          rcases List.mem_append.mp hy with hy | hy
          · exact ik y hy
          · obtain rfl : y = z := by simpa using hy
            rw [rng]
            exact List.mem_map.mpr ⟨y.toNat, List.mem_range.mpr (by omega), by show ((y.toNat : Nat) : Int) = y; omega⟩
        · intro y o w nb
          rw [upd_ne (ne_of_none w hD)]
          exact o10 _ _ (o9 _ _ w nb) nb
      · rintro H9 ⟨is, h9, il, ik, B9, o9⟩
        have il2 : is.length = m' := by rw [il]; omega
        refine ⟨D, is.map V.int, rfl, .inl ⟨.inl (.inl h9), fun g hg => ?_⟩⟩
        have s10 := same_new hg (.tup (is.map V.int))
        obtain ⟨y9, hb9⟩ := B9.some
        have t1b : t1 ≠ b := by
          obtain ⟨y7, hb7'⟩ := B7.some
          exact (ne_of_none hb7' ht1).symm
        have ht9 := o9 _ _ (upd_same : (upd H7 t1 (.tup [V.str x2])) t1 = _) t1b
        refine ⟨t1, g, [V.str x2], is.map V.int, rfl, rfl, .inl (.inl (s10 _ _ ht9)), .inl (.inl upd_same), by simp, by simp; omega, fun e => ?_, fun _ t2 ht2 => ?_⟩
        · rw [List.map_eq_nil_iff] at e
          rw [e] at il2; simp at il2; omega
        have s11 := same_new ht2 (.tup ([V.str x2] ++ is.map V.int))
        have keep : ∀ q o, H7 q = some o → q ≠ b → (upd (upd H9 g (.tup (is.map V.int))) t2 (.tup ([V.str x2] ++ is.map V.int))) q = some o := fun q o z nb => s11 _ _ (s10 _ _ (o9 _ _ (s8 _ _ z) nb))
        have B11 : BoxAt (upd (upd H9 g (.tup (is.map V.int))) t2 (.tup ([V.str x2] ++ is.map V.int))) b (j + 4 + 3 * i + 1 + m') := by
          exact ((B9.same s10).same s11).more (by omega)
        have h11l := keep _ _ h7l lb
        have t2h : (upd (upd H9 g (.tup (is.map V.int))) t2 (.tup ([V.str x2] ++ is.map V.int))) t2 = some (.tup ([V.str x2] ++ is.map V.int)) := upd_same
        generalize upd (upd H9 g (.tup (is.map V.int))) t2 (.tup ([V.str x2] ++ is.map V.int)) = H11 at keep B11 h11l t2h ⊢
        refine ⟨l, _, _, rfl, rfl, h11l, by omega, ?_⟩
        have t2l : t2 ≠ l := ne_of t2h h11l (by intro z; cases z)
        obtain ⟨y6, hb6⟩ := B6.some
        have tup : ∀ q zs, H6 q = some (.tup zs) → (upd H11 l (.lst (xs ++ [.ref t2]))) q = some (.tup zs) := fun q zs z => by
          rw [upd_ne (ne_of z h6l (by intro e; cases e))]
          have nb := ne_of z hb6 (by intro e; cases e)
          exact keep _ _ (o7 _ _ z nb) nb
        have AtN : AtAt (upd H11 l (.lst (xs ++ [.ref t2]))) (.ref t2) ⟨x2, is.map Tm.v⟩ := by
          refine ⟨t2, is.map V.int, rfl, by rw [upd_ne t2l]; exact t2h, ?_⟩
          have each : ∀ zs : List Int, AllAt (upd H11 l (.lst (xs ++ [.ref t2]))) (zs.map V.int) (zs.map Tm.v) := by
            intro zs
            induction zs with
            | nil => trivial
            | cons z zs ih => exact ⟨.v z, ih⟩
          exact each is
        refine ⟨xs ++ [.ref t2], as ++ [⟨x2, is.map Tm.v⟩], _, _, rfl, upd_same, (A6.mono tup).append ⟨AtN, trivial⟩, by simp [al6], ?_, (B11.upd lb _).more (by omega), ?_⟩
        · intro a' ha'
          rcases List.mem_append.mp ha' with ha' | ha'
          · exact ak a' ha'
          · obtain rfl : a' = ⟨x2, is.map Tm.v⟩ := by simpa using ha'
            refine ⟨{ nm := xo2, one := by rw [List.length_map]; omega, two := by rw [List.length_map]; omega, sm := fun u hu => ?_ }, fun u hu => ?_⟩
            · obtain ⟨y, hy, rfl⟩ := List.mem_map.mp hu
              have hy2 := ik y hy
              rw [rng] at hy2
              obtain ⟨w, hw, rfl⟩ := List.mem_map.mp hy2
              rw [List.mem_range] at hw
              refine ⟨fun n hn => ?_, by show 1 ≤ 50; omega⟩
              have hn : n = ((w : Nat) : Int) := by simpa [Tm.nums] using hn
              omega
            · obtain ⟨y, hy, rfl⟩ := List.mem_map.mp hu
              exact ⟨y, ik y hy, rfl⟩
        · intro q o z nb nl
          rw [upd_ne nl]
          exact keep _ _ (o7 _ _ (o6 _ _ z nb nl) nb) nb
    · rintro σ H6 ⟨xs, as, x7, x8, rfl, h6l, A6, al6, ak, B6, o6⟩
      refine ⟨_, rfl, _, rfl, l, _, rfl, .inl ⟨.inl (.inl h6l), fun g hg => ⟨(by show 2 ≤ sizeLine; decide), fun c hc => ?_⟩⟩⟩
      exact fin xs as H6 h6l A6 (by omega) ak (B6.more (by omega)) o6 g hg c hc
  · refine ⟨_, rfl, _, _, rfl, rfl, false, congrArg V.bl (decide_eq_false (by omega)), iteF ?_⟩
    refine ⟨_, rfl, by decide, by decide, for_range (lo := 0) (n := (0 : Int).toNat) (fun i σ H6 => σ = [some (.ref b), some (.ref d), some (.ref p), some (.str x), some vh, some (.int ((hvars a.ts).length : Nat)), some (.ref l), none, none, none] ∧ H6 = H4) ⟨rfl, rfl⟩ (fun i σ H6 hi _ => absurd hi (by show ¬ i < 0; omega)) ?_⟩
    rintro σ H6 ⟨rfl, rfl⟩
    refine ⟨_, rfl, _, rfl, l, _, rfl, .inl ⟨.inl (.inl hl4), fun g hg => ⟨(by show 2 ≤ sizeLine; decide), fun c hc => ?_⟩⟩⟩
    exact fin [] [] _ hl4 trivial (by decide) (by simp) (B4.more (by omega)) (fun _ _ z _ _ => z) g hg c hc
end
end Rp

set_option maxHeartbeats 8000000
/-! What a dict of words comes to know when told a rule; the word that clashes. -/
namespace Rp
open PySem PySem.Spec PyProof.Rows L2 TL StX
def ctV (a : At) : V := .int ((a.ts.length : Nat) : Int)
def clash : KVs → List At → Option Str
  | _, [] => none
  | kvs, a :: r => match valV kvs (.inr a.nm) with
    | some v => if v = ctV a then clash kvs r else some a.nm
    | none => clash (putK kvs (.inr a.nm) (ctV a)) r
/-- what is known behind the atoms (where nothing clashes) -/
def knows (kvs : KVs) (as : List At) : KVs := as.foldl (fun k a => putK k (.inr a.nm) (ctV a)) kvs
structure Kd (kvs : KVs) : Prop where
  nd : (kvs.map (·.1)).Nodup
  nm : ∀ kv ∈ kvs, ∃ (x : Str) (m : Nat), kv = (.inr x, .int (m : Nat))
theorem Kd.nil : Kd [] := ⟨List.nodup_nil, by simp⟩
theorem valV_mem {kvs : KVs} {k : L2.Key} {v : V} (h : valV kvs k = some v) : (k, v) ∈ kvs := by
  unfold valV at h
  cases e : kvs.find? (fun kv => decide (kv.1 = k)) with
  | none => rw [e] at h; cases h
  | some p =>
    rw [e] at h
    obtain rfl := Option.some.inj h
    have h1 := List.mem_of_find?_eq_some e
    have h2 : p.1 = k := of_decide_eq_true (List.find?_some (p := fun kv : L2.Key × V => decide (kv.1 = k)) e)
    rw [← h2]; exact h1
theorem Kd.val {kvs : KVs} (K : Kd kvs) {x : Str} {v : V} (h : valV kvs (.inr x) = some v) : ∃ m : Nat, v = .int (m : Nat) := by
  obtain ⟨y, m, e⟩ := K.nm _ (valV_mem h)
  exact ⟨m, congrArg (·.2) e⟩
theorem putK_new {kvs : KVs} {k : L2.Key} {v : V} (h : valV kvs k = none) : putK kvs k v = kvs ++ [(k, v)] := by
  unfold putK
  rw [valV_any, h]
  rfl
theorem putK_old {kvs : KVs} {k : L2.Key} {v : V} (nd : (kvs.map (·.1)).Nodup) (h : valV kvs k = some v) : putK kvs k v = kvs := by
  unfold putK
  rw [valV_any, h]
  show kvs.map (fun kv => if kv.1 = k then (kv.1, v) else kv) = kvs
  have hm := valV_mem h
  clear h
  have : ∀ kv ∈ kvs, (if kv.1 = k then (kv.1, v) else kv) = kv := by
    intro kv hkv
    by_cases e : kv.1 = k
    · rw [if_pos e]
      obtain ⟨k1, v1⟩ := kv
      subst e
      have e2 : v1 = v := by
        induction kvs with
        | nil => simp at hm
        | cons p r ih =>
          rw [List.map_cons, List.nodup_cons] at nd
          rcases List.mem_cons.mp hkv with h1 | h1 <;> rcases List.mem_cons.mp hm with h2 | h2
          · rw [← h2] at h1; exact congrArg (·.2) h1
          · exact absurd (List.mem_map.mpr ⟨_, h2, by rw [← h1]⟩) nd.1
          · exact absurd (List.mem_map.mpr ⟨_, h1, by rw [← h2]⟩) nd.1
          · exact ih nd.2 h1 h2
      rw [e2]
    · rw [if_neg e]
  exact (List.map_congr_left this).trans (List.map_id' kvs)
theorem Kd.put {kvs : KVs} (K : Kd kvs) {x : Str} {m : Nat} (h : valV kvs (.inr x) = none) : Kd (putK kvs (.inr x) (.int (m : Nat))) := by
  rw [putK_new h]
  refine ⟨?_, ?_⟩
  · rw [List.map_append, List.nodup_append]
    refine ⟨K.nd, by simp, fun a ha b hb => ?_⟩
    simp at hb
    subst hb
    rintro rfl
    obtain ⟨kv, hkv, e⟩ := List.mem_map.mp ha
    have : (kvs.any fun kv => decide (kv.1 = .inr x)) = true := List.any_eq_true.mpr ⟨kv, hkv, decide_eq_true e⟩
    rw [valV_any, h] at this
    cases this
  · intro kv hkv
    rcases List.mem_append.mp hkv with h1 | h1
    · exact K.nm kv h1
    · simp at h1
      exact ⟨x, m, h1⟩
/-- behind atoms that don't clash -/
theorem clash_step {kvs : KVs} {a : At} {r : List At} (K : Kd kvs) : (∃ m : Nat, valV kvs (.inr a.nm) = some (.int (m : Nat)) ∧ ((m = a.ts.length ∧ clash kvs (a :: r) = clash kvs r ∧ putK kvs (.inr a.nm) (ctV a) = kvs) ∨ (m ≠ a.ts.length ∧ clash kvs (a :: r) = some a.nm))) ∨
    (valV kvs (.inr a.nm) = none ∧ clash kvs (a :: r) = clash (putK kvs (.inr a.nm) (ctV a)) r ∧ Kd (putK kvs (.inr a.nm) (ctV a))) := by
  cases e : valV kvs (.inr a.nm) with
  | none => exact .inr ⟨rfl, by rw [clash, e], K.put e⟩
  | some v =>
    obtain ⟨m, rfl⟩ := K.val e
    refine .inl ⟨m, rfl, ?_⟩
    by_cases h : m = a.ts.length
    · subst h
      exact .inl ⟨rfl, by rw [clash, e]; exact if_pos rfl, putK_old K.nd e⟩
    · refine .inr ⟨h, ?_⟩
      rw [clash, e]
      refine if_neg fun z => h ?_
      unfold ctV at z
      have := V.int.inj z
      omega
theorem knows_ok : ∀ {as : List At} {kvs : KVs}, Kd kvs → clash kvs as = none → Kd (knows kvs as)
  | [], _, K, _ => K
  | a :: r, kvs, K, h => by
    show Kd (knows (putK kvs (.inr a.nm) (ctV a)) r)
    rcases clash_step (a := a) (r := r) K with ⟨m, e, ⟨_, c, p⟩ | ⟨_, c⟩⟩ | ⟨_, c, k2⟩
    · rw [p]; exact knows_ok K (c ▸ h)
    · rw [c] at h; cases h
    · exact knows_ok k2 (c ▸ h)
theorem knows_le : ∀ {as : List At} {kvs : KVs}, (knows kvs as).length ≤ kvs.length + as.length
  | [], _ => Nat.le_refl _
  | a :: r, kvs => by
    have h1 := knows_le (as := r) (kvs := putK kvs (.inr a.nm) (ctV a))
    have h2 := putK_le kvs (.inr a.nm) (ctV a)
    show (knows (putK kvs (.inr a.nm) (ctV a)) r).length ≤ _
    rw [List.length_cons]; omega
theorem cat1_ok {K : PySem.W.Frag} {t q0 : Addr} {vh : V} {xs : List V} {H2 : Hp} {Q : VK} (ht : H2 t = some (.tup [vh])) (hq : H2 q0 = some (.tup xs)) (xl : xs.length ≤ 100) (k : ∀ (g : Addr) (H3 : Hp), H3 g = some (.tup (vh :: xs)) → Same H2 H3 → Q (.ref g) H3) :
    rCatT K (.ref t) (.ref q0) H2 Q := by
  have big : (10000 : Nat) ≤ sizeLine := by decide
  refine ⟨t, q0, [vh], xs, rfl, rfl, .inl (.inl ht), .inl (.inl hq), by simp, by simp; omega, fun e => ?_, fun e g hg => k g _ upd_same (same_new hg _)⟩
  subst e
  exact k t H2 ht (fun _ _ z => z)
theorem at_first (x : V) (xs : List V) : atI (x :: xs) 0 = some x := by
  unfold atI ixN
  rw [if_pos (Int.le_refl 0), if_pos (by rw [List.length_cons]; omega)]
  rfl
def optV : Option Str → V
  | some x => .str x
  | none => .non
def spDue : Sp := fun vs H Q _ => ∃ (d : Addr) (v : V) (kvs : KVs) (r : Ru), vs = [.ref d, v] ∧ H d = some (.dK kvs) ∧ Kd kvs ∧ kvs.length ≤ 900 ∧ r.bd.length ≤ 9 ∧ RuAt H v r ∧ ∀ H', Same H H' → Q (optV (clash kvs (r.hd :: r.bd))) H'
def spToldOn : Sp := fun vs H Q _ => ∃ (d : Addr) (v : V) (kvs : KVs) (r : Ru), vs = [.ref d, v] ∧ H d = some (.dK kvs) ∧ kvs.length ≤ 900 ∧ r.bd.length ≤ 9 ∧ RuAt H v r ∧
  ∀ (p : Addr) (H' : Hp), H p = none → H' p = some (.dK (knows kvs (r.hd :: r.bd))) → Same H H' → Q (.ref p) H'
section
variable {P : Program} {w : World} {K : PySem.W.Frag} {mg : Str → Option Value} {base : Heap}
theorem scDueClash : FnScope ["_law_counts_here", "_law_rule_here", "_law_known", "_law_atom"] ["_law_counts_here", "_law_rule_here"] (defScope sDueClash) := ⟨rfl, rfl, rfl, by decide +kernel, rfl, by decide +kernel, by decide +kernel⟩
theorem ok_due {f : Addr} {fd : FuncData} (F : Fun K "_law_due_clash" "_law_due_clash" sDueClash f fd) (mDict : mg "dict" = none) (mLen : mg "len" = none) : FnOk P w K mg base CX0 1 f fd ["_law_counts_here", "_law_rule_here"] spDue := by
  refine F.ok scDueClash (fun vs H Q E h => ?_) (fun cdv A outer s H vs Q E hr h => ?_)
  · obtain ⟨d, v, kvs, r, rfl, _⟩ := h
    rfl
  obtain ⟨d, v, kvs, r, rfl, hd, kd, kl, rl, ⟨p, q0, vh, xs, rfl, hp, hA, hq, hB⟩, q⟩ := h
  refine ⟨_, pss_cons (ps_set (i := 2) scDueClash.nd rfl (Or.inl rfl) (pe_callTy call_dictD (by rfl) mDict (by decide +kernel) (pa_cons (pv 0) pa_nil)))
    (pss_cons (ps_for PassesOwn.never rfl (pi_tup (pe_op op_catT (pe_tup (pa_cons (pe_ix ix_tup (pv 1) pe_int (fun _ _ => rfl)) pa_nil)) (pe_ix ix_tup (pv 1) pe_int (fun _ _ => rfl)))) (pg_name (i := 3) scDueClash.nd rfl (Or.inl rfl))
      (pss_one (ps_if (pt_cmpR op_ne (pe_dsetd (pv 2) (pe_ix ix_tup (pv 3) pe_int (fun _ _ => rfl)) (pe_op op_sub (pe_callB call_len_seq (by rfl) mLen PySem.boot_len (pa_cons (pv 3) pa_nil)) pe_int) ⟨rfl, rfl, rfl, rfl⟩)
          (pe_op op_sub (pe_callB call_len_seq (by rfl) mLen PySem.boot_len (pa_cons (pv 3) pa_nil)) pe_int) (nomark _))
        (pss_one (ps_ret (pe_ix ix_tup (pv 3) pe_int (fun _ _ => rfl)))) pss_nil)))
    (pss_one (ps_ret pe_non))), ?_⟩
  have big : (10000 : Nat) ≤ sizeLine := by decide
  have xl := hB.len
  refine ⟨_, rfl, d, kvs, rfl, .inl hd, fun m hm => ?_⟩
  have s1 := same_new hm (.dK kvs)
  refine ⟨_, rfl, p, _, 0, vh, rfl, rfl, .inl (.inl (s1 _ _ hp)), rfl, ?_⟩
  refine ⟨(by show 1 ≤ sizeLine; decide), fun t ht => ?_⟩
  have s2 := same_new ht (.tup [vh])
  have s12 := s1.trans s2
  have ht2 : (upd (upd H m (.dK kvs)) t (.tup [vh])) t = some (.tup [vh]) := upd_same
  have hm2 := s2 _ _ (upd_same : (upd H m (.dK kvs)) m = some (.dK kvs))
  generalize upd (upd H m (.dK kvs)) t (.tup [vh]) = H2 at s2 s12 ht2 hm2 ⊢
  have hq2 := s12 _ _ hq
  refine ⟨_, rfl, p, _, 1, .ref q0, rfl, rfl, .inl (.inl (s12 _ _ hp)), rfl, ?_⟩
  refine cat1_ok ht2 hq2 (by omega) fun g H3 h3g s3 => ?_
  have s13 := s12.trans s3
  have hm3 := s3 _ _ hm2
  have A3 : AtsAt H3 (vh :: xs) (r.hd :: r.bd) := ⟨atAt_same hA s13, hB.same s13⟩
  have gm : g ≠ m := ne_of h3g hm3 (by intro z; cases z)
  have old : ∀ a o, H a = some o → a ≠ m := fun a o z => ne_of_none z hm
  generalize hvs : vh :: xs = vs at h3g A3
  generalize has : r.hd :: r.bd = as at A3 q
  have al : as.length ≤ 10 := by rw [← has, List.length_cons]; omega
  have vl := A3.len
  refine ⟨g, rfl, ⟨_, .inl (.inl h3g)⟩, for_tup (K := K) (a := g) (xs := vs) (fun i σ H4 => ∃ (x3 : Option V) (kv : KVs), σ = [some (.ref d), some (.ref p), some (.ref m), x3] ∧ H4 m = some (.dK kv) ∧ Kd kv ∧ clash kvs as = clash kv (as.drop i) ∧ kv.length ≤ kvs.length + i ∧ But m H3 H4)
    ⟨none, kvs, rfl, hm3, kd, rfl, Nat.le_refl _, But.refl _ _⟩ (fun i σ H4 _ ⟨_, _, _, _, _, _, _, o⟩ => .inl (.inl (o _ _ h3g gm))) ?_ ?_⟩
  · rintro i x σ H4 hi ⟨x3, kv, rfl, hm4, kd4, ec, kvl, o4⟩
    obtain ⟨a, ha, T⟩ := A3.get hi
    have il : i < as.length := (List.getElem?_eq_some_iff.mp ha).1
    have dr : as.drop i = a :: as.drop (i + 1) := by rw [List.drop_eq_getElem_cons il]; congr 1; exact (List.getElem?_eq_some_iff.mp ha).2
    rw [dr] at ec
    obtain ⟨pa, xa, rfl, hpa, TA⟩ := T
    have hpa4 := o4 _ _ hpa (ne_of hpa hm3 (by intro z; cases z))
    have xal := TA.len
    have lenV : V.int ((((V.str a.nm :: xa).length : Nat) : Int) - 1) = ctV a := by
      unfold ctV
      rw [List.length_cons, xal]
      congr 1
      omega
    refine ⟨_, rfl, m, rfl, .inl ⟨_, .inl hm4⟩, _, rfl, pa, _, 0, .str a.nm, rfl, rfl, .inl (.inl hpa4), at_first _ _, ?_⟩
    refine ⟨_, rfl, pa, _, rfl, .inr (.inl (.inl hpa4)), _, _, rfl, rfl, kv, .inr a.nm, hm4, rfl, by omega, fun v hv => ?_, fun hv => ?_⟩
    · refine ⟨_, rfl, pa, _, rfl, .inr (.inl (.inl hpa4)), _, _, rfl, rfl, ?_⟩
      rcases clash_step (a := a) (r := as.drop (i + 1)) kd4 with ⟨n, e, ⟨en, c, pk⟩ | ⟨en, c⟩⟩ | ⟨e, _, _⟩
      · rw [e] at hv
        obtain rfl := Option.some.inj hv
        subst en
        refine ⟨rfl, false, ?_, iteF ?_⟩
        · show V.bl (!decide (ctV a = V.int ((((V.str a.nm :: xa).length : Nat) : Int) - 1))) = V.bl false
          rw [lenV, decide_eq_true rfl]; rfl
        exact ⟨_, kv, rfl, hm4, kd4, by rw [ec, c], by omega, o4⟩
      · rw [e] at hv
        obtain rfl := Option.some.inj hv
        have ne : ¬ V.int ((n : Nat) : Int) = ctV a := fun z => en (by unfold ctV at z; have := V.int.inj z; omega)
        refine ⟨rfl, true, ?_, iteT ?_⟩
        · show V.bl (!decide (V.int ((n : Nat) : Int) = V.int ((((V.str a.nm :: xa).length : Nat) : Int) - 1))) = V.bl true
          rw [lenV, decide_eq_false ne]; rfl
        refine ⟨_, rfl, pa, _, 0, .str a.nm, rfl, rfl, .inl (.inl hpa4), at_first _ _, ?_⟩
        have := q H4 (fun b o z => o4 _ _ (s13 _ _ z) (old _ _ z))
        rw [ec, c] at this
        exact this
      · rw [e] at hv; cases hv
    · refine ⟨_, rfl, pa, _, rfl, .inr (.inl (.inl (by rw [upd_ne (ne_of hpa4 hm4 (by intro z; cases z))]; exact hpa4))), _, _, rfl, rfl, ?_⟩
      rcases clash_step (a := a) (r := as.drop (i + 1)) kd4 with ⟨n, e, _⟩ | ⟨_, c, kd5⟩
      · rw [e] at hv; cases hv
      refine ⟨rfl, false, ?_, iteF ?_⟩
      · show V.bl (!decide (V.int ((((V.str a.nm :: xa).length : Nat) : Int) - 1) = V.int ((((V.str a.nm :: xa).length : Nat) : Int) - 1))) = V.bl false
        rw [decide_eq_true rfl]; rfl
      have pl := putK_le kv (.inr a.nm) (ctV a)
      refine ⟨_, putK kv (.inr a.nm) (ctV a), rfl, by rw [← lenV]; exact upd_same, kd5, by rw [ec, c], by omega, fun b o z nb => ?_⟩
      rw [upd_ne nb]
      exact o4 _ _ z nb
  · rintro σ H4 ⟨x3, kv, rfl, hm4, kd4, ec, kvl, o4⟩
    rw [vl, List.drop_length] at ec
    have := q H4 (fun b o z => o4 _ _ (s13 _ _ z) (old _ _ z))
    rw [ec] at this
    exact this
theorem scToldOn : FnScope ["_law_counts_here", "_law_rule_here", "_law_known", "_law_atom"] ["_law_counts_here", "_law_rule_here"] (defScope sToldOn) := ⟨rfl, rfl, rfl, by decide +kernel, rfl, by decide +kernel, by decide +kernel⟩
theorem ok_toldon {f : Addr} {fd : FuncData} (F : Fun K "_law_told_on" "_law_told_on" sToldOn f fd) (mDict : mg "dict" = none) (mLen : mg "len" = none) : FnOk P w K mg base CX0 1 f fd ["_law_counts_here", "_law_rule_here"] spToldOn := by
  refine F.ok scToldOn (fun vs H Q E h => ?_) (fun cdv A outer s H vs Q E hr h => ?_)
  · obtain ⟨d, v, kvs, r, rfl, _⟩ := h
    rfl
  obtain ⟨d, v, kvs, r, rfl, hd, kl, rl, ⟨p, q0, vh, xs, rfl, hp, hA, hq, hB⟩, q⟩ := h
  refine ⟨_, pss_cons (ps_set (i := 2) scToldOn.nd rfl (Or.inl rfl) (pe_callTy call_dictD (by rfl) mDict (by decide +kernel) (pa_cons (pv 0) pa_nil)))
    (pss_cons (ps_for PassesOwn.never rfl (pi_tup (pe_op op_catT (pe_tup (pa_cons (pe_ix ix_tup (pv 1) pe_int (fun _ _ => rfl)) pa_nil)) (pe_ix ix_tup (pv 1) pe_int (fun _ _ => rfl)))) (pg_name (i := 3) scToldOn.nd rfl (Or.inl rfl))
      (pss_one (ps_dput (hu_of hr) (pv 2) (pe_ix ix_tup (pv 3) pe_int (fun _ _ => rfl)) (pe_op op_sub (pe_callB call_len_seq (by rfl) mLen PySem.boot_len (pa_cons (pv 3) pa_nil)) pe_int) rfl)))
    (pss_one (ps_ret (pv 2)))), ?_⟩
  have big : (10000 : Nat) ≤ sizeLine := by decide
  have xl := hB.len
  refine ⟨_, rfl, d, kvs, rfl, .inl hd, fun m hm => ?_⟩
  have s1 := same_new hm (.dK kvs)
  refine ⟨_, rfl, p, _, 0, vh, rfl, rfl, .inl (.inl (s1 _ _ hp)), rfl, ?_⟩
  refine ⟨(by show 1 ≤ sizeLine; decide), fun t ht => ?_⟩
  have s2 := same_new ht (.tup [vh])
  have s12 := s1.trans s2
  have ht2 : (upd (upd H m (.dK kvs)) t (.tup [vh])) t = some (.tup [vh]) := upd_same
  have hm2 := s2 _ _ (upd_same : (upd H m (.dK kvs)) m = some (.dK kvs))
  generalize upd (upd H m (.dK kvs)) t (.tup [vh]) = H2 at s2 s12 ht2 hm2 ⊢
  have hq2 := s12 _ _ hq
  refine ⟨_, rfl, p, _, 1, .ref q0, rfl, rfl, .inl (.inl (s12 _ _ hp)), rfl, ?_⟩
  refine cat1_ok ht2 hq2 (by omega) fun g H3 h3g s3 => ?_
  have s13 := s12.trans s3
  have hm3 := s3 _ _ hm2
  have A3 : AtsAt H3 (vh :: xs) (r.hd :: r.bd) := ⟨atAt_same hA s13, hB.same s13⟩
  have gm : g ≠ m := ne_of h3g hm3 (by intro z; cases z)
  have old : ∀ a o, H a = some o → a ≠ m := fun a o z => ne_of_none z hm
  generalize hvs : vh :: xs = vs at h3g A3
  generalize has : r.hd :: r.bd = as at A3 q
  have al : as.length ≤ 10 := by rw [← has, List.length_cons]; omega
  have vl := A3.len
  refine ⟨g, rfl, ⟨_, .inl (.inl h3g)⟩, for_tup (K := K) (a := g) (xs := vs) (fun i σ H4 => ∃ (x3 : Option V) (kv : KVs), σ = [some (.ref d), some (.ref p), some (.ref m), x3] ∧ H4 m = some (.dK kv) ∧ knows kvs as = knows kv (as.drop i) ∧ kv.length ≤ kvs.length + i ∧ But m H3 H4)
    ⟨none, kvs, rfl, hm3, rfl, Nat.le_refl _, But.refl _ _⟩ (fun i σ H4 _ ⟨_, _, _, _, _, _, o⟩ => .inl (.inl (o _ _ h3g gm))) ?_ ?_⟩
  · rintro i x σ H4 hi ⟨x3, kv, rfl, hm4, ec, kvl, o4⟩
    obtain ⟨a, ha, T⟩ := A3.get hi
    have il : i < as.length := (List.getElem?_eq_some_iff.mp ha).1
    have dr : as.drop i = a :: as.drop (i + 1) := by rw [List.drop_eq_getElem_cons il]; congr 1; exact (List.getElem?_eq_some_iff.mp ha).2
    rw [dr] at ec
    obtain ⟨pa, xa, rfl, hpa, TA⟩ := T
    have hpa4 := o4 _ _ hpa (ne_of hpa hm3 (by intro z; cases z))
    have xal := TA.len
    have lenV : V.int ((((V.str a.nm :: xa).length : Nat) : Int) - 1) = ctV a := by
      unfold ctV
      rw [List.length_cons, xal]
      congr 1
      omega
    refine ⟨_, rfl, ?_⟩
    refine ⟨pa, _, rfl, .inr (.inl (.inl hpa4)), _, _, rfl, rfl, _, rfl, _, rfl, pa, _, 0, .str a.nm, rfl, rfl, .inl (.inl hpa4), at_first _ _, m, _, rfl, DPut.k (k := Sum.inr a.nm) hm4 (by omega), ?_⟩
    have pl := putK_le kv (.inr a.nm) (ctV a)
    refine ⟨_, putK kv (.inr a.nm) (ctV a), rfl, by rw [← lenV]; exact upd_same, ec, by omega, fun b o z nb => ?_⟩
    rw [upd_ne nb]
    exact o4 _ _ z nb
  · rintro σ H4 ⟨x3, kv, rfl, hm4, ec, kvl, o4⟩
    rw [vl, List.drop_length] at ec
    refine ⟨_, rfl, q m H4 hm ?_ (fun b o z => o4 _ _ (s13 _ _ z) (old _ _ z))⟩
    rw [ec]
    exact hm4
end
end Rp

/-! A caught exception that outlives its clause: `except X as e: kept = e`; behind the clause it is an object like others. -/
namespace Rp
open PySem PySem.Spec PyProof.Rows L2
/-- an exception object, raised or not: its class, its own dict -/
def exg (a : Addr) (cls : Value) (d : Option Addr) : HO := .ext fun h => ∃ (oe : Obj) (vs : Array Value), h.get? a = some oe ∧ Zc cls d oe ∧ oe.data = .fields vs
theorem exg_ok {P : Program} {w : World} {H : Hp} {h : Heap} {a : Addr} {cls : Value} {d : Option Addr} {oe : Obj} {vs : Array Value} (e : h.get? a = some oe) (z : Zc cls d oe) (q : oe.data = .fields vs) : ObjOk P w H h a (exg a cls d) :=
  ⟨⟨oe, vs, e, z, q⟩, ⟨oe, e⟩, fun _ _ ⟨o, v, r⟩ k => ⟨o, v, k o r.1, r.2⟩⟩
section
variable {X : Cx} {pins : List (Addr × Obj)} {σ : L2.St} {H : Hp} {s : Shared}
/-- an object that is there already comes to be tracked -/
theorem track {a : Addr} {o : HO} (I : Inv X pins σ H s) (hn : H a = none) (old : ∀ b u, X.s_0.heap.get? b = some u → b ∉ X.ex → b ≠ a) (nl : X.env.locals ≠ a) (nc : ∀ v, ¬ s.heap.IsCell a v) (np : ∀ p ∈ X.pn ++ pins, p.1 ≠ a)
    (new : ObjOk X.prog X.w (upd H a o) s.heap a o) : Inv X pins σ (upd H a o) s where
  ok := I.ok
  os := I.os
  bare := I.bare
  base :=
    { keep := I.base.keep
      slot := I.base.slot
      free := fun b u e n hx => by rw [upd_ne (old b u e hx)]; exact I.base.free b u e n hx
      there := I.base.there
      tups := fun b xs e => by
        have q := I.base.tups b xs e
        rw [upd_ne (ne_of_none q hn)]; exact q
      frzs := fun b u v e => by
        have q := I.base.frzs b u v e
        rw [upd_ne (ne_of_none q hn)]; exact q
      tbls := fun b ps e => by
        obtain ⟨m, q⟩ := I.base.tbls b ps e
        exact ⟨m, by rw [upd_ne (ne_of_none q hn)]; exact q⟩ }
  loc := I.loc
  cell := I.cell
  free := by rw [upd_ne nl]; exact I.free
  freeC := fun x c e => by
    obtain ⟨v, z⟩ := I.cell x c e
    rw [upd_ne (show c ≠ a from fun q => nc v (by rw [← q]; exact z))]
    exact I.freeC x c e
  pin := fun p hp => by
    obtain ⟨e, n, r⟩ := I.pin p hp
    exact ⟨e, by rw [upd_ne (np p hp)]; exact n, r⟩
  hok := I.hok.laidN (fun _ _ q => q) hn new
  len := I.len
end
/-- what the clause 'except x as n' that keeps its exception wishes of an exception of the body: it is the clause's own; behind the suite the exception is tracked -/
def wKeep (K : PySem.W.Frag) (c : Value) (i : Nat) (ts : Addr → Value → Option Addr → TS) (D : Ends) : WX := fun cls d σ H =>
  PySem.W.exmOne K cls c = some true ∧ ∀ a, H a = none →
    ts a cls d { nx := fun σ' H' => H' a = none → D.nx (σ'.set i none) (upd H' a (exg a cls d)), rt := fun _ _ => False, bk := fun _ _ => False, ct := fun _ _ => False } (σ.set i (some (.ref a))) H
section
variable {X : Cx} {x n : Str} {c : Value} {i : Nat} {body suite : List Stmt} {b₀ : Stmt} {npos pos pos' : Pos} {tb : WX → TS} {ts : Addr → Value → Option Addr → TS}
theorem ps_try_keep (hs : X.stack = X.env :: X.outer) (hf : X.env.frame = some X.env.locals) (hN : X.N.Nodup) (hi : X.N[i]? = some n) (hln : X.env.kindOf n = some .local) (hc : Names X x c)
    (hb : ∀ (W : WX) (pn : List (Addr × Obj)) (xe : Value → Shared → Prop), Takes (X.tr pn xe) W → PassesOwn (model X.prog X.w) X.A X.env xe → PSs (X.tr pn xe) body (tb W))
    (hsu : ∀ (a : Addr) (oe : Obj) (cls : Value) (d : Option Addr) (pn : List (Addr × Obj)), Zc cls d oe → (∃ vs, oe.data = .fields vs) → PSs (X.suite a ((a, oe) :: pn)) (b₀ :: suite) (ts a cls d)) :
    PS X (.Try body [.ExceptHandler (some (.Name x npos)) (some n) (b₀ :: suite) pos'] [] [] pos) (fun D σ H => tb (wKeep X.K c i ts D) D σ H) := by
  refine ⟨fun pins s σ H D I h => ?_⟩
  have ok := I.ok
  have hfr : X.A.frames = some (X.env :: X.outer) := by rw [ok.frames, hs]
  refine wpAny_Try_except (wpAny_mono ((hb (wKeep X.K c i ts D) (X.pn ++ pins) (fun e s₁ => wpAny (model X.prog X.w) X.A (noteFrame e X.env) (fun _ s₂ => wpAny (model X.prog X.w) X.A (setFlight e none) (fun _ s₃ =>
    wpAny (model X.prog X.w) X.A (handleBy e X.env [.ExceptHandler (some (.Name x npos)) (some n) (b₀ :: suite) pos']) (SP X pins D) X.xe s₃) X.xe s₂) X.xe s₁) (fun u s' xx => ?_) PassesOwn.looking).run [] s σ H D (I.toTry _) h) (fun f s1 hsp => ?_) (fun e s1 he => he))
  · obtain ⟨a, B, sI, pins', σ', H', cls, d, rfl, J', nb, up, sky, na, os, ag, hb1, wish⟩ := xx
    have J : Inv X pins σ' H' sI := J'.ofTry ok
    show wpAny (model X.prog X.w) X.A (noteFrame (.ref a) X.env) _ _ _
    refine Sky.land Zc.steady hfr hf (by rw [← hs]; exact sky) fun h3 fl3 up3 => ?_
    -- the exception was made behind the entry: no object of the ground, no frame
    have apart : ∀ {h : Heap}, HandSPX.FlyingZ B (X.env :: X.outer) a (Zc cls d) h → a ∉ frs (X.env :: X.outer) := fun {h} fl hm => by
      obtain ⟨oe, vs, he, _, hd⟩ := fl.there
      obtain ⟨_, o', e', hnf⟩ := fl.2.2.1.mem hm
      rw [he] at e'; cases e'
      exact hnf _ hd
    have nfr := apart fl3
    have nL : a ≠ X.env.locals := fun z => nfr (List.mem_filterMap.mpr ⟨X.env, List.mem_cons_self, by rw [hf, z]⟩)
    have nF : a ∉ X.fs := fun hm => by
      obtain ⟨e, he, q⟩ := List.mem_filterMap.mp hm
      exact nfr (List.mem_filterMap.mpr ⟨e, List.mem_cons_of_mem _ he, q⟩)
    have noI : ∀ b o, sI.heap.get? b = some o → b ≠ a := fun b o e z => by
      subst z
      have := nb b o e (by rw [hs]; exact nfr)
      rw [fl3.2.1] at this; cases this
    have old : ∀ b u, X.s_0.heap.get? b = some u → b ∉ X.ex → b ≠ a := fun b u e hx => by
      obtain ⟨o', e'⟩ := J.base.there b u e hx
      exact noI b o' e'
    have np : ∀ p ∈ X.pn ++ pins, p.1 ≠ a := fun p hp => noI _ _ (J.pin p hp).1
    obtain ⟨oe3, vs3, he3, hz3, hd3⟩ := fl3.there
    have J3 : Inv X pins σ' H' { s' with heap := h3 } := J.landed nb fl3.1 (up.trans up3) os ag
    have S3 := J3.suite he3 hd3 na nL nF
    refine wpAny_handleBy_cons (codeAny_handlers_test ?_) (by intro q; cases q)
    have LT : PySem.W.Looks (model X.prog X.w) h3 (typeOf (.ref a)) cls := fun A Q E s k q => wpAny_typeOf_ref (k _ _ he3) (by rw [hz3.1]; exact q)
    have LM := PySem.W.exm_one (M := model X.prog X.w) J3.kIn LT hb1
    have test : ∀ {Q : Value → Shared → Prop} {E : Value → Shared → Prop}, Q c { s' with heap := h3 } → wpAny (model X.prog X.w) (X.A.mark (some (.ref a))) (eval (.Name x npos) X.env) Q E { s' with heap := h3 } := fun {Q E} q => by
      obtain ⟨hg, hdbg, hm | ⟨hm, hv, hnn⟩⟩ := hc
      · exact ld_glob (X := X.suite a ((a, oe3) :: (X.pn ++ pins))) S3 hg hm q hdbg
      · exact ld_blt (X := X.suite a ((a, oe3) :: (X.pn ++ pins))) S3 hg hm hv q hnn hdbg
    refine test (LM.here ?_)
    refine codeAny_handlers_suite_as (HandSPX.lands_againZ fl3 fun h4 fl4 up4 => ?_)
    obtain ⟨oe4, vs4, he4, hz4, hd4⟩ := fl4.there
    have J4 : Inv X pins σ' H' { s' with heap := h4 } := J.landed nb fl4.1 ((up.trans up3).trans up4) os ag
    have S4 := J4.suite he4 hd4 na nL nF
    refine store_ok (X := X.suite a ((a, oe4) :: (X.pn ++ pins))) (v := .ref a) S4 hN hi (.inl hln) rfl (fun s5 S5 => ?_) (.inr hln)
    refine wpAny_mono ((hsu a oe4 cls d (X.pn ++ pins) hz4 ⟨_, hd4⟩).run [] s5 _ H' _ S5 (wish a na)) (fun f s6 hsp => ?_) (fun _ _ z => False.elim z)
    cases f with
    | next =>
      obtain ⟨σ6, H6, S6, q6⟩ := hsp
      obtain ⟨g6, n6, _⟩ := S6.pin (a, oe4) (List.mem_append_left _ List.mem_cons_self)
      have T6 := track (o := exg a cls d) (S6.unsuite ok) n6 old (Ne.symm nL) (fun v ⟨o, ho, hd⟩ => by rw [g6] at ho; cases ho; rw [hd4] at hd; cases hd) np (exg_ok g6 hz4 hd4)
      exact gone_ok T6 hN hi hln fun s7 J7 => ⟨_, _, J7, q6 n6⟩
    | brk =>
      obtain ⟨_, _, _, q6⟩ := hsp
      exact q6.elim
    | cont =>
      obtain ⟨_, _, _, q6⟩ := hsp
      exact q6.elim
    | ret u =>
      obtain ⟨_, _, _, _, _, q6⟩ := hsp
      exact q6.elim
  · cases f with
    | next =>
      obtain ⟨σ', H', J', q⟩ := hsp
      exact wpAny_execs_nil ⟨σ', H', J'.ofTry ok, q⟩
    | brk =>
      obtain ⟨σ', H', J', q⟩ := hsp
      exact ⟨σ', H', J'.ofTry ok, q⟩
    | cont =>
      obtain ⟨σ', H', J', q⟩ := hsp
      exact ⟨σ', H', J'.ofTry ok, q⟩
    | ret u =>
      obtain ⟨v, σ', H', J', r, q⟩ := hsp
      exact ⟨v, σ', H', J'.ofTry ok, r, q⟩
end
end Rp

/-! A kept exception: asked for its kind, read. -/
namespace Rp
open PySem PySem.Spec PyProof.Rows L2
/-- a kept exception: its class, what it's told with -/
def KpAt (H : Hp) (v : V) (C : Addr) (y : V) : Prop := ∃ (a d : Addr) (fs : List (Str × V)), v = .ref a ∧ H a = some (exg a (.ref C) (some d)) ∧ H d = some (.xd fs) ∧ fs.lookup ("what" : Str) = some y
theorem KpAt.same {H H' : Hp} {v : V} {C : Addr} {y : V} (h : KpAt H v C y) (s : ∀ b u, H b = some u → H' b = some u) : KpAt H' v C y := by
  obtain ⟨a, d, fs, e, h1, h2, h3⟩ := h
  exact ⟨a, d, fs, e, s _ _ h1, s _ _ h2, h3⟩
section
variable {X : Cx} {p pos : Pos} {e : Expr} {es : List Expr} {ta : TA} {te : TE}
theorem kp_inst {pins : List (Addr × Obj)} {σ : L2.St} {H : Hp} {s : Shared} {v : V} {C : Addr} {y : V} (I : Inv X pins σ H s) (h : KpAt H v C y) {u : Value} (r : RelV v u) :
    ∃ (a : Addr) (oe od : Obj), u = .ref a ∧ PySem.W.InstAt s.heap a oe C (some od) ∧ ∃ uy, PySem.W.lookIn "what" od = some (some uy) ∧ RelV y uy := by
  obtain ⟨a, d, fs, rfl, h1, h2, h3⟩ := h
  obtain rfl : u = Value.ref a := r
  obtain ⟨⟨oe, vs, ha, hz, hd⟩, _⟩ := I.hok a _ h1
  have hx : ObjOk X.prog X.w H s.heap d (.xd fs) := I.hok d _ h2
  obtain ⟨mA, hns, hr⟩ := hx
  obtain ⟨od, ho, hl⟩ := lookIn_ns hns
  obtain ⟨uy, hu, ru⟩ := RelO.some_of (v := y) (o := mA "what") (by rw [← h3]; exact hr "what")
  exact ⟨a, oe, od, rfl, ⟨ha, hz.1, by unfold PySem.W.notCls; rw [hd] <;> rfl, by rw [hz.2]; exact ho⟩, uy, by rw [hl, hu], ru⟩
/-- isinstance(e, c), isinstance(e, (c, ..)) -/
def rIsK (K : PySem.W.Frag) : List V → Hp → VK → Prop := fun xs H Q => ∃ (v c : V) (C : Addr) (y : V) (cv : Value) (b : Bool), xs = [v, c] ∧ KpAt H v C y ∧ ExcC K C ∧ ClsV c cv ∧ PySem.W.kitOne K (.ref C) cv = some b ∧ Q (.bl b) H
theorem call_isK : CallR X (.builtin "isinstance") (rIsK X.K) := by
  intro pins s σ H xs us Q I r h
  obtain ⟨v, c, C, y, cv, b, rfl, hv, E, k, e, q⟩ := h
  obtain ⟨u1, u2, rfl, r1, r2⟩ := vals2 r
  have e2 := k.eq r2
  subst e2
  obtain ⟨a, oe, od, rfl, J, _⟩ := kp_inst I hv r1
  have some_ : (PySem.W.clsIn X.K C).isSome = true := by
    obtain ⟨cd, hc, _⟩ := PySem.W.any_some E.hd
    rw [hc]; rfl
  exact PySem.W.kia_one (PySem.W.kitx_exc some_ E.hg E.hk E.hs E.ha E.hn E.ht E.hm) I.kIn J e (fun z => nomatch z) fun tk => ⟨.bl b, H, I.tok tk, rfl, q⟩
def rIsKT (K : PySem.W.Frag) : List V → Hp → VK → Prop := fun xs H Q => ∃ (v : V) (tp : Addr) (cs : List V) (C : Addr) (y : V) (us : List Value) (b : Bool), xs = [v, .ref tp] ∧ H tp = some (.tup cs) ∧ Paired ClsV cs us ∧ KpAt H v C y ∧ ExcC K C ∧ PySem.W.kitAny K (.ref C) us = some b ∧ Q (.bl b) H
theorem call_isKT : CallR X (.builtin "isinstance") (rIsKT X.K) := by
  intro pins s σ H xs us Q I r h
  obtain ⟨v, tp, cs, C, y, ws, b, rfl, hT, k, hv, E, e, q⟩ := h
  obtain ⟨u1, u2, rfl, r1, r2⟩ := vals2 r
  cases (show u2 = Value.ref tp from r2)
  obtain ⟨a, oe, od, rfl, J, _⟩ := kp_inst I hv r1
  obtain ⟨_, its, rv, o, h1, h2, n, h3⟩ := (show ObjOk X.prog X.w H s.heap tp (.tup cs) from I.hok tp _ hT)
  have e3 := ClsV.all k rv
  subst e3
  have some_ : (PySem.W.clsIn X.K C).isSome = true := by
    obtain ⟨cd, hc, _⟩ := PySem.W.any_some E.hd
    rw [hc]; rfl
  obtain ⟨oc, od', dt, sl⟩ := o
  simp only at h2 h3
  subst h2 h3
  exact PySem.W.kia_tup (PySem.W.kitx_exc some_ E.hg E.hk E.hs E.ha E.hn E.ht E.hm) I.kIn J h1 e (fun z => nomatch z) fun tk => ⟨.bl b, H, I.tok tk, rfl, q⟩
/-- e.what -/
def tKpWhat (K : PySem.W.Frag) (te : TE) : TE := fun σ H Q => te σ H fun v H1 => ∃ (C : Addr) (y : V), KpAt H1 v C y ∧ XfC K C ∧ PySem.W.findIn K (.ref C) "what" = some none ∧ Q y H1
theorem pe_kpwhat (he : PE X e te) (hb : attributeBase e "what" X.env (eval e X.env) = eval e X.env := by rfl) : PE X (.Attribute e "what" pos) (tKpWhat X.K te) := by
  refine ⟨fun pins s σ H Q I h => ?_⟩
  refine attr_of hb (thn (he.run pins s σ H _ I h) fun u s1 hh => ?_)
  obtain ⟨v, H1, I1, rx, C, y, hv, T, hno, q⟩ := hh
  obtain ⟨a, oe, od, rfl, J, uy, hl, ru⟩ := kp_inst I1 hv rx
  exact HandSPX.exc_get I1.kIn J T.ga T.gg T.exC (PySem.W.findObj_own T.hdC hno rfl hl) (handed_of ru) ⟨y, H1, I1.tok _, ru, q⟩
end
end Rp

set_option maxHeartbeats 8000000
/-! The errors' __init__; a Definitions object; what its dict comes to be with a rule. -/
namespace Rp
open PySem PySem.Spec PyProof.Rows L2 TL StX
abbrev sErrI : Stmt := inClass sErr 0
abbrev sDInit : Stmt := inClass sDefs 0
abbrev sTell : Stmt := inClass sDefs 1
abbrev sTermsW : Stmt := inClass sDefs 2
abbrev sRules : Stmt := inClass sDefs 3
abbrev sWordsM : Stmt := inClass sDefs 4
abbrev sTermsM : Stmt := inClass sDefs 5
abbrev sAllR : Stmt := inClass sDefs 6
abbrev sEqM : Stmt := inClass sDefs 9
def spXInit (K : PySem.W.Frag) : Sp := fun vs H Q _ => ∃ (a C : Addr) (y : V), vs = [.ref a, y] ∧ OexC K C ∧ PySem.W.findIn K (.ref C) "what" = some none ∧ H a = some (exo a C none) ∧
  ∀ d H', H d = none → d ≠ a → H' = upd (upd H d (exd d [("what", y)])) a (exo a C (some d)) → Q .non H'
/-- an error's class -/
structure ErrK (K : PySem.W.Frag) (fI C : Addr) : Prop where
  oex : OexC K C
  ini : PySem.W.findIn K (.ref C) "__init__" = some (some (.ref fI))
  ty : PySem.W.typeIn K (.ref fI) = some (.type "function")
  wh : PySem.W.findIn K (.ref C) "what" = some none
/-- the class of Definitions -/
structure DfK (K : PySem.W.Frag) (C : Addr) : Prop where
  cls : Cls K C
  nT : NoAttr K C "_told"
  nM : NoAttr K C "_terms"
def dfF (lt dt : Addr) : List (Str × V) := [("_told", .ref lt), ("_terms", .ref dt)]
theorem dfF_told {lt dt : Addr} : (dfF lt dt).lookup ("_told" : Str) = some (.ref lt) := by
  unfold dfF
  rw [List.lookup_cons]
  simp
theorem dfF_terms {lt dt : Addr} : (dfF lt dt).lookup ("_terms" : Str) = some (.ref dt) := by
  unfold dfF
  rw [List.lookup_cons, show ((("_terms" : Str) == ("_told" : Str)) = false) by decide +kernel]
  simp
/-- a Definitions object: what it was told, what it knows -/
structure DfAt (C : Addr) (H : Hp) (p : Addr) (lt : Addr) (vs : List V) (kvs : KVs) : Prop where
  ex : ∃ (dx dt : Addr), H p = some (.ins C dx (dfF lt dt)) ∧ H lt = some (.lst vs) ∧ H dt = some (.dK kvs)
def spTermsW (C CC : Addr) : Sp := fun vs H Q E => ∃ (p lt : Addr) (us : List V) (kvs : KVs) (v : V) (r : Ru), vs = [.ref p, v] ∧ DfAt C H p lt us kvs ∧ Kd kvs ∧ kvs.length ≤ 900 ∧ r.bd.length ≤ 9 ∧ RuAt H v r ∧
  (clash kvs (r.hd :: r.bd) = none → ∀ (q : Addr) (H' : Hp), H q = none → H' q = some (.dK (knows kvs (r.hd :: r.bd))) → Same H H' → Q (.ref q) H') ∧
  (∀ x, clash kvs (r.hd :: r.bd) = some x → ∀ (d : Addr) (fs : List (Str × V)) (H' : Hp), H d = none → H' d = some (.xd fs) → fs.lookup ("what" : Str) = some (.str x) → Same H H' → E (.ref CC) (some d) H')
section
variable {P : Program} {w : World} {K : PySem.W.Frag} {mg : Str → Option Value} {base : Heap}
theorem scErrI : FnScope ["self", "what"] ["self", "what"] (defScope sErrI) := ⟨rfl, rfl, rfl, by decide +kernel, rfl, by decide +kernel, by decide +kernel⟩
theorem ok_xinit {f : Addr} {fd : FuncData} (F : Fun K "__init__" "RingError.__init__" sErrI f fd) (mV : mg "ValueError" = none) (vV : PySem.W.findCls K (.type "ValueError") (.type "type") "__init__" = some (.val (.builtin "ValueError.__init__"))) :
    FnOk P w K mg base CX0 1 f fd ["self", "what"] (spXInit K) := by
  refine F.ok scErrI (fun vs H Q E h => ?_) (fun cdv A outer s H vs Q E hr h => ?_)
  · obtain ⟨a, C, y, rfl, _⟩ := h
    rfl
  obtain ⟨a, C, y, rfl, T, hw, ha, fin⟩ := h
  refine ⟨_, pss_cons (ps_expr (pe_veinit (by rfl) mV vV (pa_cons (pv 0) (pa_cons (pv 1) pa_nil)))) (pss_one (ps_ost (pv 0) (pv 1))), ?_⟩
  refine ⟨_, rfl, _, rfl, a, C, [y], rfl, by simp, T, ha, ?_⟩
  exact ⟨_, rfl, _, rfl, a, C, rfl, T, hw, .inl ⟨ha, fun dx hdx ne => fin dx _ hdx ne rfl⟩⟩
theorem scTermsW : FnScope ["self", "rule", "head", "body", "terms", "atom", "many"] ["self", "rule"] (defScope sTermsW) := ⟨rfl, rfl, rfl, by decide +kernel, rfl, by decide +kernel, by decide +kernel⟩
theorem ok_termsw {f C CC fX : Addr} {fd dX : FuncData} (F : Fun K "_terms_with" "Definitions._terms_with" sTermsW f fd) (D : DfK K C) (EK : ErrK K fX CC) (GX : FnOk P w K mg base CX0 1 fX dX ["self", "what"] (spXInit K)) (bX : Binds K dX ["self", "what"] []) (mCC : mg "Clash" = some (.ref CC))
    (mDict : mg "dict" = none) (mLen : mg "len" = none) : FnOk P w K mg base (L2.CX P w) 3 f fd ["self", "rule"] (spTermsW C CC) := by
  refine F.okX scTermsW (fun vs H Q E h => ?_) (fun cdv A outer s H vs Q E hr h => ?_)
  · obtain ⟨p, lt, us, kvs, v, r, rfl, _⟩ := h
    rfl
  obtain ⟨p, lt, us, kvs, v, r, rfl, ⟨dx, dt, hp, hlt, hdt⟩, kd, kl, rl, ⟨p1, q0, vh, xs, rfl, hp1, hA, hq, hB⟩, qN, qE⟩ := h
  refine ⟨_, pss_cons (ps_asg (pv 1) (pg_tup (by rfl) (pgs_cons (pg_name (i := 2) scTermsW.nd rfl (Or.inl rfl)) (pgs_cons (pg_name (i := 3) scTermsW.nd rfl (Or.inl rfl)) pgs_nil))))
    (pss_cons (ps_set (i := 4) scTermsW.nd rfl (Or.inl rfl) (pe_callTy call_dictD (by rfl) mDict (by decide +kernel) (pa_cons (pe_fld (pv 0) rfl) pa_nil)))
    (pss_cons (ps_for (passes_of rfl) rfl (pi_tup (pe_tup (pa_cons (pv 2) (pa_star (pv 3) pa_nil)))) (pg_name (i := 5) scTermsW.nd rfl (Or.inl rfl))
      (pss_cons (ps_set (i := 6) scTermsW.nd rfl (Or.inl rfl) (pe_op op_sub (pe_callB call_len_seq (by rfl) mLen PySem.boot_len (pa_cons (pv 5) pa_nil)) pe_int))
      (pss_one (ps_if (pt_cmpR op_ne (pe_dsetd (pv 4) (pe_ix ix_tup (pv 5) pe_int (fun _ _ => rfl)) (pv 6) ⟨rfl, rfl, rfl, rfl⟩) (pv 6) (nomark _))
        (pss_one (ps_raise rfl (takes_of rfl rfl rfl rfl) (pmk_oex EK.oex EK.ini EK.ty GX hr bX .nil pass0 (by rfl) mCC (pa_cons (pe_ix ix_tup (pv 5) pe_int (fun _ _ => rfl)) pa_nil)))) pss_nil))))
    (pss_one (ps_ret (pv 4))))), ?_⟩
  have big : (10000 : Nat) ≤ sizeLine := by decide
  have xl := hB.len
  refine ⟨_, rfl, p1, _, rfl, .inl (.inl hp1), rfl, _, _, rfl, _, _, rfl, rfl, ?_⟩
  refine ⟨_, rfl, p, C, dx, _, _, rfl, hp, D.cls, D.nM, dfF_terms, dt, kvs, rfl, .inl hdt, fun m hm => ?_⟩
  have s1 := same_new hm (.dK kvs)
  have hm1 : (upd H m (.dK kvs)) m = some (.dK kvs) := upd_same
  generalize upd H m (.dK kvs) = H1 at s1 hm1 ⊢
  refine ⟨_, rfl, _, rfl, q0, xs, rfl, .inl (.inl (.inl (s1 _ _ hq))), (by rw [List.append_nil, List.length_cons]; omega), fun g hg => ?_⟩
  rw [List.append_nil]
  have s3 := same_new hg (.tup (vh :: xs))
  have h3g : (upd H1 g (.tup (vh :: xs))) g = some (.tup (vh :: xs)) := upd_same
  generalize upd H1 g (.tup (vh :: xs)) = H3 at s3 h3g ⊢
  have s13 := s1.trans s3
  have hm3 := s3 _ _ hm1
  have A3 : AtsAt H3 (vh :: xs) (r.hd :: r.bd) := ⟨atAt_same hA s13, hB.same s13⟩
  have gm : g ≠ m := ne_of h3g hm3 (by intro z; cases z)
  have old : ∀ a o, H a = some o → a ≠ m := fun a o z => ne_of_none z hm
  generalize hvs : vh :: xs = vs at h3g A3
  generalize has : r.hd :: r.bd = as at A3 qN qE
  have al : as.length ≤ 10 := by rw [← has, List.length_cons]; omega
  have vl := A3.len
  refine ⟨g, rfl, ⟨_, .inl (.inl h3g)⟩, for_tup (K := K) (a := g) (xs := vs) (fun i σ H4 => ∃ (x5 x6 : Option V) (kv : KVs), σ = [some (.ref p), some (.ref p1), some vh, some (.ref q0), some (.ref m), x5, x6] ∧ H4 m = some (.dK kv) ∧ Kd kv ∧ clash kvs as = clash kv (as.drop i) ∧ knows kvs as = knows kv (as.drop i) ∧ kv.length ≤ kvs.length + i ∧ But m H3 H4)
    ⟨none, none, kvs, rfl, hm3, kd, rfl, rfl, Nat.le_refl _, But.refl _ _⟩ (fun i σ H4 _ ⟨_, _, _, _, _, _, _, _, _, o⟩ => .inl (.inl (o _ _ h3g gm))) ?_ ?_⟩
  · rintro i x σ H4 hi ⟨x5, x6, kv, rfl, hm4, kd4, ec, ek, kvl, o4⟩
    obtain ⟨a, ha, T⟩ := A3.get hi
    have il : i < as.length := (List.getElem?_eq_some_iff.mp ha).1
    have dr : as.drop i = a :: as.drop (i + 1) := by rw [List.drop_eq_getElem_cons il]; congr 1; exact (List.getElem?_eq_some_iff.mp ha).2
    rw [dr] at ec ek
    obtain ⟨pa, xa, rfl, hpa, TA⟩ := T
    have hpa4 := o4 _ _ hpa (ne_of hpa hm3 (by intro z; cases z))
    have xal := TA.len
    have lenV : V.int ((((V.str a.nm :: xa).length : Nat) : Int) - 1) = ctV a := by
      unfold ctV
      rw [List.length_cons, xal]
      congr 1
      omega
    have sH4 : Same H H4 := fun b o z => o4 _ _ (s13 _ _ z) (old _ _ z)
    refine ⟨_, rfl, ?_⟩
    refine ⟨pa, _, rfl, .inr (.inl (.inl hpa4)), _, _, rfl, rfl, ?_⟩
    show gName 6 (V.int ((((V.str a.nm :: xa).length : Nat) : Int) - 1)) _ H4 _
    rw [lenV]
    refine ⟨_, rfl, m, rfl, .inl ⟨_, .inl hm4⟩, _, rfl, pa, _, 0, .str a.nm, rfl, rfl, .inl (.inl hpa4), at_first _ _, _, rfl, kv, .inr a.nm, hm4, rfl, by omega, fun v hv => ?_, fun hv => ?_⟩
    · refine ⟨_, rfl, ?_⟩
      rcases clash_step (a := a) (r := as.drop (i + 1)) kd4 with ⟨n, e, ⟨en, c, pk⟩ | ⟨en, c⟩⟩ | ⟨e, _, _⟩
      · rw [e] at hv
        obtain rfl := Option.some.inj hv
        subst en
        refine ⟨rfl, false, ?_, iteF ?_⟩
        · show V.bl (!decide (ctV a = ctV a)) = V.bl false
          rw [decide_eq_true rfl]; rfl
        refine ⟨_, _, kv, rfl, hm4, kd4, by rw [ec, c], ?_, by omega, o4⟩
        rw [ek]
        show knows (putK kv (.inr a.nm) (ctV a)) _ = _
        rw [pk]
      · rw [e] at hv
        obtain rfl := Option.some.inj hv
        have ne : ¬ V.int ((n : Nat) : Int) = ctV a := fun z => en (by unfold ctV at z; have := V.int.inj z; omega)
        refine ⟨rfl, true, ?_, iteT ?_⟩
        · show V.bl (!decide (V.int ((n : Nat) : Int) = ctV a)) = V.bl true
          rw [decide_eq_false ne]; rfl
        refine ⟨_, rfl, pa, _, 0, .str a.nm, rfl, rfl, .inl (.inl hpa4), at_first _ _, by simp, fun x hx => ?_⟩
        refine ⟨x, CC, .str a.nm, rfl, EK.oex, EK.wh, upd_same, fun dd H' hd ne e => ?_⟩
        have hd4 : H4 dd = none := by rw [upd_ne ne] at hd; exact hd
        have noH : ∀ b, H4 b = none → H b = none := fun b z => by
          cases q : H b with
          | none => rfl
          | some u => rw [sH4 _ _ q] at z; cases z
        subst e
        refine ⟨rfl, dd, [("what", .str a.nm)], upd_same, by rw [upd_ne ne]; exact upd_same, hd4, qE a.nm (by rw [ec, c]) dd [("what", .str a.nm)] _ (noH _ hd4) upd_same (by simp) fun b o z => ?_⟩
        have nb : b ≠ x := ne_of_none (sH4 _ _ z) hx
        have nd : b ≠ dd := ne_of_none (sH4 _ _ z) hd4
        rw [upd_ne nd, del_ne nb, upd_ne nb, upd_ne nd, upd_ne nb]
        exact sH4 _ _ z
      · rw [e] at hv; cases hv
    · refine ⟨_, rfl, ?_⟩
      rcases clash_step (a := a) (r := as.drop (i + 1)) kd4 with ⟨n, e, _⟩ | ⟨_, c, kd5⟩
      · rw [e] at hv; cases hv
      refine ⟨rfl, false, ?_, iteF ?_⟩
      · show V.bl (!decide (ctV a = ctV a)) = V.bl false
        rw [decide_eq_true rfl]; rfl
      have pl := putK_le kv (.inr a.nm) (ctV a)
      refine ⟨_, _, putK kv (.inr a.nm) (ctV a), rfl, upd_same, kd5, by rw [ec, c], ek, by omega, fun b o z nb => ?_⟩
      rw [upd_ne nb]
      exact o4 _ _ z nb
  · rintro σ H4 ⟨x5, x6, kv, rfl, hm4, kd4, ec, ek, kvl, o4⟩
    rw [vl, List.drop_length] at ec ek
    refine ⟨_, rfl, qN ec m H4 hm ?_ (fun b o z => o4 _ _ (s13 _ _ z) (old _ _ z))⟩
    rw [ek]
    exact hm4
end
end Rp

set_option maxHeartbeats 8000000
/-! What a Definitions object says of itself. -/
namespace Rp
open PySem PySem.Spec PyProof.Rows L2 TL StX
def RusAt (H : Hp) : List V → List Ru → Prop
  | [], [] => True
  | v :: us, r :: rs => RuAt H v r ∧ RusAt H us rs
  | _, _ => False
theorem RusAt.len {H : Hp} : ∀ {us : List V} {rs : List Ru}, RusAt H us rs → us.length = rs.length
  | [], [], _ => rfl
  | _ :: _, _ :: _, h => congrArg (· + 1) (RusAt.len h.2)
theorem RusAt.same {H H' : Hp} (s : Same H H') : ∀ {us : List V} {rs : List Ru}, RusAt H us rs → RusAt H' us rs
  | [], [], _ => trivial
  | _ :: _, _ :: _, h => ⟨h.1.same s, RusAt.same s h.2⟩
theorem RusAt.get {H : Hp} : ∀ {us : List V} {rs : List Ru} {i : Nat} {v : V}, RusAt H us rs → us[i]? = some v → ∃ r, rs[i]? = some r ∧ RuAt H v r
  | v :: us, r :: rs, 0, x, h, e => ⟨r, rfl, by have : v = x := by simpa using e
                                                subst this; exact h.1⟩
  | v :: us, r :: rs, i + 1, x, h, e => by simpa using RusAt.get h.2 (by simpa using e)
theorem RusAt.snoc {H : Hp} {v : V} {r : Ru} (hv : RuAt H v r) : ∀ {us : List V} {rs : List Ru}, RusAt H us rs → RusAt H (us ++ [v]) (rs ++ [r])
  | [], [], _ => ⟨hv, trivial⟩
  | _ :: _, _ :: _, h => ⟨h.1, RusAt.snoc hv h.2⟩
/-- the rules whose head has the word -/
def picked (x : Str) (us : List V) (rs : List Ru) : List V := (us.zip rs).filterMap fun q => if q.2.hd.nm = x then some q.1 else none
theorem picked_more {x : Str} {us : List V} {rs : List Ru} {i : Nat} {v : V} {r : Ru} (hu : us[i]? = some v) (hr : rs[i]? = some r) : picked x (us.take (i + 1)) (rs.take (i + 1)) = picked x (us.take i) (rs.take i) ++ (if r.hd.nm = x then [v] else []) := by
  have e1 : us.take (i + 1) = us.take i ++ [v] := by rw [List.take_add_one, hu]; rfl
  have e2 : rs.take (i + 1) = rs.take i ++ [r] := by rw [List.take_add_one, hr]; rfl
  have l1 := (List.getElem?_eq_some_iff.mp hu).1
  have l2 := (List.getElem?_eq_some_iff.mp hr).1
  unfold picked
  rw [e1, e2, List.zip_append (by rw [List.length_take, List.length_take]; omega), List.filterMap_append]
  congr 1
  by_cases h : r.hd.nm = x
  · simp [h]
  · simp [h]
theorem picked_le {x : Str} {us : List V} {rs : List Ru} : (picked x us rs).length ≤ us.length := by
  unfold picked
  have h1 := List.length_filterMap_le (fun q : V × Ru => if q.2.hd.nm = x then some q.1 else none) (us.zip rs)
  rw [List.length_zip] at h1
  omega
def spRulesM (C : Addr) : Sp := fun vs H Q _ => ∃ (p lt : Addr) (us : List V) (rs : List Ru) (kvs : KVs) (x : Str), vs = [.ref p, .str x] ∧ DfAt C H p lt us kvs ∧ RusAt H us rs ∧ us.length ≤ 900 ∧
  ∀ (q : Addr) (H' : Hp), H q = none → H' q = some (.lst (picked x us rs)) → Same H H' → Q (.ref q) H'
def spWordsM (C : Addr) : Sp := fun vs H Q _ => ∃ (p lt : Addr) (us : List V) (kvs : KVs) (ks : List Str), vs = [.ref p] ∧ DfAt C H p lt us kvs ∧ kvs.map (·.1) = ks.map Sum.inr ∧ ks.length < 64 ∧
  ∀ (ys : List Str) (q : Addr) (H' : Hp), ys.Perm ks → sortedS ys = true → H q = none → H' q = some (.lst (ys.map V.str)) → Same H H' → Q (.ref q) H'
def spTermsM (C : Addr) : Sp := fun vs H Q _ => ∃ (p lt : Addr) (us : List V) (kvs : KVs) (x : Str), vs = [.ref p, .str x] ∧ DfAt C H p lt us kvs ∧ Q ((valV kvs (.inr x)).getD .non) H
def spAllR (C : Addr) : Sp := fun vs H Q _ => ∃ (p lt : Addr) (us : List V) (kvs : KVs), vs = [.ref p] ∧ DfAt C H p lt us kvs ∧ us.length ≤ 900 ∧ ∀ (q : Addr) (H' : Hp), H q = none → H' q = some (.lst us) → Same H H' → Q (.ref q) H'
def ttRule (K : PySem.W.Frag) : TT := tTest (tOp rEq (tOp (rIxT K) (tOp (rIxT K) (tVar 2) (tC (.int 0))) (tC (.int 0))) (tVar 1))
section
variable {P : Program} {w : World} {K : PySem.W.Frag} {mg : Str → Option Value} {base : Heap}
theorem scRulesM : FnScope ["self", "word", "rule"] ["self", "word"] (defScope sRules) := ⟨rfl, rfl, rfl, by decide +kernel, rfl, by decide +kernel, by decide +kernel⟩
theorem ok_rulesm {f C : Addr} {fd : FuncData} (F : Fun K "rules" "Definitions.rules" sRules f fd) (D : DfK K C) : FnOk P w K mg base CX0 1 f fd ["self", "word"] (spRulesM C) := by
  refine F.ok scRulesM (fun vs H Q E h => ?_) (fun cdv A outer s H vs Q E hr h => ?_)
  · obtain ⟨p, lt, us, rs, kvs, x, rfl, _⟩ := h
    rfl
  obtain ⟨p, lt, us, rs, kvs, x, rfl, ⟨dx, dt, hp, hlt, hdt⟩, RS, ul, q⟩ := h
  refine ⟨_, pss_one (ps_ret (pe_lc (own := [("rule", 2)]) (g := gName 2) (tt := ttRule K) (te := tVar 2) rfl scRulesM.nd (pi_list (pe_fld (pv 0) rfl)) (blkOk_by (N := ["self", "word", "rule"]) (sc := defScope sRules) (by decide +kernel))
    (fun _ _ _ _ _ => pg_name (i := 2) scRulesM.nd rfl (Or.inl rfl)) (fun _ _ _ _ _ => pts_one (pt_cmpR op_eq (pe_ix ix_tup (pe_ix ix_tup (pv 2) pe_int (fun _ _ => rfl)) pe_int (fun _ _ => rfl)) (pv 1) (nomark _))) (fun _ _ _ _ _ => pv 2))), ?_⟩
  have big : (10000 : Nat) ≤ sizeLine := by decide
  have rl := RS.len
  refine ⟨_, rfl, p, C, dx, _, _, rfl, hp, D.cls, D.nT, dfF_told, lt, rfl, ⟨_, .inl (.inl hlt)⟩, fun R hR => ?_⟩
  have lR : lt ≠ R := ne_of_none hlt hR
  refine lc_list (K := K) (a := lt) (xs := us) (fun i H2 => H2 R = some (.lst (picked x (us.take i) (rs.take i))) ∧ Same H H2) ⟨by rw [upd_same]; rfl, same_new hR _⟩ (fun i H2 _ ⟨_, s⟩ => .inl (.inl (s _ _ hlt))) ?_ ?_
  · rintro i v H2 hi ⟨h2, s2⟩
    obtain ⟨r, hri, T⟩ := RS.get hi
    obtain ⟨p1, q1, vh, xs, rfl, hp1, ⟨pa, xa, rfl, hpa, TA⟩, hq1, hB⟩ := T.same s2
    refine ⟨rfl, ?_⟩
    unfold ttRule
    refine ⟨_, rfl, p1, _, 0, _, rfl, rfl, .inl (.inl hp1), rfl, pa, _, 0, .str r.hd.nm, rfl, rfl, .inl (.inl hpa), at_first _ _, _, rfl, rfl, decide (r.hd.nm = x), ?_, ?_⟩
    · exact congrArg V.bl (by by_cases h : r.hd.nm = x <;> simp [h])
    have il := (List.getElem?_eq_some_iff.mp hi).1
    have pm := picked_more (x := x) hi hri
    by_cases h : r.hd.nm = x
    · rw [decide_eq_true h]
      refine iteT ⟨_, rfl, _, h2, ?_, ?_, ?_⟩
      · have := picked_le (x := x) (us := us.take i) (rs := rs.take i)
        rw [List.length_take] at this
        omega
      · rw [upd_same, pm, if_pos h]
      · intro b o z
        rw [upd_ne (ne_of_none z hR)]
        exact s2 _ _ z
    · rw [decide_eq_false h]
      refine iteF ⟨?_, s2⟩
      rw [pm, if_neg h, List.append_nil]
      exact h2
  · rintro H2 ⟨h2, s2⟩
    rw [List.take_length, rl, List.take_length] at h2
    exact q R H2 hR h2 s2
theorem scWordsM : FnScope ["self"] ["self"] (defScope sWordsM) := ⟨rfl, rfl, rfl, by decide +kernel, rfl, by decide +kernel, by decide +kernel⟩
theorem ok_wordsm {f C : Addr} {fd : FuncData} (F : Fun K "words" "Definitions.words" sWordsM f fd) (D : DfK K C) (mSorted : mg "sorted" = none) : FnOk P w K mg base CX0 1 f fd ["self"] (spWordsM C) := by
  refine F.ok scWordsM (fun vs H Q E h => ?_) (fun cdv A outer s H vs Q E hr h => ?_)
  · obtain ⟨p, lt, us, kvs, ks, rfl, _⟩ := h
    rfl
  obtain ⟨p, lt, us, kvs, ks, rfl, ⟨dx, dt, hp, hlt, hdt⟩, ke, kl, q⟩ := h
  refine ⟨_, pss_one (ps_ret (pe_callB (call_sortedD rfl) (by rfl) mSorted (by decide +kernel) (pa_cons (pe_fld (pv 0) rfl) pa_nil))), ?_⟩
  exact ⟨_, rfl, p, C, dx, _, _, rfl, hp, D.cls, D.nM, dfF_terms, dt, kvs, ks, rfl, .inl hdt, ke, kl, fun ys g perm srt hg => q ys g _ perm srt hg upd_same (same_new hg _)⟩
theorem scTermsM : FnScope ["self", "word"] ["self", "word"] (defScope sTermsM) := ⟨rfl, rfl, rfl, by decide +kernel, rfl, by decide +kernel, by decide +kernel⟩
theorem ok_termsm {f C : Addr} {fd : FuncData} (F : Fun K "terms" "Definitions.terms" sTermsM f fd) (D : DfK K C) : FnOk P w K mg base CX0 1 f fd ["self", "word"] (spTermsM C) := by
  refine F.ok scTermsM (fun vs H Q E h => ?_) (fun cdv A outer s H vs Q E hr h => ?_)
  · obtain ⟨p, lt, us, kvs, x, rfl, _⟩ := h
    rfl
  obtain ⟨p, lt, us, kvs, x, rfl, ⟨dx, dt, hp, hlt, hdt⟩, q⟩ := h
  refine ⟨_, pss_one (ps_ret (pe_dget1 (hu_of hr) (pe_fld (pv 0) rfl) (pv 1) ⟨rfl, rfl, rfl, rfl⟩)), ?_⟩
  exact ⟨_, rfl, p, C, dx, _, _, rfl, hp, D.cls, D.nM, dfF_terms, dt, rfl, .inl ⟨kvs, .inl hdt⟩, _, rfl, _, DGet.k (k := Sum.inr x) hdt, q⟩
theorem scAllR : FnScope ["self"] ["self"] (defScope sAllR) := ⟨rfl, rfl, rfl, by decide +kernel, rfl, by decide +kernel, by decide +kernel⟩
theorem ok_allr {f C : Addr} {fd : FuncData} (F : Fun K "all_rules" "Definitions.all_rules" sAllR f fd) (D : DfK K C) (mList : mg "list" = none) : FnOk P w K mg base CX0 1 f fd ["self"] (spAllR C) := by
  refine F.ok scAllR (fun vs H Q E h => ?_) (fun cdv A outer s H vs Q E hr h => ?_)
  · obtain ⟨p, lt, us, kvs, rfl, _⟩ := h
    rfl
  obtain ⟨p, lt, us, kvs, rfl, ⟨dx, dt, hp, hlt, hdt⟩, ul, q⟩ := h
  refine ⟨_, pss_one (ps_ret (pe_callTy call_list_of (by rfl) mList (by decide +kernel) (pa_cons (pe_fld (pv 0) rfl) pa_nil))), ?_⟩
  exact ⟨_, rfl, p, C, dx, _, _, rfl, hp, D.cls, D.nT, dfF_told, lt, us, rfl, .inl (.inl (.inl hlt)), fun g hg => q g _ hg upd_same (same_new hg _)⟩
end
end Rp

set_option maxHeartbeats 8000000
/-! Telling a rule; making a Definitions object. -/
namespace Rp
open PySem PySem.Spec PyProof.Rows L2 TL StX
theorem dfF_no {lt dt : Addr} {m : Str} (h1 : (m == ("_told" : Str)) = false) (h2 : (m == ("_terms" : Str)) = false) : (dfF lt dt).lookup m = none := by
  unfold dfF
  rw [List.lookup_cons, h1, List.lookup_cons, h2]
  rfl
theorem dfF_put {lt dt q : Addr} : putF "_terms" (.ref q) (dfF lt dt) = dfF lt q := by
  have e1 : ¬ (("_told" : Str) = "_terms") := by decide +kernel
  show (if ("_told" : Str) = "_terms" then _ else (("_told" : Str), V.ref lt) :: (if ("_terms" : Str) = "_terms" then [(("_terms" : Str), V.ref q)] else _)) = _
  rw [if_neg e1, if_pos rfl]
  rfl
/-- but two objects, all stays -/
def But2 (p l : Addr) (H H' : Hp) : Prop := ∀ b o, H b = some o → b ≠ p → b ≠ l → H' b = some o
def spTell (C CC : Addr) : Sp := fun vs H Q E => ∃ (p lt : Addr) (us : List V) (rs : List Ru) (kvs : KVs) (v : V) (r : Ru), vs = [.ref p, v] ∧ DfAt C H p lt us kvs ∧ RusAt H us rs ∧ us.length ≤ 800 ∧ Kd kvs ∧ kvs.length ≤ 900 ∧ r.bd.length ≤ 9 ∧ RuAt H v r ∧
  (clash kvs (r.hd :: r.bd) = none → ∀ (H' : Hp), DfAt C H' p lt (us ++ [v]) (knows kvs (r.hd :: r.bd)) → But2 p lt H H' → Q (.int ((picked r.hd.nm us rs).length : Nat)) H') ∧
  (∀ x, clash kvs (r.hd :: r.bd) = some x → ∀ (d : Addr) (fs : List (Str × V)) (H' : Hp), H d = none → H' d = some (.xd fs) → fs.lookup ("what" : Str) = some (.str x) → Same H H' → E (.ref CC) (some d) H')
section
variable {P : Program} {w : World} {K : PySem.W.Frag} {mg : Str → Option Value} {base : Heap}
theorem scTell : FnScope ["self", "rule", "terms", "place"] ["self", "rule"] (defScope sTell) := ⟨rfl, rfl, rfl, by decide +kernel, rfl, by decide +kernel, by decide +kernel⟩
theorem ok_tell {f C CC fW fR : Addr} {fd dW dR : FuncData} (F : Fun K "tell" "Definitions.tell" sTell f fd) (D : DfK K C)
    (GW : FnOk P w K mg base (L2.CX P w) 3 fW dW ["self", "rule"] (spTermsW C CC)) (mW : Meth K C "_terms_with" fW) (bW : Binds K dW ["self", "rule"] [])
    (GR : FnOk P w K mg base CX0 1 fR dR ["self", "word"] (spRulesM C)) (mR : Meth K C "rules" fR) (bR : Binds K dR ["self", "word"] []) (mLen : mg "len" = none) : FnOk P w K mg base (L2.CX P w) 4 f fd ["self", "rule"] (spTell C CC) := by
  refine F.okX scTell (fun vs H Q E h => ?_) (fun cdv A outer s H vs Q E hr h => ?_)
  · obtain ⟨p, lt, us, rs, kvs, v, r, rfl, _⟩ := h
    rfl
  obtain ⟨p, lt, us, rs, kvs, v, r, rfl, ⟨dx, dt, hp, hlt, hdt⟩, RS, ul, kd, kl, rl, T, qN, qE⟩ := h
  have hr1 : Room 1 _ := hr.mono (by decide)
  refine ⟨_, pss_cons (ps_set (i := 2) scTell.nd rfl (Or.inl rfl) (pe_meth (E := E) (pv 0) D.cls mW GW hr bW .nil (passes_call (W := fun cls d _ H => E cls d H) (takes_of rfl rfl rfl rfl) fun _ _ _ _ h => h) (pa_cons (pv 1) pa_nil)))
    (pss_cons (ps_set (i := 3) scTell.nd rfl (Or.inl rfl) (pe_callB call_len_seq (by rfl) mLen PySem.boot_len (pa_cons (pe_meth (pv 0) D.cls mR GR hr1 bR .nil pass0 (pa_cons (pe_ix ix_tup (pe_ix ix_tup (pv 1) pe_int (fun _ _ => rfl)) pe_int (fun _ _ => rfl)) pa_nil)) pa_nil)))
    (pss_cons (ps_fld (pv 0) (pv 2) rfl)
    (pss_cons (ps_expr (pe_bm PySem.F.plainAttrs_list PySem.F.slot_list_append PySem.F.type_list_append mt_append (pe_fld (pv 0) rfl) (pa_cons (pv 1) pa_nil)))
    (pss_one (ps_ret (pv 3)))))), ?_⟩
  have big : (10000 : Nat) ≤ sizeLine := by decide
  refine ⟨_, rfl, p, dx, _, rfl, hp, dfF_no (by decide +kernel) (by decide +kernel), _, rfl, p, lt, us, kvs, v, r, rfl, ⟨dx, dt, hp, hlt, hdt⟩, kd, kl, rl, T, fun cn q H2 hq h2 s2 => ?_, qE⟩
  obtain ⟨p1, q1, vh, xs, ev, hp1, ⟨pa, xa, eh, hpa, TA⟩, hq1, hB⟩ := T.same s2
  subst ev eh
  refine ⟨_, rfl, p, dx, _, rfl, s2 _ _ hp, dfF_no (by decide +kernel) (by decide +kernel), _, rfl, p1, _, 0, _, rfl, rfl, .inl (.inl hp1), rfl, pa, _, 0, .str r.hd.nm, rfl, rfl, .inl (.inl hpa), at_first _ _, ?_⟩
  refine ⟨p, lt, us, rs, kvs, r.hd.nm, rfl, ⟨dx, dt, s2 _ _ hp, s2 _ _ hlt, s2 _ _ hdt⟩, RS.same s2, by omega, fun g H3 hg h3 s3 => ?_⟩
  refine ⟨g, _, rfl, .inl (.inl (.inl h3)), ?_⟩
  have s23 := s2.trans s3
  refine ⟨_, rfl, _, rfl, p, C, dx, _, rfl, s23 _ _ hp, D.cls, D.nM, (by show 2 < 1000; decide), ?_⟩
  rw [dfF_put]
  have pl : p ≠ lt := ne_of hp hlt (by intro z; cases z)
  have plt := (upd_ne pl.symm : (upd H3 p (.ins C dx (dfF lt q))) lt = H3 lt)
  refine ⟨_, rfl, p, C, dx, _, _, rfl, upd_same, D.cls, D.nT, dfF_told, .inl ⟨rfl, _, .inl (.inl (by rw [plt]; exact s23 _ _ hlt))⟩, _, rfl, lt, _, _, rfl, rfl, (by rw [plt]; exact s23 _ _ hlt), by omega, ?_⟩
  have qp : q ≠ p := (ne_of_none hp hq).symm
  have ql : q ≠ lt := (ne_of_none hlt hq).symm
  refine ⟨_, rfl, qN cn _ ⟨dx, q, by rw [upd_ne pl]; exact upd_same, upd_same, by rw [upd_ne ql, upd_ne qp]; exact s3 _ _ h2⟩ fun b o z n1 n2 => ?_⟩
  rw [upd_ne n2, upd_ne n1]
  exact s23 _ _ z
end
end Rp

/-! Dicts whose keys are tuples: a comprehension that makes one, its items walked; a walk over a list or a tuple. -/
namespace Rp
open PySem PySem.Spec PyProof.Rows L2
section
variable {X : Cx}
/-- what {(..): v for .. if ..} asks where all keys are tuples -/
def tDcT (wi : TI) (g : TG) (tt : TT) (tk tv : TE) (vs : List Nat) : TE := fun σ H Q => wi σ H fun J H1 => ∀ D, H1 D = none →
  ∃ W : Nat → Nat → Hp → Prop, (∃ m, W 0 m (upd H1 D (.dT []))) ∧ ∀ i m H, W i m H → (J.stop i H ∧ Q (.ref D) H) ∨
    (J.go i H ∧ ∃ Nx : Hp → Prop, (∀ H', Nx H' → ∃ m', m' < m ∧ W (i + 1) m' H') ∧ ∀ x H', J.yld i H x H' → g x (wipe σ vs) H' fun σ2 H2 => wipe σ2 vs = wipe σ vs ∧
      tt σ2 H2 fun b H3 => if b = true then tk σ2 H3 fun y H4 => tv σ2 H4 fun z H5 => ∃ (t : Addr) (k : List L2.Key) (kvs : List (List L2.Key × V)), y = .ref t ∧ H5 t = some (.tup (k.map kV)) ∧ H5 D = some (.dT kvs) ∧ kvs.length < sizeLine ∧
        Nx (upd H5 D (.dT (putK kvs k z))) else Nx H3)
theorem putT {pins : List (Addr × Obj)} {σ : L2.St} {H : Hp} {s : Shared} {E : Value → Shared → Prop} {D t : Addr} {k : List L2.Key} {kvs : List (List L2.Key × V)} {z : V} {u r : Value} {Q : Unit → Shared → Prop}
    (I : Inv X pins σ H s) (hu : X.A.units + 1 < cLine) (ht : H t = some (.tup (k.map kV))) (hD : H D = some (.dT kvs)) (few : kvs.length < sizeLine) (ru : RelV (.ref t) u) (rr : RelV z r)
    (go : ∀ s', Inv X pins σ (upd H D (.dT (putK kvs k z))) s' → Q () s') : wpAny (model X.prog X.w) X.A (dictSet D u r) Q E s := by
  obtain rfl : u = Value.ref t := ru
  obtain ⟨z1, lo, xs, rel, dd⟩ := dt_of I.hok hD
  have room : xs.length ≤ sizeLine := by rw [← Paired.length rel]; exact z1
  refine wpAny_dictSet_heap (hsz := room) (show X.A.units < cLine by omega) (key_of I.hok ht) dd fun g now only => go _ ?_
  obtain ⟨o, es, ep, e1, e2, e3, e4, _, e6⟩ := now
  refine d_write I (by rw [hD]; trivial) only ⟨o, e1⟩ ⟨?_, lo, _, KT.keeps (rel.put k ht rr) fun c ys ec => ?_, o, es, ep, e1, e2, e3, e4, e6⟩
  · have := length_putK kvs k z; omega
  · rw [upd_ne (ne_of ec hD (by intro z; cases z))]
    exact ec
theorem dcT_core {pins : List (Addr × Obj)} {s : Shared} {σ : L2.St} {H : Hp} {Q : VK} {kx vx tg iter : Expr} {ifs : List Expr} {scope : Scope} {own : List (PySem.Str × Nat)} {pos pos' : Pos} {wi : TI} {g : TG} {tt : TT} {tk tv : TE} {use : Option (Value → Sem Unit)} {Qf : Value → Shared → Prop}
    (hc : X.calm = true) (hu : X.A.units + 1 < cLine) (hN : X.N.Nodup) (I : Inv X pins σ H s) (hi : PI X tg iter wi) (ok : BlkOk X.N X.env.scope scope own)
    (hg : ∀ (s : Shared) (H : Hp) (C : Addr) (cl : List (PySem.Str × Addr)) (fp : List Addr), PG (X.blk s H scope (compEnvC scope cl C X.env) fp) tg g)
    (ht : ∀ (s : Shared) (H : Hp) (C : Addr) (cl : List (PySem.Str × Addr)) (fp : List Addr), PTs (X.blk s H scope (compEnvC scope cl C X.env) fp) ifs tt)
    (hk : ∀ (s : Shared) (H : Hp) (C : Addr) (cl : List (PySem.Str × Addr)) (fp : List Addr), PE (X.blk s H scope (compEnvC scope cl C X.env) fp) kx tk)
    (hv : ∀ (s : Shared) (H : Hp) (C : Addr) (cl : List (PySem.Str × Addr)) (fp : List Addr), PE (X.blk s H scope (compEnvC scope cl C X.env) fp) vx tv)
    (hs : ∀ x, foldedSetIterable iter X.env x = pure x) (h : tDcT wi g tt tk tv (own.map (·.2)) σ H Q)
    (last : ∀ D C s' m H', Inv X pins σ H' s' → Q (.ref D) H' → s'.heap.Ns C m → FpOk X pins H' C → compPost (model X.prog X.w) X.A X.xe use Qf (.ref D) C (.ok .next) s') :
    wpAny (model X.prog X.w) X.A (comprehension (.DictComp kx vx [⟨tg, iter, ifs, 0⟩] scope pos) scope X.env pos' newDict false (eval iter X.env) use) Qf X.xe s := by
  have caught : ∀ y ∈ scope.names, y.2 = .free → ∃ c, X.env.cells.lookup y.1 = some c := fun y hy e =>
    (ok.free y hy e).elim (fun k => I.ok.has _ (.inl k)) fun k => I.ok.has _ (.inr k)
  refine wpAny_comprehension_free (use := use) rfl hs (closure_ok caught) ok.kind (fun y hy e => (ok.uniq y hy).trans (by rw [e])) (thn (hi.run pins s σ H _ I h) fun xv s1 hx => thn hx fun itv s2 h2 => ?_)
  obtain ⟨it, fp, tn, J, H2, rfl, I2, T, st2, f2, q⟩ := h2
  refine wpAny_newObj_type (newEnv_comp ?_)
  -- the new dict's place
  obtain ⟨D, hD⟩ : ∃ D, s2.heap.objs.size = D := ⟨_, rfl⟩
  rw [hD]
  obtain ⟨W, ⟨m0, w0⟩, turn⟩ := q D (I2.hok.fresh (Nat.le_of_eq hD))
  obtain ⟨s3, hs3⟩ : ∃ s3 : Shared, { s2 with heap := s2.heap.push { cls := .type "dict", data := .dict #[] } } = s3 := ⟨_, rfl⟩
  have h3 : s3.heap = s2.heap.push { cls := .type "dict", data := .dict #[] } := by rw [← hs3]
  have I3 : Inv X pins σ (upd H2 D (.dT [])) s3 := by
    have z := I2.laid (a := D) (o := .dT []) (t' := s2.toks) (h' := s2.heap.push { cls := .type "dict", data := .dict #[] }) (fun b o e => Heap.get?_push_of_some _ e) (Nat.le_of_eq hD) (by rw [← hD]; exact dt_empty s2.heap I2.big)
    exact hs3 ▸ z
  have low : ∀ b ∈ fp, b < s2.heap.objs.size := fun b hb => let ⟨o, e, _⟩ := T.obj _ _ st2 b hb; Heap.lt_size e
  have f3 : ∀ b ∈ fp, FpOk X pins (upd H2 D (.dT [])) b ∧ b < s3.heap.objs.size := fun b hb =>
    ⟨⟨(upd_ne (by rw [← hD]; exact Nat.ne_of_lt (low b hb))).trans (f2 b hb).1, (f2 b hb).2⟩, by rw [h3, Heap.size_push]; exact Nat.lt_succ_of_lt (low b hb)⟩
  have st3 : tn 0 s3.heap := T.keep _ _ _ st2 fun b _ o e => h3 ▸ Heap.get?_push_of_some _ e
  have I4 := block_start I3 ok hN f3
  obtain ⟨H3, hH3⟩ : ∃ H3, upd H2 D (.dT []) = H3 := ⟨_, rfl⟩
  rw [hH3] at I3 f3 I4 w0
  obtain ⟨C, hC⟩ : ∃ C, s3.heap.objs.size = C := ⟨_, rfl⟩
  rw [hC] at I4
  have pg := hg s3 H3 C (cellsFrom (C + 1) scope.names (cloFrom X.env.cells scope.names [])) fp
  have pt := ht s3 H3 C (cellsFrom (C + 1) scope.names (cloFrom X.env.cells scope.names [])) fp
  have pk := hk s3 H3 C (cellsFrom (C + 1) scope.names (cloFrom X.env.cells scope.names [])) fp
  have pw := hv s3 H3 C (cellsFrom (C + 1) scope.names (cloFrom X.env.cells scope.names [])) fp
  subst hs3
  have hC' : (s2.heap.push { cls := .type "dict", data := .dict #[] }).objs.size = C := hC
  show codeAny _ _ (.compStart (.DictComp kx vx [⟨tg, iter, ifs, 0⟩] scope pos) 0 (.ref it) (.ref D) (compEnvC scope (cellsFrom ((s2.heap.push { cls := .type "dict", data := .dict #[] }).objs.size + 1) scope.names (cloFrom X.env.cells scope.names [])) (s2.heap.push { cls := .type "dict", data := .dict #[] }).objs.size X.env))
    (compPost (model X.prog X.w) X.A X.xe use Qf (.ref D) (s2.heap.push { cls := .type "dict", data := .dict #[] }).objs.size) { s2 with heap := pushCells ((s2.heap.push { cls := .type "dict", data := .dict #[] }).push { cls := .type "dict", data := .dict #[] }) scope.names }
  rw [hC']
  obtain ⟨ce, hce⟩ : ∃ ce, compEnvC scope (cellsFrom (C + 1) scope.names (cloFrom X.env.cells scope.names [])) C X.env = ce := ⟨_, rfl⟩
  rw [hce] at I4 pg pt pk pw ⊢
  have cL : ce.locals = C := by subst hce; rfl
  obtain ⟨s4, hs4⟩ : ∃ s4 : Shared, { s2 with heap := pushCells ((s2.heap.push { cls := .type "dict", data := .dict #[] }).push { cls := .type "dict", data := .dict #[] }) scope.names } = s4 := ⟨_, rfl⟩
  have I4 : Inv (X.blk _ H3 scope ce fp) [] (wipe σ (own.map (·.2))) H3 s4 := hs4 ▸ I4
  rw [hs4]
  have st4 : tn 0 s4.heap := T.keep _ _ _ st3 fun b _ o e => by rw [← hs4]; exact pushCells_keeps _ _ _ _ (Heap.get?_push_of_some _ e)
  obtain ⟨Y, hY⟩ : ∃ Y, X.blk { s2 with heap := s2.heap.push { cls := .type "dict", data := .dict #[] } } H3 scope ce fp = Y := ⟨_, rfl⟩
  have rest : ∀ {σ' : L2.St} {H' : Hp} {s' : Shared}, Inv Y [] σ' H' s' → (∀ b ∈ fp, H' b = none) → ∀ b ∈ fp, FpOk Y [] H' b := by
    subst hY
    intro σ' H' s' I' hn b hb
    exact ⟨hn b hb, (I'.ok.exf b hb).1, I'.ok.exfs b hb, .inl hb, fun x c e => (I'.ok.exf b hb).2 x c e, fun p hp => absurd (show p ∈ ([] : List (Addr × Obj)) ++ [] from hp) (by simp)⟩
  have round : codeAny (model X.prog X.w) X.A (.compLoop (.DictComp kx vx [⟨tg, iter, ifs, 0⟩] scope pos) 0 (.ref it) (.ref D) ce) (compPost (model X.prog X.w) X.A X.xe use Qf (.ref D) C) s4 := by
    refine compLoop_anyD (fun n s' => ∃ i H', Inv Y [] (wipe σ (own.map (·.2))) H' s' ∧ tn i s'.heap ∧ (∀ b ∈ fp, H' b = none) ∧ W i n H') ?_ m0 ⟨0, H3, hY ▸ I4, st4, fun b hb => (f3 b hb).1.1, w0⟩
    rintro n s5 ⟨i, H5, I5, st5, n5, w5⟩
    rcases turn i n H5 w5 with ⟨stop, qq⟩ | ⟨go, Nx, hNx, step⟩
    · subst hY
      refine thnF (T.done (X.blk _ H3 scope ce fp) rfl rfl rfl hc i [] s5 _ H5 (fun _ _ => False) I5 (rest I5 n5) st5 stop) fun r s6 ⟨hr, I6⟩ => ?_
      subst hr
      have I7 : Inv X pins σ H5 s6 := I3.call' (ch := fp) I6.os I6.base I6.hok I6.bare fun b hb => ⟨(f3 b hb).1.2.2.2.1, (f3 b hb).1.2.1, (f3 b hb).1.2.2.2.2.1, (f3 b hb).1.2.2.2.2.2⟩
      have nC : H5 C = none := cL ▸ (show H5 ce.locals = none from I6.free)
      obtain ⟨m, hn, _⟩ := I6.loc
      have hn : s6.heap.Ns C m := cL ▸ (show s6.heap.Ns ce.locals m from hn)
      exact last D C s6 m H5 I7 qq hn (I3.fpOk (Nat.le_of_eq hC) nC)
    · have ti := T.item Y (by subst hY; rfl) (by subst hY; rfl) (by subst hY; rfl) (by subst hY; exact hc) i [] s5 _ H5 (fun _ _ => False) I5 (rest I5 n5) st5 go
      subst hY
      refine thnF ti fun r s6 ⟨u, hr, h6⟩ => ?_
      subst hr
      refine thnF h6 fun _ s7 ⟨x, H7, I7, r7, y7, st7, n7⟩ => ?_
      refine thnF (pg.run _ s7 _ H7 x u _ (I7.pinned (rest I7 n7) (T.obj _ _ st7)) r7 (step x H7 y7)) fun _ s8 ⟨σ8, H8, I8, hw8, q8⟩ => ?_
      refine thnF (pt.run _ s8 σ8 H8 _ I8 q8) fun b s9 ⟨H9, I9, q9⟩ => ?_
      have turned : ∀ {s' : Shared} {H' : Hp}, Inv (X.blk { s2 with heap := s2.heap.push { cls := .type "dict", data := .dict #[] } } H3 scope ce fp) ([] ++ pinsAt fp s7.heap) σ8 H' s' → Nx H' → ∃ m, m < n ∧ ∃ i H', Inv (X.blk { s2 with heap := s2.heap.push { cls := .type "dict", data := .dict #[] } } H3 scope ce fp) [] (wipe σ (own.map (·.2))) H' s' ∧ tn i s'.heap ∧ (∀ b ∈ fp, H' b = none) ∧ W i m H' := by
        intro s' H' I' nx
        obtain ⟨m', hm, w'⟩ := hNx H' nx
        have pin : ∀ b ∈ fp, ∀ o, s7.heap.get? b = some o → s'.heap.get? b = some o ∧ H' b = none := fun b hb o e =>
          let z := I'.pin (b, o) (List.mem_append_right _ (List.mem_append_right _ (mem_pinsAt hb e))); ⟨z.1, z.2.1⟩
        refine ⟨m', hm, i + 1, H', (I'.unpinned (pins := [])).weak (by rw [← hw8, wipe_length]) (fun j v e => (wipe_some (by rw [hw8]; exact e)).1), T.keep _ _ _ st7 fun b hb o e => (pin b hb o e).1, fun b hb => ?_, w'⟩
        obtain ⟨o, e, _⟩ := T.obj _ _ st7 b hb
        exact (pin b hb o e).2
      cases b with
      | false => simp only [Bool.false_eq_true, if_false] at q9 ⊢; exact turned I9 q9
      | true =>
        simp only [if_true] at q9 ⊢
        refine thnF (pk.run _ s9 σ8 H9 _ I9 q9) fun z s10 ⟨yk, H10, I10, r10, q10⟩ => ?_
        refine thnF (pw.run _ s10 σ8 H10 _ I10 q10) fun z2 s11 ⟨yv, H11, I11, r11, t, k, kvs, ey, k1, k2, k3, nx⟩ => ?_
        subst ey
        exact putT (X := X.blk _ H3 scope ce fp) I11 hu k1 k2 k3 r10 r11 fun s12 I12 => turned I12 nx
  exact codeAny_compStart_dict round (T.self X.A 0 _ _ _ st4 round)
/-- as a value -/
theorem pe_dcT {kx vx tg iter : Expr} {ifs : List Expr} {scope : Scope} {own : List (PySem.Str × Nat)} {wi : TI} {g : TG} {tt : TT} {tk tv : TE} {pos : Pos} (hc : X.calm = true) (hu : X.A.units + 1 < cLine) (hN : X.N.Nodup) (hi : PI X tg iter wi) (ok : BlkOk X.N X.env.scope scope own)
    (hg : ∀ (s : Shared) (H : Hp) (C : Addr) (cl : List (PySem.Str × Addr)) (fp : List Addr), PG (X.blk s H scope (compEnvC scope cl C X.env) fp) tg g)
    (ht : ∀ (s : Shared) (H : Hp) (C : Addr) (cl : List (PySem.Str × Addr)) (fp : List Addr), PTs (X.blk s H scope (compEnvC scope cl C X.env) fp) ifs tt)
    (hk : ∀ (s : Shared) (H : Hp) (C : Addr) (cl : List (PySem.Str × Addr)) (fp : List Addr), PE (X.blk s H scope (compEnvC scope cl C X.env) fp) kx tk)
    (hv : ∀ (s : Shared) (H : Hp) (C : Addr) (cl : List (PySem.Str × Addr)) (fp : List Addr), PE (X.blk s H scope (compEnvC scope cl C X.env) fp) vx tv)
    (hs : ∀ x, foldedSetIterable iter X.env x = pure x := by intro _; rfl) :
    PE X (.DictComp kx vx [⟨tg, iter, ifs, 0⟩] scope pos) (tDcT wi g tt tk tv (own.map (·.2))) := by
  refine ⟨fun pins s σ H Q I h => ?_⟩
  rw [arm_eval_DictComp]
  exact dcT_core hc hu hN I hi ok hg ht hk hv hs h fun D C s' m H' I' q hn ⟨g0, g1, g2, g3, g4, g5⟩ =>
    ⟨m, hn, fun h'' sb => ⟨.ref D, H', I'.turned (t' := s'.toks) (fun b o hb e => (sb.2 b hb).trans e) g0 g1 g3 g4 g5, rfl, q⟩⟩
/-- given to a name -/
theorem ps_setDcT {kx vx tg iter : Expr} {ifs : List Expr} {scope : Scope} {own : List (PySem.Str × Nat)} {wi : TI} {g : TG} {tt : TT} {tk tv : TE} {i : Nat} {y : PySem.Str} {py pos spos : Pos} (hc : X.calm = true) (hu : X.A.units + 1 < cLine) (hN : X.N.Nodup) (hy : X.N[i]? = some y) (mine : X.env.scope.names.lookup y = some .local)
    (sw : swapsWith (.DictComp kx vx [⟨tg, iter, ifs, 0⟩] scope pos) (some (.Name y py)) spos.line X.env = pure true) (hi : PI X tg iter wi) (ok : BlkOk X.N X.env.scope scope own)
    (hg : ∀ (s : Shared) (H : Hp) (C : Addr) (cl : List (PySem.Str × Addr)) (fp : List Addr), PG (X.blk s H scope (compEnvC scope cl C X.env) fp) tg g)
    (ht : ∀ (s : Shared) (H : Hp) (C : Addr) (cl : List (PySem.Str × Addr)) (fp : List Addr), PTs (X.blk s H scope (compEnvC scope cl C X.env) fp) ifs tt)
    (hk : ∀ (s : Shared) (H : Hp) (C : Addr) (cl : List (PySem.Str × Addr)) (fp : List Addr), PE (X.blk s H scope (compEnvC scope cl C X.env) fp) kx tk)
    (hv : ∀ (s : Shared) (H : Hp) (C : Addr) (cl : List (PySem.Str × Addr)) (fp : List Addr), PE (X.blk s H scope (compEnvC scope cl C X.env) fp) vx tv)
    (hs : ∀ x, foldedSetIterable iter X.env x = pure x := by intro _; rfl) :
    PS X (.Assign [.Name y py] (.DictComp kx vx [⟨tg, iter, ifs, 0⟩] scope pos) spos) (tAsg (tDcT wi g tt tk tv (own.map (·.2))) (gName i)) := by
  refine ⟨fun pins s σ H D I h => ?_⟩
  have h : tDcT wi g tt tk tv (own.map (·.2)) σ H (fun x H1 => gName i x σ H1 D.nx) := h
  rw [exec_Assign_Name_used _ _ _ _ sw]
  refine wpAny_bind (wpAny_standAt (wpAny_bind ?_))
  show wpAny _ X.A (do let _ ← comprehension (.DictComp kx vx [⟨tg, iter, ifs, 0⟩] scope pos) scope X.env (firstIterPos [⟨tg, iter, ifs, 0⟩] pos) newDict false (eval iter X.env) (some (assign (.Name y py) X.env))) _ _ s
  refine wpAny_bind (thn (dcT_core (Qf := fun _ s' => SP X pins D .next s') hc hu hN I hi ok hg ht hk hv hs h fun L C s' m H' I' q hn f => ?_) fun _ s' hq => wpAny_pure (wpAny_pure hq))
  show wpAny _ _ (assign (.Name y py) X.env (.ref L)) _ _ _
  refine wpAny_assign_Name (store_ok2 (v := V.ref L) I' hN hy (.inl mine) rfl (fun s2 I2 ⟨a, sb, ha⟩ => ?_) (.inr mine))
  obtain ⟨f0, f1, f2, f3, f4, f5⟩ := f
  have apart : C ≠ a := ha.elim (fun z => by rw [z]; exact f1) fun z e => f4 y a z e.symm
  exact ⟨m, hn.sameBut sb apart, fun g3 sb3 => ⟨_, H', I2.turned (t' := s2.toks) (fun b o hb e => (sb3.2 b hb).trans e) f0 f1 f3 f4 f5, q⟩⟩
theorem swD_true {kx vx : Expr} {gs : List Comprehension} {scope : Scope} {pos py : Pos} {y : PySem.Str} {l : Nat} {env : Env} (hk : env.scope.kind = .function) (hy : env.scope.names.lookup y = some .local) (hl : (py.line == pos.line) = true)
    (ha : (scope.names.any fun (n, k) => n == y && (k == .local || k == .cell)) = false) : swapsWith (.DictComp kx vx gs scope pos) (some (.Name y py)) l env = pure true := by
  have ky : env.kindOf y = some .local := hy
  have hb : env.blockKind = .function := by unfold Env.blockKind; rw [hk]; rfl
  unfold swapsWith
  simp only [hb, ky, ha, Expr.pos, hl]
  rfl
/-- a walk in whose turns the dict grows -/
theorem dcT_it {J : It} {n : Nat} {G : Hp → Prop} {Y : Nat → Hp → V → Hp → Prop} (wk : Walk J n G Y) {g : TG} {tt : TT} {tk tv : TE} {vs : List Nat} {σ : L2.St} {H1 : Hp} {D : Addr} {Qd : Hp → Prop}
    (Pv : Nat → Hp → Prop) (h0 : Pv 0 (upd H1 D (.dT []))) (hG : ∀ i H, i ≤ n → Pv i H → G H)
    (hs : ∀ i x H H', i < n → Pv i H → Y i H x H' → g x (wipe σ vs) H' fun σ2 H2 => wipe σ2 vs = wipe σ vs ∧ tt σ2 H2 fun b H3 =>
      if b = true then tk σ2 H3 fun y H4 => tv σ2 H4 fun z H5 => ∃ (t : Addr) (k : List L2.Key) (kvs : List (List L2.Key × V)), y = .ref t ∧ H5 t = some (.tup (k.map kV)) ∧ H5 D = some (.dT kvs) ∧ kvs.length < sizeLine ∧
        Pv (i + 1) (upd H5 D (.dT (putK kvs k z))) else Pv (i + 1) H3) (hd : ∀ H, Pv n H → Qd H) :
    ∃ W : Nat → Nat → Hp → Prop, (∃ m, W 0 m (upd H1 D (.dT []))) ∧ ∀ i m H, W i m H → (J.stop i H ∧ Qd H) ∨
      (J.go i H ∧ ∃ Nx : Hp → Prop, (∀ H', Nx H' → ∃ m', m' < m ∧ W (i + 1) m' H') ∧ ∀ x H', J.yld i H x H' → g x (wipe σ vs) H' fun σ2 H2 => wipe σ2 vs = wipe σ vs ∧
        tt σ2 H2 fun b H3 => if b = true then tk σ2 H3 fun y H4 => tv σ2 H4 fun z H5 => ∃ (t : Addr) (k : List L2.Key) (kvs : List (List L2.Key × V)), y = .ref t ∧ H5 t = some (.tup (k.map kV)) ∧ H5 D = some (.dT kvs) ∧ kvs.length < sizeLine ∧
          Nx (upd H5 D (.dT (putK kvs k z))) else Nx H3) := by
  refine ⟨fun i m H => m + i = n ∧ Pv i H, ⟨n, by omega, h0⟩, fun i m H ⟨e, p⟩ => ?_⟩
  have here := hG i H (by omega) p
  rcases Nat.lt_or_ge i n with lt | ge
  · exact .inr ⟨wk.goes i H lt here, Pv (i + 1), fun H' p' => ⟨m - 1, by omega, by omega, p'⟩, fun x H' y => hs i x H H' lt p (wk.yields i H x H' lt here y)⟩
  · obtain rfl : i = n := by omega
    exact .inl ⟨wk.stops H here, hd H p⟩
/-! ### a walk over a list or a tuple -/
/-- as a list, or as a tuple -/
def AltI (K : PySem.W.Frag) (a : Addr) (H : Hp) (R : It → Hp → Prop) : Prop := ((∃ xs, SqL K H a xs) ∧ R (Itl K a) H) ∨ ((∃ xs, SqT K H a xs) ∧ R (Itt K a) H)
def iSeq (K : PySem.W.Frag) (tl : TE) : TI := fun σ H R => tl σ H fun x H1 => ∃ a, x = .ref a ∧ AltI K a H1 R
theorem pi_seq {tg l : Expr} {tl : TE} (hl : PE X l tl) : PI X tg l (iSeq X.K tl) := by
  refine ⟨fun pins s σ H R I h => thn (hl.run pins s σ H _ I h) fun v s1 ⟨x, H1, I1, r1, q1⟩ => ?_⟩
  obtain ⟨a, rfl, ⟨⟨xs, hq⟩, q⟩ | ⟨⟨xs, hq⟩, q⟩⟩ := q1
  · cases r1
    obtain ⟨its, rv, p, hz⟩ := I1.list hq
    exact wpAny_pyIter_list p.isList (pi_one (tk := s1.toks) I1 _ (turn_list a _) ⟨_, Heap.get?_push_size _ rfl, rfl, rfl⟩ q)
  · cases r1
    obtain ⟨its, rv, p, hz⟩ := I1.tuple hq
    exact wpAny_pyIter_tuple (show s1.heap.IsTuple a its.toArray from p) (pi_one (tk := s1.toks) I1 _ (turn_tuple a _) ⟨_, Heap.get?_push_size _ rfl, rfl, rfl⟩ q)
/-! ### d.items(), the keys being tuples -/
/-- each a new pair of the key's own tuple and the value -/
def ItiT (d : Addr) (o : Obj) (kvs : List (List L2.Key × V)) : It :=
  ⟨fun i H => H d = some (.frz o (.dT kvs)) ∧ i < kvs.length,
   fun i H x H' => ∃ (T q : Addr) (k : List L2.Key) (v : V), kvs[i]? = some (k, v) ∧ H q = some (.tup (k.map kV)) ∧ x = .ref T ∧ H T = none ∧ H' = upd H T (.tup [.ref q, v]),
   fun i H => H d = some (.frz o (.dT kvs)) ∧ kvs.length ≤ i⟩
theorem Inv.frzI {pins : List (Addr × Obj)} {σ : L2.St} {H : Hp} {s : Shared} {d : Addr} {o : Obj} {kvs : List (List L2.Key × V)} (I : Inv X pins σ H s) (h : H d = some (.frz o (.dT kvs))) :
    (d == sysModules) = false ∧ ∃ (es : Array DictEntry) (ep : Nat), o.data = .dict es ep ∧ s.heap.DictRaw d es ep ∧ es.size = kvs.length ∧
      ∀ (i : Nat) (k : List L2.Key) (v : V), kvs[i]? = some (k, v) → ∃ (en : DictEntry) (q : Addr), es[i]? = some en ∧ en.key = .ref q ∧ H q = some (.tup (k.map kV)) ∧ RelV v en.val := by
  obtain ⟨hd, z, lo, xs, pr, o', es, ep, ho, hx, hdt, he, _⟩ := I.hok d _ h
  obtain rfl : o = o' := Option.some.inj (hd.symm.trans ho)
  refine ⟨lo, es, ep, hdt, ⟨o, ho, hx, hdt⟩, ?_, fun i k v e => ?_⟩
  · have l1 : es.size = xs.length := size_of_entries he
    have l2 : kvs.length = xs.length := Paired.length pr
    omega
  · obtain ⟨b, hb, e1, e2, e3⟩ := paired_get pr e
    have q := entry_at he i
    rw [hb] at q
    exact ⟨_, b.2.1, q, rfl, e2, e3⟩
theorem turn_itemsT {P : Program} {w : World} {K : PySem.W.Frag} {d : Addr} {o : Obj} {es : Array DictEntry} {ep : Nat} {kvs : List (List L2.Key × V)} {elts : List Expr} {kk : Nat} {tpos : Pos} (it : Addr) (hod : o.data = .dict es ep) :
    Turn P w K (.Tuple elts kk tpos) (ItiT d o kvs) [it] it (fun i h => ∃ ok ov, IsItemIter h it d i kvs.length ep ok ov) where
  mem := List.mem_singleton.mpr rfl
  obj := fun i h ⟨ok, ov, e⟩ b hb => by
    obtain rfl := List.mem_singleton.mp hb
    exact ⟨_, e, fun v z => nomatch z⟩
  keep := fun i h h' ⟨ok, ov, e⟩ k => ⟨ok, ov, k it (List.mem_singleton.mpr rfl) _ e⟩
  item := by
    intro X hP hw hK hc i pins s σ H E I hf st hg
    subst hP hw hK
    obtain ⟨hd, hi⟩ := hg
    obtain ⟨lo, es', ep', hdt, raw, hsz, ent⟩ := Inv.frzI I hd
    obtain ⟨rfl, rfl⟩ := dict_ep hod hdt
    obtain ⟨⟨k, v⟩, hkv⟩ : ∃ p, kvs[i]? = some p := ⟨kvs[i], List.getElem?_eq_getElem hi⟩
    obtain ⟨en, q, hen, hkey, hq, ru⟩ := ent i k v hkv
    obtain ⟨ok, ov, he⟩ := st
    rw [← hsz] at he
    have lte : i < es'.size := by omega
    have een : es'[i] = en := by rw [Array.getElem?_eq_getElem lte] at hen; exact Option.some.inj hen
    have below : it < s.heap.objs.size := Heap.lt_size he
    refine wpAny_pyNext_items_item_raw he raw lte fun g ho hT hz old => ?_
    rw [een, hkey] at ho hT
    refine ⟨_, rfl, wpAny_letOwnedTupleGo_items (s := { s with heap := g }) ho fun g2 he' sb => ?_⟩
    have hT2 : g2.get? s.heap.objs.size = some { cls := .type "tuple", data := .seq #[Value.ref q, en.val] } := (sb.2 _ (Nat.ne_of_gt below)).trans hT
    have new : ObjOk X.prog X.w (upd H s.heap.objs.size (.tup [.ref q, v])) g2 s.heap.objs.size (.tup [.ref q, v]) :=
      ⟨(by decide : 2 ≤ sizeLine), [Value.ref q, en.val], .cons rfl (.cons ru .nil), ⟨_, hT2, rfl, _, rfl⟩⟩
    have I1 : Inv X pins σ (upd H s.heap.objs.size (.tup [.ref q, v])) { s with heap := g2 } :=
      I.turnedNew (t' := s.toks) (ch := [it]) (fun b ob hb e => (sb.2 b (by simpa using hb)).trans (old b ob (by simpa using hb) e)) hf (Nat.le_refl _) new
    refine ⟨.ref s.heap.objs.size, _, I1, rfl, ⟨_, q, k, v, hkv, hq, rfl, I.hok.fresh (Nat.le_refl _), rfl⟩, ⟨Value.ref q, en.val, ?_⟩, fun b hb => ?_⟩
    · rw [← hsz]; exact he'
    · obtain rfl := List.mem_singleton.mp hb
      rw [upd_ne (Nat.ne_of_lt below)]
      exact (hf _ (List.mem_singleton.mpr rfl)).1
  done := by
    intro X hP hw hK hc i pins s σ H E I hf st hg
    subst hP hw hK
    obtain ⟨hd, hi⟩ := hg
    obtain ⟨f0, f1, f2, f3, f4, f5⟩ := hf it (List.mem_singleton.mpr rfl)
    obtain ⟨lo, es', ep', hdt, raw, hsz, ent⟩ := Inv.frzI I hd
    obtain ⟨rfl, rfl⟩ := dict_ep hod hdt
    obtain ⟨ok, ov, he⟩ := st
    rw [← hsz] at he
    exact wpAny_pyNext_items_end_raw (I.ok.hd hc) he raw (by omega) fun g eb => ⟨rfl, I.turned (t' := s.toks) (fun b ob hb e => eb b ob hb e) f0 f1 f3 f4 f5⟩
  self := fun A i s Q E ⟨_, _, e⟩ h => PySem.W.kcp_self e h
def iItemsT (td : TE) : TI := fun σ H R => td σ H fun x H1 => ∃ d o kvs, x = .ref d ∧ H1 d = some (.frz o (.dT kvs)) ∧ R (ItiT d o kvs) H1
theorem pi_itemsT {e : Expr} {td : TE} {apos cpos : Pos} {elts : List Expr} {kk : Nat} {tpos : Pos} (he : PE X e td) (hbase : attributeBase e "items" X.env (eval e X.env) = eval e X.env := by rfl) (hline : (apos.endLine == cpos.line) = true := by rfl) :
    PI X (.Tuple elts kk tpos) (.Call (.Attribute e "items" apos) [] [] cpos) (iItemsT td) := by
  refine ⟨fun pins s σ H R I h => ?_⟩
  refine wpAny_Call_method (T := "dict") (id := "dict.items") hbase rfl hline F.plainAttrs_dict F.slot_dict_items F.type_dict_items (thn (he.run pins s σ H _ I h) fun u s1 ⟨x, H1, I1, rx, d, o, kvs, ex, hd, q⟩ => ?_)
  subst ex
  obtain rfl : u = Value.ref d := rx
  obtain ⟨lo, es, ep, hdt, raw, hsz, ent⟩ := Inv.frzI I1 hd
  refine ⟨raw.typeIs, fun b e => by cases e; obtain ⟨o, ho, hx, _⟩ := raw; exact ⟨o, ho, hx.2.1⟩, ?_⟩
  have I2 : Inv X pins σ H1 { s1 with heap := s1.heap.push { cls := .type "dict_items", data := .fields #[.ref d] } } := I1.kept (t' := s1.toks) fun b ob q => Heap.get?_push_of_some _ q
  have fin : wpAny (model X.prog X.w) X.A (pyIter (.ref s1.heap.objs.size)) (PIE X pins σ (.Tuple elts kk tpos) R) X.xe { s1 with heap := s1.heap.push { cls := .type "dict_items", data := .fields #[.ref d] } } := by
    refine wpAny_pyIter_items_raw (d := d) ⟨_, Heap.get?_push_size _ rfl, rfl, rfl⟩ (raw.at fun o e => Heap.get?_push_of_some _ e) (pi_one (tk := s1.toks) I2 _ (turn_itemsT _ hdt) ⟨.none, .none, ?_⟩ q)
    rw [hsz]
    exact Heap.get?_push_size _ rfl
  show wpAny _ _ (callWith cpos (.builtin "dict.items") [.ref d] [] []) _ X.xe s1
  exact method_meetsIn F.slot_dict_items F.entry_dict_items rfl (PySem.evalArgs_none ⟨rfl, raw.typeIs, F.args_dict_items_1 _, _, meets_dict_items_raw d lo, ⟨es, ep, raw⟩, fin⟩)
theorem walk_itemsT {d : Addr} {o : Obj} {kvs : List (List L2.Key × V)} : Walk (ItiT d o kvs) kvs.length (fun H => H d = some (.frz o (.dT kvs)))
    (fun i H x H' => ∃ (T q : Addr) (k : List L2.Key) (v : V), kvs[i]? = some (k, v) ∧ H q = some (.tup (k.map kV)) ∧ x = .ref T ∧ H T = none ∧ H' = upd H T (.tup [.ref q, v])) :=
  ⟨fun _ _ hi q => ⟨q, hi⟩, fun _ q => ⟨q, Nat.le_refl _⟩, fun _ _ _ _ _ _ y => y⟩
end
end Rp

set_option maxHeartbeats 8000000
/-! Making a Definitions object out of rules. -/
namespace Rp
open PySem PySem.Spec PyProof.Rows L2 TL StX
theorem RuAt.mono {H H' : Hp} (e : ∀ a xs, H a = some (.tup xs) → H' a = some (.tup xs)) {v : V} {r : Ru} (h : RuAt H v r) : RuAt H' v r := by
  obtain ⟨p, q, vh, xs, e1, h1, h2, h3, h4⟩ := h
  exact ⟨p, q, vh, xs, e1, e _ _ h1, atAt_mono e h2, e _ _ h3, h4.mono e⟩
theorem RusAt.mono {H H' : Hp} (e : ∀ a xs, H a = some (.tup xs) → H' a = some (.tup xs)) : ∀ {us : List V} {rs : List Ru}, RusAt H us rs → RusAt H' us rs
  | [], [], _ => trivial
  | _ :: _, _ :: _, h => ⟨h.1.mono e, RusAt.mono e h.2⟩
theorem RusAt.take {H : Hp} : ∀ {us : List V} {rs : List Ru} (i : Nat), RusAt H us rs → RusAt H (us.take i) (rs.take i)
  | [], [], i, _ => by simp [RusAt]
  | _ :: _, _ :: _, 0, _ => trivial
  | _ :: _, _ :: _, i + 1, h => ⟨h.1, RusAt.take i h.2⟩
def allAts (rs : List Ru) : List At := rs.flatMap fun r => r.hd :: r.bd
theorem allAts_more {rs : List Ru} {i : Nat} {r : Ru} (h : rs[i]? = some r) : allAts (rs.take (i + 1)) = allAts (rs.take i) ++ (r.hd :: r.bd) := by
  rw [List.take_add_one, h]
  simp [allAts]
theorem allAts_parts {rs : List Ru} (i : Nat) : allAts rs = allAts (rs.take i) ++ allAts (rs.drop i) := by
  unfold allAts
  rw [← List.flatMap_append, List.take_append_drop]
theorem allAts_le {rs : List Ru} (h : ∀ r ∈ rs, r.bd.length ≤ 9) : (allAts rs).length ≤ 10 * rs.length := by
  induction rs with
  | nil => simp [allAts]
  | cons r rs ih =>
    have h1 := h r (by simp)
    have h2 := ih fun u hu => h u (by simp [hu])
    have e : allAts (r :: rs) = (r.hd :: r.bd) ++ allAts rs := by simp [allAts]
    rw [e, List.length_append, List.length_cons, List.length_cons]
    omega
theorem clash_more : ∀ {as bs : List At} {kvs : KVs}, Kd kvs → (clash kvs as = none → clash kvs (as ++ bs) = clash (knows kvs as) bs) ∧ (∀ x, clash kvs as = some x → clash kvs (as ++ bs) = some x)
  | [], bs, kvs, _ => ⟨fun _ => rfl, fun x h => by cases h⟩
  | a :: as, bs, kvs, K => by
    rcases clash_step (a := a) (r := as) K with ⟨m, e, ⟨em, c, p⟩ | ⟨em, c⟩⟩ | ⟨e, c, k2⟩
    · obtain ⟨i1, i2⟩ := clash_more (as := as) (bs := bs) K
      have c2 : clash kvs (a :: (as ++ bs)) = clash kvs (as ++ bs) := by
        rcases clash_step (a := a) (r := as ++ bs) K with ⟨m', e', ⟨_, c', _⟩ | ⟨n', _⟩⟩ | ⟨e', _⟩
        · exact c'
        · rw [e] at e'
          have := Option.some.inj e'
          have := V.int.inj this
          omega
        · rw [e] at e'; cases e'
      rw [List.cons_append, c, c2]
      refine ⟨fun h => ?_, i2⟩
      show _ = clash (knows (putK kvs (.inr a.nm) (ctV a)) as) bs
      rw [p]
      exact i1 h
    · refine ⟨fun h => (by rw [c] at h; cases h), fun x h => ?_⟩
      rw [c] at h
      rw [List.cons_append]
      rcases clash_step (a := a) (r := as ++ bs) K with ⟨m', e', ⟨n', _⟩ | ⟨_, c'⟩⟩ | ⟨e', _⟩
      · rw [e] at e'
        have := Option.some.inj e'
        have := V.int.inj this
        omega
      · rw [c']; exact h
      · rw [e] at e'; cases e'
    · obtain ⟨i1, i2⟩ := clash_more (as := as) (bs := bs) k2
      have c2 : clash kvs (a :: (as ++ bs)) = clash (putK kvs (.inr a.nm) (ctV a)) (as ++ bs) := by
        rcases clash_step (a := a) (r := as ++ bs) K with ⟨m', e', _⟩ | ⟨_, c', _⟩
        · rw [e] at e'; cases e'
        · exact c'
      rw [List.cons_append, c, c2]
      exact ⟨i1, i2⟩
theorem dfF_new {lt dt : Addr} : putF "_terms" (.ref dt) (putF "_told" (.ref lt) []) = dfF lt dt := by
  have e1 : ¬ (("_told" : Str) = "_terms") := by decide +kernel
  show (if ("_told" : Str) = "_terms" then _ else (("_told" : Str), V.ref lt) :: putF "_terms" (.ref dt) []) = _
  rw [if_neg e1]
  rfl
/-- the rules that are given: a list, a tuple, or the empty tuple of the text -/
def GivenAt (K : PySem.W.Frag) (H : Hp) (q : Addr) (us : List V) : Prop := H q = some (.lst us) ∨ H q = some (.tup us) ∨ (us = [] ∧ ∀ H' : Hp, SqT K H' q [])
def spDInit (K : PySem.W.Frag) (C CC : Addr) : Sp := fun vs H Q E => ∃ (p q dx : Addr) (us : List V) (rs : List Ru), vs = [.ref p, .ref q] ∧ H p = some (.ins C dx []) ∧ GivenAt K H q us ∧ RusAt H us rs ∧ us.length ≤ 80 ∧ (∀ r ∈ rs, r.bd.length ≤ 9) ∧
  (clash [] (allAts rs) = none → ∀ (lt : Addr) (H' : Hp), H lt = none → DfAt C H' p lt us (knows [] (allAts rs)) → But p H H' → Q .non H') ∧
  (∀ x, clash [] (allAts rs) = some x → ∀ (d : Addr) (fs : List (Str × V)) (H' : Hp), H d = none → H' d = some (.xd fs) → fs.lookup ("what" : Str) = some (.str x) → But p H H' → E (.ref CC) (some d) H')
section
variable {P : Program} {w : World} {K : PySem.W.Frag} {mg : Str → Option Value} {base : Heap}
theorem scDInit : FnScope ["self", "rules", "rule"] ["self", "rules"] (defScope sDInit) := ⟨rfl, rfl, rfl, by decide +kernel, rfl, by decide +kernel, by decide +kernel⟩
theorem ok_dinit {f C CC fT q0 : Addr} {fd dT : FuncData} (F : FunD K "__init__" "Definitions.__init__" (defArgs sDInit) (defBody sDInit) (defScope sDInit) [.ref q0] [] f fd) (D : DfK K C)
    (GT : FnOk P w K mg base (L2.CX P w) 4 fT dT ["self", "rule"] (spTell C CC)) (mT : Meth K C "tell" fT) (bT : Binds K dT ["self", "rule"] []) : FnOk P w K mg base (L2.CX P w) 5 f fd ["self", "rules"] (spDInit K C CC) := by
  refine F.ok (CX := L2.CX P w) scDInit (fun vs H Q E h => ?_) (fun cdv A outer s H vs Q E hr h => ?_)
  · obtain ⟨p, q, dx, us, rs, rfl, _⟩ := h
    rfl
  obtain ⟨p, q, dx, us, rs, rfl, hp, hG, RS, ul, rb, qN, qE⟩ := h
  refine ⟨_, pss_cons (ps_fld (pv 0) (pe_lst pa_nil) rfl) (pss_cons (ps_fld (pv 0) pe_dnewK rfl)
    (pss_one (ps_for (passes_of rfl) rfl (pi_seq (pv 1)) (pg_name (i := 2) scDInit.nd rfl (Or.inl rfl))
      (pss_one (ps_expr (pe_meth (E := E) (pv 0) D.cls mT GT hr bT .nil (passes_call (W := fun cls d _ H => E cls d H) (takes_of rfl rfl rfl rfl) fun _ _ _ _ h => h) (pa_cons (pv 2) pa_nil))))))), ?_⟩
  have big : (10000 : Nat) ≤ sizeLine := by decide
  have rl := RS.len
  refine ⟨(by show 0 ≤ sizeLine; decide), fun lt hlt => ?_⟩
  have pl : p ≠ lt := ne_of_none hp hlt
  refine ⟨_, rfl, p, C, dx, _, rfl, by rw [upd_ne pl]; exact hp, D.cls, D.nT, (by show 0 < 1000; decide), fun dt hdt => ?_⟩
  have pd : p ≠ dt := ne_of_none upd_same hdt
  have ld : lt ≠ dt := by
    refine ne_of_none (o := .lst []) ?_ hdt
    rw [upd_ne pl.symm]; exact upd_same
  have hdt0 : H dt = none := by
    rw [upd_ne pd.symm, upd_ne ld.symm] at hdt; exact hdt
  refine ⟨_, rfl, p, C, dx, _, rfl, (by rw [upd_ne pd]; exact upd_same), D.cls, D.nM, (by show 1 < 1000; decide), ?_⟩
  rw [dfF_new]
  have D3 : DfAt C (upd (upd (upd (upd H lt (.lst [])) p (.ins C dx (putF "_told" (.ref lt) []))) dt (.dK [])) p (.ins C dx (dfF lt dt))) p lt [] [] :=
    ⟨dx, dt, upd_same, by rw [upd_ne pl.symm, upd_ne ld, upd_ne pl.symm]; exact upd_same, by rw [upd_ne pd.symm]; exact upd_same⟩
  have o3 : But p H (upd (upd (upd (upd H lt (.lst [])) p (.ins C dx (putF "_told" (.ref lt) []))) dt (.dK [])) p (.ins C dx (dfF lt dt))) := fun b o z nb => by
    rw [upd_ne nb, upd_ne (ne_of_none z hdt0), upd_ne nb, upd_ne (ne_of_none z hlt)]
    exact z
  generalize upd (upd (upd (upd H lt (.lst [])) p (.ins C dx (putF "_told" (.ref lt) []))) dt (.dK [])) p (.ins C dx (dfF lt dt)) = H3 at D3 o3 ⊢
  have tups : ∀ H4 : Hp, But p H H4 → ∀ a xs, H a = some (.tup xs) → H4 a = some (.tup xs) := fun H4 o a xs z => o _ _ z (ne_of z hp (by intro e; cases e))
  let Pv : Nat → L2.St → Hp → Prop := fun i σ H4 => ∃ x2 : Option V, σ = [some (.ref p), some (.ref q), x2] ∧ DfAt C H4 p lt (us.take i) (knows [] (allAts (rs.take i))) ∧ clash [] (allAts (rs.take i)) = none ∧ But p H H4
  have P0 : Pv 0 [some (.ref p), some (.ref q), none] H3 := ⟨none, rfl, D3, rfl, o3⟩
  have step : ∀ (i : Nat) (v : V) (H4 : Hp) (Q' : VK), us[i]? = some v → DfAt C H4 p lt (us.take i) (knows [] (allAts (rs.take i))) → clash [] (allAts (rs.take i)) = none → But p H H4 →
      (∀ z H5, Pv (i + 1) [some (.ref p), some (.ref q), some v] H5 → Q' z H5) → spTell C CC [.ref p, v] H4 Q' E := by
    intro i v H4 Q' hi DA cl o4 k
    obtain ⟨r, hri, T⟩ := RS.get hi
    have il := (List.getElem?_eq_some_iff.mp hi).1
    have tk : us.take (i + 1) = us.take i ++ [v] := by rw [List.take_add_one, hi]; rfl
    have am := allAts_more hri
    have kd := knows_ok Kd.nil cl
    obtain ⟨c1, _⟩ := clash_more (as := allAts (rs.take i)) (bs := r.hd :: r.bd) Kd.nil
    have ka : knows [] (allAts (rs.take (i + 1))) = knows (knows [] (allAts (rs.take i))) (r.hd :: r.bd) := by rw [am]; unfold knows; rw [List.foldl_append]
    have le1 := knows_le (as := allAts (rs.take i)) (kvs := [])
    have le2 := allAts_le (rs := rs.take i) fun r hr => rb r (List.mem_of_mem_take hr)
    rw [List.length_take] at le2
    have rbi := rb r (List.mem_of_getElem? hri)
    refine ⟨p, lt, us.take i, rs.take i, _, v, r, rfl, DA, (RS.take i).mono (tups H4 o4), by rw [List.length_take]; omega, kd, by simp at le1; omega, rbi, T.mono (tups H4 o4), fun cn H5 D5 o5 => ?_, fun x cx d fs H5 hd h5 hl s5 => ?_⟩
    · refine k _ H5 ⟨_, rfl, by rw [tk, ka]; exact D5, by rw [am, c1 cl]; exact cn, fun b o z nb => o5 _ _ (o4 _ _ z nb) nb (ne_of_none z hlt)⟩
    · have full : clash [] (allAts rs) = some x := by
        rw [allAts_parts (rs := rs) (i + 1), am]
        exact (clash_more Kd.nil).2 x (by rw [c1 cl]; exact cx)
      have hd0 : H d = none := by
        cases z : H d with
        | none => rfl
        | some u =>
          by_cases nb : d = p
          · obtain ⟨_, _, h4, _⟩ := DA
            rw [nb, h4] at hd; cases hd
          · rw [o4 _ _ z nb] at hd; cases hd
      exact qE x full d fs H5 hd0 h5 hl fun b o z nb => s5 _ _ (o4 _ _ z nb)
  have fin : ∀ (σ : L2.St) (H4 : Hp), Pv us.length σ H4 → Q .non H4 := by
    rintro σ H4 ⟨x2, rfl, D4, cl, o4⟩
    rw [List.take_length, rl, List.take_length] at D4
    rw [rl, List.take_length] at cl
    exact qN cl lt H4 hlt D4 o4
  have lists : ∀ H4 : Hp, But p H H4 → (H q = some (.lst us) → SqL K H4 q us) ∧ (H q = some (.tup us) → SqT K H4 q us) := fun H4 o =>
    ⟨fun z => .inl (.inl (o _ _ z (ne_of z hp (by intro e; cases e)))), fun z => .inl (.inl (o _ _ z (ne_of z hp (by intro e; cases e))))⟩
  refine ⟨_, rfl, q, rfl, ?_⟩
  rcases hG with hG | hG | ⟨e, hG⟩
  · refine .inl ⟨⟨us, (lists _ o3).1 hG⟩, for_list (K := K) (a := q) (xs := us) Pv P0 (fun i σ H4 _ ⟨_, _, _, _, o4⟩ => (lists _ o4).1 hG) ?_ fin⟩
    rintro i v σ H4 hi ⟨x2, rfl, DA, cl, o4⟩
    obtain ⟨dx4, dt4, hp4, _⟩ := id DA
    exact ⟨_, rfl, p, dx4, _, rfl, hp4, dfF_no (by decide +kernel) (by decide +kernel), _, rfl, step i v H4 _ hi DA cl o4 fun z H5 h => h⟩
  · refine .inr ⟨⟨us, (lists _ o3).2 hG⟩, for_tup (K := K) (a := q) (xs := us) Pv P0 (fun i σ H4 _ ⟨_, _, _, _, o4⟩ => (lists _ o4).2 hG) ?_ fin⟩
    rintro i v σ H4 hi ⟨x2, rfl, DA, cl, o4⟩
    obtain ⟨dx4, dt4, hp4, _⟩ := id DA
    exact ⟨_, rfl, p, dx4, _, rfl, hp4, dfF_no (by decide +kernel) (by decide +kernel), _, rfl, step i v H4 _ hi DA cl o4 fun z H5 h => h⟩
  · subst e
    refine .inr ⟨⟨[], hG _⟩, for_tup (K := K) (a := q) (xs := []) Pv P0 (fun i σ H4 _ _ => hG _) ?_ fin⟩
    rintro i v σ H4 hi _
    simp at hi
end
end Rp

/-! In a try: a method that may raise; an object whose __init__ may raise. -/
namespace Rp
open PySem PySem.Spec PyProof.Rows L2
section
variable {X : Cx} {CX : CXT} {k : Nat} {f C : Addr} {fd : FuncData} {ps : List Str} {sp : Sp} {E : L2.St → XK} {x m : Str} {p pos apos : Pos} {e o : Expr} {es : List Expr} {ta : TE} {t : TA}
def tMethW (C : Addr) (m : Str) (sp : Sp) (E : L2.St → XK) (ta : TE) (t : TA) : TE := fun σ H Q => ta σ H fun x H1 => ∃ a dx fs, x = .ref a ∧ H1 a = some (.ins C dx fs) ∧ fs.lookup m = none ∧ t σ H1 fun vs H2 => sp (x :: vs) H2 Q (E σ)
theorem pe_methW {pl : Sem Bool} (he : PE X o ta) (c : Cls X.K C) (hm : Meth X.K C m f) (F : FnOk X.prog X.w X.K X.mg X.base CX k f fd ps sp) (hr : Room k X.A) (hb : Binds X.K fd ps []) (hx : ∀ σ, PassesAt CX X σ (E σ)) (ha : PA X (e :: es) t)
    (hst : starEach (e :: es) X.env = (false, eval e X.env) :: starEach es X.env := by rfl) (hpl : (backTo pos (starEach es X.env)).any (·.1) = false := by rfl)
    (ht : eval (.Call (.Attribute o m apos) (e :: es) [] pos) X.env = (do
      let ov ← eval o X.env
      standAt apos.atName
      let (f, first) ← holding [ov] (getMethod ov m pl)
      callWith pos f first (backTo pos (starEach (e :: es) X.env)) (backToKw pos (keywordEach [] X.env))) := by rfl) :
    PE X (.Call (.Attribute o m apos) (e :: es) [] pos) (tMethW C m sp E ta t) where
  run := fun pins s σ H Q I h => by
    refine PySem.W.methodCall_KW (pl := pl) (thn (he.run pins s σ H _ I h) fun u s1 ⟨y, H1, I1, ry, a, dx, fs, ey, ea, l, q⟩ => ?_) ht
    subst ey
    cases (show u = Value.ref a from ry)
    exact getmeth_ok I1 ea c hm l (PySem.W.callWith_K (first := [.ref a]) (h₀ := X.base) I.ok.mod.kin hm.kp
      (thn (ha.run pos pins s1 σ H1 _ I1 q) fun us s2 ⟨vs, H2, I2, r, q2⟩ => ⟨I2.kIn, run_fnS (us := .ref a :: us) (vs := .ref a :: vs) F hr hb (hx σ) I2 (.cons rfl r) q2⟩) hst hpl)
def tMakeW (C : Addr) (sp : Sp) (E : L2.St → XK) (t : TA) : TE := fun σ H Q => t σ H fun vs H1 => ∀ x dx, H1 x = none → H1 dx = none → dx ≠ x →
  sp (.ref x :: vs) (upd (upd H1 dx (.own x)) x (.ins C dx [])) (fun v H2 => v = .non ∧ Q (.ref x) H2) (E σ)
theorem pe_makeW (M : Mk X.K C f) (F : FnOk X.prog X.w X.K X.mg X.base CX k f fd ps sp) (hr : Room (k + 1) X.A) (hg : Gl X x) (hm : X.mg x = some (.ref C)) (hb : Binds X.K fd ps []) (hx : ∀ σ, PassesAt CX X σ (E σ)) (ha : PA X (e :: es) t)
    (hdb : (x == ("__debug__" : Str)) = false := by decide) (he : starEach (e :: es) X.env = (false, eval e X.env) :: starEach es X.env := by rfl) (hpl : (backTo pos (starEach es X.env)).any (·.1) = false := by rfl) :
    PE X (.Call (.Name x p) (e :: es) [] pos) (tMakeW C sp E t) where
  run := fun pins s σ H Q I h => by
    refine wpAny_Call_Name_kw (ld_glob I hg hm (PySem.W.callWith_K (h₀ := X.base) I.ok.mod.kin M.kp (thn (ha.run pos pins s σ H _ I h) fun us s1 ⟨vs, H1, I1, r, q⟩ => ⟨I1.kIn, ?_⟩) he hpl) hdb)
    have q0 := q (s1.heap.objs.size + 1) s1.heap.objs.size (I1.hok.fresh (Nat.le_succ _)) (I1.hok.fresh (Nat.le_refl _)) (Nat.ne_of_lt (Nat.lt_succ_self _))
    have J := Inv.made (C := C) I1
    have rr : Vals (V.ref (s1.heap.objs.size + 1) :: vs) (Value.ref (s1.heap.objs.size + 1) :: us) := .cons rfl r
    have b := hb _ (Value.ref (s1.heap.objs.size + 1) :: us) J.kIn (by rw [List.append_nil, ← rr.length]; exact F.len _ _ _ _ q0)
    rw [List.append_nil] at b
    refine wpAny_call (make_map (f := f) I1.kIn M.makes M.init (beq_iff_eq.mp M.fn) (codeAny_mono (F.run _ X.stack _ _ ⟨Value.ref (s1.heap.objs.size + 1) :: us, []⟩ _ _ _ (E σ) (hr.make C us []) (J.env0.make C us []) b rr q0) fun z s' hz => ?_))
    match z, hz with
    | .error e, hz => exact hx σ _ _ _ e s' J hz
    | .ok (.ret u), hz =>
      obtain ⟨v, H', I3, rv, ev, q3⟩ := J.after hz
      subst ev
      exact ⟨rv, ⟨V.ref (s1.heap.objs.size + 1), H', I3, rfl, q3⟩⟩
    | .ok .next, hz => exact False.elim hz
    | .ok .brk, hz => exact False.elim hz
    | .ok .cont, hz => exact False.elim hz
end
end Rp

set_option maxHeartbeats 8000000
/-! The law asks: telling in a try. -/
namespace Rp
open PySem PySem.Spec PyProof.Rows L2 TL StX
structure ErrG (K : PySem.W.Frag) (mg : Str → Option Value) (CE CC CB CN : Addr) : Prop where
  mE : mg "RingError" = some (.ref CE)
  mC : mg "Clash" = some (.ref CC)
  mB : mg "BadText" = some (.ref CB)
  mN : mg "NoRule" = some (.ref CN)
  exE : PySem.W.exmOne K (.ref CC) (.ref CE) = some true
  exC : PySem.W.exmOne K (.ref CC) (.ref CC) = some true
  kC : PySem.W.kitOne K (.ref CC) (.ref CC) = some true
  kV : PySem.W.kitOne K (.ref CC) (.type "ValueError") = some true
  kBN : PySem.W.kitAny K (.ref CC) [.ref CB, .ref CN] = some false
  exc : ExcC K CC
  xf : XfC K CC
  wh : PySem.W.findIn K (.ref CC) "what" = some none
def spAsked (C : Addr) : Sp := fun vs H Q _ => ∃ (p lt : Addr) (us : List V) (rs : List Ru) (kvs : KVs) (v : V) (r : Ru), vs = [.ref p, v] ∧ DfAt C H p lt us kvs ∧ RusAt H us rs ∧ us.length ≤ 800 ∧ Kd kvs ∧ kvs.length ≤ 900 ∧ r.bd.length ≤ 9 ∧ RuAt H v r ∧
  (clash kvs (r.hd :: r.bd) = none → ∀ (H' : Hp), DfAt C H' p lt (us ++ [v]) (knows kvs (r.hd :: r.bd)) → But2 p lt H H' → Q (.int ((picked r.hd.nm us rs).length : Nat)) H') ∧
  (∀ x, clash kvs (r.hd :: r.bd) = some x → ∀ (q : Addr) (H' : Hp), H q = none → H' q = some (.lst [.str "Clash", .str x]) → Same H H' → Q (.ref q) H')
section
variable {P : Program} {w : World} {K : PySem.W.Frag} {mg : Str → Option Value} {base : Heap}
theorem scAsked : FnScope ["_law_defs", "_law_rule_here", "_law_found", "_law_caught", "error", "_law_fine"] ["_law_defs", "_law_rule_here"] (defScope sAsked) := ⟨rfl, rfl, rfl, by decide +kernel, rfl, by decide +kernel, by decide +kernel⟩
theorem ok_asked {f C CE CC CB CN fT : Addr} {fd dT : FuncData} (F : Fun K "_law_asked" "_law_asked" sAsked f fd) (D : DfK K C) (G : ErrG K mg CE CC CB CN)
    (GT : FnOk P w K mg base (L2.CX P w) 4 fT dT ["self", "rule"] (spTell C CC)) (mT : Meth K C "tell" fT) (bT : Binds K dT ["self", "rule"] []) (mIsi : mg "isinstance" = none) (mV : mg "ValueError" = none) :
    FnOk P w K mg base CX0 5 f fd ["_law_defs", "_law_rule_here"] (spAsked C) := by
  refine F.ok scAsked (fun vs H Q E h => ?_) (fun cdv A outer s H vs Q E hr h => ?_)
  · obtain ⟨p, lt, us, rs, kvs, v, r, rfl, _⟩ := h
    rfl
  obtain ⟨p, lt, us, rs, kvs, v, r, rfl, DA, RS, ul, kd, kl, rl, T, qN, qE⟩ := h
  refine ⟨_, pss_cons (ps_asg (pe_tup (pa_cons pe_non (pa_cons pe_non pa_nil))) (pg_tup (by rfl) (pgs_cons (pg_name (i := 2) scAsked.nd rfl (Or.inl rfl)) (pgs_cons (pg_name (i := 3) scAsked.nd rfl (Or.inl rfl)) pgs_nil))))
    (pss_cons (ps_try_keep (i := 4) (tb := fun W => tAsg (tMethW C "tell" (spTell C CC) (WE W) (tVar 0) (tCons (tVar 1) tNil)) (gName 2)) (ts := fun a cls d => tAsg (tVar 4) (gName 3)) rfl rfl scAsked.nd rfl rfl ⟨rfl, by decide, Or.inl G.mE⟩
      (fun W pn xe tk _ => pss_one (ps_set (i := 2) scAsked.nd rfl (Or.inl rfl) (by exact (pe_methW (pv 0) D.cls mT GT hr bT (fun σ => passAt tk σ) (pa_cons (pv 1) pa_nil)))))
      (fun a oe cls d pn hz hf => pss_one (ps_set (i := 3) scAsked.nd rfl (Or.inl rfl) (pv 4))))
    (pss_cons (ps_if (pt_cmpR op_isN (pv 3) pe_non (nomark _)) (pss_one (ps_ret (pv 2))) pss_nil)
    (pss_cons (ps_set (i := 5) scAsked.nd rfl (Or.inl rfl) (pe_and (pe_callB (id := "isinstance") call_isK (by rfl) mIsi (by decide +kernel) (pa_cons (pv 3) (pa_cons (pe_glob (v := .ref CC) rfl G.mC rfl) pa_nil)))
      (pe_and (pe_callB (id := "isinstance") call_isK (by rfl) mIsi (by decide +kernel) (pa_cons (pv 3) (pa_cons (pe_bltn (v := .ty "ValueError") (by rfl) mV (by decide +kernel) rfl) pa_nil)))
      (pe_one (pe_not (pe_callB (id := "isinstance") call_isKT (by rfl) mIsi (by decide +kernel) (pa_cons (pv 3) (pa_cons (pe_tup (pa_cons (pe_glob (v := .ref CB) rfl G.mB rfl) (pa_cons (pe_glob (v := .ref CN) rfl G.mN rfl) pa_nil))) pa_nil))))))))
    (pss_one (ps_ret (pe_lst (pa_cons (pe_ifExp (pt_val (pv 5)) pe_str pe_str) (pa_cons (pe_kpwhat (pv 3)) pa_nil)))))))), ?_⟩
  have big : (10000 : Nat) ≤ sizeLine := by decide
  refine ⟨(by show 2 ≤ sizeLine; decide), fun t ht => ?_⟩
  have s1 := same_new ht (.tup [V.non, V.non])
  refine ⟨t, _, rfl, .inl (.inl upd_same), rfl, _, _, rfl, _, _, rfl, rfl, ?_⟩
  obtain ⟨dx, dt, hp, hlt, hdt⟩ := DA
  generalize upd H t (.tup [V.non, V.non]) = H1 at s1 ⊢
  refine ⟨_, rfl, p, dx, _, rfl, s1 _ _ hp, dfF_no (by decide +kernel) (by decide +kernel), _, rfl, p, lt, us, rs, kvs, v, r, rfl, ⟨dx, dt, s1 _ _ hp, s1 _ _ hlt, s1 _ _ hdt⟩, RS.same s1, ul, kd, kl, rl, T.same s1, fun cn H2 D2 o2 => ?_, fun x cx d fs H2 hd h2 hl s2 => ?_⟩
  · refine ⟨_, rfl, rfl, true, rfl, iteT ⟨_, rfl, qN cn H2 D2 fun b o z n1 n2 => o2 _ _ (s1 _ _ z) n1 n2⟩⟩
  · refine ⟨G.exE, fun a ha => ⟨_, rfl, fun _ => ?_⟩⟩
    have da : d ≠ a := ne_of_none h2 ha
    have s3 := same_new ha (exg a (.ref CC) (some d))
    have kp : KpAt (upd H2 a (exg a (.ref CC) (some d))) (.ref a) CC (.str x) := ⟨a, d, fs, rfl, upd_same, s3 _ _ h2, hl⟩
    have s13 := (s1.trans s2).trans s3
    generalize upd H2 a (exg a (.ref CC) (some d)) = H3 at s13 kp ⊢
    refine ⟨_, rfl, rfl, false, rfl, iteF ?_⟩
    refine ⟨_, rfl, _, _, CC, _, _, true, rfl, kp, G.exc, .own CC, G.kC, true, rfl, iteT ?_⟩
    refine ⟨_, rfl, _, _, CC, _, _, true, rfl, kp, G.exc, .ty _, G.kV, true, rfl, iteT ?_⟩
    refine ⟨_, rfl, (by show 2 ≤ sizeLine; decide), fun g hg => ?_⟩
    have s4 := same_new hg (.tup [V.ref CB, V.ref CN])
    have kp4 := kp.same s4
    have hg4 : (upd H3 g (.tup [V.ref CB, V.ref CN])) g = some (.tup [V.ref CB, V.ref CN]) := upd_same
    have s14 := s13.trans s4
    generalize upd H3 g (.tup [V.ref CB, V.ref CN]) = H4 at kp4 hg4 s14 ⊢
    refine ⟨_, g, _, CC, _, _, false, rfl, hg4, .cons (.own CB) (.cons (.own CN) .nil), kp4, G.exc, G.kBN, false, rfl, ?_⟩
    refine ⟨_, rfl, true, rfl, iteT ?_⟩
    refine ⟨_, rfl, CC, .str x, kp4, G.xf, G.wh, (by show 2 ≤ sizeLine; decide), fun q hq => ?_⟩
    refine qE x cx q _ ?_ upd_same (s14.trans (same_new hq _))
    cases z : H q with
    | none => rfl
    | some u => rw [s14 _ _ z] at hq; cases hq
end
end Rp

set_option maxHeartbeats 8000000
/-! The law makes a Definitions object in a try. -/
namespace Rp
open PySem PySem.Spec PyProof.Rows L2 TL StX
def spMadeL (K : PySem.W.Frag) (C : Addr) : Sp := fun vs H Q _ => ∃ (q : Addr) (us : List V) (rs : List Ru), vs = [.ref q] ∧ (H q = some (.lst us) ∨ H q = some (.tup us)) ∧ RusAt H us rs ∧ us.length ≤ 80 ∧ (∀ r ∈ rs, r.bd.length ≤ 9) ∧
  (clash [] (allAts rs) = none → ∀ (p lt : Addr) (H' : Hp), H p = none → H lt = none → DfAt C H' p lt us (knows [] (allAts rs)) → Same H H' → Q (.ref p) H') ∧
  (∀ x, clash [] (allAts rs) = some x → ∀ (H' : Hp), Same H H' → Q (.str x) H')
section
variable {P : Program} {w : World} {K : PySem.W.Frag} {mg : Str → Option Value} {base : Heap}
theorem scMadeL : FnScope ["_law_rules_told", "_law_found", "_law_caught", "error"] ["_law_rules_told"] (defScope sMadeL) := ⟨rfl, rfl, rfl, by decide +kernel, rfl, by decide +kernel, by decide +kernel⟩
theorem ok_madel {f C CE CC CB CN fI : Addr} {fd dI : FuncData} (F : Fun K "_law_made" "_law_made" sMadeL f fd) (G : ErrG K mg CE CC CB CN) (M : Mk K C fI) (mD : mg "Definitions" = some (.ref C))
    (GI : FnOk P w K mg base (L2.CX P w) 5 fI dI ["self", "rules"] (spDInit K C CC)) (bI : Binds K dI ["self", "rules"] []) : FnOk P w K mg base CX0 7 f fd ["_law_rules_told"] (spMadeL K C) := by
  refine F.ok scMadeL (fun vs H Q E h => ?_) (fun cdv A outer s H vs Q E hr h => ?_)
  · obtain ⟨q, us, rs, rfl, _⟩ := h
    rfl
  obtain ⟨q, us, rs, rfl, hG, RS, ul, rb, qN, qE⟩ := h
  refine ⟨_, pss_cons (ps_asg (pe_tup (pa_cons pe_non (pa_cons pe_non pa_nil))) (pg_tup (by rfl) (pgs_cons (pg_name (i := 1) scMadeL.nd rfl (Or.inl rfl)) (pgs_cons (pg_name (i := 2) scMadeL.nd rfl (Or.inl rfl)) pgs_nil))))
    (pss_cons (ps_try_keep (i := 3) (tb := fun W => tAsg (tMakeW C (spDInit K C CC) (WE W) (tCons (tVar 0) tNil)) (gName 1)) (ts := fun a cls d => tAsg (tVar 3) (gName 2)) rfl rfl scMadeL.nd rfl rfl ⟨rfl, by decide, Or.inl G.mC⟩
      (fun W pn xe tk _ => pss_one (ps_set (i := 1) scMadeL.nd rfl (Or.inl rfl) (by exact (pe_makeW M GI hr rfl mD bI (fun σ => passAt tk σ) (pa_cons (pv 0) pa_nil)))))
      (fun a oe cls d pn hz hf => pss_one (ps_set (i := 2) scMadeL.nd rfl (Or.inl rfl) (pv 3))))
    (pss_one (ps_ret (pe_ifExp (pt_cmpR op_isN (pv 2) pe_non (nomark _)) (pv 1) (pe_kpwhat (pv 2)))))), ?_⟩
  have big : (10000 : Nat) ≤ sizeLine := by decide
  refine ⟨(by show 2 ≤ sizeLine; decide), fun t ht => ?_⟩
  have s1 := same_new ht (.tup [V.non, V.non])
  refine ⟨t, _, rfl, .inl (.inl upd_same), rfl, _, _, rfl, _, _, rfl, rfl, ?_⟩
  generalize upd H t (.tup [V.non, V.non]) = H1 at s1 ⊢
  refine ⟨_, rfl, fun p dx hp hdx ne => ?_⟩
  have sm : Same H1 (upd (upd H1 dx (.own p)) p (.ins C dx [])) := fun b o z => by
    rw [upd_ne (ne_of_none z hp), upd_ne (ne_of_none z hdx)]; exact z
  have hpm : (upd (upd H1 dx (.own p)) p (.ins C dx [])) p = some (.ins C dx []) := upd_same
  have none0 : ∀ b, (upd (upd H1 dx (.own p)) p (.ins C dx [])) b = none → H b = none := fun b z => by
    cases e : H b with
    | none => rfl
    | some u => rw [sm _ _ (s1 _ _ e)] at z; cases z
  have hp0 : H p = none := by
    cases e : H p with
    | none => rfl
    | some u => rw [s1 _ _ e] at hp; cases hp
  generalize upd (upd H1 dx (.own p)) p (.ins C dx []) = Hm at sm hpm none0 ⊢
  have s1m := s1.trans sm
  have keep : ∀ H2, But p Hm H2 → Same H H2 := fun H2 o b u z => o _ _ (s1m _ _ z) (ne_of_none z hp0)
  refine ⟨p, q, dx, us, rs, rfl, hpm, hG.elim (fun z => .inl (s1m _ _ z)) (fun z => .inr (.inl (s1m _ _ z))), RS.same s1m, ul, rb, fun cl lt H2 hlt D2 o2 => ⟨rfl, ?_⟩, fun x cx d fs H2 hd h2 hl o2 => ?_⟩
  · refine ⟨_, rfl, rfl, true, rfl, iteT ⟨_, rfl, qN cl p lt H2 hp0 (none0 _ hlt) D2 (keep H2 o2)⟩⟩
  · refine ⟨G.exC, fun a ha => ⟨_, rfl, fun _ => ?_⟩⟩
    have s3 := same_new ha (exg a (.ref CC) (some d))
    have kp : KpAt (upd H2 a (exg a (.ref CC) (some d))) (.ref a) CC (.str x) := ⟨a, d, fs, rfl, upd_same, s3 _ _ h2, hl⟩
    exact ⟨_, rfl, rfl, false, rfl, iteF ⟨_, rfl, CC, .str x, kp, G.xf, G.wh, qE x cx _ ((keep H2 o2).trans s3)⟩⟩
end
end Rp

set_option maxHeartbeats 8000000
/-! What the law asks a Definitions object. -/
namespace Rp
open PySem PySem.Spec PyProof.Rows L2 TL StX
/-- new lists, one for each text -/
def LstsAt (H0 H : Hp) : List Addr → List (List V) → Prop
  | [], [] => True
  | a :: as, xs :: xss => H0 a = none ∧ H a = some (.lst xs) ∧ LstsAt H0 H as xss
  | _, _ => False
theorem LstsAt.same {H0 H H' : Hp} (s : Same H H') : ∀ {as : List Addr} {xss : List (List V)}, LstsAt H0 H as xss → LstsAt H0 H' as xss
  | [], [], _ => trivial
  | _ :: _, _ :: _, h => ⟨h.1, s _ _ h.2.1, LstsAt.same s h.2.2⟩
theorem LstsAt.snoc {H0 H : Hp} {a : Addr} {xs : List V} (h0 : H0 a = none) (h1 : H a = some (.lst xs)) : ∀ {as : List Addr} {xss : List (List V)}, LstsAt H0 H as xss → LstsAt H0 H (as ++ [a]) (xss ++ [xs])
  | [], [], _ => ⟨h0, h1, trivial⟩
  | _ :: _, _ :: _, h => ⟨h.1, h.2.1, LstsAt.snoc h0 h1 h.2.2⟩
theorem LstsAt.but {H0 H H' : Hp} {c : Addr} (s : ∀ b o, b ≠ c → H b = some o → H' b = some o) : ∀ {as : List Addr} {xss : List (List V)}, (∀ a ∈ as, a ≠ c) → LstsAt H0 H as xss → LstsAt H0 H' as xss
  | [], [], _, _ => trivial
  | a :: _, _ :: _, n, h => ⟨h.1, s _ _ (n a (by simp)) h.2.1, LstsAt.but s (fun b hb => n b (by simp [hb])) h.2.2⟩
def tmV (kvs : KVs) (x : Str) : V := (valV kvs (.inr x)).getD .non
def spDefsTold (C : Addr) : Sp := fun vs H Q _ => ∃ (p lt pw : Addr) (us : List V) (rs : List Ru) (kvs : KVs) (ks ws : List Str), vs = [.ref p, .ref pw] ∧ DfAt C H p lt us kvs ∧ RusAt H us rs ∧ us.length ≤ 800 ∧ kvs.map (·.1) = ks.map Sum.inr ∧ ks.length < 64 ∧ H pw = some (.lst (ws.map V.str)) ∧ ws.length ≤ 80 ∧
  ∀ (q a1 a2 a3 a4 : Addr) (ls : List Addr) (ys : List Str) (H' : Hp), ys.Perm ks → sortedS ys = true → H a1 = none → H a2 = none → H' q = some (.lst [.ref a1, .ref a2, .ref a3, .ref a4]) → H' a1 = some (.lst us) → H' a2 = some (.lst (ys.map V.str)) → H' a3 = some (.lst (ws.map (tmV kvs))) →
    H' a4 = some (.lst (ls.map V.ref)) → LstsAt H H' ls (ws.map fun x => picked x us rs) → Same H H' → Q (.ref q) H'
abbrev NDt : List Str := ["_law_defs", "_law_words_here", "_law_found", "_law_word"]
def teTm (C : Addr) : TE := tMeth C "terms" (spTermsM C) [] E0 (tVar 0) (tCons (tVar 3) tNil)
def teRu (C : Addr) : TE := tMeth C "rules" (spRulesM C) [] E0 (tVar 0) (tCons (tVar 3) tNil)
section
variable {P : Program} {w : World} {K : PySem.W.Frag} {mg : Str → Option Value} {base : Heap}
theorem scDefsTold : FnScope NDt ["_law_defs", "_law_words_here"] (defScope sDefsTold) := ⟨rfl, rfl, rfl, by decide +kernel, rfl, by decide +kernel, by decide +kernel⟩
theorem ok_defstold {f C fA fW fM fR : Addr} {fd dA dW dM dR : FuncData} (F : Fun K "_law_defs_told" "_law_defs_told" sDefsTold f fd) (D : DfK K C)
    (GA : FnOk P w K mg base CX0 1 fA dA ["self"] (spAllR C)) (mA : Meth K C "all_rules" fA) (bA : Binds K dA ["self"] [])
    (GW : FnOk P w K mg base CX0 1 fW dW ["self"] (spWordsM C)) (mW : Meth K C "words" fW) (bW : Binds K dW ["self"] [])
    (GM : FnOk P w K mg base CX0 1 fM dM ["self", "word"] (spTermsM C)) (mM : Meth K C "terms" fM) (bM : Binds K dM ["self", "word"] [])
    (GR : FnOk P w K mg base CX0 1 fR dR ["self", "word"] (spRulesM C)) (mR : Meth K C "rules" fR) (bR : Binds K dR ["self", "word"] []) : FnOk P w K mg base CX0 2 f fd ["_law_defs", "_law_words_here"] (spDefsTold C) := by
  refine F.ok scDefsTold (fun vs H Q E h => ?_) (fun cdv A outer s H vs Q E hr h => ?_)
  · obtain ⟨p, lt, pw, us, rs, kvs, ks, ws, rfl, _⟩ := h
    rfl
  obtain ⟨p, lt, pw, us, rs, kvs, ks, ws, rfl, ⟨dx, dt, hp, hlt, hdt⟩, RS, ul, ke, kl, hpw, wl, q⟩ := h
  refine ⟨_, pss_cons (ps_set (i := 2) scDefsTold.nd rfl (Or.inl rfl) (pe_lst (pa_cons (pe_meth0 (pv 0) D.cls mA GA hr bA .nil pass0) (pa_cons (pe_meth0 (pv 0) D.cls mW GW hr bW .nil pass0)
      (pa_cons (pe_lc (own := [("_law_word", 3)]) (g := gName 3) (tt := tYes) (te := teTm C) rfl scDefsTold.nd (pi_list (pv 1)) (blkOk_by (N := NDt) (sc := defScope sDefsTold) (by decide +kernel))
        (fun _ _ _ _ _ => pg_name (i := 3) scDefsTold.nd rfl (Or.inl rfl)) (fun _ _ _ _ _ => pts_nil) (fun _ _ _ _ _ => pe_meth (pv 0) D.cls mM GM hr bM .nil pass0 (pa_cons (pv 3) pa_nil))) pa_nil)))))
    (pss_one (ps_ret (pe_op op_cat (pv 2) (pe_lst (pa_cons (pe_lc (own := [("_law_word", 3)]) (g := gName 3) (tt := tYes) (te := teRu C) rfl scDefsTold.nd (pi_list (pv 1)) (blkOk_by (N := NDt) (sc := defScope sDefsTold) (by decide +kernel))
        (fun _ _ _ _ _ => pg_name (i := 3) scDefsTold.nd rfl (Or.inl rfl)) (fun _ _ _ _ _ => pts_nil) (fun _ _ _ _ _ => pe_meth (pv 0) D.cls mR GR hr bR .nil pass0 (pa_cons (pv 3) pa_nil))) pa_nil))))), ?_⟩
  have big : (10000 : Nat) ≤ sizeLine := by decide
  have back : ∀ {H' : Hp} {b : Addr}, Same H H' → H' b = none → H b = none := fun {H' b} s z => by
    cases e : H b with
    | none => rfl
    | some u => rw [s _ _ e] at z; cases z
  refine ⟨_, rfl, p, dx, _, rfl, hp, dfF_no (by decide +kernel) (by decide +kernel), p, lt, us, kvs, rfl, ⟨dx, dt, hp, hlt, hdt⟩, by omega, fun a1 H1 n1 h1 s1 => ?_⟩
  refine ⟨_, rfl, p, dx, _, rfl, s1 _ _ hp, dfF_no (by decide +kernel) (by decide +kernel), p, lt, us, kvs, ks, rfl, ⟨dx, dt, s1 _ _ hp, s1 _ _ hlt, s1 _ _ hdt⟩, ke, kl, fun ys a2 H2 perm srt n2 h2 s2 => ?_⟩
  have s12 := s1.trans s2
  have n2' := back s1 n2
  have h12 := s2 _ _ h1
  refine ⟨_, rfl, pw, rfl, ⟨_, .inl (.inl (s12 _ _ hpw))⟩, fun a3 n3 => lc_list (K := K) (a := pw) (xs := ws.map V.str) (fun i H3 => H3 a3 = some (.lst ((ws.take i).map (tmV kvs))) ∧ Same H2 H3) ⟨by rw [upd_same]; rfl, same_new n3 _⟩ (fun i H3 _ ⟨_, s⟩ => .inl (.inl (s _ _ (s12 _ _ hpw)))) ?_ ?_⟩
  · rintro i v H3 hi ⟨h3, s3⟩
    rw [List.getElem?_map] at hi
    obtain ⟨x, hx, rfl⟩ := Option.map_eq_some_iff.mp hi
    have il := (List.getElem?_eq_some_iff.mp hx).1
    have s13 := s12.trans s3
    refine ⟨rfl, ?_⟩
    unfold teTm
    refine ⟨_, rfl, p, dx, _, rfl, s13 _ _ hp, dfF_no (by decide +kernel) (by decide +kernel), _, rfl, p, lt, us, kvs, x, rfl, ⟨dx, dt, s13 _ _ hp, s13 _ _ hlt, s13 _ _ hdt⟩, _, h3, by rw [List.length_map, List.length_take]; omega, ?_, fun b o z => ?_⟩
    · rw [upd_same, List.take_add_one, hx]
      simp [tmV]
    · rw [upd_ne (ne_of_none z n3)]
      exact s3 _ _ z
  rintro H3 ⟨h3, s3⟩
  rw [List.length_map, List.take_length] at h3
  have s13 := s12.trans s3
  refine ⟨(by show 3 ≤ sizeLine; decide), fun l nl => ?_⟩
  have s4 := same_new nl (.lst [V.ref a1, V.ref a2, V.ref a3])
  have hl : (upd H3 l (.lst [V.ref a1, V.ref a2, V.ref a3])) l = some (.lst [V.ref a1, V.ref a2, V.ref a3]) := upd_same
  have s14 := s13.trans s4
  have s34 := s3.trans s4
  generalize upd H3 l (.lst [V.ref a1, V.ref a2, V.ref a3]) = H4 at s4 hl s14 s34 ⊢
  refine ⟨_, rfl, _, rfl, pw, rfl, ⟨_, .inl (.inl (s14 _ _ hpw))⟩, fun a4 n4 => lc_list (K := K) (a := pw) (xs := ws.map V.str) (fun i H5 => ∃ ls : List Addr, H5 a4 = some (.lst (ls.map V.ref)) ∧ ls.length = i ∧ (∀ a ∈ ls, a ≠ a4) ∧ LstsAt H H5 ls ((ws.take i).map fun x => picked x us rs) ∧ Same H4 H5) ⟨[], by rw [upd_same]; rfl, rfl, by simp, trivial, same_new n4 _⟩ (fun i H5 _ ⟨_, _, _, _, _, s⟩ => .inl (.inl (s _ _ (s14 _ _ hpw)))) ?_ ?_⟩
  · rintro i v H5 hi ⟨ls, h5, ll, l4, L5, s5⟩
    rw [List.getElem?_map] at hi
    obtain ⟨x, hx, rfl⟩ := Option.map_eq_some_iff.mp hi
    have il := (List.getElem?_eq_some_iff.mp hx).1
    have s15 := s14.trans s5
    refine ⟨rfl, ?_⟩
    unfold teRu
    refine ⟨_, rfl, p, dx, _, rfl, s15 _ _ hp, dfF_no (by decide +kernel) (by decide +kernel), _, rfl, p, lt, us, rs, kvs, x, rfl, ⟨dx, dt, s15 _ _ hp, s15 _ _ hlt, s15 _ _ hdt⟩, RS.same s15, by omega, fun a5 H6 n5 h6 s6 => ?_⟩
    have n4H : ∀ b o, H4 b = some o → b ≠ a4 := fun b o z => ne_of_none z n4
    have a54 : a5 ≠ a4 := (ne_of_none h5 n5).symm
    refine ⟨ls.map V.ref, s6 _ _ h5, by rw [List.length_map]; omega, ls ++ [a5], by rw [upd_same, List.map_append]; rfl, by simp [ll], ?_, ?_, fun b o z => ?_⟩
    · intro a ha
      rcases List.mem_append.mp ha with ha | ha
      · exact l4 a ha
      · obtain rfl : a = a5 := by simpa using ha
        exact a54
    · rw [List.take_add_one, hx]
      show LstsAt H _ (ls ++ [a5]) ((ws.take i ++ [x]).map fun x => picked x us rs)
      rw [List.map_append]
      have L6 : LstsAt H (upd H6 a4 (.lst (ls.map V.ref ++ [V.ref a5]))) ls ((ws.take i).map fun x => picked x us rs) := (L5.same s6).but (fun b o nb z => by rw [upd_ne nb]; exact z) l4
      exact L6.snoc (back s15 n5) (by rw [upd_ne a54]; exact h6)
    · rw [upd_ne (n4H _ _ z)]
      exact s6 _ _ (s5 _ _ z)
  rintro H5 ⟨ls, h5, ll, l4, L5, s5⟩
  rw [List.length_map, List.take_length] at L5
  have s15 := s14.trans s5
  have s35 := s34.trans s5
  refine ⟨(by show 1 ≤ sizeLine; decide), fun l2 nl2 => ?_⟩
  have s6 := same_new nl2 (.lst [V.ref a4])
  refine ⟨l, l2, _, _, rfl, rfl, s6 _ _ (s5 _ _ hl), upd_same, (by show 3 + 1 ≤ sizeLine; decide), fun q0 nq => ?_⟩
  have s7 := same_new nq (.lst ([V.ref a1, V.ref a2, V.ref a3] ++ [V.ref a4]))
  have s67 := s6.trans s7
  exact q q0 a1 a2 a3 a4 ls ys _ perm srt n1 n2' upd_same (s67 _ _ (s35 _ _ h12)) (s67 _ _ (s35 _ _ h2)) (s67 _ _ (s5 _ _ (s4 _ _ h3))) (s67 _ _ h5) (L5.same s67) (s15.trans s67)
end
end Rp

set_option maxHeartbeats 8000000
/-! What the law says is due. -/
namespace Rp
open PySem PySem.Spec PyProof.Rows L2 TL StX
abbrev NDd : List Str := ["_law_told", "_law_counts_here", "_law_words_here", "_law_found", "_law_word", "_law_rule_here"]
abbrev scDd : Scope := { kind := .function, names := [(Str.ofString ".0", .local), (Str.ofString "_law_word", .cell), (Str.ofString "_law_told", .cell)], isGenerator := false, isCoroutine := false, more := [] }
def teCt : TE := tDGet1 (tVar 1) (tVar 4)
def ttDue (K : PySem.W.Frag) : TT := tTest (tOp rEq (tOp (rIxT K) (tOp (rIxT K) (tVar 5) (tC (.int 0))) (tC (.int 0))) (tVar 4))
def teDue (K : PySem.W.Frag) : TE := tLc (iList K (tVar 0)) (gName 5) (ttDue K) (tVar 5) [5]
def spDefsDue : Sp := fun vs H Q _ => ∃ (pt pd pw : Addr) (us : List V) (rs : List Ru) (kvs : KVs) (ks ws : List Str), vs = [.ref pt, .ref pd, .ref pw] ∧ H pt = some (.lst us) ∧ RusAt H us rs ∧ us.length ≤ 800 ∧ H pd = some (.dK kvs) ∧ kvs.map (·.1) = ks.map Sum.inr ∧ ks.length < 64 ∧ H pw = some (.lst (ws.map V.str)) ∧ ws.length ≤ 80 ∧
  ∀ (q a1 a2 a3 a4 : Addr) (ls : List Addr) (ys : List Str) (H' : Hp), ys.Perm ks → sortedS ys = true → H' q = some (.lst [.ref a1, .ref a2, .ref a3, .ref a4]) → H' a1 = some (.lst us) → H' a2 = some (.lst (ys.map V.str)) → H' a3 = some (.lst (ws.map (tmV kvs))) →
    H' a4 = some (.lst (ls.map V.ref)) → LstsAt H H' ls (ws.map fun x => picked x us rs) → Same H H' → Q (.ref q) H'
section
variable {P : Program} {w : World} {K : PySem.W.Frag} {mg : Str → Option Value} {base : Heap}
theorem scDefsDue : FnScope NDd ["_law_told", "_law_counts_here", "_law_words_here"] (defScope sDefsDue) := ⟨rfl, rfl, rfl, by decide +kernel, rfl, by decide +kernel, by decide +kernel⟩
theorem ok_defsdue {f : Addr} {fd : FuncData} (F : Fun K "_law_defs_due" "_law_defs_due" sDefsDue f fd) (mList : mg "list" = none) (mSorted : mg "sorted" = none) : FnOk P w K mg base CX0 2 f fd ["_law_told", "_law_counts_here", "_law_words_here"] spDefsDue := by
  refine F.ok scDefsDue (fun vs H Q E h => ?_) (fun cdv A outer s H vs Q E hr h => ?_)
  · obtain ⟨pt, pd, pw, us, rs, kvs, ks, ws, rfl, _⟩ := h
    rfl
  obtain ⟨pt, pd, pw, us, rs, kvs, ks, ws, rfl, hpt, RS, ul, hpd, ke, kl, hpw, wl, q⟩ := h
  refine ⟨_, pss_cons (ps_set (i := 3) scDefsDue.nd rfl (Or.inl rfl) (pe_lst (pa_cons (pe_callTy call_list_of (by rfl) mList (by decide +kernel) (pa_cons (pv 0) pa_nil)) (pa_cons (pe_callB (call_sortedD rfl) (by rfl) mSorted (by decide +kernel) (pa_cons (pv 1) pa_nil))
      (pa_cons (pe_lc (own := [("_law_word", 4)]) (g := gName 4) (tt := tYes) (te := teCt) rfl scDefsDue.nd (pi_list (pv 2)) (blkOk_by (N := NDd) (sc := defScope sDefsDue) (by decide +kernel))
        (fun _ _ _ _ _ => pg_name (i := 4) scDefsDue.nd rfl (Or.inl rfl)) (fun _ _ _ _ _ => pts_nil) (fun _ _ _ _ _ => pe_dget1 (hu_of hr) (pv 1) (pv 4) ⟨rfl, rfl, rfl, rfl⟩)) pa_nil)))))
    (pss_one (ps_ret (pe_op op_cat (pv 3) (pe_lst (pa_cons (pe_lc (own := [("_law_word", 4)]) (g := gName 4) (tt := tYes) (te := teDue K) rfl scDefsDue.nd (pi_list (pv 2)) (blkOk_by (N := NDd) (sc := defScope sDefsDue) (by decide +kernel))
        (fun _ _ _ _ _ => pg_name (i := 4) scDefsDue.nd rfl (Or.inr rfl)) (fun _ _ _ _ _ => pts_nil)
        (fun _ _ _ _ _ => pe_lc (own := [("_law_rule_here", 5)]) (g := gName 5) (tt := ttDue K) (te := tVar 5) rfl scDefsDue.nd (pi_list (pv 0)) (blkOk_by (N := NDd) (sc := scDd) (by decide +kernel))
          (fun _ _ _ _ _ => pg_name (i := 5) scDefsDue.nd rfl (Or.inl rfl)) (fun _ _ _ _ _ => pts_one (pt_cmpR op_eq (pe_ix ix_tup (pe_ix ix_tup (pv 5) pe_int (fun _ _ => rfl)) pe_int (fun _ _ => rfl)) (pv 4) (nomark _))) (fun _ _ _ _ _ => pv 5))) pa_nil))))), ?_⟩
  have big : (10000 : Nat) ≤ sizeLine := by decide
  have rl := RS.len
  have back : ∀ {H' : Hp} {b : Addr}, Same H H' → H' b = none → H b = none := fun {H' b} s z => by
    cases e : H b with
    | none => rfl
    | some u => rw [s _ _ e] at z; cases z
  refine ⟨_, rfl, pt, _, rfl, .inl (.inl (.inl hpt)), fun a1 n1 => ?_⟩
  have s1 := same_new n1 (.lst us)
  have h1 : (upd H a1 (.lst us)) a1 = some (.lst us) := upd_same
  generalize upd H a1 (.lst us) = H1 at s1 h1 ⊢
  refine ⟨_, rfl, pd, kvs, ks, rfl, .inl (s1 _ _ hpd), ke, kl, fun ys a2 perm srt n2 => ?_⟩
  have s2 := same_new n2 (.lst (ys.map V.str))
  have h2 : (upd H1 a2 (.lst (ys.map V.str))) a2 = some (.lst (ys.map V.str)) := upd_same
  generalize upd H1 a2 (.lst (ys.map V.str)) = H2 at s2 h2 ⊢
  have s12 := s1.trans s2
  have h12 := s2 _ _ h1
  refine ⟨_, rfl, pw, rfl, ⟨_, .inl (.inl (s12 _ _ hpw))⟩, fun a3 n3 => lc_list (K := K) (a := pw) (xs := ws.map V.str) (fun i H3 => H3 a3 = some (.lst ((ws.take i).map (tmV kvs))) ∧ Same H2 H3) ⟨by rw [upd_same]; rfl, same_new n3 _⟩ (fun i H3 _ ⟨_, s⟩ => .inl (.inl (s _ _ (s12 _ _ hpw)))) ?_ ?_⟩
  · rintro i v H3 hi ⟨h3, s3⟩
    rw [List.getElem?_map] at hi
    obtain ⟨x, hx, rfl⟩ := Option.map_eq_some_iff.mp hi
    have il := (List.getElem?_eq_some_iff.mp hx).1
    have s13 := s12.trans s3
    refine ⟨rfl, ?_⟩
    unfold teCt
    refine ⟨_, rfl, pd, rfl, .inl ⟨kvs, .inl (s13 _ _ hpd)⟩, _, rfl, _, DGet.k (k := Sum.inr x) (s13 _ _ hpd), _, h3, by rw [List.length_map, List.length_take]; omega, ?_, fun b o z => ?_⟩
    · rw [upd_same, List.take_add_one, hx]
      simp [tmV]
    · rw [upd_ne (ne_of_none z n3)]
      exact s3 _ _ z
  rintro H3 ⟨h3, s3⟩
  rw [List.length_map, List.take_length] at h3
  have s13 := s12.trans s3
  refine ⟨(by show 3 ≤ sizeLine; decide), fun l nl => ?_⟩
  have s4 := same_new nl (.lst [V.ref a1, V.ref a2, V.ref a3])
  have hl : (upd H3 l (.lst [V.ref a1, V.ref a2, V.ref a3])) l = some (.lst [V.ref a1, V.ref a2, V.ref a3]) := upd_same
  have s14 := s13.trans s4
  have s34 := s3.trans s4
  generalize upd H3 l (.lst [V.ref a1, V.ref a2, V.ref a3]) = H4 at s4 hl s14 s34 ⊢
  refine ⟨_, rfl, _, rfl, pw, rfl, ⟨_, .inl (.inl (s14 _ _ hpw))⟩, fun a4 n4 => lc_list (K := K) (a := pw) (xs := ws.map V.str) (fun i H5 => ∃ ls : List Addr, H5 a4 = some (.lst (ls.map V.ref)) ∧ ls.length = i ∧ (∀ a ∈ ls, a ≠ a4) ∧ LstsAt H H5 ls ((ws.take i).map fun x => picked x us rs) ∧ Same H4 H5) ⟨[], by rw [upd_same]; rfl, rfl, by simp, trivial, same_new n4 _⟩ (fun i H5 _ ⟨_, _, _, _, _, s⟩ => .inl (.inl (s _ _ (s14 _ _ hpw)))) ?_ ?_⟩
  · rintro i v H5 hi ⟨ls, h5, ll, l4, L5, s5⟩
    rw [List.getElem?_map] at hi
    obtain ⟨x, hx, rfl⟩ := Option.map_eq_some_iff.mp hi
    have il := (List.getElem?_eq_some_iff.mp hx).1
    have s15 := s14.trans s5
    have RS5 := RS.same s15
    refine ⟨rfl, ?_⟩
    unfold teDue
    refine ⟨_, rfl, pt, rfl, ⟨_, .inl (.inl (s15 _ _ hpt))⟩, fun a5 n5 => lc_list (K := K) (a := pt) (xs := us) (fun k H6 => H6 a5 = some (.lst (picked x (us.take k) (rs.take k))) ∧ Same H5 H6) ⟨by rw [upd_same]; rfl, same_new n5 _⟩ (fun k H6 _ ⟨_, s⟩ => .inl (.inl (s _ _ (s15 _ _ hpt)))) ?_ ?_⟩
    · rintro k v H6 hk ⟨h6, s6⟩
      obtain ⟨r, hri, T⟩ := RS5.get hk
      obtain ⟨p1, q1, vh, xs, rfl, hp1, ⟨pa, xa, rfl, hpa, TA⟩, hq1, hB⟩ := T.same s6
      refine ⟨rfl, ?_⟩
      unfold ttDue
      refine ⟨_, rfl, p1, _, 0, _, rfl, rfl, .inl (.inl hp1), rfl, pa, _, 0, .str r.hd.nm, rfl, rfl, .inl (.inl hpa), at_first _ _, _, rfl, rfl, decide (r.hd.nm = x), ?_, ?_⟩
      · exact congrArg V.bl (by by_cases h : r.hd.nm = x <;> simp [h])
      have pm := picked_more (x := x) hk hri
      by_cases h : r.hd.nm = x
      · rw [decide_eq_true h]
        refine iteT ⟨_, rfl, _, h6, ?_, ?_, ?_⟩
        · have := picked_le (x := x) (us := us.take k) (rs := rs.take k)
          rw [List.length_take] at this
          omega
        · rw [upd_same, pm, if_pos h]
        · intro b o z
          rw [upd_ne (ne_of_none z n5)]
          exact s6 _ _ z
      · rw [decide_eq_false h]
        refine iteF ⟨?_, s6⟩
        rw [pm, if_neg h, List.append_nil]
        exact h6
    rintro H6 ⟨h6, s6⟩
    rw [List.take_length, rl, List.take_length] at h6
    have n4H : ∀ b o, H4 b = some o → b ≠ a4 := fun b o z => ne_of_none z n4
    have a54 : a5 ≠ a4 := (ne_of_none h5 n5).symm
    refine ⟨ls.map V.ref, s6 _ _ h5, by rw [List.length_map]; omega, ls ++ [a5], by rw [upd_same, List.map_append]; rfl, by simp [ll], ?_, ?_, fun b o z => ?_⟩
    · intro a ha
      rcases List.mem_append.mp ha with ha | ha
      · exact l4 a ha
      · obtain rfl : a = a5 := by simpa using ha
        exact a54
    · rw [List.take_add_one, hx]
      show LstsAt H _ (ls ++ [a5]) ((ws.take i ++ [x]).map fun x => picked x us rs)
      rw [List.map_append]
      have L6 : LstsAt H (upd H6 a4 (.lst (ls.map V.ref ++ [V.ref a5]))) ls ((ws.take i).map fun x => picked x us rs) := (L5.same s6).but (fun b o nb z => by rw [upd_ne nb]; exact z) l4
      exact L6.snoc (back s15 n5) (by rw [upd_ne a54]; exact h6)
    · rw [upd_ne (n4H _ _ z)]
      exact s6 _ _ (s5 _ _ z)
  rintro H5 ⟨ls, h5, ll, l4, L5, s5⟩
  rw [List.length_map, List.take_length] at L5
  have s15 := s14.trans s5
  have s35 := s34.trans s5
  refine ⟨(by show 1 ≤ sizeLine; decide), fun l2 nl2 => ?_⟩
  have s6 := same_new nl2 (.lst [V.ref a4])
  refine ⟨l, l2, _, _, rfl, rfl, s6 _ _ (s5 _ _ hl), upd_same, (by show 3 + 1 ≤ sizeLine; decide), fun q0 nq => ?_⟩
  have s7 := same_new nq (.lst ([V.ref a1, V.ref a2, V.ref a3] ++ [V.ref a4]))
  have s67 := s6.trans s7
  exact q q0 a1 a2 a3 a4 ls ys _ perm srt upd_same (s67 _ _ (s35 _ _ h12)) (s67 _ _ (s35 _ _ h2)) (s67 _ _ (s5 _ _ (s4 _ _ h3))) (s67 _ _ h5) (L5.same s67) (s15.trans s67)
end
end Rp

/-! A tuple times one: the tuple itself; a tuple times one or two. -/
namespace Rp
open PySem PySem.Spec PyProof.Rows L2
theorem once_meets (p : Addr) (its : Array Value) (m : Nat) (od : Option Addr) (ss : Array (Option Value)) (u : Tok) : Meets (Builtin.«tuple.__mul__» ⟨[.ref p, .int 1 u], []⟩)
    (fun _ R s => s.heap.get? p = some ⟨.type "tuple", od, .seq its m, ss⟩ ∧ R (.ok (.ret (.ref p))) s) :=
  .of_wp fun pr w A R s h => by
    obtain ⟨hp, g, d, tk, os⟩ := s
    obtain ⟨hl, h⟩ := h
    have f1 := AutoSeq1.idx_int
    have one : (its.isEmpty || (1 : Int) == 1) = true := by simp
    wp_walk using wpAny_loadPart' hl
    repeat (first
      | (refine wpAny_ite_false (by decide) ?_; wp_walk using wpAny_loadPart' hl)
      | (refine wpAny_ite_true (decide_eq_true one) ?_; wp_walk using wpAny_loadPart' hl))
    all_goals first | exact ⟨_, rfl, h⟩ | exact h | trivial
def rRepO (K : PySem.W.Frag) : R2 := fun x y H Q => ∃ (l : Addr) (k : Int) (xs : List V), x = .ref l ∧ y = .int k ∧ SqT K H l xs ∧ xs ≠ [] ∧ 1 ≤ k ∧ k ≤ 1000 ∧ xs.length ≤ 1000 ∧ (k = 1 → Q (.ref l) H) ∧
  (2 ≤ k → ∀ p, H p = none → Q (.ref p) (upd H p (.tup (List.replicate k.toNat xs).flatten)))
theorem op_repO {X : Cx} : OpR X (binaryOp .Mult) (rRepO X.K) := by
  intro pins s σ H x y v u Q I rx ry h
  obtain ⟨l, k, xs, ex, ey, ht, ne, k1, k2, sz, qs, qn⟩ := h
  by_cases two : 2 ≤ k
  · exact op_repT pins s σ H x y v u Q I rx ry ⟨l, k, xs, ex, ey, ht, ne, two, k2, sz, qn two⟩
  · obtain rfl : k = 1 := by omega
    subst ex ey
    cases rx
    obtain ⟨t, rfl⟩ := ry
    obtain ⟨its, r, q1, q2⟩ := I.tuple ht
    obtain ⟨⟨c1, d1, t1, s1⟩, g1, e1, n1, f1⟩ := id q1
    simp only at e1 f1
    subst e1 f1
    exact wpAny_binaryOp_repeat_ref (T := "tuple") (U := "int") (by decide) ⟨_, g1, rfl⟩ (fun s' => typeIs_int s' 1 t) noFill_tuple_mul F.fills_int_mul F.slot_int_rmul repeat_tuple F.slot_int_index.lookup
      (call_meets F.slot_int_rmul (typeIs_int s 1 t) F.entry_int_rmul (F.args_int_rmul_2 _ _) (int_rmul_tuple 1 t l its.toArray n1 d1 s1)
        ⟨g1, rfl, ⟨_, g1, rfl⟩, call_meets F.slot_tuple_mul ⟨_, g1, rfl⟩ F.entry_tuple_mul (F.args_tuple_mul_2 _ _) (once_meets l its.toArray n1 d1 s1 t) ⟨g1, ⟨.ref l, H, I, rfl, qs rfl⟩⟩⟩)
end Rp

/-! A tuple times none or one; a sign times none or one. -/
namespace Rp
open PySem PySem.Spec PyProof.Rows L2
theorem none_meets (p : Addr) (its : Array Value) (m : Nat) (od : Option Addr) (ss : Array (Option Value)) (u : Tok) (ne : its.isEmpty = false) : Meets (Builtin.«tuple.__mul__» ⟨[.ref p, .int 0 u], []⟩)
    (fun _ R s => s.heap.get? p = some ⟨.type "tuple", od, .seq its m, ss⟩ ∧ R (.ok (.ret (Value.ref s.heap.objs.size))) { s with heap := s.heap.push { cls := Value.type "tuple", data := Data.seq #[] }, toks := s.toks }) :=
  .of_wp fun pr w A R s h => by
    obtain ⟨hp, g, d, tk, os⟩ := s
    obtain ⟨hl, h⟩ := h
    have f1 := AutoSeq1.idx_int
    have c1 : (its.isEmpty || (0 : Int) == 1) = false := by rw [ne]; rfl
    have c2 : (decide ((0 : Int) ≤ 0) || its.isEmpty) = true := rfl
    wp_walk using wpAny_loadPart' hl
    repeat (first
      | (refine wpAny_ite_false (by decide) ?_; wp_walk using wpAny_loadPart' hl)
      | (refine wpAny_ite_false (decide_eq_false (by rw [c1]; exact Bool.false_ne_true)) ?_; wp_walk using wpAny_loadPart' hl)
      | (refine wpAny_ite_true (decide_eq_true c2) ?_; wp_walk using wpAny_loadPart' hl))
    all_goals first | exact ⟨_, rfl, h⟩ | exact h | trivial
def rRep01 (K : PySem.W.Frag) : R2 := fun x y H Q => ∃ (l : Addr) (k : Int) (xs : List V), x = .ref l ∧ y = .int k ∧ SqT K H l xs ∧ xs ≠ [] ∧ xs.length ≤ 1000 ∧ 0 ≤ k ∧ k ≤ 1 ∧ (k = 1 → Q (.ref l) H) ∧ (k = 0 → ∀ p, H p = none → Q (.ref p) (upd H p (.tup [])))
theorem op_rep01 {X : Cx} : OpR X (binaryOp .Mult) (rRep01 X.K) := by
  intro pins s σ H x y v u Q I rx ry h
  obtain ⟨l, k, xs, ex, ey, ht, ne, sz, k0, k1, q1, q0⟩ := h
  by_cases one : k = 1
  · exact op_repO pins s σ H x y v u Q I rx ry ⟨l, k, xs, ex, ey, ht, ne, by omega, by omega, sz, q1, fun z => by omega⟩
  · obtain rfl : k = 0 := by omega
    subst ex ey
    cases rx
    obtain ⟨t, rfl⟩ := ry
    obtain ⟨its, r, q1', q2'⟩ := I.tuple ht
    obtain ⟨⟨c1, d1, t1, s1⟩, g1, e1, n1, f1⟩ := id q1'
    simp only at e1 f1
    subst e1 f1
    have hn : its.toArray.isEmpty = false := by
      have hle : its.length = xs.length := r.length.symm
      cases its with
      | nil => exact absurd (List.eq_nil_of_length_eq_zero hle.symm) ne
      | cons a b => rfl
    refine wpAny_binaryOp_repeat_ref (T := "tuple") (U := "int") (by decide) ⟨_, g1, rfl⟩ (fun s' => typeIs_int s' 0 t) noFill_tuple_mul F.fills_int_mul F.slot_int_rmul repeat_tuple F.slot_int_index.lookup
      (call_meets F.slot_int_rmul (typeIs_int s 0 t) F.entry_int_rmul (F.args_int_rmul_2 _ _) (int_rmul_tuple 0 t l its.toArray n1 d1 s1)
        ⟨g1, rfl, ⟨_, g1, rfl⟩, call_meets F.slot_tuple_mul ⟨_, g1, rfl⟩ F.entry_tuple_mul (F.args_tuple_mul_2 _ _) (none_meets l its.toArray n1 d1 s1 t hn) ⟨g1, ?_⟩⟩)
    refine ⟨.ref s.heap.objs.size, _, I.laid (t' := s.toks) (o := .tup []) (fun b ob q => Heap.get?_push_of_some _ q) (Nat.le_refl _) ?_, rfl, q0 rfl _ (I.hok.fresh (Nat.le_refl _))⟩
    exact ⟨by simp, [], .nil, IsTup.new _ _⟩
def rQs : R2 := fun x y H Q => x = .str "q" ∧ ((y = .int 0 ∧ Q (.str Str.empty) H) ∨ (y = .int 1 ∧ Q (.str "q") H))
theorem op_mulQ {X : Cx} : OpR X (binaryOp .Mult) rQs := by
  intro pins s σ H x y v u Q I rx ry h
  rcases h with ⟨rfl, ⟨rfl, q⟩ | ⟨rfl, q⟩⟩
  · obtain ⟨t, rfl⟩ := rx
    obtain ⟨t', rfl⟩ := ry
    exact PySem.P.mul_str (by decide) (fun h _ => absurd (by decide) h) (fun h _ => absurd (by decide) h) (by rw [if_pos (by decide)]; exact ⟨by decide, V.str Str.empty, H, I.tok _, ⟨_, rfl⟩, q⟩)
  · obtain ⟨t, rfl⟩ := rx
    obtain ⟨t', rfl⟩ := ry
    exact PySem.P.mul_str (by decide) (fun _ _ => by decide +kernel) (fun _ _ => by decide +kernel) (by rw [if_neg (by decide), if_pos (by decide +kernel)]; exact ⟨V.str "q", H, I, ⟨_, rfl⟩, q⟩)
end Rp

set_option maxHeartbeats 8000000
/-! A rule in which words stand with any number of terms. -/
namespace Rp
open PySem PySem.Spec PyProof.Rows L2 TL StX
def spAnyRule : Sp := fun vs H Q _ => ∃ (b p : Addr) (ws : List Str) (j : Nat), vs = [.ref b, .ref p] ∧ BoxAt H b j ∧ H p = some (.lst (ws.map V.str)) ∧ p ≠ b ∧ 1 ≤ ws.length ∧ ws.length ≤ 7 ∧ (∀ x ∈ ws, NameOk x) ∧ j + 40 ≤ 1000000 ∧
  ∀ (v : V) (r : Ru) (H' : Hp), RuAt H' v r → RuOk r → BoxAt H' b (j + 40) → But b H H' → Q v H'
def teMore (K : PySem.W.Frag) : TE := tOp (rCatT K) (tSl (rSlA K) (tVar 5) tNoPart (tPart (tC (.int 2)))) (tOp (rRep01 K) (tTup (tCons (tOp (rIxT K) (tVar 5) (tC (.int 1))) tNil)) (tCall spTake [] E0 (tCons (tVar 0) (tCons (tC (.int 2)) tNil))))
abbrev NAr : List Str := ["_law_box_here", "_law_words_here", "_law_counts_here", "_law_head_here", "_law_body", "_law_atom"]
section
variable {P : Program} {w : World} {K : PySem.W.Frag} {mg : Str → Option Value} {base : Heap}
theorem scAnyRule : FnScope NAr ["_law_box_here", "_law_words_here"] (defScope sAnyRule) := ⟨rfl, rfl, rfl, by decide +kernel, rfl, by decide +kernel, by decide +kernel⟩
theorem more_ok {σ : L2.St} {H4 : Hp} {b pa : Addr} {j : Nat} {nm : Str} {n : Int} {xr : List V} {Q : VK} (e0 : σ[0]? = some (some (.ref b))) (e5 : σ[5]? = some (some (.ref pa))) (hpa : H4 pa = some (.tup (.str nm :: .int n :: xr))) (xl : xr.length ≤ 1) (B : BoxAt H4 b j) (hj : j ≤ 1000000)
    (k : ∀ (g : Addr) (zs : List Int) (H5 : Hp), H5 g = some (.tup (.str nm :: zs.map V.int)) → (zs = [n] ∨ zs = [n, n]) → BoxAt H5 b (j + 1) → But b H4 H5 → Q (.ref g) H5) : teMore K σ H4 Q := by
  have big : (10000 : Nat) ≤ sizeLine := by decide
  unfold teMore
  have cut : cutV (.str nm :: .int n :: xr) none (some 2) = [.str nm, .int n] := by
    rw [show (some 2 : Option Int) = some ((2 : Nat) : Int) from rfl, cut_to]; rfl
  obtain ⟨yb, hb⟩ := B.some
  have fin : ∀ (a2 : Addr) (H5 : Hp), H5 a2 = some (.tup [.str nm, .int n]) → Same H4 H5 →
      (tOp (rRep01 K) (tTup (tCons (tOp (rIxT K) (tVar 5) (tC (.int 1))) tNil)) (tCall spTake [] E0 (tCons (tVar 0) (tCons (tC (.int 2)) tNil)))) σ H5 fun y H6 => rCatT K (.ref a2) y H6 Q := by
    intro a2 H5 h2 s5
    refine ⟨_, e5, pa, _, 1, .int n, rfl, rfl, .inl (.inl (s5 _ _ hpa)), at_of (j := 1) rfl rfl, (by show 1 ≤ sizeLine; decide), fun t1 ht1 => ?_⟩
    have s6 := same_new ht1 (.tup [V.int n])
    have B6 := (B.same s5).same s6
    obtain ⟨yb6, hb6⟩ := B6.some
    refine ⟨_, e0, b, _, j, rfl, B6, hj, by decide, by decide, fun r H7 r0 r2 B7 o7 => ?_⟩
    have t1b : t1 ≠ b := (ne_of_none (s5 _ _ hb) ht1).symm
    have a2b : a2 ≠ b := ne_of h2 (s5 _ _ hb) (by intro z; cases z)
    have h17 := o7 _ _ (upd_same : (upd H5 t1 (.tup [V.int n])) t1 = _) t1b
    have h27 := o7 _ _ (s6 _ _ h2) a2b
    have o47 : But b H4 H7 := (but_of s5).trans ((but_of s6).trans o7)
    refine ⟨t1, r, [.int n], rfl, rfl, .inl (.inl h17), by simp, by simp, r0, by omega, fun e => ?_, fun e z hz => ?_⟩
    · refine ⟨a2, t1, [.str nm, .int n], [.int n], rfl, rfl, .inl (.inl h27), .inl (.inl h17), by simp, by simp; omega, fun z => by simp at z, fun _ g hg => ?_⟩
      exact k g [n, n] _ upd_same (.inr rfl) (B7.same (same_new hg _)) (o47.trans (but_of (same_new hg _)))
    · have s8 := same_new hz (.tup ([] : List V))
      refine ⟨a2, z, [.str nm, .int n], [], rfl, rfl, .inl (.inl (s8 _ _ h27)), .inl (.inl upd_same), by simp, by simp; omega, fun _ => ?_, fun e => absurd rfl e⟩
      exact k a2 [n] _ (s8 _ _ h27) (.inl rfl) (B7.same s8) (o47.trans (but_of s8))
  refine ⟨_, e5, 2, rfl, pa, _, rfl, .inl (.inl hpa), fun wh => ?_, fun _ a2 h2 => ?_⟩
  · have : xr = [] := by
      have w2 := wh.2
      rw [show (some 2 : Option Int) = some ((2 : Nat) : Int) from rfl, HT.sIx_nat] at w2
      simp only [List.length_cons] at w2
      exact List.eq_nil_of_length_eq_zero (by omega)
    subst this
    exact fin pa H4 hpa (fun _ _ z => z)
  · rw [cut]
    exact fin a2 _ upd_same (same_new h2 _)
theorem ok_anyrule {f fT fC fR : Addr} {fd fdT dC dR : FuncData} (F : Fun K "_law_any_rule" "_law_any_rule" sAnyRule f fd) (FT : Fun K "_law_take" "_law_take" sTake fT fdT) (bT : Binds K fdT ["_law_box_here", "_law_top"] []) (mT : mg "_law_take" = some (.ref fT))
    (GC : FnOk P w K mg base CX0 2 fC dC ["_law_box_here", "_law_words_here"] spCounts) (kC : PySem.W.keepIn K (.ref fC) = true) (bC : Binds K dC ["_law_box_here", "_law_words_here"] []) (mC : mg "_law_counts" = some (.ref fC))
    (GR : FnOk P w K mg base CX0 3 fR dR ["_law_box_here", "_law_counts_here"] spLRule) (kR : PySem.W.keepIn K (.ref fR) = true) (bR : Binds K dR ["_law_box_here", "_law_counts_here"] []) (mR : mg "_law_rule" = some (.ref fR))
    (mTuple : mg "tuple" = none) : FnOk P w K mg base CX0 4 f fd ["_law_box_here", "_law_words_here"] spAnyRule := by
  have GT : FnOk P w K mg base CX0 1 fT fdT ["_law_box_here", "_law_top"] spTake := ok_take FT
  refine F.ok scAnyRule (fun vs H Q E h => ?_) (fun cdv A outer s H vs Q E hr h => ?_)
  · obtain ⟨b, p, ws, j, rfl, _⟩ := h
    rfl
  obtain ⟨b, p, ws, j, rfl, B, hp, pb, w1, w7, wo, hj, q⟩ := h
  have r1 : Room 1 _ := hr.mono (by decide)
  have r2 : Room 2 _ := hr.mono (by decide)
  refine ⟨_, pss_cons (ps_set (i := 2) scAnyRule.nd rfl (Or.inl rfl) (pe_call GC r2 rfl mC kC bC .nil pass0 (pa_cons (pv 0) (pa_cons (pv 1) pa_nil))))
    (pss_cons (ps_asg (pe_call GR hr rfl mR kR bR .nil pass0 (pa_cons (pv 0) (pa_cons (pv 2) pa_nil))) (pg_tup (by rfl) (pgs_cons (pg_name (i := 3) scAnyRule.nd rfl (Or.inl rfl)) (pgs_cons (pg_name (i := 4) scAnyRule.nd rfl (Or.inl rfl)) pgs_nil))))
    (pss_cons (ps_if (PW.pt (pw_and (pt_cmpR (op_neD hr.units) (pv 4) (pe_tup pa_nil) (nomark _)) (pw_and1 (pt_cmpR op_eq (pe_call GT r1 rfl mT FT.kp bT .nil pass0 (pa_cons (pv 0) (pa_cons pe_int pa_nil))) pe_int (nomark _)))))
      (pss_one (ps_set (i := 4) scAnyRule.nd rfl (Or.inl rfl) (pe_callTy call_tuple_of (by rfl) mTuple (by decide +kernel) (pa_cons
        (pe_lc (own := [("_law_atom", 5)]) (g := gName 5) (tt := tYes) (te := teMore K) rfl scAnyRule.nd (pi_tup (pv 4)) (blkOk_by (N := NAr) (sc := defScope sAnyRule) (by decide +kernel)) (fun _ _ _ _ _ => pg_name (i := 5) scAnyRule.nd rfl (Or.inl rfl)) (fun _ _ _ _ _ => pts_nil)
          (fun _ _ _ _ _ => pe_op op_catT (pe_slice sl_tupA (pv 5) po_none (po_some pe_int)) (pe_op op_rep01 (pe_tup (pa_cons (pe_ix ix_tup (pv 5) pe_int (fun _ _ => rfl)) pa_nil)) (pe_call GT r1 (by rfl) mT FT.kp bT .nil pass0 (pa_cons (pv 0) (pa_cons pe_int pa_nil)))))) pa_nil)))) pss_nil)
    (pss_one (ps_ret (pe_tup (pa_cons (pv 3) (pa_cons (pv 4) pa_nil))))))), ?_⟩
  have big : (10000 : Nat) ≤ sizeLine := by decide
  refine ⟨_, rfl, _, rfl, b, p, ws, j, rfl, B, hp, pb, w1, w7, wo, by omega, fun d kvs H1 hd0 hd ct B1 o1 => ?_⟩
  refine ⟨_, rfl, _, rfl, b, d, kvs, _, rfl, B1, hd, ct, by omega, fun v r H2 T ok B2 o2 => ?_⟩
  obtain ⟨t, q0, vh, xs, rfl, ht, hA, hq, hB⟩ := T
  refine ⟨t, _, rfl, .inl (.inl ht), rfl, _, _, rfl, _, _, rfl, rfl, ?_⟩
  have o02 := o1.trans o2
  refine ⟨_, rfl, (by show 0 ≤ sizeLine; decide), fun e he => ?_⟩
  have s3 := same_new he (.tup ([] : List V))
  have sh0 : SeqAt.shaped (.tuple []) = true := by decide
  refine ⟨bdD r.bd, .tuple [], .tup (.inl (.inl (s3 _ _ hq))) (ats_dp (hB.same s3)), .tup (.inl (.inl upd_same)) .nil, bd_shaped ok.bd.ok, sh0, !(r.bd.map atD).isEmpty, congrArg (fun z => V.bl (!z)) eqv_tnil, ?_⟩
  have B3 := B2.same s3
  have o03 := o02.trans (but_of s3)
  have hA3 := atAt_same hA s3
  have hB3 := hB.same s3
  have hq3 := s3 _ _ hq
  generalize upd H2 e (.tup ([] : List V)) = H3 at B3 o03 hA3 hB3 hq3 ⊢
  have fin : ∀ (q1 : Addr) (ys : List V) (bs : List At) (H5 : Hp), AtAt H5 vh r.hd → H5 q1 = some (.tup ys) → AtsAt H5 ys bs → BodyOk (hvars r.hd.ts) bs → BoxAt H5 b (j + 40) → But b H H5 →
      ∀ c, H5 c = none → Q (.ref c) (upd H5 c (.tup [vh, .ref q1])) := by
    intro q1 ys bs H5 a5 h5 A5 ok5 B5 o5 c hc
    have s6 := same_new hc (.tup [vh, V.ref q1])
    exact q _ ⟨r.hd, bs⟩ _ ⟨c, q1, vh, ys, rfl, upd_same, atAt_same a5 s6, s6 _ _ h5, A5.same s6⟩ ⟨ok.hd, ok5⟩ (B5.same s6) (o5.trans (but_of s6))
  have same : ∀ (H5 : Hp) (m : Nat), m ≤ 40 → BoxAt H5 b (j + m) → But b H3 H5 → (tTup (tCons (tVar 3) (tCons (tVar 4) tNil))) [some (.ref b), some (.ref p), some (.ref d), some vh, some (.ref q0), none] H5 Q := by
    intro H5 m hm B5 o5
    refine ⟨_, rfl, _, rfl, (by show 2 ≤ sizeLine; decide), fun c hc => ?_⟩
    exact fin q0 xs r.bd H5 (hA3.box o5 B3) (by
      obtain ⟨yb, hb⟩ := B3.some
      exact o5 _ _ hq3 (ne_of hq3 hb (by intro z; cases z))) (hB3.box o5 B3) ok.bd (B5.more (by omega)) (o03.trans o5) c hc
  by_cases hn : r.bd = []
  · rw [hn]
    exact iteF (same H3 27 (by decide) B3 (But.refl _ _))
  have ne : (!(r.bd.map atD).isEmpty) = true := by
    cases z : r.bd with
    | nil => exact absurd z hn
    | cons a l => rfl
  rw [ne]
  refine iteT ?_
  refine ⟨_, rfl, b, _, _, rfl, B3, by omega, by decide, by decide, fun n H4 n0 n2 B4 o4 => ?_⟩
  by_cases hz : ¬ n = 0
  · refine ⟨rfl, false, congrArg V.bl (decide_eq_false fun z => hz (V.int.inj z)), iteF (same H4 28 (by decide) (B4.more (by omega)) o4)⟩
  have hz : n = 0 := Decidable.not_not.mp hz
  refine ⟨rfl, true, congrArg V.bl (decide_eq_true (by rw [hz])), iteT ?_⟩
  have hB4 := hB3.box o4 B3
  have hA4 := hA3.box o4 B3
  obtain ⟨yb, hb3⟩ := B3.some
  have hq4 := o4 _ _ hq3 (ne_of hq3 hb3 (by intro z; cases z))
  have xl := hB4.len
  have few := ok.bd.few
  refine ⟨_, rfl, q0, rfl, ⟨_, .inl (.inl hq4)⟩, fun D hD => lc_tup (K := K) (a := q0) (xs := xs) (fun i H5 => ∃ (vs : List V) (as : List At), H5 D = some (.lst vs) ∧ AtsAt H5 vs as ∧ as.length = i ∧ (∀ a ∈ as, AtOk 50 a ∧ ∀ u ∈ a.ts, ∃ n ∈ hvars r.hd.ts, u = Tm.v n) ∧ BoxAt H5 b (j + 28 + i) ∧ But b H4 H5)
    ⟨[], [], upd_same, trivial, rfl, by simp, (B4.same (same_new hD _)).more (by omega), but_of (same_new hD _)⟩ (fun i H5 _ ⟨_, _, _, _, _, _, _, o⟩ => .inl (.inl (o _ _ hq4 (by
      obtain ⟨yb4, hb4⟩ := B4.some
      exact ne_of hq4 hb4 (by intro z; cases z))))) ?_ ?_⟩
  · rintro i x H5 hi ⟨vs, as, h5, A5, al, ak, B5, o5⟩
    obtain ⟨a, ha, T⟩ := hB4.get hi
    have il : i < r.bd.length := (List.getElem?_eq_some_iff.mp ha).1
    have am := List.mem_of_getElem? ha
    have aok := ok.bd.ok a am
    have avs := ok.bd.vs a am
    have T5 := T.box o5 B4
    obtain ⟨pa, xa, rfl, hpa, TA⟩ := T5
    have one := aok.one
    have two := aok.two
    have xal := TA.len
    refine ⟨rfl, ?_⟩
    cases hts : a.ts with
    | nil => rw [hts] at one; simp at one
    | cons t0 tr =>
      rw [hts] at TA avs xal two
      cases xa with
      | nil => simp at xal
      | cons x0 xr =>
        obtain ⟨n1, hn1, rfl⟩ := avs t0 (by simp)
        obtain ⟨T0, _⟩ := TA
        cases T0
        have sm1 := (aok.sm (.v n1) (by rw [hts]; simp)).1
        have Db : D ≠ b := by
          obtain ⟨yb4, hb4⟩ := B4.some
          exact (ne_of_none hb4 hD).symm
        refine more_ok (nm := a.nm) (n := n1) (xr := xr) rfl rfl hpa (by simp at xal two; omega) B5 (by omega) fun g zs H6 hg hzs B6 o6 => ?_
        have h6 := o6 _ _ h5 Db
        have gD : g ≠ D := ne_of hg h6 (by intro z; cases z)
        refine ⟨vs, h6, by have := A5.len; omega, vs ++ [.ref g], as ++ [⟨a.nm, zs.map Tm.v⟩], upd_same, ?_, by simp [al], ?_, (B6.upd Db _).more (by omega), fun c o z nb => ?_⟩
        · have tup : ∀ c ys, H5 c = some (.tup ys) → (upd H6 D (.lst (vs ++ [.ref g]))) c = some (.tup ys) := fun c ys z => by
            rw [upd_ne (ne_of z h5 (by intro e; cases e))]
            obtain ⟨yb5, hb5⟩ := B5.some
            exact o6 _ _ z (ne_of z hb5 (by intro e; cases e))
          refine (A5.mono tup).append ⟨⟨g, zs.map V.int, rfl, by rw [upd_ne gD]; exact hg, ?_⟩, trivial⟩
          have each : ∀ zs : List Int, AllAt (upd H6 D (.lst (vs ++ [.ref g]))) (zs.map V.int) (zs.map Tm.v) := by
            intro zs
            induction zs with
            | nil => trivial
            | cons z zs ih => exact ⟨.v z, ih⟩
          exact each zs
        · intro a' ha'
          rcases List.mem_append.mp ha' with ha' | ha'
          · exact ak a' ha'
          · obtain rfl : a' = ⟨a.nm, zs.map Tm.v⟩ := by simpa using ha'
            have every : ∀ u ∈ zs.map Tm.v, u = Tm.v n1 := by
              intro u hu
              rcases hzs with rfl | rfl
              · simpa using hu
              · simpa using hu
            refine ⟨{ nm := aok.nm, one := ?_, two := ?_, sm := fun u hu => ?_ }, fun u hu => ?_⟩
            · rcases hzs with rfl | rfl <;> simp
            · rcases hzs with rfl | rfl <;> simp
            · rw [every u hu]
              exact ⟨sm1, by show 1 ≤ 50; omega⟩
            · exact ⟨n1, hn1, every u hu⟩
        · rw [upd_ne (ne_of_none z hD)]
          exact o6 _ _ (o5 _ _ z nb) nb
  · rintro H5 ⟨vs, as, h5, A5, al, ak, B5, o5⟩
    refine ⟨D, vs, rfl, .inl ⟨.inl (.inl h5), fun g hg => ?_⟩⟩
    have s6 := same_new hg (.tup vs)
    refine ⟨_, rfl, _, rfl, (by show 2 ≤ sizeLine; decide), fun c hc => ?_⟩
    exact fin g vs as _ (atAt_same (hA4.box o5 B4) s6) upd_same (A5.same s6) ⟨by omega, fun a h => (ak a h).1, fun a h => (ak a h).2⟩ ((B5.same s6).more (by omega)) (o03.trans (o4.trans (o5.trans (but_of s6)))) c hc
end
end Rp

set_option maxHeartbeats 8000000
/-! Definitions of some rules, and what is kept of them. -/
namespace Rp
open PySem PySem.Spec PyProof.Rows L2 TL StX
theorem passX0 {P : Program} {w : World} {X : Cx} : Passes (L2.CX P w) X E0 := fun _ _ _ _ _ _ _ h => by
  obtain ⟨_, _, _, _, _, _, _, _, _, _, _, _, h⟩ := h
  exact h.elim
def spBegun (C : Addr) : Sp := fun vs H Q _ => ∃ (b pw : Addr) (ws : List Str) (j : Nat), vs = [.ref b, .ref pw] ∧ BoxAt H b j ∧ H pw = some (.lst (ws.map V.str)) ∧ pw ≠ b ∧ 1 ≤ ws.length ∧ ws.length ≤ 7 ∧ (∀ x ∈ ws, NameOk x) ∧ j + 400 ≤ 1000000 ∧
  ∀ (t p lt l d : Addr) (us : List V) (rs : List Ru) (kvs : KVs) (H' : Hp), H p = none → H lt = none → H l = none → lt ≠ l → H' t = some (.tup [.bl true, .ref p, .ref l, .ref d]) → DfAt C H' p lt us kvs → H' l = some (.lst us) → H' d = some (.dK kvs) →
    RusAt H' us rs → (∀ r ∈ rs, RuOk r) → us.length ≤ 8 → Kd kvs → kvs.length ≤ 4 * us.length → BoxAt H' b (j + 400) → But b H H' → Q (.ref t) H'
abbrev NBe : List Str := ["_law_box_here", "_law_words_here", "_law_told", "_law_counts_here", "_law_clash", "_law_turn", "_law_rule_here", "_law_word", "_law_given", "_law_defs"]
theorem allAts_snoc (rs : List Ru) (r : Ru) : allAts (rs ++ [r]) = allAts rs ++ (r.hd :: r.bd) := by
  unfold allAts
  rw [List.flatMap_append]
  simp
theorem knows_app (kvs : KVs) (as bs : List At) : knows kvs (as ++ bs) = knows (knows kvs as) bs := by
  unfold knows
  rw [List.foldl_append]
section
variable {P : Program} {w : World} {K : PySem.W.Frag} {mg : Str → Option Value} {base : Heap}
theorem scBegun : FnScope NBe ["_law_box_here", "_law_words_here"] (defScope sBegun) := ⟨rfl, rfl, rfl, by decide +kernel, rfl, by decide +kernel, by decide +kernel⟩
theorem ok_begun {f fT fA fD fO fM C CC fI q0 : Addr} {fd fdT dA dD dO dM dI : FuncData} (F : Fun K "_law_begun" "_law_begun" sBegun f fd) (FT : Fun K "_law_take" "_law_take" sTake fT fdT) (bT : Binds K fdT ["_law_box_here", "_law_top"] []) (mT : mg "_law_take" = some (.ref fT))
    (GA : FnOk P w K mg base CX0 4 fA dA ["_law_box_here", "_law_words_here"] spAnyRule) (kA : PySem.W.keepIn K (.ref fA) = true) (bA : Binds K dA ["_law_box_here", "_law_words_here"] []) (mA : mg "_law_any_rule" = some (.ref fA))
    (GD : FnOk P w K mg base CX0 1 fD dD ["_law_counts_here", "_law_rule_here"] spDue) (kD : PySem.W.keepIn K (.ref fD) = true) (bD : Binds K dD ["_law_counts_here", "_law_rule_here"] []) (mD : mg "_law_due_clash" = some (.ref fD))
    (GO : FnOk P w K mg base CX0 1 fO dO ["_law_counts_here", "_law_rule_here"] spToldOn) (kO : PySem.W.keepIn K (.ref fO) = true) (bO : Binds K dO ["_law_counts_here", "_law_rule_here"] []) (mO : mg "_law_told_on" = some (.ref fO))
    (GM : FnOk P w K mg base CX0 7 fM dM ["_law_rules_told"] (spMadeL K C)) (kM : PySem.W.keepIn K (.ref fM) = true) (bM : Binds K dM ["_law_rules_told"] []) (mM : mg "_law_made" = some (.ref fM))
    (M : Mk K C fI) (mC : mg "Definitions" = some (.ref C)) (GI : FnOk P w K mg base (L2.CX P w) 5 fI dI ["self", "rules"] (spDInit K C CC)) (bI : Binds K dI ["self", "rules"] [.ref q0]) (hq0 : ∀ H' : Hp, SqT K H' q0 [])
    (mRange : mg "range" = none) (mList : mg "list" = none) (mTuple : mg "tuple" = none) (mIsi : mg "isinstance" = none) : FnOk P w K mg base CX0 8 f fd ["_law_box_here", "_law_words_here"] (spBegun C) := by
  have GT : FnOk P w K mg base CX0 1 fT fdT ["_law_box_here", "_law_top"] spTake := ok_take FT
  refine F.ok scBegun (fun vs H Q E h => ?_) (fun cdv A outer s H vs Q E hr h => ?_)
  · obtain ⟨b, pw, ws, j, rfl, _⟩ := h
    rfl
  obtain ⟨b, pw, ws, j, rfl, B, hpw, pwb, w1, w7, wo, hj, q⟩ := h
  have r1 : Room 1 _ := hr.mono (by decide)
  have r4 : Room 4 _ := hr.mono (by decide)
  have r6 : Room 6 _ := hr.mono (by decide)
  refine ⟨_, pss_cons (ps_par3 (i := 2) (j := 3) (l := 4) rfl scBegun.nd rfl rfl rfl (by decide) (by decide) (by decide) rfl rfl rfl (pa_cons (pe_lst pa_nil) (pa_cons pe_dnewK (pa_cons pe_non pa_nil))) (by rfl))
    (pss_cons (ps_for PassesOwn.never rfl (pi_range1 (by rfl) mRange (pa_cons (pe_call GT r1 rfl mT FT.kp bT .nil pass0 (pa_cons (pv 0) (pa_cons pe_int pa_nil))) pa_nil)) (pg_name (i := 5) scBegun.nd rfl (Or.inl rfl))
      (pss_cons (ps_set (i := 6) scBegun.nd rfl (Or.inl rfl) (pe_call GA r4 rfl mA kA bA .nil pass0 (pa_cons (pv 0) (pa_cons (pv 1) pa_nil))))
      (pss_cons (ps_set (i := 7) scBegun.nd rfl (Or.inl rfl) (pe_call GD r1 rfl mD kD bD .nil pass0 (pa_cons (pv 3) (pa_cons (pv 6) pa_nil))))
      (pss_cons (ps_if (pt_cmpR op_isN (pv 7) pe_non (nomark _)) (pss_one (ps_set (i := 3) scBegun.nd rfl (Or.inl rfl) (pe_call GO r1 rfl mO kO bO .nil pass0 (pa_cons (pv 3) (pa_cons (pv 6) pa_nil))))) pss_nil)
      (pss_cons (ps_expr (pe_bm PySem.F.plainAttrs_list PySem.F.slot_list_append PySem.F.type_list_append mt_append (pv 2) (pa_cons (pv 6) pa_nil)))
      (pss_one (ps_set (i := 4) scBegun.nd rfl (Or.inl rfl) (pe_ifExp (pt_cmpR op_isN (pv 4) pe_non (nomark _)) (pv 7) (pv 4)))))))))
    (pss_cons (ps_set (i := 8) scBegun.nd rfl (Or.inl rfl) (pe_ix ix_list (pe_lst (pa_cons (pe_callTy call_list_of (by rfl) mList (by decide +kernel) (pa_cons (pv 2) pa_nil)) (pa_cons (pe_callTy call_tuple_of (by rfl) mTuple (by decide +kernel) (pa_cons (pv 2) pa_nil)) pa_nil))) (pe_call GT r1 rfl mT FT.kp bT .nil pass0 (pa_cons (pv 0) (pa_cons pe_int pa_nil))) (fun _ _ => rfl)))
    (pss_cons (ps_set (i := 9) scBegun.nd rfl (Or.inl rfl) (pe_call GM hr rfl mM kM bM .nil pass0 (pa_cons (pv 8) pa_nil)))
    (pss_cons (ps_if (pt_val (pe_callB (id := "isinstance") call_isi (by rfl) mIsi (by decide +kernel) (pa_cons (pv 8) (pa_cons (pe_bltn (v := .ty "list") (by rfl) mList (by decide +kernel) rfl) pa_nil)))) (pss_one (ps_expr (pe_bm PySem.F.plainAttrs_list PySem.F.slot_list_append PySem.F.type_list_append mt_append (pv 8) (pa_cons pe_str pa_nil)))) pss_nil)
    (pss_cons (ps_if (pt_cmpR op_notN (pv 4) pe_non (nomark _)) (pss_one (ps_ret (pe_tup (pa_cons (pe_cmpR op_eq (pv 9) (pv 4) (nomark _)) (pa_cons (pe_make0 (dvs := [.ref q0]) M GI r6 rfl mC bI (.cons rfl .nil) passX0) (pa_cons (pe_lst pa_nil) (pa_cons pe_dnewK pa_nil))))))) pss_nil)
    (pss_one (ps_ret (pe_tup (pa_cons pe_bl (pa_cons (pv 9) (pa_cons (pv 2) (pa_cons (pv 3) pa_nil)))))))))))), ?_⟩
  have big : (10000 : Nat) ≤ sizeLine := by decide
  obtain ⟨yb, hb⟩ := B.some
  refine ⟨(by show 0 ≤ sizeLine; decide), fun l hl => ?_⟩
  have s1 := same_new hl (.lst ([] : List V))
  have hl1 : (upd H l (.lst ([] : List V))) l = some (.lst []) := upd_same
  refine fun d0 hd0 => ?_
  have s2 := same_new hd0 (.dK ([] : KVs))
  have s12 := s1.trans s2
  have hl2 := s2 _ _ hl1
  have hd2 : (upd (upd H l (.lst ([] : List V))) d0 (.dK ([] : KVs))) d0 = some (.dK []) := upd_same
  generalize upd (upd H l (.lst ([] : List V))) d0 (.dK ([] : KVs)) = H2 at s12 hl2 hd2 ⊢
  refine ⟨_, _, _, rfl, ?_⟩
  have B2 := B.same s12
  have lb : l ≠ b := (ne_of_none hb hl).symm
  refine ⟨_, rfl, b, _, j, rfl, B2, by omega, by decide, by decide, fun n H3 n0 n9 B3 o3 => ?_⟩
  obtain ⟨k, rfl⟩ := Int.eq_ofNat_of_zero_le n0
  obtain ⟨yb2, hb2⟩ := B2.some
  have hl3 := o3 _ _ hl2 lb
  have hd3 := o3 _ _ hd2 (ne_of hd2 hb2 (by intro z; cases z))
  have o03 : But b H H3 := (but_of s12).trans o3
  refine ⟨_, rfl, by omega, by omega, for_range (lo := 0) (n := ((k : Nat) : Int).toNat) (fun i σ H4 => ∃ (us : List V) (rs : List Ru) (kvs : KVs) (c : Option Str) (d : Addr) (x5 x6 x7 : Option V), σ = [some (.ref b), some (.ref pw), some (.ref l), some (.ref d), some (optV c), x5, x6, x7, none, none] ∧
      H4 l = some (.lst us) ∧ us.length = i ∧ RusAt H4 us rs ∧ (∀ r ∈ rs, RuOk r) ∧ H4 d = some (.dK kvs) ∧ Kd kvs ∧ kvs.length ≤ 4 * i ∧ clash [] (allAts rs) = c ∧ (c = none → kvs = knows [] (allAts rs)) ∧ BoxAt H4 b (j + 1 + 40 * i) ∧ But b H H4)
    ⟨[], [], [], none, d0, none, none, none, rfl, hl3, rfl, trivial, by simp, hd3, Kd.nil, by simp, rfl, fun _ => rfl, B3.more (by omega), o03⟩ ?_ ?_⟩
  · rintro i σ H4 hi ⟨us0, rs, kvs, c, d, x5, x6, x7, rfl, h4l, ul, RS, ok, h4d, kd, kl, hc, hk, B4, o4⟩
    have i8 : i < 8 := by omega
    obtain ⟨yb4, hb4⟩ := B4.some
    have db : d ≠ b := ne_of h4d hb4 (by intro z; cases z)
    have hpw4 := o4 _ _ hpw pwb
    refine ⟨_, rfl, _, rfl, b, pw, ws, _, rfl, B4, hpw4, pwb, w1, w7, wo, by omega, fun v r H5 T rok B5 o5 => ?_⟩
    have h5l := o5 _ _ h4l lb
    have h5d := o5 _ _ h4d db
    have RS5 : RusAt H5 us0 rs := RS.mono fun a xs z => o5 _ _ z (ne_of z hb4 (by intro e; cases e))
    have rb : r.bd.length ≤ 3 := rok.bd.few
    have rl := RS.len
    refine ⟨_, rfl, _, rfl, d, v, kvs, r, rfl, h5d, kd, by omega, by omega, T, fun H6 s6 => ?_⟩
    have h6l := s6 _ _ h5l
    have h6d := s6 _ _ h5d
    have B6 := B5.same s6
    have cm := clash_more (as := allAts rs) (bs := r.hd :: r.bd) Kd.nil
    have inv : ∀ (d' : Addr) (kvs' : KVs) (H7 : Hp) (y5 y7 : Option V) (c' : Option Str), H7 d' = some (.dK kvs') → Kd kvs' → kvs'.length ≤ 4 * (i + 1) → clash [] (allAts (rs ++ [r])) = c' → (c' = none → kvs' = knows [] (allAts (rs ++ [r]))) → Same H6 H7 →
        ∃ (us : List V) (rs : List Ru) (kvs : KVs) (c : Option Str) (d : Addr) (x5 x6 x7 : Option V), [some (.ref b), some (.ref pw), some (.ref l), some (.ref d'), some (optV c'), y5, some v, y7, none, none] = [some (.ref b), some (.ref pw), some (.ref l), some (.ref d), some (optV c), x5, x6, x7, none, none] ∧
          (upd H7 l (.lst (us0 ++ [v]))) l = some (.lst us) ∧ us.length = i + 1 ∧ RusAt (upd H7 l (.lst (us0 ++ [v]))) us rs ∧ (∀ r ∈ rs, RuOk r) ∧ (upd H7 l (.lst (us0 ++ [v]))) d = some (.dK kvs) ∧ Kd kvs ∧ kvs.length ≤ 4 * (i + 1) ∧ clash [] (allAts rs) = c ∧ (c = none → kvs = knows [] (allAts rs)) ∧
            BoxAt (upd H7 l (.lst (us0 ++ [v]))) b (j + 1 + 40 * (i + 1)) ∧ But b H (upd H7 l (.lst (us0 ++ [v]))) := by
      intro d' kvs' H7 y5 y7 c' h7d kd7 kl7 hc7 hk7 s7
      have h7l := s7 _ _ h6l
      have tup : ∀ a xs, H5 a = some (.tup xs) → (upd H7 l (.lst (us0 ++ [v]))) a = some (.tup xs) := fun a xs z => by
        rw [upd_ne (ne_of z h5l (by intro e; cases e))]
        exact s7 _ _ (s6 _ _ z)
      refine ⟨us0 ++ [v], rs ++ [r], kvs', c', d', y5, some v, y7, rfl, upd_same, by simp [ul], RusAt.snoc (T.mono tup) (RS5.mono tup), ?_, by rw [upd_ne (ne_of h7d h7l (by intro z; cases z))]; exact h7d, kd7, kl7, hc7, hk7, ((B6.same s7).upd lb _).more (by omega), fun a o z nb => ?_⟩
      · intro r' hr'
        rcases List.mem_append.mp hr' with z | z
        · exact ok r' z
        · obtain rfl : r' = r := by simpa using z
          exact rok
      · rw [upd_ne (ne_of_none z hl)]
        exact s7 _ _ (s6 _ _ (o5 _ _ (o4 _ _ z nb) nb))
    rw [← allAts_snoc] at cm
    cases hw : clash kvs (r.hd :: r.bd) with
    | none =>
      refine ⟨_, rfl, rfl, true, rfl, iteT ?_⟩
      refine ⟨_, rfl, _, rfl, d, v, kvs, r, rfl, h6d, by omega, by omega, T.same s6, fun d' H7 hd' h7d s7 => ?_⟩
      refine ⟨_, rfl, .inl ⟨rfl, _, .inl (.inl (s7 _ _ h6l))⟩, _, rfl, l, _, _, rfl, rfl, s7 _ _ h6l, by omega, ?_⟩
      have kd7 := knows_ok kd hw
      have kl7 : (knows kvs (r.hd :: r.bd)).length ≤ 4 * (i + 1) := by
        have := knows_le (as := r.hd :: r.bd) (kvs := kvs)
        simp only [List.length_cons] at this
        omega
      cases c with
      | none =>
        have e := hk rfl
        refine ⟨_, rfl, rfl, true, rfl, iteT ⟨_, rfl, ?_⟩⟩
        exact inv d' _ H7 _ _ none h7d kd7 kl7 (by rw [cm.1 hc, ← e]; exact hw) (fun _ => by rw [allAts_snoc, knows_app, ← e]) s7
      | some x0 =>
        refine ⟨_, rfl, rfl, false, rfl, iteF ⟨_, rfl, ?_⟩⟩
        exact inv d' _ H7 _ _ (some x0) h7d kd7 kl7 (cm.2 x0 hc) (fun z => by cases z) s7
    | some x =>
      refine ⟨_, rfl, rfl, false, rfl, iteF ?_⟩
      refine ⟨_, rfl, .inl ⟨rfl, _, .inl (.inl h6l)⟩, _, rfl, l, _, _, rfl, rfl, h6l, by omega, ?_⟩
      cases c with
      | none =>
        have e := hk rfl
        refine ⟨_, rfl, rfl, true, rfl, iteT ⟨_, rfl, ?_⟩⟩
        exact inv d kvs H6 _ _ (some x) h6d kd (by omega) (by rw [cm.1 hc, ← e]; exact hw) (fun z => by cases z) (fun _ _ z => z)
      | some x0 =>
        refine ⟨_, rfl, rfl, false, rfl, iteF ⟨_, rfl, ?_⟩⟩
        exact inv d kvs H6 _ _ (some x0) h6d kd (by omega) (cm.2 x0 hc) (fun z => by cases z) (fun _ _ z => z)
  · rintro σ H4 ⟨us, rs, kvs, c, d, x5, x6, x7, rfl, h4l, ul, RS, ok, h4d, kd, kl, hc, hk, B4, o4⟩
    have u8 : us.length ≤ 8 := by omega
    refine ⟨_, rfl, l, _, rfl, .inl (.inl (.inl h4l)), fun g1 hg1 => ?_⟩
    have s5 := same_new hg1 (.lst us)
    have h5g1 : (upd H4 g1 (.lst us)) g1 = some (.lst us) := upd_same
    have lg1 : l ≠ g1 := ne_of_none h4l hg1
    have h5l := s5 _ _ h4l
    generalize upd H4 g1 (.lst us) = H5 at s5 h5g1 h5l ⊢
    refine ⟨_, rfl, l, us, rfl, .inl ⟨.inl (.inl h5l), fun g2 hg2 => ?_⟩⟩
    have s6 := same_new hg2 (.tup us)
    have h6g2 : (upd H5 g2 (.tup us)) g2 = some (.tup us) := upd_same
    have h6g1 := s6 _ _ h5g1
    generalize upd H5 g2 (.tup us) = H6 at s6 h6g1 h6g2 ⊢
    refine ⟨(by show 2 ≤ sizeLine; decide), fun e he => ?_⟩
    have s7 := same_new he (.lst [V.ref g1, V.ref g2])
    have h7e : (upd H6 e (.lst [V.ref g1, V.ref g2])) e = some (.lst [V.ref g1, V.ref g2]) := upd_same
    have h7g1 := s7 _ _ h6g1
    have h7g2 := s7 _ _ h6g2
    have s47 := s5.trans (s6.trans s7)
    generalize upd H6 e (.lst [V.ref g1, V.ref g2]) = H7 at s47 h7e h7g1 h7g2 ⊢
    have B7 := B4.same s47
    obtain ⟨yb4, hb4⟩ := B4.some
    have g1b : g1 ≠ b := (ne_of_none hb4 hg1).symm
    have eb : e ≠ b := (ne_of_none (s6 _ _ (s5 _ _ hb4)) he).symm
    have hb7 := s47 _ _ hb4
    refine ⟨_, rfl, b, _, _, rfl, B7, by omega, by decide, by decide, fun n H8 n0 n2 B8 o8 => ?_⟩
    have h8e := o8 _ _ h7e eb
    have h8g1 := o8 _ _ h7g1 g1b
    have h8g2 := o8 _ _ h7g2 (ne_of h7g2 hb7 (by intro z; cases z))
    have o48 : But b H4 H8 := (but_of s47).trans o8
    have o08 := o4.trans o48
    have RS8 : RusAt H8 us rs := RS.mono fun a xs z => o48 _ _ z (ne_of z hb4 (by intro e; cases e))
    have h8l := o48 _ _ h4l lb
    have h8d := o48 _ _ h4d (ne_of h4d hb4 (by intro z; cases z))
    have few : ∀ r ∈ rs, r.bd.length ≤ 9 := fun r hr => by have := (ok r hr).bd.few; omega
    have rl := RS.len
    have live : ∀ a o, H a = some o → ∃ o', H8 a = some o' := fun a o z => by
      by_cases nb : a = b
      · subst nb
        exact B8.some.elim fun ys h => ⟨_, h⟩
      · exact ⟨o, o08 _ _ z nb⟩
    have g1H : H g1 = none := but_none o4 B4 hg1
    have old : ∀ a, H8 a = none → H a = none := fun a z => by
      cases e : H a with
      | none => rfl
      | some o => obtain ⟨o', h'⟩ := live a o e; rw [z] at h'; cases h'
    have box : ∀ H10 : Hp, (∀ a o, H8 a = some o → a ≠ g1 → H10 a = some o) → BoxAt H10 b (j + 400) := fun H10 ke => by
      obtain ⟨x, y, z, h, r⟩ := B8.ex
      have : BoxAt H10 b (j + 1 + 40 * ((k : Int).toNat) + 1) := ⟨x, y, z, ke _ _ h g1b.symm, r⟩
      exact this.more (by omega)
    have bu : ∀ H10 : Hp, (∀ a o, H8 a = some o → a ≠ g1 → H10 a = some o) → But b H H10 := fun H10 ke a o z nb => ke _ _ (o08 _ _ z nb) (ne_of_none z g1H)
    have finN : ∀ (p lt : Addr) (H10 : Hp), c = none → H8 p = none → H8 lt = none → DfAt C H10 p lt us (knows [] (allAts rs)) → (∀ a o, H8 a = some o → a ≠ g1 → H10 a = some o) → ∀ t, H10 t = none → Q (.ref t) (upd H10 t (.tup [.bl true, .ref p, .ref l, .ref d])) := by
      intro p lt H10 cn hp hlt DA ke t ht
      rw [← hk cn] at DA
      have s11 := same_new ht (.tup [V.bl true, .ref p, .ref l, .ref d])
      obtain ⟨dx, dt, h1, h2, h3⟩ := DA
      exact q t p lt l d us rs kvs _ (old _ hp) (old _ hlt) hl (ne_of_none h8l hlt).symm upd_same ⟨dx, dt, s11 _ _ h1, s11 _ _ h2, s11 _ _ h3⟩ (s11 _ _ (ke _ _ h8l lg1)) (s11 _ _ (ke _ _ h8d (ne_of h8d h8g1 (by intro z; cases z)))) (RS8.mono fun a xs z => s11 _ _ (ke _ _ z (ne_of z h8g1 (by intro e; cases e)))) ok u8 kd (by omega) ((box H10 ke).same s11) ((bu H10 ke).trans (but_of s11))
    have ee : ∀ x : Str, decide (V.str x = V.str x) = true := fun x => decide_eq_true rfl
    have finS : ∀ (x : Str) (H10 : Hp), (∀ a o, H8 a = some o → a ≠ g1 → H10 a = some o) → ∀ p dx, H10 p = none → H10 dx = none → dx ≠ p → spDInit K C CC [.ref p, .ref q0] (upd (upd H10 dx (.own p)) p (.ins C dx []))
        (fun v H11 => v = .non ∧ ([] : List V).length ≤ sizeLine ∧ ∀ l2, H11 l2 = none → ∀ d2, (upd H11 l2 (.lst [])) d2 = none → [V.bl (decide (V.str x = V.str x)), .ref p, .ref l2, .ref d2].length ≤ sizeLine ∧ ∀ t, (upd (upd H11 l2 (.lst [])) d2 (.dK [])) t = none →
          Q (.ref t) (upd (upd (upd H11 l2 (.lst [])) d2 (.dK [])) t (.tup [V.bl (decide (V.str x = V.str x)), .ref p, .ref l2, .ref d2]))) E0 := by
      intro x H10 ke
      have out : ∀ a, H10 a = none → H a = none := fun a z => by
        cases e : H a with
        | none => rfl
        | some o =>
          obtain ⟨o', h'⟩ := live a o e
          have := ke _ _ h' (ne_of_none e g1H)
          rw [z] at this; cases this
      rw [ee]
      refine fun p dx hp hdx ne => ⟨p, q0, dx, [], [], rfl, upd_same, .inr (.inr ⟨rfl, hq0⟩), trivial, by simp, by simp, fun cn lt H11 hlt DA o11 => ⟨rfl, (by show 0 ≤ sizeLine; decide), fun l2 hl2 d2 hd2 => ⟨(by show 4 ≤ sizeLine; decide), fun t ht => ?_⟩⟩, fun x cx => by cases cx⟩
      have s12 := same_new hl2 (.lst ([] : List V))
      have s13 := same_new hd2 (.dK ([] : KVs))
      have s14 := same_new ht (.tup [V.bl true, .ref p, .ref l2, .ref d2])
      have s := s12.trans (s13.trans s14)
      obtain ⟨dx', dt, h1, h2, h3⟩ := DA
      have n1 : ∀ a, (upd (upd H10 dx (.own p)) p (.ins C dx [])) a = none → H10 a = none := fun a z => by
        cases e : H10 a with
        | none => rfl
        | some o => rw [upd_ne (ne_of_none e hp), upd_ne (ne_of_none e hdx), e] at z; cases z
      have n2 : ∀ a, H11 a = none → H10 a = none := fun a z => by
        cases e : H10 a with
        | none => rfl
        | some o =>
          have ap := ne_of_none e hp
          have := o11 a o (by rw [upd_ne ap, upd_ne (ne_of_none e hdx)]; exact e) ap
          rw [z] at this; cases this
      have ke11 : ∀ a o, H8 a = some o → a ≠ g1 → H11 a = some o := fun a o z ng => by
        have z10 := ke _ _ z ng
        have ap := ne_of_none z10 hp
        exact o11 a o (by rw [upd_ne ap, upd_ne (ne_of_none z10 hdx)]; exact z10) ap
      exact q t p lt l2 d2 [] [] [] _ (out _ hp) (out _ (n1 _ hlt)) (out _ (n2 _ hl2)) (ne_of_none h2 hl2) upd_same ⟨dx', dt, s _ _ h1, s _ _ h2, s _ _ h3⟩ (s14 _ _ (s13 _ _ upd_same)) (s14 _ _ upd_same) trivial (by simp) (by simp) Kd.nil (by simp) ((box H11 ke11).same s) ((bu H11 ke11).trans (but_of s))
    rcases (by omega : n = 0 ∨ n = 1) with rfl | rfl
    · refine ⟨e, _, 0, .ref g1, rfl, rfl, .inl (.inl h8e), at_of (j := 0) rfl rfl, ?_⟩
      refine ⟨_, rfl, g1, us, rs, rfl, .inl h8g1, RS8, by omega, few, fun cn p lt H9 hp hlt DA s9 => ?_, fun x cx H9 s9 => ?_⟩
      · have h9g1 := s9 _ _ h8g1
        refine ⟨_, rfl, _, _, _, _, true, rfl, .ty "list", .base (.lst h9g1), kitB_of (by decide +kernel), true, rfl, iteT ?_⟩
        refine ⟨_, rfl, .inl ⟨rfl, _, .inl (.inl h9g1)⟩, g1, _, _, rfl, rfl, h9g1, by omega, ?_⟩
        rw [cn] at hc
        subst hc
        refine ⟨_, rfl, rfl, false, rfl, iteF ?_⟩
        refine ⟨_, rfl, _, rfl, _, rfl, (by show 4 ≤ sizeLine; decide), ?_⟩
        obtain ⟨dx, dt, h1, h2, h3⟩ := DA
        refine finN p lt _ rfl hp hlt ⟨dx, dt, by rw [upd_ne (ne_of h1 h9g1 (by intro z; cases z))]; exact h1, by rw [upd_ne (ne_of_none h8g1 hlt).symm]; exact h2, by rw [upd_ne (ne_of h3 h9g1 (by intro z; cases z))]; exact h3⟩ fun a o z ng => ?_
        rw [upd_ne ng]
        exact s9 _ _ z
      · have h9g1 := s9 _ _ h8g1
        refine ⟨_, rfl, _, _, _, _, true, rfl, .ty "list", .base (.lst h9g1), kitB_of (by decide +kernel), true, rfl, iteT ?_⟩
        refine ⟨_, rfl, .inl ⟨rfl, _, .inl (.inl h9g1)⟩, g1, _, _, rfl, rfl, h9g1, by omega, ?_⟩
        rw [cx] at hc
        subst hc
        refine ⟨_, rfl, rfl, true, rfl, iteT ?_⟩
        refine ⟨_, rfl, _, rfl, rfl, ?_⟩
        refine finS x _ fun a o z ng => ?_
        rw [upd_ne ng]
        exact s9 _ _ z
    · refine ⟨e, _, 1, .ref g2, rfl, rfl, .inl (.inl h8e), at_of (j := 1) rfl rfl, ?_⟩
      refine ⟨_, rfl, g2, us, rs, rfl, .inr h8g2, RS8, by omega, few, fun cn p lt H9 hp hlt DA s9 => ?_, fun x cx H9 s9 => ?_⟩
      · have h9g2 := s9 _ _ h8g2
        refine ⟨_, rfl, _, _, _, _, false, rfl, .ty "list", .base (.tup h9g2), kitB_of (by decide +kernel), false, rfl, iteF ?_⟩
        rw [cn] at hc
        subst hc
        refine ⟨_, rfl, rfl, false, rfl, iteF ?_⟩
        refine ⟨_, rfl, _, rfl, _, rfl, (by show 4 ≤ sizeLine; decide), ?_⟩
        exact finN p lt _ rfl hp hlt DA fun a o z ng => s9 _ _ z
      · have h9g2 := s9 _ _ h8g2
        refine ⟨_, rfl, _, _, _, _, false, rfl, .ty "list", .base (.tup h9g2), kitB_of (by decide +kernel), false, rfl, iteF ?_⟩
        rw [cx] at hc
        subst hc
        refine ⟨_, rfl, rfl, true, rfl, iteT ?_⟩
        refine ⟨_, rfl, _, rfl, rfl, ?_⟩
        exact finS x _ fun a o z ng => s9 _ _ z
end
end Rp

set_option maxHeartbeats 8000000
/-! Each second word with a letter more, where that may be. -/
namespace Rp
open PySem PySem.Spec PyProof.Rows L2 TL StX
theorem name_q {x : Str} (h : NameOk x) (s : x.length < 6) : NameOk (x ++ ("q" : Str)) := by
  have q1 : ("q" : Str).length = 1 := by decide +kernel
  have qt : tl ("q" : Str) = [113] := by decide +kernel
  refine ⟨by rw [slen]; omega, by rw [slen, q1]; omega, fun c hc => ?_, fun e => ?_⟩
  · rw [tl_append] at hc
    rcases List.mem_append.mp hc with z | z
    · exact h.low c z
    · rw [qt] at z
      have : c = 113 := by simpa using z
      omega
  · have e2 := congrArg tl e
    rw [tl_append, qt] at e2
    have it : tl ("if" : Str) = [105, 102] := by decide +kernel
    rw [it] at e2
    have := congrArg List.getLast? e2
    simp at this
theorem app_none (x : Str) : x ++ Str.empty = x := by
  refine ext_tl ?_
  rw [tl_append]
  have : tl Str.empty = [] := by decide +kernel
  rw [this, List.append_nil]
def spUnl : Sp := fun vs H Q _ => ∃ (p : Addr) (ws : List Str), vs = [.ref p] ∧ H p = some (.lst (ws.map V.str)) ∧ ws.length ≤ 7 ∧ (∀ x ∈ ws, NameOk x) ∧
  ∀ (p' : Addr) (ws' : List Str) (H' : Hp), H p' = none → H' p' = some (.lst (ws'.map V.str)) → ws'.length = ws.length → (∀ x ∈ ws', NameOk x) → Same H H' → Q (.ref p') H'
def rLess : R2 := rI0 fun i j => .bl (decide (i < j))
theorem op_less {X : Cx} : OpR X (compareOp .Lt) rLess := op_lt
def rInt : List V → Hp → VK → Prop := fun xs H Q => (∃ i, xs = [.int i] ∧ Q (.int i) H) ∨ ∃ k, xs = [.bl k] ∧ Q (.int (if k then 1 else 0)) H
def rLenS : List V → Hp → VK → Prop := fun xs H Q => ∃ z : Str, xs = [.str z] ∧ z.length ≤ sizeLine ∧ Q (.int z.length) H
def teQ : TE := tOp rAddS (tVar 2) (tOp rQs (tC (.str "q")) (tCB rInt (tCons (tAndV (tOp rEq (tOp rMod (tVar 1) (tC (.int 2))) (tC (.int 0))) (tOp rLess (tCB rLenS (tCons (tVar 2) tNil)) (tC (.int 6)))) tNil)))
section
variable {P : Program} {w : World} {K : PySem.W.Frag} {mg : Str → Option Value} {base : Heap}
theorem scUnl : FnScope ["_law_words_here", "_law_k", "_law_word"] ["_law_words_here"] (defScope sUnlikeL) := ⟨rfl, rfl, rfl, by decide +kernel, rfl, by decide +kernel, by decide +kernel⟩
theorem ok_unl {f : Addr} {fd : FuncData} (F : Fun K "_law_unlike" "_law_unlike" sUnlikeL f fd) (mEnum : mg "enumerate" = none) (mInt : mg "int" = none) (mLen : mg "len" = none) : FnOk P w K mg base CX0 1 f fd ["_law_words_here"] spUnl := by
  refine F.ok scUnl (fun vs H Q E h => ?_) (fun cdv A outer s H vs Q E hr h => ?_)
  · obtain ⟨p, ws, rfl, _⟩ := h
    rfl
  obtain ⟨p, ws, rfl, hp, wl, wo, q⟩ := h
  refine ⟨_, pss_one (ps_ret (pe_lc (own := [("_law_k", 1), ("_law_word", 2)]) (g := gTup K 2 (gCons (gName 1) (gCons (gName 2) gNil))) (tt := tYes) (te := teQ) rfl scUnl.nd (pi_enum (by rfl) mEnum (pa_cons (pv 0) pa_nil))
      (blkOk_by (N := ["_law_words_here", "_law_k", "_law_word"]) (sc := defScope sUnlikeL) (by decide +kernel))
      (fun _ _ _ _ _ => pg_tup (by rfl) (pgs_cons (pg_name (i := 1) scUnl.nd rfl (Or.inl rfl)) (pgs_cons (pg_name (i := 2) scUnl.nd rfl (Or.inl rfl)) pgs_nil))) (fun _ _ _ _ _ => pts_nil)
      (fun _ _ _ _ _ => pe_op op_addS (pv 2) (pe_op op_mulQ pe_str (pe_callTy call_int1 (by rfl) mInt (by decide +kernel) (pa_cons (pe_and (pe_cmpR op_eq (pe_op op_modP (pv 1) pe_int) pe_int (nomark _)) (pe_one (pe_cmpR op_less (pe_callB call_len_str (by rfl) mLen PySem.boot_len (pa_cons (pv 2) pa_nil)) pe_int (nomark _)))) pa_nil)))))), ?_⟩
  have big : (10000 : Nat) ≤ sizeLine := by decide
  refine ⟨_, rfl, p, _, rfl, .inl (.inl hp), fun D hD => lc_it walk_enum (fun i H2 => ∃ ys : List Str, H2 D = some (.lst (ys.map V.str)) ∧ ys.length = i ∧ (∀ x ∈ ys, NameOk x) ∧ Same H H2) ⟨[], upd_same, rfl, by simp, same_new hD _⟩ (fun i H2 _ ⟨_, _, _, _, s⟩ => .inl (.inl (s _ _ hp))) ?_ ?_⟩
  · rintro i x H3 H4 hi ⟨ys, h3, yl, yo, s3⟩ ⟨T, u, v, rfl, hT, rfl, hu, hv⟩
    obtain rfl := Option.some.inj hu
    have hv : (ws.map V.str)[i]? = some v := hv
    rw [List.getElem?_map] at hv
    obtain ⟨x, hx, rfl⟩ := Option.map_eq_some_iff.mp hv
    have xo := wo x (List.mem_of_getElem? hx)
    have x6 := xo.few
    rw [List.length_map] at hi
    have sT := same_new hT (.tup [V.int (i : Nat), V.str x])
    refine ⟨T, _, rfl, .inl (.inl upd_same), rfl, _, _, rfl, _, _, rfl, rfl, rfl, ?_⟩
    unfold teQ
    have h4 := sT _ _ h3
    have fin : ∀ z : Str, NameOk z → ∃ acc, (upd H3 T (.tup [V.int (i : Nat), V.str x])) D = some (.lst acc) ∧ acc.length < sizeLine ∧ ∃ ys : List Str, (upd (upd H3 T (.tup [V.int (i : Nat), V.str x])) D (.lst (acc ++ [V.str z]))) D = some (.lst (ys.map V.str)) ∧ ys.length = i + 1 ∧ (∀ x ∈ ys, NameOk x) ∧ Same H (upd (upd H3 T (.tup [V.int (i : Nat), V.str x])) D (.lst (acc ++ [V.str z]))) := by
      intro z zo
      refine ⟨ys.map V.str, h4, by rw [List.length_map]; omega, ys ++ [z], by rw [upd_same, List.map_append]; rfl, by simp [yl], fun y hy => ?_, fun b o w => ?_⟩
      · rcases List.mem_append.mp hy with hy | hy
        · exact yo y hy
        · obtain rfl : y = z := by simpa using hy
          exact zo
      · rw [upd_ne (ne_of_none w hD)]
        exact sT _ _ (s3 _ _ w)
    have l0 : (Str.empty : Str).length = 0 := by decide +kernel
    have l1 : ("q" : Str).length = 1 := by decide +kernel
    have no : ∀ c : Bool, c = false → (tOp rAddS (fun _ H Q => Q (.str x) H) (tOp rQs (tC (.str "q")) (fun _ H Q => rInt [.bl c] H Q))) [] (upd H3 T (.tup [V.int (i : Nat), V.str x])) (fun y H4 => ∃ acc, H4 D = some (.lst acc) ∧ acc.length < sizeLine ∧ ∃ ys : List Str, (upd H4 D (.lst (acc ++ [y]))) D = some (.lst (ys.map V.str)) ∧ ys.length = i + 1 ∧ (∀ x ∈ ys, NameOk x) ∧ Same H (upd H4 D (.lst (acc ++ [y])))) := by
      rintro c rfl
      refine .inr ⟨false, rfl, rfl, .inl ⟨rfl, _, _, rfl, rfl, by rw [l0]; omega, ?_⟩⟩
      rw [app_none]
      exact fin x xo
    refine ⟨_, rfl, _, rfl, _, _, rfl, rfl, (by show (0 : Int) < 2; decide), ?_⟩
    by_cases ev : ((i : Nat) : Int) % 2 = 0
    · refine ⟨rfl, true, congrArg V.bl (decide_eq_true (congrArg V.int ev)), iteT ?_⟩
      refine ⟨_, rfl, x, rfl, by omega, _, _, rfl, rfl, ?_⟩
      refine .inr ⟨decide (((x.length : Nat) : Int) < 6), rfl, rfl, ?_⟩
      by_cases sh : ((x.length : Nat) : Int) < 6
      · refine .inr ⟨congrArg V.int (by rw [decide_eq_true sh]; rfl), _, _, rfl, rfl, by rw [l1]; omega, ?_⟩
        exact fin _ (name_q xo (by omega))
      · refine .inl ⟨congrArg V.int (by rw [decide_eq_false sh]; rfl), _, _, rfl, rfl, by rw [l0]; omega, ?_⟩
        rw [app_none]
        exact fin x xo
    · refine ⟨rfl, false, congrArg V.bl (decide_eq_false fun z => ev (V.int.inj z)), iteF ?_⟩
      exact no false rfl
  · rintro H2 ⟨ys, h2, yl, yo, s⟩
    rw [List.length_map] at yl
    exact q D ys H2 hD h2 yl yo s
end
end Rp

set_option maxHeartbeats 8000000
/-! What is alike; what the law keeps, along its turns. -/
namespace Rp
open PySem PySem.Spec PyProof.Rows L2 TL StX
theorem str_ext {x y : Str} (h : x.cps.toList = y.cps.toList) : x = y := PySem.W.str_of_cps h
theorem alike_plain {H : Hp} {n : Nat} {x : V} (p : Plain x) : Alike H n x x := by
  cases n with
  | zero => unfold Alike; exact ⟨p, rfl⟩
  | succ n => unfold Alike; exact .inl ⟨p, rfl⟩
theorem alike_tm {H : Hp} : ∀ {t : Tm} {n : Nat} {x y : V}, TmAt H x t → TmAt H y t → t.deep < n → Alike H n x y
  | .v m, n, _, _, .v _, .v _, _ => alike_plain trivial
  | .z, n + 1, _, _, .z h, .z h', _ => by
    unfold Alike
    refine .inr ⟨_, _, _, _, rfl, rfl, .inr ⟨h, h'⟩, rfl, by simp, fun i u v h1 h2 => ?_⟩
    obtain rfl : u = v := Option.some.inj (h1.symm.trans h2)
    match i with
    | 0 => simp at h1; subst h1; exact alike_plain trivial
    | i + 1 => simp at h1
  | .s t, n + 1, _, _, .s h q, .s h' q', hd => by
    unfold Alike
    refine .inr ⟨_, _, _, _, rfl, rfl, .inr ⟨h, h'⟩, rfl, by simp, fun i u v h1 h2 => ?_⟩
    match i with
    | 0 => simp at h1 h2; subst h1 h2; exact alike_plain trivial
    | 1 => simp at h1 h2; subst h1 h2; exact alike_tm q q' (by simp only [Tm.deep] at hd; omega)
    | i + 2 => simp at h1
  | .f l r, n + 1, _, _, .f h q1 q2, .f h' q1' q2', hd => by
    unfold Alike
    simp only [Tm.deep] at hd
    refine .inr ⟨_, _, _, _, rfl, rfl, .inr ⟨h, h'⟩, rfl, by simp, fun i u v h1 h2 => ?_⟩
    match i with
    | 0 => simp at h1 h2; subst h1 h2; exact alike_plain trivial
    | 1 => simp at h1 h2; subst h1 h2; exact alike_tm q1 q1' (by omega)
    | 2 => simp at h1 h2; subst h1 h2; exact alike_tm q2 q2' (by omega)
    | i + 3 => simp at h1
theorem alike_all {H : Hp} {n : Nat} : ∀ {ts : List Tm} {xs ys : List V}, AllAt H xs ts → AllAt H ys ts → (∀ t ∈ ts, t.deep < n) → ∀ (i : Nat) (u v : V), xs[i]? = some u → ys[i]? = some v → Alike H n u v
  | [], [], [], _, _, _, i, u, v, h, _ => by simp at h
  | t :: ts, x :: xs, y :: ys, A, B, hd, 0, u, v, h, h' => by
    obtain rfl : x = u := by simpa using h
    obtain rfl : y = v := by simpa using h'
    exact alike_tm A.1 B.1 (hd t (by simp))
  | t :: ts, x :: xs, y :: ys, A, B, hd, i + 1, u, v, h, h' => alike_all A.2 B.2 (fun s hs => hd s (by simp [hs])) i u v (by simpa using h) (by simpa using h')
theorem alike_at {H : Hp} {a : At} (ok : AtOk 50 a) {x y : V} (hx : AtAt H x a) (hy : AtAt H y a) : Alike H 52 x y := by
  obtain ⟨p, xs, rfl, hp, A⟩ := hx
  obtain ⟨q, ys, rfl, hq, B⟩ := hy
  have lx := A.len
  have ly := B.len
  have two := ok.two
  unfold Alike
  refine .inr ⟨p, q, _, _, rfl, rfl, .inr ⟨hp, hq⟩, by simp [lx, ly], by simp; omega, fun i u v h1 h2 => ?_⟩
  match i with
  | 0 =>
    simp at h1 h2; subst h1 h2; exact alike_plain trivial
  | i + 1 => exact alike_all A B (fun t ht => by have := Tm.deep_lt t; have := (ok.sm t ht).2; show t.deep < 51; omega) i u v (by simpa using h1) (by simpa using h2)
theorem alike_ats {H : Hp} : ∀ {as : List At} {xs ys : List V}, (∀ a ∈ as, AtOk 50 a) → AtsAt H xs as → AtsAt H ys as → ∀ (i : Nat) (u v : V), xs[i]? = some u → ys[i]? = some v → Alike H 52 u v
  | [], [], [], _, _, _, i, u, v, h, _ => by simp at h
  | a :: as, x :: xs, y :: ys, ok, A, B, 0, u, v, h, h' => by
    obtain rfl : x = u := by simpa using h
    obtain rfl : y = v := by simpa using h'
    exact alike_at (ok a (by simp)) A.1 B.1
  | a :: as, x :: xs, y :: ys, ok, A, B, i + 1, u, v, h, h' => alike_ats (fun b hb => ok b (by simp [hb])) A.2 B.2 i u v (by simpa using h) (by simpa using h')
theorem Alike.up {H : Hp} : ∀ {n : Nat} {x y : V}, Alike H n x y → Alike H (n + 1) x y
  | 0, x, y, h => by unfold Alike at h ⊢; exact .inl h
  | n + 1, x, y, h => by
    unfold Alike at h ⊢
    rcases h with h | ⟨a, b, xs, ys, h1, h2, h3, h4, h5, h6⟩
    · exact .inl h
    · exact .inr ⟨a, b, xs, ys, h1, h2, h3, h4, h5, fun i u v p q => Alike.up (h6 i u v p q)⟩
theorem alike_ru {H : Hp} {r : Ru} (ok : RuOk r) {x y : V} (hx : RuAt H x r) (hy : RuAt H y r) : Alike H 54 x y := by
  obtain ⟨p, q, vh, xs, rfl, hp, A1, hq, A2⟩ := hx
  obtain ⟨p', q', vh', ys, rfl, hp', B1, hq', B2⟩ := hy
  have lx := A2.len
  have ly := B2.len
  have few := ok.bd.few
  unfold Alike
  refine .inr ⟨p, p', _, _, rfl, rfl, .inr ⟨hp, hp'⟩, rfl, by simp, fun i u v h1 h2 => ?_⟩
  match i with
  | 0 =>
    simp at h1 h2; subst h1 h2; exact (alike_at ok.hd.toAtOk A1 B1).up
  | 1 =>
    simp at h1 h2; subst h1 h2
    unfold Alike
    exact .inr ⟨q, q', _, _, rfl, rfl, .inr ⟨hq, hq'⟩, by omega, by omega, alike_ats ok.bd.ok A2 B2⟩
  | i + 2 => simp at h1
theorem rising_pair : ∀ {l : List Str} {p : Str}, risingS p l = true → (p :: l).Pairwise (fun a b => a.cps.toList ≤ b.cps.toList)
  | [], p, _ => by simp
  | x :: l, p, h => by
    have h' : (!ltCps x.cps.toList p.cps.toList && risingS x l) = true := h
    rw [Bool.and_eq_true] at h'
    have ih := rising_pair h'.2
    have px : p.cps.toList ≤ x.cps.toList := by
      have q := h'.1
      rw [ltCps_eq] at q
      simpa using q
    refine List.pairwise_cons.mpr ⟨fun y hy => ?_, ih⟩
    rcases List.mem_cons.mp hy with rfl | hy
    · exact px
    · exact List.le_trans px ((List.pairwise_cons.mp ih).1 y hy)
theorem sorted_pair {l : List Str} (h : sortedS l = true) : l.Pairwise (fun a b => a.cps.toList ≤ b.cps.toList) := by
  cases l with
  | nil => simp
  | cons x l => exact rising_pair h
theorem Alike.ups {H : Hp} {x y : V} {n m : Nat} (h : Alike H n x y) (le : n ≤ m) : Alike H m x y := by
  obtain ⟨k, rfl⟩ := Nat.exists_eq_add_of_le le
  clear le
  induction k with
  | zero => exact h
  | succ k ih => exact ih.up
theorem sorted_same {ys zs ks : List Str} (p : ys.Perm ks) (q : zs.Perm ks) (sy : sortedS ys = true) (sz : sortedS zs = true) : ys = zs :=
  List.Perm.eq_of_pairwise (fun a b _ _ h1 h2 => str_ext (List.le_antisymm h1 h2)) (sorted_pair sy) (sorted_pair sz) (p.trans q.symm)
theorem alike_lst {H : Hp} {n : Nat} {a c : Addr} {xs ys : List V} (ha : H a = some (.lst xs)) (hc : H c = some (.lst ys)) (l : xs.length = ys.length) (b : xs.length ≤ 1000000) (each : ∀ (i : Nat) (u v : V), xs[i]? = some u → ys[i]? = some v → Alike H n u v) : Alike H (n + 1) (.ref a) (.ref c) := by
  unfold Alike
  exact .inr ⟨a, c, xs, ys, rfl, rfl, .inl ⟨ha, hc⟩, l, b, each⟩
theorem alike_same {H : Hp} {n : Nat} {a c : Addr} {xs : List V} (ha : H a = some (.lst xs)) (hc : H c = some (.lst xs)) (b : xs.length ≤ 1000000) (each : ∀ u ∈ xs, Alike H n u u) : Alike H (n + 1) (.ref a) (.ref c) :=
  alike_lst ha hc rfl b fun i u v h1 h2 => by
    obtain rfl : u = v := Option.some.inj (h1.symm.trans h2)
    exact each u (List.mem_of_getElem? h1)
theorem rus_alike {H : Hp} {us : List V} {rs : List Ru} (R : RusAt H us rs) (ok : ∀ r ∈ rs, RuOk r) : ∀ u ∈ us, Alike H 54 u u := by
  intro u hu
  obtain ⟨i, hi⟩ := List.mem_iff_getElem?.mp hu
  obtain ⟨r, hr, T⟩ := R.get hi
  exact alike_ru (ok r (List.mem_of_getElem? hr)) T T
theorem picked_sub {x : Str} : ∀ {us : List V} {rs : List Ru}, ∀ u ∈ picked x us rs, u ∈ us := by
  intro us rs u hu
  unfold picked at hu
  obtain ⟨q, hq, e⟩ := List.mem_filterMap.mp hu
  by_cases h : q.2.hd.nm = x
  · rw [if_pos h] at e
    obtain rfl := Option.some.inj e
    exact (List.of_mem_zip hq).1
  · rw [if_neg h] at e; cases e
theorem lsts_alike {H0 H1 H : Hp} {us : List V} (al : ∀ u ∈ us, Alike H 54 u u) : ∀ {as bs : List Addr} {xss : List (List V)}, LstsAt H0 H as xss → LstsAt H1 H bs xss → (∀ xs ∈ xss, xs.length ≤ 1000000 ∧ ∀ u ∈ xs, u ∈ us) → ∀ (i : Nat) (u v : V), (as.map V.ref)[i]? = some u → (bs.map V.ref)[i]? = some v → Alike H 55 u v
  | [], [], [], _, _, _, i, u, v, h, _ => by simp at h
  | a :: as, b :: bs, xs :: xss, A, B, c, 0, u, v, h, h' => by
    obtain rfl : V.ref a = u := by simpa using h
    obtain rfl : V.ref b = v := by simpa using h'
    exact alike_same A.2.1 B.2.1 (c xs (by simp)).1 fun u hu => al u ((c xs (by simp)).2 u hu)
  | a :: as, b :: bs, xs :: xss, A, B, c, i + 1, u, v, h, h' => lsts_alike al A.2.2 B.2.2 (fun ys hy => c ys (by simp [hy])) i u v (by simpa using h) (by simpa using h')
theorem LstsAt.len {H0 H : Hp} : ∀ {as : List Addr} {xss : List (List V)}, LstsAt H0 H as xss → as.length = xss.length
  | [], [], _ => rfl
  | _ :: _, _ :: _, h => congrArg (· + 1) (LstsAt.len h.2.2)
theorem plain_tm {kvs : KVs} (K : Kd kvs) (x : Str) : Plain (tmV kvs x) := by
  unfold tmV
  cases e : valV kvs (.inr x) with
  | none => trivial
  | some v =>
    obtain ⟨m, rfl⟩ := K.val e
    trivial
/-- what is told is alike with what is due -/
theorem told_alike {H0 H1 H : Hp} {q a1 a2 a3 a4 q' c1 c2 c3 c4 : Addr} {ls ls' : List Addr} {ys ys' ks ws : List Str} {us : List V} {rs : List Ru} {kvs : KVs} (R : RusAt H us rs) (ok : ∀ r ∈ rs, RuOk r) (kd : Kd kvs) (ul : us.length ≤ 800) (kl : ks.length ≤ 800) (wl : ws.length ≤ 80)
    (py : ys.Perm ks) (sy : sortedS ys = true) (py' : ys'.Perm ks) (sy' : sortedS ys' = true)
    (hq : H q = some (.lst [.ref a1, .ref a2, .ref a3, .ref a4])) (h1 : H a1 = some (.lst us)) (h2 : H a2 = some (.lst (ys.map V.str))) (h3 : H a3 = some (.lst (ws.map (tmV kvs)))) (h4 : H a4 = some (.lst (ls.map V.ref))) (hl : LstsAt H0 H ls (ws.map fun x => picked x us rs))
    (hq' : H q' = some (.lst [.ref c1, .ref c2, .ref c3, .ref c4])) (g1 : H c1 = some (.lst us)) (g2 : H c2 = some (.lst (ys'.map V.str))) (g3 : H c3 = some (.lst (ws.map (tmV kvs)))) (g4 : H c4 = some (.lst (ls'.map V.ref))) (gl : LstsAt H1 H ls' (ws.map fun x => picked x us rs)) : Alike H 57 (.ref q) (.ref q') := by
  obtain rfl := sorted_same py py' sy sy'
  have al := rus_alike R ok
  have yl := py.length_eq
  refine alike_lst hq hq' rfl (by simp) fun i u v e1 e2 => ?_
  match i with
  | 0 =>
    simp at e1 e2; subst e1 e2
    exact (alike_same (n := 54) h1 g1 (by omega) al).up
  | 1 =>
    simp at e1 e2; subst e1 e2
    refine (alike_same (n := 54) h2 g2 (by rw [List.length_map]; omega) fun u hu => ?_).up
    obtain ⟨x, _, rfl⟩ := List.mem_map.mp hu
    exact alike_plain trivial
  | 2 =>
    simp at e1 e2; subst e1 e2
    refine (alike_same (n := 54) h3 g3 (by rw [List.length_map]; omega) fun u hu => ?_).up
    obtain ⟨x, _, rfl⟩ := List.mem_map.mp hu
    exact alike_plain (plain_tm kd x)
  | 3 =>
    simp at e1 e2; subst e1 e2
    have ll := hl.len
    have gll := gl.len
    refine alike_lst h4 g4 (by rw [List.length_map, List.length_map]; omega) (by rw [List.length_map, ll, List.length_map]; omega) (lsts_alike al hl gl fun xs hx => ?_)
    obtain ⟨x, _, rfl⟩ := List.mem_map.mp hx
    refine ⟨?_, picked_sub⟩
    have := picked_le (x := x) (us := us) (rs := rs)
    omega
  | i + 4 => simp at e1
def ruD (r : Ru) : PyData := .tuple [atD r.hd, bdD r.bd]
theorem ru_dp {K : PySem.W.Frag} {H : Hp} {v : V} {r : Ru} (h : RuAt H v r) : Dp K H v (ruD r) := by
  obtain ⟨p, q, vh, xs, rfl, h1, h2, h3, h4⟩ := h
  exact .tup (.inl (.inl h1)) (.cons (at_dp h2) (.cons (.tup (.inl (.inl h3)) (ats_dp h4)) .nil))
theorem rus_dp {K : PySem.W.Frag} {H : Hp} : ∀ {us : List V} {rs : List Ru}, RusAt H us rs → DpAll K H us (rs.map ruD)
  | [], [], _ => .nil
  | _ :: _, _ :: _, h => .cons (ru_dp h.1) (rus_dp h.2)
theorem ru_lay {r : Ru} (ok : RuOk r) : (ruD r).canLay0 = true ∧ (ruD r).depth ≤ 60 := by
  have h1 := at_lay ok.hd.toAtOk
  have h2 := ats_lay ok.bd.ok
  constructor
  · show PyData.canLayAll0 [atD r.hd, .tuple (r.bd.map atD)] = true
    simp only [PyData.canLayAll0, PyData.canLay0, h1.1, h2.1]
    rfl
  · show PyData.depthAll [atD r.hd, .tuple (r.bd.map atD)] + 1 ≤ 60
    simp only [PyData.depthAll, PyData.depth]
    omega
theorem rus_lay : ∀ {rs : List Ru}, (∀ r ∈ rs, RuOk r) → PyData.canLayAll0 (rs.map ruD) = true ∧ PyData.depthAll (rs.map ruD) ≤ 60
  | [], _ => ⟨rfl, by simp [PyData.depthAll]⟩
  | r :: rs, h => by
    have z := ru_lay (h r (by simp))
    have ih := rus_lay (rs := rs) fun b hb => h b (by simp [hb])
    simp only [List.map_cons, PyData.canLayAll0, PyData.depthAll, z.1, ih.1]
    exact ⟨rfl, by omega⟩
theorem rus_shaped {rs : List Ru} (h : ∀ r ∈ rs, RuOk r) : SeqAt.shaped (.list (rs.map ruD)) = true := by
  have z := rus_lay h
  refine shaped_of ?_ ?_
  · show PyData.canLayAll0 _ = true
    exact z.1
  · show PyData.depthAll _ + 1 ≤ 64
    omega
theorem kd_keys : ∀ {kvs : KVs}, (∀ kv ∈ kvs, ∃ (x : Str) (m : Nat), kv = (.inr x, .int (m : Nat))) → ∃ ks : List Str, kvs.map (·.1) = ks.map Sum.inr ∧ ks.length = kvs.length
  | [], _ => ⟨[], rfl, rfl⟩
  | kv :: r, h => by
    obtain ⟨ks, e1, e2⟩ := kd_keys (kvs := r) fun z hz => h z (by simp [hz])
    obtain ⟨x, m, rfl⟩ := h kv (by simp)
    exact ⟨x :: ks, by rw [List.map_cons, List.map_cons, e1], by simp [e2]⟩
/-- the places that change along the turns, and those that must not -/
structure Fx (HB : Hp) (b wp sm kp : Addr) (p lt : Nat → Addr) : Prop where
  bN : HB b = none
  kN : HB kp = none
  pN : ∀ k < 2, HB (p k) = none
  lN : ∀ k < 2, HB (lt k) = none
  p2 : p 0 ≠ p 1
  l2 : lt 0 ≠ lt 1
  lb : ∀ k < 2, lt k ≠ b
  lk : ∀ k < 2, lt k ≠ kp
  kb : kp ≠ b
  wb : wp ≠ b
  wk : wp ≠ kp
  wl : ∀ k < 2, wp ≠ lt k
  sb : sm ≠ b
  sk : sm ≠ kp
  sl : ∀ k < 2, sm ≠ lt k
/-- off the places that change -/
structure Off (b kp : Addr) (lt : Nat → Addr) (a : Addr) : Prop where
  b : a ≠ b
  k : a ≠ kp
  l : ∀ m < 2, a ≠ lt m
structure Dy (C : Addr) (HB : Hp) (b wp sm kp : Addr) (p lt : Nat → Addr) (ws : List Str) (H : Hp) (j : Nat) (t l0 d0 e tl d : Nat → Addr) (us : Nat → List V) (rs : Nat → List Ru) (kvs : Nat → KVs) : Prop where
  box : BoxAt H b j
  hwp : H wp = some (.lst (ws.map V.str))
  hsm : H sm = some (.lst [.ref (t 0), .ref (t 1)])
  htt : ∀ k < 2, H (t k) = some (.tup [.bl true, .ref (p k), .ref (l0 k), .ref (d0 k)])
  hkp : H kp = some (.lst [.ref (e 0), .ref (e 1)])
  hdf : ∀ k < 2, DfAt C H (p k) (lt k) (us k) (kvs k)
  hee : ∀ k < 2, H (e k) = some (.lst [.ref (tl k), .ref (d k)])
  htl : ∀ k < 2, H (tl k) = some (.lst (us k))
  hdd : ∀ k < 2, H (d k) = some (.dK (kvs k))
  ru : ∀ k < 2, RusAt H (us k) (rs k)
  ok : ∀ k < 2, ∀ r ∈ rs k, RuOk r
  u8 : ∀ k < 2, (us k).length ≤ 8
  kd : ∀ k < 2, Kd (kvs k)
  kl : ∀ k < 2, (kvs k).length ≤ 4 * (us k).length
  eD : ∀ k < 2, Off b kp lt (e k)
  tD : ∀ k < 2, Off b kp lt (tl k)
  old : ∀ a o, HB a = some o → H a = some o
theorem DfAt.keep {C p lt : Addr} {H H' : Hp} {us : List V} {kvs : KVs} (D : DfAt C H p lt us kvs) (hp : ∀ o, H p = some o → H' p = some o) (hl : ∀ o, H lt = some o → H' lt = some o) (hd : ∀ a kv, H a = some (.dK kv) → H' a = some (.dK kv)) : DfAt C H' p lt us kvs := by
  obtain ⟨dx, dt, h1, h2, h3⟩ := D
  exact ⟨dx, dt, hp _ h1, hl _ h2, hd _ _ h3⟩
theorem DfAt.ins {C p lt : Addr} {H : Hp} {us : List V} {kvs : KVs} (D : DfAt C H p lt us kvs) : ∃ dx fs, H p = some (.ins C dx fs) := by
  obtain ⟨dx, dt, h1, _, _⟩ := D
  exact ⟨_, _, h1⟩
theorem DfAt.lst {C p lt : Addr} {H : Hp} {us : List V} {kvs : KVs} (D : DfAt C H p lt us kvs) : H lt = some (.lst us) := by
  obtain ⟨dx, dt, _, h2, _⟩ := D
  exact h2
section
variable {C : Addr} {HB H H' : Hp} {b wp sm kp : Addr} {p lt : Nat → Addr} {ws : List Str} {j j' : Nat} {t l0 d0 e tl d : Nat → Addr} {us : Nat → List V} {rs : Nat → List Ru} {kvs : Nat → KVs}
theorem Dy.but (D : Dy C HB b wp sm kp p lt ws H j t l0 d0 e tl d us rs kvs) (x : Fx HB b wp sm kp p lt) (o : But b H H') (B : BoxAt H' b j') : Dy C HB b wp sm kp p lt ws H' j' t l0 d0 e tl d us rs kvs := by
  obtain ⟨yb, hb⟩ := D.box.some
  have tup : ∀ a xs, H a = some (.tup xs) → H' a = some (.tup xs) := fun a xs z => o _ _ z (ne_of z hb (by intro e; cases e))
  have dct : ∀ a kv, H a = some (.dK kv) → H' a = some (.dK kv) := fun a xs z => o _ _ z (ne_of z hb (by intro e; cases e))
  refine { box := B, hwp := o _ _ D.hwp x.wb, hsm := o _ _ D.hsm x.sb, htt := fun k hk => tup _ _ (D.htt k hk), hkp := o _ _ D.hkp x.kb, hdf := fun k hk => ?_, hee := fun k hk => o _ _ (D.hee k hk) (D.eD k hk).b, htl := fun k hk => o _ _ (D.htl k hk) (D.tD k hk).b, hdd := fun k hk => dct _ _ (D.hdd k hk), ru := fun k hk => (D.ru k hk).mono tup, ok := D.ok, u8 := D.u8, kd := D.kd, kl := D.kl, eD := D.eD, tD := D.tD, old := fun a w z => o _ _ (D.old _ _ z) (ne_of_none z x.bN) }
  obtain ⟨dx, fs, hp⟩ := (D.hdf k hk).ins
  exact (D.hdf k hk).keep (fun w z => o _ _ z (ne_of hp hb (by intro e; cases e))) (fun w z => o _ _ z (x.lb k hk)) dct
theorem Dy.same (D : Dy C HB b wp sm kp p lt ws H j t l0 d0 e tl d us rs kvs) (x : Fx HB b wp sm kp p lt) (s : Same H H') : Dy C HB b wp sm kp p lt ws H' j t l0 d0 e tl d us rs kvs :=
  D.but x (but_of s) (D.box.same s)
/-- f, but x at k -/
def fu {α : Type} (f : Nat → α) (k : Nat) (x : α) : Nat → α := fun i => if i = k then x else f i
theorem fu_at {α : Type} {f : Nat → α} {k : Nat} {x : α} : fu f k x k = x := if_pos rfl
theorem fu_off {α : Type} {f : Nat → α} {k i : Nat} {x : α} (h : i ≠ k) : fu f k x i = f i := if_neg h
theorem Dy.told {k : Nat} {v : V} {r : Ru} {kvs' : KVs} {H1 H2 : Hp} {e' tl' d' : Addr} (D : Dy C HB b wp sm kp p lt ws H j t l0 d0 e tl d us rs kvs) (x : Fx HB b wp sm kp p lt) (hk : k < 2) (o1 : But2 (p k) (lt k) H H1) (df1 : DfAt C H1 (p k) (lt k) (us k ++ [v]) kvs') (s2 : Same H1 H2)
    (he : H2 e' = some (.lst [.ref tl', .ref d'])) (ht : H2 tl' = some (.lst (us k ++ [v]))) (hd : H2 d' = some (.dK kvs')) (eN : H1 e' = none) (tN : H1 tl' = none) (T : RuAt H v r) (ok : RuOk r) (u8 : (us k).length < 8) (kd : Kd kvs') (kl : kvs'.length ≤ 4 * ((us k).length + 1)) :
    Dy C HB b wp sm kp p lt ws (upd H2 kp (.lst [.ref (fu e k e' 0), .ref (fu e k e' 1)])) j t l0 d0 (fu e k e') (fu tl k tl') (fu d k d') (fu us k (us k ++ [v])) (fu rs k (rs k ++ [r])) (fu kvs k kvs') := by
  obtain ⟨yb, hb⟩ := D.box.some
  obtain ⟨dx, fs, hp⟩ := (D.hdf k hk).ins
  have hl := (D.hdf k hk).lst
  have pk : ∀ a xs, H a = some (.lst xs) → a ≠ lt k → H1 a = some (.lst xs) := fun a xs z n => o1 _ _ z (ne_of z hp (by intro e; cases e)) n
  have tup : ∀ a xs, H a = some (.tup xs) → H1 a = some (.tup xs) := fun a xs z => o1 _ _ z (ne_of z hp (by intro e; cases e)) (ne_of z hl (by intro e; cases e))
  have dct : ∀ a kv, H a = some (.dK kv) → H1 a = some (.dK kv) := fun a kv z => o1 _ _ z (ne_of z hp (by intro e; cases e)) (ne_of z hl (by intro e; cases e))
  have hb1 := pk _ _ hb (x.lb k hk).symm
  have hk1 := pk _ _ D.hkp (x.lk k hk).symm
  have hk2 := s2 _ _ hk1
  have up : ∀ a o, H2 a = some o → a ≠ kp → (upd H2 kp (.lst [.ref (fu e k e' 0), .ref (fu e k e' 1)])) a = some o := fun a o z n => by rw [upd_ne n]; exact z
  have tup3 : ∀ a xs, H a = some (.tup xs) → (upd H2 kp (.lst [.ref (fu e k e' 0), .ref (fu e k e' 1)])) a = some (.tup xs) := fun a xs z => up _ _ (s2 _ _ (tup _ _ z)) (ne_of z D.hkp (by intro e; cases e))
  have dct2 : ∀ a kv, H2 a = some (.dK kv) → (upd H2 kp (.lst [.ref (fu e k e' 0), .ref (fu e k e' 1)])) a = some (.dK kv) := fun a kv z => up _ _ z (ne_of z hk2 (by intro e; cases e))
  have lst3 : ∀ a xs, H a = some (.lst xs) → a ≠ lt k → a ≠ kp → (upd H2 kp (.lst [.ref (fu e k e' 0), .ref (fu e k e' 1)])) a = some (.lst xs) := fun a xs z n n2 => up _ _ (s2 _ _ (pk _ _ z n)) n2
  have lt1 : ∀ m < 2, ∃ us, H1 (lt m) = some (.lst us) := fun m hm => by
    by_cases e : m = k
    · subst e; exact ⟨_, df1.lst⟩
    · refine ⟨_, pk _ _ (D.hdf m hm).lst fun z => ?_⟩
      rcases (by omega : (m = 0 ∧ k = 1) ∨ (m = 1 ∧ k = 0)) with ⟨rfl, rfl⟩ | ⟨rfl, rfl⟩
      · exact x.l2 z
      · exact x.l2 z.symm
  have off : ∀ a, H1 a = none → Off b kp lt a := fun a z => ⟨(ne_of_none hb1 z).symm, (ne_of_none hk1 z).symm, fun m hm => by obtain ⟨us, h⟩ := lt1 m hm; exact (ne_of_none h z).symm⟩
  have eo := off e' eN
  have to := off tl' tN
  refine { box := ?_, hwp := lst3 _ _ D.hwp (x.wl k hk) x.wk, hsm := lst3 _ _ D.hsm (x.sl k hk) x.sk, htt := fun m hm => tup3 _ _ (D.htt m hm), hkp := upd_same, hdf := fun m hm => ?_, hee := fun m hm => ?_, htl := fun m hm => ?_, hdd := fun m hm => ?_, ru := fun m hm => ?_, ok := fun m hm => ?_, u8 := fun m hm => ?_, kd := fun m hm => ?_, kl := fun m hm => ?_, eD := fun m hm => ?_, tD := fun m hm => ?_, old := fun a o z => ?_ }
  · obtain ⟨x1, y, z, h, r⟩ := D.box.ex
    exact ⟨x1, y, z, lst3 _ _ h (x.lb k hk).symm x.kb.symm, r⟩
  · by_cases em : m = k
    · subst em
      rw [fu_at, fu_at]
      obtain ⟨dx1, fs1, hp1⟩ := df1.ins
      exact df1.keep (fun w z => up _ _ (s2 _ _ z) (ne_of hp1 hk1 (by intro e; cases e))) (fun w z => up _ _ (s2 _ _ z) (x.lk m hm)) (fun a kv z => dct2 _ _ (s2 _ _ z))
    · rw [fu_off em, fu_off em]
      obtain ⟨dx1, fs1, hp1⟩ := (D.hdf m hm).ins
      refine (D.hdf m hm).keep (fun w z => up _ _ (s2 _ _ (o1 _ _ z ?_ (ne_of hp1 hl (by intro e; cases e)))) (ne_of hp1 D.hkp (by intro e; cases e))) (fun w z => up _ _ (s2 _ _ (o1 _ _ z (ne_of (D.hdf m hm).lst hp (by intro e; cases e)) ?_)) (x.lk m hm)) (fun a kv z => dct2 _ _ (s2 _ _ (dct _ _ z)))
      · intro z
        rcases (by omega : (m = 0 ∧ k = 1) ∨ (m = 1 ∧ k = 0)) with ⟨rfl, rfl⟩ | ⟨rfl, rfl⟩
        · exact x.p2 z
        · exact x.p2 z.symm
      · intro z
        rcases (by omega : (m = 0 ∧ k = 1) ∨ (m = 1 ∧ k = 0)) with ⟨rfl, rfl⟩ | ⟨rfl, rfl⟩
        · exact x.l2 z
        · exact x.l2 z.symm
  · by_cases em : m = k
    · subst em
      rw [fu_at, fu_at, fu_at]
      exact up _ _ he eo.k
    · rw [fu_off em, fu_off em, fu_off em]
      exact lst3 _ _ (D.hee m hm) ((D.eD m hm).l k hk) (D.eD m hm).k
  · by_cases em : m = k
    · subst em
      rw [fu_at, fu_at]
      exact up _ _ ht to.k
    · rw [fu_off em, fu_off em]
      exact lst3 _ _ (D.htl m hm) ((D.tD m hm).l k hk) (D.tD m hm).k
  · by_cases em : m = k
    · subst em
      rw [fu_at, fu_at]
      exact dct2 _ _ hd
    · rw [fu_off em, fu_off em]
      exact dct2 _ _ (s2 _ _ (dct _ _ (D.hdd m hm)))
  · by_cases em : m = k
    · subst em
      rw [fu_at, fu_at]
      exact RusAt.snoc (T.mono tup3) ((D.ru m hm).mono tup3)
    · rw [fu_off em, fu_off em]
      exact (D.ru m hm).mono tup3
  · by_cases em : m = k
    · subst em
      rw [fu_at]
      intro r' hr'
      rcases List.mem_append.mp hr' with z | z
      · exact D.ok m hm r' z
      · obtain rfl : r' = r := by simpa using z
        exact ok
    · rw [fu_off em]
      exact D.ok m hm
  · by_cases em : m = k
    · subst em
      rw [fu_at, List.length_append]
      show (us m).length + 1 ≤ 8
      omega
    · rw [fu_off em]
      exact D.u8 m hm
  · by_cases em : m = k
    · subst em
      rw [fu_at]
      exact kd
    · rw [fu_off em]
      exact D.kd m hm
  · by_cases em : m = k
    · subst em
      rw [fu_at, fu_at, List.length_append]
      exact kl
    · rw [fu_off em, fu_off em]
      exact D.kl m hm
  · by_cases em : m = k
    · subst em
      rw [fu_at]
      exact eo
    · rw [fu_off em]
      exact D.eD m hm
  · by_cases em : m = k
    · subst em
      rw [fu_at]
      exact to
    · rw [fu_off em]
      exact D.tD m hm
  · exact up _ _ (s2 _ _ (o1 _ _ (D.old _ _ z) (ne_of_none z (x.pN k hk)) (ne_of_none z (x.lN k hk)))) (ne_of_none z x.kN)
end
end Rp

set_option maxHeartbeats 8000000
/-! What two makings leave. -/
namespace Rp
open PySem PySem.Spec PyProof.Rows L2 TL StX
structure Bg (C : Addr) (H4 : Hp) (b D : Addr) (J : Nat) (H : Hp) (i : Nat) (t p lt l d : Nat → Addr) (us : Nat → List V) (rs : Nat → List Ru) (kvs : Nat → KVs) : Prop where
  hD : H D = some (.lst ((List.range i).map fun k => V.ref (t k)))
  htt : ∀ k < i, H (t k) = some (.tup [.bl true, .ref (p k), .ref (l k), .ref (d k)])
  hdf : ∀ k < i, DfAt C H (p k) (lt k) (us k) (kvs k)
  hll : ∀ k < i, H (l k) = some (.lst (us k))
  hdd : ∀ k < i, H (d k) = some (.dK (kvs k))
  ru : ∀ k < i, RusAt H (us k) (rs k)
  ok : ∀ k < i, ∀ r ∈ rs k, RuOk r
  u8 : ∀ k < i, (us k).length ≤ 8
  kd : ∀ k < i, Kd (kvs k)
  kl : ∀ k < i, (kvs k).length ≤ 4 * (us k).length
  pN : ∀ k < i, H4 (p k) = none
  lN : ∀ k < i, H4 (lt k) = none
  lb : ∀ k < i, lt k ≠ b
  lD : ∀ k < i, lt k ≠ D
  mb : ∀ k < i, l k ≠ b
  mD : ∀ k < i, l k ≠ D
  pp : ∀ k < i, ∀ m < k, p m ≠ p k
  ll : ∀ k < i, ∀ m < k, lt m ≠ lt k
  box : BoxAt H b (J + 400 * i)
  bu : But b H4 H
theorem Bg.step {C : Addr} {H4 : Hp} {b D : Addr} {J : Nat} {H H' : Hp} {i : Nat} {t p lt l d : Nat → Addr} {us : Nat → List V} {rs : Nat → List Ru} {kvs : Nat → KVs} (G : Bg C H4 b D J H i t p lt l d us rs kvs) (Db : D ≠ b) (D4 : H4 D = none) {t' p' lt' l' d' : Addr} {us' : List V} {rs' : List Ru} {kvs' : KVs}
    (pN : H p' = none) (lN : H lt' = none) (mN : H l' = none) (ht : H' t' = some (.tup [.bl true, .ref p', .ref l', .ref d'])) (df : DfAt C H' p' lt' us' kvs') (hl : H' l' = some (.lst us')) (hd : H' d' = some (.dK kvs')) (R : RusAt H' us' rs') (ok : ∀ r ∈ rs', RuOk r) (u8 : us'.length ≤ 8) (kd : Kd kvs') (kl : kvs'.length ≤ 4 * us'.length)
    (B : BoxAt H' b (J + 400 * i + 400)) (o : But b H H') :
    Bg C H4 b D J (upd H' D (.lst ((List.range i).map (fun k => V.ref (t k)) ++ [.ref t']))) (i + 1) (fu t i t') (fu p i p') (fu lt i lt') (fu l i l') (fu d i d') (fu us i us') (fu rs i rs') (fu kvs i kvs') := by
  obtain ⟨yb, hb⟩ := G.box.some
  obtain ⟨yb', hb'⟩ := B.some
  have hD' := o _ _ G.hD Db
  have nb : ∀ k < i, k ≠ i := fun k hk => by omega
  have tup : ∀ a xs, H a = some (.tup xs) → (upd H' D (.lst ((List.range i).map (fun k => V.ref (t k)) ++ [.ref t']))) a = some (.tup xs) := fun a xs z => by
    rw [upd_ne (ne_of z G.hD (by intro e; cases e))]
    exact o _ _ z (ne_of z hb (by intro e; cases e))
  have tup' : ∀ a xs, H' a = some (.tup xs) → (upd H' D (.lst ((List.range i).map (fun k => V.ref (t k)) ++ [.ref t']))) a = some (.tup xs) := fun a xs z => by
    rw [upd_ne (ne_of z hD' (by intro e; cases e))]
    exact z
  have dct : ∀ a xs, H a = some (.dK xs) → (upd H' D (.lst ((List.range i).map (fun k => V.ref (t k)) ++ [.ref t']))) a = some (.dK xs) := fun a xs z => by
    rw [upd_ne (ne_of z G.hD (by intro e; cases e))]
    exact o _ _ z (ne_of z hb (by intro e; cases e))
  have dct' : ∀ a xs, H' a = some (.dK xs) → (upd H' D (.lst ((List.range i).map (fun k => V.ref (t k)) ++ [.ref t']))) a = some (.dK xs) := fun a xs z => by
    rw [upd_ne (ne_of z hD' (by intro e; cases e))]
    exact z
  have old : ∀ a, H a = none → H4 a = none := fun a z => by
    cases e : H4 a with
    | none => rfl
    | some w =>
      by_cases ab : a = b
      · subst ab; rw [hb] at z; cases z
      · have := G.bu _ _ e ab
        rw [z] at this; cases this
  have split : ∀ k, k < i + 1 → k < i ∨ k = i := fun k hk => by omega
  refine { hD := ?_, htt := fun k hk => ?_, hdf := fun k hk => ?_, hll := fun k hk => ?_, hdd := fun k hk => ?_, ru := fun k hk => ?_, ok := fun k hk => ?_, u8 := fun k hk => ?_, kd := fun k hk => ?_, kl := fun k hk => ?_, pN := fun k hk => ?_, lN := fun k hk => ?_, lb := fun k hk => ?_, lD := fun k hk => ?_, mb := fun k hk => ?_, mD := fun k hk => ?_, pp := fun k hk m hm => ?_, ll := fun k hk m hm => ?_, box := (B.upd Db _).more (by omega), bu := fun a w z n => ?_ }
  · rw [upd_same, List.range_succ, List.map_append]
    have e : (List.range i).map (fun k => V.ref (t k)) = (List.range i).map (fun k => V.ref (fu t i t' k)) := List.map_congr_left fun k hk => by rw [fu_off (nb k (List.mem_range.mp hk))]
    rw [e]
    simp [fu_at]
  · rcases split k hk with h | rfl
    · rw [fu_off (nb k h), fu_off (nb k h), fu_off (nb k h), fu_off (nb k h)]; exact tup _ _ (G.htt k h)
    · rw [fu_at, fu_at, fu_at, fu_at]; exact tup' _ _ ht
  · rcases split k hk with h | rfl
    · rw [fu_off (nb k h), fu_off (nb k h), fu_off (nb k h), fu_off (nb k h)]
      obtain ⟨dx, fs, hp⟩ := (G.hdf k h).ins
      refine (G.hdf k h).keep (fun w z => ?_) (fun w z => ?_) dct
      · rw [upd_ne (ne_of hp G.hD (by intro e; cases e))]
        exact o _ _ z (ne_of hp hb (by intro e; cases e))
      · rw [upd_ne (G.lD k h)]
        exact o _ _ z (G.lb k h)
    · rw [fu_at, fu_at, fu_at, fu_at]
      obtain ⟨dx, fs, hp⟩ := df.ins
      refine df.keep (fun w z => ?_) (fun w z => ?_) dct'
      · rw [upd_ne (ne_of hp hD' (by intro e; cases e))]
        exact z
      · rw [upd_ne (ne_of_none G.hD lN).symm]
        exact z
  · rcases split k hk with h | rfl
    · rw [fu_off (nb k h), fu_off (nb k h), upd_ne (G.mD k h)]
      exact o _ _ (G.hll k h) (G.mb k h)
    · rw [fu_at, fu_at, upd_ne (ne_of_none G.hD mN).symm]
      exact hl
  · rcases split k hk with h | rfl
    · rw [fu_off (nb k h), fu_off (nb k h)]; exact dct _ _ (G.hdd k h)
    · rw [fu_at, fu_at]; exact dct' _ _ hd
  · rcases split k hk with h | rfl
    · rw [fu_off (nb k h), fu_off (nb k h)]; exact (G.ru k h).mono tup
    · rw [fu_at, fu_at]; exact R.mono tup'
  · rcases split k hk with h | rfl
    · rw [fu_off (nb k h)]; exact G.ok k h
    · rw [fu_at]; exact ok
  · rcases split k hk with h | rfl
    · rw [fu_off (nb k h)]; exact G.u8 k h
    · rw [fu_at]; exact u8
  · rcases split k hk with h | rfl
    · rw [fu_off (nb k h)]; exact G.kd k h
    · rw [fu_at]; exact kd
  · rcases split k hk with h | rfl
    · rw [fu_off (nb k h), fu_off (nb k h)]; exact G.kl k h
    · rw [fu_at, fu_at]; exact kl
  · rcases split k hk with h | rfl
    · rw [fu_off (nb k h)]; exact G.pN k h
    · rw [fu_at]; exact old _ pN
  · rcases split k hk with h | rfl
    · rw [fu_off (nb k h)]; exact G.lN k h
    · rw [fu_at]; exact old _ lN
  · rcases split k hk with h | rfl
    · rw [fu_off (nb k h)]; exact G.lb k h
    · rw [fu_at]; exact (ne_of_none hb lN).symm
  · rcases split k hk with h | rfl
    · rw [fu_off (nb k h)]; exact G.lD k h
    · rw [fu_at]; exact (ne_of_none G.hD lN).symm
  · rcases split k hk with h | rfl
    · rw [fu_off (nb k h)]; exact G.mb k h
    · rw [fu_at]; exact (ne_of_none hb mN).symm
  · rcases split k hk with h | rfl
    · rw [fu_off (nb k h)]; exact G.mD k h
    · rw [fu_at]; exact (ne_of_none G.hD mN).symm
  · rcases split k hk with h | rfl
    · rw [fu_off (nb k h), fu_off (nb m (by omega))]; exact G.pp k h m hm
    · obtain ⟨dx, fs, hp⟩ := (G.hdf m hm).ins
      rw [fu_at, fu_off (nb m hm)]; exact ne_of_none hp pN
  · rcases split k hk with h | rfl
    · rw [fu_off (nb k h), fu_off (nb m (by omega))]; exact G.ll k h m hm
    · rw [fu_at, fu_off (nb m hm)]; exact ne_of_none (G.hdf m hm).lst lN
  · rw [upd_ne (ne_of_none z D4)]
    exact o _ _ (G.bu _ _ z n) n
end Rp

set_option maxHeartbeats 8000000
/-! The law's look at both, and the changes behind it. -/
namespace Rp
open PySem PySem.Spec PyProof.Rows L2 TL StX
theorem at2 {f : Nat → Addr} {i : Nat} (h : i < 2) : atI [V.ref (f 0), V.ref (f 1)] (0 + (i : Int)) = some (.ref (f i)) := by
  rcases (by omega : i = 0 ∨ i = 1) with rfl | rfl
  · exact at_of (j := 0) rfl rfl
  · exact at_of (j := 1) rfl rfl
theorem at2' {f : Nat → Addr} {i : Nat} (h : i < 2) : atI [V.ref (f 0), V.ref (f 1)] (i : Int) = some (.ref (f i)) := by
  rw [← at2 h, Int.zero_add]
def tsLook (K : PySem.W.Frag) (C : Addr) : TS := tFor (iRng1 (tCons (tC (.int 2)) tNil)) (gName 16) (tSeq (tAsg (tCall (spDefsTold C) [] E0 (tCons (tOp (rIxT K) (tOp (rIxL K) (tVar 6) (tVar 16)) (tC (.int 1))) (tCons (tVar 4) tNil))) (gName 17))
  (tSeq (tIfS (tNot (tB (tCall (spSame 61) [] E0 (tCons (tVar 17) (tCons (tCall spDefsDue [] E0 (tCons (tOp (rIxL K) (tOp (rIxL K) (tVar 8) (tVar 16)) (tC (.int 0))) (tCons (tOp (rIxL K) (tOp (rIxL K) (tVar 8) (tVar 16)) (tC (.int 1))) (tCons (tVar 4) tNil)))) tNil))))) (tRet (tC (.bl false))) tNext)
    (tFor (iList K (tOp rCat (tSl (rSlL K) (tVar 17) tNoPart (tPart (tC (.int 2)))) (tOp (rIxL K) (tVar 17) (tC (.int 3))))) (gName 7) (tSeq (tDrop (tBM0 K "list" rReverse (tVar 7))) (tDrop (tBM K "list" rAppend (tVar 7) (tCons (tC (.str "changed")) tNil)))))))
section
variable {K : PySem.W.Frag} {C : Addr} {HB H : Hp} {b wp sm kp : Addr} {p lt : Nat → Addr} {ws : List Str} {j : Nat} {t l0 d0 e tl d : Nat → Addr} {us : Nat → List V} {rs : Nat → List Ru} {kvs : Nat → KVs}
theorem look_ok {D : L2.Ends} {x0 x1 x2 x5 x7 x9 x10 x11 x12 x13 x14 x15 x16 x17 : Option V} (Y : Dy C HB b wp sm kp p lt ws H j t l0 d0 e tl d us rs kvs) (x : Fx HB b wp sm kp p lt) (wl : ws.length = 5)
    (k : ∀ (x7 x16 x17 : Option V) (H' : Hp), Dy C HB b wp sm kp p lt ws H' j t l0 d0 e tl d us rs kvs → D.nx [x0, x1, x2, some (.ref b), some (.ref wp), x5, some (.ref sm), x7, some (.ref kp), x9, x10, x11, x12, x13, x14, x15, x16, x17] H') :
    tsLook K C D [x0, x1, x2, some (.ref b), some (.ref wp), x5, some (.ref sm), x7, some (.ref kp), x9, x10, x11, x12, x13, x14, x15, x16, x17] H := by
  have big : (10000 : Nat) ≤ sizeLine := by decide
  unfold tsLook
  refine ⟨_, rfl, by decide, by decide, for_range (lo := 0) (n := (2 : Int).toNat) (fun i σ H1 => ∃ (x7 x16 x17 : Option V), σ = [x0, x1, x2, some (.ref b), some (.ref wp), x5, some (.ref sm), x7, some (.ref kp), x9, x10, x11, x12, x13, x14, x15, x16, x17] ∧ Dy C HB b wp sm kp p lt ws H1 j t l0 d0 e tl d us rs kvs)
    ⟨_, _, _, rfl, Y⟩ ?_ ?_⟩
  · rintro i σ H1 hi ⟨x7, x16, x17, rfl, Y1⟩
    have i2 : i < 2 := hi
    have u8 := Y1.u8 i i2
    have kd := Y1.kd i i2
    have kl := Y1.kl i i2
    obtain ⟨ks, ke, kln⟩ := kd_keys kd.nm
    refine ⟨_, rfl, _, rfl, sm, _, _, .ref (t i), rfl, rfl, .inl (.inl Y1.hsm), at2 i2, t i, _, 1, .ref (p i), rfl, rfl, .inl (.inl (Y1.htt i i2)), at_of (j := 1) rfl rfl, _, rfl, p i, lt i, wp, us i, rs i, kvs i, ks, ws, rfl, Y1.hdf i i2, Y1.ru i i2, by omega, ke, by omega, Y1.hwp, by omega, fun q a1 a2 a3 a4 ls ys H2 perm srt n1 n2 hq h1 h2 h3 h4 hl s2 => ?_⟩
    have Y2 := Y1.same x s2
    refine ⟨_, rfl, _, rfl, _, rfl, kp, _, _, .ref (e i), rfl, rfl, .inl (.inl Y2.hkp), at2 i2, e i, _, 0, .ref (tl i), rfl, rfl, .inl (.inl (Y2.hee i i2)), at_of (j := 0) rfl rfl, _, rfl, _, rfl, kp, _, _, .ref (e i), rfl, rfl, .inl (.inl Y2.hkp), at2 i2, e i, _, 1, .ref (d i), rfl, rfl, .inl (.inl (Y2.hee i i2)), at_of (j := 1) rfl rfl, _, rfl, ?_⟩
    refine ⟨tl i, d i, wp, us i, rs i, kvs i, ks, ws, rfl, Y2.htl i i2, Y2.ru i i2, by omega, Y2.hdd i i2, ke, by omega, Y2.hwp, by omega, fun q' c1 c2 c3 c4 ls' ys' H3 perm' srt' hq' g1 g2 g3 g4 gl s3 => ?_⟩
    refine ⟨_, _, 60, rfl, rfl, (told_alike (ks := ks) ((Y2.ru i i2).same s3) (Y2.ok i i2) kd (by omega) (by omega) (by omega) perm srt perm' srt' (s3 _ _ hq) (s3 _ _ h1) (s3 _ _ h2) (s3 _ _ h3) (s3 _ _ h4) (hl.same s3) hq' g1 g2 g3 g4 gl).ups (by decide), fun H4 s4 => ⟨true, rfl, iteF ?_⟩⟩
    have s34 := s3.trans s4
    have hq4 := s34 _ _ hq
    have h14 := s34 _ _ h1
    have h24 := s34 _ _ h2
    have h44 := s34 _ _ h4
    have hl4 := hl.same s34
    have s14 := s2.trans s34
    refine ⟨_, rfl, 2, rfl, q, _, rfl, .inl (.inl hq4), fun e1 he1 => ?_⟩
    have s5 := same_new he1 (.lst (cutV [V.ref a1, V.ref a2, V.ref a3, V.ref a4] none (some 2)))
    have e5 : (upd H4 e1 (.lst (cutV [V.ref a1, V.ref a2, V.ref a3, V.ref a4] none (some 2)))) e1 = some (.lst [V.ref a1, V.ref a2]) := upd_same
    generalize upd H4 e1 (.lst (cutV [V.ref a1, V.ref a2, V.ref a3, V.ref a4] none (some 2))) = H5 at s5 e5 ⊢
    have ll := hl.len
    rw [List.length_map] at ll
    refine ⟨_, rfl, q, _, 3, .ref a4, rfl, rfl, .inl (.inl (s5 _ _ hq4)), at_of (j := 3) rfl rfl, e1, a4, _, _, rfl, rfl, e5, s5 _ _ h44, by rw [List.length_map]; simp; omega, fun g hg => ?_⟩
    have s6 := same_new hg (.lst ([V.ref a1, V.ref a2] ++ ls.map V.ref))
    have g6 : (upd H5 g (.lst ([V.ref a1, V.ref a2] ++ ls.map V.ref))) g = some (.lst ([V.ref a1, V.ref a2] ++ ls.map V.ref)) := upd_same
    have s46 := s5.trans s6
    have ng : ∀ a o, H4 a = some o → a ≠ g := fun a o z => ne_of_none (s5 _ _ z) hg
    generalize upd H5 g (.lst ([V.ref a1, V.ref a2] ++ ls.map V.ref)) = H6 at s46 g6 ⊢
    have s16 := s14.trans s46
    have each : ∀ v ∈ [V.ref a1, V.ref a2] ++ ls.map V.ref, ∃ a xs, v = .ref a ∧ H1 a = none ∧ a ≠ g ∧ H6 a = some (.lst xs) ∧ xs.length ≤ 900 := by
      intro v hv
      rcases List.mem_append.mp hv with hv | hv
      · rcases List.mem_cons.mp hv with rfl | hv
        · exact ⟨a1, _, rfl, n1, ng _ _ h14, s46 _ _ h14, by omega⟩
        · obtain rfl : v = .ref a2 := by simpa using hv
          exact ⟨a2, _, rfl, n2, ng _ _ h24, s46 _ _ h24, by have := perm.length_eq; rw [List.length_map]; omega⟩
      · obtain ⟨a, ha, rfl⟩ := List.mem_map.mp hv
        have : ∀ {as : List Addr} {xss : List (List V)}, LstsAt H1 H4 as xss → (∀ xs ∈ xss, xs.length ≤ 900) → ∀ a ∈ as, ∃ xs, H1 a = none ∧ H4 a = some (.lst xs) ∧ xs.length ≤ 900 := by
          intro as
          induction as with
          | nil => intro xss _ _ a h; simp at h
          | cons a0 as ih =>
            intro xss h hx a ha
            cases xss with
            | nil => exact h.elim
            | cons xs xss =>
              rcases List.mem_cons.mp ha with rfl | ha
              · exact ⟨xs, h.1, h.2.1, hx xs (by simp)⟩
              · exact ih h.2.2 (fun ys hy => hx ys (by simp [hy])) a ha
        obtain ⟨xs, z1, z2, z3⟩ := this hl4 (fun xs hx => by
          obtain ⟨y, _, rfl⟩ := List.mem_map.mp hx
          have := picked_le (x := y) (us := us i) (rs := rs i)
          omega) a ha
        exact ⟨a, xs, rfl, z1, ng _ _ z2, s46 _ _ z2, z3⟩
    refine ⟨g, rfl, ⟨_, .inl (.inl g6)⟩, for_list (K := K) (a := g) (xs := [V.ref a1, V.ref a2] ++ ls.map V.ref) (fun m σ H7 => ∃ x7 : Option V, σ = [x0, x1, x2, some (.ref b), some (.ref wp), x5, some (.ref sm), x7, some (.ref kp), x9, x10, x11, x12, x13, x14, x15, some (.int (0 + (i : Nat))), some (.ref q)] ∧ H7 g = some (.lst ([V.ref a1, V.ref a2] ++ ls.map V.ref)) ∧
        (∀ v ∈ [V.ref a1, V.ref a2] ++ ls.map V.ref, ∃ a xs, v = .ref a ∧ H1 a = none ∧ a ≠ g ∧ H7 a = some (.lst xs) ∧ xs.length ≤ 900 + m) ∧ Same H1 H7)
      ⟨_, rfl, g6, each, s16⟩ (fun m σ H7 _ ⟨_, _, h, _⟩ => .inl (.inl h)) ?_ ?_⟩
    · rintro m v σ H7 hm ⟨x7, rfl, g7, each7, s7⟩
      have ml := (List.getElem?_eq_some_iff.mp hm).1
      have ml : m < 7 := by rw [List.length_append, List.length_map, ll, wl] at ml; exact ml
      obtain ⟨a, xs, rfl, na, nga, ha, al⟩ := each7 v (List.mem_of_getElem? hm)
      refine ⟨_, rfl, .inl ⟨rfl, _, .inl (.inl ha)⟩, a, xs, rfl, rfl, ha, ?_⟩
      refine ⟨_, rfl, .inl ⟨rfl, _, .inl (.inl upd_same)⟩, a, _, _, rfl, rfl, upd_same, by rw [List.length_reverse]; omega, ?_⟩
      refine ⟨_, rfl, ?_, fun v hv => ?_, fun c o z => ?_⟩
      · rw [upd_ne nga.symm, upd_ne nga.symm]; exact g7
      · obtain ⟨a', xs', rfl, na', nga', ha', al'⟩ := each7 v hv
        by_cases e : a' = a
        · subst e
          exact ⟨a', _, rfl, na', nga', upd_same, by rw [List.length_append, List.length_reverse]; simp; omega⟩
        · exact ⟨a', xs', rfl, na', nga', by rw [upd_ne e, upd_ne e]; exact ha', by omega⟩
      · have ca := ne_of_none z na
        rw [upd_ne ca, upd_ne ca]
        exact s7 _ _ z
    · rintro σ H7 ⟨x7, rfl, _, _, s7⟩
      exact ⟨_, _, _, rfl, Y1.same x s7⟩
  · rintro σ H1 ⟨x7, x16, x17, rfl, Y1⟩
    exact k _ _ _ _ Y1
end
end Rp

set_option maxHeartbeats 16000000
/-! The law k13. -/
namespace Rp
open PySem PySem.Spec PyProof.Rows L2 TL StX
def spLaw (K : PySem.W.Frag) : Sp := fun vs H Q _ => ∃ (a : Addr) (ns : List Int), vs = [.ref a] ∧ SqL K H a (ns.map V.int) ∧ ns.length ≤ 63 ∧ ∀ H', Q (.bl true) H'
def rLo (K : PySem.W.Frag) : List V → Hp → VK → Prop := fun xs H Q => ∃ p ys, xs = [.ref p] ∧ (SqL K H p ys ∨ SqT K H p ys) ∧ ∀ l, H l = none → Q (.ref l) (upd H l (.lst ys))
def teKep (K : PySem.W.Frag) : TE := tLst (tCons (tCB (rLo K) (tCons (tOp (rIxT K) (tVar 7) (tC (.int 2))) tNil)) (tCons (tOp (rIxT K) (tVar 7) (tC (.int 3))) tNil))
def teBeg (C : Addr) : TE := tCall (spBegun C) [] E0 (tCons (tVar 3) (tCons (tVar 4) tNil))
def teFst (K : PySem.W.Frag) : TE := tOp (rIxT K) (tVar 7) (tC (.int 0))
def ttHd (K : PySem.W.Frag) : TT := tTest (tOp rEq (tOp (rIxT K) (tOp (rIxT K) (tVar 7) (tC (.int 0))) (tC (.int 0))) (tOp (rIxT K) (tOp (rIxT K) (tVar 13) (tC (.int 0))) (tC (.int 0))))
abbrev NL : List Str := ["_law_script", "_law_cells", "_law_k", "_law_box_here", "_law_words_here", "_law_turn", "_law_some", "_law_one", "_law_kept", "_law_at", "_law_defs", "_law_told", "_law_counts_here", "_law_rule_here", "_law_word", "_law_due", "_law_place", "_law_found"]
section
variable {P : Program} {w : World} {K : PySem.W.Frag} {mg : Str → Option Value} {base : Heap}
theorem or_both {c : Bool} {A B : Prop} (hA : A) (hB : A → B) : if c = true then A else B := by
  cases c
  · exact hB hA
  · exact hA
theorem set_two {e : Nat → Addr} {e' : Addr} {k : Nat} (h : k < 2) : [V.ref (e 0), V.ref (e 1)].set k (.ref e') = [.ref (fu e k e' 0), .ref (fu e k e' 1)] := by
  rcases (by omega : k = 0 ∨ k = 1) with rfl | rfl
  · rw [fu_at, fu_off (by decide)]; rfl
  · rw [fu_at, fu_off (by decide)]; rfl
theorem alike_strs {H : Hp} {p q : Addr} {x y : Str} {n : Nat} (hp : H p = some (.lst [.str x, .str y])) (hq : H q = some (.lst [.str x, .str y])) : Alike H (n + 1) (.ref p) (.ref q) := by
  refine alike_same hp hq (by simp) fun u hu => ?_
  rcases List.mem_cons.mp hu with rfl | hu
  · exact alike_plain trivial
  · obtain rfl : u = .str y := by simpa using hu
    exact alike_plain trivial
theorem scLaw : FnScope NL ["_law_script"] (defScope sLaw) := ⟨rfl, rfl, rfl, by decide +kernel, rfl, by decide +kernel, by decide +kernel⟩
theorem ok_law {f fFo fB fT fP fW fU fG fA fD fO fK fS fTo fDu C : Addr} {fd dFo dB dT dP dW dU dG dA dD dO dK dS dTo dDu : FuncData} (F : Fun K "law" "law" sLaw f fd)
    (GFo : FnOk P w K mg base CX0 1 fFo dFo ["_law_script", "_law_count"] (spFolded K)) (kFo : PySem.W.keepIn K (.ref fFo) = true) (bFo : Binds K dFo ["_law_script", "_law_count"] []) (mFo : mg "_law_folded" = some (.ref fFo))
    (GB : FnOk P w K mg base CX0 1 fB dB ["_law_script", "_law_k"] (spBox K)) (kB : PySem.W.keepIn K (.ref fB) = true) (bB : Binds K dB ["_law_script", "_law_k"] []) (mB : mg "_law_box" = some (.ref fB))
    (GT : FnOk P w K mg base CX0 1 fT dT ["_law_box_here", "_law_top"] spTake) (kT : PySem.W.keepIn K (.ref fT) = true) (bT : Binds K dT ["_law_box_here", "_law_top"] []) (mT : mg "_law_take" = some (.ref fT))
    (GP : FnOk P w K mg base CX0 2 fP dP ["_law_box_here", "_law_things"] spPick) (kP : PySem.W.keepIn K (.ref fP) = true) (bP : Binds K dP ["_law_box_here", "_law_things"] []) (mP : mg "_law_pick" = some (.ref fP))
    (GW : FnOk P w K mg base CX0 2 fW dW ["_law_box_here", "_law_count"] spWords) (kW : PySem.W.keepIn K (.ref fW) = true) (bW : Binds K dW ["_law_box_here", "_law_count"] []) (mW : mg "_law_words" = some (.ref fW))
    (GU : FnOk P w K mg base CX0 1 fU dU ["_law_words_here"] spUnl) (kU : PySem.W.keepIn K (.ref fU) = true) (bU : Binds K dU ["_law_words_here"] []) (mU : mg "_law_unlike" = some (.ref fU))
    (GG : FnOk P w K mg base CX0 8 fG dG ["_law_box_here", "_law_words_here"] (spBegun C)) (kG : PySem.W.keepIn K (.ref fG) = true) (bG : Binds K dG ["_law_box_here", "_law_words_here"] []) (mG : mg "_law_begun" = some (.ref fG))
    (GA : FnOk P w K mg base CX0 4 fA dA ["_law_box_here", "_law_words_here"] spAnyRule) (kA : PySem.W.keepIn K (.ref fA) = true) (bA : Binds K dA ["_law_box_here", "_law_words_here"] []) (mA : mg "_law_any_rule" = some (.ref fA))
    (GD : FnOk P w K mg base CX0 1 fD dD ["_law_counts_here", "_law_rule_here"] spDue) (kD : PySem.W.keepIn K (.ref fD) = true) (bD : Binds K dD ["_law_counts_here", "_law_rule_here"] []) (mD : mg "_law_due_clash" = some (.ref fD))
    (GO : FnOk P w K mg base CX0 1 fO dO ["_law_counts_here", "_law_rule_here"] spToldOn) (kO : PySem.W.keepIn K (.ref fO) = true) (bO : Binds K dO ["_law_counts_here", "_law_rule_here"] []) (mO : mg "_law_told_on" = some (.ref fO))
    (GK : FnOk P w K mg base CX0 5 fK dK ["_law_defs", "_law_rule_here"] (spAsked C)) (kK : PySem.W.keepIn K (.ref fK) = true) (bK : Binds K dK ["_law_defs", "_law_rule_here"] []) (mK : mg "_law_asked" = some (.ref fK))
    (GS : FnOk P w K mg base CX0 61 fS dS ["_law_found", "_law_due"] (spSame 61)) (kS : PySem.W.keepIn K (.ref fS) = true) (bS : Binds K dS ["_law_found", "_law_due"] []) (mS : mg "_law_same" = some (.ref fS))
    (GTo : FnOk P w K mg base CX0 2 fTo dTo ["_law_defs", "_law_words_here"] (spDefsTold C)) (kTo : PySem.W.keepIn K (.ref fTo) = true) (bTo : Binds K dTo ["_law_defs", "_law_words_here"] []) (mTo : mg "_law_defs_told" = some (.ref fTo))
    (GDu : FnOk P w K mg base CX0 2 fDu dDu ["_law_told", "_law_counts_here", "_law_words_here"] spDefsDue) (kDu : PySem.W.keepIn K (.ref fDu) = true) (bDu : Binds K dDu ["_law_told", "_law_counts_here", "_law_words_here"] []) (mDu : mg "_law_defs_due" = some (.ref fDu))
    (mRange : mg "range" = none) (mLen : mg "len" = none) (mList : mg "list" = none) (mAll : mg "all" = none) : FnOk P w K mg base CX0 62 f fd ["_law_script"] (spLaw K) := by
  refine F.ok scLaw (fun vs H Q E h => ?_) (fun cdv A outer s H vs Q E hr h => ?_)
  · obtain ⟨a, ns, rfl, _⟩ := h
    rfl
  obtain ⟨a, ns, rfl, hS, hl, q⟩ := h
  have r1 : Room 1 _ := hr.mono (by decide)
  have r2 : Room 2 _ := hr.mono (by decide)
  have r4 : Room 4 _ := hr.mono (by decide)
  have r5 : Room 5 _ := hr.mono (by decide)
  have r8 : Room 8 _ := hr.mono (by decide)
  refine ⟨_, pss_cons (ps_set (i := 1) scLaw.nd rfl (Or.inl rfl) (pe_call GFo r1 rfl mFo kFo bFo .nil pass0 (pa_cons (pv 0) (pa_cons pe_int pa_nil))))
    (pss_cons (ps_for PassesOwn.never rfl (pi_range1 (by rfl) mRange (pa_cons (pe_callB call_len_seq (by rfl) mLen PySem.boot_len (pa_cons (pv 1) pa_nil)) pa_nil)) (pg_name (i := 2) scLaw.nd rfl (Or.inl rfl))
      (pss_cons (ps_set (i := 3) scLaw.nd rfl (Or.inr rfl) (pe_call GB r1 rfl mB kB bB .nil pass0 (pa_cons (pv 1) (pa_cons (pv 2) pa_nil))))
      (pss_cons (ps_set (i := 4) scLaw.nd rfl (Or.inr rfl) (pe_call GU r1 rfl mU kU bU .nil pass0 (pa_cons (pe_call GW r2 rfl mW kW bW .nil pass0 (pa_cons (pv 3) (pa_cons pe_int pa_nil))) pa_nil)))
      (pss_cons (ps_setLc (i := 6) (own := [("_law_turn", 5)]) (g := gName 5) (tt := tYes) (te := teBeg C) rfl scLaw.nd rfl rfl (by rfl) (pi_range1 (by rfl) mRange (pa_cons pe_int pa_nil))
          (blkOk_by (N := NL) (sc := defScope sLaw) (by decide +kernel)) (fun _ _ _ _ _ => pg_name (i := 5) scLaw.nd rfl (Or.inl rfl)) (fun _ _ _ _ _ => pts_nil)
          (fun _ _ _ _ _ => pe_call GG r8 (by rfl) mG kG bG .nil pass0 (pa_cons (pv 3) (pa_cons (pv 4) pa_nil))))
      (pss_cons (ps_setLc (i := 8) (own := [("_law_one", 7)]) (g := gName 7) (tt := tYes) (te := teKep K) rfl scLaw.nd rfl rfl (by rfl) (pi_list (pv 6))
          (blkOk_by (N := NL) (sc := defScope sLaw) (by decide +kernel)) (fun _ _ _ _ _ => pg_name (i := 7) scLaw.nd rfl (Or.inl rfl)) (fun _ _ _ _ _ => pts_nil)
          (fun _ _ _ _ _ => pe_lst (pa_cons (pe_callTy call_list_of (by rfl) mList (by decide +kernel) (pa_cons (pe_ix ix_tup (pv 7) pe_int (fun _ _ => rfl)) pa_nil)) (pa_cons (pe_ix ix_tup (pv 7) pe_int (fun _ _ => rfl)) pa_nil))))
      (pss_cons (ps_if (pt_not (pt_val (pe_callB (cr_all rfl) (by rfl) mAll (by decide +kernel) (pa_cons (pe_lc (own := [("_law_one", 7)]) (g := gName 7) (tt := tYes) (te := teFst K) rfl scLaw.nd (pi_list (pv 6)) (blkOk_by (N := NL) (sc := defScope sLaw) (by decide +kernel))
          (fun _ _ _ _ _ => pg_name (i := 7) scLaw.nd rfl (Or.inl rfl)) (fun _ _ _ _ _ => pts_nil) (fun _ _ _ _ _ => pe_ix ix_tup (pv 7) pe_int (fun _ _ => rfl))) pa_nil)))) (pss_one (ps_ret pe_bl)) pss_nil)
      (pss_one (ps_for PassesOwn.never rfl (pi_range1 (by rfl) mRange (pa_cons pe_int pa_nil)) (pg_name (i := 5) scLaw.nd rfl (Or.inl rfl))
        (pss_cons (ps_set (i := 9) scLaw.nd rfl (Or.inl rfl) (pe_call GT r1 rfl mT kT bT .nil pass0 (pa_cons (pv 3) (pa_cons pe_int pa_nil))))
        (pss_cons (ps_asg (pe_tup (pa_cons (pe_ix ix_tup (pe_ix ix_list (pv 6) (pv 9) (fun _ _ => rfl)) pe_int (fun _ _ => rfl)) (pa_cons (pe_ix ix_list (pv 8) (pv 9) (fun _ _ => rfl)) pa_nil))) (pg_tup (by rfl) (pgs_cons (pg_name (i := 10) scLaw.nd rfl (Or.inl rfl)) (pgs_cons (pg_lst rfl (pgs_cons (pg_name (i := 11) scLaw.nd rfl (Or.inl rfl)) (pgs_cons (pg_name (i := 12) scLaw.nd rfl (Or.inl rfl)) pgs_nil))) pgs_nil))))
        (pss_cons (ps_set (i := 13) scLaw.nd rfl (Or.inr rfl) (pe_ifExp (PW.pt (pw_and (pt_cmpR (op_neD hr.units) (pv 11) (pe_lst pa_nil) (nomark _)) (pw_and1 (pt_cmpR op_eq (pe_call GT r1 rfl mT kT bT .nil pass0 (pa_cons (pv 3) (pa_cons pe_int pa_nil))) pe_int (nomark _)))))
          (pe_call GP r2 rfl mP kP bP .nil pass0 (pa_cons (pv 3) (pa_cons (pv 11) pa_nil))) (pe_call GA r4 rfl mA kA bA .nil pass0 (pa_cons (pv 3) (pa_cons (pv 4) pa_nil)))))
        (pss_cons (ps_set (i := 14) scLaw.nd rfl (Or.inl rfl) (pe_call GD r1 rfl mD kD bD .nil pass0 (pa_cons (pv 12) (pa_cons (pv 13) pa_nil))))
        (pss_cons (ps_if (PW.pt (pw_or (pt_cmpR op_less (pe_callB call_len_seq (by rfl) mLen PySem.boot_len (pa_cons (pv 11) pa_nil)) pe_int (nomark _)) (pw_or1 (pt_cmpR op_notN (pv 14) pe_non (nomark _)))))
          (pss_cons (ps_set (i := 15) scLaw.nd rfl (Or.inl rfl) (pe_ifExp (pt_cmpR op_isN (pv 14) pe_non (nomark _))
            (pe_callB call_len_seq (by rfl) mLen PySem.boot_len (pa_cons (pe_lc (own := [("_law_one", 7)]) (g := gName 7) (tt := ttHd K) (te := tVar 7) rfl scLaw.nd (pi_list (pv 11)) (blkOk_by (N := NL) (sc := defScope sLaw) (by decide +kernel))
              (fun _ _ _ _ _ => pg_name (i := 7) scLaw.nd rfl (Or.inl rfl)) (fun _ _ _ _ _ => pts_one (pt_cmpR op_eq (pe_ix ix_tup (pe_ix ix_tup (pv 7) pe_int (fun _ _ => rfl)) pe_int (fun _ _ => rfl)) (pe_ix ix_tup (pe_ix ix_tup (pv 13) pe_int (fun _ _ => rfl)) pe_int (fun _ _ => rfl)) (nomark _))) (fun _ _ _ _ _ => pv 7)) pa_nil))
            (pe_lst (pa_cons pe_str (pa_cons (pv 14) pa_nil)))))
          (pss_cons (ps_if (pt_not (pt_val (pe_call GS hr rfl mS kS bS .nil pass0 (pa_cons (pe_call GK r5 rfl mK kK bK .nil pass0 (pa_cons (pv 10) (pa_cons (pv 13) pa_nil))) (pa_cons (pv 15) pa_nil))))) (pss_one (ps_ret pe_bl)) pss_nil)
          (pss_one (ps_if (pt_cmpR op_isN (pv 14) pe_non (nomark _)) (pss_one (ps_asg (pe_lst (pa_cons (pe_op op_cat (pv 11) (pe_lst (pa_cons (pv 13) pa_nil))) (pa_cons (pe_call GO r1 rfl mO kO bO .nil pass0 (pa_cons (pv 12) (pa_cons (pv 13) pa_nil))) pa_nil))) (pg_sub (pv 8) (pv 9) set_list))) pss_nil)))) pss_nil)
        (pss_one (ps_for PassesOwn.never rfl (pi_range1 (by rfl) mRange (pa_cons pe_int pa_nil)) (pg_name (i := 16) scLaw.nd rfl (Or.inl rfl))
          (pss_cons (ps_set (i := 17) scLaw.nd rfl (Or.inl rfl) (pe_call GTo r2 rfl mTo kTo bTo .nil pass0 (pa_cons (pe_ix ix_tup (pe_ix ix_list (pv 6) (pv 16) (fun _ _ => rfl)) pe_int (fun _ _ => rfl)) (pa_cons (pv 4) pa_nil))))
          (pss_cons (ps_if (pt_not (pt_val (pe_call GS hr rfl mS kS bS .nil pass0 (pa_cons (pv 17) (pa_cons (pe_call GDu r2 rfl mDu kDu bDu .nil pass0 (pa_cons (pe_ix ix_list (pe_ix ix_list (pv 8) (pv 16) (fun _ _ => rfl)) pe_int (fun _ _ => rfl)) (pa_cons (pe_ix ix_list (pe_ix ix_list (pv 8) (pv 16) (fun _ _ => rfl)) pe_int (fun _ _ => rfl)) (pa_cons (pv 4) pa_nil)))) pa_nil))))) (pss_one (ps_ret pe_bl)) pss_nil)
          (pss_one (ps_for PassesOwn.never rfl (pi_list (pe_op op_cat (pe_slice sl_list (pv 17) po_none (po_some pe_int)) (pe_ix ix_list (pv 17) pe_int (fun _ _ => rfl)))) (pg_name (i := 7) scLaw.nd rfl (Or.inl rfl))
            (pss_cons (ps_expr (pe_bm0 PySem.F.plainAttrs_list PySem.F.slot_list_reverse PySem.F.type_list_reverse mt_reverse (pv 7)))
            (pss_one (ps_expr (pe_bm PySem.F.plainAttrs_list PySem.F.slot_list_append PySem.F.type_list_append mt_append (pv 7) (pa_cons pe_str pa_nil))))))))))))))))))))))))
    (pss_one (ps_ret pe_bl))), ?_⟩
  have big : (10000 : Nat) ≤ sizeLine := by decide
  refine ⟨_, rfl, a, ns, rfl, hS, hl, fun pc cs H1 hpc0 hpc c1 c3 s1 => ?_⟩
  refine ⟨_, rfl, pc, _, rfl, .inl (.inl (.inl hpc)), _, rfl, by rw [List.length_map]; omega, by rw [List.length_map]; omega, for_range (lo := 0) (n := (((cs.map V.int).length : Nat) : Int).toNat) (fun i σ H2 => ∃ (x2 x3 x4 x5 x6 x7 x8 x9 x10 x11 x12 x13 x14 x15 x16 x17 : Option V), σ = [some (.ref a), some (.ref pc), x2, x3, x4, x5, x6, x7, x8, x9, x10, x11, x12, x13, x14, x15, x16, x17] ∧ H2 pc = some (.lst (cs.map V.int)))
    ⟨_, _, _, _, _, _, _, _, _, _, _, _, _, _, _, _, rfl, hpc⟩ ?_ ?_⟩
  · rintro i σ HB hi ⟨x2, x3, x4, x5, x6, x7, x8, x9, x10, x11, x12, x13, x14, x15, x16, x17, rfl, hpcB⟩
    rw [List.length_map] at hi
    have i3 : i < 3 := by omega
    refine ⟨_, rfl, _, rfl, pc, cs, _, rfl, .inl (.inl hpcB), by omega, by omega, by omega, fun b H3 hbN B3 s3 => ?_⟩
    refine ⟨_, rfl, b, _, rfl, B3, by decide, fun pw ws0 H4 hpw0 hpw wl0 wo0 B4 o4 => ?_⟩
    obtain ⟨y3, hb3⟩ := B3.some
    refine ⟨pw, ws0, rfl, hpw, by omega, wo0, fun wp ws H5 hwpN hwp wl1 wo s5 => ?_⟩
    have wl : ws.length = 5 := by omega
    have B5 := B4.same s5
    have bB : ∀ a o, HB a = some o → a ≠ b := fun a o z => ne_of_none z hbN
    have oB5 : ∀ a o, HB a = some o → H5 a = some o := fun a o z => s5 _ _ (o4 _ _ (s3 _ _ z) (bB _ _ z))
    obtain ⟨y4, hb4⟩ := B4.some
    have wb : wp ≠ b := (ne_of_none hb4 hwpN).symm
    refine ⟨_, rfl, by decide, by decide, fun sm hsm => ?_⟩
    have hb5 := s5 _ _ hb4
    have smb : sm ≠ b := (ne_of_none hb5 hsm).symm
    have smw : sm ≠ wp := (ne_of_none hwp hsm).symm
    refine lc_range (lo := 0) (fun i H6 => ∃ (t p lt l d : Nat → Addr) (us : Nat → List V) (rs : Nat → List Ru) (kvs : Nat → KVs), Bg C H5 b sm 10 H6 i t p lt l d us rs kvs) ⟨fun _ => 0, fun _ => 0, fun _ => 0, fun _ => 0, fun _ => 0, fun _ => [], fun _ => [], fun _ => [], ?_⟩ ?_ ?_
    · exact { hD := upd_same, htt := fun k hk => by omega, hdf := fun k hk => by omega, hll := fun k hk => by omega, hdd := fun k hk => by omega, ru := fun k hk => by omega, ok := fun k hk => by omega, u8 := fun k hk => by omega, kd := fun k hk => by omega, kl := fun k hk => by omega, pN := fun k hk => by omega, lN := fun k hk => by omega, lb := fun k hk => by omega, lD := fun k hk => by omega, mb := fun k hk => by omega, mD := fun k hk => by omega, pp := fun k hk => by omega, ll := fun k hk => by omega, box := B5.same (same_new hsm _), bu := but_of (same_new hsm _) }
    · rintro i H6 hi ⟨t, p, lt, l, d, us, rs, kvs, G⟩
      have i2 : i < 2 := hi
      refine ⟨rfl, ?_⟩
      unfold teBeg
      refine ⟨_, rfl, _, rfl, b, wp, ws, _, rfl, G.box, G.bu _ _ hwp wb, wb, by omega, by omega, wo, by omega, fun t' p' lt' l' d' us' rs' kvs' H7 pN lN mN llt ht df hl hd R ok u8 kd kl B7 o7 => ?_⟩
      refine ⟨_, o7 _ _ G.hD smb, by rw [List.length_map, List.length_range]; omega, _, _, _, _, _, _, _, _, G.step smb hsm pN lN mN ht df hl hd R ok u8 kd kl B7 o7⟩
    rintro H6 ⟨t, p, lt, l, d, us, rs, kvs, G⟩
    have G : Bg C H5 b sm 10 H6 2 t p lt l d us rs kvs := G
    have hsm6 : H6 sm = some (.lst [.ref (t 0), .ref (t 1)]) := G.hD
    refine ⟨_, rfl, sm, rfl, ⟨_, .inl (.inl hsm6)⟩, fun kp hkp => lc_list (K := K) (a := sm) (xs := [.ref (t 0), .ref (t 1)]) (fun i H7 => ∃ (e tl : Nat → Addr), H7 kp = some (.lst ((List.range i).map fun k => V.ref (e k))) ∧ (∀ k < i, H7 (e k) = some (.lst [.ref (tl k), .ref (d k)]) ∧ H7 (tl k) = some (.lst (us k)) ∧ H6 (e k) = none ∧ H6 (tl k) = none ∧ e k ≠ kp ∧ tl k ≠ kp) ∧ Same H6 H7) ⟨fun _ => 0, fun _ => 0, upd_same, fun k hk => by omega, same_new hkp _⟩ (fun i H7 _ ⟨_, _, _, _, s⟩ => .inl (.inl (s _ _ hsm6))) ?_ ?_⟩
    · rintro i v H7 hi ⟨e, tl, h7, each, s7⟩
      have i2 : i < 2 := (List.getElem?_eq_some_iff.mp hi).1
      have ev : v = .ref (t i) := by
        rcases (by omega : i = 0 ∨ i = 1) with rfl | rfl
        · simpa using hi.symm
        · simpa using hi.symm
      subst ev
      have ht7 := s7 _ _ (G.htt i i2)
      have hl7 := s7 _ _ (G.hll i i2)
      have live : ∀ a o, H6 a = some o → a ≠ kp → H7 a = some o := fun a o z _ => s7 _ _ z
      refine ⟨rfl, ?_⟩
      unfold teKep
      refine ⟨_, rfl, t i, _, 2, .ref (l i), rfl, rfl, .inl (.inl ht7), at_of (j := 2) rfl rfl, l i, us i, rfl, .inl (.inl (.inl hl7)), fun tl' htl' => ?_⟩
      have s8 := same_new htl' (.lst (us i))
      refine ⟨_, rfl, t i, _, 3, .ref (d i), rfl, rfl, .inl (.inl (s8 _ _ ht7)), at_of (j := 3) rfl rfl, (by show 2 ≤ sizeLine; decide), fun e' he' => ?_⟩
      have s9 := same_new he' (.lst [V.ref tl', V.ref (d i)])
      have ht8 := s9 _ _ (upd_same : (upd H7 tl' (.lst (us i))) tl' = _)
      have s89 := s8.trans s9
      have h9 := s89 _ _ h7
      have he9 : (upd (upd H7 tl' (.lst (us i))) e' (.lst [V.ref tl', V.ref (d i)])) e' = some (.lst [V.ref tl', V.ref (d i)]) := upd_same
      have tN : H6 tl' = none := by
        cases z : H6 tl' with
        | none => rfl
        | some w => rw [s7 _ _ z] at htl'; cases htl'
      have eN : H6 e' = none := by
        cases z : H6 e' with
        | none => rfl
        | some w => rw [s8 _ _ (s7 _ _ z)] at he'; cases he'
      have tk : tl' ≠ kp := (ne_of_none h7 htl').symm
      have ek : e' ≠ kp := (ne_of_none (s8 _ _ h7) he').symm
      generalize upd (upd H7 tl' (.lst (us i))) e' (.lst [V.ref tl', V.ref (d i)]) = H9 at s89 h9 he9 ht8 ⊢
      refine ⟨_, h9, by rw [List.length_map, List.length_range]; omega, fu e i e', fu tl i tl', ?_, fun k hk => ?_, fun c o z => ?_⟩
      · rw [upd_same, List.range_succ, List.map_append]
        have e1 : (List.range i).map (fun k => V.ref (e k)) = (List.range i).map (fun k => V.ref (fu e i e' k)) := List.map_congr_left fun k hk => by rw [fu_off (by have := List.mem_range.mp hk; omega)]
        rw [e1]
        simp [fu_at]
      · rcases (by omega : k < i ∨ k = i) with h | rfl
        · rw [fu_off (by omega), fu_off (by omega)]
          obtain ⟨g1, g2, g3, g4, g5, g6⟩ := each k h
          exact ⟨by rw [upd_ne g5]; exact s89 _ _ g1, by rw [upd_ne g6]; exact s89 _ _ g2, g3, g4, g5, g6⟩
        · rw [fu_at, fu_at]
          exact ⟨by rw [upd_ne ek]; exact he9, by rw [upd_ne tk]; exact ht8, eN, tN, ek, tk⟩
      · rw [upd_ne (ne_of_none z hkp)]
        exact s89 _ _ (s7 _ _ z)
    rintro H7 ⟨e, tl, h7, each, s7⟩
    have h7 : H7 kp = some (.lst [.ref (e 0), .ref (e 1)]) := h7
    have each : ∀ k < 2, H7 (e k) = some (.lst [.ref (tl k), .ref (d k)]) ∧ H7 (tl k) = some (.lst (us k)) ∧ H6 (e k) = none ∧ H6 (tl k) = none ∧ e k ≠ kp ∧ tl k ≠ kp := each
    have hsm7 := s7 _ _ hsm6
    refine ⟨_, rfl, sm, rfl, ⟨_, .inl (.inl hsm7)⟩, fun D hD => lc_list (K := K) (a := sm) (xs := [.ref (t 0), .ref (t 1)]) (fun i H8 => H8 D = some (.lst (List.replicate i (V.bl true))) ∧ Same H7 H8) ⟨upd_same, same_new hD _⟩ (fun i H8 _ ⟨_, s⟩ => .inl (.inl (s _ _ hsm7))) ?_ ?_⟩
    · rintro i v H8 hi ⟨h8, s8⟩
      have i2 : i < 2 := (List.getElem?_eq_some_iff.mp hi).1
      have ev : v = .ref (t i) := by
        rcases (by omega : i = 0 ∨ i = 1) with rfl | rfl
        · simpa using hi.symm
        · simpa using hi.symm
      subst ev
      refine ⟨rfl, ?_⟩
      unfold teFst
      refine ⟨_, rfl, t i, _, 0, .bl true, rfl, rfl, .inl (.inl (s8 _ _ (s7 _ _ (G.htt i i2)))), at_of (j := 0) rfl rfl, _, h8, by rw [List.length_replicate]; omega, ?_, fun c o z => ?_⟩
      · rw [upd_same, List.replicate_succ']
      · rw [upd_ne (ne_of_none z hD)]
        exact s8 _ _ z
    rintro H8 ⟨h8, s8⟩
    refine ⟨D, List.replicate 2 true, rfl, .inl (.inl (by rw [List.map_replicate]; exact h8)), _, rfl, iteF ?_⟩
    have oB6 : ∀ a o, HB a = some o → H6 a = some o := fun a o z => G.bu _ _ (oB5 _ _ z) (bB _ _ z)
    have nB5 : ∀ a, H5 a = none → HB a = none := fun a z => by
      cases e : HB a with
      | none => rfl
      | some o => rw [oB5 _ _ e] at z; cases z
    have nB6 : ∀ a, H6 a = none → HB a = none := fun a z => by
      cases e : HB a with
      | none => rfl
      | some o => rw [oB6 _ _ e] at z; cases z
    obtain ⟨y6, hb6⟩ := G.box.some
    have hwp6 := G.bu _ _ hwp wb
    have x : Fx HB b wp sm kp p lt := { bN := hbN, kN := nB6 _ hkp, pN := fun k hk => nB5 _ (G.pN k hk), lN := fun k hk => nB5 _ (G.lN k hk), p2 := G.pp 1 (by omega) 0 (by omega), l2 := G.ll 1 (by omega) 0 (by omega), lb := G.lb, lk := fun k hk => ne_of_none (G.hdf k hk).lst hkp, kb := (ne_of_none hb6 hkp).symm, wb := wb, wk := ne_of_none hwp6 hkp, wl := fun k hk => ne_of_none hwp (G.lN k hk), sb := smb, sk := ne_of_none hsm6 hkp, sl := fun k hk => (G.lD k hk).symm }
    have s68 := s7.trans s8
    have off : ∀ a, H6 a = none → a ≠ kp → Off b kp lt a := fun a z n => ⟨(ne_of_none hb6 z).symm, n, fun m hm => (ne_of_none (G.hdf m hm).lst z).symm⟩
    have D0 : Dy C HB b wp sm kp p lt ws H8 810 t l d e tl d us rs kvs := { box := G.box.same s68, hwp := s68 _ _ hwp6, hsm := s68 _ _ hsm6, htt := fun k hk => s68 _ _ (G.htt k hk), hkp := s8 _ _ h7, hdf := fun k hk => (G.hdf k hk).keep (fun w z => s68 _ _ z) (fun w z => s68 _ _ z) (fun a kv z => s68 _ _ z), hee := fun k hk => s8 _ _ (each k hk).1, htl := fun k hk => s8 _ _ (each k hk).2.1, hdd := fun k hk => s68 _ _ (G.hdd k hk), ru := fun k hk => (G.ru k hk).same s68, ok := G.ok, u8 := G.u8, kd := G.kd, kl := G.kl, eD := fun k hk => off _ (each k hk).2.2.1 (each k hk).2.2.2.2.1, tD := fun k hk => off _ (each k hk).2.2.2.1 (each k hk).2.2.2.2.2, old := fun a o z => s68 _ _ (oB6 _ _ z) }
    refine ⟨_, rfl, by decide, by decide, for_range (lo := 0) (n := (12 : Int).toNat) (fun i' σ H9 => ∃ (x5 x7 x9 x10 x11 x12 x13 x14 x15 x16 x17 : Option V) (e tl d' : Nat → Addr) (us : Nat → List V) (rs : Nat → List Ru) (kvs : Nat → KVs), σ = [some (.ref a), some (.ref pc), some (.int (0 + (i : Nat))), some (.ref b), some (.ref wp), x5, some (.ref sm), x7, some (.ref kp), x9, x10, x11, x12, x13, x14, x15, x16, x17] ∧
        Dy C HB b wp sm kp p lt ws H9 (810 + 60 * i') t l d e tl d' us rs kvs) ⟨_, _, _, _, _, _, _, _, _, _, _, e, tl, d, us, rs, kvs, rfl, D0⟩ ?_ ?_⟩
    · rintro i' σ H9 hi' ⟨x5, x7, x9, x10, x11, x12, x13, x14, x15, x16, x17, e, tl, d', us, rs, kvs, rfl, D9⟩
      have i12 : i' < 12 := hi'
      refine ⟨_, rfl, b, _, _, rfl, D9.box, by omega, by decide, by decide, fun n H10 n0 n2 B10 o10 => ?_⟩
      obtain ⟨k, rfl⟩ := Int.eq_ofNat_of_zero_le n0
      have k2 : k < 2 := by omega
      have D10 := D9.but x o10 B10
      refine ⟨_, rfl, _, rfl, sm, _, _, .ref (t k), rfl, rfl, .inl (.inl D10.hsm), at2' k2, t k, _, 1, .ref (p k), rfl, rfl, .inl (.inl (D10.htt k k2)), at_of (j := 1) rfl rfl, _, rfl, _, rfl, kp, _, _, .ref (e k), rfl, rfl, .inl (.inl D10.hkp), at2' k2, (by show 2 ≤ sizeLine; decide), fun g hg => ?_⟩
      have D11 := D10.same x (same_new hg (.tup [V.ref (p k), V.ref (e k)]))
      refine ⟨g, _, rfl, .inl (.inl upd_same), rfl, _, _, rfl, _, _, rfl, ⟨e k, _, rfl, .inl (.inl (D11.hee k k2)), rfl, _, _, rfl, _, _, rfl, rfl, rfl, ?_⟩⟩
      generalize upd H10 g (.tup [V.ref (p k), V.ref (e k)]) = H11 at D11 ⊢
      have rule : ∀ Q' : VK, (∀ (v : V) (r : Ru) (H13 : Hp), RuAt H13 v r → RuOk r → Dy C HB b wp sm kp p lt ws H13 (810 + 60 * i' + 50) t l d e tl d' us rs kvs → Q' v H13) →
          (tIf (tAnd (tTest (tOp (rNeD K) (tVar 11) (tLst tNil))) (tTest (tOp rEq (tCall spTake [] E0 (tCons (tVar 3) (tCons (tC (.int 5)) tNil))) (tC (.int 0))))) (tCall spPick [] E0 (tCons (tVar 3) (tCons (tVar 11) tNil))) (tCall spAnyRule [] E0 (tCons (tVar 3) (tCons (tVar 4) tNil))))
            [some (.ref a), some (.ref pc), some (.int (0 + (i : Nat))), some (.ref b), some (.ref wp), some (.int (0 + (i' : Nat))), some (.ref sm), x7, some (.ref kp), some (.int (k : Nat)), some (.ref (p k)), some (.ref (tl k)), some (.ref (d' k)), x13, x14, x15, x16, x17] H11 Q' := by
        intro Q' hQ
        refine ⟨_, rfl, (by show 0 ≤ sizeLine; decide), fun c hc => ?_⟩
        have s12 := same_new hc (.lst ([] : List V))
        have D12 := D11.same x s12
        have c12 : (upd H11 c (.lst ([] : List V))) c = some (.lst []) := upd_same
        generalize upd H11 c (.lst ([] : List V)) = H12 at D12 c12 ⊢
        have sh0 : SeqAt.shaped (.list []) = true := by decide
        refine ⟨.list ((rs k).map ruD), .list [], .lst (.inl (.inl (D12.htl k k2))) (rus_dp (D12.ru k k2)), .lst (.inl (.inl c12)) .nil, rus_shaped (D12.ok k k2), sh0, !((rs k).map ruD).isEmpty, congrArg (fun z => V.bl (!z)) eqv_lnil, ?_⟩
        have any : ∀ (H12 : Hp) (J : Nat), Dy C HB b wp sm kp p lt ws H12 J t l d e tl d' us rs kvs → J ≤ 810 + 60 * i' + 5 → (tCall spAnyRule [] E0 (tCons (tVar 3) (tCons (tVar 4) tNil))) [some (.ref a), some (.ref pc), some (.int (0 + (i : Nat))), some (.ref b), some (.ref wp), some (.int (0 + (i' : Nat))), some (.ref sm), x7, some (.ref kp), some (.int (k : Nat)), some (.ref (p k)), some (.ref (tl k)), some (.ref (d' k)), x13, x14, x15, x16, x17] H12 Q' := by
          intro H12 J D12 hJ
          refine ⟨_, rfl, _, rfl, b, wp, ws, _, rfl, D12.box, D12.hwp, x.wb, by omega, by omega, wo, by omega, fun v r H13 T ok B13 o13 => ?_⟩
          exact hQ v r H13 T ok (D12.but x o13 (B13.more (by omega)))
        have rl := (D12.ru k k2).len
        by_cases hn : rs k = []
        · rw [hn]
          exact iteF (any H12 _ D12 (by omega))
        · have ne : (!((rs k).map ruD).isEmpty) = true := by
            cases z : rs k with
            | nil => exact absurd z hn
            | cons a l => rfl
          rw [ne]
          refine iteT ?_
          refine ⟨_, rfl, b, _, _, rfl, D12.box, by omega, by decide, by decide, fun m H13 m0 m5 B13 o13 => ?_⟩
          have D13 := D12.but x o13 B13
          by_cases hz : m = 0
          · refine ⟨rfl, true, congrArg V.bl (decide_eq_true (by rw [hz])), iteT ?_⟩
            have pos : 0 < (us k).length := by
              rw [rl]
              exact List.length_pos_iff.mpr hn
            have u8 := D13.u8 k k2
            refine ⟨_, rfl, _, rfl, b, tl k, us k, _, rfl, D13.box, by omega, D13.htl k k2, (D13.tD k k2).b, by omega, by omega, fun v H14 hv B14 o14 => ?_⟩
            have D14 := D13.but x o14 (B14.more (k := 810 + 60 * i' + 50) (by omega))
            obtain ⟨z, hz⟩ := List.mem_iff_getElem?.mp hv
            obtain ⟨r, hr, T⟩ := (D14.ru k k2).get hz
            exact hQ v r H14 T (D14.ok k k2 r (List.mem_of_getElem? hr)) D14
          · exact ⟨rfl, false, congrArg V.bl (decide_eq_false fun w => hz (V.int.inj w)), iteF (any H13 _ D13 (by omega))⟩
      refine rule _ fun v r H13 T ok D13 => ?_
      refine ⟨_, rfl, _, rfl, d' k, v, kvs k, r, rfl, D13.hdd k k2, D13.kd k k2, by have := D13.kl k k2; have := D13.u8 k k2; omega, by have := ok.bd.few; omega, T, fun H14 s14 => ?_⟩
      have D14 := D13.same x s14
      have T14 := T.same s14
      have fin : ∀ (e tl d' : Nat → Addr) (us : Nat → List V) (rs : Nat → List Ru) (kvs : Nat → KVs) (y7 y9 y10 y11 y12 y13 y14 y15 y16 y17 : Option V) (H15 : Hp) (D : L2.Ends), Dy C HB b wp sm kp p lt ws H15 (810 + 60 * i' + 50) t l d e tl d' us rs kvs →
          (∀ σ H9, (∃ (x5 x7 x9 x10 x11 x12 x13 x14 x15 x16 x17 : Option V) (e tl d' : Nat → Addr) (us : Nat → List V) (rs : Nat → List Ru) (kvs : Nat → KVs), σ = [some (.ref a), some (.ref pc), some (.int (0 + (i : Nat))), some (.ref b), some (.ref wp), x5, some (.ref sm), x7, some (.ref kp), x9, x10, x11, x12, x13, x14, x15, x16, x17] ∧
            Dy C HB b wp sm kp p lt ws H9 (810 + 60 * (i' + 1)) t l d e tl d' us rs kvs) → D.nx σ H9) →
          tsLook K C D [some (.ref a), some (.ref pc), some (.int (0 + (i : Nat))), some (.ref b), some (.ref wp), some (.int (0 + (i' : Nat))), some (.ref sm), y7, some (.ref kp), y9, y10, y11, y12, y13, y14, y15, y16, y17] H15 := by
        intro e tl d' us rs kvs y7 y9 y10 y11 y12 y13 y14 y15 y16 y17 H15 D D15 h
        refine look_ok D15 x wl fun x7 x16 x17 H' Y => h _ _ ⟨_, _, _, _, _, _, _, _, _, _, _, _, _, _, _, _, _, rfl, Y.but x (But.refl _ _) (Y.box.more (by omega))⟩
      have rb := ok.bd.few
      have htl14 := D14.htl k k2
      have u8 := D14.u8 k k2
      have kd14 := D14.kd k k2
      have kl14 := D14.kl k k2
      cases hw : clash (kvs k) (r.hd :: r.bd) with
      | some cx =>
        refine ⟨_, rfl, tl k, _, rfl, .inl (.inl (.inl htl14)), _, _, rfl, rfl, decide (((us k).length : Int) < 8), rfl, ?_⟩
        refine or_both ?_ fun hb => ⟨_, rfl, rfl, true, rfl, hb⟩
        refine iteT ?_
        refine ⟨_, rfl, rfl, false, rfl, iteF ?_⟩
        refine ⟨_, rfl, (by show 2 ≤ sizeLine; decide), fun u hu => ?_⟩
        have D15 := D14.same x (same_new hu (.lst [V.str "Clash", optV (some cx)]))
        have T15 := T14.same (same_new hu (.lst [V.str "Clash", optV (some cx)]))
        have hu15 : (upd H14 u (.lst [V.str "Clash", optV (some cx)])) u = some (.lst [V.str "Clash", V.str cx]) := upd_same
        generalize upd H14 u (.lst [V.str "Clash", optV (some cx)]) = H15 at D15 T15 hu15 ⊢
        refine ⟨_, rfl, _, rfl, p k, lt k, us k, rs k, kvs k, v, r, rfl, D15.hdf k k2, D15.ru k k2, by omega, kd14, by omega, by omega, T15, fun cn => (by rw [hw] at cn; cases cn), fun x' cx' q1 H16 hqN hq16 s16 => ?_⟩
        rw [hw] at cx'
        obtain rfl := Option.some.inj cx'
        have D16 := D15.same x s16
        refine ⟨_, rfl, _, _, 60, rfl, rfl, alike_strs hq16 (s16 _ _ hu15), fun H17 s17 => ⟨true, rfl, iteF ?_⟩⟩
        refine ⟨_, rfl, rfl, false, rfl, iteF ?_⟩
        exact fin e tl d' us rs kvs _ _ _ _ _ _ _ _ _ _ H17 _ (D16.same x s17) fun σ H9 h => h
      | none =>
        by_cases l8 : (us k).length < 8
        · refine ⟨_, rfl, tl k, _, rfl, .inl (.inl (.inl htl14)), _, _, rfl, rfl, true, congrArg V.bl (decide_eq_true (by omega)), iteT (iteT ?_)⟩
          refine ⟨_, rfl, rfl, true, rfl, iteT ?_⟩
          obtain ⟨pr, qr, vhr, xsr, rfl, hpr, ⟨par, xar, rfl, hpar, TAr⟩, hqr, hBr⟩ := id T14
          have RS14 := D14.ru k k2
          have rl := RS14.len
          refine ⟨_, rfl, tl k, rfl, ⟨_, .inl (.inl htl14)⟩, fun L hL => lc_list (K := K) (a := tl k) (xs := us k) (fun m H15 => H15 L = some (.lst (picked r.hd.nm ((us k).take m) ((rs k).take m))) ∧ Same H14 H15) ⟨by rw [upd_same]; rfl, same_new hL _⟩ (fun m H15 _ ⟨_, s⟩ => .inl (.inl (s _ _ htl14))) ?_ ?_⟩
          · rintro m v1 H15 hm ⟨h15, s15⟩
            obtain ⟨r1, hri, T1⟩ := RS14.get hm
            obtain ⟨p1, q1, vh1, xs1, rfl, hp1, ⟨pa1, xa1, rfl, hpa1, TA1⟩, hq1, hB1⟩ := T1.same s15
            refine ⟨rfl, ?_⟩
            unfold ttHd
            refine ⟨_, rfl, p1, _, 0, _, rfl, rfl, .inl (.inl hp1), rfl, pa1, _, 0, .str r1.hd.nm, rfl, rfl, .inl (.inl hpa1), at_first _ _, _, rfl, pr, _, 0, _, rfl, rfl, .inl (.inl (s15 _ _ hpr)), rfl, par, _, 0, .str r.hd.nm, rfl, rfl, .inl (.inl (s15 _ _ hpar)), at_first _ _, rfl, decide (r1.hd.nm = r.hd.nm), ?_, ?_⟩
            · exact congrArg V.bl (by by_cases h : r1.hd.nm = r.hd.nm <;> simp [h])
            have pm := picked_more (x := r.hd.nm) hm hri
            by_cases h : r1.hd.nm = r.hd.nm
            · rw [decide_eq_true h]
              refine iteT ⟨_, rfl, _, h15, ?_, ?_, ?_⟩
              · have := picked_le (x := r.hd.nm) (us := (us k).take m) (rs := (rs k).take m)
                rw [List.length_take] at this
                omega
              · rw [upd_same, pm, if_pos h]
              · intro c o z
                rw [upd_ne (ne_of_none z hL)]
                exact s15 _ _ z
            · rw [decide_eq_false h]
              refine iteF ⟨?_, s15⟩
              rw [pm, if_neg h, List.append_nil]
              exact h15
          rintro H15 ⟨h15, s15⟩
          rw [List.take_length, rl, List.take_length] at h15
          refine ⟨L, _, rfl, .inl (.inl (.inl h15)), ?_⟩
          have D15 := D14.same x s15
          have T15 := T14.same s15
          refine ⟨_, rfl, _, rfl, p k, lt k, us k, rs k, kvs k, .ref pr, r, rfl, D15.hdf k k2, D15.ru k k2, by omega, kd14, by omega, by omega, T15, fun cn H16 df16 o16 => ?_, fun x' cx' => by rw [hw] at cx'; cases cx'⟩
          refine ⟨_, rfl, _, _, 60, rfl, rfl, alike_plain trivial, fun H17 s17 => ⟨true, rfl, iteF ?_⟩⟩
          refine ⟨_, rfl, rfl, true, rfl, iteT ?_⟩
          have hpL := (D15.hdf k k2).lst
          obtain ⟨dx, fs, hpI⟩ := (D15.hdf k k2).ins
          have k17 : ∀ c o, H15 c = some o → c ≠ p k → c ≠ lt k → H17 c = some o := fun c o z n1 n2 => s17 _ _ (o16 _ _ z n1 n2)
          have tup17 : ∀ c xs, H15 c = some (.tup xs) → H17 c = some (.tup xs) := fun c xs z => k17 _ _ z (ne_of z hpI (by intro e; cases e)) (ne_of z hpL (by intro e; cases e))
          have T17 := T15.mono tup17
          have htl17 := k17 _ _ (D15.htl k k2) (ne_of (D15.htl k k2) hpI (by intro e; cases e)) ((D15.tD k k2).l k k2)
          have hdd17 := k17 _ _ (D15.hdd k k2) (ne_of (D15.hdd k k2) hpI (by intro e; cases e)) (ne_of (D15.hdd k k2) hpL (by intro e; cases e))
          have hkp17 := k17 _ _ D15.hkp (ne_of D15.hkp hpI (by intro e; cases e)) (x.lk k k2).symm
          refine ⟨_, rfl, _, rfl, (by show 1 ≤ sizeLine; decide), fun g2 hg2 => ?_⟩
          have s18 := same_new hg2 (.lst [V.ref pr])
          have hg18 : (upd H17 g2 (.lst [V.ref pr])) g2 = some (.lst [V.ref pr]) := upd_same
          generalize upd H17 g2 (.lst [V.ref pr]) = H18 at s18 hg18 ⊢
          refine ⟨tl k, g2, _, _, rfl, rfl, s18 _ _ htl17, hg18, by simp; omega, fun tl' htl' => ?_⟩
          have s19 := same_new htl' (.lst (us k ++ [V.ref pr]))
          have ht19 : (upd H18 tl' (.lst (us k ++ [V.ref pr]))) tl' = some (.lst (us k ++ [V.ref pr])) := upd_same
          have s179 := s18.trans s19
          have tN : H16 tl' = none := by
            cases z : H16 tl' with
            | none => rfl
            | some o => rw [s18 _ _ (s17 _ _ z)] at htl'; cases htl'
          generalize upd H18 tl' (.lst (us k ++ [V.ref pr])) = H19 at s179 ht19 ⊢
          refine ⟨_, rfl, _, rfl, d' k, .ref pr, kvs k, r, rfl, s179 _ _ hdd17, by omega, by omega, T17.same s179, fun d2 H20 hd2N hd2 s20 => ?_⟩
          refine ⟨(by show 2 ≤ sizeLine; decide), fun e' he' => ?_⟩
          have s21 := same_new he' (.lst [V.ref tl', V.ref d2])
          have he21 : (upd H20 e' (.lst [V.ref tl', V.ref d2])) e' = some (.lst [V.ref tl', V.ref d2]) := upd_same
          have s1720 := s179.trans s20
          have s1620 := s17.trans s1720
          have s1621 := s1620.trans s21
          have eN : H16 e' = none := by
            cases z : H16 e' with
            | none => rfl
            | some o => rw [s1620 _ _ z] at he'; cases he'
          have ht21 := s21 _ _ (s20 _ _ ht19)
          have hd21 := s21 _ _ hd2
          have hkp21 := s21 _ _ (s1720 _ _ hkp17)
          generalize upd H20 e' (.lst [V.ref tl', V.ref d2]) = H21 at he21 s1621 ht21 hd21 hkp21 ⊢
          refine ⟨_, rfl, _, rfl, kp, _, _, k, rfl, rfl, hkp21, ixN_int (by constructor <;> simp <;> omega), ?_⟩
          have kn := knows_le (as := r.hd :: r.bd) (kvs := kvs k)
          rw [List.length_cons] at kn
          have Y := D15.told x k2 o16 df16 s1621 he21 ht21 hd21 eN tN T15 ok l8 (knows_ok kd14 hw) (by omega)
          rw [← set_two k2] at Y
          exact fin _ _ _ _ _ _ _ _ _ _ _ _ _ _ _ _ _ _ Y fun σ H9 h => h
        · refine ⟨_, rfl, tl k, _, rfl, .inl (.inl (.inl htl14)), _, _, rfl, rfl, false, congrArg V.bl (decide_eq_false (by omega)), iteF ?_⟩
          refine ⟨_, rfl, rfl, false, rfl, iteF ?_⟩
          exact fin e tl d' us rs kvs _ _ _ _ _ _ _ _ _ _ H14 _ D14 fun σ H9 h => h
    · rintro σ H9 ⟨x5, x7, x9, x10, x11, x12, x13, x14, x15, x16, x17, e, tl, d', us, rs, kvs, rfl, D9⟩
      exact ⟨_, _, _, _, _, _, _, _, _, _, _, _, _, _, _, _, rfl, D9.old _ _ hpcB⟩
  · rintro σ H2 _
    exact q H2
end
end Rp

namespace Rp
open PySem L2
theorem gn_of {P : Program} {w : World} {K : PySem.W.Frag} {mg : Str → Option Value} {base : Heap} {k : Nat} {f : Addr} {fd : FuncData} {ps : List Str} {sp : Sp} (F : FnOk P w K mg base CX0 k f fd ps sp) : GnOk P w K mg base k f fd ps sp :=
  ⟨F.len, fun A outer s H args us vs Q E _ hr e0 hb r h => F.run A outer s H args us vs Q E hr e0 hb r h⟩
def oexIn (K : PySem.W.Frag) (C : Addr) : Bool := match K.lookup C with
  | some ⟨.type "type", _, .cls cd, sl⟩ => (match cd.mro, sl.toList with
    | .ref C' :: bm, [_, _, _, _, some (.builtin n), _] => C' == C && n == "ValueError.__new__" && !cd.hasDel && cd.hasDict && PySem.HandSPX.refsVE bm
    | _, _ => false)
  | _ => false
theorem oexIn_ok {K : PySem.W.Frag} {C : Addr} (q : oexIn K C = true) : ∃ nm q N bs bm sn sub ab col dd k0 k1 k2 k3 k5, K.lookup C = some (excClassObj nm q C N bs bm true sn sub ab col dd k0 k1 k2 k3 k5 "ValueError.__new__") ∧ PySem.HandSPX.refsVE bm = true := by
  unfold oexIn at q
  split at q
  · rename_i dd cd sl ho
    split at q
    · rename_i C' bm k0 k1 k2 k3 n k5 hm hs
      simp only [Bool.and_eq_true, beq_iff_eq, Bool.not_eq_true'] at q
      obtain ⟨⟨⟨⟨rfl, hn⟩, hdel⟩, hdct⟩, ht⟩ := q
      subst hn
      obtain ⟨nm, bs, mro, ns, qn, hd, sn, sub, ab, col, del⟩ := cd
      dsimp only at hm hdel hdct
      subst hm hdel hdct
      have hsl : sl = #[k0, k1, k2, k3, some (.builtin "ValueError.__new__"), k5] := by
        obtain ⟨l⟩ := sl
        simp only at hs
        rw [hs]
      subst hsl
      exact ⟨nm, qn, ns, bs, bm, sn, sub, ab, col, dd, k0, k1, k2, k3, k5, ho, ht⟩
    · cases q
  · cases q
structure Kls (K : PySem.W.Frag) (fI C : Addr) : Prop where
  oex : OexC K C
  ini : PySem.W.findIn K (.ref C) "__init__" = some (some (.ref fI))
  wh : PySem.W.findIn K (.ref C) "what" = some none
  exc : ExcC K C
  xf : XfC K C
def klsB (K : PySem.W.Frag) (fI C : Addr) : Bool := oexIn K C && (decide (PySem.W.findIn K (.ref C) "__setattr__" = some (some (.builtin "object.__setattr__"))) && (decide (PySem.W.subIn K (.ref C) (.type "BaseException") = some true) && (decide (PySem.W.typeIn K (.ref C) = some (.type "type")) && (PySem.W.keepIn K (.ref C) &&
  (decide (PySem.W.findIn K (.ref C) "__init__" = some (some (.ref fI))) && (decide (PySem.W.findIn K (.ref C) "what" = some none) && (decide (PySem.W.findIn K (.ref C) "__getattribute__" = some (some (.builtin "BaseException.__getattribute__"))) && (decide (PySem.W.findIn K (.ref C) "__getattr__" = some none) && (PySem.W.hasDictIn K C &&
  (decide (PySem.W.findIn K (.ref C) "__class__" = some (some (.builtin "object.__class__"))) && (decide (PySem.W.specialIn K (.builtin "object.__class__") "__get__" = some (some (.builtin "getset_descriptor.__get__"))) && (decide (PySem.W.takesIn K (.builtin "object.__class__") = some true) && decide (PySem.W.mroIn K C (.type "object") = some true)))))))))))))
theorem klsB_ok {K : PySem.W.Frag} {fI C : Addr} (h : klsB K fI C = true) : Kls K fI C := by
  unfold klsB at h
  obtain ⟨h0, h⟩ := Bool.and_eq_true_iff.mp h
  obtain ⟨h1, h⟩ := Bool.and_eq_true_iff.mp h
  obtain ⟨h2, h⟩ := Bool.and_eq_true_iff.mp h
  obtain ⟨h3, h⟩ := Bool.and_eq_true_iff.mp h
  obtain ⟨h4, h⟩ := Bool.and_eq_true_iff.mp h
  obtain ⟨h5, h⟩ := Bool.and_eq_true_iff.mp h
  obtain ⟨h6, h⟩ := Bool.and_eq_true_iff.mp h
  obtain ⟨h7, h⟩ := Bool.and_eq_true_iff.mp h
  obtain ⟨h8, h⟩ := Bool.and_eq_true_iff.mp h
  obtain ⟨h9, h⟩ := Bool.and_eq_true_iff.mp h
  obtain ⟨h10, h⟩ := Bool.and_eq_true_iff.mp h
  obtain ⟨h11, h⟩ := Bool.and_eq_true_iff.mp h
  obtain ⟨h12, h13⟩ := Bool.and_eq_true_iff.mp h
  exact ⟨⟨oexIn_ok h0, of_decide_eq_true h1, of_decide_eq_true h2, of_decide_eq_true h3, h4⟩, of_decide_eq_true h5, of_decide_eq_true h6, ⟨of_decide_eq_true h7, of_decide_eq_true h8, of_decide_eq_true h2, h9, of_decide_eq_true h10, of_decide_eq_true h11, of_decide_eq_true h12, of_decide_eq_true h13⟩,
    ⟨of_decide_eq_true h7, of_decide_eq_true h8, of_decide_eq_true h2, h9⟩⟩
theorem all_mk {l : PySem.W.OpenLaw} {w : World} {K : PySem.W.Frag} {h : Heap} {mg : Str → Option Value} {fa f1 f2 f3 f4 f5 f6 f7 f8 f9 f10 f11 f12 f13 f14 f15 f16 f17 f18 f19 : Addr} (X : K.In h) (G : h.Ns mainGlobals mg) (hfa : mg "law" = some (.ref fa))
    {od1 an1 od2 an2 od3 an3 od4 an4 od5 an5 od6 an6 od7 an7 od8 an8 od9 an9 od10 an10 od11 an11 od12 an12 od13 an13 od14 an14 od15 an15 od16 an16 od17 an17 od18 an18 od19 an19 : Option Addr} {sl1 sl2 sl3 sl4 sl5 sl6 sl7 sl8 sl9 sl10 sl11 sl12 sl13 sl14 sl15 sl16 sl17 sl18 sl19 : Array (Option Value)} {oc1 kV1 dc1 pm1 cd1 ct1 oc2 kV2 dc2 pm2 cd2 ct2 oc3 kV3 dc3 pm3 cd3 ct3 oc4 kV4 dc4 pm4 cd4 ct4 oc5 kV5 dc5 pm5 cd5 ct5 oc6 kV6 dc6 pm6 cd6 ct6 oc7 kV7 dc7 pm7 cd7 ct7 oc8 kV8 dc8 pm8 cd8 ct8 oc9 kV9 dc9 pm9 cd9 ct9 oc10 kV10 dc10 pm10 cd10 ct10 oc11 kV11 dc11 pm11 cd11 ct11 oc12 kV12 dc12 pm12 cd12 ct12 oc13 kV13 dc13 pm13 cd13 ct13 oc14 kV14 dc14 pm14 cd14 ct14 oc15 kV15 dc15 pm15 cd15 ct15 oc16 kV16 dc16 pm16 cd16 ct16 oc17 kV17 dc17 pm17 cd17 ct17 oc18 kV18 dc18 pm18 cd18 ct18 oc19 kV19 dc19 pm19 cd19 ct19 : Value}
    {fXi fTl fTw fRu fWo fTe fAl fIn CE CC CB CN CD TD q0 : Addr} {odXi anXi odTl anTl odTw anTw odRu anRu odWo anWo odTe anTe odAl anAl odIn anIn odT odq : Option Addr} {slXi slTl slTw slRu slWo slTe slAl slIn slT slq : Array (Option Value)} {nT nq : Nat} {ocXi kVXi dcXi pmXi cdXi ctXi ocTl kVTl dcTl pmTl cdTl ctTl ocTw kVTw dcTw pmTw cdTw ctTw ocRu kVRu dcRu pmRu cdRu ctRu ocWo kVWo dcWo pmWo cdWo ctWo ocTe kVTe dcTe pmTe cdTe ctTe ocAl kVAl dcAl pmAl cdAl ctAl ocIn kVIn dcIn pmIn cdIn ctIn : Value}
    (a1 : PySem.W.nsIn K mainGlobals "_law_box" = some (some (.ref f1))) (l1 : K.lookup f1 = some ⟨oc1, od1, .func (PySem.W.fnOf "_law_box" "_law_box" (defArgs sBox) (defBody sBox) (defScope sBox) .none kV1 dc1 pm1 an1 cd1 ct1), sl1⟩) (c1 : PySem.W.codeIn K cd1 "_law_box" = true) (k1 : PySem.W.keepIn K (.ref f1) = true)
    (a2 : PySem.W.nsIn K mainGlobals "_law_take" = some (some (.ref f2))) (l2 : K.lookup f2 = some ⟨oc2, od2, .func (PySem.W.fnOf "_law_take" "_law_take" (defArgs sTake) (defBody sTake) (defScope sTake) .none kV2 dc2 pm2 an2 cd2 ct2), sl2⟩) (c2 : PySem.W.codeIn K cd2 "_law_take" = true) (k2 : PySem.W.keepIn K (.ref f2) = true)
    (a3 : PySem.W.nsIn K mainGlobals "_law_pick" = some (some (.ref f3))) (l3 : K.lookup f3 = some ⟨oc3, od3, .func (PySem.W.fnOf "_law_pick" "_law_pick" (defArgs sPick) (defBody sPick) (defScope sPick) .none kV3 dc3 pm3 an3 cd3 ct3), sl3⟩) (c3 : PySem.W.codeIn K cd3 "_law_pick" = true) (k3 : PySem.W.keepIn K (.ref f3) = true)
    (a4 : PySem.W.nsIn K mainGlobals "_law_folded" = some (some (.ref f4))) (l4 : K.lookup f4 = some ⟨oc4, od4, .func (PySem.W.fnOf "_law_folded" "_law_folded" (defArgs sFolded) (defBody sFolded) (defScope sFolded) .none kV4 dc4 pm4 an4 cd4 ct4), sl4⟩) (c4 : PySem.W.codeIn K cd4 "_law_folded" = true) (k4 : PySem.W.keepIn K (.ref f4) = true)
    (a5 : PySem.W.nsIn K mainGlobals "_law_same" = some (some (.ref f5))) (l5 : K.lookup f5 = some ⟨oc5, od5, .func (PySem.W.fnOf "_law_same" "_law_same" (defArgs sSame) (defBody sSame) (defScope sSame) .none kV5 dc5 pm5 an5 cd5 ct5), sl5⟩) (c5 : PySem.W.codeIn K cd5 "_law_same" = true) (k5 : PySem.W.keepIn K (.ref f5) = true)
    (a6 : PySem.W.nsIn K mainGlobals "_law_words" = some (some (.ref f6))) (l6 : K.lookup f6 = some ⟨oc6, od6, .func (PySem.W.fnOf "_law_words" "_law_words" (defArgs sWords) (defBody sWords) (defScope sWords) .none kV6 dc6 pm6 an6 cd6 ct6), sl6⟩) (c6 : PySem.W.codeIn K cd6 "_law_words" = true) (k6 : PySem.W.keepIn K (.ref f6) = true)
    (a7 : PySem.W.nsIn K mainGlobals "_law_counts" = some (some (.ref f7))) (l7 : K.lookup f7 = some ⟨oc7, od7, .func (PySem.W.fnOf "_law_counts" "_law_counts" (defArgs sCounts) (defBody sCounts) (defScope sCounts) .none kV7 dc7 pm7 an7 cd7 ct7), sl7⟩) (c7 : PySem.W.codeIn K cd7 "_law_counts" = true) (k7 : PySem.W.keepIn K (.ref f7) = true)
    (a8 : PySem.W.nsIn K mainGlobals "_law_head" = some (some (.ref f8))) (l8 : K.lookup f8 = some ⟨oc8, od8, .func (PySem.W.fnOf "_law_head" "_law_head" (defArgs sHead) (defBody sHead) (defScope sHead) .none kV8 dc8 pm8 an8 cd8 ct8), sl8⟩) (c8 : PySem.W.codeIn K cd8 "_law_head" = true) (k8 : PySem.W.keepIn K (.ref f8) = true)
    (a9 : PySem.W.nsIn K mainGlobals "_law_rule" = some (some (.ref f9))) (l9 : K.lookup f9 = some ⟨oc9, od9, .func (PySem.W.fnOf "_law_rule" "_law_rule" (defArgs sRule) (defBody sRule) (defScope sRule) .none kV9 dc9 pm9 an9 cd9 ct9), sl9⟩) (c9 : PySem.W.codeIn K cd9 "_law_rule" = true) (k9 : PySem.W.keepIn K (.ref f9) = true)
    (a10 : PySem.W.nsIn K mainGlobals "_law_due_clash" = some (some (.ref f10))) (l10 : K.lookup f10 = some ⟨oc10, od10, .func (PySem.W.fnOf "_law_due_clash" "_law_due_clash" (defArgs sDueClash) (defBody sDueClash) (defScope sDueClash) .none kV10 dc10 pm10 an10 cd10 ct10), sl10⟩) (c10 : PySem.W.codeIn K cd10 "_law_due_clash" = true) (k10 : PySem.W.keepIn K (.ref f10) = true)
    (a11 : PySem.W.nsIn K mainGlobals "_law_told_on" = some (some (.ref f11))) (l11 : K.lookup f11 = some ⟨oc11, od11, .func (PySem.W.fnOf "_law_told_on" "_law_told_on" (defArgs sToldOn) (defBody sToldOn) (defScope sToldOn) .none kV11 dc11 pm11 an11 cd11 ct11), sl11⟩) (c11 : PySem.W.codeIn K cd11 "_law_told_on" = true) (k11 : PySem.W.keepIn K (.ref f11) = true)
    (a12 : PySem.W.nsIn K mainGlobals "_law_any_rule" = some (some (.ref f12))) (l12 : K.lookup f12 = some ⟨oc12, od12, .func (PySem.W.fnOf "_law_any_rule" "_law_any_rule" (defArgs sAnyRule) (defBody sAnyRule) (defScope sAnyRule) .none kV12 dc12 pm12 an12 cd12 ct12), sl12⟩) (c12 : PySem.W.codeIn K cd12 "_law_any_rule" = true) (k12 : PySem.W.keepIn K (.ref f12) = true)
    (a13 : PySem.W.nsIn K mainGlobals "_law_defs_told" = some (some (.ref f13))) (l13 : K.lookup f13 = some ⟨oc13, od13, .func (PySem.W.fnOf "_law_defs_told" "_law_defs_told" (defArgs sDefsTold) (defBody sDefsTold) (defScope sDefsTold) .none kV13 dc13 pm13 an13 cd13 ct13), sl13⟩) (c13 : PySem.W.codeIn K cd13 "_law_defs_told" = true) (k13 : PySem.W.keepIn K (.ref f13) = true)
    (a14 : PySem.W.nsIn K mainGlobals "_law_defs_due" = some (some (.ref f14))) (l14 : K.lookup f14 = some ⟨oc14, od14, .func (PySem.W.fnOf "_law_defs_due" "_law_defs_due" (defArgs sDefsDue) (defBody sDefsDue) (defScope sDefsDue) .none kV14 dc14 pm14 an14 cd14 ct14), sl14⟩) (c14 : PySem.W.codeIn K cd14 "_law_defs_due" = true) (k14 : PySem.W.keepIn K (.ref f14) = true)
    (a15 : PySem.W.nsIn K mainGlobals "_law_asked" = some (some (.ref f15))) (l15 : K.lookup f15 = some ⟨oc15, od15, .func (PySem.W.fnOf "_law_asked" "_law_asked" (defArgs sAsked) (defBody sAsked) (defScope sAsked) .none kV15 dc15 pm15 an15 cd15 ct15), sl15⟩) (c15 : PySem.W.codeIn K cd15 "_law_asked" = true) (k15 : PySem.W.keepIn K (.ref f15) = true)
    (a16 : PySem.W.nsIn K mainGlobals "_law_made" = some (some (.ref f16))) (l16 : K.lookup f16 = some ⟨oc16, od16, .func (PySem.W.fnOf "_law_made" "_law_made" (defArgs sMadeL) (defBody sMadeL) (defScope sMadeL) .none kV16 dc16 pm16 an16 cd16 ct16), sl16⟩) (c16 : PySem.W.codeIn K cd16 "_law_made" = true) (k16 : PySem.W.keepIn K (.ref f16) = true)
    (a17 : PySem.W.nsIn K mainGlobals "_law_begun" = some (some (.ref f17))) (l17 : K.lookup f17 = some ⟨oc17, od17, .func (PySem.W.fnOf "_law_begun" "_law_begun" (defArgs sBegun) (defBody sBegun) (defScope sBegun) .none kV17 dc17 pm17 an17 cd17 ct17), sl17⟩) (c17 : PySem.W.codeIn K cd17 "_law_begun" = true) (k17 : PySem.W.keepIn K (.ref f17) = true)
    (a18 : PySem.W.nsIn K mainGlobals "_law_unlike" = some (some (.ref f18))) (l18 : K.lookup f18 = some ⟨oc18, od18, .func (PySem.W.fnOf "_law_unlike" "_law_unlike" (defArgs sUnlikeL) (defBody sUnlikeL) (defScope sUnlikeL) .none kV18 dc18 pm18 an18 cd18 ct18), sl18⟩) (c18 : PySem.W.codeIn K cd18 "_law_unlike" = true) (k18 : PySem.W.keepIn K (.ref f18) = true)
    (a19 : PySem.W.nsIn K mainGlobals "law" = some (some (.ref f19))) (l19 : K.lookup f19 = some ⟨oc19, od19, .func (PySem.W.fnOf "law" "law" (defArgs sLaw) (defBody sLaw) (defScope sLaw) .none kV19 dc19 pm19 an19 cd19 ct19), sl19⟩) (c19 : PySem.W.codeIn K cd19 "law" = true) (k19 : PySem.W.keepIn K (.ref f19) = true)
    (z1 : PySem.W.nsIn K mainGlobals "isinstance" = some none)
    (z2 : PySem.W.nsIn K mainGlobals "int" = some none)
    (z3 : PySem.W.nsIn K mainGlobals "len" = some none)
    (z4 : PySem.W.nsIn K mainGlobals "list" = some none)
    (z5 : PySem.W.nsIn K mainGlobals "tuple" = some none)
    (z6 : PySem.W.nsIn K mainGlobals "all" = some none)
    (z7 : PySem.W.nsIn K mainGlobals "zip" = some none)
    (z8 : PySem.W.nsIn K mainGlobals "str" = some none)
    (z9 : PySem.W.nsIn K mainGlobals "bool" = some none)
    (z10 : PySem.W.nsIn K mainGlobals "range" = some none)
    (z11 : PySem.W.nsIn K mainGlobals "abs" = some none)
    (z12 : PySem.W.nsIn K mainGlobals "dict" = some none)
    (z13 : PySem.W.nsIn K mainGlobals "sorted" = some none)
    (z14 : PySem.W.nsIn K mainGlobals "enumerate" = some none)
    (z15 : PySem.W.nsIn K mainGlobals "ValueError" = some none)
    (xnCE : PySem.W.nsIn K mainGlobals "RingError" = some (some (.ref CE)))
    (xnCC : PySem.W.nsIn K mainGlobals "Clash" = some (some (.ref CC)))
    (xnCB : PySem.W.nsIn K mainGlobals "BadText" = some (some (.ref CB)))
    (xnCN : PySem.W.nsIn K mainGlobals "NoRule" = some (some (.ref CN)))
    (xnCD : PySem.W.nsIn K mainGlobals "Definitions" = some (some (.ref CD)))
    (xaXi : PySem.W.findIn K (.ref CE) "__init__" = some (some (.ref fXi)))
    (xlXi : K.lookup fXi = some ⟨ocXi, odXi, .func (PySem.W.fnOf "__init__" "RingError.__init__" (defArgs sErrI) (defBody sErrI) (defScope sErrI) .none kVXi dcXi pmXi anXi cdXi ctXi), slXi⟩)
    (xcXi : PySem.W.codeIn K cdXi "RingError.__init__" = true)
    (xkXi : PySem.W.keepIn K (.ref fXi) = true)
    (xaTl : PySem.W.findIn K (.ref CD) "tell" = some (some (.ref fTl)))
    (xiTl : PySem.W.isFn K (.ref fTl) = true)
    (xlTl : K.lookup fTl = some ⟨ocTl, odTl, .func (PySem.W.fnOf "tell" "Definitions.tell" (defArgs sTell) (defBody sTell) (defScope sTell) .none kVTl dcTl pmTl anTl cdTl ctTl), slTl⟩)
    (xcTl : PySem.W.codeIn K cdTl "Definitions.tell" = true)
    (xkTl : PySem.W.keepIn K (.ref fTl) = true)
    (xaTw : PySem.W.findIn K (.ref CD) "_terms_with" = some (some (.ref fTw)))
    (xiTw : PySem.W.isFn K (.ref fTw) = true)
    (xlTw : K.lookup fTw = some ⟨ocTw, odTw, .func (PySem.W.fnOf "_terms_with" "Definitions._terms_with" (defArgs sTermsW) (defBody sTermsW) (defScope sTermsW) .none kVTw dcTw pmTw anTw cdTw ctTw), slTw⟩)
    (xcTw : PySem.W.codeIn K cdTw "Definitions._terms_with" = true)
    (xkTw : PySem.W.keepIn K (.ref fTw) = true)
    (xaRu : PySem.W.findIn K (.ref CD) "rules" = some (some (.ref fRu)))
    (xiRu : PySem.W.isFn K (.ref fRu) = true)
    (xlRu : K.lookup fRu = some ⟨ocRu, odRu, .func (PySem.W.fnOf "rules" "Definitions.rules" (defArgs sRules) (defBody sRules) (defScope sRules) .none kVRu dcRu pmRu anRu cdRu ctRu), slRu⟩)
    (xcRu : PySem.W.codeIn K cdRu "Definitions.rules" = true)
    (xkRu : PySem.W.keepIn K (.ref fRu) = true)
    (xaWo : PySem.W.findIn K (.ref CD) "words" = some (some (.ref fWo)))
    (xiWo : PySem.W.isFn K (.ref fWo) = true)
    (xlWo : K.lookup fWo = some ⟨ocWo, odWo, .func (PySem.W.fnOf "words" "Definitions.words" (defArgs sWordsM) (defBody sWordsM) (defScope sWordsM) .none kVWo dcWo pmWo anWo cdWo ctWo), slWo⟩)
    (xcWo : PySem.W.codeIn K cdWo "Definitions.words" = true)
    (xkWo : PySem.W.keepIn K (.ref fWo) = true)
    (xaTe : PySem.W.findIn K (.ref CD) "terms" = some (some (.ref fTe)))
    (xiTe : PySem.W.isFn K (.ref fTe) = true)
    (xlTe : K.lookup fTe = some ⟨ocTe, odTe, .func (PySem.W.fnOf "terms" "Definitions.terms" (defArgs sTermsM) (defBody sTermsM) (defScope sTermsM) .none kVTe dcTe pmTe anTe cdTe ctTe), slTe⟩)
    (xcTe : PySem.W.codeIn K cdTe "Definitions.terms" = true)
    (xkTe : PySem.W.keepIn K (.ref fTe) = true)
    (xaAl : PySem.W.findIn K (.ref CD) "all_rules" = some (some (.ref fAl)))
    (xiAl : PySem.W.isFn K (.ref fAl) = true)
    (xlAl : K.lookup fAl = some ⟨ocAl, odAl, .func (PySem.W.fnOf "all_rules" "Definitions.all_rules" (defArgs sAllR) (defBody sAllR) (defScope sAllR) .none kVAl dcAl pmAl anAl cdAl ctAl), slAl⟩)
    (xcAl : PySem.W.codeIn K cdAl "Definitions.all_rules" = true)
    (xkAl : PySem.W.keepIn K (.ref fAl) = true)
    (xaIn : PySem.W.findIn K (.ref CD) "__init__" = some (some (.ref fIn)))
    (xiIn : PySem.W.isFn K (.ref fIn) = true)
    (xlIn : K.lookup fIn = some ⟨ocIn, odIn, .func (PySem.W.fnOf "__init__" "Definitions.__init__" (defArgs sDInit) (defBody sDInit) (defScope sDInit) (.ref TD) kVIn dcIn pmIn anIn cdIn ctIn), slIn⟩)
    (xcIn : PySem.W.codeIn K cdIn "Definitions.__init__" = true)
    (xkIn : PySem.W.keepIn K (.ref fIn) = true)
    (xT : K.lookup TD = some ⟨.type "tuple", odT, .seq #[.ref q0] nT, slT⟩)
    (xQ : K.lookup q0 = some ⟨.type "tuple", odq, .seq #[] nq, slq⟩)
    (xty : PySem.W.typeIn K (.ref fXi) = some (.type "function"))
    (xvV : PySem.W.findCls K (.type "ValueError") (.type "type") "__init__" = some (.val (.builtin "ValueError.__init__")))
    (xpg : PySem.W.plainGet K CD Str.empty = true)
    (xhd : PySem.W.hasDictIn K CD = true)
    (xpo : PySem.W.plainOver K CD = true)
    (xsa : PySem.W.findIn K (.ref CD) "__setattr__" = some (some (.builtin "object.__setattr__")))
    (xmk : PySem.W.makesIn K CD = true)
    (xkc : PySem.W.keepIn K (.ref CD) = true)
    (xnT : PySem.W.findIn K (.ref CD) "_told" = some none)
    (xnM : PySem.W.findIn K (.ref CD) "_terms" = some none)
    (xK : klsB K fXi CC = true)
    (xE : (decide (PySem.W.exmOne K (.ref CC) (.ref CE) = some true) && (decide (PySem.W.exmOne K (.ref CC) (.ref CC) = some true) && (decide (PySem.W.kitOne K (.ref CC) (.ref CC) = some true) && (decide (PySem.W.kitOne K (.ref CC) (.type "ValueError") = some true) && decide (PySem.W.kitAny K (.ref CC) [.ref CB, .ref CN] = some false))))) = true)
    : ∃ fd : FuncData, (∀ (s : Shared) (v : Value), BindsTo s fd ⟨[v], []⟩ [("_law_script", v)]) ∧ ∀ base : Heap, K.In base → base.Ns mainGlobals mg → GnOk l.prog w K mg base 62 fa fd ["_law_script"] (spLaw K) := by
  have e := hfa.symm.trans (PySem.W.mg_of X G a19)
  cases e
  have F1 := fun_mk (st := sBox) l1 c1 k1
  have b1 := F1.binds (ps := ["_law_script", "_law_k"]) fun _ _ _ _ _ _ us hl => match us, hl with | [_, _], _ => rfl
  have m1 := PySem.W.mg_of X G a1
  have F2 := fun_mk (st := sTake) l2 c2 k2
  have b2 := F2.binds (ps := ["_law_box_here", "_law_top"]) fun _ _ _ _ _ _ us hl => match us, hl with | [_, _], _ => rfl
  have m2 := PySem.W.mg_of X G a2
  have F3 := fun_mk (st := sPick) l3 c3 k3
  have b3 := F3.binds (ps := ["_law_box_here", "_law_things"]) fun _ _ _ _ _ _ us hl => match us, hl with | [_, _], _ => rfl
  have m3 := PySem.W.mg_of X G a3
  have F4 := fun_mk (st := sFolded) l4 c4 k4
  have b4 := F4.binds (ps := ["_law_script", "_law_count"]) fun _ _ _ _ _ _ us hl => match us, hl with | [_, _], _ => rfl
  have m4 := PySem.W.mg_of X G a4
  have F5 := fun_mk (st := sSame) l5 c5 k5
  have b5 := F5.binds (ps := ["_law_found", "_law_due"]) fun _ _ _ _ _ _ us hl => match us, hl with | [_, _], _ => rfl
  have m5 := PySem.W.mg_of X G a5
  have F6 := fun_mk (st := sWords) l6 c6 k6
  have b6 := F6.binds (ps := ["_law_box_here", "_law_count"]) fun _ _ _ _ _ _ us hl => match us, hl with | [_, _], _ => rfl
  have m6 := PySem.W.mg_of X G a6
  have F7 := fun_mk (st := sCounts) l7 c7 k7
  have b7 := F7.binds (ps := ["_law_box_here", "_law_words_here"]) fun _ _ _ _ _ _ us hl => match us, hl with | [_, _], _ => rfl
  have m7 := PySem.W.mg_of X G a7
  have F8 := fun_mk (st := sHead) l8 c8 k8
  have b8 := F8.binds (ps := ["_law_box_here", "_law_word", "_law_many"]) fun _ _ _ _ _ _ us hl => match us, hl with | [_, _, _], _ => rfl
  have m8 := PySem.W.mg_of X G a8
  have F9 := fun_mk (st := sRule) l9 c9 k9
  have b9 := F9.binds (ps := ["_law_box_here", "_law_counts_here"]) fun _ _ _ _ _ _ us hl => match us, hl with | [_, _], _ => rfl
  have m9 := PySem.W.mg_of X G a9
  have F10 := fun_mk (st := sDueClash) l10 c10 k10
  have b10 := F10.binds (ps := ["_law_counts_here", "_law_rule_here"]) fun _ _ _ _ _ _ us hl => match us, hl with | [_, _], _ => rfl
  have m10 := PySem.W.mg_of X G a10
  have F11 := fun_mk (st := sToldOn) l11 c11 k11
  have b11 := F11.binds (ps := ["_law_counts_here", "_law_rule_here"]) fun _ _ _ _ _ _ us hl => match us, hl with | [_, _], _ => rfl
  have m11 := PySem.W.mg_of X G a11
  have F12 := fun_mk (st := sAnyRule) l12 c12 k12
  have b12 := F12.binds (ps := ["_law_box_here", "_law_words_here"]) fun _ _ _ _ _ _ us hl => match us, hl with | [_, _], _ => rfl
  have m12 := PySem.W.mg_of X G a12
  have F13 := fun_mk (st := sDefsTold) l13 c13 k13
  have b13 := F13.binds (ps := ["_law_defs", "_law_words_here"]) fun _ _ _ _ _ _ us hl => match us, hl with | [_, _], _ => rfl
  have m13 := PySem.W.mg_of X G a13
  have F14 := fun_mk (st := sDefsDue) l14 c14 k14
  have b14 := F14.binds (ps := ["_law_told", "_law_counts_here", "_law_words_here"]) fun _ _ _ _ _ _ us hl => match us, hl with | [_, _, _], _ => rfl
  have m14 := PySem.W.mg_of X G a14
  have F15 := fun_mk (st := sAsked) l15 c15 k15
  have b15 := F15.binds (ps := ["_law_defs", "_law_rule_here"]) fun _ _ _ _ _ _ us hl => match us, hl with | [_, _], _ => rfl
  have m15 := PySem.W.mg_of X G a15
  have F16 := fun_mk (st := sMadeL) l16 c16 k16
  have b16 := F16.binds (ps := ["_law_rules_told"]) fun _ _ _ _ _ _ us hl => match us, hl with | [_], _ => rfl
  have m16 := PySem.W.mg_of X G a16
  have F17 := fun_mk (st := sBegun) l17 c17 k17
  have b17 := F17.binds (ps := ["_law_box_here", "_law_words_here"]) fun _ _ _ _ _ _ us hl => match us, hl with | [_, _], _ => rfl
  have m17 := PySem.W.mg_of X G a17
  have F18 := fun_mk (st := sUnlikeL) l18 c18 k18
  have b18 := F18.binds (ps := ["_law_words_here"]) fun _ _ _ _ _ _ us hl => match us, hl with | [_], _ => rfl
  have m18 := PySem.W.mg_of X G a18
  have F19 := fun_mk (st := sLaw) l19 c19 k19
  have y1 := PySem.W.mg_none_of X G z1
  have y2 := PySem.W.mg_none_of X G z2
  have y3 := PySem.W.mg_none_of X G z3
  have y4 := PySem.W.mg_none_of X G z4
  have y5 := PySem.W.mg_none_of X G z5
  have y6 := PySem.W.mg_none_of X G z6
  have y7 := PySem.W.mg_none_of X G z7
  have y8 := PySem.W.mg_none_of X G z8
  have y9 := PySem.W.mg_none_of X G z9
  have y10 := PySem.W.mg_none_of X G z10
  have y11 := PySem.W.mg_none_of X G z11
  have y12 := PySem.W.mg_none_of X G z12
  have y13 := PySem.W.mg_none_of X G z13
  have y14 := PySem.W.mg_none_of X G z14
  have y15 := PySem.W.mg_none_of X G z15
  refine ⟨PySem.W.fnOf "law" "law" (defArgs sLaw) (defBody sLaw) (defScope sLaw) .none kV19 dc19 pm19 an19 cd19 ct19, fun s v => .of_eq rfl, fun base _ _ => ?_⟩
  obtain ⟨e1, xE⟩ := Bool.and_eq_true_iff.mp xE
  obtain ⟨e2, xE⟩ := Bool.and_eq_true_iff.mp xE
  obtain ⟨e3, xE⟩ := Bool.and_eq_true_iff.mp xE
  obtain ⟨e4, e5⟩ := Bool.and_eq_true_iff.mp xE
  obtain ⟨kOex, kIni, kWh, kExc, kXf⟩ := klsB_ok xK
  have D : DfK K CD := ⟨⟨xpg, xhd, xpo, xsa⟩, xnT, xnM⟩
  have EK : ErrK K fXi CC := ⟨kOex, kIni, xty, kWh⟩
  have EG : ErrG K mg CE CC CB CN := ⟨(PySem.W.mg_of X G xnCE), (PySem.W.mg_of X G xnCC), (PySem.W.mg_of X G xnCB), (PySem.W.mg_of X G xnCN), of_decide_eq_true e1, of_decide_eq_true e2, of_decide_eq_true e3, of_decide_eq_true e4, of_decide_eq_true e5, kExc, kXf, kWh⟩
  have FXi := fun_mk (st := sErrI) xlXi xcXi xkXi
  have bXi := FXi.binds (ps := ["self", "what"]) fun _ _ _ _ _ _ us hl => match us, hl with | [_, _], _ => rfl
  have FTl := fun_mk (st := sTell) xlTl xcTl xkTl
  have bTl := FTl.binds (ps := ["self", "rule"]) fun _ _ _ _ _ _ us hl => match us, hl with | [_, _], _ => rfl
  have FTw := fun_mk (st := sTermsW) xlTw xcTw xkTw
  have bTw := FTw.binds (ps := ["self", "rule"]) fun _ _ _ _ _ _ us hl => match us, hl with | [_, _], _ => rfl
  have FRu := fun_mk (st := sRules) xlRu xcRu xkRu
  have bRu := FRu.binds (ps := ["self", "word"]) fun _ _ _ _ _ _ us hl => match us, hl with | [_, _], _ => rfl
  have FWo := fun_mk (st := sWordsM) xlWo xcWo xkWo
  have bWo := FWo.binds (ps := ["self"]) fun _ _ _ _ _ _ us hl => match us, hl with | [_], _ => rfl
  have FTe := fun_mk (st := sTermsM) xlTe xcTe xkTe
  have bTe := FTe.binds (ps := ["self", "word"]) fun _ _ _ _ _ _ us hl => match us, hl with | [_, _], _ => rfl
  have FAl := fun_mk (st := sAllR) xlAl xcAl xkAl
  have bAl := FAl.binds (ps := ["self"]) fun _ _ _ _ _ _ us hl => match us, hl with | [_], _ => rfl
  have hq0 : ∀ H' : Hp, SqT K H' q0 [] := fun H' => .inr ⟨_, _, _, xQ, rfl, rfl, (by show 0 ≤ sizeLine; decide), .nil⟩
  have FIn : FunD K "__init__" "Definitions.__init__" (defArgs sDInit) (defBody sDInit) (defScope sDInit) [.ref q0] [] fIn _ := ⟨⟨_, _, _, _, _, _, _, _, _, _, rfl, xlIn, xcIn, .inr ⟨by simp, TD, _, [.ref q0], _, rfl, xT, rfl, .cons rfl .nil⟩, .inl rfl⟩, xkIn⟩
  obtain ⟨ds1, v1, bI1⟩ := FIn.binds1 (ps := ["self", "rules"]) 1 0 (by simp) rfl fun _ _ _ _ _ _ _ us its hu hi => match us, its, hu, hi with | [_], [_], _, _ => ⟨_, rfl, rfl⟩
  obtain ⟨ds2, v2, bI2⟩ := FIn.binds1 (ps := ["self", "rules"]) 2 1 (by simp) rfl fun _ _ _ _ _ _ _ us its hu hi => match us, its, hu, hi with | [_, _], [_], _, _ => ⟨_, rfl, rfl⟩
  have d1 : ds1 = [.ref q0] := by
    cases v1 with
    | cons r1 r2 => cases r1; cases r2; rfl
  have d2 : ds2 = [] := by
    cases v2 with
    | nil => rfl
  subst d1 d2
  have Mx : Mk K CD fIn := ⟨xmk, xaIn, xiIn, xkc⟩
  have M : SameG mg := ⟨y1, y4, y5, y3, y6, y7, y8, y2, y9⟩
  have GXi := ok_xinit (P := l.prog) (w := w) (base := base) FXi y15 xvV
  have GTw := ok_termsw (P := l.prog) (w := w) (base := base) FTw D EK GXi bXi (PySem.W.mg_of X G xnCC) y12 y3
  have GRu := ok_rulesm (P := l.prog) (w := w) (base := base) (mg := mg) FRu D
  have GWo := ok_wordsm (P := l.prog) (w := w) (base := base) FWo D y13
  have GTe := ok_termsm (P := l.prog) (w := w) (base := base) (mg := mg) FTe D
  have GAl := ok_allr (P := l.prog) (w := w) (base := base) FAl D y4
  have GTl := ok_tell FTl D GTw ⟨xaTw, xiTw, xkTw⟩ bTw GRu ⟨xaRu, xiRu, xkRu⟩ bRu y3
  have GIn := ok_dinit FIn D GTl ⟨xaTl, xiTl, xkTl⟩ bTl
  have GK := ok_asked F15 D EG GTl ⟨xaTl, xiTl, xkTl⟩ bTl y1 y15
  have GM := ok_madel F16 EG Mx (PySem.W.mg_of X G xnCD) GIn bI2
  have GS := same_ok (P := l.prog) (w := w) (base := base) F5 b5 m5 M 61
  have GTk := ok_take (P := l.prog) (w := w) (mg := mg) (base := base) F2
  have GPk := ok_pick (P := l.prog) (w := w) (base := base) F3 F2 b2 m2 y3
  have GBx := ok_box (P := l.prog) (w := w) (base := base) F1 y3 y11 y2
  have GFo := ok_folded (P := l.prog) (w := w) (base := base) F4 y4 y14
  have GWd := ok_words (P := l.prog) (w := w) (base := base) F6 F2 b2 m2 y10 y3
  have GCt := ok_counts (P := l.prog) (w := w) (base := base) F7 F2 b2 m2 y12
  have GHd := ok_lhead (P := l.prog) (w := w) (base := base) F8 F2 b2 m2 y10 y5
  have GRl := ok_rule F9 F2 b2 m2 GPk k3 b3 m3 GHd k8 b8 m8 y13 y10 y5
  have GDu := ok_due (P := l.prog) (w := w) (base := base) F10 y12 y3
  have GTo := ok_toldon (P := l.prog) (w := w) (base := base) F11 y12 y3
  have GAn := ok_anyrule F12 F2 b2 m2 GCt k7 b7 m7 GRl k9 b9 m9 y5
  have GDt := ok_defstold F13 D GAl ⟨xaAl, xiAl, xkAl⟩ bAl GWo ⟨xaWo, xiWo, xkWo⟩ bWo GTe ⟨xaTe, xiTe, xkTe⟩ bTe GRu ⟨xaRu, xiRu, xkRu⟩ bRu
  have GDd := ok_defsdue (P := l.prog) (w := w) (base := base) F14 y4 y13
  have GBe := ok_begun F17 F2 b2 m2 GAn k12 b12 m12 GDu k10 b10 m10 GTo k11 b11 m11 GM k16 b16 m16 Mx (PySem.W.mg_of X G xnCD) GIn bI1 hq0 y10 y4 y5 y1
  have GUn := ok_unl (P := l.prog) (w := w) (base := base) F18 y14 y2 y3
  exact gn_of (ok_law F19 GFo k4 b4 m4 GBx k1 b1 m1 GTk k2 b2 m2 GPk k3 b3 m3 GWd k6 b6 m6 GUn k18 b18 m18 GBe k17 b17 m17 GAn k12 b12 m12 GDu k10 b10 m10 GTo k11 b11 m11 GK k15 b15 m15 GS k5 b5 m5 GDt k13 b13 m13 GDd k14 b14 m14 y10 y3 y4 y6)
theorem walk {l : PySem.W.OpenLaw} {q : Program} {loose : List Str} {XP : (Str → Option Value) → Heap → Prop} {YP : World → Heap → Prop} {d : DefRec} {K : Params → PySem.W.Frag} (hn : l.most = some 63) (hdf : d.params.defaults = [])
    (hY : ∀ (w : World) (h : Heap), YP w h → (K w.params).In h)
    (F : ∀ (w : World) (mg : Str → Option Value) (fa : Addr) (h : Heap), (K w.params).In h → h.Ns mainGlobals mg → mg d.name = some (.ref fa) →
      ∃ fd : FuncData, (∀ (s : Shared) (u : Value), BindsTo s fd ⟨[u], []⟩ [("_law_script", u)]) ∧ ∀ base : Heap, (K w.params).In base → base.Ns mainGlobals mg → GnOk l.prog w (K w.params) mg base 62 fa fd ["_law_script"] (spLaw (K w.params))) :
    PySem.W.WalkO q loose XP YP l.row.toRowW d [] (fun f vs => PySem.call f vs) :=
  walk_ofG (n := 63) (k := 62) (x := "_law_script") (sp := spLaw) hn (by decide) hdf ⟨rfl, by decide, by decide⟩ hY F (fun _ _ a ns hl _ hS => ⟨a, ns, rfl, hS, hl, fun _ => rfl⟩)
end Rp
open PySem PySem.W PyProof.Rows
set_option maxRecDepth 100000 in
set_option maxHeartbeats 0 in
theorem PySem.Challenge.cw_ringproofs_k13_rules_told_and_clashes_holds : PySem.Challenge.rw_ringproofs_k13_rules_told_and_clashes.Holds := by
  w_on; o_law; k_head; (case hw => w_witness2)
  k_fill
  refine Rp.walk (l := PySem.Challenge.rw_ringproofs_k13_rules_told_and_clashes) rfl rfl (fun w h Y => PySem.W.kIn_of Y) ?F
  case F =>
    intro w mg fa h KX G hmg
    refine' Rp.all_mk KX G hmg ?a1 ?l1 ?c1 ?k1 ?a2 ?l2 ?c2 ?k2 ?a3 ?l3 ?c3 ?k3 ?a4 ?l4 ?c4 ?k4 ?a5 ?l5 ?c5 ?k5 ?a6 ?l6 ?c6 ?k6 ?a7 ?l7 ?c7 ?k7 ?a8 ?l8 ?c8 ?k8 ?a9 ?l9 ?c9 ?k9 ?a10 ?l10 ?c10 ?k10 ?a11 ?l11 ?c11 ?k11 ?a12 ?l12 ?c12 ?k12 ?a13 ?l13 ?c13 ?k13 ?a14 ?l14 ?c14 ?k14 ?a15 ?l15 ?c15 ?k15 ?a16 ?l16 ?c16 ?k16 ?a17 ?l17 ?c17 ?k17 ?a18 ?l18 ?c18 ?k18 ?a19 ?l19 ?c19 ?k19 ?z1 ?z2 ?z3 ?z4 ?z5 ?z6 ?z7 ?z8 ?z9 ?z10 ?z11 ?z12 ?z13 ?z14 ?z15 ?xnCE ?xnCC ?xnCB ?xnCN ?xnCD ?xaXi ?xlXi ?xcXi ?xkXi ?xaTl ?xiTl ?xlTl ?xcTl ?xkTl ?xaTw ?xiTw ?xlTw ?xcTw ?xkTw ?xaRu ?xiRu ?xlRu ?xcRu ?xkRu ?xaWo ?xiWo ?xlWo ?xcWo ?xkWo ?xaTe ?xiTe ?xlTe ?xcTe ?xkTe ?xaAl ?xiAl ?xlAl ?xcAl ?xkAl ?xaIn ?xiIn ?xlIn ?xcIn ?xkIn ?xT ?xQ ?xty ?xvV ?xpg ?xhd ?xpo ?xsa ?xmk ?xkc ?xnT ?xnM ?xK ?xE
    (case a1 => k_is); (case l1 => k_is); (case c1 => k_is); (case k1 => k_is)
    (case a2 => k_is); (case l2 => k_is); (case c2 => k_is); (case k2 => k_is)
    (case a3 => k_is); (case l3 => k_is); (case c3 => k_is); (case k3 => k_is)
    (case a4 => k_is); (case l4 => k_is); (case c4 => k_is); (case k4 => k_is)
    (case a5 => k_is); (case l5 => k_is); (case c5 => k_is); (case k5 => k_is)
    (case a6 => k_is); (case l6 => k_is); (case c6 => k_is); (case k6 => k_is)
    (case a7 => k_is); (case l7 => k_is); (case c7 => k_is); (case k7 => k_is)
    (case a8 => k_is); (case l8 => k_is); (case c8 => k_is); (case k8 => k_is)
    (case a9 => k_is); (case l9 => k_is); (case c9 => k_is); (case k9 => k_is)
    (case a10 => k_is); (case l10 => k_is); (case c10 => k_is); (case k10 => k_is)
    (case a11 => k_is); (case l11 => k_is); (case c11 => k_is); (case k11 => k_is)
    (case a12 => k_is); (case l12 => k_is); (case c12 => k_is); (case k12 => k_is)
    (case a13 => k_is); (case l13 => k_is); (case c13 => k_is); (case k13 => k_is)
    (case a14 => k_is); (case l14 => k_is); (case c14 => k_is); (case k14 => k_is)
    (case a15 => k_is); (case l15 => k_is); (case c15 => k_is); (case k15 => k_is)
    (case a16 => k_is); (case l16 => k_is); (case c16 => k_is); (case k16 => k_is)
    (case a17 => k_is); (case l17 => k_is); (case c17 => k_is); (case k17 => k_is)
    (case a18 => k_is); (case l18 => k_is); (case c18 => k_is); (case k18 => k_is)
    (case a19 => k_is); (case l19 => k_is); (case c19 => k_is); (case k19 => k_is)
    (case z1 => k_is); (case z2 => k_is); (case z3 => k_is); (case z4 => k_is)
    (case z5 => k_is); (case z6 => k_is); (case z7 => k_is); (case z8 => k_is)
    (case z9 => k_is); (case z10 => k_is); (case z11 => k_is); (case z12 => k_is)
    (case z13 => k_is); (case z14 => k_is); (case z15 => k_is); (case xnCE => k_is)
    (case xnCC => k_is); (case xnCB => k_is); (case xnCN => k_is); (case xnCD => k_is)
    (case xaXi => k_is); (case xlXi => k_is); (case xcXi => k_is); (case xkXi => k_is)
    (case xaTl => k_is); (case xiTl => k_is); (case xlTl => k_is); (case xcTl => k_is)
    (case xkTl => k_is); (case xaTw => k_is); (case xiTw => k_is); (case xlTw => k_is)
    (case xcTw => k_is); (case xkTw => k_is); (case xaRu => k_is); (case xiRu => k_is)
    (case xlRu => k_is); (case xcRu => k_is); (case xkRu => k_is); (case xaWo => k_is)
    (case xiWo => k_is); (case xlWo => k_is); (case xcWo => k_is); (case xkWo => k_is)
    (case xaTe => k_is); (case xiTe => k_is); (case xlTe => k_is); (case xcTe => k_is)
    (case xkTe => k_is); (case xaAl => k_is); (case xiAl => k_is); (case xlAl => k_is)
    (case xcAl => k_is); (case xkAl => k_is); (case xaIn => k_is); (case xiIn => k_is)
    (case xlIn => k_is); (case xcIn => k_is); (case xkIn => k_is); (case xT => k_is)
    (case xQ => k_is); (case xty => k_is); (case xvV => k_is); (case xpg => k_is)
    (case xhd => k_is); (case xpo => k_is); (case xsa => k_is); (case xmk => k_is)
    (case xkc => k_is); (case xnT => k_is); (case xnM => k_is); (case xK => kernel_rfl)
    (case xE => kernel_rfl)

